/- Contracts of layer 4: the Adler-32, by package sums and by the document, and Join. -/
import Derived.Test.YtjcpepjhnnpbpaaRows
import Derived.Test.YtjcpepjhnnpbpaaSumsP
import Derived.Test.YtjcpepjhnnpbpaaSlice
import Derived.WalkKit
import Derived.ProofKit
import Derived.OpenShut
import Derived.WalkLawsBesides
import Derived.WalkSpells
import Derived.Laws.BitsAllLaws
import Derived.Lib.Hide
import Derived.Outline
namespace Go.Proofs.Ytjcpepjhnnpbpaa
open Go.ChangeShapes Go.WideShapes Go.ChangeAt Go.RowKit
set_option linter.unusedVariables false

/-- 'returned the 32-bit number n'. -/
abbrev u32Of (n : Nat) : Ending := .returned (.int .u32 (n : Int))
theorem u32Of_mk {n : Nat} {x : Int} (h : x = n) : Ending.returned (.int .u32 x) = u32Of n := by subst h; rfl

theorem byte_some (s : ByteArray) {k : Nat} (h : k < s.size) : s.data.toList[k]? = some s[k] := by
  simp [h]
  rfl

theorem shl16_or (b a : Nat) (ha : a < 65536) (hb : b < 65536) : (b * 65536) ||| a = b * 65536 + a := by
  rw [show b * 65536 = b * 2 ^ 16 from rfl, Nat.mul_comm, Nat.two_pow_add_eq_or_of_lt (by omega)]

theorem Adler32_any (s : ByteArray) (hs : s.size ≤ maxLen) (w : World) :
    Calls Try.prog 13 #[.string s] w fun e w' => e = u32Of (adV s.data.toList) ∧ w = w' := by
  unfold maxLen at hs
  go_enter Try.func13, Try.ntmps13
  go_wp2
  go_loop [3, 4, 8] (fun a b i => ∃ (k x y : Nat), k ≤ s.size ∧ i = .int .i64 k ∧ a = .int .u32 x ∧ b = .int .u32 y ∧ x < 65521 ∧ y < 65521 ∧ Hid (ad (s.data.toList.take k) = (x, y))) (fun _ _ i => s.size - (intOf i).toNat)
  case atStart => exact ⟨0, 1, 0, by omega, rfl, rfl, rfl, by omega, by omega, Lib.hid rfl⟩
  case round =>
    obtain ⟨k, x, y, hk, rfl, rfl, rfl, hx, hy, H⟩ := hrel
    by_cases hlt : k < s.size
    · have HB := Lib.hid (ad_take_succ s.data.toList k s[k] (byte_some s hlt))
      have hb := (s[k]).toNat_lt
      go_wp2
      go_round
      case rel =>
        refine ⟨k + 1, (x + s[k].toNat) % 65521, (y + (x + s[k].toNat) % 65521) % 65521, by omega, by go_num, by go_num, by go_num, by omega, by omega, Lib.hid ?_⟩
        rw [HB.out, H.out]
        rfl
      case measure => simp [intOf]; omega
    · obtain rfl : k = s.size := by omega
      have e : bits .or .u32 ((y : Int) * 65536) x = ((adV s.data.toList : Nat) : Int) := by
        rw [show (y : Int) * 65536 = ((y * 65536 : Nat) : Int) from by simp, u32_or_nat _ _ (by omega) (by omega), shl16_or y x (by omega) (by omega), adV]
        have := H.out
        rw [List.take_of_length_le (by simp)] at this
        rw [this]
      have E := Lib.hid e
      clear e
      go_wp2
      go_ret
      exact ⟨u32Of_mk E.out, rfl⟩

theorem refAdler32_any (s : ByteArray) (hs : s.size ≤ maxLen) (w : World) :
    Calls Try.prog 14 #[.string s] w fun e w' => e = u32Of (adV s.data.toList) ∧ w = w' := by
  unfold maxLen at hs
  go_enter Try.func14, Try.ntmps14
  go_wp2
  go_loop [3, 4, 5] (fun a b i => ∃ (k x y : Nat), k ≤ s.size ∧ i = .int .i64 k ∧ a = .int .i64 x ∧ b = .int .i64 y ∧ x < 65521 ∧ y < 65521 ∧ Hid (ad (s.data.toList.take k) = (x, y))) (fun _ _ i => s.size - (intOf i).toNat)
  case atStart => exact ⟨0, 1, 0, by omega, rfl, rfl, rfl, by omega, by omega, Lib.hid rfl⟩
  case round =>
    obtain ⟨k, x, y, hk, rfl, rfl, rfl, hx, hy, H⟩ := hrel
    by_cases hlt : k < s.size
    · have HB := Lib.hid (ad_take_succ s.data.toList k s[k] (byte_some s hlt))
      have hb := (s[k]).toNat_lt
      go_wp2
      go_round
      case rel =>
        refine ⟨k + 1, (x + s[k].toNat) % 65521, (y + (x + s[k].toNat) % 65521) % 65521, by omega, by go_num, by go_num, by go_num, by omega, by omega, Lib.hid ?_⟩
        rw [HB.out, H.out]
        rfl
      case measure => simp [intOf]; omega
    · obtain rfl : k = s.size := by omega
      have e : (y : Int) * 65536 + x = ((adV s.data.toList : Nat) : Int) := by
        have := H.out
        rw [List.take_of_length_le (by simp)] at this
        rw [adV, this]
        simp
      have E := Lib.hid e
      clear e
      go_wp2
      go_ret
      exact ⟨u32Of_mk E.out, rfl⟩

/-- The document's Join. -/
def joinV (a b : Nat) (n : Int) : Nat :=
  if n < 0 ∨ 65521 ≤ a % 65536 ∨ 65521 ≤ a / 65536 ∨ 65521 ≤ b % 65536 ∨ 65521 ≤ b / 65536 then 0
  else joinHigh (a % 65536) (a / 65536) (b / 65536) n.toNat * 65536 + joinLow (a % 65536) (b % 65536)

theorem and16 (a : Nat) (ha : a < 4294967296) : bits .and .u32 (a : Int) 65535 = ((a % 65536 : Nat) : Int) := by
  have := u32_and_nat a 65535 ha (by decide)
  rw [Nat.and_two_pow_sub_one_eq_mod a 16] at this
  exact this

theorem Join_neg (a b : Nat) (n : Int) (ha : a < 4294967296) (hb : b < 4294967296) (hn : n < 0) (w : World) :
    Calls Try.prog 15 #[.int .u32 a, .int .u32 b, .int .i64 n] w fun e w' => e = u32Of (joinV a b n) ∧ w = w' := by
  have HA := Lib.hid (and16 a ha)
  have HB := Lib.hid (and16 b hb)
  go_enter Try.func15, Try.ntmps15
  go_wp2_with (first | (simp only [HA.out]) | (simp only [HB.out]))
  go_ret
  exact ⟨u32Of_mk (by simp [joinV, hn]), rfl⟩

theorem max4 (P : Program) (k : IntKind) (p q r s : Int) : ∃ m : Int, (∀ (ts : Array TypeId) (t : TypeId) (w : World), (Builtin.max_ ts t #[.int k p, .int k q, .int k r, .int k s]).run P w = .ok (.int k m) w) ∧ ∀ x : Int, x ≤ m ↔ x ≤ p ∨ x ≤ q ∨ x ≤ r ∨ x ≤ s := by
  refine ⟨_, fun ts t w => by simp [Builtin.max_, Builtin.max2]; rfl, fun x => ?_⟩
  split <;> split <;> split <;> omega

theorem joinA1 (x y y' n p q r : Nat) (hq : q = (x + 65520) % 65521) (hr : r = n % 65521) (h : p = (y + y' + r * q) % 65521 * 65536) : p = joinHigh x y y' n * 65536 := by
  rw [joinHigh, ← hq, ← hr]
  exact h
theorem joinA2 (x q : Nat) (hq : q = (x + 65520) % 65521) : ((x : Int) + 65521 - 1) % 65521 = (q : Nat) := by omega
theorem joinA3 (n r : Nat) (hr : r = n % 65521) : (n : Int) % 65521 = (r : Nat) := by omega
theorem joinA4 (y y' p : Nat) (y1 : y < 65521) (y2 : y' < 65521) (hp : p ≤ 4292870400) : ((((y : Int) + (y' : Int) + (p : Int)) % 4294967296).tmod 65521 * 65536 % 4294967296) = (((y + y' + p) % 65521 * 65536 : Nat) : Int) := by
  rw [Int.tmod_eq_emod_of_nonneg (by omega)]
  omega
theorem joinA5 (y y' n x q r : Nat) (h2 : ((x : Int) + 65521 - 1) % 65521 = (q : Nat)) (h3 : (n : Int) % 65521 = (r : Nat)) (Z : Int) (h : ((((y : Int) + (y' : Int) + ((r * q : Nat) : Int)) % 4294967296).tmod 65521 * 65536 % 4294967296) = Z) :
    ((((y : Int) + (y' : Int) + (n : Int) % 65521 * (((x : Int) + 65521 - 1) % 65521)) % 4294967296).tmod 65521 * 65536 % 4294967296) = Z := by
  rw [h2, h3, ← Int.natCast_mul]
  exact h
theorem joinA6 (r q : Nat) (r1 : r < 65521) (q1 : q < 65521) : r * q ≤ 4292870400 := by
  have := Nat.mul_le_mul (show r ≤ 65520 by omega) (show q ≤ 65520 by omega)
  omega
theorem join_a (x y y' n : Nat) (y1 : y < 65521) (y2 : y' < 65521) (q r : Nat) (hq : q = (x + 65520) % 65521) (hr : r = n % 65521) :
    ((((y : Int) + (y' : Int) + (n : Int) % 65521 * (((x : Int) + 65521 - 1) % 65521)) % 4294967296).tmod 65521 * 65536 % 4294967296)
      = ((joinHigh x y y' n * 65536 : Nat) : Int) :=
  joinA5 y y' n x q r (joinA2 x q hq) (joinA3 n r hr) _ ((joinA4 y y' _ y1 y2 (joinA6 r q (by omega) (by omega))).trans (congrArg Int.ofNat (joinA1 x y y' n _ q r hq hr rfl)))
theorem join_b (x x' : Nat) (x2 : x' < 65521) : ((((x' : Int) + ((x : Int) + 65521 - 1) % 65521) % 4294967296).tmod 65521) = ((joinLow x x' : Nat) : Int) := by
  rw [joinLow, Int.tmod_eq_emod_of_nonneg (by omega)]
  omega
theorem join_lt (x y x' y' n : Nat) : joinHigh x y y' n < 65521 ∧ joinLow x x' < 65521 := ⟨Nat.mod_lt _ (by decide), Nat.mod_lt _ (by decide)⟩
theorem join_nums (x y x' y' n : Nat) (y1 : y < 65521) (x2 : x' < 65521) (y2 : y' < 65521) :
    bits .or .u32 ((((y : Int) + (y' : Int) + (n : Int) % 65521 * (((x : Int) + 65521 - 1) % 65521)) % 4294967296).tmod 65521 * 65536 % 4294967296)
      ((((x' : Int) + ((x : Int) + 65521 - 1) % 65521) % 4294967296).tmod 65521) = ((joinHigh x y y' n * 65536 + joinLow x x' : Nat) : Int) := by
  have h := join_lt x y x' y' n
  rw [join_a x y y' n y1 y2 _ _ rfl rfl, join_b x x' x2, u32_or_nat _ _ (by omega) (by omega), shl16_or _ _ (by omega) (by omega)]

theorem Join_any (a b : Nat) (n : Nat) (ha : a < 4294967296) (hb : b < 4294967296) (hn : n < 9223372036854775808) (w : World) :
    Calls Try.prog 15 #[.int .u32 a, .int .u32 b, .int .i64 n] w fun e w' => e = u32Of (joinV a b n) ∧ w = w' := by
  have HA := Lib.hid (and16 a ha)
  have HB := Lib.hid (and16 b hb)
  obtain ⟨m, hm, hx⟩ := max4 Try.prog .u32 ((a : Int) % 65536) ((a : Int) / 65536) ((b : Int) % 65536) ((b : Int) / 65536)
  have HM := Lib.hid hm
  have HX := Lib.hid (hx 65521)
  clear hm hx
  have hn0 : ¬ (n : Int) < 0 := by omega
  by_cases hbig : 65521 ≤ m
  · have hd : decide (65521 ≤ m) = true := by simpa using hbig
    go_enter Try.func15, Try.ntmps15
    go_wp2_with (first | (simp only [HA.out]) | (simp only [HB.out]) | (simp only [HM.out]))
    go_ret
    refine ⟨u32Of_mk ?_, rfl⟩
    have h := HX.out.1 hbig
    rw [joinV, if_pos (by omega)]
    rfl
  · have h : ¬ (65521 ≤ a % 65536 ∨ 65521 ≤ a / 65536 ∨ 65521 ≤ b % 65536 ∨ 65521 ≤ b / 65536) := fun h => hbig (HX.out.2 (by omega))
    obtain ⟨x, hx, x1⟩ : ∃ x, x = a % 65536 ∧ x < 65521 := ⟨_, rfl, by omega⟩
    obtain ⟨y, hy, y1⟩ : ∃ y, y = a / 65536 ∧ y < 65521 := ⟨_, rfl, by omega⟩
    obtain ⟨x', hx', x2⟩ : ∃ x, x = b % 65536 ∧ x < 65521 := ⟨_, rfl, by omega⟩
    obtain ⟨y', hy', y2⟩ : ∃ y, y = b / 65536 ∧ y < 65521 := ⟨_, rfl, by omega⟩
    have HJ := Lib.hid (show joinV a b n = joinHigh x y y' n * 65536 + joinLow x x' from by rw [joinV, if_neg (by omega), ← hx, ← hy, ← hx', ← hy', Int.toNat_natCast])
    have HE := Lib.hid (And.intro (And.intro hx hy) (And.intro hx' hy'))
    clear h hx hy hx' hy'
    go_enter Try.func15, Try.ntmps15
    go_wp2_with (first | (simp only [HA.out]) | (simp only [HB.out]) | (simp only [HM.out]))
    go_ret
    refine ⟨u32Of_mk ?_, rfl⟩
    obtain ⟨⟨hx, hy⟩, hx', hy'⟩ := HE.out
    rw [HJ.out, show (a : Int) % 65536 = x from by omega, show (a : Int) / 65536 = y from by omega, show (b : Int) % 65536 = x' from by omega, show (b : Int) / 65536 = y' from by omega]
    exact join_nums x y x' y' n y1 x2 y2

end Go.Proofs.Ytjcpepjhnnpbpaa
