/- Contracts of the document's own answers of layer 1: Number, Add, Sub, Div. -/
import Derived.Test.YtoengahfkfmfeaaRefA
import Derived.Deep.QuietTactic
import Derived.BigQuiet
import Derived.WalkSmall
set_option linter.unusedVariables false
set_option linter.unusedSimpArgs false
namespace Go.Proofs.Ytoengahfkfmfeaa
open Go.ChangeShapes Go.WideShapes Go.ChangeAt Go.RowKit

def numR (l : List Int) : Int × Int := if val l ≤ 18446744073709551615 then (val l, 0) else (0, 5)

theorem val_split (l : List Int) (n : Nat) : val l = val (l.take n) + 2 ^ (min n l.length) * val (l.drop n) := by
  have h := val_append (l.take n) (l.drop n)
  rw [List.take_append_drop, List.length_take] at h
  exact h
theorem val_zero {l : List Int} (h : ∀ j : Nat, l[j]?.getD 0 = 0) : val l = 0 := by
  induction l with
  | nil => rfl
  | cons x l ih =>
    have h0 := h 0
    have h1 := ih (fun j => by have := h (j + 1); simpa using this)
    simp at h0
    simp [val, h0, h1]
theorem val_high {l : List Int} (hb : allBits l) {j : Nat} (hj : 64 ≤ j) (h : l[j]?.getD 0 = 1) : 18446744073709551615 < val l := by
  have hl : j < l.length := by
    by_cases hh : j < l.length
    · exact hh
    · rw [List.getElem?_eq_none (by omega)] at h; simp at h
  have e := val_split l j
  have d := val_drop l j
  have n1 := (hb.take j).val_nonneg
  have n2 := (hb.drop (j + 1)).val_nonneg
  rw [show min j l.length = j from by omega] at e
  have p : (2 : Int) ^ 64 ≤ 2 ^ j := by
    have : (2 : Nat) ^ 64 ≤ 2 ^ j := Nat.pow_le_pow_right (by omega) hj
    exact_mod_cast this
  have m : (2 : Int) ^ j * 1 ≤ 2 ^ j * val (l.drop j) := Int.mul_le_mul_of_nonneg_left (by omega) (by omega)
  omega
theorem val_low {l : List Int} (hb : allBits l) (h : ∀ j : Nat, 64 ≤ j → l[j]?.getD 0 = 0) : val l = val (l.take 64) ∧ val l ≤ 18446744073709551615 := by
  have e := val_split l 64
  have z : val (l.drop 64) = 0 := val_zero (fun j => by rw [List.getElem?_drop]; exact h (64 + j) (by omega))
  have u := (hb.take 64).val_lt
  have p : (2 : Int) ^ (l.take 64).length ≤ 2 ^ 64 := by
    have : (2 : Nat) ^ (l.take 64).length ≤ 2 ^ 64 := Nat.pow_le_pow_right (by omega) (by rw [List.length_take]; omega)
    exact_mod_cast this
  rw [z] at e
  omega
theorem val_half {l : List Int} (hb : allBits l) {k : Nat} (hk : k ≤ 63) : 0 ≤ val ((l.take 64).drop (k + 1)) ∧ val ((l.take 64).drop (k + 1)) ≤ 9223372036854775807 := by
  have hq := (hb.take 64).drop (k + 1)
  have u := hq.val_lt
  have p : (2 : Int) ^ ((l.take 64).drop (k + 1)).length ≤ 2 ^ 63 := by
    have : (2 : Nat) ^ ((l.take 64).drop (k + 1)).length ≤ 2 ^ 63 := Nat.pow_le_pow_right (by omega) (by rw [List.length_drop, List.length_take]; omega)
    exact_mod_cast this
  have := hq.val_nonneg
  omega

def restV (l : List Int) (k : Nat) : Int := val ((l.take 64).drop k)
theorem restV_low (l : List Int) (k : Nat) (hk : k ≤ 63) : restV l k = restV l (k + 1) + restV l (k + 1) + el l k := by
  unfold restV
  rw [val_drop, List.getElem?_take, if_pos (by omega)]
  unfold el
  omega
theorem restV_high (l : List Int) (k : Nat) (hk : 64 ≤ k) : restV l k = restV l (k + 1) := by
  unfold restV
  rw [List.drop_eq_nil_of_le (by rw [List.length_take]; omega), List.drop_eq_nil_of_le (by rw [List.length_take]; omega)]

set_option maxRecDepth 100000 in
theorem refNumber_any (B g c : Nat) (l : List Int) (w : World) (h : Row 3 .i64 B w g c l) (hb : allBits l) (hn : l.length ≤ 1000) :
    Calls Try.prog 63 #[.slice (some ⟨g, 0, none⟩) l.length c] w fun e w' => e = pairOf (numR l) ∧ w = w' := by
  go_enter Try.func63, Try.ntmps63
  go_wp2_with fail
  go_loop [4, 5] (fun n i => ∃ k : Int, -1 ≤ k ∧ k < l.length ∧ i = .int .i64 k ∧ n = .int .u64 (restV l (k + 1).toNat) ∧ ∀ j : Nat, k < j → 64 ≤ j → l[j]?.getD 0 = 0) (fun _ i => (intOf i + 1).toNat)
  case atStart =>
    refine ⟨_, ?_, ?_, rfl, ?_, ?_⟩
    · omega
    · omega
    · unfold restV; rw [List.drop_eq_nil_of_le (by rw [List.length_take]; omega)]; rfl
    · intro j h1 h2; rw [List.getElem?_eq_none (by omega)]; rfl
  case round =>
    obtain ⟨k, hk1, hk2, rfl, rfl, hz⟩ := hrel
    by_cases h0 : 0 ≤ k
    · obtain ⟨k, rfl⟩ := Int.eq_ofNat_of_zero_le h0
      have HZ := Lib.hid hz
      clear hz
      rw [show ((k : Int) + 1).toNat = k + 1 from by omega]
      have hc := h.cell (j := k) (by omega)
      have b := hb k
      rw [el_of] at b
      have l1 : 0 ≤ el l k ∧ el l k ≤ 1 := by omega
      by_cases h63 : 63 < (k : Int)
      · rcases b with b | b
        · have b' : el l k ≤ 0 := by omega
          have B := Lib.hid b
          clear b
          go_wp2
          go_round
          case rel => exact ⟨k - 1, by omega, by omega, rfl, by rw [show ((k : Int) - 1 + 1).toNat = k from by omega, restV_high l k (by omega)], fun j j1 j2 => by
            by_cases e : j = k
            · subst e; exact B.out
            · exact HZ.out j (by omega) j2⟩
          case measure => simp [intOf]
        · have b' : 1 ≤ el l k := by omega
          have B := Lib.hid b
          clear b
          go_wp2
          go_ret2
          exact ⟨ret_pairI (by unfold numR; rw [if_neg (by have := val_high hb (j := k) (by omega) B.out; omega)]), rfl⟩
      · obtain ⟨v1, v2⟩ := val_half hb (k := k) (by omega)
        have e1 : 0 ≤ restV l (k + 1) := v1
        have e2 : restV l (k + 1) ≤ 9223372036854775807 := v2
        have hs := Lib.hid (restV_low l k (by omega))
        clear v1 v2 b
        go_wp2
        go_round
        case rel => exact ⟨k - 1, by omega, by omega, rfl, by rw [show ((k : Int) - 1 + 1).toNat = k from by omega, hs.out], fun j j1 j2 => HZ.out j (by omega) j2⟩
        case measure => simp [intOf]
    · obtain rfl : k = -1 := by omega
      go_wp2
      go_ret2
      obtain ⟨z1, z2⟩ := val_low hb (fun j j2 => hz j (by omega) j2)
      exact ⟨ret_pairI (by unfold numR; rw [if_pos z2, z1]; rfl), rfl⟩

theorem bitsRow {w w' : World} {a : Int} {B g : Nat} (h : Row 3 .i64 B w g 64 (bitsL a)) (hb : Below B w w') (hg : g < B) : Row 3 .i64 B w' g 64 (bitsL a) := h.below hb hg

set_option maxRecDepth 100000 in
theorem refAdd_any (a b : Int) (ha : W64 a) (hb : W64 b) (w : World) :
    Calls Try.prog 46 #[.int .u64 a, .int .u64 b] w fun e w' => e = pairOf (addR a b) ∧ Below w.heap.size w w' := by
  have la := bitsL_length a
  have lb := bitsL_length b
  have va := val_bitsL a ha
  have vb := val_bitsL b hb
  have LA := Lib.hid la
  have LB := Lib.hid lb
  have VA := Lib.hid va
  have VB := Lib.hid vb
  clear la lb va vb
  go_enter Try.func46, Try.ntmps46
  go_wp2_with fail
  refine (refBits_any a ha _).mono ?_; rintro e w1 ⟨rfl, r1, b1⟩
  go_wp2_with fail
  refine (refBits_any b hb _).mono ?_; rintro e w2 ⟨rfl, r2, b2⟩
  go_wp2_with fail
  have r1' := r1.below b2 r1.lt.2
  have c := refPlus_any _ _ _ _ _ _ (bitsL a) (bitsL b) w2 r1' r2 (bitsL_bits a) (bitsL_bits b) (by rw [LA.out]; omega) (by rw [LB.out]; omega)
  rw [LA.out, LB.out] at c
  refine c.mono ?_
  rintro e w3 ⟨o, rfl, ho, bo, vo, r3, b3⟩
  have HO := Lib.hid ho
  have VO := Lib.hid vo
  clear ho vo
  go_wp2_with fail
  refine (refNumber_any _ _ _ o w3 r3 bo (by have := HO.out; omega)).mono ?_; rintro e w4 ⟨rfl, rfl⟩
  go_wp2_with fail
  go_ret2
  have vo := VO.out
  refine ⟨ret_same (by unfold numR addR; rw [vo, VA.out, VB.out]), (b1.trans (b2.mono b1.size)).trans (b3.mono (Nat.le_trans b1.size b2.size))⟩

set_option maxRecDepth 100000 in
theorem refSub_any (a b : Int) (ha : W64 a) (hb : W64 b) (w : World) :
    Calls Try.prog 47 #[.int .u64 a, .int .u64 b] w fun e w' => e = pairOf (subR a b) ∧ w = w' := by
  obtain ⟨a1, a2⟩ := ha; obtain ⟨b1, b2⟩ := hb
  by_cases h : a < b
  · go_enter Try.func47, Try.ntmps47
    go_wp2
    go_ret2
    exact ⟨ret_pairI (by unfold subR; rw [if_neg (by omega)]), rfl⟩
  · go_enter Try.func47, Try.ntmps47
    go_wp2
    go_ret2
    exact ⟨ret_pairI (by unfold subR; rw [if_pos (by omega)]), rfl⟩

set_option maxRecDepth 100000 in
theorem refDiv_any (a b : Int) (ha : W64 a) (hb : W64 b) (w : World) :
    Calls Try.prog 49 #[.int .u64 a, .int .u64 b] w fun e w' => e = .returned (.tuple #[.int .u64 (divR a b).1, .int .u64 (modR a b).1, .int .i64 (divR a b).2]) ∧ Below w.heap.size w w' := by
  obtain ⟨a1, a2⟩ := id ha; obtain ⟨b1, b2⟩ := id hb
  by_cases h : b = 0
  · subst h
    go_enter Try.func49, Try.ntmps49
    go_wp2
    go_ret3
    exact ⟨rfl, Below.refl _ _⟩
  · have h0 : (b == 0) = false := by rw [beq_eq_false_iff_ne]; exact h
    obtain ⟨q1, q2⟩ := div_le ha b1
    obtain ⟨r1, r2, r3⟩ := mod_le ha b1 h
    have e1 := Int.mul_ediv_add_emod a b
    rw [Int.mul_comm] at e1
    have p1 : 0 ≤ a / b * b := Int.mul_nonneg q1 b1
    have p2 : a / b * b ≤ a := by omega
    have E := Lib.hid e1
    have hb1 : 1 ≤ b := by omega
    clear e1
    go_enter Try.func49, Try.ntmps49
    go_wp2
    go_quiet (fail)
    go_wp2
    go_ret3
    have d1 : divR a b = (a / b, 0) := by unfold divR; rw [if_neg h]
    have d2 : modR a b = (a % b, 0) := by unfold modR; rw [if_neg h]
    have d3 : a - a / b * b = a % b := by have := E.out; omega
    exact ⟨by rw [d1, d2]; show _ = Ending.returned (.tuple #[.int .u64 (a / b), .int .u64 (a % b), .int .i64 0]); rw [← d3]; rfl, below_drewN (Below.refl _ _) _⟩

end Go.Proofs.Ytoengahfkfmfeaa
