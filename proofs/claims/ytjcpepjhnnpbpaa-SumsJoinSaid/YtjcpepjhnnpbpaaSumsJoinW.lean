/- Layer 4's law SumsJoin. -/
import Derived.Test.YtjcpepjhnnpbpaaSumsE
namespace Go.Proofs.Ytjcpepjhnnpbpaa
open Go.ChangeShapes Go.WideShapes Go.ChangeAt Go.RowKit
set_option linter.unusedVariables false

theorem adV_halves (l : List UInt8) : adV l % 65536 = (ad l).1 ∧ adV l / 65536 = (ad l).2 ∧ adV l < 4294967296 := by
  have h := ad_lt l
  unfold adV
  omega
theorem joinV_neg (a b : Nat) {n : Int} (h : n < 0) : joinV a b n = 0 := by unfold joinV; rw [if_pos (.inl h)]
theorem joinV_low (b n : Nat) : joinV 65521 b n = 0 := by unfold joinV; rw [if_pos (.inr (.inl (by decide)))]
theorem joinV_high (a n : Nat) : joinV a 4293984256 n = 0 := by unfold joinV; rw [if_pos (.inr (.inr (.inr (.inr (by decide)))))]
theorem joinV_ad (l m : List UInt8) : joinV (adV l) (adV m) m.length = adV (l ++ m) := by
  obtain ⟨l1, l2, _⟩ := adV_halves l
  obtain ⟨m1, m2, _⟩ := adV_halves m
  have hl := ad_lt l
  have hm := ad_lt m
  rw [joinV, l1, l2, m1, m2, if_neg (by omega), Int.toNat_natCast, adV, ad_append]

theorem SumsJoin_walk (a0 : ByteArray) (a1 : ByteArray) (a2 : Int) (w0 : a0.size ≤ maxLen) (w1 : a1.size ≤ maxLen) (w2 : (Lit.int .i64 a2).wf = true) (z0 : a0.size ≤ reachBytes) (z1 : a1.size ≤ reachBytes) (w : World) :
    Calls Try.prog 5 #[.string a0, .string a1, .int .i64 a2] w fun e w' => e = .returned (.bool true) ∧ Below w.heap.size w w' := by
  unfold reachBytes at z0 z1
  have hA := fun w => Adler32_any a0 w0 w
  have hB := fun w => Adler32_any a1 w1 w
  have hC := fun w => Adler32_any (a0 ++ a1) (by rw [ByteArray.size_append]; unfold maxLen; omega) w
  have hj := joinV_ad a0.data.toList a1.data.toList
  rw [show a1.data.toList.length = a1.size from by simp] at hj
  rw [show (a0 ++ a1).data.toList = a0.data.toList ++ a1.data.toList from by simp] at hC
  have bA := (adV_halves a0.data.toList).2.2
  have bB := (adV_halves a1.data.toList).2.2
  generalize adV a0.data.toList = x at *
  generalize adV a1.data.toList = y at *
  generalize adV (a0.data.toList ++ a1.data.toList) = z at *
  have hb1 : a1.size < 9223372036854775808 := by omega
  have h0 : ∀ n : Int, n < 0 → ∀ w, Calls Try.prog 15 #[.int .u32 x, .int .u32 y, .int .i64 n] w fun e w' => e = u32Of 0 ∧ w = w' := fun n hn w => by
    have := Join_neg x y n bA bB hn w
    rwa [joinV_neg x y hn] at this
  have h1 : ∀ w, Calls Try.prog 15 #[.int .u32 65521, .int .u32 y, .int .i64 a1.size] w fun e w' => e = u32Of 0 ∧ w = w' := fun w => by
    have := Join_any 65521 y a1.size (by omega) bB hb1 w
    rwa [joinV_low] at this
  have h2 : ∀ w, Calls Try.prog 15 #[.int .u32 x, .int .u32 4293984256, .int .i64 a1.size] w fun e w' => e = u32Of 0 ∧ w = w' := fun w => by
    have := Join_any x 4293984256 a1.size bA (by omega) hb1 w
    rwa [joinV_high] at this
  have h3 : ∀ w, Calls Try.prog 15 #[.int .u32 x, .int .u32 y, .int .i64 a1.size] w fun e w' => e = u32Of z ∧ w = w' := fun w => by
    have := Join_any x y a1.size bA bB hb1 w
    rwa [hj] at this
  have HA := Lib.hid hA; have HB := Lib.hid hB; have HC := Lib.hid hC; have H1 := Lib.hid h1; have H2 := Lib.hid h2; have H3 := Lib.hid h3
  have hmin : ∃ n : Int, (if (-1 : Int) < a2 then (-1 : Int) else a2) = n ∧ n < 0 := ⟨_, rfl, by split <;> omega⟩
  obtain ⟨n, en, hn⟩ := hmin
  have H0 := Lib.hid (h0 n hn)
  have hcat : ¬ 9223372036854775807 < a0.size + a1.size := by omega
  clear hA hB hC h0 h1 h2 h3 hj
  go_enter Try.func5, Try.ntmps5
  go_wp2_with (first | ((with_reducible refine (HA.out _).mono ?_); rintro e w' ⟨rfl, rfl⟩) | ((with_reducible refine (HB.out _).mono ?_); rintro e w' ⟨rfl, rfl⟩) | ((with_reducible refine (HC.out _).mono ?_); rintro e w' ⟨rfl, rfl⟩) | ((with_reducible refine (H0.out _).mono ?_); rintro e w' ⟨rfl, rfl⟩) | ((with_reducible refine (H1.out _).mono ?_); rintro e w' ⟨rfl, rfl⟩) | ((with_reducible refine (H2.out _).mono ?_); rintro e w' ⟨rfl, rfl⟩) | ((with_reducible refine (H3.out _).mono ?_); rintro e w' ⟨rfl, rfl⟩) | (go_at_call 11; refine (wakes_any _).mono ?_; rintro e w1' ⟨rfl, b1⟩))
  go_ret
  exact ⟨rfl, b1⟩

end Go.Proofs.Ytjcpepjhnnpbpaa
