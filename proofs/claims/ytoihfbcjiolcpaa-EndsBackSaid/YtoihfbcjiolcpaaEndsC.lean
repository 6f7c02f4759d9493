/- Contracts of layer 2: Put of package ends. -/
import Derived.Test.YtoihfbcjiolcpaaEndsB
namespace Go.Proofs.Ytoihfbcjiolcpaa
open Go.ChangeShapes Go.WideShapes Go.ChangeAt Go.RowKit
set_option linter.unusedVariables false

/-- A result that is a string and an error's number, behind a name. -/
def PairPost (r : List UInt8 × Int) (w : World) (e : Ending) (w' : World) : Prop := e = .returned (.tuple #[.string ⟨r.1.toArray⟩, .int .i64 r.2]) ∧ Below w.heap.size w w'
theorem PairPost.mk {r : List UInt8 × Int} {w w' : World} {l : List UInt8} {n : Int} (h : r = (l, n)) (hb : Below w.heap.size w w') : PairPost r w (.returned (.tuple #[.string ⟨l.toArray⟩, .int .i64 n])) w' := by
  subst h; exact ⟨rfl, hb⟩

theorem Put_size (n k : Int) (little : Bool) (h : goodB k = false) (w : World) :
    Calls Try.prog 8 #[.int .u64 n, .int .i64 k, .bool little] w (PairPost (putR n k little) w) := by
  go_enter Try.func8, Try.ntmps8
  go_wp2_with (go_at_call 10; refine (Good_any _ _).mono ?_; rintro e w' ⟨rfl, rfl⟩)
  go_ret2
  exact PairPost.mk (by simp [putR, h]) (Below.refl _ _)

theorem fits_iff (n m : Nat) (hm : m ≤ 8) : (decide ((n : Int) ≤ maskV (8 * (m : Int)))) = decide (n < 256 ^ m) := by
  have e : maskV (8 * (m : Int)) = ((256 ^ m : Nat) : Int) - 1 := by
    unfold maskV
    rw [show min (8 * (m : Int)).toNat 64 = 8 * m from by omega, pow256]
    simp
  have := Nat.pow_pos (a := 256) (n := m) (by decide)
  rw [e, decide_eq_decide]
  omega

theorem wf_i64 {n : Int} (h1 : -9223372036854775808 ≤ n) (h2 : n ≤ 9223372036854775807) : (Lit.int .i64 n).wf = true := by
  simp [Lit.wf, IntKind.min, IntKind.max, IntKind.bits, IntKind.signed]; omega

theorem Put_num (n m : Nat) (little : Bool) (hn : n < 18446744073709551616) (h : goodB (m : Int) = true) (hf : 256 ^ m ≤ n) (w : World) :
    Calls Try.prog 8 #[.int .u64 n, .int .i64 m, .bool little] w (PairPost (putR n m little) w) := by
  have hm := good_le h
  have hd : decide ((n : Int) ≤ maskV (8 * (m : Int))) = false := by rw [fits_iff n m (by omega)]; simp; omega
  have c := fun w => Fits_any (n : Int) (8 * (m : Int)) ⟨by omega, by omega⟩ (wf_i64 (by omega) (by omega)) w
  simp only [hd] at c
  have C := Lib.hid c
  clear c hd
  go_enter Try.func8, Try.ntmps8
  go_wp2_with (first | (go_at_call 10; refine (Good_any _ _).mono ?_; rintro e w' ⟨rfl, rfl⟩) | ((with_reducible refine (C.out _).mono ?_); rintro e w' ⟨rfl, rfl⟩))
  go_ret2
  exact PairPost.mk (by simp [putR, h]; omega) (Below.refl _ _)

theorem Put_ok (n m : Nat) (little : Bool) (hn : n < 18446744073709551616) (h : goodB (m : Int) = true) (hf : n < 256 ^ m) (w : World) :
    Calls Try.prog 8 #[.int .u64 n, .int .i64 m, .bool little] w (PairPost (putR n m little) w) := by
  have hm := good_le h
  have hd : decide ((n : Int) ≤ maskV (8 * (m : Int))) = true := by rw [fits_iff n m (by omega)]; simp; omega
  have c := fun w => Fits_any (n : Int) (8 * (m : Int)) ⟨by omega, by omega⟩ (wf_i64 (by omega) (by omega)) w
  simp only [hd] at c
  have C := Lib.hid c
  obtain ⟨m1, m2⟩ := hm
  have HF := Lib.hid hf
  clear c hd hf
  obtain ⟨i0, hi, hz0, hz1, hz2⟩ := info_parts info_u8
  go_enter Try.func8, Try.ntmps8
  go_wp2_with (first | (go_at_call 10; refine (Good_any _ _).mono ?_; rintro e w' ⟨rfl, rfl⟩) | ((with_reducible refine (C.out _).mono ?_); rintro e w' ⟨rfl, rfl⟩) | (at_make; refine wpList_make_full _ rfl _ _ 43 rfl w.heap.size 5 i0 (.int .u8 0) 1 Try.underlying43 hi hz0 hz1 _ _ _ _ m rfl rfl rfl rfl (by rw [hz2]; omega) (by unfold maxLen; omega) (Nat.le_refl _) ?_; intro w0 hown0 hgrow0))
  have hr0 : Row 5 .u8 w.heap.size w0 w.heap.size m (bytesI (putTo n m little 0)) := by
    refine Row.of_own hown0 (by simp [putTo_zero, bytesI]) ?_
    simp only [putTo_zero, bytesI, Value.cells, Nat.mul_one, toList_madeCells_one, List.map_replicate]
    rfl
  have hb0 : Below w.heap.size w w0 := (Below.refl _ _).grown hgrow0 (Nat.le_refl _) (by simp)
  clear hown0 hgrow0 hi hz0 hz1 hz2
  go_wp2_with fail
  go_loopw [21] (fun i wr => ∃ k : Nat, k ≤ m ∧ i = .int .i64 k ∧ Row 5 .u8 w.heap.size wr w.heap.size m (bytesI (putTo n m little k)) ∧ Below w.heap.size w wr) (fun i _ => m - (intOf i).toNat)
  case atStart => exact ⟨0, by omega, rfl, hr0, hb0⟩
  case round =>
    obtain ⟨k, hk, rfl, hr, hb⟩ := hrel
    by_cases hlt : k < m
    · have hlen : (bytesI (putTo n m little k)).length = m := by rw [bytesI_length, putTo_length _ _ _ hk]
      have hpl := placeN_lt (little := little) hlt
      have hf := hr.frozen (placeN little k m)
      have hc := hr.cell (j := placeN little k m) (by omega)
      have hp := fun w => (place_any k m little hlt (by omega) w).mono (fun e w' (h : _ ∧ w = w') => (⟨h.1, h.2.symm⟩ : e = .returned (.int .i64 (placeN little k m : Nat)) ∧ w' = w))
      have HP := Lib.hid hp
      clear hlen hp
      have HB := Lib.hid (putTo_succ n m little hlt)
      generalize placeN little k m = p at hpl hf hc HP HB
      have hw0 : (0 : Int) ≤ 8 * (k : Int) := by omega
      have hw2 : (8 * (k : Int)).toNat = 8 * k := by omega
      have hw1 : IntKind.i64.wrap (8 * (k : Int)) = 8 * (k : Int) := IntWalk.i64_in _ (by omega)
      go_wp2_with fail
      refine wp_region_still_tail 11 (by kernel_rfl) (by kernel_rfl) ?_
      simp only [List.take_succ_cons, List.take_zero, List.drop_succ_cons, List.drop_zero]
      repeat still_step
      still_call (HP.out _)
      repeat still_step
      refine wpStill_nil ?_
      change wpList _ _ _ _ _ wr.drew
      go_wp2
      go_roundw
      case rel =>
        refine ⟨k + 1, by omega, by go_num, ?_, hb.drew.setCell (Nat.le_refl _) _⟩
        rw [HB.out, bytesI_set]
        have e : ((UInt8.ofNat (n / 256 ^ k % 256)).toNat : Int) = (n : Int) / 2 ^ (8 * k) % 256 := by rw [toNat_ofNat, pow256]; simp
        rw [e]
        exact (hr.set _ _).drew
      case measure => simp [intOf]; omega
    · obtain rfl : k = m := by omega
      have ht := text_row Try.underlying43 Try.underlying5 Try.underlying9 wr _ _ k k _ (by rw [putTo_length _ _ _ hk]) hr
      have HT := Lib.hid ht
      clear ht
      go_wp2_with (simp only [HT.out])
      go_ret2
      exact PairPost.mk (by simp [putR, h, HF.out, putTo_all]) hb

theorem u64_nat {n : Int} (h : W64 n) : ∃ a : Nat, n = a ∧ a < 18446744073709551616 := by
  obtain ⟨h1, h2⟩ := h
  obtain ⟨a, rfl⟩ := Int.eq_ofNat_of_zero_le h1
  exact ⟨a, rfl, by omega⟩

/-- Put of package ends. -/
theorem Put_any (n k : Int) (little : Bool) (hn : W64 n) (w : World) :
    Calls Try.prog 8 #[.int .u64 n, .int .i64 k, .bool little] w (PairPost (putR n k little) w) := by
  by_cases h : goodB k = true
  · obtain ⟨a, rfl, ha⟩ := u64_nat hn
    obtain ⟨m, rfl⟩ := Int.eq_ofNat_of_zero_le (a := k) (by have := good_le h; omega)
    by_cases hf : a < 256 ^ m
    · exact Put_ok a m little ha h hf w
    · exact Put_num a m little ha h (by omega) w
  · exact Put_size n k little (by simpa using h) w

end Go.Proofs.Ytoihfbcjiolcpaa
