/- Contracts of the document's own answers of layer 1 that layer 3 takes: Mask and Bits. -/
import Derived.Test.YtkalflhepnbppaaWordM
import Derived.Test.YtkalflhepnbppaaWordQ
import Derived.Test.YtkalflhepnbppaaRd
import Derived.Handy
namespace Go.Proofs.Ytkalflhepnbppaa
open Go.ChangeShapes Go.WideShapes Go.ChangeAt Go.RowKit
set_option linter.unusedVariables false

def downN (a : Int) (k : Nat) : Int := a / 2 ^ k
theorem downN_succ (a : Int) (k : Nat) : downN a (k + 1) = downN a k / 2 := by
  unfold downN
  rw [Int.pow_succ, Int.ediv_ediv_of_nonneg (Int.le_of_lt (pow2_pos k))]
theorem downN_le {a : Int} (ha : W64 a) (k : Nat) : 0 ≤ downN a k ∧ downN a k ≤ 18446744073709551615 := div_le ha (Int.le_of_lt (pow2_pos k))

def maskN (k : Nat) : Int := 2 ^ k - 1
theorem maskN_succ (k : Nat) : maskN (k + 1) = maskN k + maskN k + 1 := by
  unfold maskN
  rw [Int.pow_succ]
  omega
theorem maskN_le (k : Nat) (h : k ≤ 63) : 0 ≤ maskN k ∧ maskN k ≤ 9223372036854775807 := by
  unfold maskN
  have h1 := pow2_pos k
  have h2 : (2 : Int) ^ k ≤ 2 ^ 63 := by
    have : (2 : Nat) ^ k ≤ 2 ^ 63 := Nat.pow_le_pow_right (by omega) h
    exact_mod_cast this
  omega

theorem refMask_any (n : Int) (h : (Lit.int .i64 n).wf = true) (w : World) :
    Calls Try.prog 19 #[.int .i64 n] w fun e w' => e = .returned (.int .u64 (maskV n)) ∧ w = w' := by
  obtain ⟨n1, n2⟩ := bounds_i64 h
  go_enter Try.func19, Try.ntmps19
  go_wp2_with fail
  go_loop [3, 4] (fun m i => ∃ k : Nat, k ≤ n.toNat ∧ k ≤ 64 ∧ i = .int .i64 k ∧ m = .int .u64 (maskN k)) (fun _ i => 64 - (intOf i).toNat)
  case atStart => exact ⟨0, by omega, by omega, rfl, rfl⟩
  case round =>
    obtain ⟨k, hk, hk', rfl, rfl⟩ := hrel
    by_cases h1 : (k : Int) < n
    · by_cases h2 : k < 64
      · obtain ⟨b1, b2⟩ := maskN_le k (by omega)
        have hs := Lib.hid (maskN_succ k)
        go_wp2
        go_round
        case rel => exact ⟨k + 1, by omega, by omega, by go_num, by rw [hs.out]⟩
        case measure => simp [intOf]; omega
      · have h2' : 64 ≤ k := by omega
        clear h2
        go_wp2
        go_ret
        exact ⟨ret_u64 (by unfold maskN maskV; rw [show min n.toNat 64 = k from by omega]), rfl⟩
    · have h1' : n ≤ (k : Int) := by omega
      have hd : decide ((k : Int) < n) = false := by simpa using h1
      clear h1
      go_wp2
      go_ret
      exact ⟨ret_u64 (by unfold maskN maskV; rw [show min n.toNat 64 = k from by omega]), rfl⟩

theorem info_int : (Try.prog.info? 3).map (fun i => (i.zero, i.size, i.bytes)) = some (some (.int .i64 0), 1, 8) := by kernel_rfl

theorem refBits_any (a : Int) (ha : W64 a) (w : World) :
    Calls Try.prog 22 #[.int .u64 a] w fun e w' => e = .returned (.slice (some ⟨w.heap.size, 0, none⟩) 64 64) ∧ Row 3 .i64 w.heap.size w' w.heap.size 64 (bitsL a) ∧ Below w.heap.size w w' := by
  obtain ⟨i0, hi, hz0, hz1, hz2⟩ := info_parts info_int
  obtain ⟨a1, a2⟩ := id ha
  go_enter Try.func22, Try.ntmps22
  go_wp2_with (at_make; refine wpList_make_full _ rfl _ _ 22 rfl w.heap.size 3 i0 (.int .i64 0) 1 Try.underlying22 hi hz0 hz1 _ _ _ _ 64 rfl rfl rfl rfl (by rw [hz2]; omega) (by unfold maxLen; omega) (Nat.le_refl _) ?_; intro w0 hown0 hgrow0)
  have hr0 : Row 3 .i64 w.heap.size w0 w.heap.size 64 (bitsTo a 0) := by
    refine Row.of_own hown0 (bitsTo_length a 0).symm ?_
    rw [bitsTo_zero]
    simp only [Value.cells, Nat.mul_one, toList_madeCells_one, List.map_replicate]
  have hb0 : Below w.heap.size w w0 := (Below.refl _ _).grown hgrow0 (Nat.le_refl _) (by simp)
  clear hown0 hgrow0 hi hz0 hz1 hz2
  go_wp2_with fail
  go_loopw [0, 4] (fun x i wr => ∃ k : Nat, k ≤ 64 ∧ i = .int .i64 k ∧ x = .int .u64 (downN a k) ∧ Row 3 .i64 w.heap.size wr w.heap.size 64 (bitsTo a k) ∧ Below w.heap.size w wr) (fun _ i _ => 64 - (intOf i).toNat)
  case atStart => exact ⟨0, by omega, rfl, by simp [downN], hr0, hb0⟩
  case round =>
    obtain ⟨k, hk, rfl, rfl, hr, hb⟩ := hrel
    obtain ⟨hl, hu⟩ := downN_le ha k
    by_cases hlt : k < 64
    · have hs := Lib.hid (downN_succ a k)
      have hf := hr.frozen k
      have hc := hr.cell (j := k) (by rw [bitsTo_length]; omega)
      go_wp2
      go_roundw
      case rel => exact ⟨k + 1, by omega, by go_num, by rw [hs.out], by rw [bitsTo_succ]; exact hr.set k _, hb.setCell (Nat.le_refl _) _⟩
      case measure => simp [intOf]; omega
    · have hk' : k = 64 := by omega
      subst hk'
      go_wp2
      go_ret
      exact ⟨rfl, hr, hb⟩


end Go.Proofs.Ytkalflhepnbppaa
