/- Contracts of the document's own answers of layer 1: Bits. -/
import Derived.Test.YtoengahfkfmfeaaWordShiftsW
import Derived.Test.YtoengahfkfmfeaaWordQ
import Derived.Test.YtoengahfkfmfeaaSlice
import Derived.Handy
set_option linter.unusedVariables false
set_option linter.unusedSimpArgs false
namespace Go.Proofs.Ytoengahfkfmfeaa
open Go.ChangeShapes Go.WideShapes Go.ChangeAt Go.RowKit

theorem info_int : (Try.prog.info? 3).map (fun i => (i.zero, i.size, i.bytes)) = some (some (.int .i64 0), 1, 8) := by kernel_rfl

set_option maxRecDepth 100000 in
theorem refBits_any (a : Int) (ha : W64 a) (w : World) :
    Calls Try.prog 61 #[.int .u64 a] w fun e w' => e = .returned (.slice (some ⟨w.heap.size, 0, none⟩) 64 64) ∧ Row 3 .i64 w.heap.size w' w.heap.size 64 (bitsL a) ∧ Below w.heap.size w w' := by
  obtain ⟨i0, hi, hz0, hz1, hz2⟩ := info_parts info_int
  obtain ⟨a1, a2⟩ := id ha
  go_enter Try.func61, Try.ntmps61
  go_wp2_with (at_make; refine wpList_make_full _ rfl _ _ 78 rfl w.heap.size 3 i0 (.int .i64 0) 1 Try.underlying78 hi hz0 hz1 _ _ _ _ 64 rfl rfl rfl rfl (by rw [hz2]; omega) (by unfold maxLen; omega) (Nat.le_refl _) ?_; intro w0 hown0 hgrow0)
  have hr0 : Row 3 .i64 w.heap.size w0 w.heap.size 64 (bitsTo a 0) := by
    refine Row.of_own hown0 (bitsTo_length a 0).symm ?_
    rw [bitsTo_zero]
    simp only [Value.cells, Nat.mul_one, toList_madeCells_one, List.map_replicate]
  have hb0 : Below w.heap.size w w0 := (Below.refl _ _).grown hgrow0 (Nat.le_refl _) (by simp)
  clear hown0 hgrow0 hi hz0 hz1 hz2
  go_wp2_with fail
  go_loopw [0, 4] (fun x i wr => ∃ k : Nat, k ≤ 64 ∧ i = .int .i64 k ∧ x = .int .u64 (downN a k) ∧ Row 3 .i64 w.heap.size wr w.heap.size 64 (bitsTo a k) ∧ Below w.heap.size w wr) (fun _ i _ => 64 - (intOf i).toNat)
  case atStart => exact ⟨0, by omega, rfl, by simp [downN], hr0, hb0⟩
  case round =>
    obtain ⟨k, hk, rfl, rfl, hr, hb⟩ := hrel
    obtain ⟨hl, hu⟩ := downN_le ha k
    by_cases hlt : k < 64
    · have hs := Lib.hid (downN_succ a k)
      have hf := hr.frozen k
      have hc := hr.cell (j := k) (by rw [bitsTo_length]; omega)
      go_wp2
      go_roundw
      case rel => exact ⟨k + 1, by omega, by go_num, by rw [hs.out], by rw [bitsTo_succ]; exact hr.set k _, hb.setCell (Nat.le_refl _) _⟩
      case measure => simp [intOf]; omega
    · have hk' : k = 64 := by omega
      subst hk'
      go_wp2
      go_ret
      exact ⟨rfl, hr, hb⟩

theorem ret_slice {a : Option Addr} {n m : Nat} (h : n = m) : Ending.returned (.slice a n n) = .returned (.slice a m m) := by rw [h]

/-- What a sum of bits is. -/
def PlusPost (w : World) (la lb : List Int) (n : Nat) (e : Ending) (w' : World) : Prop :=
  ∃ o : List Int, e = .returned (.slice (some ⟨w.heap.size, 0, none⟩) o.length o.length) ∧ o.length = n + 1 ∧ allBits o ∧ val o = val la + val lb ∧
    Row 3 .i64 w.heap.size w' w.heap.size o.length o ∧ Below w.heap.size w w'

set_option maxRecDepth 100000 in
set_option maxHeartbeats 1000000 in
theorem refPlus_lt (Ba Bb ga ca gb cb : Nat) (la lb : List Int) (w : World) (ha : Row 3 .i64 Ba w ga ca la) (hb : Row 3 .i64 Bb w gb cb lb)
    (hla : allBits la) (hlb : allBits lb) (hn : la.length ≤ 1000) (hm : lb.length ≤ 1000) (hlen : la.length < lb.length) :
    Calls Try.prog 62 #[.slice (some ⟨ga, 0, none⟩) la.length ca, .slice (some ⟨gb, 0, none⟩) lb.length cb] w (PlusPost w la lb lb.length) := by
  obtain ⟨i0, hi, hz0, hz1, hz2⟩ := info_parts info_int
  have La := ha.lt.2
  have Lb := hb.lt.2
  go_enter Try.func62, Try.ntmps62
  go_wp2_with (at_make; refine wpList_make_full _ rfl _ _ 78 rfl w.heap.size 3 i0 (.int .i64 0) 1 Try.underlying78 hi hz0 hz1 _ _ _ _ (lb.length + 1) rfl rfl (by omega) (by omega) (by rw [hz2]; omega) (by unfold maxLen; omega) (Nat.le_refl _) ?_; intro w0 hown0 hgrow0)
  have hr0 : Row 3 .i64 w.heap.size w0 w.heap.size (lb.length + 1) (List.replicate (lb.length + 1) 0) := by
    refine Row.of_own hown0 (by simp) ?_
    simp only [Value.cells, Nat.mul_one, toList_madeCells_one, List.map_replicate]
  have hb0 : Below w.heap.size w w0 := (Below.refl _ _).grown hgrow0 (Nat.le_refl _) (by simp)
  clear hown0 hgrow0 hi hz0 hz1 hz2
  go_wp2_with fail
  go_loopw [7, 8] (fun i s wr => ∃ (k : Nat) (o : List Int), k ≤ lb.length ∧ i = .int .i64 k ∧ PInv o la lb k lb.length ∧ Row 3 .i64 w.heap.size wr w.heap.size (lb.length + 1) o ∧ Below w.heap.size w wr) (fun i _ _ => lb.length - (intOf i).toNat)
  case atStart => exact ⟨0, _, by omega, rfl, PInv.start la lb _, hr0, hb0⟩
  case round =>
    obtain ⟨k, o, hk, rfl, hp, hr, hbe⟩ := hrel
    by_cases hlt : k < lb.length
    · have ho : o.length = lb.length + 1 := hp.1
      have hf := hr.frozen k
      have hf1 := hr.frozen (k + 1)
      have hc := hr.cell (j := k) (by omega)
      have hc1 := hr.cell (j := k + 1) (by omega)
      have ca' : k < la.length → wr.cell? ⟨ga, k, none⟩ = some (.int .i64 (el la k)) := fun h => (ha.below hbe La).cell h
      have cb' : k < lb.length → wr.cell? ⟨gb, k, none⟩ = some (.int .i64 (el lb k)) := fun h => (hb.below hbe Lb).cell h
      have b1 := hp.2.1 k
      have b2 := hla k
      have b3 := hlb k
      have l1 : 0 ≤ el o k ∧ el o k ≤ 1 := by unfold el; omega
      have l2 : 0 ≤ el la k ∧ el la k ≤ 1 := by unfold el; omega
      have l3 : 0 ≤ el lb k ∧ el lb k ≤ 1 := by unfold el; omega
      clear b1 b2 b3
      have HS := Lib.hid (fun s hs => hp.step hla hlb hlt s hs)
      have HO := Lib.hid ho
      clear ho
      go_wp2
      all_goals go_roundw
      case rel =>
        exact ⟨k + 1, _, by omega, by go_num, HS.out (el o k + el la k + el lb k) rfl, (hr.set k _).set (k + 1) _, (hbe.setCell (Nat.le_refl _) _).setCell (Nat.le_refl _) _⟩
      case measure => simp [intOf]; omega
      case rel =>
        exact ⟨k + 1, _, by omega, by go_num, HS.out (el o k + el lb k) (by have := el_past (l := la) (j := k) (by omega); unfold el at *; omega), (hr.set k _).set (k + 1) _, (hbe.setCell (Nat.le_refl _) _).setCell (Nat.le_refl _) _⟩
      case measure => simp [intOf]; omega
    · have hk' : k = lb.length := by omega
      subst hk'
      go_wp2
      go_ret
      exact ⟨o, ret_slice hp.1.symm, hp.1, hp.2.1, hp.done (by omega) (by omega), by rw [hp.1]; exact hr, hbe⟩

set_option maxRecDepth 100000 in
set_option maxHeartbeats 1000000 in
theorem refPlus_ge (Ba Bb ga ca gb cb : Nat) (la lb : List Int) (w : World) (ha : Row 3 .i64 Ba w ga ca la) (hb : Row 3 .i64 Bb w gb cb lb)
    (hla : allBits la) (hlb : allBits lb) (hn : la.length ≤ 1000) (hm : lb.length ≤ 1000) (hlen : lb.length ≤ la.length) :
    Calls Try.prog 62 #[.slice (some ⟨ga, 0, none⟩) la.length ca, .slice (some ⟨gb, 0, none⟩) lb.length cb] w (PlusPost w la lb la.length) := by
  obtain ⟨i0, hi, hz0, hz1, hz2⟩ := info_parts info_int
  have La := ha.lt.2
  have Lb := hb.lt.2
  go_enter Try.func62, Try.ntmps62
  go_wp2_with (at_make; refine wpList_make_full _ rfl _ _ 78 rfl w.heap.size 3 i0 (.int .i64 0) 1 Try.underlying78 hi hz0 hz1 _ _ _ _ (la.length + 1) rfl rfl (by omega) (by omega) (by rw [hz2]; omega) (by unfold maxLen; omega) (Nat.le_refl _) ?_; intro w0 hown0 hgrow0)
  have hr0 : Row 3 .i64 w.heap.size w0 w.heap.size (la.length + 1) (List.replicate (la.length + 1) 0) := by
    refine Row.of_own hown0 (by simp) ?_
    simp only [Value.cells, Nat.mul_one, toList_madeCells_one, List.map_replicate]
  have hb0 : Below w.heap.size w w0 := (Below.refl _ _).grown hgrow0 (Nat.le_refl _) (by simp)
  clear hown0 hgrow0 hi hz0 hz1 hz2
  go_wp2_with fail
  go_loopw [7, 8] (fun i s wr => ∃ (k : Nat) (o : List Int), k ≤ la.length ∧ i = .int .i64 k ∧ PInv o la lb k la.length ∧ Row 3 .i64 w.heap.size wr w.heap.size (la.length + 1) o ∧ Below w.heap.size w wr) (fun i _ _ => la.length - (intOf i).toNat)
  case atStart => exact ⟨0, _, by omega, rfl, PInv.start la lb _, hr0, hb0⟩
  case round =>
    obtain ⟨k, o, hk, rfl, hp, hr, hbe⟩ := hrel
    by_cases hlt : k < la.length
    · have ho : o.length = la.length + 1 := hp.1
      have hf := hr.frozen k
      have hf1 := hr.frozen (k + 1)
      have hc := hr.cell (j := k) (by omega)
      have hc1 := hr.cell (j := k + 1) (by omega)
      have ca' : k < la.length → wr.cell? ⟨ga, k, none⟩ = some (.int .i64 (el la k)) := fun h => (ha.below hbe La).cell h
      have cb' : k < lb.length → wr.cell? ⟨gb, k, none⟩ = some (.int .i64 (el lb k)) := fun h => (hb.below hbe Lb).cell h
      have b1 := hp.2.1 k
      have b2 := hla k
      have b3 := hlb k
      have l1 : 0 ≤ el o k ∧ el o k ≤ 1 := by unfold el; omega
      have l2 : 0 ≤ el la k ∧ el la k ≤ 1 := by unfold el; omega
      have l3 : 0 ≤ el lb k ∧ el lb k ≤ 1 := by unfold el; omega
      clear b1 b2 b3
      have HS := Lib.hid (fun s hs => hp.step hla hlb hlt s hs)
      have HO := Lib.hid ho
      clear ho
      go_wp2
      all_goals go_roundw
      case rel =>
        exact ⟨k + 1, _, by omega, by go_num, HS.out (el o k + el la k + el lb k) rfl, (hr.set k _).set (k + 1) _, (hbe.setCell (Nat.le_refl _) _).setCell (Nat.le_refl _) _⟩
      case measure => simp [intOf]; omega
      case rel =>
        exact ⟨k + 1, _, by omega, by go_num, HS.out (el o k + el la k) (by have := el_past (l := lb) (j := k) (by omega); unfold el at *; omega), (hr.set k _).set (k + 1) _, (hbe.setCell (Nat.le_refl _) _).setCell (Nat.le_refl _) _⟩
      case measure => simp [intOf]; omega
    · have hk' : k = la.length := by omega
      subst hk'
      go_wp2
      go_ret
      exact ⟨o, ret_slice hp.1.symm, hp.1, hp.2.1, hp.done (by omega) (by omega), by rw [hp.1]; exact hr, hbe⟩

set_option maxRecDepth 100000 in
theorem refPlus_any (Ba Bb ga ca gb cb : Nat) (la lb : List Int) (w : World) (ha : Row 3 .i64 Ba w ga ca la) (hb : Row 3 .i64 Bb w gb cb lb)
    (hla : allBits la) (hlb : allBits lb) (hn : la.length ≤ 1000) (hm : lb.length ≤ 1000) :
    Calls Try.prog 62 #[.slice (some ⟨ga, 0, none⟩) la.length ca, .slice (some ⟨gb, 0, none⟩) lb.length cb] w (PlusPost w la lb (max la.length lb.length)) := by
  by_cases h : la.length < lb.length
  · rw [show max la.length lb.length = lb.length from by omega]
    exact refPlus_lt Ba Bb ga ca gb cb la lb w ha hb hla hlb hn hm h
  · rw [show max la.length lb.length = la.length from by omega]
    exact refPlus_ge Ba Bb ga ca gb cb la lb w ha hb hla hlb hn hm (by omega)

end Go.Proofs.Ytoengahfkfmfeaa
