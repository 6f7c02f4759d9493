/- Contracts of layer 2: bytes turned round, by package ends and by the document. -/
import Derived.Test.YtoihfbcjiolcpaaEndsA
namespace Go.Proofs.Ytoihfbcjiolcpaa
open Go.ChangeShapes Go.WideShapes Go.ChangeAt Go.RowKit
set_option linter.unusedVariables false

/-- A result that is a string, behind a name. -/
def TextPost (l : List UInt8) (w : World) (e : Ending) (w' : World) : Prop := e = .returned (.string ⟨l.toArray⟩) ∧ Below w.heap.size w w'

theorem ret_text {l m : List UInt8} (h : l = m) : Ending.returned (.string ⟨l.toArray⟩) = .returned (.string ⟨m.toArray⟩) := by rw [h]
theorem byteAt (s : ByteArray) {k : Nat} (h : k < s.size) : s.data.toList[k]? = some s[k] := by
  rw [List.getElem?_eq_getElem (by simpa using h)]; rfl

theorem Turn_any (s : ByteArray) (hs : s.size ≤ 140737488355328) (w : World) :
    Calls Try.prog 12 #[.string s] w (TextPost s.data.toList.reverse w) := by
  obtain ⟨i0, hi, hz0, hz1, hz2⟩ := info_parts info_u8
  go_enter Try.func12, Try.ntmps12
  go_wp2_with (at_make; refine wpList_make_full _ rfl _ _ 43 rfl w.heap.size 5 i0 (.int .u8 0) 1 Try.underlying43 hi hz0 hz1 _ _ _ _ s.size rfl rfl rfl rfl (by rw [hz2]; omega) (by unfold maxLen; omega) (Nat.le_refl _) ?_; intro w0 hown0 hgrow0)
  have hr0 : Row 5 .u8 w.heap.size w0 w.heap.size s.size (bytesI (List.replicate s.size 0)) := by
    refine Row.of_own hown0 (by simp [bytesI]) ?_
    simp only [bytesI, Value.cells, Nat.mul_one, toList_madeCells_one, List.map_replicate]
    rfl
  have hb0 : Below w.heap.size w w0 := (Below.refl _ _).grown hgrow0 (Nat.le_refl _) (by simp)
  clear hown0 hgrow0 hi hz0 hz1 hz2
  go_wp2_with fail
  have hr1 : Row 5 .u8 w.heap.size w0 w.heap.size s.size (bytesI (turnTo s.data.toList 0)) := by
    rw [turnTo_zero, show s.data.toList.length = s.size from by simp]; exact hr0
  clear hr0
  go_loopw [10] (fun i wr => ∃ k : Nat, k ≤ s.size ∧ i = .int .i64 k ∧ Row 5 .u8 w.heap.size wr w.heap.size s.size (bytesI (turnTo s.data.toList k)) ∧ Below w.heap.size w wr) (fun i _ => s.size - (intOf i).toNat)
  case atStart => exact ⟨0, by omega, rfl, hr1, hb0⟩
  case round =>
    obtain ⟨k, hk, rfl, hr, hb⟩ := hrel
    by_cases hlt : k < s.size
    · have hlen : (bytesI (turnTo s.data.toList k)).length = s.size := by rw [bytesI_length, turnTo_length _ (by simpa using hk)]; simp
      have hf := hr.frozen (s.size - 1 - k)
      have hc := hr.cell (j := s.size - 1 - k) (by omega)
      clear hlen
      go_wp2
      go_roundw
      case rel => 
        refine ⟨k + 1, by omega, by go_num, ?_, hb.setCell (Nat.le_refl _) _⟩
        rw [turnTo_succ (l := s.data.toList) (k := k) (n := s.size) (by simp) hlt s[k] (byteAt s hlt), bytesI_set]
        exact hr.set _ _
      case measure => simp [intOf]; omega
    · obtain rfl : k = s.size := by omega
      have ht := text_row Try.underlying43 Try.underlying5 Try.underlying9 wr _ _ s.size s.size _ (by rw [turnTo_length _ (by simp)]; simp) hr
      have HT := Lib.hid ht
      clear ht
      go_wp2_with (simp only [HT.out])
      go_ret
      exact ⟨ret_text (by rw [show s.size = s.data.toList.length from by simp, turnTo_all]), hb⟩

theorem refTurn_any (s : ByteArray) (hs : s.size ≤ 140737488355328) (w : World) :
    Calls Try.prog 13 #[.string s] w (TextPost s.data.toList.reverse w) := by
  obtain ⟨i0, hi, hz0, hz1, hz2⟩ := info_parts info_u8
  go_enter Try.func13, Try.ntmps13
  go_wp2
  go_loopw [3, 4] (fun u i wr => ∃ (k : Nat) (v : Value), k ≤ s.size ∧ v = u ∧ i = .int .i64 ((s.size : Int) - 1 - k) ∧ Own 5 .u8 w.heap.size wr v (bytesI (s.data.toList.reverse.take k)) ∧ Below w.heap.size w wr) (fun _ i _ => (intOf i + 1).toNat)
  case atStart => exact ⟨0, _, by omega, rfl, by simp, Own.nil .., Below.refl _ _⟩
  case round =>
    obtain ⟨k, u, hk, rfl, rfl, hown, hb⟩ := hrel
    have hlen : (bytesI (s.data.toList.reverse.take k)).length = k := by rw [bytesI_length, List.length_take]; simp; omega
    by_cases hlt : k < s.size
    · have h1 : (bytesI (s.data.toList.reverse.take k)).length + 1 ≤ maxLen := by unfold maxLen; omega
      have h2 : ((bytesI (s.data.toList.reverse.take k)).length + 1) * 1 ≤ 140737488355328 := by omega
      have h3 := hb.size
      have H := Lib.hid hown
      clear hown hlen
      obtain ⟨p, hp1, hp2⟩ : ∃ p : Nat, p + 1 + k ≤ s.size ∧ s.size ≤ p + 1 + k := ⟨s.size - 1 - k, by omega, by omega⟩
      have hi' : (s.size : Int) - 1 - k = p := by omega
      rw [hi']
      clear hi'
      have hps : p < s.size := by omega
      go_wp2_with (at_builtin; refine append_own1 rfl _ _ 43 rfl w.heap.size 5 i0 (.int .u8 0) 1 Try.underlying43 hi hz0 hz1 hz2 rfl .u8 u _ _ rfl H.out _ rfl h1 h2 h3 ?_; intro v' w1 hown1 hb1)
      go_roundw
      case rel =>
        refine ⟨k + 1, _, by omega, rfl, by simp only [Value.int.injEq, true_and]; omega, ?_, hb.trans hb1⟩
        rw [revTake_succ (l := s.data.toList) (n := s.size) (by simp) hlt s[p] (by rw [show s.size - 1 - k = p from by omega]; exact byteAt s hps), bytesI_append]
        exact hown1
      case measure => simp [intOf]
    · obtain rfl : k = s.size := by omega
      have ht := text_own Try.underlying43 Try.underlying5 Try.underlying9 wr _ _ _ hown
      have HT := Lib.hid ht
      clear ht hlen
      go_wp2_with (simp only [HT.out])
      go_ret
      exact ⟨ret_text (by rw [List.take_of_length_le (by simp)]), hb⟩

end Go.Proofs.Ytoihfbcjiolcpaa
