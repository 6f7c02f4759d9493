/- Slices of strings that a call has made by append, nil let in. -/
import Derived.Test.YtcdbdfhikbfbpaaGreatDoorToks
namespace Go.Proofs.YtcdbdfhikbfbpaaGreatDoor
open Go.ChangeShapes Go.WideShapes Go.ChangeAt Go.RowKit
set_option linter.unusedVariables false

def Texts (E : TypeId) (B : Nat) (w : World) (v : Value) (l : List ByteArray) : Prop := w.ownsRow B E 1 v l.length (l.map Value.string)
section
variable {E : TypeId} {B : Nat} {w w' : World} {v : Value} {l : List ByteArray}
theorem Texts.nil (E : TypeId) (B : Nat) (w : World) : Texts E B w (.slice none 0 0) [] := World.ownsRow_nil w B E 1
theorem Texts.lt (h : Texts E B w v l) : ∀ g, v.ownBlock = some g → B ≤ g ∧ g < w.heap.size := World.ownsRow.lt h
theorem Texts.form (h : Texts E B w v l) : (v = .slice none 0 0 ∧ l = []) ∨ ∃ g cap, v = .slice (some ⟨g, 0, none⟩) l.length cap ∧ l.length ≤ cap ∧ g < w.heap.size ∧ ∀ (j : Nat) x, l[j]? = some x → w.cell? ⟨g, 0 + j, none⟩ = some (.string x) := by
  rcases id h.2 with ⟨h1, h2⟩ | ⟨g, cap, cur, hv, hg, hh, hle, r⟩
  · exact .inl ⟨h1, List.eq_nil_of_length_eq_zero h2⟩
  · subst hv
    refine .inr ⟨g, cap, rfl, hle, (Array.getElem?_eq_some_iff.1 hh).1, fun j x hx => ?_⟩
    have hj : j < l.length := (List.getElem?_eq_some_iff.1 hx).1
    rw [Nat.zero_add, World.ownsRow.cellAt h j (by omega), List.getElem?_map, hx]
    rfl
theorem Texts.block (h : Texts E B w v l) (hb : ∀ g, v.ownBlock = some g → w'.heap[g]? = w.heap[g]?) : Texts E B w' v l := by
  obtain ⟨h1, h2⟩ := h
  refine ⟨h1, ?_⟩
  rcases h2 with h2 | ⟨g, cap, cur, hv, hg, hh, r⟩
  · exact .inl h2
  · refine .inr ⟨g, cap, cur, hv, hg, ?_, r⟩
    rw [hb g (by rw [hv]; rfl)]
    exact hh
theorem Texts.alloc (h : Texts E B w v l) (o : Obj) : Texts E B (w.alloc o) v l := World.ownsRow.alloc h o
end

/-- 'append(v, s)' of one string: the walk's arm. -/
theorem append_text {P : Program} {w : World} {ops : Array Oper} {rest : List Oper} {o : Oper} {a : Act} {Q : Exit → Act → World → Prop} (hgd : o.guard = none) (s x : Operand) (t : TypeId)
    (ho : o.op = .call { callee := .builtin .append, args := #[s, x], argTypes := #[t, t] })
    (B : Nat) (e : TypeId) (i : TypeInfo) (z : Value) (bytes : Nat) (ht : P.underlying t = some (.slice e)) (hi : P.info? e = some i) (hz : i.zero = some z)
    (hsize : i.size = 1) (hby : i.bytes = bytes) (hzs : z.cells.size = 1)
    (v : Value) (l : List ByteArray) (u : ByteArray) (hs : a.eval s = v) (hown : Texts e B w v l) (H : Nat) (hH : H = w.heap.size) (c : Nat) (hx : a.eval x = .slice (some ⟨H, 0, none⟩) 1 c)
    (h63 : l.length + 1 ≤ maxLen) (hbytes : (l.length + 1) * bytes ≤ 140737488355328) (hbase : B ≤ w.heap.size)
    (h : ∀ v' w', Texts e B w' v' (l ++ [u]) → Below B w w' → wpList P ops Q rest (a.put o.dst v') w') : wpList P ops Q (o :: rest) a (w.alloc (.cells #[.string u] e)) := by
  subst hH
  refine wpList_append_own (w.alloc (.cells #[.string u] e)) hgd s x t ho B e i z 1 bytes ht hi hz hsize hby hzs (by decide) v l.length (l.map Value.string) hs (hown.alloc _)
    ⟨w.heap.size, 0, none⟩ 1 c [.string u] hx rfl (cell_one_new _ _ _) (by simp [Value.oneCell']) h63 hbytes (by simp; omega) ?_
  intro v' w' h1 h2 _
  refine h v' w' ?_ (((Below.refl B w).alloc hbase _).grown h2 (by simp; omega) (fun g hg => (hown.lt g hg).1))
  unfold Texts
  rw [List.length_append, List.map_append]
  exact h1
end Go.Proofs.YtcdbdfhikbfbpaaGreatDoor
