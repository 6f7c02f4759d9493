/- Slices of tokens: each takes five cells. -/
import Derived.Test.YtomimkgaelkaoaaGreatDoorC13LexA
import Derived.Maps.AppendAt
set_option linter.unusedVariables false
set_option linter.unusedSimpArgs false
namespace Go.Proofs.YtomimkgaelkaoaaGreatDoor
open Go.ChangeShapes Go.WideShapes Go.ChangeAt Go.RowKit
def tkC (t : Tok) : List Value := [.int .i64 t.tk.k, .string (bs t.tk.t), .int .u64 t.tk.n, .int .i64 t.p.1, .int .i64 t.p.2]
theorem tkC_length (t : Tok) : (tkC t).length = 5 := rfl
theorem tkC_at : ∀ (l : List Tok) (i j : Nat), j < 5 → (l.flatMap tkC)[i * 5 + j]? = (l[i]?).bind (fun t => (tkC t)[j]?)
 | [], i, j, _ => by simp
 | t :: r, 0, j, h => by
  rw [List.flatMap_cons, List.getElem?_append_left (by rw [tkC_length]; omega)]
  simp
 | t :: r, i + 1, j, h => by
  rw [List.flatMap_cons, List.getElem?_append_right (by rw [tkC_length]; omega), tkC_length, show (i + 1) * 5 + j - 5 = i * 5 + j from by omega, tkC_at r i j h]
  rfl
def Toks (E : TypeId) (B : Nat) (w : World) (v : Value) (l : List Tok) : Prop := w.ownsRow B E 5 v l.length (l.flatMap tkC)
section
variable {E : TypeId} {B : Nat} {w w' : World} {v : Value} {l : List Tok}
theorem Toks.nil (E : TypeId) (B : Nat) (w : World) : Toks E B w (.slice none 0 0) [] := World.ownsRow_nil w B E 5
theorem Toks.lt (h : Toks E B w v l) : ∀ g, v.ownBlock = some g → B ≤ g ∧ g < w.heap.size := World.ownsRow.lt h
theorem Toks.form (h : Toks E B w v l) : (v = .slice none 0 0 ∧ l = []) ∨ ∃ g cap, v = .slice (some ⟨g, 0, none⟩) l.length cap := by
 rcases id h.2 with ⟨h1, h2⟩ | ⟨g, cap, cur, hv, r⟩
 ·exact .inl ⟨h1, List.eq_nil_of_length_eq_zero h2⟩
 ·exact .inr ⟨g, cap, hv⟩
theorem Toks.shape (h : Toks E B w v l) : ∃ a c, v = .slice a l.length c := by
 rcases h.form with ⟨rfl, rfl⟩ | ⟨g, cap, rfl⟩
 ·exact ⟨_, _, rfl⟩
 ·exact ⟨_, _, rfl⟩
theorem Toks.block (h : Toks E B w v l) (hb : ∀ g, v.ownBlock = some g → w'.heap[g]? = w.heap[g]?) : Toks E B w' v l := by
 obtain ⟨h1, h2⟩ := h
 refine ⟨h1, ?_⟩
 rcases h2 with h2 | ⟨g, cap, cur, hv, hg, hh, r⟩
 ·exact .inl h2
 ·refine .inr ⟨g, cap, cur, hv, hg, ?_, r⟩
  rw [hb g (by rw [hv]; rfl)]
  exact hh
theorem Toks.below {B' : Nat} (h : Toks E B w v l) (hb : Below B' w w') (hg : w.heap.size ≤ B') : Toks E B w' v l :=
 h.block fun g hv => hb.block g (Nat.lt_of_lt_of_le (h.lt g hv).2 hg)
theorem Toks.alloc (h : Toks E B w v l) (o : Obj) : Toks E B (w.alloc o) v l := World.ownsRow.alloc h o
theorem Toks.setOther (h : Toks E B w v l) {a : Addr} (ha : ∀ g, v.ownBlock = some g → g ≠ a.block) (u : Value) : Toks E B (w.setCell a u) v l :=
 h.block fun g hv => Below.heap_setCell _ _ _ _ (ha g hv)
theorem Toks.low (h : Toks E B w v l) {a : Addr} (ha : a.block < B) (u : Value) : Toks E B (w.setCell a u) v l :=
 h.setOther (fun g hg => by have := (h.lt g hg).1; omega) u
theorem Toks.base {B' : Nat} (h : Toks E B w v l) (hb : B' ≤ B) : Toks E B' w v l := by
 obtain ⟨h1, h2⟩ := h
 refine ⟨h1, ?_⟩
 rcases h2 with h2 | ⟨g, cap, cur, hv, hg, r⟩
 ·exact .inl h2
 ·exact .inr ⟨g, cap, cur, hv, by omega, r⟩
end
theorem append_tok {P : Program} {w : World} {ops : Array Oper} {rest : List Oper} {o : Oper} {a : Act} {Q : Exit → Act → World → Prop} (hgd : o.guard = none) (s x : Operand) (t : TypeId)
  (ho : o.op = .call { callee := .builtin .append, args := #[s, x], argTypes := #[t, t] })
  (B : Nat) (e : TypeId) (i : TypeInfo) (z : Value) (bytes : Nat) (ht : P.underlying t = some (.slice e)) (hi : P.info? e = some i) (hz : i.zero = some z)
  (hsize : i.size = 5) (hby : i.bytes = bytes) (hzs : z.cells.size = 5)
  (v : Value) (l : List Tok) (u : Tok) (c0 c1 c2 c3 c4 : Value) (hu : [c0, c1, c2, c3, c4] = tkC u) (hs : a.eval s = v) (hown : Toks e B w v l) (H : Nat) (hH : H = w.heap.size) (c : Nat) (hx : a.eval x = .slice (some ⟨H, 0, none⟩) 1 c)
  (h63 : l.length + 1 ≤ maxLen) (hbytes : (l.length + 1) * bytes ≤ 140737488355328) (hbase : B ≤ w.heap.size)
  (h : ∀ v' w', Toks e B w' v' (l ++ [u]) → Below B w w' → (∀ g, g < w.heap.size → v.ownBlock ≠ some g → w'.heap[g]? = w.heap[g]?) → wpList P ops Q rest (a.put o.dst v') w') : wpList P ops Q (o :: rest) a (w.alloc (.cells #[c0, c1, c2, c3, c4] e)) := by
 subst hH
 refine wpList_append_own (w.alloc (.cells #[c0, c1, c2, c3, c4] e)) hgd s x t ho B e i z 5 bytes ht hi hz hsize hby hzs (by decide) v l.length (l.flatMap tkC) hs (hown.alloc _)
  ⟨w.heap.size, 0, none⟩ 1 c (tkC u) hx (by rw [tkC_length]) ?_ ?_ h63 hbytes (by simp; omega) ?_
 ·intro j y hy
  rw [← hu] at hy
  rw [show (⟨w.heap.size, 0, none⟩ : Addr).add j = ⟨w.heap.size, j, none⟩ from by unfold Addr.add; split <;> simp_all, cell_of_row _ _ _ _ _ (0, 0) (heap_alloc_new w _)]
  simpa using hy
 ·intro y hy
  simp only [tkC, List.mem_cons, List.mem_nil_iff, or_false] at hy
  rcases hy with rfl | rfl | rfl | rfl | rfl <;> rfl
 ·intro v' w' h1 h2 _
  refine h v' w' ?_ (((Below.refl B w).alloc hbase _).grown h2 (by simp; omega) (fun g hg => (hown.lt g hg).1)) (fun g hg hne => (h2.block g (by simp; omega) (fun e => hne e.symm)).trans (Below.heap_alloc _ _ _ hg))
  unfold Toks
  rw [List.length_append, List.flatMap_append, List.flatMap_singleton]
  exact h1
theorem tok_heap {w' w3 : World} {v : Value} {c0 c1 c2 c3 c4 : Value} {e : TypeId} (hv : ∀ g, v.ownBlock = some g → g < w'.heap.size)
  (hk : ∀ g, g < (w'.alloc (.cells #[c0, c1, c2, c3, c4] e)).heap.size → v.ownBlock ≠ some g → w3.heap[g]? = (w'.alloc (.cells #[c0, c1, c2, c3, c4] e)).heap[g]?) :
  w3.heap[w'.heap.size]? = some (.cells #[c0, c1, c2, c3, c4] e (0, 0)) :=
 (hk w'.heap.size (by simp) (fun h => Nat.lt_irrefl _ (hv _ h))).trans (heap_alloc_new w' _)
def TkS (w : World) (a : Option Addr) (l : List Tok) : Prop := ∀ i t, l[i]? = some t → ∃ g, a = some ⟨g, 0, none⟩ ∧ g < w.heap.size ∧
 w.cell? ⟨g, i * 5, none⟩ = some (.int .i64 t.tk.k) ∧ w.cell? ⟨g, i * 5 + 1, none⟩ = some (.string (bs t.tk.t)) ∧ w.cell? ⟨g, i * 5 + 2, none⟩ = some (.int .u64 t.tk.n) ∧
 w.cell? ⟨g, i * 5 + 3, none⟩ = some (.int .i64 t.p.1) ∧ w.cell? ⟨g, i * 5 + 4, none⟩ = some (.int .i64 t.p.2)
theorem Toks.rd {E : TypeId} {B : Nat} {w : World} {a : Option Addr} {n c : Nat} {l : List Tok} (h : Toks E B w (.slice a n c) l) : TkS w a l := by
 intro i t ht
 rcases h.form with ⟨h1, rfl⟩ | ⟨g, cap, h1⟩
 ·simp at ht
 ·simp only [Value.slice.injEq] at h1
  obtain ⟨rfl, rfl, rfl⟩ := h1
  have hi : i < l.length := (List.getElem?_eq_some_iff.1 ht).1
  have k : ∀ j, j < 5 → w.cell? ⟨g, i * 5 + j, none⟩ = (tkC t)[j]? := fun j hj => by
   rw [World.ownsRow.cellAt h (i * 5 + j) (by omega), tkC_at l i j hj, ht]; rfl
  exact ⟨g, rfl, (h.lt g rfl).2, k 0 (by decide), k 1 (by decide), k 2 (by decide), k 3 (by decide), k 4 (by decide)⟩
end Go.Proofs.YtomimkgaelkaoaaGreatDoor
