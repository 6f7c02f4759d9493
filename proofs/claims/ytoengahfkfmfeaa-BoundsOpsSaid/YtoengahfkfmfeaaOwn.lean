/- Slices of integers that a call has made by append, nil let in; 'append' of one element, and 'string(b)' of bytes. No program. -/
import Derived.Test.YtoengahfkfmfeaaSlice
import Derived.Laws.IdiomStrings
import Derived.Maps.AppendAt
set_option linter.unusedVariables false
set_option linter.unusedSimpArgs false
namespace Go.Proofs.Ytoengahfkfmfeaa
open Go.RowKit

/-- The slice v, nil or made by the call (from block B on), holds the integers l. -/
def Own (E : TypeId) (k : IntKind) (B : Nat) (w : World) (v : Value) (l : List Int) : Prop := w.ownsRow B E 1 v l.length (l.map (Value.int k))

/-- One callee more. -/
theorem chain {B : Nat} {a b c : World} (h : Below B a b) (hB : B ≤ a.heap.size) (k : Below b.heap.size b c) : Below B a c := h.trans (k.mono (Nat.le_trans hB h.size))

section
variable {E : TypeId} {k : IntKind} {B : Nat} {w w' : World} {v : Value} {l : List Int}
theorem Own.nil (E : TypeId) (k : IntKind) (B : Nat) (w : World) : Own E k B w (.slice none 0 0) [] := World.ownsRow_nil w B E 1
theorem Own.of_row {g cap : Nat} (h : Row E k B w g cap l) : Own E k B w (.slice (some ⟨g, 0, none⟩) l.length cap) l := h
theorem Own.lt (h : Own E k B w v l) : ∀ g, v.ownBlock = some g → B ≤ g ∧ g < w.heap.size := World.ownsRow.lt h
theorem Own.form (h : Own E k B w v l) : (v = .slice none 0 0 ∧ l = []) ∨ ∃ g cap, v = .slice (some ⟨g, 0, none⟩) l.length cap ∧ Row E k B w g cap l := by
  rcases id h.2 with ⟨h1, h2⟩ | ⟨g, cap, cur, hv, r⟩
  · exact .inl ⟨h1, List.eq_nil_of_length_eq_zero h2⟩
  · subst hv
    exact .inr ⟨g, cap, rfl, h⟩
theorem Own.block (h : Own E k B w v l) (hb : ∀ g, v.ownBlock = some g → w'.heap[g]? = w.heap[g]?) : Own E k B w' v l := by
  rcases h.form with ⟨rfl, rfl⟩ | ⟨g, cap, rfl, hr⟩
  · exact Own.nil ..
  · exact hr.block (hb g rfl)
theorem Own.below {B' : Nat} (h : Own E k B w v l) (hb : Below B' w w') (hg : w.heap.size ≤ B') : Own E k B w' v l :=
  h.block fun g hv => hb.block g (by have := (h.lt g hv).2; omega)
theorem Own.alloc (h : Own E k B w v l) (o : Obj) : Own E k B (w.alloc o) v l := World.ownsRow.alloc h o
theorem Own.setOther (h : Own E k B w v l) {a : Addr} (ha : v.ownBlock ≠ some a.block) (u : Value) : Own E k B (w.setCell a u) v l :=
  h.block fun g hv => Below.heap_setCell _ _ _ _ (fun e => ha (by rw [hv, e]))
theorem Own.base {B' : Nat} (h : Own E k B w v l) (hb : B' ≤ B) : Own E k B' w v l := by
  rcases h.form with ⟨rfl, rfl⟩ | ⟨g, cap, rfl, hr⟩
  · exact Own.nil ..
  · exact hr.base hb
theorem Own.of {n : Nat} {xs : List Value} (h : w.ownsRow B E 1 v n xs) (hn : n = l.length) (hx : xs = l.map (Value.int k)) : Own E k B w v l := by
  subst hn hx
  exact h
theorem Own.shape (h : Own E k B w v l) : ∃ a c, v = .slice a l.length c := by
  rcases h.form with ⟨rfl, rfl⟩ | ⟨g, cap, rfl, hr⟩
  · exact ⟨_, _, rfl⟩
  · exact ⟨_, _, rfl⟩
end

/-- 'append(v, u)' of one integer onto such a slice: the walk's arm. -/
theorem append_own1 {P : Program} {w : World} {ops : Array Oper} {rest : List Oper} {o : Oper} {a : Act} {Q : Exit → Act → World → Prop} (hgd : o.guard = none) (s x : Operand) (t : TypeId)
    (ho : o.op = .call { callee := .builtin .append, args := #[s, x], argTypes := #[t, t] })
    (B : Nat) (e : TypeId) (i : TypeInfo) (z : Value) (bytes : Nat) (ht : P.underlying t = some (.slice e)) (hi : P.info? e = some i) (hz : i.zero = some z)
    (hsize : i.size = 1) (hby : i.bytes = bytes) (hzs : z.cells.size = 1)
    (kk : IntKind) (v : Value) (l : List Int) (u : Int) (hs : a.eval s = v) (hown : Own e kk B w v l) (c : Nat) (hx : a.eval x = .slice (some ⟨w.heap.size, 0, none⟩) 1 c)
    (h63 : l.length + 1 ≤ maxLen) (hbytes : (l.length + 1) * bytes ≤ 140737488355328) (hbase : B ≤ w.heap.size)
    (h : ∀ v' w', Own e kk B w' v' (l ++ [u]) → Below B w w' → wpList P ops Q rest (a.put o.dst v') w') : wpList P ops Q (o :: rest) a (w.alloc (.cells #[.int kk u] e)) :=
  wpList_append_own (w.alloc (.cells #[.int kk u] e)) hgd s x t ho B e i z 1 bytes ht hi hz hsize hby hzs (by decide) v l.length (l.map (Value.int kk)) hs (hown.alloc _)
    ⟨w.heap.size, 0, none⟩ 1 c [.int kk u] hx rfl (cell_one_new _ _ _) (by simp [Value.oneCell']) h63 hbytes (by simp; omega)
    fun v' w' h1 h2 _ => h v' w' (Own.of h1 (by simp) (by simp)) (((Below.refl B w).alloc hbase _).grown h2 (by simp; omega) (fun g hg => (hown.lt g hg).1))

/-- The bytes of a list, as the cells hold them. -/
def bytesI (l : List UInt8) : List Int := l.map (fun b => (b.toNat : Int))
theorem bytesI_length (l : List UInt8) : (bytesI l).length = l.length := by simp [bytesI]
theorem bytesI_set (l : List UInt8) (j : Nat) (b : UInt8) : bytesI (l.set j b) = (bytesI l).set j (b.toNat : Int) := by simp [bytesI, List.map_set]
theorem bytesI_append (l m : List UInt8) : bytesI (l ++ m) = bytesI l ++ bytesI m := by simp [bytesI]
theorem el_bytesI (l : List UInt8) (j : Nat) (b : UInt8) (h : l[j]? = some b) : el (bytesI l) j = b.toNat := by simp [el, bytesI, h]

/-- 'string(b)', b the call's own. -/
theorem text_row {P : Program} {e src dst : TypeId} (hs : P.underlying src = some (.slice e)) (he : P.underlying e = some (.int .u8)) (hd : P.underlying dst = some .string)
    (w : World) (B g cap n : Nat) (l : List UInt8) (hn : n = l.length) (h : Row e .u8 B w g cap (bytesI l)) :
    (convert src dst (.slice (some ⟨g, 0, none⟩) n cap)).run P w = .ok (.string ⟨l.toArray⟩) w := by
  subst hn
  refine run_convert_bytes_back w _ _ _ _ cap l hs he hd (fun j hj => ?_)
  have := h.cell (j := j) (by rw [bytesI_length]; exact hj)
  simp only [bytesI, el, List.getElem?_map, List.getElem?_eq_getElem hj, Option.map_some, Option.getD_some] at this
  rw [← this]
  unfold Addr.add
  split <;> simp_all
theorem text_own {P : Program} {e src dst : TypeId} (hs : P.underlying src = some (.slice e)) (he : P.underlying e = some (.int .u8)) (hd : P.underlying dst = some .string)
    (w : World) (B : Nat) (v : Value) (l : List UInt8) (h : Own e .u8 B w v (bytesI l)) : (convert src dst v).run P w = .ok (.string ⟨l.toArray⟩) w := by
  rcases h.form with ⟨rfl, h0⟩ | ⟨g, cap, rfl, hr⟩
  · obtain rfl : l = [] := by cases l <;> simp_all [bytesI]
    rw [run_convert_bytes_string w src dst e none 0 0 hs he hd]
    rfl
  · exact text_row hs he hd w B g cap _ l (bytesI_length l) hr

end Go.Proofs.Ytoengahfkfmfeaa
