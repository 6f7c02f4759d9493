/- Layer 11: the law's files. -/
import Derived.Test.YtoengahfkfmfeaaBdH
import Derived.Deep.RegionLaw
set_option linter.unusedVariables false
set_option linter.unusedSimpArgs false
namespace Go.Proofs.Ytoengahfkfmfeaa
open Go.ChangeShapes Go.WideShapes Go.ChangeAt Go.RowKit

theorem ownsRow_shape {w : World} {B : Nat} {e : TypeId} {size : Nat} {v : Value} {n : Nat} {xs : List Value} (h : w.ownsRow B e size v n xs) : ∃ a c, v = .slice a n c := by
  rcases h.2 with ⟨rfl, rfl⟩ | ⟨g, cap, cur, rfl, r⟩
  · exact ⟨_, _, rfl⟩
  · exact ⟨_, _, rfl⟩
theorem flat_at {α : Type} (size : Nat) : ∀ (cs : List (List α)), (∀ c ∈ cs, c.length = size) → ∀ i j, j < size → cs.flatten[i * size + j]? = (cs[i]?).bind (fun c => c[j]?)
  | [], _, i, j, _ => by simp
  | c :: r, h, 0, j, hj => by
    have hc := h c (by simp)
    rw [List.flatten_cons, List.getElem?_append_left (by omega)]
    simp
  | c :: r, h, i + 1, j, hj => by
    have hc := h c (by simp)
    have e : (i + 1) * size + j = size + (i * size + j) := by rw [Nat.add_mul]; omega
    rw [List.flatten_cons, List.getElem?_append_right (by omega), e, hc, show size + (i * size + j) - size = i * size + j from by omega, flat_at size r (fun x hx => h x (by simp [hx])) i j hj]
    rfl
theorem cell_set_row {w : World} {g : Nat} {cur : Array Value} {t : TypeId} {j : Nat} (h : w.heap[g]? = some (.cells cur t (0, 0))) (hj : j < cur.size) (v : Value) :
    (w.setCell ⟨g, j, none⟩ v).heap[g]? = some (.cells (cur.set j v hj) t (0, 0)) := by
  simp only [World.setCell, Array.getElem?_modify, if_pos, h, Option.map_some]
  simp [Array.setIfInBounds, hj]
theorem info_expr : (Try.prog.info? 83).map (fun i => (i.zero, i.size, i.bytes)) = some (some (.agg #[.int .i64 0, .string ⟨#[]⟩, .int .u64 0, .string ⟨#[]⟩, .slice none 0 0]), 5, 72) := by kernel_rfl
/-- 'append' of one struct at a step of a region that draws its order; the row's base is said. -/
theorem step_row {P : Program} (w : World) {ops : Array Oper} {o : Oper} {a : Act} {K : Act → World → Prop} {Q : Exit → Act → World → Prop} {F : Prop} (hgd : o.guard = none) (s x : Operand) (t : TypeId)
    (ho : o.op = .call { callee := .builtin .append, args := #[s, x], argTypes := #[t, t] })
    (B : Nat) (e : TypeId) (i : TypeInfo) (z : Value) (size bytes : Nat) (ht : P.underlying t = some (.slice e)) (hi : P.info? e = some i) (hz : i.zero = some z)
    (hsize : i.size = size) (hby : i.bytes = bytes) (hzs : z.cells.size = size) (hpos : 0 < size)
    (v : Value) (n : Nat) (xs : List Value) (hs : a.eval s = v) (hown : w.ownsRow B e size v n xs)
    (H c : Nat) (news : List Value) (hx : a.eval x = .slice (some ⟨H, 0, none⟩) 1 c) (hl : news.length = size) (hh : w.heap[H]? = some (.cells news.toArray e (0, 0))) (h1 : ∀ u ∈ news, u.oneCell' = true)
    (h63 : n + 1 ≤ maxLen) (hbytes : (n + 1) * bytes ≤ 140737488355328) (hbase : B ≤ w.heap.size)
    (h : ∀ v' w', w'.ownsRow B e size v' (n + 1) (xs ++ news) → w.grownBy w' v.ownBlock → K (a.put o.dst v') w') :
    if Region.wanted o (yielded ops a.tmps) = true then Oper.wp P o a w K Q else F := by
  have hw : Region.wanted o (yielded ops a.tmps) = true := by simp [Region.wanted, hgd]
  rw [if_pos hw]
  obtain ⟨v', w', hr, h2, h3, _, h5⟩ := run_append_own_at (P := P) w B t o.type e i z size bytes ht hi hz hsize hby hzs hpos v n xs hown ⟨H, 0, none⟩ 1 c news (by omega)
    (fun j u hu => by
      rw [show (⟨H, 0, none⟩ : Addr).add j = ⟨H, j, none⟩ from by unfold Addr.add; split <;> simp_all, cell_of_row _ _ _ _ _ (0, 0) hh]
      simpa using hu) h1 h63 hbytes hbase
  have hK := h v' w' h2 h3
  unfold Oper.wp execOp
  simp only [ho, resolve, invoke, builtin, Sem.run_bind, Sem.run_pure, Result.andThen_ok, List.map_toArray, List.map_cons, List.map_nil, hs, hx, hr]
  exact hK
theorem heap_fst (w : World) (A B : Obj) : ((w.alloc A).alloc B).heap[w.heap.size]? = some A := (Below.heap_alloc _ _ _ (by simp)).trans (World.alloc_heap_new _ _)
theorem heap_snd (w : World) (A B : Obj) : ((w.alloc A).alloc B).heap[w.heap.size + 1]? = some B := by
  have := World.alloc_heap_new (w.alloc A) B
  rwa [World.size_alloc] at this
/-- Rows of different types lie in different blocks. -/
theorem own_ne {w : World} {B B' : Nat} {e e' : TypeId} {s s' : Nat} {v v' : Value} {n n' : Nat} {xs xs' : List Value} (h : w.ownsRow B e s v n xs) (h' : w.ownsRow B' e' s' v' n' xs') (hne : e ≠ e') : v.ownBlock = none ∨ v.ownBlock ≠ v'.ownBlock := by
  rcases h.2 with ⟨rfl, _⟩ | ⟨g, cap, cur, rfl, _, hg, _⟩
  · exact .inl rfl
  · rcases h'.2 with ⟨rfl, _⟩ | ⟨g', cap', cur', rfl, _, hg', _⟩
    · exact .inr (by simp [Value.ownBlock])
    · refine .inr fun q => ?_
      simp [Value.ownBlock] at q
      subst q
      rw [hg] at hg'
      cases hg'
      exact hne rfl
theorem ownsRow_below {w w' : World} {B : Nat} {e : TypeId} {size : Nat} {v : Value} {n : Nat} {xs : List Value} (h : w.ownsRow B e size v n xs) (hb : Below w.heap.size w w') : w'.ownsRow B e size v n xs := by
  have hl := World.ownsRow.lt h
  obtain ⟨h1, h2⟩ := h
  refine ⟨h1, ?_⟩
  rcases h2 with h2 | ⟨g', cap', cur, rfl, hg, hh, r⟩
  · exact Or.inl h2
  · exact Or.inr ⟨g', cap', cur, rfl, hg, (hb.block g' (hl g' rfl).2).trans hh, r⟩
/-- A slice of expressions that came in. -/
def ArgX (w : World) (a : Option Addr) (c : Nat) (l : List XE) : Prop :=
  l.length ≤ c ∧ c ≤ maxLen ∧ ∀ (i : Nat) x, l[i]? = some x → W64 x.n ∧ ∃ (p : Addr) (ka : Option Addr) (kc : Nat), a = some p ∧ p.block < w.heap.size ∧ w.cell? (p.add (i * 5)) = some (.int .i64 x.k) ∧ w.cell? ((p.add (i * 5)).add 1) = some (.string (bs x.op)) ∧
    w.cell? ((p.add (i * 5)).add 2) = some (.int .u64 x.n) ∧ w.cell? ((p.add (i * 5)).add 3) = some (.string (bs x.s)) ∧ w.cell? ((p.add (i * 5)).add 4) = some (.slice ka x.kids.length kc) ∧ x.kids.length ≤ kc ∧ kc ≤ maxLen ∧
    ∀ (j : Nat) y, x.kids[j]? = some y → (∃ q : Addr, ka = some q ∧ q.block < w.heap.size ∧ w.cell? (q.add j) = some (.int .i64 y)) ∧ -9223372036854775808 ≤ y ∧ y ≤ 9223372036854775807
def cutK (x : XE) : XE := { x with kids := x.kids.take 4 }
/-- Rows of expressions that the law has made; their operands lie where they lay. -/
def ExRow (B : Nat) (w0 w : World) (v : Value) (xs : List XE) : Prop :=
  ∃ css : List (List Value), w.ownsRow B 83 5 v xs.length css.flatten ∧ css.length = xs.length ∧ (∀ c ∈ css, c.length = 5) ∧ ∀ (j : Nat) c x, css[j]? = some c → xs[j]? = some x → ∃ kv, c = [.int .i64 x.k, .string (bs x.op), .int .u64 x.n, .string (bs x.s), kv] ∧ KidR w0 kv x.kids
theorem ExRow.at {B : Nat} {w0 w : World} {v : Value} {xs : List XE} (h : ExRow B w0 w v xs) (hb : Below w0.heap.size w0 w) (hl : xs.length < 1000000000000) : ExsAt w v xs := by
  obtain ⟨css, h1, h2, h3, h4⟩ := h
  have h' := h1
  rcases id h1.2 with ⟨rfl, h0⟩ | ⟨g, cap, cur, rfl, _⟩
  · have : xs = [] := List.eq_nil_of_length_eq_zero h0
    subst this
    exact ⟨none, 0, rfl, hl, fun i x hx => by simp at hx⟩
  · refine ⟨_, _, rfl, hl, fun i x hx => ?_⟩
    have hi := (List.getElem?_eq_some_iff.1 hx).1
    have hc : css[i]? = some (css[i]'(by omega)) := List.getElem?_eq_getElem (by omega)
    obtain ⟨kv, e, hk⟩ := h4 i _ x hc hx
    have cell : ∀ j, j < 5 → w.cell? ⟨g, i * 5 + j, none⟩ = (css[i]'(by omega))[j]? := fun j hj => by
      rw [World.ownsRow.cellAt h' _ (by omega), flat_at 5 css h3 i j hj, hc]; rfl
    refine ⟨g, kv, rfl, (World.ownsRow.lt h' g rfl).2, ?_, ?_, ?_, ?_, ?_, hk.below hb⟩
    · have := cell 0 (by decide); rw [e] at this; exact this
    · have := cell 1 (by decide); rw [e] at this; exact this
    · have := cell 2 (by decide); rw [e] at this; exact this
    · have := cell 3 (by decide); rw [e] at this; exact this
    · have := cell 4 (by decide); rw [e] at this; exact this
theorem ExRow.snoc {B : Nat} {w0 w : World} {v : Value} {xs : List XE} {css : List (List Value)} {x : XE} {kv : Value} (h : w.ownsRow B 83 5 v (xs.length + 1) (css.flatten ++ [.int .i64 x.k, .string (bs x.op), .int .u64 x.n, .string (bs x.s), kv]))
    (h2 : css.length = xs.length) (h3 : ∀ c ∈ css, c.length = 5) (h4 : ∀ (j : Nat) c x, css[j]? = some c → xs[j]? = some x → ∃ kv, c = [.int .i64 x.k, .string (bs x.op), .int .u64 x.n, .string (bs x.s), kv] ∧ KidR w0 kv x.kids) (hk : KidR w0 kv x.kids) : ExRow B w0 w v (xs ++ [x]) := by
  refine ⟨css ++ [[.int .i64 x.k, .string (bs x.op), .int .u64 x.n, .string (bs x.s), kv]], by rw [List.length_append, List.flatten_append]; simpa using h, by simp [h2], fun c hc => ?_, fun j c y hc hy => ?_⟩
  · rcases List.mem_append.1 hc with hc | hc
    · exact h3 c hc
    · simp at hc; subst hc; rfl
  · by_cases hj : j < xs.length
    · rw [List.getElem?_append_left (by omega)] at hc
      rw [List.getElem?_append_left hj] at hy
      exact h4 j c y hc hy
    · have hj2 : j = xs.length := by have := (List.getElem?_eq_some_iff.1 hy).1; simp at this; omega
      subst hj2
      rw [List.getElem?_append_right (by omega), h2] at hc
      rw [List.getElem?_append_right (by omega)] at hy
      simp at hc hy
      subst hc hy
      exact ⟨kv, rfl, hk⟩
theorem ex_info_dexpr : (Try.prog.info? 84).map (fun i => (i.zero, i.size, i.bytes)) = some (some (.agg #[.int .i64 0, .string ⟨#[]⟩, .int .u64 0, .string ⟨#[]⟩, .slice none 0 0]), 5, 72) := by kernel_rfl
/-- The block of the law's File. -/
def FileB (w : World) (g : Nat) (v : Value) : Prop := w.heap[g]? = some (.cells #[.slice none 0 0, .slice none 0 0, v, .slice none 0 0] 77 (0, 0))

/-- A block of five cells. -/
def Five (w : World) (g : Nat) (T : TypeId) (c0 c1 c2 c3 c4 : Value) : Prop := w.heap[g]? = some (.cells #[c0, c1, c2, c3, c4] T (0, 0))
theorem Five.cells {w : World} {g : Nat} {T : TypeId} {c0 c1 c2 c3 c4 : Value} (h : Five w g T c0 c1 c2 c3 c4) : w.cell? ⟨g, 0, none⟩ = some c0 ∧ w.cell? ⟨g, 1, none⟩ = some c1 ∧ w.cell? ⟨g, 2, none⟩ = some c2 ∧ w.cell? ⟨g, 3, none⟩ = some c3 ∧ w.cell? ⟨g, 4, none⟩ = some c4 ∧ ∀ j, w.frozen? ⟨g, j, none⟩ = false := by
  unfold Five at h
  refine ⟨?_, ?_, ?_, ?_, ?_, fun j => by simp [World.frozen?, h]⟩ <;> (rw [cell_of_row _ _ _ _ _ (0, 0) h]; rfl)
theorem FileB.cells {w : World} {g : Nat} {v : Value} (h : FileB w g v) : w.cell? ⟨g, 2, none⟩ = some v ∧ ∀ j, w.frozen? ⟨g, j, none⟩ = false := by
  unfold FileB at h
  refine ⟨?_, fun j => by simp [World.frozen?, h]⟩
  rw [cell_of_row _ _ _ _ _ (0, 0) h]; rfl
theorem FileB.set {w : World} {g : Nat} {v : Value} (h : FileB w g v) (u : Value) : FileB (w.setCell ⟨g, 2, none⟩ u) g u := cell_set_row h (by simp) _
theorem FileB.ne {w : World} {g B : Nat} {u v : Value} {e : TypeId} {s n : Nat} {xs : List Value} (h : FileB w g u) (h' : w.ownsRow B e s v n xs) (hne : e ≠ 77) : v.ownBlock ≠ some g := by
  rcases h'.2 with ⟨rfl, _⟩ | ⟨g', cap', cur', rfl, _, hg', _⟩
  · simp [Value.ownBlock]
  · intro q
    simp [Value.ownBlock] at q
    subst q
    rw [show w.heap[g']? = _ from h] at hg'
    cases hg'
    exact hne rfl
def FiveS (b : Nat) (c0 c1 c2 c3 c4 : Value) (w : World) : Prop := w.cell? ⟨b, 0, none⟩ = some c0 ∧ w.cell? ⟨b, 1, none⟩ = some c1 ∧ w.cell? ⟨b, 2, none⟩ = some c2 ∧ w.cell? ⟨b, 3, none⟩ = some c3 ∧ w.cell? ⟨b, 4, none⟩ = some c4
section
variable {b : Nat} {c0 c1 c2 c3 c4 : Value} {w w' : World}
theorem FiveS.same (h : FiveS b c0 c1 c2 c3 c4 w) (e : w'.heap[b]? = w.heap[b]?) : FiveS b c0 c1 c2 c3 c4 w' := by
  obtain ⟨h0, h1, h2, h3, h4⟩ := h
  exact ⟨(World.cell?_of_block (a := ⟨b, 0, none⟩) e).trans h0, (World.cell?_of_block (a := ⟨b, 1, none⟩) e).trans h1, (World.cell?_of_block (a := ⟨b, 2, none⟩) e).trans h2, (World.cell?_of_block (a := ⟨b, 3, none⟩) e).trans h3, (World.cell?_of_block (a := ⟨b, 4, none⟩) e).trans h4⟩
theorem FiveS.lt (h : FiveS b c0 c1 c2 c3 c4 w) : b < w.heap.size := World.block_lt_of_cell? w _ h.1
theorem FiveS.alloc (h : FiveS b c0 c1 c2 c3 c4 w) (o : Obj) : FiveS b c0 c1 c2 c3 c4 (w.alloc o) := h.same (Below.heap_alloc _ _ _ h.lt)
theorem FiveS.grown {row : Option Nat} (h : FiveS b c0 c1 c2 c3 c4 w) (hg : w.grownBy w' row) (hne : row ≠ some b) : FiveS b c0 c1 c2 c3 c4 w' := h.same (hg.block b h.lt (fun e => hne e.symm))
theorem FiveS.set (h : FiveS b c0 c1 c2 c3 c4 w) {g j : Nat} (hne : g ≠ b) (u : Value) : FiveS b c0 c1 c2 c3 c4 (w.setCell ⟨g, j, none⟩ u) := h.same (Below.heap_setCell _ _ _ _ (fun e => hne e.symm))
end
/-- 'append' of one struct, the row's base said. -/
theorem list_row {P : Program} {w : World} {ops : Array Oper} {rest : List Oper} {o : Oper} {a : Act} {Q : Exit → Act → World → Prop} (hgd : o.guard = none) (s x : Operand) (t : TypeId)
    (ho : o.op = .call { callee := .builtin .append, args := #[s, x], argTypes := #[t, t] })
    (B : Nat) (e : TypeId) (i : TypeInfo) (z : Value) (size bytes : Nat) (ht : P.underlying t = some (.slice e)) (hi : P.info? e = some i) (hz : i.zero = some z)
    (hsize : i.size = size) (hby : i.bytes = bytes) (hzs : z.cells.size = size) (hpos : 0 < size)
    (v : Value) (n : Nat) (xs : List Value) (hs : a.eval s = v) (hown : w.ownsRow B e size v n xs)
    (H c : Nat) (news : List Value) (hx : a.eval x = .slice (some ⟨H, 0, none⟩) 1 c) (hl : news.length = size) (hh : w.heap[H]? = some (.cells news.toArray e (0, 0))) (h1 : ∀ u ∈ news, u.oneCell' = true)
    (h63 : n + 1 ≤ maxLen) (hbytes : (n + 1) * bytes ≤ 140737488355328) (hbase : B ≤ w.heap.size)
    (h : ∀ v' w', w'.ownsRow B e size v' (n + 1) (xs ++ news) → w.grownBy w' v.ownBlock → wpList P ops Q rest (a.put o.dst v') w') : wpList P ops Q (o :: rest) a w :=
  wpList_append_own_at w hgd s x t ho B e i z size bytes ht hi hz hsize hby hzs hpos v n xs hs hown ⟨H, 0, none⟩ 1 c news hx (by omega)
    (fun j u hu => by
      rw [show (⟨H, 0, none⟩ : Addr).add j = ⟨H, j, none⟩ from by unfold Addr.add; split <;> simp_all, cell_of_row _ _ _ _ _ (0, 0) hh]
      simpa using hu) h1 h63 hbytes hbase fun v' w' a b _ _ => h v' w' a b
set_option maxHeartbeats 4000000 in
set_option maxRecDepth 100000 in
theorem files_any (a : Option Addr) (c : Nat) (l : List XE) (w : World) (h : ArgX w a c l) :
    Calls Try.prog 18 #[.slice a l.length c] w fun q w' => ∃ g v2, q = .returned (.tuple #[.pointer (some ⟨g, 0, none⟩), v2]) ∧ FileX w' g 0 ((l.take 60).map cutK) ∧ Below w.heap.size w w' := by
  obtain ⟨i0, hi, hz0, hz1, hz2⟩ := info_parts info_expr
  obtain ⟨j0, hj, hy0, hy1, hy2⟩ := info_parts ex_info_dexpr
  have hlc := h.1
  have hcm := h.2.1
  have H := Lib.hid h
  clear h
  replace hcm : c ≤ 9223372036854775807 := by unfold maxLen at hcm; omega
  obtain ⟨m, hm⟩ : ∃ m : Nat, (l.take 60).length = m := ⟨_, rfl⟩
  have hm2 : m = min 60 l.length := by rw [← hm, List.length_take]
  have hmin : min (l.length : Int) 60 = (m : Int) := by omega
  have hmax : max (m : Int) 0 = (m : Int) := by omega
  have hm20 : (m : Int) ≤ 60 := by omega
  have hml : (m : Int) ≤ (l.length : Int) := by omega
  have HM := Lib.hid hm
  have HM2 := Lib.hid hm2
  clear hm hm2
  have hF0 : FileB (w.alloc (.cells #[.slice none 0 0, .slice none 0 0, .slice none 0 0, .slice none 0 0] 77)) w.heap.size (.slice none 0 0) := World.alloc_heap_new w _
  have HF0 := Lib.hid hF0
  have HB0 := Lib.hid ((Below.refl w.heap.size w).alloc (Nat.le_refl _) (.cells #[.slice none 0 0, .slice none 0 0, .slice none 0 0, .slice none 0 0] 77))
  clear hF0
  go_enter Try.func18, Try.ntmps18
  go_wp2_with fail
  generalize w.alloc (.cells #[.slice none 0 0, .slice none 0 0, .slice none 0 0, .slice none 0 0] 77) = W0 at HF0 HB0 ⊢
  go_loopw [5, 16] (fun s5 s16 wr => ∃ (i : Nat) (v : Value) (zs : List Value), s16 = .int .i64 i ∧ i ≤ m ∧ FileB wr w.heap.size v ∧ ExRow w.heap.size w wr v ((l.take i).map cutK) ∧ wr.ownsRow w.heap.size 84 5 s5 i zs ∧ Below w.heap.size w wr) (fun s5 s16 _ => m - (intOf s16).toNat)
  case atStart => exact ⟨0, _, [], rfl, Nat.zero_le _, HF0.out, ⟨[], World.ownsRow_nil _ _ _ _, rfl, by simp, by simp⟩, World.ownsRow_nil _ _ _ _, HB0.out⟩
  case round =>
    clear HF0 HB0
    obtain ⟨i, v, zs, rfl, him, hF, hEx, hD, hB⟩ := hrel
    obtain ⟨css, hR, hcl, hc5, hcx⟩ := id hEx
    have HEX := Lib.hid hEx
    clear hEx
    have hqi : ((l.take i).map cutK).length = i := by rw [List.length_map, List.length_take]; have := HM2.out; omega
    rw [hqi] at hR hcl
    obtain ⟨va, vc, rfl⟩ := ownsRow_shape hR
    obtain ⟨ua, uc, rfl⟩ := ownsRow_shape hD
    by_cases hi2 : i < m
    · obtain ⟨x, hx⟩ : ∃ x, l[i]? = some x := ⟨_, List.getElem?_eq_getElem (by have := HM2.out; omega)⟩
      obtain ⟨q0, p, ka, kc, rfl, q2, k0, k1, k2, k3, k4, kl1, kl2, kk⟩ := H.out.2.2 i x hx
      replace k0 := (hB.cell (by rw [addr_block]; exact q2)).trans k0
      replace k1 : wr.cell? ⟨(p.add (i * 5)).block, (p.add (i * 5)).off + 1, none⟩ = some (.string (bs x.op)) := (hB.cell (p := (p.add (i * 5)).add 1) (by rw [addr_block, addr_block]; exact q2)).trans k1
      replace k2 : wr.cell? ⟨(p.add (i * 5)).block, (p.add (i * 5)).off + 2, none⟩ = some (.int .u64 x.n) := (hB.cell (p := (p.add (i * 5)).add 2) (by rw [addr_block, addr_block]; exact q2)).trans k2
      replace k3 : wr.cell? ⟨(p.add (i * 5)).block, (p.add (i * 5)).off + 3, none⟩ = some (.string (bs x.s)) := (hB.cell (p := (p.add (i * 5)).add 3) (by rw [addr_block, addr_block]; exact q2)).trans k3
      replace k4 : wr.cell? ⟨(p.add (i * 5)).block, (p.add (i * 5)).off + 4, none⟩ = some (.slice ka x.kids.length kc) := (hB.cell (p := (p.add (i * 5)).add 4) (by rw [addr_block, addr_block]; exact q2)).trans k4
      obtain ⟨nk, hnk⟩ : ∃ n : Nat, min x.kids.length 4 = n := ⟨_, rfl⟩
      have hkid : KidR w (.slice ka nk kc) (x.kids.take 4) := ⟨ka, kc, by rw [List.length_take, Nat.min_comm, hnk], by rw [List.length_take]; omega, fun j y hy => by
        have hj : j < 4 := by have := (List.getElem?_eq_some_iff.1 hy).1; rw [List.length_take] at this; omega
        rw [List.getElem?_take_of_lt hj] at hy
        exact kk j y hy⟩
      have hmin2 : min (x.kids.length : Int) 4 = (nk : Int) := by omega
      have hmax2 : max (nk : Int) 0 = (nk : Int) := by omega
      have hnkl : (nk : Int) ≤ (x.kids.length : Int) := by omega
      have hkc : (kc : Int) ≤ 9223372036854775807 := by unfold maxLen at kl2; omega
      have hnkc : (nk : Int) ≤ (kc : Int) := by omega
      have HK := Lib.hid hkid
      have hi2' : (i : Int) < (m : Int) := by omega
      have hil : (i : Int) < (l.length : Int) := by omega
      have HF := Lib.hid hF
      have HR := Lib.hid hR
      have HD := Lib.hid hD
      have HB := Lib.hid hB
      have HQ := Lib.hid hqi
      have HNK := Lib.hid hnk
      have HCL := Lib.hid hcl
      have HC5 := Lib.hid hc5
      have HCX := Lib.hid hcx
      have hx0 := World.alloc_heap_new wr (.cells #[.int .i64 x.k, .string (bs x.op), .int .u64 x.n, .string (bs x.s), .slice ka x.kids.length kc] 80)
      clear hF hR hD hB hqi hkid hcl hc5 hcx kk hnk
      clear HEX
      generalize hO : bs x.op = O at *
      generalize hS : bs x.s = S at *
      have HOE := Lib.hid hO
      have HSE := Lib.hid hS
      clear hO hS
      go_upto_region 6 with fail
      have hB5 := (Below.refl wr.heap.size wr).alloc (Nat.le_refl _) (.cells #[.int .i64 x.k, .string O, .int .u64 x.n, .string S, .slice ka x.kids.length kc] 80)
      have HF5 := Lib.hid (show FileB _ _ _ from (hB5.block w.heap.size (Array.getElem?_eq_some_iff.1 HF.out).1).trans HF.out)
      have HR5 := Lib.hid (ownsRow_below HR.out hB5)
      have HD5 := Lib.hid (ownsRow_below HD.out hB5)
      have HB5 := Lib.hid (HB.out.trans (hB5.mono HB.out.size))
      have hX5 : Five _ wr.heap.size _ _ _ _ _ _ := hx0
      have hsz : (wr.alloc (.cells #[.int .i64 x.k, .string O, .int .u64 x.n, .string S, .slice ka x.kids.length kc] 80)).heap.size = wr.heap.size + 1 := by simp
      clear hB5 hx0
      generalize wr.alloc (.cells #[.int .i64 x.k, .string O, .int .u64 x.n, .string S, .slice ka x.kids.length kc] 80) = W at *
      have hwr := HB.out.size
      obtain ⟨b0, b1, b2, b3, b4, bf⟩ := hX5.cells
      have HX5 := Lib.hid hX5
      have la := World.ownsRow.lt HR.out
      have lb := World.ownsRow.lt HD.out
      have bf4 := bf 4
      clear hX5 bf
      go_upto_region 7 with fail
      have HX6 := Lib.hid (show Five (W.setCell ⟨wr.heap.size, 4, none⟩ (.slice ka nk kc)) wr.heap.size _ _ _ _ _ _ from cell_set_row HX5.out (by simp) _)
      have hS6 : ∀ g, g ≠ wr.heap.size → (W.setCell ⟨wr.heap.size, 4, none⟩ (.slice ka nk kc)).heap[g]? = W.heap[g]? := fun g hg => Below.heap_setCell _ _ _ _ (fun e => hg e)
      have HF6 := Lib.hid (show FileB _ _ _ from (hS6 w.heap.size (by have := (Array.getElem?_eq_some_iff.1 HF.out).1; omega)).trans HF5.out)
      have HR6 := Lib.hid (ownsRow_setCell_other HR5.out (a := ⟨wr.heap.size, 4, none⟩) (fun e => Nat.lt_irrefl _ (la _ e).2) (.slice ka nk kc))
      have HD6 := Lib.hid (ownsRow_setCell_other HD5.out (a := ⟨wr.heap.size, 4, none⟩) (fun e => Nat.lt_irrefl _ (lb _ e).2) (.slice ka nk kc))
      have HB6 := Lib.hid (HB5.out.setCell (p := ⟨wr.heap.size, 4, none⟩) hwr (.slice ka nk kc))
      have hsz6 : (W.setCell ⟨wr.heap.size, 4, none⟩ (.slice ka nk kc)).heap.size = wr.heap.size + 1 := by simpa using hsz
      clear b0 b1 b2 b3 b4 bf4 hS6 HX5 HF5 HR5 HD5 HB5 hsz
      generalize W.setCell ⟨wr.heap.size, 4, none⟩ (.slice ka nk kc) = W6 at *
      obtain ⟨b0, b1, b2, b3, b4, bf⟩ := HX6.out.cells
      obtain ⟨fc, ff⟩ := HF6.out.cells
      have ff2 := ff 2
      have hn1 : i + 1 ≤ maxLen := by unfold maxLen; omega
      have hn2 : (i + 1) * 72 ≤ 140737488355328 := by omega
      have hone : ∀ u ∈ [Value.int .i64 x.k, .string O, .int .u64 x.n, .string S, .slice ka nk kc], u.oneCell' = true := by intro u hu; simp at hu; rcases hu with rfl | rfl | rfl | rfl | rfl <;> rfl
      have hne := HF6.out.ne HR6.out (by decide)
      have hwf : w.heap.size < W6.heap.size := by omega
      clear bf ff
      have hfb : w.heap.size ≠ wr.heap.size := by have := (Array.getElem?_eq_some_iff.1 HF.out).1; omega
      have hvb : (Value.slice va i vc).ownBlock ≠ some wr.heap.size := fun e => Nat.lt_irrefl _ (la _ e).2
      have fcA : (W6.alloc (.cells #[.int .i64 x.k, .string O, .int .u64 x.n, .string S, .slice ka nk kc] 83)).cell? ⟨w.heap.size, 2, none⟩ = some (.slice va i vc) := by rw [World.cell?_alloc_lt _ _ _ hwf]; exact fc
      refine wp_region_noPanic ?_
      refine wp_region_held_drew (S := FiveS wr.heap.size (.int .i64 x.k) (.string O) (.int .u64 x.n) (.string S) (.slice ka nk kc)) (by kernel_rfl) ⟨b0, b1, b2, b3, b4⟩ (fun hHeld => ?_)
      refine wpAnyH_take (i := 0) (oi := ?oi1) (v := (.pointer (some ⟨w.heap.size, 0, none⟩))) ?hi1 (by kernel_rfl) (by kernel_rfl) (by kernel_rfl) (fun _ _ _ h => h) ?hy1 (by assumption) ?rest1
      case hi1 => (simp only [List.getElem?_toArray, List.getElem?_cons_succ, List.getElem?_cons_zero]; rfl)
      case hy1 => exact Or.inl ⟨by rfl, fun w' hS => by go_simp⟩
      try simp only [Act.put, List.setIfInBounds_toArray, List.set_cons_zero, List.set_cons_succ]
      refine wpAnyH_take (i := 1) (oi := ?oi2) (v := (.pointer (some ⟨w.heap.size, 0, none⟩))) ?hi2 (by kernel_rfl) (by kernel_rfl) (by kernel_rfl) (fun _ _ _ h => h) ?hy2 (by assumption) ?rest2
      case hi2 => (simp only [List.getElem?_toArray, List.getElem?_cons_succ, List.getElem?_cons_zero]; rfl)
      case hy2 => exact Or.inl ⟨by rfl, fun w' hS => by go_simp⟩
      try simp only [Act.put, List.setIfInBounds_toArray, List.set_cons_zero, List.set_cons_succ]
      refine wpAnyH_take (i := 2) (oi := ?oi3) (v := (.pointer (some ⟨w.heap.size, 0, none⟩))) ?hi3 (by kernel_rfl) (by kernel_rfl) (by kernel_rfl) (fun _ _ _ h => h) ?hy3 (by assumption) ?rest3
      case hi3 => (simp only [List.getElem?_toArray, List.getElem?_cons_succ, List.getElem?_cons_zero]; rfl)
      case hy3 => exact Or.inl ⟨by rfl, fun w' hS => by go_simp⟩
      try simp only [Act.put, List.setIfInBounds_toArray, List.set_cons_zero, List.set_cons_succ]
      refine wpAnyH_take (i := 3) (oi := ?oi4) (v := (.pointer (some ⟨w.heap.size, 2, none⟩))) ?hi4 (by kernel_rfl) (by kernel_rfl) (by kernel_rfl) (fun _ _ _ h => h) ?hy4 (by assumption) ?rest4
      case hi4 => (simp only [List.getElem?_toArray, List.getElem?_cons_succ, List.getElem?_cons_zero]; rfl)
      case hy4 => exact Or.inl ⟨by rfl, fun w' hS => by go_simp⟩
      try simp only [Act.put, List.setIfInBounds_toArray, List.set_cons_zero, List.set_cons_succ]
      refine wpAnyH_take (i := 5) (oi := ?oi5) (v := (.pointer (some ⟨wr.heap.size, 0, none⟩))) ?hi5 (by kernel_rfl) (by kernel_rfl) (by kernel_rfl) (fun _ _ _ h => h) ?hy5 (by assumption) ?rest5
      case hi5 => (simp only [List.getElem?_toArray, List.getElem?_cons_succ, List.getElem?_cons_zero]; rfl)
      case hy5 => exact Or.inl ⟨by rfl, fun w' hS => by go_simp⟩
      try simp only [Act.put, List.setIfInBounds_toArray, List.set_cons_zero, List.set_cons_succ]
      refine wpAnyH_take (i := 6) (oi := ?oi6) (v := (.int .i64 x.k)) ?hi6 (by kernel_rfl) (by kernel_rfl) (by kernel_rfl) (fun _ _ _ h => h) ?hy6 (by assumption) ?rest6
      case hi6 => (simp only [List.getElem?_toArray, List.getElem?_cons_succ, List.getElem?_cons_zero]; rfl)
      case hy6 => exact Or.inl ⟨by rfl, fun w' hS => by have hp := hS.1; go_simp⟩
      try simp only [Act.put, List.setIfInBounds_toArray, List.set_cons_zero, List.set_cons_succ]
      refine wpAnyH_take (i := 7) (oi := ?oi7) (v := (.pointer (some ⟨wr.heap.size, 1, none⟩))) ?hi7 (by kernel_rfl) (by kernel_rfl) (by kernel_rfl) (fun _ _ _ h => h) ?hy7 (by assumption) ?rest7
      case hi7 => (simp only [List.getElem?_toArray, List.getElem?_cons_succ, List.getElem?_cons_zero]; rfl)
      case hy7 => exact Or.inl ⟨by rfl, fun w' hS => by go_simp⟩
      try simp only [Act.put, List.setIfInBounds_toArray, List.set_cons_zero, List.set_cons_succ]
      refine wpAnyH_take (i := 8) (oi := ?oi8) (v := (.string O)) ?hi8 (by kernel_rfl) (by kernel_rfl) (by kernel_rfl) (fun _ _ _ h => h) ?hy8 (by assumption) ?rest8
      case hi8 => (simp only [List.getElem?_toArray, List.getElem?_cons_succ, List.getElem?_cons_zero]; rfl)
      case hy8 => exact Or.inl ⟨by rfl, fun w' hS => by have hp := hS.2.1; go_simp⟩
      try simp only [Act.put, List.setIfInBounds_toArray, List.set_cons_zero, List.set_cons_succ]
      refine wpAnyH_take (i := 9) (oi := ?oi9) (v := (.pointer (some ⟨wr.heap.size, 2, none⟩))) ?hi9 (by kernel_rfl) (by kernel_rfl) (by kernel_rfl) (fun _ _ _ h => h) ?hy9 (by assumption) ?rest9
      case hi9 => (simp only [List.getElem?_toArray, List.getElem?_cons_succ, List.getElem?_cons_zero]; rfl)
      case hy9 => exact Or.inl ⟨by rfl, fun w' hS => by go_simp⟩
      try simp only [Act.put, List.setIfInBounds_toArray, List.set_cons_zero, List.set_cons_succ]
      refine wpAnyH_take (i := 10) (oi := ?oi10) (v := (.int .u64 x.n)) ?hi10 (by kernel_rfl) (by kernel_rfl) (by kernel_rfl) (fun _ _ _ h => h) ?hy10 (by assumption) ?rest10
      case hi10 => (simp only [List.getElem?_toArray, List.getElem?_cons_succ, List.getElem?_cons_zero]; rfl)
      case hy10 => exact Or.inl ⟨by rfl, fun w' hS => by have hp := hS.2.2.1; go_simp⟩
      try simp only [Act.put, List.setIfInBounds_toArray, List.set_cons_zero, List.set_cons_succ]
      refine wpAnyH_take (i := 11) (oi := ?oi11) (v := (.pointer (some ⟨wr.heap.size, 3, none⟩))) ?hi11 (by kernel_rfl) (by kernel_rfl) (by kernel_rfl) (fun _ _ _ h => h) ?hy11 (by assumption) ?rest11
      case hi11 => (simp only [List.getElem?_toArray, List.getElem?_cons_succ, List.getElem?_cons_zero]; rfl)
      case hy11 => exact Or.inl ⟨by rfl, fun w' hS => by go_simp⟩
      try simp only [Act.put, List.setIfInBounds_toArray, List.set_cons_zero, List.set_cons_succ]
      refine wpAnyH_take (i := 12) (oi := ?oi12) (v := (.string S)) ?hi12 (by kernel_rfl) (by kernel_rfl) (by kernel_rfl) (fun _ _ _ h => h) ?hy12 (by assumption) ?rest12
      case hi12 => (simp only [List.getElem?_toArray, List.getElem?_cons_succ, List.getElem?_cons_zero]; rfl)
      case hy12 => exact Or.inl ⟨by rfl, fun w' hS => by have hp := hS.2.2.2.1; go_simp⟩
      try simp only [Act.put, List.setIfInBounds_toArray, List.set_cons_zero, List.set_cons_succ]
      refine wpAnyH_take (i := 13) (oi := ?oi13) (v := (.pointer (some ⟨wr.heap.size, 4, none⟩))) ?hi13 (by kernel_rfl) (by kernel_rfl) (by kernel_rfl) (fun _ _ _ h => h) ?hy13 (by assumption) ?rest13
      case hi13 => (simp only [List.getElem?_toArray, List.getElem?_cons_succ, List.getElem?_cons_zero]; rfl)
      case hy13 => exact Or.inl ⟨by rfl, fun w' hS => by go_simp⟩
      try simp only [Act.put, List.setIfInBounds_toArray, List.set_cons_zero, List.set_cons_succ]
      refine wpAnyH_take (i := 14) (oi := ?oi14) (v := (.slice ka nk kc)) ?hi14 (by kernel_rfl) (by kernel_rfl) (by kernel_rfl) (fun _ _ _ h => h) ?hy14 (by assumption) ?rest14
      case hi14 => (simp only [List.getElem?_toArray, List.getElem?_cons_succ, List.getElem?_cons_zero]; rfl)
      case hy14 => exact Or.inl ⟨by rfl, fun w' hS => by have hp := hS.2.2.2.2; go_simp⟩
      try simp only [Act.put, List.setIfInBounds_toArray, List.set_cons_zero, List.set_cons_succ]
      refine wpAnyH_take (i := 15) (oi := ?oi15) (v := (.agg #[.int .i64 x.k, .string O, .int .u64 x.n, .string S, .slice ka nk kc])) ?hi15 (by kernel_rfl) (by kernel_rfl) (by kernel_rfl) (fun _ _ _ h => h) ?hy15 (by assumption) ?rest15
      case hi15 => (simp only [List.getElem?_toArray, List.getElem?_cons_succ, List.getElem?_cons_zero]; rfl)
      case hy15 => exact Or.inl ⟨by rfl, fun w' hS => by go_simp⟩
      try simp only [Act.put, List.setIfInBounds_toArray, List.set_cons_zero, List.set_cons_succ]
      refine wpAnyH_ready (rs := [4, 16]) (by kernel_rfl) (by simp) ?_
      refine AllReadyH.cons (o := ?oo16_0) ?hi16_0 (fun K hK => ?_) (AllReadyH.cons (o := ?oo16_1) ?hi16_1 (fun K hK => ?_) AllReadyH.nil)
      case hi16_0 => (simp only [List.getElem?_toArray, List.getElem?_cons_succ, List.getElem?_cons_zero]; rfl)
      case hi16_1 => (simp only [List.getElem?_toArray, List.getElem?_cons_succ, List.getElem?_cons_zero]; rfl)
      ·
        go_simp
        refine hK.out _ _ (by assumption) (fun hHeld => ?_)
        clear hK K
        try simp only [Act.put, List.setIfInBounds_toArray, List.set_cons_zero, List.set_cons_succ]
        refine wpAnyH_ready (rs := [16]) (by kernel_rfl) (by simp) ?_
        refine AllReadyH.cons (o := ?oo17_0) ?hi17_0 (fun K hK => ?_) AllReadyH.nil
        case hi17_0 => (simp only [List.getElem?_toArray, List.getElem?_cons_succ, List.getElem?_cons_zero]; rfl)
        go_simp
        refine hK.out _ _ (FiveS.alloc (by assumption) _) (fun hHeld => ?_)
        clear hK K
        try simp only [Act.put, List.setIfInBounds_toArray, List.set_cons_zero, List.set_cons_succ]
        refine wpAnyH_ready (rs := [17]) (by kernel_rfl) (by simp) ?_
        refine AllReadyH.cons (o := ?oo18_0) ?hi18_0 (fun K hK => ?_) AllReadyH.nil
        case hi18_0 => (simp only [List.getElem?_toArray, List.getElem?_cons_succ, List.getElem?_cons_zero]; rfl)
        refine step_row _ (by rfl) (.tmp 32) (.tmp 44) 74 (by rfl) w.heap.size 83 i0 _ 5 72 Try.underlying74 hi hz0 hz1 hz2 rfl (by decide) (.slice va i vc) i css.flatten (by rfl) (by exact World.ownsRow.alloc HR6.out _) _ _ [.int .i64 x.k, .string O, .int .u64 x.n, .string S, .slice ka nk kc] (by rfl) rfl (by first | (rw [← hsz6]; exact World.alloc_heap_new _ _) | exact World.alloc_heap_new _ _) hone hn1 hn2 (by simp; omega) ?_
        intro v1 w1 hown1 hgrow1
        obtain ⟨a1, c1, rfl⟩ := ownsRow_shape hown1
        have fb1 : FileB w1 w.heap.size (.slice va i vc) := (hgrow1.block w.heap.size (by simp; omega) (fun q => hne q.symm)).trans ((Below.heap_alloc _ _ _ hwf).trans HF6.out)
        obtain ⟨gc, gf⟩ := fb1.cells
        have gf2 := gf 2
        clear gf
        refine hK.out _ _ (FiveS.grown hHeld hgrow1 hvb) (fun hHeld => ?_)
        clear hK K
        try simp only [Act.put, List.setIfInBounds_toArray, List.set_cons_zero, List.set_cons_succ]
        refine wpAnyH_take (i := 18) (oi := ?oi19) (v := (.pointer (some ⟨w.heap.size, 0, none⟩))) ?hi19 (by kernel_rfl) (by kernel_rfl) (by kernel_rfl) (fun _ _ _ h => h) ?hy19 (by assumption) ?rest19
        case hi19 => (simp only [List.getElem?_toArray, List.getElem?_cons_succ, List.getElem?_cons_zero]; rfl)
        case hy19 => exact Or.inl ⟨by rfl, fun w' hS => by go_simp⟩
        try simp only [Act.put, List.setIfInBounds_toArray, List.set_cons_zero, List.set_cons_succ]
        refine wpAnyH_take (i := 19) (oi := ?oi20) (v := (.pointer (some ⟨w.heap.size, 2, none⟩))) ?hi20 (by kernel_rfl) (by kernel_rfl) (by kernel_rfl) (fun _ _ _ h => h) ?hy20 (by assumption) ?rest20
        case hi20 => (simp only [List.getElem?_toArray, List.getElem?_cons_succ, List.getElem?_cons_zero]; rfl)
        case hy20 => exact Or.inl ⟨by rfl, fun w' hS => by go_simp⟩
        try simp only [Act.put, List.setIfInBounds_toArray, List.set_cons_zero, List.set_cons_succ]
        refine wpAnyH_ready (rs := [20]) (by kernel_rfl) (by simp) ?_
        refine AllReadyH.cons (o := ?oo21_0) ?hi21_0 (fun K hK => ?_) AllReadyH.nil
        case hi21_0 => (simp only [List.getElem?_toArray, List.getElem?_cons_succ, List.getElem?_cons_zero]; rfl)
        go_simp
        refine hK.out _ _ (FiveS.set (by assumption) hfb _) (fun hHeld => ?_)
        clear hK K
        try simp only [Act.put, List.setIfInBounds_toArray, List.set_cons_zero, List.set_cons_succ]
        refine wpAnyH_done (by kernel_rfl) ?_ _
        refine NoPanic.normal ?_
        obtain ⟨e0, e1, e2, e3, e4⟩ := id hHeld
        have HF7 := Lib.hid (fb1.set (.slice a1 (i + 1) c1))
        have HR7 := Lib.hid (ownsRow_setCell_other hown1 (a := ⟨w.heap.size, 2, none⟩) (fb1.ne hown1 (by decide)) (.slice a1 (i + 1) c1))
        have hd1 : w1.ownsRow w.heap.size 84 5 (.slice ua i uc) i zs := World.ownsRow.kept (World.ownsRow.drew (World.ownsRow.alloc HD6.out _)) hgrow1 (own_ne HD6.out HR6.out (by decide))
        have HD7 := Lib.hid (ownsRow_setCell_other hd1 (a := ⟨w.heap.size, 2, none⟩) (fb1.ne hd1 (by decide)) (.slice a1 (i + 1) c1))
        have HB7 := Lib.hid ((Below.grown ((HB6.out.alloc (Nat.le_of_lt hwf) _).drew) hgrow1 (by simp; omega) (fun g hg => (la g hg).1)).setCell (p := ⟨w.heap.size, 2, none⟩) (Nat.le_refl _) (.slice a1 (i + 1) c1))
        have hs7 := HB7.out.size
        have hf7 := (Array.getElem?_eq_some_iff.1 HF7.out).1
        clear hd1 hown1 hgrow1 fb1 gc gf2 fcA ff2 fc b0 b1 b2 b3 b4 hne
        generalize w1.setCell ⟨w.heap.size, 2, none⟩ (.slice a1 (i + 1) c1) = W7 at *
        go_wp2_with (refine list_row rfl _ _ 44 rfl w.heap.size 84 j0 _ 5 72 Try.underlying44 hj hy0 hy1 hy2 rfl (by decide) (.slice ua i uc) i zs rfl (World.ownsRow.alloc HD7.out _) _ _ [.int .i64 x.k, .string O, .int .u64 x.n, .string S, .slice ka nk kc] rfl rfl (World.alloc_heap_new _ _) hone hn1 hn2 (by simp; omega) ?_; intro v8 w8 hown8 hgrow8; obtain ⟨a8, c8, rfl⟩ := ownsRow_shape hown8)
        have hR8 := World.ownsRow.kept (World.ownsRow.alloc HR7.out _) hgrow8 (own_ne HR7.out HD7.out (by decide))
        have hF8 : FileB w8 w.heap.size (.slice a1 (i + 1) c1) := (hgrow8.block w.heap.size (by simp; omega) (fun q => HF7.out.ne HD7.out (by decide) q.symm)).trans ((Below.heap_alloc _ _ _ hf7).trans HF7.out)
        have hB8 : Below w.heap.size w w8 := Below.grown (HB7.out.alloc hs7 _) hgrow8 (by simp; omega) (fun g hg => (lb g hg).1)
        refine ⟨⟨i + 1, _, _, by go_num, hi2, hF8, ?_, hown8, hB8⟩, by simp [intOf]; omega⟩
        rw [List.take_add_one, hx]
        simp only [Option.toList_some, List.map_append, List.map_cons, List.map_nil]
        rw [← HOE.out, ← HSE.out] at hR8
        exact ExRow.snoc (x := cutK x) (by rw [HQ.out]; exact hR8) (by rw [HQ.out]; exact HCL.out) HC5.out HCX.out HK.out
      ·
        go_simp
        refine hK.out _ _ (FiveS.alloc (by assumption) _) (fun hHeld => ?_)
        clear hK K
        try simp only [Act.put, List.setIfInBounds_toArray, List.set_cons_zero, List.set_cons_succ]
        refine wpAnyH_ready (rs := [4]) (by kernel_rfl) (by simp) ?_
        refine AllReadyH.cons (o := ?oo22_0) ?hi22_0 (fun K hK => ?_) AllReadyH.nil
        case hi22_0 => (simp only [List.getElem?_toArray, List.getElem?_cons_succ, List.getElem?_cons_zero]; rfl)
        go_simp
        refine hK.out _ _ (by assumption) (fun hHeld => ?_)
        clear hK K
        try simp only [Act.put, List.setIfInBounds_toArray, List.set_cons_zero, List.set_cons_succ]
        refine wpAnyH_ready (rs := [17]) (by kernel_rfl) (by simp) ?_
        refine AllReadyH.cons (o := ?oo23_0) ?hi23_0 (fun K hK => ?_) AllReadyH.nil
        case hi23_0 => (simp only [List.getElem?_toArray, List.getElem?_cons_succ, List.getElem?_cons_zero]; rfl)
        refine step_row _ (by rfl) (.tmp 32) (.tmp 44) 74 (by rfl) w.heap.size 83 i0 _ 5 72 Try.underlying74 hi hz0 hz1 hz2 rfl (by decide) (.slice va i vc) i css.flatten (by rfl) (by exact World.ownsRow.alloc HR6.out _) _ _ [.int .i64 x.k, .string O, .int .u64 x.n, .string S, .slice ka nk kc] (by rfl) rfl (by first | (rw [← hsz6]; exact World.alloc_heap_new _ _) | exact World.alloc_heap_new _ _) hone hn1 hn2 (by simp; omega) ?_
        intro v1 w1 hown1 hgrow1
        obtain ⟨a1, c1, rfl⟩ := ownsRow_shape hown1
        have fb1 : FileB w1 w.heap.size (.slice va i vc) := (hgrow1.block w.heap.size (by simp; omega) (fun q => hne q.symm)).trans ((Below.heap_alloc _ _ _ hwf).trans HF6.out)
        obtain ⟨gc, gf⟩ := fb1.cells
        have gf2 := gf 2
        clear gf
        refine hK.out _ _ (FiveS.grown hHeld hgrow1 hvb) (fun hHeld => ?_)
        clear hK K
        try simp only [Act.put, List.setIfInBounds_toArray, List.set_cons_zero, List.set_cons_succ]
        refine wpAnyH_take (i := 18) (oi := ?oi24) (v := (.pointer (some ⟨w.heap.size, 0, none⟩))) ?hi24 (by kernel_rfl) (by kernel_rfl) (by kernel_rfl) (fun _ _ _ h => h) ?hy24 (by assumption) ?rest24
        case hi24 => (simp only [List.getElem?_toArray, List.getElem?_cons_succ, List.getElem?_cons_zero]; rfl)
        case hy24 => exact Or.inl ⟨by rfl, fun w' hS => by go_simp⟩
        try simp only [Act.put, List.setIfInBounds_toArray, List.set_cons_zero, List.set_cons_succ]
        refine wpAnyH_take (i := 19) (oi := ?oi25) (v := (.pointer (some ⟨w.heap.size, 2, none⟩))) ?hi25 (by kernel_rfl) (by kernel_rfl) (by kernel_rfl) (fun _ _ _ h => h) ?hy25 (by assumption) ?rest25
        case hi25 => (simp only [List.getElem?_toArray, List.getElem?_cons_succ, List.getElem?_cons_zero]; rfl)
        case hy25 => exact Or.inl ⟨by rfl, fun w' hS => by go_simp⟩
        try simp only [Act.put, List.setIfInBounds_toArray, List.set_cons_zero, List.set_cons_succ]
        refine wpAnyH_ready (rs := [20]) (by kernel_rfl) (by simp) ?_
        refine AllReadyH.cons (o := ?oo26_0) ?hi26_0 (fun K hK => ?_) AllReadyH.nil
        case hi26_0 => (simp only [List.getElem?_toArray, List.getElem?_cons_succ, List.getElem?_cons_zero]; rfl)
        go_simp
        refine hK.out _ _ (FiveS.set (by assumption) hfb _) (fun hHeld => ?_)
        clear hK K
        try simp only [Act.put, List.setIfInBounds_toArray, List.set_cons_zero, List.set_cons_succ]
        refine wpAnyH_done (by kernel_rfl) ?_ _
        refine NoPanic.normal ?_
        obtain ⟨e0, e1, e2, e3, e4⟩ := id hHeld
        have HF7 := Lib.hid (fb1.set (.slice a1 (i + 1) c1))
        have HR7 := Lib.hid (ownsRow_setCell_other hown1 (a := ⟨w.heap.size, 2, none⟩) (fb1.ne hown1 (by decide)) (.slice a1 (i + 1) c1))
        have hd1 : w1.ownsRow w.heap.size 84 5 (.slice ua i uc) i zs := World.ownsRow.kept (World.ownsRow.drew (World.ownsRow.alloc HD6.out _)) hgrow1 (own_ne HD6.out HR6.out (by decide))
        have HD7 := Lib.hid (ownsRow_setCell_other hd1 (a := ⟨w.heap.size, 2, none⟩) (fb1.ne hd1 (by decide)) (.slice a1 (i + 1) c1))
        have HB7 := Lib.hid ((Below.grown ((HB6.out.alloc (Nat.le_of_lt hwf) _).drew) hgrow1 (by simp; omega) (fun g hg => (la g hg).1)).setCell (p := ⟨w.heap.size, 2, none⟩) (Nat.le_refl _) (.slice a1 (i + 1) c1))
        have hs7 := HB7.out.size
        have hf7 := (Array.getElem?_eq_some_iff.1 HF7.out).1
        clear hd1 hown1 hgrow1 fb1 gc gf2 fcA ff2 fc b0 b1 b2 b3 b4 hne
        generalize w1.setCell ⟨w.heap.size, 2, none⟩ (.slice a1 (i + 1) c1) = W7 at *
        go_wp2_with (refine list_row rfl _ _ 44 rfl w.heap.size 84 j0 _ 5 72 Try.underlying44 hj hy0 hy1 hy2 rfl (by decide) (.slice ua i uc) i zs rfl (World.ownsRow.alloc HD7.out _) _ _ [.int .i64 x.k, .string O, .int .u64 x.n, .string S, .slice ka nk kc] rfl rfl (World.alloc_heap_new _ _) hone hn1 hn2 (by simp; omega) ?_; intro v8 w8 hown8 hgrow8; obtain ⟨a8, c8, rfl⟩ := ownsRow_shape hown8)
        have hR8 := World.ownsRow.kept (World.ownsRow.alloc HR7.out _) hgrow8 (own_ne HR7.out HD7.out (by decide))
        have hF8 : FileB w8 w.heap.size (.slice a1 (i + 1) c1) := (hgrow8.block w.heap.size (by simp; omega) (fun q => HF7.out.ne HD7.out (by decide) q.symm)).trans ((Below.heap_alloc _ _ _ hf7).trans HF7.out)
        have hB8 : Below w.heap.size w w8 := Below.grown (HB7.out.alloc hs7 _) hgrow8 (by simp; omega) (fun g hg => (lb g hg).1)
        refine ⟨⟨i + 1, _, _, by go_num, hi2, hF8, ?_, hown8, hB8⟩, by simp [intOf]; omega⟩
        rw [List.take_add_one, hx]
        simp only [Option.toList_some, List.map_append, List.map_cons, List.map_nil]
        rw [← HOE.out, ← HSE.out] at hR8
        exact ExRow.snoc (x := cutK x) (by rw [HQ.out]; exact hR8) (by rw [HQ.out]; exact HCL.out) HC5.out HCX.out HK.out
    · obtain rfl : i = m := by omega
      have e1 : l.take i = l.take 60 := by
        have := HM2.out
        rcases Nat.le_total 60 l.length with h1 | h1
        · rw [show i = 60 from by omega]
        · rw [show i = l.length from by omega, List.take_length, List.take_of_length_le h1]
      obtain ⟨fc, -⟩ := hF.cells
      have HFX : Hid (FileX wr w.heap.size 0 ((l.take 60).map cutK)) := Lib.hid (by rw [← e1]; exact ⟨_, (Array.getElem?_eq_some_iff.1 hF).1, fc, HEX.out.at hB (by rw [hqi]; omega)⟩)
      have HB := Lib.hid hB
      clear hF hR hD hB hqi hcl hc5 hcx e1 fc HEX
      have hi2' : ¬ ((i : Int) < (i : Int)) := by omega
      go_wp2_with fail
      go_ret2
      have HFX2 := HFX.out
      rw [List.map_take] at HFX2
      first | exact ⟨_, rfl, HFX2, HB.out⟩ | exact ⟨_, ⟨_, rfl⟩, HFX2, HB.out⟩ | (trace_state; exact ⟨_, _, rfl, HFX.out, HB.out⟩)
end Go.Proofs.Ytoengahfkfmfeaa
