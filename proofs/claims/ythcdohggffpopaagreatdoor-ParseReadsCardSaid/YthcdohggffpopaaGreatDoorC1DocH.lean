/- Layer 7: the document's parser: what a call keeps for itself: blocks, and a row. -/
import Derived.Test.YthcdohggffpopaaGreatDoorC1DocG
namespace Go.Proofs.YthcdohggffpopaaGreatDoor
open Go.ChangeShapes Go.WideShapes Go.ChangeAt Go.RowKit
def Stable (Q : (Nat → Prop) → World → Prop) : Prop := ∀ (P P' : Nat → Prop) (w w' : World), Q P w → Stay P P' w w' → Q P' w'
def Any (P : Nat → Prop) (w : World) : Prop := True
theorem any_stable : Stable Any := fun _ _ _ _ _ _ => trivial
structure DP {β : Type} (X : Nat → Prop) (g m b c d : Nat) (W w : World) (r : PR β) (F : β → FM) (B : List (Nat × Array Value × TypeId)) (E : TypeId) (z : Nat) (v : Value) (n : Nat) (xs : List Value) (Q : (Nat → Prop) → World → Prop) : Prop where
  dt : DT (wthV X v) g m b c d w r F
  bx : ∀ p ∈ B, w.heap[p.1]? = some (.cells p.2.1 p.2.2 (0, 0)) ∧ X p.1 ∧ W.heap.size ≤ p.1 ∧ v.ownBlock ≠ some p.1
  row : w.ownsRow 0 E z v n xs
  vlo : ∀ i, v.ownBlock = some i → W.heap.size ≤ i
  st : St layD g W w
  q : Q (Pub (wthV X v) layD g w) w
  gW : g < W.heap.size
section
variable {β γ : Type} {X : Nat → Prop} {g m b c d m' b' c' d' : Nat} {W w w' : World} {r : PR β} {F : β → FM} {r' : PR γ} {F' : γ → FM} {B : List (Nat × Array Value × TypeId)} {E : TypeId} {z : Nat} {v : Value} {n : Nat} {xs : List Value} {Q : (Nat → Prop) → World → Prop}
theorem DP.step (h : DP X g m b c d W w r F B E z v n xs Q) (hQ : Stable Q) (hT : DT (wthV X v) g m' b' c' d' w' r' F') (hS : St layD g w w') : DP X g m' b' c' d' W w' r' F' B E z v n xs Q :=
  ⟨hT, fun p hp => by
    obtain ⟨h1, h2, h3, h4⟩ := h.bx p hp
    exact ⟨(h.dt.own (.inl h2) hS).trans h1, h2, h3, h4⟩, ownsRow_same h.row fun i hi => h.dt.own (.inr hi) hS, h.vlo, h.st.trans hS, hQ _ _ _ _ h.q (hS.pub _), h.gW⟩
theorem DP.below (h : DP X g m b c d W w r F B E z v n xs Q) (hQ : Stable Q) (hb : Below w.heap.size w w') : DP X g m b c d W w' r F B E z v n xs Q := h.step hQ (h.dt.below hb) (St.below h.dt.lt hb)
theorem DP.to (h : DP X g m b c d W w r F B E z v n xs Q) (hT : DT (wthV X v) g m b c d w r F → DT (wthV X v) g m' b' c' d' w r' F') : DP X g m' b' c' d' W w r' F' B E z v n xs Q := ⟨hT h.dt, h.bx, h.row, h.vlo, h.st, h.q, h.gW⟩
theorem DP.re {n' : Nat} {xs' : List Value} (h : DP X g m b c d W w r F B E z v n xs Q) (hn : n' = n) (hx : xs' = xs) : DP X g m b c d W w r F B E z v n' xs' Q := by subst hn hx; exact h
theorem DP.set {k : Nat} {cs : Array Value} {T : TypeId} (h : DP X g m b c d W w r F ((k, cs, T) :: B) E z v n xs Q) (hQ : Stable Q) (hB : ∀ p ∈ B, p.1 ≠ k) {o : Nat} (ho : o < cs.size) (u : Value) :
    DP X g m b c d W (w.setCell ⟨k, o, none⟩ u) r F ((k, cs.set o u ho, T) :: B) E z v n xs Q := by
  obtain ⟨h1, h2, h3, h4⟩ := h.bx _ List.mem_cons_self
  have hX : wthV X v k := .inl h2
  have hk : ∀ i, i ≠ k → (w.setCell ⟨k, o, none⟩ u).heap[i]? = w.heap[i]? := fun i hi => Below.heap_setCell _ _ _ _ hi
  have ho' := h.dt.out hX
  have hg : (w.setCell ⟨k, o, none⟩ u).heap[g]? = w.heap[g]? := hk g fun e => ho'.ne e.symm
  refine ⟨h.dt.local hX o u, fun p hp => ?_, ownsRow_same h.row fun i hi => hk i fun e => ?_, h.vlo, h.st.fresh h.gW h3 o u, hQ _ _ _ _ h.q fun i hi => ⟨hk i fun e => hi.2 (e ▸ hX), OutD.of hi.1 (by simp [World.setCell]) hg, hi.2⟩, h.gW⟩
  · rcases List.mem_cons.1 hp with rfl | hp
    · exact ⟨cell_set_row h1 ho u, h2, h3, h4⟩
    · obtain ⟨k1, k2, k3, k4⟩ := h.bx p (List.mem_cons_of_mem _ hp)
      exact ⟨(hk _ (hB p hp)).trans k1, k2, k3, k4⟩
  · rw [e] at hi
    exact h4 hi
theorem DP.box0 (h : DP X g m b c d W w r F B E z v n xs Q) (hQ : Stable Q) (cs : Array Value) (T : TypeId) : DP (wth X w.heap.size) g m b c d W (w.alloc (.cells cs T)) r F ((w.heap.size, cs, T) :: B) E z v n xs Q := by
  have hb := below_box w (.cells cs T)
  have hg : (w.alloc (.cells cs T)).heap[g]? = w.heap[g]? := hb.block g h.dt.lt
  have hr := RowR.below h.row hb
  refine ⟨(h.dt.hide (.cells cs T)).weak fun k hk => ?_, fun p hp => ?_, hr, h.vlo, h.st.trans (St.below h.dt.lt hb), hQ _ _ _ _ h.q fun i hi => ⟨hb.block i hi.1.lt, OutD.of hi.1 hb.size hg, fun e => ?_⟩, h.gW⟩
  · rcases hk with (hk | hk) | hk
    · exact .inl (.inl hk)
    · exact .inr hk
    · exact .inl (.inr hk)
  · rcases List.mem_cons.1 hp with rfl | hp
    · exact ⟨heap_alloc_new w _, .inr rfl, h.st.size, fun e => Nat.lt_irrefl _ (World.ownsRow.lt h.row _ e).2⟩
    · obtain ⟨k1, k2, k3, k4⟩ := h.bx p hp
      exact ⟨(hb.block _ (Array.getElem?_eq_some_iff.1 k1).1).trans k1, .inl k2, k3, k4⟩
  · rcases e with (e | e) | e
    · exact hi.2 (.inl e)
    · have := hi.1.lt; omega
    · exact hi.2 (.inr e)
theorem DP.box (h : DP X g m b c d W w r F B E z v n xs Q) (hQ : Stable Q) (cs : Array Value) (T : TypeId) (_ : E ≠ T) : DP (wth X w.heap.size) g m b c d W (w.alloc (.cells cs T)) r F ((w.heap.size, cs, T) :: B) E z v n xs Q := h.box0 hQ cs T
theorem DP.grow {n' : Nat} {xs' : List Value} {v' : Value} {w1 : World} (h : DP X g m b c d W w r F B E z v n xs Q) (hQ : Stable Q) (o : Obj) (hown : w1.ownsRow 0 E z v' n' xs') (hgrow : (w.alloc o).grownBy w1 v.ownBlock) (hat : v'.ownBlock = v.ownBlock ∨ v'.ownBlock = some (w.alloc o).heap.size) :
    DP X g m b c d W w1 r F B E z v' n' xs' Q := by
  have hb := below_box w o
  have hlt : ∀ k, v'.ownBlock = some k → k < w1.heap.size := fun k hk => (World.ownsRow.lt hown k hk).2
  have hv : ∀ k, v.ownBlock = some k → Out layD g w k := fun k hk => h.dt.out (.inr hk)
  have hgl := h.dt.lt
  have hg : w1.heap[g]? = w.heap[g]? := (hgrow.block g (Nat.lt_of_lt_of_le hgl hb.size) fun e => (hv g e.symm).ne rfl).trans (hb.block g hgl)
  have hz : w.heap.size ≤ w1.heap.size := Nat.le_trans hb.size hgrow.size
  refine ⟨(h.dt.below hb).grow hgrow hat hlt, fun p hp => ?_, hown, fun i hi => ?_, (h.st.trans (St.below hgl hb)).grown h.gW hgrow h.vlo, hQ _ _ _ _ h.q fun i hi => ⟨(hgrow.block i (Nat.lt_of_lt_of_le hi.1.lt hb.size) fun e => hi.2 (.inr e.symm)).trans (hb.block i hi.1.lt), OutD.of hi.1 hz hg, fun e => ?_⟩, h.gW⟩
  · obtain ⟨k1, k2, k3, k4⟩ := h.bx p hp
    have hl := (Array.getElem?_eq_some_iff.1 k1).1
    refine ⟨((hgrow.block _ (Nat.lt_of_lt_of_le hl hb.size) fun e => k4 e.symm).trans (hb.block _ hl)).trans k1, k2, k3, fun e => ?_⟩
    rcases hat with hat | hat
    · rw [hat] at e; exact k4 e
    · rw [hat, Option.some.injEq] at e
      have := hb.size
      omega
  · rcases hat with hat | hat
    · exact h.vlo i (hat ▸ hi)
    · rw [hat, Option.some.injEq] at hi
      have := h.st.size
      have := hb.size
      omega
  · rcases e with e | e
    · exact hi.2 (.inl e)
    · rcases hat with hat | hat
      · rw [hat] at e; exact hi.2 (.inr e)
      · rw [hat, Option.some.injEq] at e
        have := hi.1.lt
        have := hb.size
        omega
theorem DP.bare (h : DP X g m b c d W w r F B E z v n xs Q) : DP X g m b c d W w r F [] E z v n xs Q := ⟨h.dt, fun p hp => (by cases hp), h.row, h.vlo, h.st, h.q, h.gW⟩
theorem DP.poke {k : Nat} (h : DP X g m b c d W w r F [] E z v n xs Q) (hQ : Stable Q) (h2 : X k) (h3 : W.heap.size ≤ k) (hne : v.ownBlock ≠ some k) (o : Nat) (u : Value) : DP X g m b c d W (w.setCell ⟨k, o, none⟩ u) r F [] E z v n xs Q := by
  have hX : wthV X v k := .inl h2
  have hk : ∀ i, i ≠ k → (w.setCell ⟨k, o, none⟩ u).heap[i]? = w.heap[i]? := fun i hi => Below.heap_setCell _ _ _ _ hi
  have hg : (w.setCell ⟨k, o, none⟩ u).heap[g]? = w.heap[g]? := hk g fun e => (h.dt.out hX).ne e.symm
  exact ⟨h.dt.local hX o u, fun p hp => (by cases hp), ownsRow_same h.row fun i hi => hk i fun e => hne (e ▸ hi), h.vlo, h.st.fresh h.gW h3 o u, hQ _ _ _ _ h.q fun i hi => ⟨hk i fun e => hi.2 (e ▸ hX), OutD.of hi.1 (by simp [World.setCell]) hg, hi.2⟩, h.gW⟩
theorem DP.out9 {k : Nat} {Z : Array Value} {T : TypeId} (h : DP X g m b c d W w r F B E z v n xs Q) (hQ : Stable Q) (hk : (k, Z, T) ∈ B) (c0 c1 c2 c3 c4 c5 c6 c7 c8 : Value) : DP X g m b c d W (Go.Proofs.YthcdohggffpopaaGreatDoor.set9 w k c0 c1 c2 c3 c4 c5 c6 c7 c8) r F [] E z v n xs Q := by
  obtain ⟨h1, h2, h3, h4⟩ := h.bx _ hk
  have hne := h4
  exact ((((((((h.bare.poke hQ h2 h3 hne 0 c0).poke hQ h2 h3 hne 1 c1).poke hQ h2 h3 hne 2 c2).poke hQ h2 h3 hne 3 c3).poke hQ h2 h3 hne 4 c4).poke hQ h2 h3 hne 5 c5).poke hQ h2 h3 hne 6 c6).poke hQ h2 h3 hne 7 c7).poke hQ h2 h3 hne 8 c8
theorem DP.out3 {k : Nat} {Z : Array Value} {T : TypeId} (h : DP X g m b c d W w r F B E z v n xs Q) (hQ : Stable Q) (hk : (k, Z, T) ∈ B) (c0 c1 c2 : Value) : DP X g m b c d W (((w.setCell ⟨k, 0, none⟩ c0).setCell ⟨k, 1, none⟩ c1).setCell ⟨k, 2, none⟩ c2) r F [] E z v n xs Q := by
  obtain ⟨h1, h2, h3, h4⟩ := h.bx _ hk
  have hne := h4
  exact ((h.bare.poke hQ h2 h3 hne 0 c0).poke hQ h2 h3 hne 1 c1).poke hQ h2 h3 hne 2 c2
theorem DP.know {Q' : (Nat → Prop) → World → Prop} (h : DP X g m b c d W w r F B E z v n xs Q) (hq : Q (Pub (wthV X v) layD g w) w → Q' (Pub (wthV X v) layD g w) w) : DP X g m b c d W w r F B E z v n xs Q' := ⟨h.dt, h.bx, h.row, h.vlo, h.st, hq h.q, h.gW⟩
theorem DP.nest (h : DP X g m b c d W w r F B E z v n xs Q) {X0 : Nat → Prop} (hX : ∀ k, X0 k → k < W.heap.size) : Nest (Pub X0 layD g w) v := fun i hi => ⟨h.dt.out (.inr hi), fun hx => by
  have := hX i hx
  have := h.vlo i hi
  omega⟩
theorem DP.next (h : DP X g m b c d W w r F B E z v n xs Q) (hQ : Stable Q) {E' : TypeId} {z' : Nat} (hX : ∀ i, v.ownBlock = some i → ¬ X i) : DP X g m b c d W w r F B E' z' (.slice none 0 0) 0 [] fun P w => Q P w ∧ w.ownsRow 0 E z v n xs ∧ Nest P v :=
  ⟨h.dt.weak fun k hk => hk.elim .inl fun e => (by cases e), fun p hp => ⟨(h.bx p hp).1, (h.bx p hp).2.1, (h.bx p hp).2.2.1, fun e => (by cases e)⟩, World.ownsRow_nil _ _ _ _, fun i hi => (by cases hi), h.st,
    ⟨hQ _ _ _ _ h.q fun i hi => ⟨rfl, hi.1, fun e => hi.2 (e.elim .inl fun e => by cases e)⟩, h.row, fun i hi => ⟨h.dt.out (.inr hi), fun e => e.elim (hX i hi) fun e => (by cases e)⟩⟩, h.gW⟩
end
theorem DT.start {β : Type} {X : Nat → Prop} {g m b c d : Nat} {w : World} {r : PR β} {F : β → FM} (h : DT X g m b c d w r F) (cs : Array Value) (T E : TypeId) (z : Nat) (hE : E ≠ T) : DP (wth X w.heap.size) g m b c d w (w.alloc (.cells cs T)) r F [(w.heap.size, cs, T)] E z (.slice none 0 0) 0 [] Any :=
  ⟨(h.hide _).weak fun k hk => hk.elim id fun e => (by cases e), fun p hp => by
    obtain rfl := List.mem_singleton.1 hp
    exact ⟨heap_alloc_new w _, .inr rfl, Nat.le_refl _, fun e => (by cases e)⟩, World.ownsRow_nil _ _ _ _, fun i hi => (by cases hi), St.below h.lt (below_box w _), trivial, h.lt⟩
theorem DT.startH {β : Type} {X : Nat → Prop} {g m b c d : Nat} {w : World} {r : PR β} {F : β → FM} (h : DT X g m b c d w r F) (cs : Array Value) (T E : TypeId) (z : Nat) (hE : E ≠ T) (H : Nat) (hH : w.heap.size = H) : DP (wth X H) g m b c d w (w.alloc (.cells cs T)) r F [(H, cs, T)] E z (.slice none 0 0) 0 [] Any := by
  subst hH
  exact h.start cs T E z hE
theorem dtake_lit (t : List UInt8) (hn : t ≠ []) (s : ByteArray) (hs : s = bs t) {β : Type} {X : Nat → Prop} {g m b c d : Nat} {r : PR β} {F : β → FM} (w : World) (h : DT X g m b c d w r F) :
    Calls Tryz.prog 52 #[.pointer (some ⟨g, 0, none⟩), .string s] w fun e' w' => e' = .returned (.tuple #[]) ∧ DT X g (m - 1) (b - 3) c d w' (r.bind fun a l => (need t l).bind fun _ l => .ok a l) F ∧ St layD g w w' := by subst hs; exact dtake_any t hn w h
theorem dis_lit (t : List UInt8) (hn : t ≠ []) (s : ByteArray) (hs : s = bs t) {β : Type} {X : Nat → Prop} {g m b c d : Nat} {r : PR β} {F : β → FM} (w : World) (h : DT X g m b c d w r F) {q : Bool} (hq : isT t r.rest = q) :
    Calls Tryz.prog 50 #[.pointer (some ⟨g, 0, none⟩), .string s] w fun e' w' => e' = .returned (.bool q) ∧ Below w.heap.size w w' := by
  subst hs hq
  obtain ⟨_, _, _, hI⟩ := h.inv
  exact dis_any t hn w hI
theorem DT.cells {β : Type} {X : Nat → Prop} {g m b c d : Nat} {w : World} {r : PR β} {F : β → FM} (h : DT X g m b c d w r F) : ∃ (i n k cp : Nat) (dd : Int), w.cell? ⟨g, 0, none⟩ = some (.slice (some ⟨k, 0, none⟩) n cp) ∧ w.cell? ⟨g, 1, none⟩ = some (.int .i64 (i : Int)) ∧ w.cell? ⟨g, 2, none⟩ = some (.int .i64 dd) ∧ w.cell? ⟨g, 7, none⟩ = some (.int .i64 (r.err : Int)) ∧ (∀ j, w.frozen? ⟨g, j, none⟩ = false) := by
  obtain ⟨_, _, _, hI⟩ := h.inv
  obtain ⟨i, n, k, cp, h0, h1, h2, h7, hf, -⟩ := hI.look
  exact ⟨i, n, k, cp, _, h0, h1, h2, h7, hf⟩
theorem DT.err_eq {β : Type} {X : Nat → Prop} {g m b c d : Nat} {w : World} {l : List Tok} {x : Nat} {F : β → FM} (h : DT X g m b c d w (.bad l x : PR β) F) : ((x : Int) == 0) = false := by
  have := h.1
  rw [beq_eq_false_iff_ne]; omega
theorem DT.again {β : Type} {X : Nat → Prop} {g m b c d : Nat} {w : World} {a : β} {l : List Tok} {F : β → FM} (h : DT X g m b c d w (.ok a l : PR β) F) : DT X g l.length b c d w (.ok a l : PR β) F := ⟨h.1, Nat.le_refl _, h.2.2⟩
end Go.Proofs.YthcdohggffpopaaGreatDoor
