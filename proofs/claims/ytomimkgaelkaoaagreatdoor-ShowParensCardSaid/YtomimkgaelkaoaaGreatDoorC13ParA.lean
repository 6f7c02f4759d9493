/- Layer 7: files in memory; which blocks a parser leaves as they are. · Layer 7: the program's parser in memory; its first methods. -/
import Derived.Test.YtomimkgaelkaoaaGreatDoorC13Toks
import Derived.Test.YtomimkgaelkaoaaGreatDoorC13ParseP
import Derived.Recover
import Derived.Defers
set_option linter.unusedVariables false
set_option linter.unusedSimpArgs false
namespace Go.Proofs.YtomimkgaelkaoaaGreatDoor
open Go.Lib (hid)
open Go.ChangeShapes Go.WideShapes Go.ChangeAt Go.RowKit
structure Lay where
 J : List Nat
 K : List Nat
 kj : ∀ j ∈ K, j ∈ J
 pa : TypeId
 co : TypeId
 st : TypeId
 ex : TypeId
 ty : TypeId
 it : TypeId
 su : TypeId
 ca : TypeId
theorem ownsRow_same {w w' : World} {B : Nat} {e : TypeId} {size : Nat} {v : Value} {n : Nat} {xs : List Value} (h : w.ownsRow B e size v n xs) (hb : ∀ g, v.ownBlock = some g → w'.heap[g]? = w.heap[g]?) : w'.ownsRow B e size v n xs := by
 obtain ⟨h1, h2⟩ := h
 refine ⟨h1, ?_⟩
 rcases h2 with h2 | ⟨g, cap, cur, hv, hg, hh, r⟩
 ·exact .inl h2
 ·refine .inr ⟨g, cap, cur, hv, hg, ?_, r⟩
  rw [hb g (by rw [hv]; rfl)]
  exact hh
theorem ownsRow_ne {w : World} {B B' : Nat} {e e' : TypeId} {size size' : Nat} {v v' : Value} {n n' : Nat} {xs xs' : List Value} (h : w.ownsRow B e size v n xs) (h' : w.ownsRow B' e' size' v' n' xs') (he : e ≠ e') (g : Nat) (hg : v.ownBlock = some g) : v'.ownBlock ≠ some g := by
 intro hg'
 rcases h.2 with ⟨rfl, _⟩ | ⟨k, cap, cur, rfl, _, hh, _⟩
 ·cases hg
 rcases h'.2 with ⟨rfl, _⟩ | ⟨k', cap', cur', rfl, _, hh', _⟩
 ·cases hg'
 simp only [Value.ownBlock, Option.some.injEq] at hg hg'
 subst hg hg'
 rw [hh] at hh'
 simp only [Option.some.injEq, Obj.cells.injEq] at hh'
 exact he hh'.2.1
theorem ownsRow_off {w : World} {B : Nat} {e e' : TypeId} {size : Nat} {v : Value} {n : Nat} {xs : List Value} {g : Nat} {cur : Array Value} {fr : Nat × Nat} (h : w.ownsRow B e size v n xs) (hh : w.heap[g]? = some (.cells cur e' fr)) (he : e ≠ e') : v.ownBlock ≠ some g := by
 intro hg
 rcases h.2 with ⟨rfl, _⟩ | ⟨k, cap, cur', rfl, _, hk, _⟩
 ·cases hg
 simp only [Value.ownBlock, Option.some.injEq] at hg
 subst hg
 rw [hh] at hk
 simp only [Option.some.injEq, Obj.cells.injEq] at hk
 exact he hk.2.1.symm
def Nest (P : Nat → Prop) (v : Value) : Prop := ∀ b, v.ownBlock = some b → P b
def Stay (P P' : Nat → Prop) (w w' : World) : Prop := ∀ b, P b → w'.heap[b]? = w.heap[b]? ∧ P' b
theorem Nest.stay {P P' : Nat → Prop} {w w' : World} {v : Value} (h : Nest P v) (k : Stay P P' w w') : Nest P' v := fun b hb => (k b (h b hb)).2
theorem Nest.none (P : Nat → Prop) (n c : Nat) : Nest P (.slice none n c) := fun b h => by cases h
def RowR {α : Type} (rep : (Nat → Prop) → World → List Value → α → Prop) (E : TypeId) (size : Nat) (P : Nat → Prop) (w : World) (v : Value) (l : List α) : Prop :=
 ∃ cs : List (List Value), w.ownsRow 0 E size v l.length cs.flatten ∧ cs.length = l.length ∧ (∀ c ∈ cs, c.length = size) ∧ ∀ (i : Nat) c x, cs[i]? = some c → l[i]? = some x → rep P w c x
def Kept {α : Type} (rep : (Nat → Prop) → World → List Value → α → Prop) : Prop := ∀ (P P' : Nat → Prop) (w w' : World) (c : List Value) (x : α), rep P w c x → Stay P P' w w' → rep P' w' c x
theorem RowR.stay {α : Type} {rep : (Nat → Prop) → World → List Value → α → Prop} (hk : Kept rep) {E : TypeId} {size : Nat} {P P' : Nat → Prop} {w w' : World} {v : Value} {l : List α} (h : RowR rep E size P w v l) (hs : Stay P P' w w') (hb : ∀ g, v.ownBlock = some g → w'.heap[g]? = w.heap[g]?) : RowR rep E size P' w' v l := by
 obtain ⟨cs, h1, h2, h3, h4⟩ := h
 exact ⟨cs, ownsRow_same h1 hb, h2, h3, fun i c x hc hx => hk _ _ _ _ _ _ (h4 i c x hc hx) hs⟩
theorem RowR.nest {α : Type} {rep : (Nat → Prop) → World → List Value → α → Prop} (hk : Kept rep) {E : TypeId} {size : Nat} {P P' : Nat → Prop} {w w' : World} {v : Value} {l : List α} (h : RowR rep E size P w v l) (hn : Nest P v) (hs : Stay P P' w w') : RowR rep E size P' w' v l :=
 h.stay hk hs fun g hg => (hs g (hn g hg)).1
theorem RowR.nil {α : Type} (rep : (Nat → Prop) → World → List Value → α → Prop) (E : TypeId) (size : Nat) (P : Nat → Prop) (w : World) : RowR rep E size P w (.slice none 0 0) [] :=
 ⟨[], World.ownsRow_nil _ _ _ _, rfl, (fun c h => by cases h), fun i c x h => by simp at h⟩
theorem RowR.lt {α : Type} {rep : (Nat → Prop) → World → List Value → α → Prop} {E : TypeId} {size : Nat} {P : Nat → Prop} {w : World} {v : Value} {l : List α} (h : RowR rep E size P w v l) : ∀ g, v.ownBlock = some g → g < w.heap.size := by
 obtain ⟨cs, h1, _⟩ := h
 exact fun g hg => (World.ownsRow.lt h1 g hg).2
theorem RowR.shape {α : Type} {rep : (Nat → Prop) → World → List Value → α → Prop} {E : TypeId} {size : Nat} {P : Nat → Prop} {w : World} {v : Value} {l : List α} (h : RowR rep E size P w v l) : ∃ a c, v = .slice a l.length c := by
 obtain ⟨cs, h1, _⟩ := h
 rcases h1.2 with ⟨rfl, h⟩ | ⟨g, cap, cur, rfl, r⟩
 ·rw [h]; exact ⟨_, _, rfl⟩
 ·exact ⟨_, _, rfl⟩
theorem RowR.ne {α β : Type} {rep : (Nat → Prop) → World → List Value → α → Prop} {rep' : (Nat → Prop) → World → List Value → β → Prop} {E E' : TypeId} {size size' : Nat} {P P' : Nat → Prop} {w : World} {v v' : Value} {l : List α} {l' : List β}
  (h : RowR rep E size P w v l) (h' : RowR rep' E' size' P' w v' l') (he : E ≠ E') (g : Nat) (hg : v.ownBlock = some g) : v'.ownBlock ≠ some g := by
 obtain ⟨cs, h1, _⟩ := h
 obtain ⟨cs', h1', _⟩ := h'
 exact ownsRow_ne h1 h1' he g hg
theorem RowR.off {α : Type} {rep : (Nat → Prop) → World → List Value → α → Prop} {E e' : TypeId} {size : Nat} {P : Nat → Prop} {w : World} {v : Value} {l : List α} {g : Nat} {cur : Array Value} {fr : Nat × Nat} (h : RowR rep E size P w v l) (hh : w.heap[g]? = some (.cells cur e' fr)) (he : E ≠ e') : v.ownBlock ≠ some g := by
 obtain ⟨cs, h1, _⟩ := h
 exact ownsRow_off h1 hh he
theorem RowR.snoc {α : Type} {rep : (Nat → Prop) → World → List Value → α → Prop} {E : TypeId} {size : Nat} {P : Nat → Prop} {w : World} {v : Value} {l : List α} {cs : List (List Value)} {c : List Value} {x : α}
  (h1 : w.ownsRow 0 E size v (l.length + 1) (cs.flatten ++ c)) (h2 : cs.length = l.length) (h3 : ∀ c ∈ cs, c.length = size) (h4 : ∀ (i : Nat) c x, cs[i]? = some c → l[i]? = some x → rep P w c x) (hc : c.length = size) (hx : rep P w c x) : RowR rep E size P w v (l ++ [x]) := by
 refine ⟨cs ++ [c], ?_, by simp [h2], ?_, ?_⟩
 ·rw [List.length_append, List.flatten_append]
  simpa using h1
 ·intro a ha
  rcases List.mem_append.1 ha with ha | ha
  ·exact h3 a ha
  ·rw [List.mem_singleton.1 ha]; exact hc
 ·intro i a y ha hy
  by_cases hi : i < l.length
  ·rw [List.getElem?_append_left (by omega)] at ha
   rw [List.getElem?_append_left hi] at hy
   exact h4 i a y ha hy
  ·rw [List.getElem?_append_right (by omega)] at ha
   rw [List.getElem?_append_right (by omega)] at hy
   rw [h2] at ha
   cases hk : i - l.length with
   | zero =>
    rw [hk] at ha hy
    simp only [List.getElem?_cons_zero, Option.some.injEq] at ha hy
    rw [← ha, ← hy]
    exact hx
   | succ m =>
    rw [hk] at ha
    simp at ha
def IntsV (w : World) (v : Value) (l : List Nat) : Prop := w.ownsRow 0 3 1 v l.length (l.map fun n : Nat => Value.int .i64 (n : Int))
def StrsV (w : World) (v : Value) (l : List (List UInt8)) : Prop := w.ownsRow 0 9 1 v l.length (l.map fun s => Value.string (bs s))
def CasesV (L : Lay) (w : World) (v : Value) (l : List (Nat × Nat)) : Prop := w.ownsRow 0 L.ca 2 v l.length (l.flatMap fun c => [Value.int .u64 (c.1 : Int), Value.int .i64 (c.2 : Int)])
def SubsV (L : Lay) (w : World) (v : Value) (l : List (List UInt8 × Nat)) : Prop := w.ownsRow 0 L.su 2 v l.length (l.flatMap fun c => [Value.string (bs c.1), Value.int .i64 (c.2 : Int)])
def Crep (P : Nat → Prop) (w : World) (c : List Value) (x : List UInt8 × Nat) : Prop := c = [.string (bs x.1), .int .u64 (x.2 : Int)]
def Xrep (P : Nat → Prop) (w : World) (c : List Value) (x : XM) : Prop := ∃ kv, c = [.int .i64 (x.k : Int), .string (bs x.op), .int .u64 (x.n : Int), .string (bs x.s), kv] ∧ IntsV w kv x.kids ∧ Nest P kv
def Trep (L : Lay) (P : Nat → Prop) (w : World) (c : List Value) (x : TM) : Prop := ∃ av cv, c = [.int .i64 (x.k : Int), .int .i64 (x.size : Int), .bool x.little, .string (bs x.s), av, .int .i64 x.e, .int .i64 x.i, cv] ∧ IntsV w av x.args ∧ Nest P av ∧ CasesV L w cv x.cs ∧ Nest P cv
def Irep (L : Lay) (P : Nat → Prop) (w : World) (c : List Value) (x : IM) : Prop := ∃ sv, c = [.string (bs x.s), .int .i64 x.t, .int .i64 (x.der : Int), .string (bs x.a), .string (bs x.b), .int .i64 x.wh, .int .i64 (x.size : Int), .bool x.little, sv] ∧ SubsV L w sv x.subs ∧ Nest P sv
def Srep (L : Lay) (P : Nat → Prop) (w : World) (c : List Value) (x : SM) : Prop := ∃ pv iv, c = [.string (bs x.s), pv, iv] ∧ StrsV w pv x.ps ∧ Nest P pv ∧ RowR (Irep L) L.it 9 P w iv x.is ∧ Nest P iv
theorem Crep.kept : Kept Crep := fun _ _ _ _ _ _ h _ => h
theorem Xrep.kept : Kept Xrep := fun _ _ _ _ _ _ ⟨kv, h, h1, h2⟩ hs => ⟨kv, h, ownsRow_same h1 fun g hg => (hs g (h2 g hg)).1, h2.stay hs⟩
theorem Trep.kept (L : Lay) : Kept (Trep L) := fun _ _ _ _ _ _ ⟨av, cv, h, h1, h2, h3, h4⟩ hs => ⟨av, cv, h, ownsRow_same h1 fun g hg => (hs g (h2 g hg)).1, h2.stay hs, ownsRow_same h3 fun g hg => (hs g (h4 g hg)).1, h4.stay hs⟩
theorem Irep.kept (L : Lay) : Kept (Irep L) := fun _ _ _ _ _ _ ⟨sv, h, h1, h2⟩ hs => ⟨sv, h, ownsRow_same h1 fun g hg => (hs g (h2 g hg)).1, h2.stay hs⟩
theorem Srep.kept (L : Lay) : Kept (Srep L) := fun _ _ _ _ _ _ ⟨pv, iv, h, h1, h2, h3, h4⟩ hs => ⟨pv, iv, h, ownsRow_same h1 fun g hg => (hs g (h2 g hg)).1, h2.stay hs, h3.nest (Irep.kept L) h4 hs, h4.stay hs⟩
structure FRep (L : Lay) (P : Nat → Prop) (w : World) (vc vs vx vt : Value) (f : FM) : Prop where
 c : RowR Crep L.co 2 P w vc f.cs
 s : RowR (Srep L) L.st 3 P w vs f.ss
 x : RowR Xrep L.ex 5 P w vx f.g.xs
 t : RowR (Trep L) L.ty 8 P w vt f.g.ts
structure Out (L : Lay) (g : Nat) (w : World) (b : Nat) : Prop where
 lt : b < w.heap.size
 ne : b ≠ g
 row : ∀ j ∈ L.J, ∀ v, w.cell? ⟨g, j, none⟩ = some v → v.ownBlock ≠ some b
structure St0 (L : Lay) (g : Nat) (w w' : World) : Prop where
 os : w'.os = w.os
 tape : w'.tape = w.tape
 output : w'.output = w.output
 size : w.heap.size ≤ w'.heap.size
 stay : Stay (Out L g w) (Out L g w') w w'
def Pub (X : Nat → Prop) (L : Lay) (g : Nat) (w : World) (b : Nat) : Prop := Out L g w b ∧ ¬ X b
section
variable {L : Lay} {g : Nat} {w w' w'' : World}
theorem St0.pub (h : St0 L g w w') (X : Nat → Prop) : Stay (Pub X L g w) (Pub X L g w') w w' := fun b hb => ⟨(h.stay b hb.1).1, (h.stay b hb.1).2, hb.2⟩
theorem St0.refl (L : Lay) (g : Nat) (w : World) : St0 L g w w := ⟨rfl, rfl, rfl, Nat.le_refl _, fun b h => ⟨rfl, h⟩⟩
theorem St0.trans (h : St0 L g w w') (k : St0 L g w' w'') : St0 L g w w'' :=
 ⟨k.os.trans h.os, k.tape.trans h.tape, k.output.trans h.output, Nat.le_trans h.size k.size, fun b hb => ⟨((k.stay b (h.stay b hb).2).1).trans (h.stay b hb).1, (k.stay b (h.stay b hb).2).2⟩⟩
theorem St0.of {B : Nat} (hb : Below B w w') (hg : ∀ j ∈ L.J, w'.cell? ⟨g, j, none⟩ = w.cell? ⟨g, j, none⟩) (ho : ∀ b, Out L g w b → b < B ∨ w'.heap[b]? = w.heap[b]?) : St0 L g w w' :=
 ⟨hb.os, hb.tape, hb.output, hb.size, fun b h => ⟨(ho b h).elim (fun k => hb.block b k) id, ⟨Nat.lt_of_lt_of_le h.lt hb.size, h.ne, fun j hj v hv => h.row j hj v (by rw [← hg j hj]; exact hv)⟩⟩⟩
theorem St0.below (hg : g < w.heap.size) (hb : Below w.heap.size w w') : St0 L g w w' :=
 .of hb (fun j _ => hb.cell (p := ⟨g, j, none⟩) hg) fun b h => .inl h.lt
theorem St0.own (h : St0 L g w w') {j : Nat} (hj : j ∉ L.J) (u : Value) : St0 L g w (w'.setCell ⟨g, j, none⟩ u) :=
 h.trans (.of (B := 0) ⟨rfl, rfl, rfl, by simp [World.setCell], fun k hk => by omega⟩ (fun i hi => World.cell?_setCell_other _ _ _ _ (by intro e; simp only [Addr.mk.injEq] at e; exact hj (e.2.1 ▸ hi))) fun b hb => .inr (Below.heap_setCell _ _ _ _ hb.ne))
theorem St0.fresh {B : Nat} (h : St0 L g w w') (hg : g < w.heap.size) (hB : w.heap.size ≤ B) (o : Nat) (u : Value) : St0 L g w (w'.setCell ⟨B, o, none⟩ u) :=
 ⟨h.os, h.tape, h.output, Nat.le_trans h.size (by simp [World.setCell]), fun b hb => by
  have hne : b ≠ B := by have := hb.lt; omega
  have h1 := h.stay b hb
  refine ⟨(Below.heap_setCell _ _ _ _ hne).trans h1.1, ⟨by simpa [World.setCell] using h1.2.lt, hb.ne, fun j hj v hv => h1.2.row j hj v ?_⟩⟩
  rw [World.cell?_setCell_other _ _ _ _ (by intro e; simp only [Addr.mk.injEq] at e; omega)] at hv
  exact hv⟩
theorem St0.grown {row : Option Nat} (h : St0 L g w w') (hg : g < w.heap.size) (k : w'.grownBy w'' row) (hr : ∀ b, row = some b → w.heap.size ≤ b) : St0 L g w w'' :=
 ⟨k.os.trans h.os, k.tape.trans h.tape, k.output.trans h.output, Nat.le_trans h.size k.size, fun b hb => by
  have h1 := h.stay b hb
  have hs := h.size
  have e : w''.heap[b]? = w'.heap[b]? := k.block b h1.2.lt fun e => by have := hr b e.symm; have := hb.lt; omega
  have eg : w''.heap[g]? = w'.heap[g]? := k.block g (by omega) fun e => by have := hr g e.symm; omega
  exact ⟨e.trans h1.1, ⟨Nat.lt_of_lt_of_le h1.2.lt k.size, hb.ne, fun j hj v hv => h1.2.row j hj v (by rw [← World.cell?_of_block (a := ⟨g, j, none⟩) eg]; exact hv)⟩⟩⟩
theorem St0.push {v v' : Value} {j : Nat} {w1 : World} (h : St0 L g w w') (hg : g < w'.heap.size) (hj : j ∈ L.J) (hv : w'.cell? ⟨g, j, none⟩ = some v) (hvg : v.ownBlock ≠ some g) (k : w'.grownBy w1 v.ownBlock) (hat : v'.ownBlock = v.ownBlock ∨ ∀ b, v'.ownBlock = some b → w'.heap.size ≤ b)
  (hin : w1.cell? ⟨g, j, none⟩ = some v) : St0 L g w (w1.setCell ⟨g, j, none⟩ v') := by
 have eg : w1.heap[g]? = w'.heap[g]? := k.block g hg fun e => hvg e.symm
 refine h.trans ⟨k.os, k.tape, k.output, Nat.le_trans k.size (by simp [World.setCell]), fun b hb => ⟨?_, Nat.lt_of_lt_of_le hb.lt (Nat.le_trans k.size (by simp [World.setCell])), hb.ne, fun i hi u hu => ?_⟩⟩
 ·rw [Below.heap_setCell _ _ _ _ hb.ne]
  exact k.block b hb.lt fun e => hb.row j hj v hv e.symm
 ·by_cases hij : i = j
  ·subst hij
   rw [World.cell?_setCell_same _ _ _ hin, Option.some.injEq] at hu
   subst hu
   rcases hat with hat | hat
   ·rw [hat]; exact hb.row i hi v hv
   ·intro e; have := hat b e; have := hb.lt; omega
  ·rw [World.cell?_setCell_other _ _ _ _ (by simp)] at hu
   exact hb.row i hi u (by rw [← World.cell?_of_block (a := ⟨g, i, none⟩) eg]; exact hu)
end
structure St (L : Lay) (g : Nat) (w w' : World) : Prop extends St0 L g w w' where
 keep : ∀ j ∈ L.K, w'.cell? ⟨g, j, none⟩ = w.cell? ⟨g, j, none⟩
section
variable {L : Lay} {g : Nat} {w w' w'' : World}
theorem St.pub (h : St L g w w') (X : Nat → Prop) : Stay (Pub X L g w) (Pub X L g w') w w' := h.toSt0.pub X
theorem St.refl (L : Lay) (g : Nat) (w : World) : St L g w w := ⟨.refl _ _ _, fun _ _ => rfl⟩
theorem St.trans (h : St L g w w') (k : St L g w' w'') : St L g w w'' := ⟨h.toSt0.trans k.toSt0, fun j hj => (k.keep j hj).trans (h.keep j hj)⟩
theorem St.below (hg : g < w.heap.size) (hb : Below w.heap.size w w') : St L g w w' := ⟨.below hg hb, fun j _ => hb.cell (p := ⟨g, j, none⟩) hg⟩
theorem St.alloc (h : St L g w w') (hg : g < w'.heap.size) (o : Obj) : St L g w (w'.alloc o) := h.trans (.below hg ((Below.refl _ _).alloc (Nat.le_refl _) _))
theorem St.drew (h : St L g w w') (hg : g < w'.heap.size) : St L g w w'.drew := h.trans (.below hg ((Below.refl _ _).drew))
theorem St.own (h : St L g w w') {j : Nat} (hj : j ∉ L.J) (u : Value) : St L g w (w'.setCell ⟨g, j, none⟩ u) :=
 ⟨h.toSt0.own hj u, fun i hi => (World.cell?_setCell_other _ _ _ _ (by intro e; simp only [Addr.mk.injEq] at e; exact hj (e.2.1 ▸ L.kj i hi))).trans (h.keep i hi)⟩
theorem St.fresh {B : Nat} (h : St L g w w') (hg : g < w.heap.size) (hB : w.heap.size ≤ B) (o : Nat) (u : Value) : St L g w (w'.setCell ⟨B, o, none⟩ u) :=
 ⟨h.toSt0.fresh hg hB o u, fun i hi => (World.cell?_setCell_other _ _ _ _ (by intro e; simp only [Addr.mk.injEq] at e; omega)).trans (h.keep i hi)⟩
theorem St.grown {row : Option Nat} (h : St L g w w') (hg : g < w.heap.size) (k : w'.grownBy w'' row) (hr : ∀ b, row = some b → w.heap.size ≤ b) : St L g w w'' :=
 ⟨h.toSt0.grown hg k hr, fun i hi => (World.cell?_of_block (a := ⟨g, i, none⟩) (k.block g (Nat.lt_of_lt_of_le hg h.size) fun e => by have := hr g e.symm; omega)).trans (h.keep i hi)⟩
end
end Go.Proofs.YtomimkgaelkaoaaGreatDoor
namespace Go.Proofs.YtomimkgaelkaoaaGreatDoor
open Go.Lib (hid)
open Go.ChangeShapes Go.WideShapes Go.ChangeAt Go.RowKit
theorem beq_bs (t u : List UInt8) : ((bs t).toList == (bs u).toList) = decide (t = u) := by rw [ByteArray.toList_eq, ByteArray.toList_eq, bs_list, bs_list, Bool.eq_iff_iff, beq_iff_eq, decide_eq_true_eq]
theorem beq_l (t u : List UInt8) : ((bs t).toList == u) = decide (t = u) := by rw [ByteArray.toList_eq, bs_list, Bool.eq_iff_iff, beq_iff_eq, decide_eq_true_eq]
theorem beq_nat (a b : Nat) : ((a : Int) == (b : Int)) = decide (a = b) := by rw [Bool.eq_iff_iff, beq_iff_eq, decide_eq_true_eq]; omega
theorem retBe {x y : Bool} (h : x = y) : Ending.returned (.bool x) = .returned (.bool y) := by rw [h]
theorem retSt {x y : ByteArray} (h : x = y) : Ending.returned (.string x) = .returned (.string y) := by rw [h]
def layP : Lay := ⟨[1, 2, 3, 4], [1, 2], by decide, 103, 46, 110, 40, 44, 129, 131, 198⟩
def TkA (P : Nat → Prop) (w : World) (a : Option Addr) (l : List Tok) : Prop := ∀ (i : Nat) t, l[i]? = some t → ∃ k o, a = some ⟨k, o, none⟩ ∧ P k ∧
 w.cell? ⟨k, o + i * 5, none⟩ = some (.int .i64 t.tk.k) ∧ w.cell? ⟨k, o + i * 5 + 1, none⟩ = some (.string (bs t.tk.t)) ∧ w.cell? ⟨k, o + i * 5 + 2, none⟩ = some (.int .u64 t.tk.n) ∧
 w.cell? ⟨k, o + i * 5 + 3, none⟩ = some (.int .i64 t.p.1) ∧ w.cell? ⟨k, o + i * 5 + 4, none⟩ = some (.int .i64 t.p.2)
theorem TkA.stay {P P' : Nat → Prop} {w w' : World} {a : Option Addr} {l : List Tok} (h : TkA P w a l) (hs : Stay P P' w w') : TkA P' w' a l := by
 intro i t ht
 obtain ⟨k, o, h0, h1, c0, c1, c2, c3, c4⟩ := h i t ht
 have q : ∀ (o : Nat) v, w.cell? ⟨k, o, none⟩ = some v → w'.cell? ⟨k, o, none⟩ = some v := fun o v e => (World.cell?_of_block (a := ⟨k, o, none⟩) (hs k h1).1).trans e
 exact ⟨k, o, h0, (hs k h1).2, q _ _ c0, q _ _ c1, q _ _ c2, q _ _ c3, q _ _ c4⟩
theorem TkA.tail {P : Nat → Prop} {w : World} {k o : Nat} {l : List Tok} (h : TkA P w (some ⟨k, o, none⟩) l) : TkA P w (some ⟨k, o + 5, none⟩) l.tail := by
 intro i t ht
 have ht' : l[i + 1]? = some t := by
  cases l with
  | nil => simp at ht
  | cons a r => simpa using ht
 obtain ⟨k', o', h0, h1, c0, c1, c2, c3, c4⟩ := h (i + 1) t ht'
 simp only [Option.some.injEq, Addr.mk.injEq, and_true] at h0
 obtain ⟨rfl, rfl⟩ := h0
 have e : o + (i + 1) * 5 = o + 5 + i * 5 := by omega
 rw [e] at c0 c1 c2 c3 c4
 exact ⟨_, _, rfl, h1, c0, c1, c2, c3, c4⟩
def kwA : Array Value := (kwL.map fun k => Value.string (bs k)).toArray
def szA : Array Value := #[.int .i64 1, .int .i64 2, .int .i64 3, .int .i64 4, .int .i64 8]
structure KEnv (P : Nat → Prop) (w : World) : Prop where
 kw : ∃ t fr, w.heap[0]? = some (.cells kwA t fr) ∧ P 0
 sz : ∃ t fr, w.heap[1]? = some (.cells szA t fr) ∧ P 1
theorem KEnv.stay {P P' : Nat → Prop} {w w' : World} (h : KEnv P w) (hs : Stay P P' w w') : KEnv P' w' := by
 obtain ⟨⟨t, fr, h1, h2⟩, ⟨t', fr', h3, h4⟩⟩ := h
 exact ⟨⟨t, fr, (hs _ h2).1.trans h1, (hs _ h2).2⟩, ⟨t', fr', (hs _ h4).1.trans h3, (hs _ h4).2⟩⟩
structure PInv (X : Nat → Prop) (g b : Nat) (w : World) (l : List Tok) (d : Nat) (f : FM) : Prop where
 wf : WF l
 env : KEnv (Pub X layP g w) w
 mem : ∃ a c vc vs vx vt, w.heap[g]? = some (.cells #[.slice a l.length c, vc, vs, vx, vt, .int .i64 (d : Int)] 103 (0, 0)) ∧ l.length ≤ c ∧ c ≤ maxLen ∧ TkA (Pub X layP g w) w a l ∧ FRep layP (Pub X layP g w) w vc vs vx vt f
 dep : d ≤ 32
 pot : f.g.xs.length + f.g.ts.length + 3 * l.length ≤ b
 top : b ≤ 60000
 lc : f.cs.length ≤ 64
 ls : f.ss.length ≤ 64
 priv : ∀ k, X k → Out layP g w k
section
variable {X : Nat → Prop} {g b : Nat} {w w' : World} {l : List Tok} {d : Nat} {f : FM}
theorem PInv.lt (h : PInv X g b w l d f) : g < w.heap.size := by
 obtain ⟨a, c, vc, vs, vx, vt, hh, _⟩ := h.mem
 exact (Array.getElem?_eq_some_iff.1 hh).1
theorem PInv.below (h : PInv X g b w l d f) (hb : Below w.heap.size w w') : PInv X g b w' l d f := by
 have hs0 := (St.below (L := layP) h.lt hb)
 have hs := hs0.pub X
 obtain ⟨a, c, vc, vs, vx, vt, hh, h1, h2, h3, h4⟩ := h.mem
 exact ⟨h.wf, h.env.stay hs, ⟨a, c, vc, vs, vx, vt, (hb.block g h.lt).trans hh, h1, h2, h3.stay hs,
  ⟨h4.c.stay Crep.kept hs fun k hk => hb.block k (h4.c.lt k hk), h4.s.stay (Srep.kept _) hs fun k hk => hb.block k (h4.s.lt k hk), h4.x.stay Xrep.kept hs fun k hk => hb.block k (h4.x.lt k hk), h4.t.stay (Trep.kept _) hs fun k hk => hb.block k (h4.t.lt k hk)⟩⟩, h.dep, h.pot, h.top, h.lc, h.ls, fun k hk => (hs0.stay k (h.priv k hk)).2⟩
theorem PInv.mono {b' : Nat} (h : PInv X g b w l d f) (hb : b ≤ b') (ht : b' ≤ 60000) : PInv X g b' w l d f := ⟨h.wf, h.env, h.mem, h.dep, Nat.le_trans h.pot hb, ht, h.lc, h.ls, h.priv⟩
theorem PInv.look (h : PInv X g b w l d f) : ∃ k o c, w.cell? ⟨g, 0, none⟩ = some (.slice (some ⟨k, o, none⟩) l.length c) ∧ w.cell? ⟨g, 5, none⟩ = some (.int .i64 (d : Int)) ∧ (∀ j, w.frozen? ⟨g, j, none⟩ = false) ∧ k < w.heap.size ∧ l.length ≤ c ∧ c ≤ maxLen ∧
  w.cell? ⟨k, o, none⟩ = some (.int .i64 (hd l).tk.k) ∧ w.cell? ⟨k, o + 1, none⟩ = some (.string (bs (hd l).tk.t)) ∧ w.cell? ⟨k, o + 2, none⟩ = some (.int .u64 (hd l).tk.n) ∧
  w.cell? ⟨k, o + 3, none⟩ = some (.int .i64 (hd l).p.1) ∧ w.cell? ⟨k, o + 4, none⟩ = some (.int .i64 (hd l).p.2) := by
 obtain ⟨a, c, vc, vs, vx, vt, hh, h1, h2, h3, h4⟩ := h.mem
 obtain ⟨k, o, rfl, h5, c0, c1, c2, c3, c4⟩ := h3 0 _ h.wf.hd
 rw [Nat.zero_mul, Nat.add_zero] at c0 c1 c2 c3 c4
 refine ⟨k, o, c, ?_, ?_, fun j => ?_, h5.1.lt, h1, h2, c0, c1, c2, c3, c4⟩
 ·rw [cell_of_row _ _ _ _ _ (0, 0) hh]; rfl
 ·rw [cell_of_row _ _ _ _ _ (0, 0) hh]; rfl
 ·simp [World.frozen?, hh]
theorem cell_set_row {w : World} {g : Nat} {cur : Array Value} {t : TypeId} {j : Nat} (h : w.heap[g]? = some (.cells cur t (0, 0))) (hj : j < cur.size) (v : Value) :
  (w.setCell ⟨g, j, none⟩ v).heap[g]? = some (.cells (cur.set j v hj) t (0, 0)) := by
 simp only [World.setCell, Array.getElem?_modify, if_pos, h, Option.map_some]
 simp [Array.setIfInBounds, hj]
theorem PInv.read (h : PInv X g b w l d f) (ht : WF l.tail) {k o c : Nat} (hc : w.cell? ⟨g, 0, none⟩ = some (.slice (some ⟨k, o, none⟩) l.length c)) :
  PInv X g (b - 3) (w.setCell ⟨g, 0, none⟩ (.slice (some ⟨k, o + 5, none⟩) (l.length - 1) (c - 1))) l.tail d f ∧ St layP g w (w.setCell ⟨g, 0, none⟩ (.slice (some ⟨k, o + 5, none⟩) (l.length - 1) (c - 1))) := by
 have hs : St layP g w (w.setCell ⟨g, 0, none⟩ (.slice (some ⟨k, o + 5, none⟩) (l.length - 1) (c - 1))) := (St.refl _ _ _).own (by decide) _
 refine ⟨?_, hs⟩
 obtain ⟨a, c', vc, vs, vx, vt, hh, h1, h2, h3, h4⟩ := h.mem
 rw [cell_of_row _ _ _ _ _ (0, 0) hh] at hc
 simp only [List.getElem?_toArray, List.getElem?_cons_zero, Option.some.injEq, Value.slice.injEq, true_and] at hc
 obtain ⟨rfl, rfl⟩ := hc
 have hp := h.wf.pos
 have ho : ∀ i, i ≠ g → (w.setCell ⟨g, 0, none⟩ (.slice (some ⟨k, o + 5, none⟩) (l.length - 1) (c' - 1))).heap[i]? = w.heap[i]? := fun i hi => Below.heap_setCell _ _ _ _ hi
 refine ⟨ht, h.env.stay (hs.pub X), ⟨some ⟨k, o + 5, none⟩, c' - 1, vc, vs, vx, vt, ?_, ?_, by omega, h3.tail.stay (hs.pub X),
  ⟨h4.c.stay Crep.kept (hs.pub X) fun i hi => ho i fun e => h4.c.off hh (by decide) (e ▸ hi), h4.s.stay (Srep.kept _) (hs.pub X) fun i hi => ho i fun e => h4.s.off hh (by decide) (e ▸ hi), h4.x.stay Xrep.kept (hs.pub X) fun i hi => ho i fun e => h4.x.off hh (by decide) (e ▸ hi), h4.t.stay (Trep.kept _) (hs.pub X) fun i hi => ho i fun e => h4.t.off hh (by decide) (e ▸ hi)⟩⟩, h.dep, ?_, ?_, h.lc, h.ls, fun k hk => (hs.stay k (h.priv k hk)).2⟩
 ·rw [cell_set_row hh (by simp), List.length_tail]; rfl
 ·rw [List.length_tail]; omega
 ·have := h.pot; rw [List.length_tail]; omega
 ·have := h.top; omega
theorem PInv.deep (h : PInv X g b w l d f) (d' : Nat) (hd : d' ≤ 32) : PInv X g b (w.setCell ⟨g, 5, none⟩ (.int .i64 (d' : Int))) l d' f ∧ St layP g w (w.setCell ⟨g, 5, none⟩ (.int .i64 (d' : Int))) := by
 have hs : St layP g w (w.setCell ⟨g, 5, none⟩ (.int .i64 (d' : Int))) := (St.refl _ _ _).own (by decide) _
 refine ⟨?_, hs⟩
 obtain ⟨a, c', vc, vs, vx, vt, hh, h1, h2, h3, h4⟩ := h.mem
 have ho : ∀ i, i ≠ g → (w.setCell ⟨g, 5, none⟩ (.int .i64 (d' : Int))).heap[i]? = w.heap[i]? := fun i hi => Below.heap_setCell _ _ _ _ hi
 refine ⟨h.wf, h.env.stay (hs.pub X), ⟨a, c', vc, vs, vx, vt, ?_, h1, h2, h3.stay (hs.pub X),
  ⟨h4.c.stay Crep.kept (hs.pub X) fun i hi => ho i fun e => h4.c.off hh (by decide) (e ▸ hi), h4.s.stay (Srep.kept _) (hs.pub X) fun i hi => ho i fun e => h4.s.off hh (by decide) (e ▸ hi), h4.x.stay Xrep.kept (hs.pub X) fun i hi => ho i fun e => h4.x.off hh (by decide) (e ▸ hi), h4.t.stay (Trep.kept _) (hs.pub X) fun i hi => ho i fun e => h4.t.off hh (by decide) (e ▸ hi)⟩⟩, hd, h.pot, h.top, h.lc, h.ls, fun k hk => (hs.stay k (h.priv k hk)).2⟩
 rw [cell_set_row hh (by simp)]; rfl
end
def flt (l : List Tok) (e : Nat) : List PanicEntry := [{ v := .iface 101 (.agg #[.int .i64 (hd l).p.1, .int .i64 (hd l).p.2, .int .i64 (e : Int)]), recovered := false }]
set_option maxHeartbeats 1000000 in
theorem fail_any {X : Nat → Prop} {g b : Nat} {l : List Tok} {d : Nat} {f : FM} (e : Nat) (w : World) (h : PInv X g b w l d f) :
  Calls Tryz.prog 79 #[.pointer (some ⟨g, 0, none⟩), .int .i64 (e : Int)] w fun e' w' => e' = .panicked (flt l e) ∧ w = w' := by
 have hl := h.wf.pos
 obtain ⟨k, o, c, h0, h5, hf, hkl, hc, hm, c0, c1, c2, c3, c4⟩ := h.look
 unfold maxLen at hm
 go_enter Tryz.func79, Tryz.ntmps79
 go_wp2
 exact ⟨rfl, rfl, rfl⟩
theorem expect_any {X : Nat → Prop} {g b : Nat} {l : List Tok} {d : Nat} {f : FM} (q : Bool) (w : World) (h : PInv X g b w l d f) :
  Calls Tryz.prog 127 #[.pointer (some ⟨g, 0, none⟩), .bool q] w fun e' w' => e' = (if q = true then .returned (.tuple #[]) else .panicked (flt l 4)) ∧ w = w' := by
 have C := hid (fail_any 4 w h)
 cases q
 ·go_enter Tryz.func127, Tryz.ntmps127
  go_wp2_with (go_at_call 79; refine C.out.mono ?_; rintro e w' ⟨rfl, rfl⟩)
  exact ⟨rfl, rfl, rfl⟩
 ·go_enter Tryz.func127, Tryz.ntmps127
  go_wp2_with fail
  go_end0
  exact ⟨rfl, rfl⟩
theorem room_any {X : Nat → Prop} {g b : Nat} {l : List Tok} {d : Nat} {f : FM} (k : Nat) (hk : k ≤ 64) (w : World) (h : PInv X g b w l d f) :
  Calls Tryz.prog 76 #[.pointer (some ⟨g, 0, none⟩), .int .i64 (k : Int), .int .i64 64] w fun e' w' => e' = (if 64 ≤ k then .panicked (flt l 10) else .returned (.tuple #[])) ∧ w = w' := by
 have C := hid (fail_any 10 w h)
 by_cases h64 : 64 ≤ k
 ·obtain rfl : k = 64 := by omega
  go_enter Tryz.func76, Tryz.ntmps76
  go_wp2_with (go_at_call 79; refine C.out.mono ?_; rintro e w' ⟨rfl, rfl⟩)
  exact ⟨rfl, rfl, rfl⟩
 ·have hb : ((k : Int) == 64) = false := by rw [beq_eq_false_iff_ne]; omega
  rw [if_neg h64]
  go_enter Tryz.func76, Tryz.ntmps76
  go_wp2_with fail
  go_end0
  exact ⟨rfl, rfl⟩
set_option maxHeartbeats 1000000 in
theorem read_any {X : Nat → Prop} {g b : Nat} {l : List Tok} {d : Nat} {f : FM} (w : World) (h : PInv X g b w l d f) (ht : WF l.tail) :
  Calls Tryz.prog 178 #[.pointer (some ⟨g, 0, none⟩)] w fun e' w' => e' = .returned (.agg #[.int .i64 (hd l).tk.k, .string (bs (hd l).tk.t), .int .u64 (hd l).tk.n, .int .i64 (hd l).p.1, .int .i64 (hd l).p.2]) ∧ PInv X g (b - 3) w' l.tail d f ∧ St layP g w w' := by
 have hg := h.lt
 have hl := h.wf.pos
 have hl2 := ht.pos
 rw [List.length_tail] at hl2
 obtain ⟨k, o, c, h0, h5, hf, hkl, hc, hm, c0, c1, c2, c3, c4⟩ := h.look
 have H := hid h
 have HT := hid ht
 clear h ht
 unfold maxLen at hm
 go_enter Tryz.func178, Tryz.ntmps178
 go_wp2
 obtain ⟨h1, s1⟩ := H.out.read HT.out h0
 refine bodyPost_ret (v := .agg #[.int .i64 (hd l).tk.k, .string (bs (hd l).tk.t), .int .u64 (hd l).tk.n, .int .i64 (hd l).p.1, .int .i64 (hd l).p.2]) (by simp [results, Tryz.results178, go_sem]) rfl ⟨rfl, ?_, ?_⟩
 ·exact (h1.below (below_box _ _)).below (below_box _ _)
 ·exact (s1.alloc h1.lt _).alloc (by simpa using Nat.lt_succ_of_lt hg) _
theorem atText_any {X : Nat → Prop} {g b : Nat} {l : List Tok} {d : Nat} {f : FM} (t : List UInt8) (w : World) (h : PInv X g b w l d f) :
  Calls Tryz.prog 75 #[.pointer (some ⟨g, 0, none⟩), .string (bs t)] w fun e' w' => e' = .returned (.bool (isT t l)) ∧ w = w' := by
 have hl := h.wf.pos
 obtain ⟨k, o, c, h0, h5, hf, hkl, hc, hm, c0, c1, c2, c3, c4⟩ := h.look
 unfold maxLen at hm
 go_enter Tryz.func75, Tryz.ntmps75
 go_wp2
 go_ret
 exact ⟨retBe (beq_bs _ _), rfl⟩
theorem atNumber_any {X : Nat → Prop} {g b : Nat} {l : List Tok} {d : Nat} {f : FM} (w : World) (h : PInv X g b w l d f) :
  Calls Tryz.prog 179 #[.pointer (some ⟨g, 0, none⟩)] w fun e' w' => e' = .returned (.bool (isNum l)) ∧ w = w' := by
 have hl := h.wf.pos
 obtain ⟨k, o, c, h0, h5, hf, hkl, hc, hm, c0, c1, c2, c3, c4⟩ := h.look
 unfold maxLen at hm
 go_enter Tryz.func179, Tryz.ntmps179
 go_wp2
 go_ret
 exact ⟨retBe (beq_nat _ 1), rfl⟩
end Go.Proofs.YtomimkgaelkaoaaGreatDoor
