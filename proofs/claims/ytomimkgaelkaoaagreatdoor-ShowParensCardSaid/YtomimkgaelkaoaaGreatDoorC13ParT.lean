/- Layer 7: the program's parser: elements. · Layer 7: the program's parser: elements with their arrays; inner types. · Layer 7: the program's parser: inner types and branches. -/
import Derived.Test.YtomimkgaelkaoaaGreatDoorC13ParO
set_option linter.unusedVariables false
set_option linter.unusedSimpArgs false
namespace Go.Proofs.YtomimkgaelkaoaaGreatDoor
open Go.Lib (hid)
open Go.ChangeShapes Go.WideShapes Go.ChangeAt Go.RowKit
theorem below_pair (w : World) (A B : Obj) : Below w.heap.size w ((w.alloc A).alloc B) := ((Below.refl _ _).alloc (Nat.le_refl _) _).alloc (by simp) _
theorem heap_pair (w : World) (A B : Obj) : ((w.alloc A).alloc B).heap[w.heap.size + 1]? = some B := by
 have := heap_alloc_new (w.alloc A) B
 rw [show (w.alloc A).heap.size = w.heap.size + 1 from by simp] at this
 exact this
theorem cells8 {T : TypeId} {w : World} {k : Nat} {v0 v1 v2 v3 v4 v5 v6 v7 : Value} (h : w.heap[k]? = some (.cells #[v0, v1, v2, v3, v4, v5, v6, v7] T (0, 0))) :
  (w.cell? ⟨k, 0, none⟩ = some v0 ∧ w.cell? ⟨k, 1, none⟩ = some v1 ∧ w.cell? ⟨k, 2, none⟩ = some v2 ∧ w.cell? ⟨k, 3, none⟩ = some v3 ∧ w.cell? ⟨k, 4, none⟩ = some v4 ∧ w.cell? ⟨k, 5, none⟩ = some v5 ∧ w.cell? ⟨k, 6, none⟩ = some v6 ∧ w.cell? ⟨k, 7, none⟩ = some v7) ∧ (∀ j, w.frozen? ⟨k, j, none⟩ = false) ∧ k < w.heap.size := by
 refine ⟨⟨?_, ?_, ?_, ?_, ?_, ?_, ?_, ?_⟩, fun j => by simp [World.frozen?, h], (Array.getElem?_eq_some_iff.1 h).1⟩ <;> (rw [cell_of_row _ _ _ _ _ (0, 0) h]; rfl)
section
variable {X : Nat → Prop} {g b : Nat} {w W : World} {l : List Tok} {d : Nat} {f : FM} {k : Nat}
theorem PInv.stayL (h : PInv X g b w l d f) (hk : X k) (o : Nat) (u : Value) : Stay (Pub X layP g w) (Pub X layP g (w.setCell ⟨k, o, none⟩ u)) w (w.setCell ⟨k, o, none⟩ u) := by
 have ho := h.priv k hk
 have hg : (w.setCell ⟨k, o, none⟩ u).heap[g]? = w.heap[g]? := Below.heap_setCell _ _ _ _ fun e => ho.ne e.symm
 exact fun i hi => ⟨Below.heap_setCell _ _ _ _ fun e => hi.2 (by rw [show i = k from e]; exact hk), hi.1.of (by simp [World.setCell]) hg, hi.2⟩
theorem Stay.trans {P P' P'' : Nat → Prop} {w w' w'' : World} (h : Stay P P' w w') (k : Stay P' P'' w' w'') : Stay P P'' w w'' := fun i hi => ⟨((k i (h i hi).2).1).trans (h i hi).1, (k i (h i hi).2).2⟩
def set8 (w : World) (k : Nat) (c0 c1 c2 c3 c4 c5 c6 c7 : Value) : World := (((((((w.setCell ⟨k, 0, none⟩ c0).setCell ⟨k, 1, none⟩ c1).setCell ⟨k, 2, none⟩ c2).setCell ⟨k, 3, none⟩ c3).setCell ⟨k, 4, none⟩ c4).setCell ⟨k, 5, none⟩ c5).setCell ⟨k, 6, none⟩ c6).setCell ⟨k, 7, none⟩ c7
theorem PInv.set8 (h : PInv X g b w l d f) (hk : X k) (c0 c1 c2 c3 c4 c5 c6 c7 : Value) : PInv X g b (set8 w k c0 c1 c2 c3 c4 c5 c6 c7) l d f :=
 (((((((h.local hk _ _).local hk _ _).local hk _ _).local hk _ _).local hk _ _).local hk _ _).local hk _ _).local hk _ _
theorem PInv.stay8 (h : PInv X g b w l d f) (hk : X k) (c0 c1 c2 c3 c4 c5 c6 c7 : Value) : Stay (Pub X layP g w) (Pub X layP g (Go.Proofs.YtomimkgaelkaoaaGreatDoor.set8 w k c0 c1 c2 c3 c4 c5 c6 c7)) w (Go.Proofs.YtomimkgaelkaoaaGreatDoor.set8 w k c0 c1 c2 c3 c4 c5 c6 c7) := by
 have h0 := h.local hk 0 c0
 have h1 := h0.local hk 1 c1
 have h2 := h1.local hk 2 c2
 have h3 := h2.local hk 3 c3
 have h4 := h3.local hk 4 c4
 have h5 := h4.local hk 5 c5
 have h6 := h5.local hk 6 c6
 exact (((((((h.stayL hk _ _).trans (h0.stayL hk _ _)).trans (h1.stayL hk _ _)).trans (h2.stayL hk _ _)).trans (h3.stayL hk _ _)).trans (h4.stayL hk _ _)).trans (h5.stayL hk _ _)).trans (h6.stayL hk _ _)
theorem St.set8 (h : St layP g W w) (hg : g < W.heap.size) (hk : W.heap.size ≤ k) (c0 c1 c2 c3 c4 c5 c6 c7 : Value) : St layP g W (Go.Proofs.YtomimkgaelkaoaaGreatDoor.set8 w k c0 c1 c2 c3 c4 c5 c6 c7) :=
 (((((((h.fresh hg hk _ _).fresh hg hk _ _).fresh hg hk _ _).fresh hg hk _ _).fresh hg hk _ _).fresh hg hk _ _).fresh hg hk _ _).fresh hg hk _ _
theorem Pub.weak {X X' : Nat → Prop} {L : Lay} {w : World} {i : Nat} (h : Pub X L g w i) (hx : ∀ k, X' k → X k) : Pub X' L g w i := ⟨h.1, fun e => h.2 (hx i e)⟩
theorem Trep.weak {L : Lay} {P P' : Nat → Prop} {w : World} {c : List Value} {t : TM} (h : Trep L P w c t) (hp : ∀ i, P i → P' i) : Trep L P' w c t := (Trep.kept L) P P' w w c t h fun i hi => ⟨rfl, hp i hi⟩
end
def singleM : TA → GM → GM × TM
 | .int z li, g => (g, ⟨0, z, li, [], [], -1, -1, []⟩)
 | .ref s es, g => ((putEs es g).1, ⟨10, 0, false, s, (putEs es g).2, -1, -1, []⟩)
 | _, g => (g, ⟨0, 0, false, [], [], -1, -1, []⟩)
def SRel (X : Nat → Prop) (g : Nat) (f : FM) (t : TA) (v : Value) (w' : World) : Prop := ∃ c0 c1 c2 c3 c4 c5 c6 c7, v = .agg #[c0, c1, c2, c3, c4, c5, c6, c7] ∧ Trep layP (Pub X layP g w') w' [c0, c1, c2, c3, c4, c5, c6, c7] (singleM t f.g).2
set_option maxHeartbeats 4000000 in
set_option maxRecDepth 100000 in
theorem single_any (n : Nat) {X : Nat → Prop} {g b : Nat} {l : List Tok} {d : Nat} {f : FM} (w : World) (h : PInv X g b w l d f) (h1 : single1 l) (hn : 8 * l.length ≤ n + 6) :
  Calls Tryz.prog 283 #[.pointer (some ⟨g, 0, none⟩)] w (PostV X g (b - 3) w d (singleP n d l) (SRel X g f) fun t => f.setG (singleM t f.g).1) := by
 have htop := h.top
 have hw := h.wf
 have hg := h.lt
 have hwt := single1_ne hw h1
 have hpos := hw.pos
 have rt := run_text
 have htl : l.tail.length = l.length - 1 := List.length_tail
 have h0 := (h.hide (.cells #[.int .i64 0, .int .i64 0, .bool false, .string ⟨#[]⟩, .slice none 0 0, .int .i64 0, .int .i64 0, .slice none 0 0] 44)).hide (.cells #[.int .i64 10, .int .i64 0, .bool false, .string ⟨#[]⟩, .slice none 0 0, .int .i64 (-1), .int .i64 (-1), .slice none 0 0] 44)
 have hs0 : St layP g w ((w.alloc (.cells #[.int .i64 0, .int .i64 0, .bool false, .string ⟨#[]⟩, .slice none 0 0, .int .i64 0, .int .i64 0, .slice none 0 0] 44)).alloc (.cells #[.int .i64 10, .int .i64 0, .bool false, .string ⟨#[]⟩, .slice none 0 0, .int .i64 (-1), .int .i64 (-1), .slice none 0 0] 44)) := St.below hg (below_pair _ _ _)
 have hb0 : ((w.alloc (.cells #[.int .i64 0, .int .i64 0, .bool false, .string ⟨#[]⟩, .slice none 0 0, .int .i64 0, .int .i64 0, .slice none 0 0] 44)).alloc (.cells #[.int .i64 10, .int .i64 0, .bool false, .string ⟨#[]⟩, .slice none 0 0, .int .i64 (-1), .int .i64 (-1), .slice none 0 0] 44)).heap[w.heap.size]? = some (.cells #[.int .i64 0, .int .i64 0, .bool false, .string ⟨#[]⟩, .slice none 0 0, .int .i64 0, .int .i64 0, .slice none 0 0] 44 (0, 0)) := (Below.heap_alloc _ _ _ (by simp)).trans (heap_alloc_new w _)
 have hb1 := heap_pair w (.cells #[.int .i64 0, .int .i64 0, .bool false, .string ⟨#[]⟩, .slice none 0 0, .int .i64 0, .int .i64 0, .slice none 0 0] 44) (.cells #[.int .i64 10, .int .i64 0, .bool false, .string ⟨#[]⟩, .slice none 0 0, .int .i64 (-1), .int .i64 (-1), .slice none 0 0] 44)
 rw [show (w.alloc (.cells #[.int .i64 0, .int .i64 0, .bool false, .string ⟨#[]⟩, .slice none 0 0, .int .i64 0, .int .i64 0, .slice none 0 0] 44)).heap.size = w.heap.size + 1 from by simp] at h0
 have C1 := hid (read_any _ h0 hwt)
 have HB0 := hid hb0
 have HB1 := hid hb1
 have HS0 := hid hs0
 have H0 := hid h0
 unfold singleP
 cases hi : intW (hd l).tk.t with
 | some p =>
  obtain ⟨z, li⟩ := p
  have CI : ∀ w2, PInv (wth (wth X w.heap.size) (w.heap.size + 1)) g (b - 3) w2 l.tail d f → _ := fun w2 hi => Integer_any (hd l).tk.t w2 hi.env
  rw [hi] at CI
  simp only [intR] at CI
  have HCI := hid CI
  clear CI hb0 hb1 hs0 h0 h hi h1
  generalize (hd l).tk.t = t at *
  go_enter Tryz.func283, Tryz.ntmps283
  go_wp2_with (first | (go_at_call 178; go_must (refine C1.out.mono ?_; rintro e2 w2 ⟨rfl, hI2, hS2⟩; have D := hid (HCI.out w2 hI2); have hc0 := (H0.out.own (.inl (.inr rfl)) hS2).trans HB0.out; have hc1 := (H0.out.own (.inr rfl) hS2).trans HB1.out; have HI2 := hid hI2; obtain ⟨⟨a0, a1, a2, a3, a4, a5, a6, a7⟩, af, al⟩ := cells8 hc0; obtain ⟨⟨d0, d1, d2, d3, d4, d5, d6, d7⟩, df, dl⟩ := cells8 hc1; clear hI2 hc0 hc1)) | (go_at_call 55; go_must (refine D.out.mono ?_; rintro e w' ⟨rfl, rfl⟩)))
  have q1 := ((HI2.out.local (.inr rfl) 0 (.int .i64 0)).local (.inr rfl) 1 (.int .i64 (z : Int))).local (.inr rfl) 2 (.bool li)
  have s1 := (((HS0.out.trans hS2).fresh hg (Nat.le_succ w.heap.size) 0 (.int .i64 0)).fresh hg (Nat.le_succ w.heap.size) 1 (.int .i64 (z : Int))).fresh hg (Nat.le_succ w.heap.size) 2 (.bool li)
  have q2 := PInv.set8 q1 (k := w.heap.size) (.inl (.inr rfl)) (.int .i64 0) (.int .i64 (z : Int)) (.bool li) (.string ⟨#[]⟩) (.slice none 0 0) (.int .i64 (-1)) (.int .i64 (-1)) (.slice none 0 0)
  have qs := PInv.stay8 q1 (k := w.heap.size) (.inl (.inr rfl)) (.int .i64 0) (.int .i64 (z : Int)) (.bool li) (.string ⟨#[]⟩) (.slice none 0 0) (.int .i64 (-1)) (.int .i64 (-1)) (.slice none 0 0)
  have s2 := St.set8 (k := w.heap.size) s1 hg (Nat.le_refl _) (.int .i64 0) (.int .i64 (z : Int)) (.bool li) (.string ⟨#[]⟩) (.slice none 0 0) (.int .i64 (-1)) (.int .i64 (-1)) (.slice none 0 0)
  refine bodyPost_ret (v := .agg #[.int .i64 0, .int .i64 (z : Int), .bool li, .string ⟨#[]⟩, .slice none 0 0, .int .i64 (-1), .int .i64 (-1), .slice none 0 0]) (by simp [results, Tryz.results283, go_sem, a0, a1, a2, a3, a4, a5, a6, a7]) rfl ⟨⟨_, rfl, ⟨_, _, _, _, _, _, _, _, rfl, ⟨.slice none 0 0, .slice none 0 0, rfl, World.ownsRow_nil _ _ _ _, Nest.none _ _ _, World.ownsRow_nil _ _ _ _, Nest.none _ _ _⟩⟩, q2.bare.bare⟩, s2⟩
 | none =>
  have CI : ∀ w2, PInv (wth (wth X w.heap.size) (w.heap.size + 1)) g (b - 3) w2 l.tail d f → _ := fun w2 hi => Integer_any (hd l).tk.t w2 hi.env
  rw [hi] at CI
  simp only [intR] at CI
  have HCI := hid CI
  clear CI hb0 hb1 hs0 h0 h hi h1
  cases hp : isT sLp l.tail
  ·rw [if_neg (by decide)]
   generalize (hd l).tk.t = t at *
   go_enter Tryz.func283, Tryz.ntmps283
   go_wp2_with (first | (go_at_call 178; go_must (refine C1.out.mono ?_; rintro e2 w2 ⟨rfl, hI2, hS2⟩; have D := hid (HCI.out w2 hI2); have hc0 := (H0.out.own (.inl (.inr rfl)) hS2).trans HB0.out; have hc1 := (H0.out.own (.inr rfl) hS2).trans HB1.out; have HI2 := hid hI2; have T := hid (takeN_sLp _ (hI2.local (.inr rfl) 3 (.string (bs t))) hp); obtain ⟨⟨a0, a1, a2, a3, a4, a5, a6, a7⟩, af, al⟩ := cells8 hc0; obtain ⟨⟨d0, d1, d2, d3, d4, d5, d6, d7⟩, df, dl⟩ := cells8 hc1; clear hI2 hc0 hc1)) | (go_at_call 55; go_must (refine D.out.mono ?_; rintro e w' ⟨rfl, rfl⟩)) | (go_at_call 125; go_must (refine T.out.mono ?_; rintro e w' ⟨rfl, rfl⟩)))
   have q1 := HI2.out.local (.inr rfl) 3 (.string (bs t))
   have s1 := (HS0.out.trans hS2).fresh hg (Nat.le_succ w.heap.size) 3 (.string (bs t))
   have q2 := PInv.set8 q1 (k := w.heap.size) (.inl (.inr rfl)) (.int .i64 10) (.int .i64 0) (.bool false) (.string (bs t)) (.slice none 0 0) (.int .i64 (-1)) (.int .i64 (-1)) (.slice none 0 0)
   have qs := PInv.stay8 q1 (k := w.heap.size) (.inl (.inr rfl)) (.int .i64 10) (.int .i64 0) (.bool false) (.string (bs t)) (.slice none 0 0) (.int .i64 (-1)) (.int .i64 (-1)) (.slice none 0 0)
   have s2 := St.set8 (k := w.heap.size) s1 hg (Nat.le_refl _) (.int .i64 10) (.int .i64 0) (.bool false) (.string (bs t)) (.slice none 0 0) (.int .i64 (-1)) (.int .i64 (-1)) (.slice none 0 0)
   refine bodyPost_ret (v := .agg #[.int .i64 10, .int .i64 0, .bool false, .string (bs t), .slice none 0 0, .int .i64 (-1), .int .i64 (-1), .slice none 0 0]) (by simp [results, Tryz.results283, go_sem, a0, a1, a2, a3, a4, a5, a6, a7]) rfl ⟨⟨_, rfl, ⟨_, _, _, _, _, _, _, _, rfl, ⟨.slice none 0 0, .slice none 0 0, rfl, World.ownsRow_nil _ _ _ _, Nest.none _ _ _, World.ownsRow_nil _ _ _ _, Nest.none _ _ _⟩⟩, q2.bare.bare⟩, s2⟩
  ·rw [if_pos rfl]
   have hwtt := hwt.isT hp (by decide)
   have httl : l.tail.tail.length = l.tail.length - 1 := List.length_tail
   have hpt := hwt.pos
   have c3 : ∀ w3, PInv (wth (wth X w.heap.size) (w.heap.size + 1)) g (b - 3 - 3) w3 l.tail.tail d f → _ := fun w3 hi => args_any n w3 hi (by omega)
   rcases hA : argsP n d l.tail.tail with ⟨es, l4⟩ | ⟨l4, x⟩
   ·rw [hA] at c3
    have C3 := hid c3
    clear c3 hA
    generalize (hd l).tk.t = t at *
    go_enter Tryz.func283, Tryz.ntmps283
    go_wp2_with (first | (go_at_call 178; go_must (refine C1.out.mono ?_; rintro e2 w2 ⟨rfl, hI2, hS2⟩; have D := hid (HCI.out w2 hI2); have hc0 := (H0.out.own (.inl (.inr rfl)) hS2).trans HB0.out; have hc1 := (H0.out.own (.inr rfl) hS2).trans HB1.out; have HC0 := hid hc0; have HC1 := hid hc1; have HI2 := hid hI2; have T := hid (takeY_sLp _ (hI2.local (.inr rfl) 3 (.string (bs t))) hp); obtain ⟨⟨d0, d1, d2, d3, d4, d5, d6, d7⟩, df, dl⟩ := cells8 hc1; clear hI2 hc0 hc1)) | (go_at_call 55; go_must (refine D.out.mono ?_; rintro e w' ⟨rfl, rfl⟩)) | (go_at_call 125; go_must (refine T.out.mono ?_; rintro e w3 ⟨rfl, hI3, hS3⟩; have D3 := hid (C3.out w3 hI3); have HI3 := hid hI3; clear hI3 d0 d1 d2 d3 d4 d5 d6 d7 df)) | (go_at_call 305; go_must (refine D3.out.mono ?_; rintro e4 w4 ⟨⟨av, rfl, ⟨hV, hN⟩, hI4⟩, hS4⟩; obtain ⟨va, vc, rfl⟩ := ownsRow_shape hV; have hc1 := (HI3.out.own (.inr rfl) hS4).trans (((HI2.out.local (.inr rfl) 3 (.string (bs t))).own (.inr rfl) hS3).trans (cell_set_row HC1.out (by decide) (.string (bs t)))); have hc0 := (HI3.out.own (.inl (.inr rfl)) hS4).trans (((HI2.out.local (.inr rfl) 3 (.string (bs t))).own (.inl (.inr rfl)) hS3).trans ((Below.heap_setCell w2 ⟨w.heap.size + 1, 3, none⟩ (.string (bs t)) w.heap.size (by simp)).trans HC0.out)); obtain ⟨⟨a0, a1, a2, a3, a4, a5, a6, a7⟩, af, al⟩ := cells8 hc0; obtain ⟨⟨d0, d1, d2, d3, d4, d5, d6, d7⟩, df, dl⟩ := cells8 hc1; have HI4 := hid hI4; have HV := hid hV; have HN := hid hN; clear hI4 hV hN hc0 hc1)))
    have q1 := HI4.out.local (.inr rfl) 4 (.slice va (putEs es f.g).2.length vc)
    have s1 := ((((HS0.out.trans hS2).fresh hg (Nat.le_succ w.heap.size) 3 (.string (bs t))).trans hS3).trans hS4).fresh hg (Nat.le_succ w.heap.size) 4 (.slice va (putEs es f.g).2.length vc)
    have q2 := PInv.set8 q1 (k := w.heap.size) (.inl (.inr rfl)) (.int .i64 10) (.int .i64 0) (.bool false) (.string (bs t)) (.slice va (putEs es f.g).2.length vc) (.int .i64 (-1)) (.int .i64 (-1)) (.slice none 0 0)
    have qs := (HI4.out.stayL (.inr rfl) 4 (.slice va (putEs es f.g).2.length vc)).trans (PInv.stay8 q1 (k := w.heap.size) (.inl (.inr rfl)) (.int .i64 10) (.int .i64 0) (.bool false) (.string (bs t)) (.slice va (putEs es f.g).2.length vc) (.int .i64 (-1)) (.int .i64 (-1)) (.slice none 0 0))
    have s2 := St.set8 (k := w.heap.size) s1 hg (Nat.le_refl _) (.int .i64 10) (.int .i64 0) (.bool false) (.string (bs t)) (.slice va (putEs es f.g).2.length vc) (.int .i64 (-1)) (.int .i64 (-1)) (.slice none 0 0)
    have tr : Trep layP (Pub (wth (wth X w.heap.size) (w.heap.size + 1)) layP g w4) w4 [.int .i64 10, .int .i64 0, .bool false, .string (bs t), .slice va (putEs es f.g).2.length vc, .int .i64 (-1), .int .i64 (-1), .slice none 0 0] (singleM (.ref t es) f.g).2 := ⟨_, .slice none 0 0, rfl, HV.out, HN.out, World.ownsRow_nil _ _ _ _, Nest.none _ _ _⟩
    refine bodyPost_ret (v := .agg #[.int .i64 10, .int .i64 0, .bool false, .string (bs t), .slice va (putEs es f.g).2.length vc, .int .i64 (-1), .int .i64 (-1), .slice none 0 0]) (by simp [results, Tryz.results283, go_sem, a0, a1, a2, a3, a4, a5, a6, a7]) rfl ⟨⟨_, rfl, ⟨_, _, _, _, _, _, _, _, rfl, ((Trep.kept _) _ _ _ _ _ _ tr qs).weak fun i hi => hi.weak fun k hk => .inl (.inl hk)⟩, q2.bare.bare.mono (by omega) (by omega)⟩, s2⟩
   ·rw [hA] at c3
    have C3 := hid c3
    clear c3 hA
    generalize (hd l).tk.t = t at *
    go_enter Tryz.func283, Tryz.ntmps283
    go_wp2_with (first | (go_at_call 178; go_must (refine C1.out.mono ?_; rintro e2 w2 ⟨rfl, hI2, hS2⟩; have D := hid (HCI.out w2 hI2); have hc0 := (H0.out.own (.inl (.inr rfl)) hS2).trans HB0.out; have hc1 := (H0.out.own (.inr rfl) hS2).trans HB1.out; have HC0 := hid hc0; have HC1 := hid hc1; have HI2 := hid hI2; have T := hid (takeY_sLp _ (hI2.local (.inr rfl) 3 (.string (bs t))) hp); obtain ⟨⟨d0, d1, d2, d3, d4, d5, d6, d7⟩, df, dl⟩ := cells8 hc1; clear hI2 hc0 hc1)) | (go_at_call 55; go_must (refine D.out.mono ?_; rintro e w' ⟨rfl, rfl⟩)) | (go_at_call 125; go_must (refine T.out.mono ?_; rintro e w3 ⟨rfl, hI3, hS3⟩; have D3 := hid (C3.out w3 hI3); have HI3 := hid hI3; clear hI3 d0 d1 d2 d3 d4 d5 d6 d7 df)) | (go_at_call 305; go_must (refine D3.out.mono ?_; rintro e4 w4 ⟨rfl, hS4⟩)))
    exact ⟨rfl, rfl, (((HS0.out.trans hS2).fresh hg (Nat.le_succ w.heap.size) 3 (.string (bs t))).trans hS3).trans hS4⟩
end Go.Proofs.YtomimkgaelkaoaaGreatDoor
namespace Go.Proofs.YtomimkgaelkaoaaGreatDoor
open Go.Lib (hid)
open Go.ChangeShapes Go.WideShapes Go.ChangeAt Go.RowKit
theorem single_put {n d : Nat} {l l1 : List Tok} {t : TA} (h : singleP n d l = .ok t l1) (g : GM) : (putT t g).1 = (singleM t g).1.addT (singleM t g).2 := by
 unfold singleP at h
 split at h
 ·cases h; rfl
 ·split at h
  ·rcases hA : argsP n d l.tail.tail with ⟨es, l4⟩ | ⟨l4, x⟩
   all_goals rw [hA] at h; cases h
   rfl
  ·cases h; rfl
theorem addT_lit {X : Nat → Prop} {g b : Nat} {l : List Tok} {d : Nat} {f : FM} (k size : Nat) (li : Bool) (s : List UInt8) (e i : Int) (w : World) (h : PInv X g b w l d f) (hb : b < 60000) :
  Calls Tryz.prog 240 #[.pointer (some ⟨g, 0, none⟩), .agg #[.int .i64 (k : Int), .int .i64 (size : Int), .bool li, .string (bs s), .slice none 0 0, .int .i64 e, .int .i64 i, .slice none 0 0]] w
   fun e' w' => e' = .returned (.int .i64 ((f.g.addT ⟨k, size, li, s, [], e, i, []⟩).t : Int)) ∧ PInv X g (b + 1) w' l d (f.setG (f.g.addT ⟨k, size, li, s, [], e, i, []⟩)) ∧ St layP g w w' :=
 addT_any ⟨k, size, li, s, [], e, i, []⟩ _ _ _ _ _ _ _ _ _ h hb ⟨_, _, rfl, World.ownsRow_nil _ _ _ _, Nest.none _ _ _, World.ownsRow_nil _ _ _ _, Nest.none _ _ _⟩
theorem single_wf {n d : Nat} {l l' : List Tok} {t : TA} (h1 : single1 l) (hw : WF l) (h : singleP n d l = .ok t l') : l'.length < l.length ∧ WF l' := by
 have := good_single n d l h1 hw
 rw [h] at this
 exact ⟨by have := this.2; omega, this.1⟩
set_option maxHeartbeats 4000000 in
set_option maxRecDepth 100000 in
theorem elem_any (n : Nat) {X : Nat → Prop} {g b : Nat} {l : List Tok} {d : Nat} {f : FM} (w : World) (h : PInv X g b w l d f) (h1 : single1 l) (hn : 8 * l.length ≤ n + 6) :
  Calls Tryz.prog 239 #[.pointer (some ⟨g, 0, none⟩)] w (PostP X g b w d (elemP n d l) (fun t => .int .i64 ((putT t f.g).1.t : Int)) fun t => f.setG (putT t f.g).1) := by
 have htop := h.top
 have hw := h.wf
 have hg := h.lt
 have hpos := hw.pos
 have hpot := h.pot
 have c1 := single_any n w h h1 hn
 unfold elemP
 rcases hR : singleP n d l with ⟨t, l1⟩ | ⟨l1, x⟩
 all_goals rw [hR] at c1; have C1 := hid c1; clear c1
 ·obtain ⟨hl1, hw1⟩ := single_wf h1 hw hR
  have hput := single_put hR f.g
  rw [PR.bind_ok]
  cases hb : isT sLb l1
  ·rw [if_neg (by decide)]
   have HB := hid hb
   have HP := hid hput
   clear hb hR h hput
   go_enter Tryz.func239, Tryz.ntmps239
   go_wp2_with (first | (go_at_call 283; go_must (refine C1.out.mono ?_; rintro e1 w1 ⟨⟨_, rfl, ⟨c0, c1, c2, c3, c4, c5, c6, c7, rfl, ht⟩, hI1⟩, hS1⟩; have CT := hid (addT_any _ c0 c1 c2 c3 c4 c5 c6 c7 w1 hI1 (by omega) ht); clear hI1 ht)) | (go_at_call 240; go_must (refine CT.out.mono ?_; rintro e2 w2 ⟨rfl, hI2, hS2⟩; have CA := hid (at_sLb w2 hI2 HB.out); have HI2 := hid hI2; clear hI2)) | (go_at_call 75; go_must (refine CA.out.mono ?_; rintro e w' ⟨rfl, rfl⟩)))
   go_ret
   have hI := HI2.out.mono (b' := b) (by omega) htop
   refine ⟨?_, ?_, hS1.trans hS2⟩
   ·show _ = Ending.returned (.int .i64 ((putT t f.g).1.t : Int))
    rw [HP.out]
    rfl
   ·show PInv X g b w2 l1 d (f.setG (putT t f.g).1)
    rw [HP.out]
    exact hI
  ·rw [if_pos rfl]
   have HB := hid hb
   have HP := hid hput
   have c3 : ∀ w2, PInv X g (b - 3 + 1) w2 l1 d (f.setG (putT t f.g).1) → Calls Tryz.prog 236 #[.pointer (some ⟨g, 0, none⟩)] w2 (PostP X g (b - 3 + 1 - 3) w2 d (idxP n d l1) (fun a => .int .i64 ((putE a (putT t f.g).1).x : Int)) fun a => f.setG (putE a (putT t f.g).1)) := fun w2 hi => idx_any n w2 hi (by omega)
   rcases hX : idxP n d l1 with ⟨e, l2⟩ | ⟨l2, x⟩
   all_goals
    rw [hX] at c3
    have C3 := hid c3
    clear c3 hX hb hput hR h
    go_enter Tryz.func239, Tryz.ntmps239
   ·go_wp2_with (first | (go_at_call 283; go_must (refine C1.out.mono ?_; rintro e1 w1 ⟨⟨_, rfl, ⟨c0, c1, c2, c3, c4, c5, c6, c7, rfl, ht⟩, hI1⟩, hS1⟩; have CT := hid (addT_any _ c0 c1 c2 c3 c4 c5 c6 c7 w1 hI1 (by omega) ht); clear hI1 ht)) | (go_at_call 240; first | ((with_reducible refine CT.out.mono ?_); rintro e2 w2 ⟨rfl, hI2, hS2⟩; have CA := hid (at_sLb w2 hI2 HB.out); have D3 := hid (C3.out w2 (by rw [HP.out]; exact hI2)); clear hI2) | (refine CU.out.mono ?_; rintro e4 w4 ⟨rfl, hI4, hS4⟩; have HI4 := hid hI4; clear hI4)) | (go_at_call 75; go_must (refine CA.out.mono ?_; rintro e w' ⟨rfl, rfl⟩)) | (go_at_call 236; go_must (refine D3.out.mono ?_; rintro e3 w3 ⟨rfl, hI3, hS3⟩; have CU := hid (addT_lit 5 0 false [] ((putE e (putT t f.g).1).x : Int) (((singleM t f.g).1.addT (singleM t f.g).2).t : Int) w3 hI3 (by omega)); clear hI3)))
    go_ret
    have hI := HI4.out.mono (b' := b) (by omega) htop
    have key : (putE e (putT t f.g).1).addT ⟨5, 0, false, [], [], ((putE e (putT t f.g).1).x : Int), (((singleM t f.g).1.addT (singleM t f.g).2).t : Int), []⟩ = (putT (.arr t e) f.g).1 := by
     simp only [putT]
     rw [HP.out]
    refine ⟨retI (by rw [key]), ?_, ((hS1.trans hS2).trans hS3).trans hS4⟩
    rw [key] at hI
    exact hI
   ·go_wp2_with (first | (go_at_call 283; go_must (refine C1.out.mono ?_; rintro e1 w1 ⟨⟨_, rfl, ⟨c0, c1, c2, c3, c4, c5, c6, c7, rfl, ht⟩, hI1⟩, hS1⟩; have CT := hid (addT_any _ c0 c1 c2 c3 c4 c5 c6 c7 w1 hI1 (by omega) ht); clear hI1 ht)) | (go_at_call 240; go_must (refine CT.out.mono ?_; rintro e2 w2 ⟨rfl, hI2, hS2⟩; have CA := hid (at_sLb w2 hI2 HB.out); have D3 := hid (C3.out w2 (by rw [HP.out]; exact hI2)); clear hI2)) | (go_at_call 75; go_must (refine CA.out.mono ?_; rintro e w' ⟨rfl, rfl⟩)) | (go_at_call 236; go_must (refine D3.out.mono ?_; rintro e3 w3 ⟨rfl, hI3, hS3⟩)))
    exact ⟨rfl, rfl, trivial, (hS1.trans hS2).trans hS3⟩
 ·rw [PR.bind_bad]
  clear hR h
  go_enter Tryz.func239, Tryz.ntmps239
  go_wp2_with (go_at_call 283; go_must (refine C1.out.mono ?_; rintro e1 w1 ⟨rfl, hS1⟩))
  exact ⟨rfl, rfl, trivial, hS1⟩
end Go.Proofs.YtomimkgaelkaoaaGreatDoor
namespace Go.Proofs.YtomimkgaelkaoaaGreatDoor
open Go.Lib (hid)
open Go.ChangeShapes Go.WideShapes Go.ChangeAt Go.RowKit
def CT (n : Nat) : Prop := ∀ (X : Nat → Prop) (g b : Nat) (l : List Tok) (d : Nat) (f : FM) (w : World), PInv X g b w l d f → 8 * l.length + 4 ≤ n →
 Calls Tryz.prog 181 #[.pointer (some ⟨g, 0, none⟩)] w (PostP X g b w d (typP n d l) (fun t => .int .i64 ((putT t f.g).1.t : Int)) fun t => f.setG (putT t f.g).1)
def CIn (n : Nat) : Prop := ∀ (X : Nat → Prop) (g b : Nat) (l : List Tok) (d : Nat) (f : FM) (w : World), PInv X g b w l d f → 8 * l.length + 5 ≤ n →
 Calls Tryz.prog 237 #[.pointer (some ⟨g, 0, none⟩)] w (PostP X g b w d (innerP n d l) (fun t => .int .i64 ((putT t f.g).1.t : Int)) fun t => f.setG (putT t f.g).1)
def CBr (n : Nat) : Prop := ∀ (X : Nat → Prop) (g b : Nat) (l : List Tok) (d : Nat) (f : FM) (w : World), PInv X g b w l d f → 8 * l.length ≤ n →
 Calls Tryz.prog 282 #[.pointer (some ⟨g, 0, none⟩)] w (PostP X g b w d (branchP n d l) (fun t => .int .i64 ((putT t f.g).1.t : Int)) fun t => f.setG (putT t f.g).1)
set_option maxHeartbeats 4000000 in
set_option maxRecDepth 100000 in
theorem inner_step {n : Nat} (IT : CT n) : CIn (n + 1) := by
 intro X g b l d f w h hn
 have CB := hid (begT_any w h)
 have cn : Calls Tryz.prog 281 #[.pointer (some ⟨g, 0, none⟩), .bool (begT l), .func (.func 181) #[.pointer (some ⟨g, 0, none⟩)] #[]] w (PostP X g b w d (nestP (begT l) d l (typP n (d + 1) l)) (fun t => .int .i64 ((putT t f.g).1.t : Int)) fun t => f.setG (putT t f.g).1) :=
  nested_any _ _ _ (fun t => ((putT t f.g).1.t : Int)) _ w h enter_type fun w' _ h' => IT X g b l (d + 1) f w' h' (by omega)
 have hr : innerP (n + 1) d l = nestP (begT l) d l (typP n (d + 1) l) := by
  rw [innerP]
  unfold nestP
  cases he : enterP (begT l) d l with
  | bad l' x => rfl
  | ok u l' => rw [(enter_same he).1]; rfl
 rw [hr]
 rcases hR : nestP (begT l) d l (typP n (d + 1) l) with ⟨t, l1⟩ | ⟨l1, x⟩
 all_goals
  rw [hR] at cn
  have CN := hid cn
  clear cn hR hr h IT
  go_enter Tryz.func237, Tryz.ntmps237
  go_wp2_with (first | (go_at_call 235; go_must (refine CB.out.mono ?_; rintro e w' ⟨rfl, rfl⟩)) | (go_at_call 281; go_must (refine CN.out.mono ?_; rintro e w1 ⟨rfl, hI, hS⟩)))
 ·go_ret
  exact ⟨rfl, hI, hS⟩
 ·exact ⟨rfl, rfl, trivial, hS⟩
set_option maxHeartbeats 4000000 in
set_option maxRecDepth 100000 in
theorem branch_step {n : Nat} (II : CIn n) : CBr (n + 1) := by
 intro X g b l d f w h hn
 have htop := h.top
 have hw := h.wf
 rw [branchP]
 have c1 : ∀ w1, PInv X g b w1 l d f → _ := fun w1 hi => need_sColon w1 hi
 rcases h1 : need sColon l with ⟨u1, l1⟩ | ⟨lx, xx⟩
 all_goals rw [h1] at c1; have C1 := hid c1; clear c1
 ·rw [PR.bind_ok]
  obtain ⟨hl1, hw1⟩ := need_len (by decide) hw h1
  have D1 := hid (C1.out _ h)
  clear h1
  have c2 : ∀ w1, PInv X g (b - 3) w1 l1 d f → _ := fun w1 hi => II X g (b - 3) l1 d f w1 hi (by omega)
  rcases h2 : innerP n d l1 with ⟨t, l2⟩ | ⟨lx, xx⟩
  all_goals rw [h2] at c2; have C2 := hid c2; clear c2
  ·rw [PR.bind_ok]
   clear h2
   have c3 : ∀ w1, PInv X g (b - 3) w1 l2 d (f.setG (putT t f.g).1) → _ := fun w1 hi => need_sSemi w1 hi
   rcases h3 : need sSemi l2 with ⟨u3, l3⟩ | ⟨lx, xx⟩
   all_goals rw [h3] at c3; have C3 := hid c3; clear c3
   ·rw [PR.bind_ok]
    clear h3
    go_enter Tryz.func282, Tryz.ntmps282
    go_wp2_with (first | (go_at_call 122; first | ((with_reducible refine D1.out.mono ?_); rintro e1 w1 ⟨rfl, hI1, hS1⟩; have D2 := hid (C2.out _ hI1)) | ((with_reducible refine D3.out.mono ?_); rintro e3 w3 ⟨rfl, hI3, hS3⟩)) | (go_at_call 237; ((with_reducible refine D2.out.mono ?_); rintro e2 w2 ⟨rfl, hI2, hS2⟩; have D3 := hid (C3.out _ hI2))))
    go_ret
    exact ⟨rfl, hI3.mono (by omega) htop, ((hS1).trans hS2).trans hS3⟩
   ·rw [PR.bind_bad]
    clear h3
    go_enter Tryz.func282, Tryz.ntmps282
    go_wp2_with (first | (go_at_call 122; first | ((with_reducible refine D1.out.mono ?_); rintro e1 w1 ⟨rfl, hI1, hS1⟩; have D2 := hid (C2.out _ hI1)) | ((with_reducible refine D3.out.mono ?_); rintro e3 w3 ⟨rfl, hI3, hS3⟩)) | (go_at_call 237; ((with_reducible refine D2.out.mono ?_); rintro e2 w2 ⟨rfl, hI2, hS2⟩; have D3 := hid (C3.out _ hI2))))
    exact ⟨rfl, rfl, trivial, ((hS1).trans hS2).trans hS3⟩
  ·rw [PR.bind_bad]
   clear h2
   go_enter Tryz.func282, Tryz.ntmps282
   go_wp2_with (first | (go_at_call 122; ((with_reducible refine D1.out.mono ?_); rintro e1 w1 ⟨rfl, hI1, hS1⟩; have D2 := hid (C2.out _ hI1))) | (go_at_call 237; ((with_reducible refine D2.out.mono ?_); rintro e2 w2 ⟨rfl, hI2, hS2⟩)))
   exact ⟨rfl, rfl, trivial, (hS1).trans hS2⟩
 ·rw [PR.bind_bad]
  have D1 := hid (C1.out _ h)
  clear h1
  go_enter Tryz.func282, Tryz.ntmps282
  go_wp2_with (first | (go_at_call 122; ((with_reducible refine D1.out.mono ?_); rintro e1 w1 ⟨rfl, hI1, hS1⟩)))
  exact ⟨rfl, rfl, trivial, hS1⟩
end Go.Proofs.YtomimkgaelkaoaaGreatDoor
