/- Layer 7: the document's parser: one const more, one struct more. · Layer 7: the document's parser: what is pushed to the File; what is read of it. -/
import Derived.Test.YthcdohggffpopaaGreatDoorC1DocH
import Derived.Test.YthcdohggffpopaaGreatDoorC1ParRd
namespace Go.Proofs.YthcdohggffpopaaGreatDoor
open Go.ChangeShapes Go.WideShapes Go.ChangeAt Go.RowKit
section
variable {X : Nat → Prop} {g b : Nat} {l : List Tok} {e : Nat} {d : Int} {f : FM}
theorem DInv.pushC {w w0 w1 : World} {v' vx : Value} (h : DInv X g b w l e d f) (hb : f.cs.length < 65) (hv : w.cell? ⟨g, 3, none⟩ = some vx) (hB : Below w.heap.size w w0) (y : List UInt8 × Nat) {c : List Value} (hc : c.length = 2) (hy : Crep (Pub X layD g w) w c y) {cs : List (List Value)}
    (hown : w1.ownsRow 0 layD.co 2 v' (f.cs.length + 1) (cs.flatten ++ c)) (hcs : cs.length = f.cs.length) (hcl : ∀ c ∈ cs, c.length = 2) (hrep : ∀ (i : Nat) c x, cs[i]? = some c → f.cs[i]? = some x → Crep (Pub X layD g w) w c x)
    (hgrow : w0.grownBy w1 vx.ownBlock) (hat : v'.ownBlock = vx.ownBlock ∨ v'.ownBlock = some w0.heap.size) :
    DInv X g b (w1.setCell ⟨g, 3, none⟩ v') l e d ⟨f.cs ++ [y], f.ss, f.g⟩ ∧ St0 layD g w (w1.setCell ⟨g, 3, none⟩ v') := by
  obtain ⟨L, i, a, c', vc, vs, vx', vt, hh, h1, h2, h3, h4, h5⟩ := h.mem
  have hv2 := hv
  rw [cell_of_row _ _ _ _ _ (0, 0) hh] at hv2
  simp only [List.getElem?_toArray, List.getElem?_cons_succ, List.getElem?_cons_zero, Option.some.injEq] at hv2
  subst hv2
  obtain ⟨hs, hf, he⟩ := h5.pushC layD_ok hh (by decide) hv hB y hc hy hown hcs hcl hrep hgrow hat
  refine ⟨⟨h.wf, ⟨L, i, a, c', v', vs, vx', vt, ?_, h1, h2, h3, h4.stay (hs.pub X), hf⟩, h.pot, h.top, by simp only [List.length_append, List.length_singleton]; omega, h.ls, fun k hk => (hs.stay k (h.priv k hk)).2⟩, hs⟩
  rw [he, cell_set_row hh (by simp)]
  rfl
theorem DInv.pushS {w w0 w1 : World} {v' vx : Value} (h : DInv X g b w l e d f) (hb : f.ss.length < 65) (hv : w.cell? ⟨g, 4, none⟩ = some vx) (hB : Below w.heap.size w w0) (y : SM) {c : List Value} (hc : c.length = 3) (hy : Srep layD (Pub X layD g w) w c y) {cs : List (List Value)}
    (hown : w1.ownsRow 0 layD.st 3 v' (f.ss.length + 1) (cs.flatten ++ c)) (hcs : cs.length = f.ss.length) (hcl : ∀ c ∈ cs, c.length = 3) (hrep : ∀ (i : Nat) c x, cs[i]? = some c → f.ss[i]? = some x → Srep layD (Pub X layD g w) w c x)
    (hgrow : w0.grownBy w1 vx.ownBlock) (hat : v'.ownBlock = vx.ownBlock ∨ v'.ownBlock = some w0.heap.size) :
    DInv X g b (w1.setCell ⟨g, 4, none⟩ v') l e d ⟨f.cs, f.ss ++ [y], f.g⟩ ∧ St0 layD g w (w1.setCell ⟨g, 4, none⟩ v') := by
  obtain ⟨L, i, a, c', vc, vs, vx', vt, hh, h1, h2, h3, h4, h5⟩ := h.mem
  have hv2 := hv
  rw [cell_of_row _ _ _ _ _ (0, 0) hh] at hv2
  simp only [List.getElem?_toArray, List.getElem?_cons_succ, List.getElem?_cons_zero, Option.some.injEq] at hv2
  subst hv2
  obtain ⟨hs, hf, he⟩ := h5.pushS layD_ok hh (by decide) hv hB y hc hy hown hcs hcl hrep hgrow hat
  refine ⟨⟨h.wf, ⟨L, i, a, c', vc, v', vx', vt, ?_, h1, h2, h3, h4.stay (hs.pub X), hf⟩, h.pot, h.top, h.lc, by simp only [List.length_append, List.length_singleton]; omega, fun k hk => (hs.stay k (h.priv k hk)).2⟩, hs⟩
  rw [he, cell_set_row hh (by simp)]
  rfl
end
theorem out_newD {w : World} {v : Value} {b : Nat} (hb : b < w.heap.size) : Out layD w.heap.size (w.alloc (.cells #[v, .int .i64 0, .int .i64 0, .slice none 0 0, .slice none 0 0, .slice none 0 0, .slice none 0 0, .int .i64 0] 124)) b := by
  refine ⟨by simp; omega, by omega, fun j hj u hu => ?_⟩
  rw [cell_of_row _ _ _ _ _ (0, 0) (heap_alloc_new w _)] at hu
  have hj : j = 3 ∨ j = 4 ∨ j = 5 ∨ j = 6 := by simpa [layD] using hj
  have : u = .slice none 0 0 := by
    rcases hj with rfl | rfl | rfl | rfl <;> simpa using hu.symm
  rw [this]
  intro e; cases e
theorem DInv.start {X : Nat → Prop} {B : Nat} {w : World} {v : Value} {ts : List Tok} (hX : ∀ k, X k → k < B) (hB : B ≤ w.heap.size) (hT : Toks 133 B w v ts) (hw : WF ts) (hn : ts.length ≤ 16385) :
    DInv X w.heap.size (3 * ts.length) (w.alloc (.cells #[v, .int .i64 0, .int .i64 0, .slice none 0 0, .slice none 0 0, .slice none 0 0, .slice none 0 0, .int .i64 0] 124)) ts 0 0 (putF [] []) := by
  obtain ⟨a, c, hv, hc1, hc2⟩ : ∃ a c, v = .slice a ts.length c ∧ ts.length ≤ c ∧ c ≤ maxLen := by
    rcases id hT.2 with ⟨h1, h2⟩ | ⟨g, cap, cur, hv, hg, hh, q1, q2, _⟩
    · exact absurd (List.eq_nil_of_length_eq_zero h2) hw.ne
    · exact ⟨_, _, hv, q1, q2⟩
  subst hv
  have hold : ∀ b, b < w.heap.size → (w.alloc (.cells #[.slice a ts.length c, .int .i64 0, .int .i64 0, .slice none 0 0, .slice none 0 0, .slice none 0 0, .slice none 0 0, .int .i64 0] 124)).heap[b]? = w.heap[b]? := fun b hb => Below.heap_alloc _ _ _ hb
  have hp : ∀ b, b < w.heap.size → ¬ X b → Pub X layD w.heap.size (w.alloc (.cells #[.slice a ts.length c, .int .i64 0, .int .i64 0, .slice none 0 0, .slice none 0 0, .slice none 0 0, .slice none 0 0, .int .i64 0] 124)) b := fun b hb hx => ⟨out_newD hb, hx⟩
  refine ⟨hw, ⟨ts, 0, a, c, _, _, _, _, heap_alloc_new w _, hc1, hc2, rfl, ?_, ⟨RowR.nil _ _ _ _ _, RowR.nil _ _ _ _ _, RowR.nil _ _ _ _ _, RowR.nil _ _ _ _ _⟩⟩, ?_, by omega, by simp [putF], by simp [putF, putSs], fun k hk => out_newD (by have := hX k hk; omega)⟩
  · intro i t ht
    obtain ⟨g, rfl, hg, c0, c1, c2, c3, c4⟩ := hT.rd i t ht
    have hgB := (hT.lt g rfl).1
    have q : ∀ (o : Nat) v, w.cell? ⟨g, o, none⟩ = some v → (w.alloc (.cells #[.slice (some ⟨g, 0, none⟩) ts.length c, .int .i64 0, .int .i64 0, .slice none 0 0, .slice none 0 0, .slice none 0 0, .slice none 0 0, .int .i64 0] 124)).cell? ⟨g, o, none⟩ = some v := fun o v e => (World.cell?_of_block (a := ⟨g, o, none⟩) (hold g hg)).trans e
    exact ⟨g, rfl, hp g hg (fun hx => by have := hX g hx; omega), q _ _ c0, q _ _ c1, q _ _ c2, q _ _ c3, q _ _ c4⟩
  · simp [putF, putSs, gm0]
end Go.Proofs.YthcdohggffpopaaGreatDoor
namespace Go.Proofs.YthcdohggffpopaaGreatDoor
open Go.ChangeShapes Go.WideShapes Go.ChangeAt Go.RowKit
section
variable {X : Nat → Prop} {g b : Nat} {w : World} {l : List Tok} {e : Nat} {d : Int} {f : FM} {v : Value}
theorem DInv.rowC (h : DInv X g b w l e d f) (hv : w.cell? ⟨g, 3, none⟩ = some v) : RowR Crep layD.co 2 (Pub X layD g w) w v f.cs := by
  obtain ⟨L, i, a, c', vc, vs, vx, vt, hh, h1, h2, h3, h4, h5⟩ := h.mem
  rw [cell_of_row _ _ _ _ _ (0, 0) hh] at hv
  simp only [List.getElem?_toArray, List.getElem?_cons_succ, List.getElem?_cons_zero, Option.some.injEq] at hv
  rw [← hv]; exact h5.c
theorem DInv.rowS (h : DInv X g b w l e d f) (hv : w.cell? ⟨g, 4, none⟩ = some v) : RowR (Srep layD) layD.st 3 (Pub X layD g w) w v f.ss := by
  obtain ⟨L, i, a, c', vc, vs, vx, vt, hh, h1, h2, h3, h4, h5⟩ := h.mem
  rw [cell_of_row _ _ _ _ _ (0, 0) hh] at hv
  simp only [List.getElem?_toArray, List.getElem?_cons_succ, List.getElem?_cons_zero, Option.some.injEq] at hv
  rw [← hv]; exact h5.s
theorem DInv.two (h : DInv X g b w l e d f) : ∃ a c a' c', w.cell? ⟨g, 3, none⟩ = some (.slice a f.cs.length c) ∧ w.cell? ⟨g, 4, none⟩ = some (.slice a' f.ss.length c') := by
  obtain ⟨L, i, a, c', vc, vs, vx, vt, hh, h1, h2, h3, h4, h5⟩ := h.mem
  obtain ⟨a1, c1, rfl⟩ := RowR.shape h5.c
  obtain ⟨a2, c2, rfl⟩ := RowR.shape h5.s
  refine ⟨a1, c1, a2, c2, ?_, ?_⟩
  · rw [cell_of_row _ _ _ _ _ (0, 0) hh]; rfl
  · rw [cell_of_row _ _ _ _ _ (0, 0) hh]; rfl
theorem DInv.file (h : DInv X g b w l e d f) : ∃ a1 c1 a2 c2 a3 c3 a4 c4, w.cell? ⟨g, 3, none⟩ = some (.slice a1 f.cs.length c1) ∧ w.cell? ⟨g, 4, none⟩ = some (.slice a2 f.ss.length c2) ∧ w.cell? ⟨g, 5, none⟩ = some (.slice a3 f.g.xs.length c3) ∧ w.cell? ⟨g, 6, none⟩ = some (.slice a4 f.g.ts.length c4) ∧
    SlR 2 CoC w (.slice a1 f.cs.length c1) f.cs ∧ SlR 3 SrC w (.slice a2 f.ss.length c2) f.ss ∧ SlR 5 XrC w (.slice a3 f.g.xs.length c3) f.g.xs ∧ SlR 8 TrC w (.slice a4 f.g.ts.length c4) f.g.ts := by
  obtain ⟨L, i, a, c', vc, vs, vx, vt, hh, h1, h2, h3, h4, h5⟩ := h.mem
  obtain ⟨a1, c1, rfl⟩ := RowR.shape h5.c
  obtain ⟨a2, c2, rfl⟩ := RowR.shape h5.s
  obtain ⟨a3, c3, rfl⟩ := RowR.shape h5.x
  obtain ⟨a4, c4, rfl⟩ := RowR.shape h5.t
  refine ⟨a1, c1, a2, c2, a3, c3, a4, c4, ?_, ?_, ?_, ?_, h5.c.sl fun c x h => h, h5.s.sl ?_, h5.x.sl ?_, h5.t.sl ?_⟩
  · rw [cell_of_row _ _ _ _ _ (0, 0) hh]; rfl
  · rw [cell_of_row _ _ _ _ _ (0, 0) hh]; rfl
  · rw [cell_of_row _ _ _ _ _ (0, 0) hh]; rfl
  · rw [cell_of_row _ _ _ _ _ (0, 0) hh]; rfl
  · rintro c x ⟨pv, iv, e, p1, _, p2, _⟩
    exact ⟨pv, iv, e, p1.sl, p2.sl fun c x ⟨sv, e, q, _⟩ => ⟨sv, e, q.sl⟩⟩
  · rintro c x ⟨kv, e, p1, _⟩
    exact ⟨kv, e, p1.sl⟩
  · rintro c x ⟨av, cv, e, p1, _, p2, _⟩
    exact ⟨av, cv, e, p1.sl, p2.sl⟩
end
section
variable {β γ : Type} {X : Nat → Prop} {g m b c d : Nat} {w : World} {r : PR β} {F : β → FM}
theorem DT.two {a : β} {l : List Tok} (h : DT X g m b c d w (.ok a l : PR β) F) : ∃ a1 c1 a2 c2, w.cell? ⟨g, 3, none⟩ = some (.slice a1 (F a).cs.length c1) ∧ w.cell? ⟨g, 4, none⟩ = some (.slice a2 (F a).ss.length c2) := h.1.two
theorem DT.pushC (h : DT X g m b c d w r F) {a : Option Addr} {n cp : Nat} (hv : w.cell? ⟨g, 3, none⟩ = some (.slice a n cp)) (hn : n < 65) (y : List UInt8 × Nat) :
    ∃ cs : List (List Value), w.ownsRow 0 layD.co 2 (.slice a n cp) n cs.flatten ∧ ∀ (φ : β → γ) (F' : γ → FM) (v' : Value) (w0 w1 : World), Below w.heap.size w w0 → w1.ownsRow 0 layD.co 2 v' (n + 1) (cs.flatten ++ [.string (bs y.1), .int .u64 (y.2 : Int)]) →
      w0.grownBy w1 (Value.slice a n cp).ownBlock → (v'.ownBlock = (Value.slice a n cp).ownBlock ∨ v'.ownBlock = some w0.heap.size) → (∀ p l, r = .ok p l → F' (φ p) = ⟨(F p).cs ++ [y], (F p).ss, (F p).g⟩) →
      DT X g m b c d (w1.setCell ⟨g, 3, none⟩ v') (r.bind fun p l => .ok (φ p) l) F' ∧ St0 layD g w (w1.setCell ⟨g, 3, none⟩ v') := by
  cases r with
  | ok p l =>
    obtain ⟨hD, h2, h3, h4, h5⟩ := h
    obtain ⟨cs, q1, q2, q3, q4⟩ := hD.rowC hv
    obtain ⟨a', c', rfl2⟩ := ownsRow_shape q1
    cases rfl2
    refine ⟨cs, q1, fun φ F' v' w0 w1 hB hown hgrow hat hF => ?_⟩
    obtain ⟨hI, hS⟩ := hD.pushC hn hv hB y (c := [.string (bs y.1), .int .u64 (y.2 : Int)]) rfl rfl hown q2 q3 q4 hgrow hat
    refine ⟨⟨?_, h2, h3, h4, h5⟩, hS⟩
    rw [hF p l rfl]
    exact hI
  | bad l x =>
    obtain ⟨hx, d', f', hD⟩ := h
    obtain ⟨cs, q1, q2, q3, q4⟩ := hD.rowC hv
    obtain ⟨a', c', rfl2⟩ := ownsRow_shape q1
    cases rfl2
    refine ⟨cs, q1, fun φ F' v' w0 w1 hB hown hgrow hat hF => ?_⟩
    obtain ⟨hI, hS⟩ := hD.pushC hn hv hB y (c := [.string (bs y.1), .int .u64 (y.2 : Int)]) rfl rfl hown q2 q3 q4 hgrow hat
    exact ⟨⟨hx, d', _, hI⟩, hS⟩
theorem DT.pushS (h : DT X g m b c d w r F) {a : Option Addr} {n cp : Nat} (hv : w.cell? ⟨g, 4, none⟩ = some (.slice a n cp)) (hn : n < 65) {c0 c1 c2 : Value} {y : SM} (hy : Srep layD (Pub X layD g w) w [c0, c1, c2] y) :
    ∃ cs : List (List Value), w.ownsRow 0 layD.st 3 (.slice a n cp) n cs.flatten ∧ ∀ (φ : β → γ) (F' : γ → FM) (v' : Value) (w0 w1 : World), Below w.heap.size w w0 → w1.ownsRow 0 layD.st 3 v' (n + 1) (cs.flatten ++ [c0, c1, c2]) →
      w0.grownBy w1 (Value.slice a n cp).ownBlock → (v'.ownBlock = (Value.slice a n cp).ownBlock ∨ v'.ownBlock = some w0.heap.size) → (∀ p l, r = .ok p l → F' (φ p) = ⟨(F p).cs, (F p).ss ++ [y], (F p).g⟩) →
      DT X g m b c d (w1.setCell ⟨g, 4, none⟩ v') (r.bind fun p l => .ok (φ p) l) F' ∧ St0 layD g w (w1.setCell ⟨g, 4, none⟩ v') := by
  cases r with
  | ok p l =>
    obtain ⟨hD, h2, h3, h4, h5⟩ := h
    obtain ⟨cs, q1, q2, q3, q4⟩ := hD.rowS hv
    obtain ⟨a', c', rfl2⟩ := ownsRow_shape q1
    cases rfl2
    refine ⟨cs, q1, fun φ F' v' w0 w1 hB hown hgrow hat hF => ?_⟩
    obtain ⟨hI, hS⟩ := hD.pushS hn hv hB y (c := [c0, c1, c2]) rfl hy hown q2 q3 q4 hgrow hat
    refine ⟨⟨?_, h2, h3, h4, h5⟩, hS⟩
    rw [hF p l rfl]
    exact hI
  | bad l x =>
    obtain ⟨hx, d', f', hD⟩ := h
    obtain ⟨cs, q1, q2, q3, q4⟩ := hD.rowS hv
    obtain ⟨a', c', rfl2⟩ := ownsRow_shape q1
    cases rfl2
    refine ⟨cs, q1, fun φ F' v' w0 w1 hB hown hgrow hat hF => ?_⟩
    obtain ⟨hI, hS⟩ := hD.pushS hn hv hB y (c := [c0, c1, c2]) rfl hy hown q2 q3 q4 hgrow hat
    exact ⟨⟨hx, d', _, hI⟩, hS⟩
end
end Go.Proofs.YthcdohggffpopaaGreatDoor
