/- Layer 11: named. -/
import Derived.Test.YtoengahfkfmfeaaBdD
set_option linter.unusedVariables false
set_option linter.unusedSimpArgs false
namespace Go.Proofs.Ytoengahfkfmfeaa
open Go.RowKit Go.Shelf
attribute [local go_sem] Oper.semAt_some

theorem keepsFrom_below {B : Nat} {W W' : World} (h : Below W.heap.size W W') : KeepsFrom B W W' := ⟨h.size, fun k o _ hk _ => (h.block k (Array.getElem?_eq_some_iff.1 hk).1).trans hk⟩
theorem keepsFrom_drew (B : Nat) (W : World) : KeepsFrom B W W.drew := ⟨Nat.le_refl _, fun k o _ hk _ => hk⟩
/-- What named answers. -/
def NamePost (R : RngL) (s : List UInt8) (q : Ending) : Prop := ∃ x y, q = .returned (.tuple #[.agg #[.int .u64 x, .int .u64 y], .bool (nameB R s).isSome]) ∧ ∀ r, nameB R s = some r → r = (x, y)
theorem name_none {R : RngL} {s : List UInt8} (h : getB R s = none) : NamePost R s (.returned (.tuple #[.agg #[.int .u64 0, .int .u64 0], .bool false])) := by
  have : nameB R s = none := by unfold nameB; rw [h]; rfl
  exact ⟨0, 0, by rw [this]; rfl, fun r hr => by rw [this] at hr; cases hr⟩
theorem name_some {R : RngL} {s : List UInt8} {x y : Int} (h : getB R s = some (x, y)) : NamePost R s (.returned (.tuple #[.agg #[.int .u64 x, .int .u64 y], .bool (decide (x ≤ y))])) := by
  have : nameB R s = if x ≤ y then some (x, y) else none := by unfold nameB; rw [h]; rfl
  refine ⟨x, y, ?_, fun r hr => ?_⟩
  · rw [this]; by_cases hxy : x ≤ y <;> simp [hxy]
  · rw [this] at hr; split at hr <;> cases hr; rfl
/-- Block B holds three cells. -/
def Trio (W : World) (B : Nat) (t : TypeId) (u v x : Value) : Prop := W.heap[B]? = some (.cells #[u, v, x] t (0, 0))
theorem Trio.lt {W : World} {B : Nat} {t : TypeId} {u v x : Value} (h : Trio W B t u v x) : B < W.heap.size := (Array.getElem?_eq_some_iff.1 h).1
theorem Trio.c0 {W : World} {B : Nat} {t : TypeId} {u v x : Value} (h : Trio W B t u v x) : W.cell? ⟨B, 0, none⟩ = some u := by simp [World.cell?, show W.heap[B]? = _ from h]
theorem Trio.c1 {W : World} {B : Nat} {t : TypeId} {u v x : Value} (h : Trio W B t u v x) : W.cell? ⟨B, 1, none⟩ = some v := by simp [World.cell?, show W.heap[B]? = _ from h]
theorem Trio.c2 {W : World} {B : Nat} {t : TypeId} {u v x : Value} (h : Trio W B t u v x) : W.cell? ⟨B, 2, none⟩ = some x := by simp [World.cell?, show W.heap[B]? = _ from h]
theorem Trio.keep {W W' : World} {B C : Nat} {t : TypeId} {u v x : Value} (h : Trio W B t u v x) (hb : Below C W W') (hC : B < C) : Trio W' B t u v x := (hb.block B hC).trans h
theorem Trio.own {β : Type} (B : Nat) (t : TypeId) (f g k : β → Value) : Own (fun s W => Trio W B t (f s) (g s) (k s)) := fun s X Y row hs hg hrow =>
  (hg.block B hs.lt (fun e' => by obtain ⟨o, ho, hc⟩ := hrow B e'.symm; rw [show X.heap[B]? = _ from hs] at ho; cases ho; cases hc)).trans hs
theorem name_end {w W W2 : World} {B : Nat} (n : Nat) (x y : Int) (b : Bool) (hk : KeepsFrom B W W2) (hd : Duo W2 (n + 1) 25 (.int .u64 0) (.int .u64 0)) (hx : Boxed W2 (n + 1 + 1) 4 (.bool false)) (hB : Below w.heap.size w W2) (hn : w.heap.size ≤ n) :
    KeepsFrom B W (((W2.setCell ⟨n + 1, 0, none⟩ (.int .u64 x)).setCell ⟨n + 1, 1, none⟩ (.int .u64 y)).setCell ⟨n + 1 + 1, 0, none⟩ (.bool b)) ∧
    Duo (((W2.setCell ⟨n + 1, 0, none⟩ (.int .u64 x)).setCell ⟨n + 1, 1, none⟩ (.int .u64 y)).setCell ⟨n + 1 + 1, 0, none⟩ (.bool b)) (n + 1) 25 (.int .u64 x) (.int .u64 y) ∧
    Boxed (((W2.setCell ⟨n + 1, 0, none⟩ (.int .u64 x)).setCell ⟨n + 1, 1, none⟩ (.int .u64 y)).setCell ⟨n + 1 + 1, 0, none⟩ (.bool b)) (n + 1 + 1) 4 (.bool b) ∧
    Below w.heap.size w (((W2.setCell ⟨n + 1, 0, none⟩ (.int .u64 x)).setCell ⟨n + 1, 1, none⟩ (.int .u64 y)).setCell ⟨n + 1 + 1, 0, none⟩ (.bool b)) := by
  refine ⟨hk.trans ((((KeepsOthers.setCell _ _ _).trans (KeepsOthers.setCell _ _ _)).trans (KeepsOthers.setCell _ _ _)).from _), (Below.heap_setCell _ _ _ _ (by simp)).trans (Duo.sets hd _ _), ?_, ?_⟩
  · have y2 : Boxed ((W2.setCell ⟨n + 1, 0, none⟩ (.int .u64 x)).setCell ⟨n + 1, 1, none⟩ (.int .u64 y)) (n + 1 + 1) 4 (.bool false) := (Below.heap_setCell _ _ _ _ (by simp)).trans ((Below.heap_setCell _ _ _ _ (by simp)).trans hx)
    exact y2.set _
  · exact ((hB.setCell (p := ⟨n + 1, 0, none⟩) (by show w.heap.size ≤ n + 1; omega) _).setCell (p := ⟨n + 1, 1, none⟩) (by show w.heap.size ≤ n + 1; omega) _).setCell (p := ⟨n + 1 + 1, 0, none⟩) (by show w.heap.size ≤ n + 1 + 1; omega) _
set_option maxRecDepth 100000 in
set_option maxHeartbeats 4000000 in
theorem named_in (F : Fence) (n : Nat) (h1 : F.fn 55) (h2 : F.fn 66) (h3 : F.fn 78) (h4 : F.fn 23) (hro : F.round = none) (hn : 3 ≤ n)
    (CV : ∀ m (x y : Int) W, CallsIn F m Try.prog 23 #[.agg #[.int .u64 x, .int .u64 y]] W fun e W' => e = .returned (.bool (decide (x ≤ y))) ∧ Below W.heap.size W W')
    (sv : Value) (R : RngL) (s : List UInt8) (w : World) (hE : RngAt w.heap.size w sv R) :
    CallsIn F n Try.prog 55 #[.string ⟨s.toArray⟩, sv] w fun q w' => NamePost R s q ∧ Below w.heap.size w w' := by
  have hn1 : 1 ≤ n := by omega
  have hv : ∃ a l c, sv = .slice a l c := by obtain ⟨a, c, rfl, _⟩ := hE; exact ⟨_, _, _, rfl⟩
  refine callsIn_of_wp_marks Try.func55 rfl h1 ?_ hro
  simp only [Try.ntmps55, List.size_toArray, List.length_cons, List.length_nil, Nat.reduceAdd, Nat.reduceSub, Array.replicate_succ, Array.replicate_zero, List.push_toArray, List.append_toArray, List.nil_append, List.cons_append]
  gi_wp2_with (gi_at_call 66; refine (backb_in F (n - 1) h2 hro _ _ hv).mono ?_; rintro q w' ⟨rfl, rfl⟩)
  have x3 := Boxed.new (((w.alloc (.cells #[.string ⟨s.toArray⟩] 9)).alloc (.cells #[.int .u64 0, .int .u64 0] 25)).alloc (.cells #[.bool false] 4)) 49 sv
  have x2 := (Boxed.new ((w.alloc (.cells #[.string ⟨s.toArray⟩] 9)).alloc (.cells #[.int .u64 0, .int .u64 0] 25)) 4 (.bool false)).alloc (.cells #[sv] 49)
  have x1 : Duo ((((w.alloc (.cells #[.string ⟨s.toArray⟩] 9)).alloc (.cells #[.int .u64 0, .int .u64 0] 25)).alloc (.cells #[.bool false] 4)).alloc (.cells #[sv] 49)) (w.heap.size + 1) 25 (.int .u64 0) (.int .u64 0) := by
    have := World.alloc_heap_new (w.alloc (.cells #[.string ⟨s.toArray⟩] 9)) (.cells #[.int .u64 0, .int .u64 0] 25)
    rw [World.size_alloc] at this
    exact (Below.heap_alloc _ _ _ (by simp)).trans ((Below.heap_alloc _ _ _ (by simp)).trans this)
  have x0 := (((Boxed.new w 9 (.string ⟨s.toArray⟩)).alloc (.cells #[.int .u64 0, .int .u64 0] 25)).alloc (.cells #[.bool false] 4)).alloc (.cells #[sv] 49)
  simp only [World.size_alloc] at x2 x3
  have hB0 : Below w.heap.size w ((((w.alloc (.cells #[.string ⟨s.toArray⟩] 9)).alloc (.cells #[.int .u64 0, .int .u64 0] 25)).alloc (.cells #[.bool false] 4)).alloc (.cells #[sv] 49)) := ((((Below.refl _ w).alloc (Nat.le_refl _) _).alloc (by simp) _).alloc (by simp; omega) _).alloc (by simp; omega) _
  have hsz : ((((w.alloc (.cells #[.string ⟨s.toArray⟩] 9)).alloc (.cells #[.int .u64 0, .int .u64 0] 25)).alloc (.cells #[.bool false] 4)).alloc (.cells #[sv] 49)).heap.size = w.heap.size + 4 := by simp
  obtain ⟨W0, hW0⟩ : ∃ W0, (((w.alloc (.cells #[.string ⟨s.toArray⟩] 9)).alloc (.cells #[.int .u64 0, .int .u64 0] 25)).alloc (.cells #[.bool false] 4)).alloc (.cells #[sv] 49) = W0 := ⟨_, rfl⟩
  rw [hW0] at x0 x1 x2 x3 hB0 hsz ⊢
  clear hW0
  have hE0 : RngAt W0.heap.size W0 sv R := by
    obtain ⟨a, c, q1, q2, q3⟩ := hE.below hB0
    exact ⟨a, c, q1, q2, fun i x hx => by obtain ⟨k, k1, k2, k3⟩ := q3 i x hx; exact ⟨k, k1, by omega, k3⟩⟩
  obtain ⟨a, l, c, rfl⟩ := hv
  refine wpIn_rangeFunc_ownH hro hn1 (gf := 78) (lb := #[.pointer (some ⟨w.heap.size + 1 + 1 + 1, 0, none⟩)]) rfl h3 (enters_of Try.func78 (by kernel_rfl) rfl)
    (backb_stops F (n - 1) h3 hro (by omega) (w.heap.size + 1 + 1 + 1) W0.heap.size _ R W0 (by omega) (Nat.le_refl _) x3.cell hE0) belowK_t (belowK_b (Nat.le_refl _)) (Below.refl _ _) (fun _ => rfl)
    (fun pre W => ((∀ p ∈ pre, p.2.1 ≠ s) ∧ Boxed W w.heap.size 9 (.string ⟨s.toArray⟩) ∧ Duo W (w.heap.size + 1) 25 (.int .u64 0) (.int .u64 0) ∧ Boxed W (w.heap.size + 1 + 1) 4 (.bool false)) ∧ Below W0.heap.size W0 W)
    (fun c pre W => (c = .ret ∧ ∃ ini last, pre = ini ++ [last] ∧ (∀ p ∈ ini, p.2.1 ≠ s) ∧ last.2.1 = s ∧ Duo W (w.heap.size + 1) 25 (.int .u64 last.2.2.1) (.int .u64 last.2.2.2) ∧ Boxed W (w.heap.size + 1 + 1) 4 (.bool (decide (last.2.2.1 ≤ last.2.2.2)))) ∧ Below w.heap.size w W)
    (OwnFrom.and (Own.from (fun q A B row hs hg hr => ⟨hs.1, boxed_own _ _ (fun (_ : Unit) => _) () A B row hs.2.1 hg hr, Duo.own _ _ (fun (_ : Unit) => _) (fun (_ : Unit) => _) () A B row hs.2.2.1 hg hr, boxed_own _ _ (fun (_ : Unit) => _) () A B row hs.2.2.2 hg hr⟩) _) (ownFrom_below (Nat.le_refl _) (Nat.le_refl _)))
    (fun c => OwnFrom.and (Own.from (fun q A B row hs hg hr => by
      obtain ⟨hc, ini, last, e1, e2, e3, e4, e5⟩ := hs
      exact ⟨hc, ini, last, e1, e2, e3, Duo.own _ _ (fun (_ : Unit) => _) (fun (_ : Unit) => _) () A B row e4 hg hr, boxed_own _ _ (fun (_ : Unit) => _) () A B row e5 hg hr⟩) _) (ownFrom_below (Nat.le_refl _) (by omega)))
    ⟨⟨by simp, x0, x1, x2⟩, Below.refl _ _⟩
    (fun x a' W => ∃ Bx, w.heap.size + 2 < Bx ∧ Trio W Bx 63 (.string ⟨x.2.1.toArray⟩) (.int .u64 x.2.2.1) (.int .u64 x.2.2.2) ∧ a' = { tmps := #[.string ⟨s.toArray⟩, .slice a l c, .pointer (some ⟨w.heap.size, 0, none⟩), undef, .pointer (some ⟨w.heap.size + 1, 0, none⟩), .pointer (some ⟨w.heap.size + 1 + 1, 0, none⟩), undef, .pointer (some ⟨Bx, 0, none⟩), .slice a l c, .func (.func 78) #[] #[.pointer (some ⟨w.heap.size + 1 + 1 + 1, 0, none⟩)], .int .i64 x.1, .agg #[.string ⟨x.2.1.toArray⟩, .int .u64 x.2.2.1, .int .u64 x.2.2.2], undef, undef, undef, undef, undef, undef, undef, undef, undef, undef], defers := [] })
    (fun x a' _ X Y row hs hg hr => by obtain ⟨Bx, q1, q2, q3⟩ := hs; exact ⟨Bx, q1, Trio.own Bx _ (fun (_ : Unit) => _) (fun (_ : Unit) => _) (fun (_ : Unit) => _) () X Y row q2 hg (fun r e => (hr r e).2), q3⟩)
    ?assign ?body ?done ?stop
  case assign =>
    rintro l' pre x W K ⟨⟨hp, b0, b1, b2⟩, hB1⟩ hK
    gi_wp2
    exact hK _ _ ((KeepsOthers.alloc _ _).from _) ((Below.refl _ W).alloc hB1.size _) ⟨⟨hp, b0.alloc _, (Below.heap_alloc _ _ _ b1.lt).trans b1, b2.alloc _⟩, hB1.alloc hB1.size _⟩ ⟨W.heap.size, by have := hB1.size; omega, World.alloc_heap_new W _, rfl⟩
  case body =>
    rintro l' pre x a' W hl ⟨r, hr⟩ ⟨⟨hp, b0, b1, b2⟩, hB1⟩ ⟨Bx, hBx, bX, rfl⟩ hlt
    have cX := bX.c0
    have cY := bX.c1
    have cZ := bX.c2
    have cS := b0.cell
    gi_wp2_with fail
    · have hx : x.2.1 = s := by simpa using (by assumption : (x.2.1 == s) = true)
      have hBW : Below w.heap.size w W := hB0.trans (hB1.mono (by omega))
      have HK := Lib.hid (show ∀ W2, Below W.drew.heap.size W.drew W2 → (W2.cell? ⟨w.heap.size + 1, 0, none⟩ = some (.int .u64 0) ∧ W2.cell? ⟨w.heap.size + 1, 1, none⟩ = some (.int .u64 0) ∧ W2.cell? ⟨w.heap.size + 1 + 1, 0, none⟩ = some (.bool false) ∧ W2.frozen? ⟨w.heap.size + 1, 0, none⟩ = false ∧ W2.frozen? ⟨w.heap.size + 1, 1, none⟩ = false ∧ W2.frozen? ⟨w.heap.size + 1 + 1, 0, none⟩ = false ∧ W2.cell? ⟨Bx, 1, none⟩ = some (.int .u64 x.2.2.1) ∧ W2.cell? ⟨Bx, 2, none⟩ = some (.int .u64 x.2.2.2) ∧ Hid (Duo W2 (w.heap.size + 1) 25 (.int .u64 0) (.int .u64 0) ∧ Boxed W2 (w.heap.size + 1 + 1) 4 (.bool false) ∧ Below w.heap.size w W2 ∧ KeepsFrom W0.heap.size W W2)) from fun W2 hb0 => by
        have hb : Below W.heap.size W W2 := (Below.refl _ W).drew.trans hb0
        have k1 : Duo W2 (w.heap.size + 1) 25 (.int .u64 0) (.int .u64 0) := (hb.block _ b1.lt).trans b1
        have k2 : Boxed W2 (w.heap.size + 1 + 1) 4 (.bool false) := (hb.block _ b2.lt).trans b2
        exact ⟨k1.c0, k1.c1, k2.cell, k1.fz 0, k1.fz 1, k2.frozen, (hb.cell (p := ⟨Bx, 1, none⟩) bX.lt).trans cY, (hb.cell (p := ⟨Bx, 2, none⟩) bX.lt).trans cZ, Lib.hid ⟨k1, k2, hBW.trans (hb.mono hBW.size), (keepsFrom_drew _ _).trans (keepsFrom_below hb0)⟩⟩)
      have CV2 := Lib.hid fun m W => (CV m x.2.2.1 x.2.2.2 W).inRound l'
      gi_region_with (refine And.intro (fun _ => (by omega)) (CallsIn.mono (CV2.out _ _) ?_); rintro e W2 ⟨rfl, hb2⟩; obtain ⟨d1, d1', d2, f1, f1', f2, cY2, cZ2, KK⟩ := HK.out W2 hb2)
      all_goals
        gi_wp2
        obtain ⟨e1, e2, e3, e4⟩ := name_end w.heap.size x.2.2.1 x.2.2.2 (decide (x.2.2.1 ≤ x.2.2.2)) KK.out.2.2.2 KK.out.1 KK.out.2.1 KK.out.2.2.1 (Nat.le_refl _)
        exact ⟨e1, ⟨rfl, pre, x, rfl, hp, hx, e2, e3⟩, e4⟩
    · have hx : x.2.1 ≠ s := by simpa using (by assumption : (x.2.1 == s) = false)
      exact ⟨KeepsFrom.refl _ _, Below.refl _ _, ⟨fun p hp' => (List.mem_append.1 hp').elim (hp p) (fun q => by simp at q; subst q; exact hx), b0, b1, b2⟩, hB1⟩
  case done =>
    rintro D ys W hD rfl ⟨⟨hne, b0, b1, b2⟩, hB⟩ hK
    have f1 := b1.fz 0
    have f1' := b1.fz 1
    have f2 := b2.frozen
    have g1 := b1.c0
    have g1' := b1.c1
    have g2 := b2.cell
    gi_wp2
    have hK1 := (((KeepsOthers.setCell W ⟨w.heap.size + 1, 0, none⟩ (.int .u64 0)).trans (KeepsOthers.setCell _ ⟨w.heap.size + 1, 1, none⟩ (.int .u64 0))).trans (KeepsOthers.setCell _ ⟨w.heap.size + 1 + 1, 0, none⟩ (.bool false))).same D _ hK rfl
    refine ⟨by simp, .inl ⟨_, _, rfl, run_takeDeferred hK1, ?_⟩⟩
    have y1 : Duo (World.putObj _ D (.deferred none)) _ _ _ _ := (World.putObj_heap_other (by omega)).trans ((Below.heap_setCell _ ⟨w.heap.size + 1 + 1, 0, none⟩ (.bool false) (w.heap.size + 1) (by simp)).trans (Duo.sets b1 (.int .u64 0) (.int .u64 0)))
    have z1 := y1.c0
    have z1' := y1.c1
    have y2 : Boxed (((W.setCell ⟨w.heap.size + 1, 0, none⟩ (.int .u64 0)).setCell ⟨w.heap.size + 1, 1, none⟩ (.int .u64 0))) (w.heap.size + 1 + 1) 4 (.bool false) := (Below.heap_setCell _ _ _ _ (by simp)).trans ((Below.heap_setCell _ _ _ _ (by simp)).trans b2)
    have z2 := ((y2.set (.bool false)).kept (grownBy_putObj' _ D (.deferred none)) (by simp; omega)).cell
    refine ⟨.tuple #[.agg #[.int .u64 0, .int .u64 0], .bool false], by simp [results, Try.f55, go_sem, z1, z1', z2], name_none (getB_all hne), ?_⟩
    exact ((((hB0.trans (hB.mono (by omega))).setCell (p := ⟨w.heap.size + 1, 0, none⟩) (Nat.le_succ _) _).setCell (p := ⟨w.heap.size + 1, 1, none⟩) (Nat.le_succ _) _).setCell (p := ⟨w.heap.size + 1 + 1, 0, none⟩) (by show w.heap.size ≤ w.heap.size + 1 + 1; omega) _).trans (belowK_b (w := w) (Nat.le_refl _) _ D _ _ (by omega) hK1 rfl rfl)
  case stop =>
    rintro D c' pre W hD ⟨k, hk, rfl⟩ ⟨⟨rfl, ini, last, e1, e2, e3, b1, b2⟩, hB⟩ hK
    gi_wp2
    refine ⟨by simp, .inl ⟨_, _, rfl, run_takeDeferred hK, ?_⟩⟩
    have z0 : Duo (W.putObj D (.deferred none)) _ _ _ _ := (World.putObj_heap_other (by simp; omega)).trans b1
    have z1 := z0.c0
    have z1' := z0.c1
    have z2 := (b2.kept (grownBy_putObj' _ D (.deferred none)) (by simp; omega)).cell
    obtain ⟨k', rfl⟩ : ∃ k', k = k' + 1 := by
      cases k with
      | zero => simp [backB] at e1
      | succ k' => exact ⟨k', rfl⟩
    rw [backB_succ] at e1
    obtain ⟨rfl, e5⟩ := List.append_inj' e1 rfl
    obtain ⟨x, hx⟩ : ∃ x, R[R.length - 1 - k']? = some x := ⟨_, List.getElem?_eq_getElem (by omega)⟩
    rw [hx] at e5
    obtain rfl : (((R.length - 1 - k' : Nat) : Int), x) = last := by simpa using e5
    refine ⟨.tuple #[.agg #[.int .u64 x.2.1, .int .u64 x.2.2], .bool (decide (x.2.1 ≤ x.2.2))], by simp [results, Try.f55, go_sem, z1, z1', z2], name_some (getB_back (by omega) hx e3 e2), ?_⟩
    exact hB.trans (belowK_b (w := w) (Nat.le_refl _) _ D _ _ (by omega) hK rfl rfl)
theorem named_any (sv : Value) (R : RngL) (s : List UInt8) (w : World) (hE : RngAt w.heap.size w sv R) :
    Calls Try.prog 55 #[.string ⟨s.toArray⟩, sv] w fun q w' => NamePost R s q ∧ Below w.heap.size w w' :=
  callsIn_wide.1 (named_in Fence.wide 3 trivial trivial trivial trivial rfl (Nat.le_refl _) (fun _ x y W => callsIn_wide.2 (valid_any x y W)) sv R s w hE)
end Go.Proofs.Ytoengahfkfmfeaa
