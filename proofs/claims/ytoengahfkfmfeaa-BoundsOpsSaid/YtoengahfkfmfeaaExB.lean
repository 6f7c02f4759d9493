/- Layer 10: Get. -/
import Derived.Test.YtoengahfkfmfeaaExA
set_option linter.unusedVariables false
set_option linter.unusedSimpArgs false
namespace Go.Proofs.Ytoengahfkfmfeaa
open Go.RowKit Go.Shelf
attribute [local go_sem] Oper.semAt_some

theorem getE_append (a b : EnvL) (s : List UInt8) : getE (a ++ b) s = (getE b s).or (getE a s) := by
  induction b using rev_ind with
  | h0 => rw [List.append_nil]; rfl
  | hs b x ih =>
    rw [← List.append_assoc, getE_snoc, getE_snoc, ih]
    split <;> rfl
theorem getE_none {e : EnvL} {s : List UInt8} (h : ∀ x ∈ e, x.1 ≠ s) : getE e s = none := by
  induction e using rev_ind with
  | h0 => rfl
  | hs e x ih =>
    rw [getE_snoc, if_neg (h x (by simp))]
    exact ih fun y hy => h y (by simp [hy])
theorem getE_back {e : EnvL} {s : List UInt8} {k : Nat} {x : List UInt8 × Int} (hk : k < e.length) (hx : e[e.length - 1 - k]? = some x) (hs : x.1 = s) (h : ∀ p ∈ backK e k, p.2.1 ≠ s) : getE e s = some x.2 := by
  have e1 : e = (e.take (e.length - 1 - k) ++ [x]) ++ e.drop (e.length - 1 - k + 1) := by
    obtain ⟨h1, h2⟩ := List.getElem?_eq_some_iff.1 hx
    rw [← h2, ← List.take_succ_eq_append_getElem h1, List.take_append_drop]
  rw [e1, getE_append, getE_snoc, if_pos hs, getE_none]
  · rfl
  · intro y hy
    obtain ⟨j, hj⟩ := List.mem_iff_getElem?.1 hy
    rw [List.getElem?_drop] at hj
    have hl := (List.getElem?_eq_some_iff.1 hj).1
    have := h ((((e.length - 1 - (e.length - 1 - (e.length - 1 - k + 1 + j)) : Nat) : Int)), y) (by
      unfold backK
      refine List.mem_map.2 ⟨e.length - 1 - (e.length - 1 - k + 1 + j), by rw [List.mem_range]; omega, ?_⟩
      rw [show e.length - 1 - (e.length - 1 - (e.length - 1 - k + 1 + j)) = e.length - 1 - k + 1 + j from by omega, hj]
      rfl)
    exact this
theorem getE_all {e : EnvL} {s : List UInt8} (h : ∀ p ∈ backK e e.length, p.2.1 ≠ s) : getE e s = none := getE_none fun y hy => by
  obtain ⟨j, hj⟩ := List.mem_iff_getElem?.1 hy
  have hl := (List.getElem?_eq_some_iff.1 hj).1
  refine h (((e.length - 1 - (e.length - 1 - j) : Nat) : Int), y) ?_
  unfold backK
  refine List.mem_map.2 ⟨e.length - 1 - j, by rw [List.mem_range]; omega, ?_⟩
  rw [show e.length - 1 - (e.length - 1 - j) = j from by omega, hj]
  rfl
theorem bytes_ne {a b : List UInt8} : (decide ((⟨a.toArray⟩ : ByteArray).data.toList = (⟨b.toArray⟩ : ByteArray).data.toList)) = decide (a = b) := rfl
/-- Block B holds two cells. -/
def Duo (W : World) (B : Nat) (t : TypeId) (u v : Value) : Prop := W.heap[B]? = some (.cells #[u, v] t (0, 0))
theorem Duo.lt {W : World} {B : Nat} {t : TypeId} {u v : Value} (h : Duo W B t u v) : B < W.heap.size := (Array.getElem?_eq_some_iff.1 h).1
theorem Duo.c0 {W : World} {B : Nat} {t : TypeId} {u v : Value} (h : Duo W B t u v) : W.cell? ⟨B, 0, none⟩ = some u := by simp [World.cell?, show W.heap[B]? = _ from h]
theorem Duo.c1 {W : World} {B : Nat} {t : TypeId} {u v : Value} (h : Duo W B t u v) : W.cell? ⟨B, 1, none⟩ = some v := by simp [World.cell?, show W.heap[B]? = _ from h]
theorem Duo.own {β : Type} (B : Nat) (t : TypeId) (f g : β → Value) : Own (fun s W => Duo W B t (f s) (g s)) := fun s X Y row hs hg hrow =>
  (hg.block B hs.lt (fun e' => by obtain ⟨o, ho, hc⟩ := hrow B e'.symm; rw [show X.heap[B]? = _ from hs] at ho; cases ho; cases hc)).trans hs

set_option maxRecDepth 100000 in
set_option maxHeartbeats 4000000 in
theorem Get_in (F : Fence) (n : Nat) (h1 : F.fn 58) (h2 : F.fn 67) (h3 : F.fn 79) (hro : F.round = none) (hn : 3 ≤ n)
    (sv : Value) (e : EnvL) (s : List UInt8) (w : World) (hE : EnvAt w.heap.size w sv e) :
    CallsIn F n Try.prog 58 #[sv, .string ⟨s.toArray⟩] w fun q w' => q = .returned (.tuple #[.int .u64 ((getE e s).getD 0), .bool (getE e s).isSome]) ∧ Below w.heap.size w w' := by
  have hn1 : 1 ≤ n := by omega
  have hv : ∃ a l c, sv = .slice a l c := by obtain ⟨a, c, rfl, _⟩ := hE; exact ⟨_, _, _, rfl⟩
  refine callsIn_of_wp_marks Try.func58 rfl h1 ?_ hro
  simp only [Try.ntmps58, List.size_toArray, List.length_cons, List.length_nil, Nat.reduceAdd, Nat.reduceSub, Array.replicate_succ, Array.replicate_zero, List.push_toArray, List.append_toArray, List.nil_append, List.cons_append]
  gi_wp2_with (gi_at_call 67; refine (back_in F (n - 1) h2 hro _ _ hv).mono ?_; rintro q w' ⟨rfl, rfl⟩)
  have x3 := Boxed.new (((w.alloc (.cells #[.string ⟨s.toArray⟩] 9)).alloc (.cells #[.int .u64 0] 22)).alloc (.cells #[.bool false] 4)) 52 sv
  have x2 := (Boxed.new ((w.alloc (.cells #[.string ⟨s.toArray⟩] 9)).alloc (.cells #[.int .u64 0] 22)) 4 (.bool false)).alloc (.cells #[sv] 52)
  have x1 := ((Boxed.new (w.alloc (.cells #[.string ⟨s.toArray⟩] 9)) 22 (.int .u64 0)).alloc (.cells #[.bool false] 4)).alloc (.cells #[sv] 52)
  have x0 := (((Boxed.new w 9 (.string ⟨s.toArray⟩)).alloc (.cells #[.int .u64 0] 22)).alloc (.cells #[.bool false] 4)).alloc (.cells #[sv] 52)
  simp only [World.size_alloc] at x1 x2 x3
  have hB0 : Below w.heap.size w ((((w.alloc (.cells #[.string ⟨s.toArray⟩] 9)).alloc (.cells #[.int .u64 0] 22)).alloc (.cells #[.bool false] 4)).alloc (.cells #[sv] 52)) := ((((Below.refl _ w).alloc (Nat.le_refl _) _).alloc (by simp) _).alloc (by simp; omega) _).alloc (by simp; omega) _
  have hsz : ((((w.alloc (.cells #[.string ⟨s.toArray⟩] 9)).alloc (.cells #[.int .u64 0] 22)).alloc (.cells #[.bool false] 4)).alloc (.cells #[sv] 52)).heap.size = w.heap.size + 4 := by simp
  obtain ⟨W0, hW0⟩ : ∃ W0, (((w.alloc (.cells #[.string ⟨s.toArray⟩] 9)).alloc (.cells #[.int .u64 0] 22)).alloc (.cells #[.bool false] 4)).alloc (.cells #[sv] 52) = W0 := ⟨_, rfl⟩
  rw [hW0] at x0 x1 x2 x3 hB0 hsz ⊢
  clear hW0
  have hE0 : EnvAt W0.heap.size W0 sv e := by
    obtain ⟨a, c, q1, q2, q3⟩ := hE.below hB0
    exact ⟨a, c, q1, q2, fun i x hx => by obtain ⟨k, k1, k2, k3⟩ := q3 i x hx; exact ⟨k, k1, by omega, k3⟩⟩
  obtain ⟨a, l, c, rfl⟩ := hv
  refine wpIn_rangeFunc_ownH hro hn1 (gf := 79) (lb := #[.pointer (some ⟨w.heap.size + 1 + 1 + 1, 0, none⟩)]) rfl h3 (enters_of Try.func79 (by kernel_rfl) rfl)
    (back_stops F (n - 1) h3 hro (by omega) (w.heap.size + 1 + 1 + 1) W0.heap.size _ e W0 (by omega) (Nat.le_refl _) x3.cell hE0) belowK_t (belowK_b (Nat.le_refl _)) (Below.refl _ _) (fun _ => rfl)
    (fun pre W => ((∀ p ∈ pre, p.2.1 ≠ s) ∧ Boxed W w.heap.size 9 (.string ⟨s.toArray⟩) ∧ Boxed W (w.heap.size + 1) 22 (.int .u64 0) ∧ Boxed W (w.heap.size + 1 + 1) 4 (.bool false)) ∧ Below W0.heap.size W0 W)
    (fun c pre W => (c = .ret ∧ ∃ ini last, pre = ini ++ [last] ∧ (∀ p ∈ ini, p.2.1 ≠ s) ∧ last.2.1 = s ∧ Boxed W (w.heap.size + 1) 22 (.int .u64 last.2.2) ∧ Boxed W (w.heap.size + 1 + 1) 4 (.bool true)) ∧ Below w.heap.size w W)
    (OwnFrom.and (Own.from (fun q A B row hs hg hr => ⟨hs.1, boxed_own _ _ (fun (_ : Unit) => _) () A B row hs.2.1 hg hr, boxed_own _ _ (fun (_ : Unit) => _) () A B row hs.2.2.1 hg hr, boxed_own _ _ (fun (_ : Unit) => _) () A B row hs.2.2.2 hg hr⟩) _) (ownFrom_below (Nat.le_refl _) (Nat.le_refl _)))
    (fun c => OwnFrom.and (Own.from (fun q A B row hs hg hr => by
      obtain ⟨hc, ini, last, e1, e2, e3, e4, e5⟩ := hs
      exact ⟨hc, ini, last, e1, e2, e3, boxed_own _ _ (fun (_ : Unit) => _) () A B row e4 hg hr, boxed_own _ _ (fun (_ : Unit) => _) () A B row e5 hg hr⟩) _) (ownFrom_below (Nat.le_refl _) (by omega)))
    ⟨⟨by simp, x0, x1, x2⟩, Below.refl _ _⟩
    (fun x a' W => ∃ Bx, w.heap.size + 2 < Bx ∧ Duo W Bx 61 (.string ⟨x.2.1.toArray⟩) (.int .u64 x.2.2) ∧ a' = { tmps := #[.slice a l c, .string ⟨s.toArray⟩, undef, .pointer (some ⟨w.heap.size, 0, none⟩), .pointer (some ⟨w.heap.size + 1, 0, none⟩), .pointer (some ⟨w.heap.size + 1 + 1, 0, none⟩), undef, .pointer (some ⟨Bx, 0, none⟩), .slice a l c, .func (.func 79) #[] #[.pointer (some ⟨w.heap.size + 1 + 1 + 1, 0, none⟩)], .int .i64 x.1, .agg #[.string ⟨x.2.1.toArray⟩, .int .u64 x.2.2], undef, undef, undef, undef, undef, undef], defers := [] })
    (fun x a' _ X Y row hs hg hr => by obtain ⟨Bx, q1, q2, q3⟩ := hs; exact ⟨Bx, q1, Duo.own Bx _ (fun (_ : Unit) => _) (fun (_ : Unit) => _) () X Y row q2 hg (fun r e => (hr r e).2), q3⟩)
    ?assign ?body ?done ?stop
  case assign =>
    rintro l' pre x W K ⟨⟨hp, b0, b1, b2⟩, hB1⟩ hK
    gi_wp2
    exact hK _ _ ((KeepsOthers.alloc _ _).from _) ((Below.refl _ W).alloc hB1.size _) ⟨⟨hp, b0.alloc _, b1.alloc _, b2.alloc _⟩, hB1.alloc hB1.size _⟩ ⟨W.heap.size, by have := hB1.size; omega, World.alloc_heap_new W _, rfl⟩
  case body =>
    rintro l' pre x a' W hl ⟨r, hr⟩ ⟨⟨hp, b0, b1, b2⟩, hB1⟩ ⟨Bx, hBx, bX, rfl⟩ hlt
    have cX := bX.c0
    have cY := bX.c1
    have cS := b0.cell
    have f1 := b1.frozen
    have f2 := b2.frozen
    have g1 := b1.cell
    have g2 := b2.cell
    gi_wp2
    · have hx : x.2.1 = s := by simpa using (by assumption : (x.2.1 == s) = true)
      exact ⟨((KeepsOthers.setCell _ _ _).trans (KeepsOthers.setCell _ _ _)).from _, ⟨rfl, pre, x, rfl, hp, hx, (b1.set _).other (by omega) _, (b2.other (by omega) _).set _⟩, ((hB0.trans (hB1.mono (by omega))).setCell (p := ⟨w.heap.size + 1, 0, none⟩) (Nat.le_succ _) _).setCell (p := ⟨w.heap.size + 1 + 1, 0, none⟩) (by show w.heap.size ≤ w.heap.size + 1 + 1; omega) _⟩
    · have hx : x.2.1 ≠ s := by simpa using (by assumption : (x.2.1 == s) = false)
      exact ⟨KeepsFrom.refl _ _, Below.refl _ _, ⟨fun p hp' => (List.mem_append.1 hp').elim (hp p) (fun q => by simp at q; subst q; exact hx), b0, b1, b2⟩, hB1⟩
  case done =>
    rintro D ys W hD rfl ⟨⟨hne, b0, b1, b2⟩, hB⟩ hK
    have f1 := b1.frozen
    have f2 := b2.frozen
    have g1 := b1.cell
    have g2 := b2.cell
    gi_wp2
    have hK1 := (KeepsOthers.setCell W ⟨w.heap.size + 1, 0, none⟩ (.int .u64 0)).same D _ hK rfl
    have hK2 := (KeepsOthers.setCell _ ⟨w.heap.size + 1 + 1, 0, none⟩ (.bool false)).same D _ hK1 rfl
    refine ⟨by simp, .inl ⟨_, _, rfl, run_takeDeferred hK2, ?_⟩⟩
    have y1 := ((b1.set (.int .u64 0)).other (B' := w.heap.size + 1 + 1) (by omega) (.bool false)).kept (grownBy_putObj' _ D (.deferred none)) (by simp; omega)
    have y2 := ((b2.other (B' := w.heap.size + 1) (by omega) (.int .u64 0)).set (.bool false)).kept (grownBy_putObj' _ D (.deferred none)) (by simp; omega)
    have z1 := y1.cell
    have z2 := y2.cell
    refine ⟨.tuple #[.int .u64 0, .bool false], by simp [results, Try.f58, go_sem, z1, z2], by rw [getE_all hne]; rfl, ?_⟩
    exact (((hB0.trans (hB.mono (by omega))).setCell (p := ⟨w.heap.size + 1, 0, none⟩) (Nat.le_succ _) _).setCell (p := ⟨w.heap.size + 1 + 1, 0, none⟩) (by show w.heap.size ≤ w.heap.size + 1 + 1; omega) _).trans (belowK_b (w := w) (Nat.le_refl _) _ D _ _ (by omega) hK2 rfl rfl)
  case stop =>
    rintro D c' pre W hD ⟨k, hk, rfl⟩ ⟨⟨rfl, ini, last, e1, e2, e3, b1, b2⟩, hB⟩ hK
    gi_wp2
    refine ⟨by simp, .inl ⟨_, _, rfl, run_takeDeferred hK, ?_⟩⟩
    have z1 := (b1.kept (grownBy_putObj' _ D (.deferred none)) (by simp; omega)).cell
    have z2 := (b2.kept (grownBy_putObj' _ D (.deferred none)) (by simp; omega)).cell
    obtain ⟨k', rfl⟩ : ∃ k', k = k' + 1 := by
      cases k with
      | zero => simp [backK] at e1
      | succ k' => exact ⟨k', rfl⟩
    rw [backK_succ] at e1
    obtain ⟨rfl, e5⟩ := List.append_inj' e1 rfl
    obtain ⟨x, hx⟩ : ∃ x, e[e.length - 1 - k']? = some x := ⟨_, List.getElem?_eq_getElem (by omega)⟩
    rw [hx] at e5
    obtain rfl : (((e.length - 1 - k' : Nat) : Int), x) = last := by simpa using e5
    refine ⟨.tuple #[.int .u64 x.2, .bool true], by simp [results, Try.f58, go_sem, z1, z2], by rw [getE_back (by omega) hx e3 e2]; rfl, ?_⟩
    exact hB.trans (belowK_b (w := w) (Nat.le_refl _) _ D _ _ (by omega) hK rfl rfl)
theorem Get_any (sv : Value) (e : EnvL) (s : List UInt8) (w : World) (hE : EnvAt w.heap.size w sv e) :
    Calls Try.prog 58 #[sv, .string ⟨s.toArray⟩] w fun q w' => q = .returned (.tuple #[.int .u64 ((getE e s).getD 0), .bool (getE e s).isSome]) ∧ Below w.heap.size w w' :=
  callsIn_wide.1 (Get_in Fence.wide 3 trivial trivial trivial rfl (Nat.le_refl _) sv e s w hE)
end Go.Proofs.Ytoengahfkfmfeaa
