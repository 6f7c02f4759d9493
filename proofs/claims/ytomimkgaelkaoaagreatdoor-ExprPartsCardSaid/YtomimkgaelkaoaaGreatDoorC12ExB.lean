/- Layer 10: the number of a name (Get), by slices.Backward. · Layer 10: Get. -/
import Derived.RangeFuncNested
import Derived.RangeFuncBound
import Derived.RangeFuncCalls
import Derived.RangeFuncLeaves
import Derived.RangeFuncBox
import Derived.Shelf.Abstract
import Derived.WalkKit
import Derived.OwnWalkIn
import Derived.TacticsInMore
import Derived.LoopNIn
import Derived.LoopIn
import Derived.Test.YtomimkgaelkaoaaGreatDoorC12ExP
import Derived.Test.YtomimkgaelkaoaaGreatDoorChecked
set_option linter.unusedVariables false
set_option linter.unusedSimpArgs false
namespace Go.Proofs.YtomimkgaelkaoaaGreatDoor
open Go.RowKit Go.Shelf
attribute [local go_sem] Oper.semAt_some
theorem getE_snoc (e : EnvL) (x : List UInt8 × Int) (s : List UInt8) : getE (e ++ [x]) s = if x.1 = s then some x.2 else getE e s := by
 unfold getE
 rw [List.reverse_append]
 show (List.find? _ (x :: e.reverse)).map _ = _
 rw [List.find?_cons]
 by_cases h : x.1 = s <;> simp [h]
def backK (e : EnvL) (k : Nat) : List (Int × (List UInt8 × Int)) := (List.range k).map fun j => (((e.length - 1 - j : Nat) : Int), e[e.length - 1 - j]?.getD ([], 0))
theorem backK_succ (e : EnvL) (k : Nat) : backK e (k + 1) = backK e k ++ [(((e.length - 1 - k : Nat) : Int), e[e.length - 1 - k]?.getD ([], 0))] := by simp [backK, List.range_succ]
theorem backK_length (e : EnvL) (k : Nat) : (backK e k).length = k := by simp [backK]
def EnvAt (n : Nat) (w : World) (v : Value) (e : EnvL) : Prop :=
 ∃ a c, v = .slice a e.length c ∧ e.length < 4611686018427387904 ∧ ∀ (i : Nat) x, e[i]? = some x → ∃ k, a = some ⟨k, 0, none⟩ ∧ k < n ∧ w.cell? ⟨k, i * 2, none⟩ = some (.string ⟨x.1.toArray⟩) ∧ w.cell? ⟨k, i * 2 + 1, none⟩ = some (.int .u64 x.2)
theorem EnvAt.below {n : Nat} {w w' : World} {v : Value} {e : EnvL} (h : EnvAt n w v e) (hb : Below n w w') : EnvAt n w' v e := by
 obtain ⟨a, c, h1, h2, h3⟩ := h
 refine ⟨a, c, h1, h2, fun i x hx => ?_⟩
 obtain ⟨k, k1, k2, k3, k4⟩ := h3 i x hx
 exact ⟨k, k1, k2, (hb.cell (p := ⟨k, _, none⟩) k2).trans k3, (hb.cell (p := ⟨k, _, none⟩) k2).trans k4⟩
abbrev encV (x : Int × (List UInt8 × Int)) : Array Value := #[.int .i64 x.1, .agg #[.string ⟨x.2.1.toArray⟩, .int .u64 x.2.2]]
set_option maxRecDepth 100000 in
set_option maxHeartbeats 2000000 in
theorem back1_in (F : Fence) (n : Nat) (hf : F.fn 113) (hro : F.round = none) (hn : 1 ≤ n) (l Bs n₀ : Nat) (sv : Value) (e : EnvL) (J Jx : List (Int × (List UInt8 × Int)) → World → Prop)
  (hY : ∀ pre x W, J pre W → pre.length < e.length → YieldAt F (n - 1) Tryz.prog l (encV x) W fun q W' =>
   (q = .returned (.bool true) ∧ J (pre ++ [x]) W' ∧ Below n₀ W W') ∨ (q = .returned (.bool false) ∧ Jx (pre ++ [x]) W'))
  (W : World) (hBn : Bs < n₀) (hBs : W.cell? ⟨Bs, 0, none⟩ = some sv) (hE : EnvAt n₀ W sv e) (h0 : J [] W) :
  CallsIn F n Tryz.prog 113 #[.func (.yield l) #[] #[], .pointer (some ⟨Bs, 0, none⟩)] W fun q W' => (∃ v, q = .returned v) ∧
   ((∃ ys, ys = backK e e.length ∧ J ys W') ∨ (∃ pre, (∃ k, k ≤ e.length ∧ pre = backK e k) ∧ Jx pre W')) := by
 obtain ⟨a, c, rfl, hlen, hcs⟩ := hE
 refine callsIn_of_wp Tryz.func113 rfl hf ?_ hro
 simp only [Tryz.ntmps113, List.size_toArray, List.length_cons, List.length_nil, Nat.reduceAdd, Nat.reduceSub, Array.replicate_succ, Array.replicate_zero, List.push_toArray, List.append_toArray, List.nil_append, List.cons_append]
 have hw0 : wrap64 ((e.length : Int) - 1) = (e.length : Int) - 1 := by unfold wrap64; omega
 gi_wp2
 gi_loopw [3] (fun i wr => ∃ k : Nat, k ≤ e.length ∧ i = .int .i64 ((e.length : Int) - 1 - k) ∧ J (backK e k) wr ∧ Below n₀ W wr)
  (fun i _ => (intOf i + 1).toNat)
 case atStart => exact ⟨0, Nat.zero_le _, by simp, h0, Below.refl _ _⟩
 case round =>
  obtain ⟨k, hk, rfl, hJs, hnx⟩ := hrel
  by_cases hlt : k < e.length
  ·obtain ⟨x, hx⟩ : ∃ x, e[e.length - 1 - k]? = some x := ⟨_, List.getElem?_eq_getElem (by omega)⟩
   obtain ⟨b, rfl, hb, c0, c1⟩ := hcs _ _ hx
   have d0 := (hnx.cell (p := ⟨b, _, none⟩) hb).trans c0
   have d1 := (hnx.cell (p := ⟨b, _, none⟩) hb).trans c1
   have hBs' := (hnx.cell (p := ⟨Bs, 0, none⟩) hBn).trans hBs
   obtain ⟨fn, tmps, assign, body, hy, hR⟩ := hY _ (((e.length - 1 - k : Nat) : Int), x) wr hJs (by rw [backK_length]; exact hlt)
   simp only [encV] at hy
   have hm : (e.length : Int) - 1 - k = ((e.length - 1 - k : Nat) : Int) := by omega
   have hw1 : wrap64 (((e.length - 1 - k : Nat) : Int) - 1) = (e.length : Int) - 1 - (k + 1 : Nat) := by unfold wrap64; omega
   have hml : e.length - 1 - k < e.length := by omega
   rw [hm]
   have hbk : backK e (k + 1) = backK e k ++ [(((e.length - 1 - k : Nat) : Int), x)] := by rw [backK_succ, hx]; rfl
   generalize e.length - 1 - k = m at *
   gi_wp2
   refine hR.mono ?_
   rintro q W3 (⟨rfl, hJ3, hk3⟩ | ⟨rfl, hJx3⟩)
   ·gi_wp2
    go_roundw
    case rel => exact ⟨k + 1, by omega, by congr 1; omega, by rw [hbk]; exact hJ3, hnx.trans hk3⟩
    case measure => simp only [intOf]; omega
   ·gi_wp2
    refine bodyPost_ret (results_none rfl _ _ _) rfl ?_
    exact ⟨⟨_, rfl⟩, .inr ⟨_, ⟨k + 1, by omega, hbk.symm⟩, hJx3⟩⟩
  ·obtain rfl : k = e.length := by omega
   gi_wp2
   go_end0
   exact ⟨⟨_, rfl⟩, .inl ⟨_, rfl, hJs⟩⟩
set_option maxHeartbeats 1000000 in
theorem back_in (F : Fence) (n : Nat) (hf : F.fn 70) (hro : F.round = none) (v : Value) (w : World) (hv : ∃ a l c, v = .slice a l c) :
  CallsIn F n Tryz.prog 70 #[v] w fun q w' => q = .returned (.func (.func 113) #[] #[.pointer (some ⟨w.heap.size, 0, none⟩)]) ∧ w' = w.alloc (.cells #[v] 69) := by
 obtain ⟨a, l, c, rfl⟩ := hv
 refine callsIn_of_wp Tryz.func70 rfl hf ?_ hro
 simp only [Tryz.ntmps70, List.size_toArray, List.length_cons, List.length_nil, Nat.reduceAdd, Nat.reduceSub, Array.replicate_succ, Array.replicate_zero, List.push_toArray, List.append_toArray, List.nil_append, List.cons_append]
 gi_wp2
 go_ret
 exact ⟨rfl, rfl⟩
theorem back_stops (F : Fence) (n : Nat) (hf : F.fn 113) (hro : F.round = none) (hn : 1 ≤ n) (Bs n₀ : Nat) (sv : Value) (e : EnvL) (w : World) (hBs : Bs < n₀) (hn₀ : n₀ ≤ w.heap.size)
  (hc : w.cell? ⟨Bs, 0, none⟩ = some sv) (hI : EnvAt n₀ w sv e) :
  SeqStopsK F n Tryz.prog 113 #[.pointer (some ⟨Bs, 0, none⟩)] encV (Below n₀) (fun ys => ys = backK e e.length) (fun pre => ∃ k, k ≤ e.length ∧ pre = backK e k) e.length w := fun l J Jx W hW _ _ hY h0 =>
 back1_in F n hf hro hn l Bs n₀ sv e J Jx hY W hBs ((hW.cell (p := ⟨Bs, 0, none⟩) (show Bs < w.heap.size by omega)).trans hc) (hI.below (hW.mono hn₀)) h0
end Go.Proofs.YtomimkgaelkaoaaGreatDoor
namespace Go.Proofs.YtomimkgaelkaoaaGreatDoor
open Go.RowKit Go.Shelf
attribute [local go_sem] Oper.semAt_some
theorem getE_append (a b : EnvL) (s : List UInt8) : getE (a ++ b) s = (getE b s).or (getE a s) := by
 induction b using rev_ind with
 | h0 => rw [List.append_nil]; rfl
 | hs b x ih =>
  rw [← List.append_assoc, getE_snoc, getE_snoc, ih]
  split <;> rfl
theorem getE_none {e : EnvL} {s : List UInt8} (h : ∀ x ∈ e, x.1 ≠ s) : getE e s = none := by
 induction e using rev_ind with
 | h0 => rfl
 | hs e x ih =>
  rw [getE_snoc, if_neg (h x (by simp))]
  exact ih fun y hy => h y (by simp [hy])
theorem getE_back {e : EnvL} {s : List UInt8} {k : Nat} {x : List UInt8 × Int} (hk : k < e.length) (hx : e[e.length - 1 - k]? = some x) (hs : x.1 = s) (h : ∀ p ∈ backK e k, p.2.1 ≠ s) : getE e s = some x.2 := by
 have e1 : e = (e.take (e.length - 1 - k) ++ [x]) ++ e.drop (e.length - 1 - k + 1) := by
  obtain ⟨h1, h2⟩ := List.getElem?_eq_some_iff.1 hx
  rw [← h2, ← List.take_succ_eq_append_getElem h1, List.take_append_drop]
 rw [e1, getE_append, getE_snoc, if_pos hs, getE_none]
 ·rfl
 ·intro y hy
  obtain ⟨j, hj⟩ := List.mem_iff_getElem?.1 hy
  rw [List.getElem?_drop] at hj
  have hl := (List.getElem?_eq_some_iff.1 hj).1
  have := h ((((e.length - 1 - (e.length - 1 - (e.length - 1 - k + 1 + j)) : Nat) : Int)), y) (by
   unfold backK
   refine List.mem_map.2 ⟨e.length - 1 - (e.length - 1 - k + 1 + j), by rw [List.mem_range]; omega, ?_⟩
   rw [show e.length - 1 - (e.length - 1 - (e.length - 1 - k + 1 + j)) = e.length - 1 - k + 1 + j from by omega, hj]
   rfl)
  exact this
theorem getE_all {e : EnvL} {s : List UInt8} (h : ∀ p ∈ backK e e.length, p.2.1 ≠ s) : getE e s = none := getE_none fun y hy => by
 obtain ⟨j, hj⟩ := List.mem_iff_getElem?.1 hy
 have hl := (List.getElem?_eq_some_iff.1 hj).1
 refine h (((e.length - 1 - (e.length - 1 - j) : Nat) : Int), y) ?_
 unfold backK
 refine List.mem_map.2 ⟨e.length - 1 - j, by rw [List.mem_range]; omega, ?_⟩
 rw [show e.length - 1 - (e.length - 1 - j) = j from by omega, hj]
 rfl
def Duo (W : World) (B : Nat) (t : TypeId) (u v : Value) : Prop := W.heap[B]? = some (.cells #[u, v] t (0, 0))
theorem Duo.lt {W : World} {B : Nat} {t : TypeId} {u v : Value} (h : Duo W B t u v) : B < W.heap.size := (Array.getElem?_eq_some_iff.1 h).1
theorem Duo.c0 {W : World} {B : Nat} {t : TypeId} {u v : Value} (h : Duo W B t u v) : W.cell? ⟨B, 0, none⟩ = some u := by simp [World.cell?, show W.heap[B]? = _ from h]
theorem Duo.c1 {W : World} {B : Nat} {t : TypeId} {u v : Value} (h : Duo W B t u v) : W.cell? ⟨B, 1, none⟩ = some v := by simp [World.cell?, show W.heap[B]? = _ from h]
theorem Duo.own {β : Type} (B : Nat) (t : TypeId) (f g : β → Value) : Own (fun s W => Duo W B t (f s) (g s)) := fun s X Y row hs hg hrow =>
 (hg.block B hs.lt (fun e' => by obtain ⟨o, ho, hc⟩ := hrow B e'.symm; rw [show X.heap[B]? = _ from hs] at ho; cases ho; cases hc)).trans hs
set_option maxRecDepth 100000 in
set_option maxHeartbeats 4000000 in
theorem Get_in (F : Fence) (n : Nat) (h1 : F.fn 27) (h2 : F.fn 70) (h3 : F.fn 113) (hro : F.round = none) (hn : 3 ≤ n)
  (sv : Value) (e : EnvL) (s : List UInt8) (w : World) (hE : EnvAt w.heap.size w sv e) :
  CallsIn F n Tryz.prog 27 #[sv, .string ⟨s.toArray⟩] w fun q w' => q = .returned (.tuple #[.int .u64 ((getE e s).getD 0), .bool (getE e s).isSome]) ∧ Below w.heap.size w w' := by
 have hn1 : 1 ≤ n := by omega
 have hv : ∃ a l c, sv = .slice a l c := by obtain ⟨a, c, rfl, _⟩ := hE; exact ⟨_, _, _, rfl⟩
 refine callsIn_of_wp_marks Tryz.func27 rfl h1 ?_ hro
 simp only [Tryz.ntmps27, List.size_toArray, List.length_cons, List.length_nil, Nat.reduceAdd, Nat.reduceSub, Array.replicate_succ, Array.replicate_zero, List.push_toArray, List.append_toArray, List.nil_append, List.cons_append]
 gi_wp2_with (gi_at_call 70; refine (back_in F (n - 1) h2 hro _ _ hv).mono ?_; rintro q w' ⟨rfl, rfl⟩)
 have x3 := Boxed.new (((w.alloc (.cells #[.string ⟨s.toArray⟩] 9)).alloc (.cells #[.int .u64 0] 37)).alloc (.cells #[.bool false] 4)) 69 sv
 have x2 := (Boxed.new ((w.alloc (.cells #[.string ⟨s.toArray⟩] 9)).alloc (.cells #[.int .u64 0] 37)) 4 (.bool false)).alloc (.cells #[sv] 69)
 have x1 := ((Boxed.new (w.alloc (.cells #[.string ⟨s.toArray⟩] 9)) 37 (.int .u64 0)).alloc (.cells #[.bool false] 4)).alloc (.cells #[sv] 69)
 have x0 := (((Boxed.new w 9 (.string ⟨s.toArray⟩)).alloc (.cells #[.int .u64 0] 37)).alloc (.cells #[.bool false] 4)).alloc (.cells #[sv] 69)
 simp only [World.size_alloc] at x1 x2 x3
 have hB0 : Below w.heap.size w ((((w.alloc (.cells #[.string ⟨s.toArray⟩] 9)).alloc (.cells #[.int .u64 0] 37)).alloc (.cells #[.bool false] 4)).alloc (.cells #[sv] 69)) := ((((Below.refl _ w).alloc (Nat.le_refl _) _).alloc (by simp) _).alloc (by simp; omega) _).alloc (by simp; omega) _
 have hsz : ((((w.alloc (.cells #[.string ⟨s.toArray⟩] 9)).alloc (.cells #[.int .u64 0] 37)).alloc (.cells #[.bool false] 4)).alloc (.cells #[sv] 69)).heap.size = w.heap.size + 4 := by simp
 obtain ⟨W0, hW0⟩ : ∃ W0, (((w.alloc (.cells #[.string ⟨s.toArray⟩] 9)).alloc (.cells #[.int .u64 0] 37)).alloc (.cells #[.bool false] 4)).alloc (.cells #[sv] 69) = W0 := ⟨_, rfl⟩
 rw [hW0] at x0 x1 x2 x3 hB0 hsz ⊢
 clear hW0
 have hE0 : EnvAt W0.heap.size W0 sv e := by
  obtain ⟨a, c, q1, q2, q3⟩ := hE.below hB0
  exact ⟨a, c, q1, q2, fun i x hx => by obtain ⟨k, k1, k2, k3⟩ := q3 i x hx; exact ⟨k, k1, by omega, k3⟩⟩
 obtain ⟨a, l, c, rfl⟩ := hv
 refine wpIn_rangeFunc_ownH hro hn1 (gf := 113) (lb := #[.pointer (some ⟨w.heap.size + 1 + 1 + 1, 0, none⟩)]) rfl h3 (enters_of Tryz.func113 (by kernel_rfl) rfl)
  (back_stops F (n - 1) h3 hro (by omega) (w.heap.size + 1 + 1 + 1) W0.heap.size _ e W0 (by omega) (Nat.le_refl _) x3.cell hE0) belowK_t (belowK_b (Nat.le_refl _)) (Below.refl _ _) (fun _ => rfl)
  (fun pre W => ((∀ p ∈ pre, p.2.1 ≠ s) ∧ Boxed W w.heap.size 9 (.string ⟨s.toArray⟩) ∧ Boxed W (w.heap.size + 1) 37 (.int .u64 0) ∧ Boxed W (w.heap.size + 1 + 1) 4 (.bool false)) ∧ Below W0.heap.size W0 W)
  (fun c pre W => (c = .ret ∧ ∃ ini last, pre = ini ++ [last] ∧ (∀ p ∈ ini, p.2.1 ≠ s) ∧ last.2.1 = s ∧ Boxed W (w.heap.size + 1) 37 (.int .u64 last.2.2) ∧ Boxed W (w.heap.size + 1 + 1) 4 (.bool true)) ∧ Below w.heap.size w W)
  (OwnFrom.and (Own.from (fun q A B row hs hg hr => ⟨hs.1, boxed_own _ _ (fun (_ : Unit) => _) () A B row hs.2.1 hg hr, boxed_own _ _ (fun (_ : Unit) => _) () A B row hs.2.2.1 hg hr, boxed_own _ _ (fun (_ : Unit) => _) () A B row hs.2.2.2 hg hr⟩) _) (ownFrom_below (Nat.le_refl _) (Nat.le_refl _)))
  (fun c => OwnFrom.and (Own.from (fun q A B row hs hg hr => by
   obtain ⟨hc, ini, last, e1, e2, e3, e4, e5⟩ := hs
   exact ⟨hc, ini, last, e1, e2, e3, boxed_own _ _ (fun (_ : Unit) => _) () A B row e4 hg hr, boxed_own _ _ (fun (_ : Unit) => _) () A B row e5 hg hr⟩) _) (ownFrom_below (Nat.le_refl _) (by omega)))
  ⟨⟨by simp, x0, x1, x2⟩, Below.refl _ _⟩
  (fun x a' W => ∃ Bx, w.heap.size + 2 < Bx ∧ Duo W Bx 85 (.string ⟨x.2.1.toArray⟩) (.int .u64 x.2.2) ∧ a' = { tmps := #[.slice a l c, .string ⟨s.toArray⟩, undef, .pointer (some ⟨w.heap.size, 0, none⟩), .pointer (some ⟨w.heap.size + 1, 0, none⟩), .pointer (some ⟨w.heap.size + 1 + 1, 0, none⟩), undef, .pointer (some ⟨Bx, 0, none⟩), .slice a l c, .func (.func 113) #[] #[.pointer (some ⟨w.heap.size + 1 + 1 + 1, 0, none⟩)], .int .i64 x.1, .agg #[.string ⟨x.2.1.toArray⟩, .int .u64 x.2.2], undef, undef, undef, undef, undef, undef], defers := [] })
  (fun x a' _ X Y row hs hg hr => by obtain ⟨Bx, q1, q2, q3⟩ := hs; exact ⟨Bx, q1, Duo.own Bx _ (fun (_ : Unit) => _) (fun (_ : Unit) => _) () X Y row q2 hg (fun r e => (hr r e).2), q3⟩)
  ?assign ?body ?done ?stop
 case assign =>
  rintro l' pre x W K ⟨⟨hp, b0, b1, b2⟩, hB1⟩ hK
  gi_wp2
  exact hK _ _ ((KeepsOthers.alloc _ _).from _) ((Below.refl _ W).alloc hB1.size _) ⟨⟨hp, b0.alloc _, b1.alloc _, b2.alloc _⟩, hB1.alloc hB1.size _⟩ ⟨W.heap.size, by have := hB1.size; omega, World.alloc_heap_new W _, rfl⟩
 case body =>
  rintro l' pre x a' W hl ⟨r, hr⟩ ⟨⟨hp, b0, b1, b2⟩, hB1⟩ ⟨Bx, hBx, bX, rfl⟩ hlt
  have cX := bX.c0
  have cY := bX.c1
  have cS := b0.cell
  have f1 := b1.frozen
  have f2 := b2.frozen
  have g1 := b1.cell
  have g2 := b2.cell
  gi_wp2
  ·have hx : x.2.1 = s := by simpa using (by assumption : (x.2.1 == s) = true)
   exact ⟨((KeepsOthers.setCell _ _ _).trans (KeepsOthers.setCell _ _ _)).from _, ⟨rfl, pre, x, rfl, hp, hx, (b1.set _).other (by omega) _, (b2.other (by omega) _).set _⟩, ((hB0.trans (hB1.mono (by omega))).setCell (p := ⟨w.heap.size + 1, 0, none⟩) (Nat.le_succ _) _).setCell (p := ⟨w.heap.size + 1 + 1, 0, none⟩) (by show w.heap.size ≤ w.heap.size + 1 + 1; omega) _⟩
  ·have hx : x.2.1 ≠ s := by simpa using (by assumption : (x.2.1 == s) = false)
   exact ⟨KeepsFrom.refl _ _, Below.refl _ _, ⟨fun p hp' => (List.mem_append.1 hp').elim (hp p) (fun q => by simp at q; subst q; exact hx), b0, b1, b2⟩, hB1⟩
 case done =>
  rintro D ys W hD rfl ⟨⟨hne, b0, b1, b2⟩, hB⟩ hK
  have f1 := b1.frozen
  have f2 := b2.frozen
  have g1 := b1.cell
  have g2 := b2.cell
  gi_wp2
  have hK1 := (KeepsOthers.setCell W ⟨w.heap.size + 1, 0, none⟩ (.int .u64 0)).same D _ hK rfl
  have hK2 := (KeepsOthers.setCell _ ⟨w.heap.size + 1 + 1, 0, none⟩ (.bool false)).same D _ hK1 rfl
  refine ⟨by simp, .inl ⟨_, _, rfl, run_takeDeferred hK2, ?_⟩⟩
  have y1 := ((b1.set (.int .u64 0)).other (B' := w.heap.size + 1 + 1) (by omega) (.bool false)).kept (grownBy_putObj' _ D (.deferred none)) (by simp; omega)
  have y2 := ((b2.other (B' := w.heap.size + 1) (by omega) (.int .u64 0)).set (.bool false)).kept (grownBy_putObj' _ D (.deferred none)) (by simp; omega)
  have z1 := y1.cell
  have z2 := y2.cell
  refine ⟨.tuple #[.int .u64 0, .bool false], by simp [results, Tryz.f27, go_sem, z1, z2], by rw [getE_all hne]; rfl, ?_⟩
  exact (((hB0.trans (hB.mono (by omega))).setCell (p := ⟨w.heap.size + 1, 0, none⟩) (Nat.le_succ _) _).setCell (p := ⟨w.heap.size + 1 + 1, 0, none⟩) (by show w.heap.size ≤ w.heap.size + 1 + 1; omega) _).trans (belowK_b (w := w) (Nat.le_refl _) _ D _ _ (by omega) hK2 rfl rfl)
 case stop =>
  rintro D c' pre W hD ⟨k, hk, rfl⟩ ⟨⟨rfl, ini, last, e1, e2, e3, b1, b2⟩, hB⟩ hK
  gi_wp2
  refine ⟨by simp, .inl ⟨_, _, rfl, run_takeDeferred hK, ?_⟩⟩
  have z1 := (b1.kept (grownBy_putObj' _ D (.deferred none)) (by simp; omega)).cell
  have z2 := (b2.kept (grownBy_putObj' _ D (.deferred none)) (by simp; omega)).cell
  obtain ⟨k', rfl⟩ : ∃ k', k = k' + 1 := by
   cases k with
   | zero => simp [backK] at e1
   | succ k' => exact ⟨k', rfl⟩
  rw [backK_succ] at e1
  obtain ⟨rfl, e5⟩ := List.append_inj' e1 rfl
  obtain ⟨x, hx⟩ : ∃ x, e[e.length - 1 - k']? = some x := ⟨_, List.getElem?_eq_getElem (by omega)⟩
  rw [hx] at e5
  obtain rfl : (((e.length - 1 - k' : Nat) : Int), x) = last := by simpa using e5
  refine ⟨.tuple #[.int .u64 x.2, .bool true], by simp [results, Tryz.f27, go_sem, z1, z2], by rw [getE_back (by omega) hx e3 e2]; rfl, ?_⟩
  exact hB.trans (belowK_b (w := w) (Nat.le_refl _) _ D _ _ (by omega) hK rfl rfl)
theorem Get_any (sv : Value) (e : EnvL) (s : List UInt8) (w : World) (hE : EnvAt w.heap.size w sv e) :
  Calls Tryz.prog 27 #[sv, .string ⟨s.toArray⟩] w fun q w' => q = .returned (.tuple #[.int .u64 ((getE e s).getD 0), .bool (getE e s).isSome]) ∧ Below w.heap.size w w' :=
 callsIn_wide.1 (Get_in Fence.wide 3 trivial trivial trivial rfl (Nat.le_refl _) sv e s w hE)
end Go.Proofs.YtomimkgaelkaoaaGreatDoor
