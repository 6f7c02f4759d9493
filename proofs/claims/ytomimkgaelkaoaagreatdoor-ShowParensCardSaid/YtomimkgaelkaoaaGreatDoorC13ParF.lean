/- Layer 7: the program's parser: what is nested; expressions. · Layer 7: the program's parser: expressions. · Layer 7: the program's parser: operators. -/
import Derived.Test.YtomimkgaelkaoaaGreatDoorC13ParC
import Derived.Test.YtomimkgaelkaoaaGreatDoorC13ParseQ
import Derived.Conc.MuLone
set_option linter.unusedVariables false
set_option linter.unusedSimpArgs false
namespace Go.Proofs.YtomimkgaelkaoaaGreatDoor
open Go.Lib (hid)
open Go.ChangeShapes Go.WideShapes Go.ChangeAt Go.RowKit
section
variable {X : Nat → Prop} {g b : Nat} {l : List Tok} {d : Nat} {f : FM}
set_option maxHeartbeats 1000000 in
set_option maxRecDepth 100000 in
theorem nested_any {α : Type} (K : Nat) (q : Bool) (r : PR α) (V : α → Int) (F : α → FM) (w : World) (h : PInv X g b w l d f) (hK : ∀ args w, (callFunc K args).run Tryz.prog w = .ok (.enter K args) w)
  (C : ∀ w', d < 32 → PInv X g b w' l (d + 1) f → Calls Tryz.prog K #[.pointer (some ⟨g, 0, none⟩)] w' (PostP X g b w' (d + 1) r (fun a => .int .i64 (V a)) F)) :
  Calls Tryz.prog 281 #[.pointer (some ⟨g, 0, none⟩), .bool q, .func (.func K) #[.pointer (some ⟨g, 0, none⟩)] #[]] w (PostP X g b w d ((enterP q d l).bind fun _ _ => r) (fun a => .int .i64 (V a)) F) := by
 have hd := h.dep
 obtain ⟨k, o, c, h0, h5, hf, hkl, hc, hm, -⟩ := h.look
 cases q
 ·have C2 := hid (expect_no w h)
  have hr : ((enterP false d l).bind fun _ _ => r) = .bad l 4 := rfl
  rw [hr]
  clear h hr C h0 h5 hf hm
  go_enter Tryz.func281, Tryz.ntmps281
  go_wp2_with (go_at_call 127; go_must (refine C2.out.mono ?_; rintro e w' ⟨rfl, rfl⟩))
  exact ⟨rfl, rfl, trivial, St.refl _ _ _⟩
 ·have C2 := hid (expect_yes w h)
  by_cases h32 : 32 ≤ d
  ·obtain rfl : d = 32 := by omega
   have hr : ((enterP true 32 l).bind fun _ _ => r) = .bad l 8 := rfl
   have C3 := hid (fail_any 8 w h)
   rw [hr]
   clear h hr C
   go_enter Tryz.func281, Tryz.ntmps281
   go_wp2_with (first | (go_at_call 127; go_must (refine C2.out.mono ?_; rintro e w' ⟨rfl, rfl⟩)) | (go_at_call 79; go_must (refine C3.out.mono ?_; rintro e w' ⟨rfl, rfl⟩)))
   exact ⟨rfl, rfl, trivial, St.refl _ _ _⟩
  ·have hr : ((enterP true d l).bind fun _ _ => r) = r := by unfold enterP; rw [if_neg (by decide), if_neg h32]; rfl
   have hb5 : ((d : Int) == 32) = false := by rw [beq_eq_false_iff_ne]; omega
   obtain ⟨h6, s6⟩ := h.deep (d + 1) (by omega)
   have hc6 := C _ (by omega) h6
   rw [hr]
   clear hr C h
   have e6 : (((d + 1 : Nat)) : Int) = (d : Int) + 1 := by omega
   rw [e6] at h6 s6 hc6
   have S6 := hid s6
   clear s6 e6
   cases r with
   | bad l' x =>
    have C6 := hid hc6
    clear hc6 h6
    go_enter Tryz.func281, Tryz.ntmps281
    go_wp2_with (first | (go_at_call 127; go_must (refine C2.out.mono ?_; rintro e w' ⟨rfl, rfl⟩)) | ((with_reducible refine C6.out.mono ?_); rintro e w' ⟨rfl, hI, hS⟩))
    exact ⟨rfl, rfl, trivial, S6.out.trans hS⟩
   | ok a l' =>
    have C6 := hid hc6
    clear hc6 h6
    go_enter Tryz.func281, Tryz.ntmps281
    go_wp2_with (first | (go_at_call 127; go_must (refine C2.out.mono ?_; rintro e w' ⟨rfl, rfl⟩)) | ((with_reducible refine C6.out.mono ?_); rintro e w' ⟨rfl, hI, hS⟩; obtain ⟨k', o', c', -, k5, kf, -⟩ := PInv.look hI; have HI := hid hI; clear hI))
    go_ret
    obtain ⟨h7, s7⟩ := HI.out.deep d hd
    exact ⟨rfl, h7, (S6.out.trans hS).trans s7⟩
end
theorem PInv.fresh {X : Nat → Prop} {g b : Nat} {w : World} {l : List Tok} {d : Nat} {f : FM} (h : PInv X g b w l d f) (o : Obj) : Out layP g (w.alloc o) w.heap.size := by
 obtain ⟨a, k, vc, vs, vx, vt, hh, h1, h2, h3, h4⟩ := h.mem
 have hg := h.lt
 refine ⟨by simp, by omega, fun j hj v hv e => ?_⟩
 rw [(below_box w o).cell (p := ⟨g, j, none⟩) hg, cell_of_row _ _ _ _ _ (0, 0) hh] at hv
 simp only [layP, List.mem_cons, List.mem_nil_iff, or_false] at hj
 rcases hj with rfl | rfl | rfl | rfl <;> simp only [List.getElem?_toArray, List.getElem?_cons_succ, List.getElem?_cons_zero, Option.some.injEq] at hv <;> subst hv
 ·have := h4.c.lt _ e; omega
 ·have := h4.s.lt _ e; omega
 ·have := h4.x.lt _ e; omega
 ·have := h4.t.lt _ e; omega
theorem PInv.pubNew {X : Nat → Prop} {g b : Nat} {w : World} {l : List Tok} {d : Nat} {f : FM} (h : PInv X g b w l d f) (o : Obj) : Pub X layP g (w.alloc o) w.heap.size := ⟨h.fresh o, fun hx => Nat.lt_irrefl _ (h.priv _ hx).lt⟩
theorem ints_new {P : Nat → Prop} {w : World} (ks : List Nat) (hk : ks.length ≤ 1000) (ho : P w.heap.size) :
  IntsV (w.alloc (.cells (ks.map fun n : Nat => Value.int .i64 (n : Int)).toArray 3)) (.slice (some ⟨w.heap.size, 0, none⟩) ks.length ks.length) ks ∧ Nest P (.slice (some ⟨w.heap.size, 0, none⟩) ks.length ks.length) := by
 refine ⟨⟨by simp, .inr ⟨w.heap.size, ks.length, _, rfl, Nat.zero_le _, heap_alloc_new w _, Nat.le_refl _, by unfold maxLen; omega, by simp, ?_⟩⟩, fun b hb => ?_⟩
 ·rw [Nat.mul_one, List.take_of_length_le (by simp)]
 ·simp only [Value.ownBlock, Option.some.injEq] at hb
  subst hb
  exact ho
def nestP {α : Type} (q : Bool) (d : Nat) (l : List Tok) (r : PR α) : PR α := (enterP q d l).bind fun _ _ => r
theorem unary_excl {n d : Nat} {l : List Tok} (h : isT sExcl l = true) : unary (n + 1) d l = (nestP (begE l.tail) d l.tail (unary n (d + 1) l.tail)).bind fun a l2 => .ok (.not a) l2 := by
 rw [unary, if_pos h]
 unfold nestP
 cases he : enterP (begE l.tail) d l.tail with
 | bad l' x => rfl
 | ok u l' => rw [(enter_same he).1]; rfl
theorem unary_paren {n d : Nat} {l : List Tok} (h0 : isT sExcl l = false) (h : isT sLp l = true) : unary (n + 1) d l = (nestP (begE l.tail) d l.tail (bin n 1 (d + 1) l.tail)).bind fun a l2 => (need sRp l2).bind fun _ l3 => .ok a l3 := by
 rw [unary, if_neg (by rw [h0]; decide), if_pos h]
 unfold nestP
 cases he : enterP (begE l.tail) d l.tail with
 | bad l' x => rfl
 | ok u l' => rw [(enter_same he).1]; rfl
def CU (n : Nat) : Prop := ∀ (X : Nat → Prop) (g b : Nat) (l : List Tok) (d : Nat) (f : FM) (w : World), PInv X g b w l d f → 8 * l.length + 1 ≤ n →
 Calls Tryz.prog 284 #[.pointer (some ⟨g, 0, none⟩)] w (PostP X g b w d (unary n d l) (fun a => .int .i64 ((putE a f.g).x : Int)) fun a => f.setG (putE a f.g))
def CB (n : Nat) : Prop := ∀ (X : Nat → Prop) (g b v : Nat) (l : List Tok) (d : Nat) (f : FM) (w : World), PInv X g b w l d f → 8 * l.length + 2 ≤ n → 1 ≤ v → v ≤ 9 →
 Calls Tryz.prog 241 #[.pointer (some ⟨g, 0, none⟩), .int .i64 (v : Int)] w (PostP X g b w d (bin n v d l) (fun a => .int .i64 ((putE a f.g).x : Int)) fun a => f.setG (putE a f.g))
def CE (n : Nat) : Prop := ∀ (X : Nat → Prop) (g b : Nat) (l : List Tok) (d : Nat) (f : FM) (w : World), PInv X g b w l d f → 8 * l.length + 2 ≤ n →
 Calls Tryz.prog 183 #[.pointer (some ⟨g, 0, none⟩)] w (PostP X g b w d (bin n 1 d l) (fun a => .int .i64 ((putE a f.g).x : Int)) fun a => f.setG (putE a f.g))
theorem enter_unary (args : Array Value) (w : World) : (callFunc 284 args).run Tryz.prog w = .ok (.enter 284 args) w :=
 Go.MuLone.run_callFunc_enter Tryz.func284 (by kernel_rfl) (c := (Tryz.f284.body).getD default) (by kernel_rfl) args w
theorem enter_expr (args : Array Value) (w : World) : (callFunc 183 args).run Tryz.prog w = .ok (.enter 183 args) w :=
 Go.MuLone.run_callFunc_enter Tryz.func183 (by kernel_rfl) (c := (Tryz.f183.body).getD default) (by kernel_rfl) args w
theorem enter_type (args : Array Value) (w : World) : (callFunc 181 args).run Tryz.prog w = .ok (.enter 181 args) w :=
 Go.MuLone.run_callFunc_enter Tryz.func181 (by kernel_rfl) (c := (Tryz.f181.body).getD default) (by kernel_rfl) args w
theorem CE.of {n : Nat} (h : CB n) : CE n := by
 intro X g b l d f w hI hn
 have c := h X g b 1 l d f w hI hn (by omega) (by omega)
 cases hr : bin n 1 d l
 all_goals
  rw [hr] at c
  have C := hid c
  clear c hr hI h
  go_enter Tryz.func183, Tryz.ntmps183
  go_wp2_with (go_at_call 241; go_must (refine C.out.mono ?_; rintro e w' ⟨rfl, hI, hS⟩))
 ·go_ret
  exact ⟨rfl, hI, hS⟩
 ·exact ⟨rfl, rfl, trivial, hS⟩
end Go.Proofs.YtomimkgaelkaoaaGreatDoor
namespace Go.Proofs.YtomimkgaelkaoaaGreatDoor
open Go.Lib (hid)
open Go.ChangeShapes Go.WideShapes Go.ChangeAt Go.RowKit
theorem addX_lit {X : Nat → Prop} {g b : Nat} {l : List Tok} {d : Nat} {f : FM} (k : Nat) (op : List UInt8) (n : Nat) (s : List UInt8) (ks : List Nat) (hk : ks.length ≤ 1000) (w : World) (h : PInv X g b w l d f) (hb : b < 60000) :
  Calls Tryz.prog 285 #[.pointer (some ⟨g, 0, none⟩), .agg #[.int .i64 (k : Int), .string (bs op), .int .u64 (n : Int), .string (bs s), .slice (some ⟨w.heap.size, 0, none⟩) ks.length ks.length]] (w.alloc (.cells (ks.map fun n : Nat => Value.int .i64 (n : Int)).toArray 3))
   fun e' w' => e' = .returned (.int .i64 ((f.g.addX ⟨k, op, n, s, ks⟩).x : Int)) ∧ PInv X g (b + 1) w' l d (f.setG (f.g.addX ⟨k, op, n, s, ks⟩)) ∧ St layP g w w' := by
 have hi := ints_new ks hk (h.pubNew (.cells (ks.map fun n : Nat => Value.int .i64 (n : Int)).toArray 3))
 refine (addX_any ⟨k, op, n, s, ks⟩ _ _ _ _ _ _ (h.below (below_box _ _)) hb ⟨_, rfl, hi.1, hi.2⟩).mono ?_
 rintro e w' ⟨rfl, h1, h2⟩
 exact ⟨rfl, h1, (St.below h.lt (below_box _ _)).trans h2⟩
theorem addX_leaf {X : Nat → Prop} {g b : Nat} {l : List Tok} {d : Nat} {f : FM} (k : Nat) (op : List UInt8) (n : Nat) (s : List UInt8) (w : World) (h : PInv X g b w l d f) (hb : b < 60000) :
  Calls Tryz.prog 285 #[.pointer (some ⟨g, 0, none⟩), .agg #[.int .i64 (k : Int), .string (bs op), .int .u64 (n : Int), .string (bs s), .slice none 0 0]] w
   fun e' w' => e' = .returned (.int .i64 ((f.g.addX ⟨k, op, n, s, []⟩).x : Int)) ∧ PInv X g (b + 1) w' l d (f.setG (f.g.addX ⟨k, op, n, s, []⟩)) ∧ St layP g w w' :=
 addX_any ⟨k, op, n, s, []⟩ _ _ _ _ _ _ h hb ⟨_, rfl, World.ownsRow_nil _ _ _ _, Nest.none _ _ _⟩
set_option maxHeartbeats 4000000 in
set_option maxRecDepth 100000 in
theorem unary_step {n : Nat} (IU : CU n) (IB : CB n) : CU (n + 1) := by
 intro X g b l d f w h hn
 have hpos := h.wf.pos
 have htop := h.top
 have hpot := h.pot
 have htl : l.tail.length = l.length - 1 := List.length_tail
 cases e0 : isT sExcl l
 ·have T0 : Calls Tryz.prog 125 #[.pointer (some ⟨g, 0, none⟩), .string ⟨#[33]⟩] w fun e' w' => e' = .returned (.bool false) ∧ w = w' := take_no sExcl w h e0
  have HT0 := hid T0
  clear T0
  cases e1 : isT sLp l
  ·have T1 : Calls Tryz.prog 125 #[.pointer (some ⟨g, 0, none⟩), .string ⟨#[40]⟩] w fun e' w' => e' = .returned (.bool false) ∧ w = w' := take_no sLp w h e1
   have HT1 := hid T1
   have CA := atNumber_any w h
   clear T1
   cases e2 : isNum l
   ·have CM := name_any w h
    rw [e2] at CA
    have HA := hid CA
    clear CA
    cases e3 : isName l
    ·have hr : unary (n + 1) d l = .bad l 4 := by rw [unary, if_neg (by rw [e0]; decide), if_neg (by rw [e1]; decide), if_neg (by rw [e2]; decide), if_neg (by rw [e3]; decide)]
     rw [show nameP l = .bad l 4 from by unfold nameP; rw [if_neg (by rw [e3]; decide)]] at CM
     have HM := hid CM
     rw [hr]
     clear CM hr e0 e1 e2 e3 IU IB h hn hpot
     go_enter Tryz.func284, Tryz.ntmps284
     go_wp2_with (first | (go_at_call 125; first | ((with_reducible refine HT0.out.mono ?_); rintro e w' ⟨rfl, rfl⟩) | ((with_reducible refine HT1.out.mono ?_); rintro e w' ⟨rfl, rfl⟩)) | (go_at_call 179; go_must (refine HA.out.mono ?_; rintro e w' ⟨rfl, rfl⟩)) | (go_at_call 123; go_must (refine HM.out.mono ?_; rintro e w' ⟨rfl, -, hS⟩)))
     exact ⟨rfl, rfl, trivial, hS⟩
    ·have hr : unary (n + 1) d l = .ok (.name (hd l).tk.t) l.tail := by rw [unary, if_neg (by rw [e0]; decide), if_neg (by rw [e1]; decide), if_neg (by rw [e2]; decide), if_pos e3]
     rw [show nameP l = .ok (hd l).tk.t l.tail from by unfold nameP; rw [if_pos e3]] at CM
     have HM := hid CM
     rw [hr]
     clear CM hr e0 e1 e2 e3 IU IB h
     go_enter Tryz.func284, Tryz.ntmps284
     go_wp2_with (first | (go_at_call 125; first | ((with_reducible refine HT0.out.mono ?_); rintro e w' ⟨rfl, rfl⟩) | ((with_reducible refine HT1.out.mono ?_); rintro e w' ⟨rfl, rfl⟩)) | (go_at_call 179; go_must (refine HA.out.mono ?_; rintro e w' ⟨rfl, rfl⟩)) | (go_at_call 123; go_must (refine HM.out.mono ?_; rintro e w1 ⟨rfl, hI, hS⟩; have HX := hid (addX_leaf 1 [] 0 (hd l).tk.t w1 hI (by omega)); clear hI)) | (go_at_call 285; go_must (refine HX.out.mono ?_; rintro e w2 ⟨rfl, hI2, hS2⟩; have HI2 := hid hI2; clear hI2)))
     go_ret
     exact ⟨rfl, HI2.out.mono (by omega) htop, hS.trans hS2⟩
   ·have CM := number_any w h
    rw [e2] at CA
    have HA := hid CA
    have hr : unary (n + 1) d l = .ok (.num (hd l).tk.n) l.tail := by rw [unary, if_neg (by rw [e0]; decide), if_neg (by rw [e1]; decide), if_pos e2]
    rw [show numP l = .ok (hd l).tk.n l.tail from by unfold numP; rw [if_pos e2]] at CM
    have HM := hid CM
    rw [hr]
    clear CM CA hr e0 e1 e2 IU IB h
    go_enter Tryz.func284, Tryz.ntmps284
    go_wp2_with (first | (go_at_call 125; first | ((with_reducible refine HT0.out.mono ?_); rintro e w' ⟨rfl, rfl⟩) | ((with_reducible refine HT1.out.mono ?_); rintro e w' ⟨rfl, rfl⟩)) | (go_at_call 179; go_must (refine HA.out.mono ?_; rintro e w' ⟨rfl, rfl⟩)) | (go_at_call 124; go_must (refine HM.out.mono ?_; rintro e w1 ⟨rfl, hI, hS⟩; have HX := hid (addX_leaf 0 [] (hd l).tk.n [] w1 hI (by omega)); clear hI)) | (go_at_call 285; go_must (refine HX.out.mono ?_; rintro e w2 ⟨rfl, hI2, hS2⟩; have HI2 := hid hI2; clear hI2)))
    go_ret
    exact ⟨rfl, HI2.out.mono (by omega) htop, hS.trans hS2⟩
  ·have T1 : Calls Tryz.prog 125 #[.pointer (some ⟨g, 0, none⟩), .string ⟨#[40]⟩] w fun e' w' => e' = .returned (.bool true) ∧ PInv X g (b - 3) w' l.tail d f ∧ St layP g w w' := take_yes sLp w h e1 (by decide)
   have HT1 := hid T1
   have hr := unary_paren (n := n) (d := d) e0 e1
   have hg := (good_bin n 1 (d + 1) l.tail (Nat.le_refl _))
   have CN : ∀ w1, PInv X g (b - 3) w1 l.tail d f → Calls Tryz.prog 281 #[.pointer (some ⟨g, 0, none⟩), .bool (begE l.tail), .func (.func 183) #[.pointer (some ⟨g, 0, none⟩)] #[]] w1 (PostP X g (b - 3) w1 d (nestP (begE l.tail) d l.tail (bin n 1 (d + 1) l.tail)) (fun a => .int .i64 ((putE a f.g).x : Int)) fun a => f.setG (putE a f.g)) := fun w1 h1 =>
    nested_any _ _ _ (fun a => ((putE a f.g).x : Int)) _ w1 h1 enter_expr fun w' _ h' => CE.of IB X g (b - 3) l.tail (d + 1) f w' h' (by omega)
   rw [hr]
   clear hr T1 e0 e1 IU IB h
   rcases hR : nestP (begE l.tail) d l.tail (bin n 1 (d + 1) l.tail) with ⟨a, l2⟩ | ⟨l2, x⟩
   all_goals rw [hR] at CN; have HN := hid CN; clear CN hR hg
   ·rw [PR.bind_ok]
    cases hs : need sRp l2
    all_goals
     have hs' := hid hs
     clear hs
     go_enter Tryz.func284, Tryz.ntmps284
     go_wp2_with (first | (go_at_call 125; first | ((with_reducible refine HT0.out.mono ?_); rintro e w' ⟨rfl, rfl⟩) | ((with_reducible refine HT1.out.mono ?_); rintro e w1 ⟨rfl, hI1, hS1⟩; have HB := hid (begE_any w1 hI1); have HN1 := hid (HN.out w1 hI1); clear hI1)) | (go_at_call 306; go_must (refine HB.out.mono ?_; rintro e w' ⟨rfl, rfl⟩)) | (go_at_call 281; go_must (refine HN1.out.mono ?_; rintro e w2 ⟨rfl, hI2, hS2⟩; have c3 := need_any sRp (by decide) w2 hI2; rw [hs'.out] at c3; have C3 := hid c3; clear c3 hI2)) | (go_at_call 122; go_must (refine C3.out.mono ?_; rintro e w3 ⟨rfl, hI3, hS3⟩)))
    ·go_ret
     exact ⟨rfl, hI3.mono (by omega) htop, (hS1.trans hS2).trans hS3⟩
    ·exact ⟨rfl, rfl, trivial, (hS1.trans hS2).trans hS3⟩
   ·rw [PR.bind_bad]
    go_enter Tryz.func284, Tryz.ntmps284
    go_wp2_with (first | (go_at_call 125; first | ((with_reducible refine HT0.out.mono ?_); rintro e w' ⟨rfl, rfl⟩) | ((with_reducible refine HT1.out.mono ?_); rintro e w1 ⟨rfl, hI1, hS1⟩; have HB := hid (begE_any w1 hI1); have HN1 := hid (HN.out w1 hI1); clear hI1)) | (go_at_call 306; go_must (refine HB.out.mono ?_; rintro e w' ⟨rfl, rfl⟩)) | (go_at_call 281; go_must (refine HN1.out.mono ?_; rintro e w2 ⟨rfl, hI2, hS2⟩)))
    exact ⟨rfl, rfl, trivial, hS1.trans hS2⟩
 ·have T1 : Calls Tryz.prog 125 #[.pointer (some ⟨g, 0, none⟩), .string ⟨#[33]⟩] w fun e' w' => e' = .returned (.bool true) ∧ PInv X g (b - 3) w' l.tail d f ∧ St layP g w w' := take_yes sExcl w h e0 (by decide)
  have HT1 := hid T1
  have hr := unary_excl (n := n) (d := d) e0
  have CN : ∀ w1, PInv X g (b - 3) w1 l.tail d f → Calls Tryz.prog 281 #[.pointer (some ⟨g, 0, none⟩), .bool (begE l.tail), .func (.func 284) #[.pointer (some ⟨g, 0, none⟩)] #[]] w1 (PostP X g (b - 3) w1 d (nestP (begE l.tail) d l.tail (unary n (d + 1) l.tail)) (fun a => .int .i64 ((putE a f.g).x : Int)) fun a => f.setG (putE a f.g)) := fun w1 h1 =>
   nested_any _ _ _ (fun a => ((putE a f.g).x : Int)) _ w1 h1 enter_unary fun w' _ h' => IU X g (b - 3) l.tail (d + 1) f w' h' (by omega)
  rw [hr]
  clear hr T1 e0 IU IB h
  rcases hR : nestP (begE l.tail) d l.tail (unary n (d + 1) l.tail) with ⟨a, l2⟩ | ⟨l2, x⟩
  all_goals rw [hR] at CN; have HN := hid CN; clear CN hR
  ·rw [PR.bind_ok]
   go_enter Tryz.func284, Tryz.ntmps284
   go_wp2_with (first | (go_at_call 125; go_must (refine HT1.out.mono ?_; rintro e w1 ⟨rfl, hI1, hS1⟩; have HB := hid (begE_any w1 hI1); have HN1 := hid (HN.out w1 hI1); clear hI1)) | (go_at_call 306; go_must (refine HB.out.mono ?_; rintro e w' ⟨rfl, rfl⟩)) | (go_at_call 281; go_must (refine HN1.out.mono ?_; rintro e w2 ⟨rfl, hI2, hS2⟩; have HX := hid (addX_lit 2 [] 0 [] [(putE a f.g).x] (by simp) w2 hI2 (by omega)); clear hI2)) | (go_at_call 285; go_must (refine HX.out.mono ?_; rintro e w3 ⟨rfl, hI3, hS3⟩; have HI3 := hid hI3; clear hI3)))
   go_ret
   exact ⟨rfl, HI3.out.mono (by omega) htop, (hS1.trans hS2).trans hS3⟩
  ·rw [PR.bind_bad]
   go_enter Tryz.func284, Tryz.ntmps284
   go_wp2_with (first | (go_at_call 125; go_must (refine HT1.out.mono ?_; rintro e w1 ⟨rfl, hI1, hS1⟩; have HB := hid (begE_any w1 hI1); have HN1 := hid (HN.out w1 hI1); clear hI1)) | (go_at_call 306; go_must (refine HB.out.mono ?_; rintro e w' ⟨rfl, rfl⟩)) | (go_at_call 281; go_must (refine HN1.out.mono ?_; rintro e w2 ⟨rfl, hI2, hS2⟩)))
   exact ⟨rfl, rfl, trivial, hS1.trans hS2⟩
end Go.Proofs.YtomimkgaelkaoaaGreatDoor
namespace Go.Proofs.YtomimkgaelkaoaaGreatDoor
open Go.Lib (hid)
open Go.ChangeShapes Go.WideShapes Go.ChangeAt Go.RowKit
def tokN (g : Nat) (w : World) : Nat := match w.cell? ⟨g, 0, none⟩ with
 | some (.slice _ n _) => n
 | _ => 0
theorem PInv.tokN {X : Nat → Prop} {g b : Nat} {w : World} {l : List Tok} {d : Nat} {f : FM} (h : PInv X g b w l d f) : tokN g w = l.length := by
 obtain ⟨k, o, c, h0, -⟩ := h.look
 unfold Go.Proofs.YtomimkgaelkaoaaGreatDoor.tokN
 rw [h0]
theorem level_le (t : List UInt8) : levelL t ≤ 8 := by
 unfold levelL
 cases h : opsL.find? (fun x => x.1 == t) with
 | none => exact Nat.zero_le _
 | some p =>
  have hm := List.mem_of_find?_eq_some h
  have : ∀ x ∈ opsL, x.2 ≤ 8 := by decide
  exact this p hm
theorem bin_len {n v d : Nat} {l l' : List Tok} {a : EA} (hv : 1 ≤ v) (hw : WF l) (h : bin n v d l = .ok a l') : l'.length < l.length := by
 have := good_bin n v d l hv hw
 rw [h] at this
 have := this.2
 omega
theorem unary_len {n d : Nat} {l l' : List Tok} {a : EA} (hw : WF l) (h : unary n d l = .ok a l') : l'.length < l.length := by
 have := (good_expr n).1 d l hw
 rw [h] at this
 have := this.2
 omega
set_option maxHeartbeats 4000000 in
set_option maxRecDepth 100000 in
theorem bin_step {n : Nat} (IU : CU n) (IB : ∀ m, m < n → CB m) : CB (n + 1) := by
 intro X g b v l d f w h hn hv hv9
 have hw := h.wf
 have htop := h.top
 have c1 := IU X g b l d f w h (by omega)
 rw [bin]
 rcases hU : unary n d l with ⟨a, l1⟩ | ⟨l1, x⟩
 all_goals rw [hU] at c1; have C1 := hid c1; clear c1
 ·have hlen := unary_len hw hU
  rw [PR.bind_ok]
  obtain ⟨R, HR⟩ : ∃ R, Hid (R = loopB n v d a l1) := ⟨_, hid rfl⟩
  rw [← HR.out]
  have rt := run_text
  have IB := hid IB
  clear hU h IU
  go_enter Tryz.func241, Tryz.ntmps241
  go_wp2_with (go_at_call 284; go_must (refine C1.out.mono ?_; rintro e w1 ⟨rfl, hI1, hS1⟩))
  go_loopw [5] (fun s5 wr => ∃ (m : Nat) (a' : EA) (l' : List Tok), s5 = .int .i64 ((putE a' f.g).x : Int) ∧ PInv X g b wr l' d (f.setG (putE a' f.g)) ∧ St layP g w wr ∧ Hid (R = loopB m v d a' l') ∧ 8 * l'.length + 2 ≤ m ∧ m ≤ n) (fun _ wr => tokN g wr)
  case atStart => exact ⟨n, a, l1, rfl, hI1, hS1, HR, by omega, Nat.le_refl _⟩
  case round =>
   obtain ⟨m, a', l', rfl, hI, hS, H, hm, hmn⟩ := hrel
   have hl := hI.wf.pos
   have htok := hid hI.tokN
   obtain ⟨m, rfl⟩ : ∃ m', m = m' + 1 := ⟨m - 1, by omega⟩
   obtain ⟨k, o, c, q0, q5, qf, qkl, qc, qm, c0, c1, c2, c3, c4⟩ := hI.look
   have hL := Level_any (hd l').tk.t
   have hle8 := level_le (hd l').tk.t
   have hpot := hI.pot
   unfold maxLen at qm
   by_cases hle : v ≤ levelL (hd l').tk.t
   ·have hwt := hI.wf.tailT (level_ne hv hle)
    have HRD := hid (read_any wr hI hwt)
    have hR2 : R = (bin m (levelL (hd l').tk.t + 1) d l'.tail).bind fun b2 l2 => loopB m v d (.bin (hd l').tk.t a' b2) l2 := by rw [H.out, loopB, if_pos hle]
    have htl : l'.tail.length = l'.length - 1 := List.length_tail
    have CB1 : ∀ w1, PInv X g (b - 3) w1 l'.tail d (f.setG (putE a' f.g)) → Calls Tryz.prog 241 #[.pointer (some ⟨g, 0, none⟩), .int .i64 ((levelL (hd l').tk.t : Int) + 1)] w1 (PostP X g (b - 3) w1 d (bin m (levelL (hd l').tk.t + 1) d l'.tail) (fun y => .int .i64 ((putE y (putE a' f.g)).x : Int)) fun y => f.setG (putE y (putE a' f.g))) := fun w1 h1 => by
     have := IB.out m (by omega) X g (b - 3) (levelL (hd l').tk.t + 1) l'.tail d _ w1 h1 (by omega) (by omega) (by omega)
     rw [show ((levelL (hd l').tk.t + 1 : Nat) : Int) = (levelL (hd l').tk.t : Int) + 1 from by omega] at this
     exact this
    have hle2 : (v : Int) ≤ (levelL (hd l').tk.t : Int) := by omega
    have hlen2 := fun (y : EA) (l2 : List Tok) (hb : bin m (levelL (hd l').tk.t + 1) d l'.tail = .ok y l2) => bin_len (by omega) hwt hb
    clear H hI
    rcases hB : bin m (levelL (hd l').tk.t + 1) d l'.tail with ⟨y, l2⟩ | ⟨l2, x⟩
    ·have hl2 := hlen2 y l2 hB
     rw [hB] at CB1 hR2
     rw [PR.bind_ok] at hR2
     have HB1 := hid CB1
     have HR2 := hid hR2
     have HL := hid hL
     clear CB1 hR2 hlen2 hB hL hle hwt
     generalize (hd l').tk.t = t at *
     go_wp2_with (first | (go_at_call 93; go_must (refine (HL.out _).mono ?_; rintro e w' ⟨rfl, rfl⟩)) | (go_at_call 178; go_must (refine HRD.out.mono ?_; rintro e w2 ⟨rfl, hI2, hS2⟩; have HB2 := hid (HB1.out w2 hI2); clear hI2)) | (go_at_call 241; go_must (refine HB2.out.mono ?_; rintro e w3 ⟨rfl, hI3, hS3⟩; have HX := hid (addX_lit 3 t 0 [] [(putE a' f.g).x, (putE y (putE a' f.g)).x] (by simp) w3 hI3 (by omega)); clear hI3)) | (go_at_call 285; go_must (refine HX.out.mono ?_; rintro e w4 ⟨rfl, hI4, hS4⟩; have HI4 := hid hI4; clear hI4)))
     have hT4 := HI4.out.tokN
     refine ⟨⟨m, .bin t a' y, l2, rfl, HI4.out.mono (by omega) htop, ((hS.trans hS2).trans hS3).trans hS4, hid HR2.out, by omega, by omega⟩, ?_⟩
     rw [hT4, htok.out]
     omega
    ·rw [hB] at CB1 hR2
     rw [PR.bind_bad] at hR2
     have HB1 := hid CB1
     have HR2 := hid hR2
     have HL := hid hL
     clear CB1 hR2 hlen2 hB hL hle hwt
     generalize (hd l').tk.t = t at *
     go_wp2_with (first | (go_at_call 93; go_must (refine (HL.out _).mono ?_; rintro e w' ⟨rfl, rfl⟩)) | (go_at_call 178; go_must (refine HRD.out.mono ?_; rintro e w2 ⟨rfl, hI2, hS2⟩; have HB2 := hid (HB1.out w2 hI2); clear hI2)) | (go_at_call 241; go_must (refine HB2.out.mono ?_; rintro e w3 ⟨rfl, hI3, hS3⟩)))
     rw [HR2.out]
     exact ⟨rfl, rfl, trivial, (hS.trans hS2).trans hS3⟩
   ·have HF : Hid (R = .ok a' l') := hid (by rw [H.out, loopB, if_neg hle])
    have HI := hid hI
    have HL := hid hL
    have hle2 : ¬ (v : Int) ≤ (levelL (hd l').tk.t : Int) := by omega
    clear H hI hL hle
    go_wp2_with (go_at_call 93; go_must (refine (HL.out _).mono ?_; rintro e w' ⟨rfl, rfl⟩))
    go_ret
    rw [HF.out]
    exact ⟨rfl, HI.out, hS⟩
 ·rw [PR.bind_bad]
  clear hU h IU IB
  go_enter Tryz.func241, Tryz.ntmps241
  go_wp2_with (go_at_call 284; go_must (refine C1.out.mono ?_; rintro e w1 ⟨rfl, hI1, hS1⟩))
  exact ⟨rfl, rfl, trivial, hS1⟩
theorem exprs_all : ∀ n, CU n ∧ CB n := by
 intro n
 induction n using Nat.strongRecOn with
 | ind n ih =>
  cases n with
  | zero => exact ⟨fun X g b l d f w h hn => absurd hn (by omega), fun X g b v l d f w h hn => absurd hn (by omega)⟩
  | succ n => exact ⟨unary_step (ih n (by omega)).1 (ih n (by omega)).2, bin_step (ih n (by omega)).1 fun m hm => (ih m (by omega)).2⟩
theorem expr_any (n : Nat) : CE n := CE.of (exprs_all n).2
end Go.Proofs.YtomimkgaelkaoaaGreatDoor
