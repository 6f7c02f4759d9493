/- Layer 10: the walk of the law ExprParts. -/
import Derived.Test.YtomimkgaelkaoaaGreatDoorC12ExEe
import Derived.Test.YtomimkgaelkaoaaGreatDoorC12ExL
import Derived.Lib.QuietBelow
set_option linter.unusedVariables false
set_option linter.unusedSimpArgs false
namespace Go.Proofs.YtomimkgaelkaoaaGreatDoor
open Go.Lib (hid)
open Go.ChangeShapes Go.WideShapes Go.ChangeAt Go.RowKit
def cutB (s : ByteArray) : ByteArray := s.extract 0 (min s.size 200)
theorem cutB_size (s : ByteArray) : (cutB s).size ≤ 200 := by
 unfold cutB
 rw [ByteArray.size_extract]
 omega
def PairC (b : Nat) (w : World) (x y : ByteArray) : Prop := w.heap[b]? = some (.cells #[.string x, .string y] 88 (0, 0))
theorem PairC.cells {b : Nat} {w : World} {x y : ByteArray} (h : PairC b w x y) : w.cell? ⟨b, 0, none⟩ = some (.string x) ∧ w.cell? ⟨b, 1, none⟩ = some (.string y) ∧ (∀ j, w.frozen? ⟨b, j, none⟩ = false) ∧ b < w.heap.size := by
 unfold PairC at h
 exact ⟨by rw [cell_of_row _ _ _ _ _ (0, 0) h]; rfl, by rw [cell_of_row _ _ _ _ _ (0, 0) h]; rfl, fun j => by simp [World.frozen?, h], (Array.getElem?_eq_some_iff.1 h).1⟩
theorem PairC.below {b : Nat} {w w' : World} {x y : ByteArray} (h : PairC b w x y) (hb : Below w.heap.size w w') : PairC b w' x y := (hb.block b (Array.getElem?_eq_some_iff.1 h).1).trans h
theorem PairC.set0 {b : Nat} {w : World} {x y : ByteArray} (h : PairC b w x y) (z : ByteArray) : PairC b (w.setCell ⟨b, 0, none⟩ (.string z)) z y := cell_set_row h (by simp) _
theorem PairC.set1 {b : Nat} {w : World} {x y : ByteArray} (h : PairC b w x y) (z : ByteArray) : PairC b (w.setCell ⟨b, 1, none⟩ (.string z)) x z := cell_set_row h (by simp) _
def PartsI (b : Nat) (s0 s1 : ByteArray) (W0 : World) (i : Nat) (wr : World) : Prop :=
 i ≤ 2 ∧ PairC b wr (if i = 0 then s0 else cutB s0) (if i ≤ 1 then s1 else cutB s1) ∧ Below W0.heap.size W0 wr ∧ (1 ≤ i → ∃ f, parseL (text1 (cutB s0).data.toList) = .ok f) ∧ (2 ≤ i → ∃ f, parseL (text1 (cutB s1).data.toList) = .ok f)
theorem text2_bytes (s t : ByteArray) (op : List UInt8) : (⟨#[115, 116, 114, 117, 99, 116, 32, 83, 32, 123, 32, 97, 58, 32, 98, 121, 116, 101, 115, 91, 40]⟩ ++ s ++ ⟨#[41, 32]⟩ ++ bs op ++ ⟨#[32, 40]⟩ ++ t ++ ⟨#[41, 93, 59, 32, 125]⟩ : ByteArray).data.toList = text2 s.data.toList op t.data.toList := by
 simp [ByteArray.data_append, text2, headB, bs]
theorem plain_bytes (op : List UInt8) : (⟨#[120, 95, 32]⟩ ++ bs op ++ ⟨#[32, 121, 95]⟩ : ByteArray).data.toList = plainS op := by
 simp [ByteArray.data_append, plainS, nmX, nmY, bs]
def opAt (r : Nat) : List UInt8 := ops13.getD r []
theorem opAt_mem {r : Nat} (h : r < 13) : opAt r ∈ ops13 := by
 unfold opAt
 rw [List.getD_eq_getElem?_getD, List.getElem?_eq_getElem h]
 exact List.getElem_mem _
theorem opAt_size {r : Nat} (h : r < 13) : (bs (opAt r)).size ≤ 2 := by
 have : ∀ g ∈ ops13, (bs g).size ≤ 2 := by decide
 exact this _ (opAt_mem h)
theorem ops_cell {w : World} {b : Nat} {r : Nat} (h : r < 13) (hw : w.heap[b]? = some (.cells #[.string ⟨#[43]⟩, .string ⟨#[45]⟩, .string ⟨#[42]⟩, .string ⟨#[47]⟩, .string ⟨#[37]⟩, .string ⟨#[38]⟩, .string ⟨#[124]⟩, .string ⟨#[60, 60]⟩, .string ⟨#[62, 62]⟩, .string ⟨#[61, 61]⟩, .string ⟨#[60]⟩, .string ⟨#[38, 38]⟩, .string ⟨#[124, 124]⟩] 9 (0, 0))) :
  w.cell? ⟨b, r, none⟩ = some (.string (bs (opAt r))) := by
 rw [cell_of_row _ _ _ _ _ (0, 0) hw]
 match r, h with
 | 0, _ | 1, _ | 2, _ | 3, _ | 4, _ | 5, _ | 6, _ | 7, _ | 8, _ | 9, _ | 10, _ | 11, _ | 12, _ => rfl
theorem Calls.factP {P : Program} {f : FuncId} {args : Array Value} {w : World} {R : Ending → World → Prop} {p : Prop} (h : Calls P f args w R) (hp : ∀ e w', R e w' → p) : p := by
 obtain ⟨e, w', fr, hR, -⟩ := h []
 exact hp e w' hR
theorem try_text (C : ByteArray) (w : World) (hE : Env w) (hK : KEnv (fun b => b < w.heap.size) w) :
  ∃ x : Int, (x = 0 ↔ ∃ f, parseL (text1 C.data.toList) = .ok f) ∧ ∀ w', Below w.heap.size w w' → Calls Tryz.prog 10 #[.string (⟨#[115, 116, 114, 117, 99, 116, 32, 83, 32, 123, 32, 97, 58, 32, 98, 121, 116, 101, 115, 91]⟩ ++ C ++ ⟨#[93, 59, 32, 125]⟩)] w' fun e w2 => (∃ (pv : Value) (a b : Int), e = .returned (.tuple #[pv, .agg #[.int .i64 a, .int .i64 b], .int .i64 x])) ∧ Below w'.heap.size w' w2 := by
 have key := fun w' (hb : Below w.heap.size w w') => Parse_any (⟨#[115, 116, 114, 117, 99, 116, 32, 83, 32, 123, 32, 97, 58, 32, 98, 121, 116, 101, 115, 91]⟩ ++ C ++ ⟨#[93, 59, 32, 125]⟩) w' (hE.below hb) (hK.low hb)
 rw [text1_bytes] at key
 cases hr : parseL (text1 C.data.toList) with
 | ok f =>
  rw [hr] at key
  refine ⟨0, ⟨fun _ => ⟨f, rfl⟩, fun _ => rfl⟩, fun w' hb => (key w' hb).mono ?_⟩
  rintro e w2 ⟨⟨⟨g, rfl, -⟩, -⟩, h⟩
  exact ⟨⟨_, 0, 0, rfl⟩, h⟩
 | bad p x =>
  rw [hr] at key
  by_cases hx : x = 0
  ·exact absurd hx (Calls.factP (key w (Below.refl _ _)) fun e w' h => h.1.2)
  ·refine ⟨(x : Int), ⟨fun h => absurd h (by omega), fun ⟨f, h⟩ => by cases h⟩, fun w' hb => (key w' hb).mono ?_⟩
   rintro e w2 ⟨⟨rfl, -⟩, h⟩
   exact ⟨⟨_, _, _, rfl⟩, h⟩
theorem eval_one {f : FM} {E : EA} {x : Nat} (hev : ∀ e, evalL (f.g.xs.map XM.xe) (x : Int) e = evT E e) (hx : x < f.g.xs.length) (hw : ∀ y ∈ f.g.xs.map XM.xe, W64 y.n) (g : Nat) (sv : Value) (en : EnvL) (w : World) (hF : FileX w g 1 (f.g.xs.map XM.xe)) (hE : EnvAt w.heap.size w sv en) (he : ∀ u ∈ en, W64 u.2) :
  Calls Tryz.prog 25 #[.pointer (some ⟨g, 1, none⟩), .int .i64 x, sv] w fun q w' => q = .returned (.tuple #[.int .u64 (evT E en).1, .int .i64 (evT E en).2]) ∧ Below w.heap.size w w' := by
 have hlen : (f.g.xs.map XM.xe).length < 1000000000000 := by obtain ⟨v, h1, h2, a, c, h3, h4, h5⟩ := hF; exact h4
 rw [List.length_map] at hlen
 have := Eval_any g 1 (f.g.xs.map XM.xe) (x : Int) sv en w hF (by omega) hE hw he
 unfold EvalPost at this
 rw [hev] at this
 exact this
structure OneP (f : FM) (E : EA) (x : Nat) : Prop where
 ts : f.g.ts = [⟨1, 0, false, [], [], (x : Int), -1, []⟩]
 lt : x < f.g.xs.length
 ev : ∀ e, evalL (f.g.xs.map XM.xe) (x : Int) e = evT E e
 kids : ∀ x ∈ f.g.xs, x.kids.length ≤ 2 ∧ ∀ k ∈ x.kids, k < f.g.xs.length
 w : ∀ y ∈ f.g.xs.map XM.xe, W64 y.n
theorem oneP {s : List UInt8} {cs : List (List UInt8 × Nat)} {E : EA} {d : DA} (h : parseL s = .ok (oneF cs E d)) : ∃ x, OneP (oneF cs E d) E x := by
 obtain ⟨x, h1, h2, h3⟩ := oneF_type cs E d
 exact ⟨x, h1, h2, h3, one_kids cs E d, one_w64 h⟩
set_option maxHeartbeats 4000000 in
set_option maxRecDepth 100000 in
theorem ExprParts_walk (s0 s1 : ByteArray) (k : Int) (a2 : Option Addr) (c2 : Nat) (e : EnvL) (w : World) (hk0 : 0 ≤ k) (hk1 : k ≤ 255) (hV : ArgV w a2 c2 e) (hE : Env w) (hK : KEnv (fun b => b < w.heap.size) w) :
  Calls Tryz.prog 8 #[.agg #[.string s0, .string s1], .int .u8 k, .slice a2 e.length c2] w fun q w' => q = .returned (.bool true) ∧ Below w.heap.size w w' := by
 have CV := hid fun w' (hb : Below w.heap.size w w') => envs_any a2 c2 e w' (hV.below hb)
 have HW := hid fun w' (hb : Below w.heap.size w w') => wakes_ex w' (hE.below hb) (hK.low hb)
 have hes : ∀ u ∈ e.take 20, W64 u.2 := fun u hu => by
  obtain ⟨i, hi⟩ := List.getElem?_of_mem (List.mem_of_mem_take hu)
  exact (hV.2.2 i u hi).1
 have hen : (e.take 20).length ≤ 20 := by rw [List.length_take]; omega
 obtain ⟨en, heq⟩ : ∃ en, e.take 20 = en := ⟨_, rfl⟩
 rw [heq] at hes hen CV
 have HES := hid hes
 have HEN := hid hen
 clear hes hen heq
 obtain ⟨r, hr⟩ : ∃ r : Nat, k % 13 = (r : Int) := ⟨(k % 13).toNat, by omega⟩
 have hr13 : r < 13 := by omega
 have HB0 := hid (below_box w (.cells #[.string s0, .string s1] 88))
 have HP0 : Hid (PairC w.heap.size (w.alloc (.cells #[.string s0, .string s1] 88)) s0 s1) := hid (World.alloc_heap_new w _)
 clear hV
 go_enter Tryz.func8, Tryz.ntmps8
 go_upto_region 1 with fail
 generalize w.alloc (.cells #[.string s0, .string s1] 88) = W0 at *
 have hx := heap_alloc_new W0 (.cells #[.string ⟨#[43]⟩, .string ⟨#[45]⟩, .string ⟨#[42]⟩, .string ⟨#[47]⟩, .string ⟨#[37]⟩, .string ⟨#[38]⟩, .string ⟨#[124]⟩, .string ⟨#[60, 60]⟩, .string ⟨#[62, 62]⟩, .string ⟨#[61, 61]⟩, .string ⟨#[60]⟩, .string ⟨#[38, 38]⟩, .string ⟨#[124, 124]⟩] 9)
 have hb1 := below_box W0 (.cells #[.string ⟨#[43]⟩, .string ⟨#[45]⟩, .string ⟨#[42]⟩, .string ⟨#[47]⟩, .string ⟨#[37]⟩, .string ⟨#[38]⟩, .string ⟨#[124]⟩, .string ⟨#[60, 60]⟩, .string ⟨#[62, 62]⟩, .string ⟨#[61, 61]⟩, .string ⟨#[60]⟩, .string ⟨#[38, 38]⟩, .string ⟨#[124, 124]⟩] 9)
 have cO := ops_cell hr13 hx
 have hOs := opAt_size hr13
 have HOM := hid (opAt_mem hr13)
 have HP1 := hid (HP0.out.below hb1)
 have HB1 := hid (HB0.out.trans (hb1.mono HB0.out.size))
 clear hx hb1 HB0 HP0
 go_upto_region 2 with fail
 generalize W0.alloc (.cells #[.string ⟨#[43]⟩, .string ⟨#[45]⟩, .string ⟨#[42]⟩, .string ⟨#[47]⟩, .string ⟨#[37]⟩, .string ⟨#[38]⟩, .string ⟨#[124]⟩, .string ⟨#[60, 60]⟩, .string ⟨#[62, 62]⟩, .string ⟨#[61, 61]⟩, .string ⟨#[60]⟩, .string ⟨#[38, 38]⟩, .string ⟨#[124, 124]⟩] 9) = W1 at *
 clear cO
 go_upto_region 3 with fail
 obtain ⟨op, hop⟩ : ∃ op, opAt r = op := ⟨_, rfl⟩
 rw [hop] at HOM hOs ⊢
 clear hop hr hr13
 obtain ⟨O, hO⟩ : ∃ O, bs op = O := ⟨_, rfl⟩
 rw [hO] at hOs ⊢
 have HO := hid hO
 clear hO
 have CP := hid fun (s : ByteArray) (w' : World) (hb : Below w.heap.size w w') => Parse_any s w' (hE.below hb) (hK.low hb)
 have CT0 := hid (try_text (cutB s0) w hE hK)
 have CT1 := hid (try_text (cutB s1) w hE hK)
 go_loopw [36] (fun s36 wr => ∃ i : Nat, s36 = .int .i64 i ∧ PartsI w.heap.size s0 s1 w i wr) (fun s36 _ => 2 - (intOf s36).toNat)
 case atStart => exact ⟨0, rfl, by omega, HP1.out, HB1.out, fun h => absurd h (by omega), fun h => absurd h (by omega)⟩
 case round =>
  obtain ⟨i, rfl, hi, hP, hB, h0, h1⟩ := hrel
  rcases (by omega : i = 0 ∨ i = 1 ∨ i = 2) with rfl | rfl | rfl
  ·rw [if_pos rfl, if_pos (by omega)] at hP
   obtain ⟨q0, q1, qf, qb⟩ := hP.cells
   have HP := hid hP
   have HB := hid hB
   clear hP hB h0 h1 hi
   obtain ⟨m, hm, hml, HC⟩ : ∃ m : Nat, min (s0.size : Int) 200 = (m : Int) ∧ m ≤ s0.size ∧ Hid (s0.extract 0 m = cutB s0) := ⟨min s0.size 200, by omega, by omega, hid rfl⟩
   go_upto_region 5 with fail
   go_still_tail 11, (by kernel_rfl)
   change wpList _ _ _ _ _ wr.drew
   generalize s0.extract 0 m = C at HC ⊢
   have q0 : wr.drew.cell? ⟨w.heap.size, 0, none⟩ = some (.string s0) := q0
   have qf : wr.drew.frozen? ⟨w.heap.size, 0, none⟩ = false := qf 0
   have HP2 : Hid (PairC w.heap.size wr.drew s0 s1) := hid HP.out
   have HB2 := hid HB.out.drew
   clear HP HB hm hml qb
   generalize wr.drew = W2 at *
   go_upto_region 6 with fail
   have HP3 := hid (HP2.out.set0 C)
   have HB3 := hid (HB2.out.setCell (p := ⟨w.heap.size, 0, none⟩) (Nat.le_refl _) (.string C))
   clear HP2 HB2 q0 q1 qf
   generalize W2.setCell ⟨w.heap.size, 0, none⟩ (.string C) = W3 at *
   obtain ⟨q0, q1, qf, qb⟩ := HP3.out.cells
   obtain ⟨x, hx, CT⟩ := CT0.out
   rw [← HC.out] at hx CT
   have CT := hid (CT W3 HB3.out)
   have hcs : C.size ≤ 200 := by rw [HC.out]; exact cutB_size s0
   have n1 : ¬ 9223372036854775807 < 20 + C.size := by omega
   have n2 : ¬ 9223372036854775807 < 20 + C.size + 4 := by omega
   have HX := hid hx
   clear hx qf hcs
   go_upto_region 7 with (go_at_call 10; refine CT.out.mono ?_; rintro e' w3 ⟨⟨pv, pa, pb, rfl⟩, hb⟩; have HB4 := hid ((HB3.out.trans (hb.mono HB3.out.size)).alloc (Nat.le_trans HB3.out.size hb.size) (.cells #[.int .i64 pa, .int .i64 pb] 25)); have HP4 := hid ((HP3.out.below hb).below (below_box w3 (.cells #[.int .i64 pa, .int .i64 pb] 25))); clear hb)
   clear q0 q1 qb n1 n2 HB3 HP3 CT
   by_cases hx0 : x = 0
   ·have hxb : (x != 0) = false := by simpa using hx0
    go_wp2_with fail
    go_roundw
    case rel => exact ⟨1, by go_num, by omega, by have h := HP4.out; rw [HC.out] at h; exact h, HB4.out, fun _ => by have h := HX.out.1 hx0; rw [HC.out] at h; exact h, fun h => absurd h (by omega)⟩
    case measure => simp [intOf]
   ·have hxb : (x != 0) = true := by simpa using hx0
    go_wp2_with (go_at_call 23; refine (HW.out _ HB4.out).mono ?_; rintro q w11 ⟨rfl, hb11⟩; have HBE := hid (HB4.out.trans (hb11.mono HB4.out.size)); clear hb11)
    go_ret
    exact ⟨rfl, HBE.out⟩
  ·rw [if_neg (by omega), if_pos (by omega)] at hP
   obtain ⟨q0, q1, qf, qb⟩ := hP.cells
   have HP := hid hP
   have HB := hid hB
   have H0 := hid h0
   clear hP hB h0 h1 hi
   obtain ⟨m, hm, hml, HC⟩ : ∃ m : Nat, min (s1.size : Int) 200 = (m : Int) ∧ m ≤ s1.size ∧ Hid (s1.extract 0 m = cutB s1) := ⟨min s1.size 200, by omega, by omega, hid rfl⟩
   go_upto_region 5 with fail
   go_still_tail 11, (by kernel_rfl)
   change wpList _ _ _ _ _ wr.drew
   generalize s1.extract 0 m = C at HC ⊢
   have q1 : wr.drew.cell? ⟨w.heap.size, 1, none⟩ = some (.string s1) := q1
   have qf : wr.drew.frozen? ⟨w.heap.size, 1, none⟩ = false := qf 1
   have HP2 : Hid (PairC w.heap.size wr.drew (cutB s0) s1) := hid HP.out
   have HB2 := hid HB.out.drew
   clear HP HB hm hml qb
   generalize wr.drew = W2 at *
   go_upto_region 6 with fail
   have HP3 := hid (HP2.out.set1 C)
   have HB3 := hid (HB2.out.setCell (p := ⟨w.heap.size, 1, none⟩) (Nat.le_refl _) (.string C))
   clear HP2 HB2 q0 q1 qf
   generalize W2.setCell ⟨w.heap.size, 1, none⟩ (.string C) = W3 at *
   obtain ⟨q0, q1, qf, qb⟩ := HP3.out.cells
   obtain ⟨x, hx, CT⟩ := CT1.out
   rw [← HC.out] at hx CT
   have CT := hid (CT W3 HB3.out)
   have hcs : C.size ≤ 200 := by rw [HC.out]; exact cutB_size s1
   have n1 : ¬ 9223372036854775807 < 20 + C.size := by omega
   have n2 : ¬ 9223372036854775807 < 20 + C.size + 4 := by omega
   have HX := hid hx
   clear hx qf hcs
   go_upto_region 7 with (go_at_call 10; refine CT.out.mono ?_; rintro e' w3 ⟨⟨pv, pa, pb, rfl⟩, hb⟩; have HB4 := hid ((HB3.out.trans (hb.mono HB3.out.size)).alloc (Nat.le_trans HB3.out.size hb.size) (.cells #[.int .i64 pa, .int .i64 pb] 25)); have HP4 := hid ((HP3.out.below hb).below (below_box w3 (.cells #[.int .i64 pa, .int .i64 pb] 25))); clear hb)
   clear q0 q1 qb n1 n2 HB3 HP3 CT
   by_cases hx0 : x = 0
   ·have hxb : (x != 0) = false := by simpa using hx0
    go_wp2_with fail
    go_roundw
    case rel => exact ⟨2, by go_num, by omega, by have h := HP4.out; rw [HC.out] at h; exact h, HB4.out, fun _ => H0.out (by omega), fun _ => by have h := HX.out.1 hx0; rw [HC.out] at h; exact h⟩
    case measure => simp [intOf]
   ·have hxb : (x != 0) = true := by simpa using hx0
    go_wp2_with (go_at_call 23; refine (HW.out _ HB4.out).mono ?_; rintro q w11 ⟨rfl, hb11⟩; have HBE := hid (HB4.out.trans (hb11.mono HB4.out.size)); clear hb11)
    go_ret
    exact ⟨rfl, HBE.out⟩
  ·rw [if_neg (by omega), if_neg (by omega)] at hP
   obtain ⟨f0, p0⟩ := h0 (by omega)
   obtain ⟨f1, p1⟩ := h1 (by omega)
   have z0 := cutB_size s0
   have z1 := cutB_size s1
   clear CT0 CT1 h0 h1 HP1 HB1
   generalize cutB s0 = C0 at hP p0 z0
   generalize cutB s1 = C1 at hP p1 z1
   obtain ⟨q0, q1, -, qb⟩ := hP.cells
   have HP := hid hP
   have HB := hid hB
   have key := CP.out (⟨#[115, 116, 114, 117, 99, 116, 32, 83, 32, 123, 32, 97, 58, 32, 98, 121, 116, 101, 115, 91, 40]⟩ ++ C0 ++ ⟨#[41, 32]⟩ ++ O ++ ⟨#[32, 40]⟩ ++ C1 ++ ⟨#[41, 93, 59, 32, 125]⟩) wr HB.out
   rw [← HO.out, text2_bytes C0 C1 op, HO.out] at key
   have n1 : ¬ 9223372036854775807 < 21 + C0.size := by omega
   have n2 : ¬ 9223372036854775807 < 21 + C0.size + 2 := by omega
   have n3 : ¬ 9223372036854775807 < 21 + C0.size + 2 + O.size := by omega
   have n4 : ¬ 9223372036854775807 < 21 + C0.size + 2 + O.size + 2 := by omega
   have n5 : ¬ 9223372036854775807 < 21 + C0.size + 2 + O.size + 2 + C1.size := by omega
   have n6 : ¬ 9223372036854775807 < 21 + C0.size + 2 + O.size + 2 + C1.size + 5 := by omega
   clear hP hB hi
   cases hw : parseL (text2 C0.data.toList op C1.data.toList) with
   | bad p x =>
    rw [hw] at key
    have key := hid key
    clear hw p0 p1 z0 z1 hOs
    go_upto_region 11 with (go_at_call 10; refine key.out.mono ?_; rintro e' w3 ⟨⟨rfl, hx⟩, hb⟩; have HB4 := hid ((HB.out.trans (hb.mono HB.out.size)).alloc (Nat.le_trans HB.out.size hb.size) (.cells #[.int .i64 (p.1 : Nat), .int .i64 (p.2 : Nat)] 25)); have hxb : ((x : Int) != 0) = true := (by simp; omega); clear hb hx)
    clear n1 n2 n3 n4 n5 n6 q0 q1 qb
    go_wp2_with (go_at_call 23; refine (HW.out _ HB4.out).mono ?_; rintro q w11 ⟨rfl, hb11⟩; have HBE := hid (HB4.out.trans (hb11.mono HB4.out.size)); clear hb11)
    go_ret
    exact ⟨rfl, HBE.out⟩
   | ok fw =>
    rw [hw] at key
    have key := hid key
    obtain ⟨E0, E1, k0, k1, kw, d0, d1, dw, rfl, rfl, rfl⟩ := parts_math HOM.out p0 p1 hw
    obtain ⟨x0, O0⟩ := oneP p0
    obtain ⟨x1, O1⟩ := oneP p1
    obtain ⟨xw, Ow⟩ := oneP hw
    have P0 := hid p0
    have P1 := hid p1
    have O0 := hid O0
    have O1 := hid O1
    have Ow := hid Ow
    clear hw p0 p1
    generalize oneF k0 E0 d0 = f0 at *
    generalize oneF k1 E1 d1 = f1 at *
    generalize oneF kw (.bin op E0 E1) dw = fw at *
    go_upto_region 11 with (go_at_call 10; refine key.out.mono ?_; rintro e' w3 ⟨⟨⟨gw, rfl, hF⟩, hl, -, -⟩, hb⟩; have HB4 := hid ((HB.out.trans (hb.mono HB.out.size)).alloc (Nat.le_trans HB.out.size hb.size) (.cells #[.int .i64 0, .int .i64 0] 25)); have HP4 := hid ((HP.out.below hb).below (below_box w3 (.cells #[.int .i64 0, .int .i64 0] 25))); have HFw := hid (hF.below (below_box w3 (.cells #[.int .i64 0, .int .i64 0] 25))); have HLw := hid hl; clear hb hF hl)
    clear n1 n2 n3 n4 n5 n6 q0 q1 qb HP HB key
    generalize w3.alloc (.cells #[.int .i64 0, .int .i64 0] 25) = W4 at *
    obtain ⟨ac, cc, bs', cs, ax, cx, at', ct, e1, e2, e3, e4, g1, g2, g3, g4, hg⟩ := HFw.out.look
    rw [show fw.g.ts.length = 1 from by rw [Ow.out.ts]; rfl] at e4
    clear e1 e2 e3 g1 g2 g3 g4
    go_upto_region 13 with fail
    clear e4 hg
    have CO0 := hid fun w' (hb : Below w.heap.size w w') => of_one C0 (by omega) P0.out O0.out.ts O0.out.kids w' (hE.below hb) (hK.low hb)
    have CO1 := hid fun w' (hb : Below w.heap.size w w') => of_one C1 (by omega) P1.out O1.out.ts O1.out.kids w' (hE.below hb) (hK.low hb)
    obtain ⟨⟨n0, e0⟩, hv0⟩ : ∃ v, evT E0 en = v := ⟨_, rfl⟩
    obtain ⟨⟨n1, e1⟩, hv1⟩ : ∃ v, evT E1 en = v := ⟨_, rfl⟩
    have hvw := evT_bin op E0 E1 en
    rw [hv0, hv1] at hvw
    obtain ⟨⟨nw, ew⟩, hww⟩ : ∃ v, evT (.bin op E0 E1) en = v := ⟨_, rfl⟩
    rw [hww] at hvw
    have HV0 := hid hv0
    have HV1 := hid hv1
    have HVW := hid hww
    have HREL := hid hvw
    clear hv0 hv1 hww hvw z0 z1 CP P0 P1
    go_upto_region 14 with (go_at_call 24; refine (CV.out _ HB4.out).mono ?_; rintro q w5 ⟨v1, v2, rfl, hO, -, hb⟩; obtain ⟨va, vc, rfl⟩ := hO.shape; have HE5 := hid (hO.at (by have := HEN.out; omega)); have HB5 := hid (HB4.out.trans (hb.mono HB4.out.size)); have HP5 := hid (HP4.out.below hb); have HFw5 := hid (HFw.out.below hb); clear hb hO)
    clear HB4 HP4 HFw CV
    obtain ⟨q0, -, -, -⟩ := HP5.out.cells
    go_upto_region 15 with (go_at_call_of 31 C0; refine (CO0.out _ HB5.out).mono ?_; rintro q w6 ⟨⟨g0, rfl, hF⟩, hb⟩; have HE6 := hid ((HE5.out.below hb).mono hb.size); have HB6 := hid (HB5.out.trans (hb.mono HB5.out.size)); have HP6 := hid (HP5.out.below hb); have HFw6 := hid (HFw5.out.below hb); have HF06 := hid hF; clear hb hF)
    clear HB5 HP5 HFw5 CO0 q0 HE5
    obtain ⟨-, q1, -, -⟩ := HP6.out.cells
    go_upto_region 16 with (go_at_call_of 31 C1; refine (CO1.out _ HB6.out).mono ?_; rintro q w7 ⟨⟨g1, rfl, hF⟩, hb⟩; have HE7 := hid ((HE6.out.below hb).mono hb.size); have HB7 := hid (HB6.out.trans (hb.mono HB6.out.size)); have HFw7 := hid (HFw6.out.below hb); have HF07 := hid (HF06.out.below hb); have HF17 := hid hF; clear hb hF)
    clear HB6 HP6 HFw6 CO1 q1 HE6 HF06
    have CE0 := hid (eval_one O0.out.ev O0.out.lt O0.out.w g0 _ en w7 HF07.out HE7.out HES.out)
    rw [HV0.out] at CE0
    go_upto_region 17 with (go_at_call 25; refine CE0.out.mono ?_; rintro q w8 ⟨rfl, hb⟩; have HE8 := hid ((HE7.out.below hb).mono hb.size); have HB8 := hid (HB7.out.trans (hb.mono HB7.out.size)); have HFw8 := hid (HFw7.out.below hb); have HF18 := hid (HF17.out.below hb); clear hb)
    clear HB7 HFw7 HE7 HF07 HF17 CE0
    have CE1 := hid (eval_one O1.out.ev O1.out.lt O1.out.w g1 _ en w8 HF18.out HE8.out HES.out)
    rw [HV1.out] at CE1
    go_upto_region 18 with (go_at_call 25; refine CE1.out.mono ?_; rintro q w9 ⟨rfl, hb⟩; have HE9 := hid ((HE8.out.below hb).mono hb.size); have HB9 := hid (HB8.out.trans (hb.mono HB8.out.size)); have HFw9 := hid (HFw8.out.below hb); clear hb)
    clear HB8 HFw8 HE8 HF18 CE1
    obtain ⟨ac, cc, bs', cs, ax, cx, at', ct, e1', e2', e3', e4, g1', g2', g3', g4', hg⟩ := HFw9.out.look
    rw [show fw.g.ts.length = 1 from by rw [Ow.out.ts]; rfl] at e4
    obtain ⟨kt, av, cv, rfl, tk, t0, t1, t2, t3, t4, t5, t6⟩ := ts_at g4' (i := 0) (x := ⟨1, 0, false, [], [], (xw : Int), -1, []⟩) (by rw [Ow.out.ts]; rfl)
    replace t5 : w9.cell? ⟨kt, 5, none⟩ = some (.int .i64 xw) := t5
    clear e1' e2' e3' g1' g2' g3' g4' t0 t1 t2 t3 t4 t6
    have HX9 := one_fx (s := []) (x := 0) HLw.out Ow.out.kids HFw9.out
    have cE : ∀ d os, Calls Tryz.prog 25 #[.pointer (some ⟨gw, 1, none⟩), .int .i64 xw, .slice va en.length vc] (Go.Sort.grow (redrawn w9 d) os) fun e w'' => e = .returned (.tuple #[.int .u64 nw, .int .i64 ew]) ∧ ∃ p : Regrown, w'' = Go.Sort.grow (redrawn w9 p.d) p.os := fun d os => by
     have h := eval_one Ow.out.ev Ow.out.lt Ow.out.w gw (.slice va en.length vc) en _ (HX9.below (below_regrown w9 d os)) ((HE9.out.below (below_regrown w9 d os)).mono (below_regrown w9 d os).size) HES.out
     rw [HVW.out] at h
     exact Calls.regrown_of h
    have m4 := cell_regrown e4
    have m5 := cell_regrown t5
    have hz0 : IntKind.i64.wrap 0 = 0 := IntWalk.i64_in _ (by omega)
    clear HX9 e4 t5
    refine wp_region_quiet_below (by kernel_rfl) (by kernel_rfl) ?_
    repeat (with_reducible refine wpQuiet_step (fun K hK => ?_); go_simp; first | (with_reducible refine hK _ ?_; clear hK K) | (apply Exists.intro; refine ⟨fun _ => ?_, hK _ ?_⟩; (exact cE _ _); clear hK K))
    refine wpQuiet_nil ?_
    intro _ hw'
    obtain ⟨⟨dq, osq⟩, hw''⟩ := hw'
    subst hw''
    have HB10 := hid (HB9.out.trans ((below_regrown w9 dq osq).mono HB9.out.size))
    clear cE m4 m5 hz0 HB9 HFw9 HE9 HLw hg tk
    generalize Go.Sort.grow (redrawn w9 dq) osq = w10 at *
    have hrel := HREL.out
    by_cases he0 : e0 = 0
    ·subst he0
     rw [if_neg (by simp)] at hrel
     by_cases he1 : e1 = 0
     ·subst he1
      rw [if_neg (by simp)] at hrel
      have HR := hid hrel
      clear hrel HREL
      obtain ⟨kp, dp, pp⟩ := plain_ok HOM.out
      obtain ⟨xp, Op⟩ := oneP pp
      have hpb := plain_bytes op
      rw [HO.out] at hpb
      rw [← hpb] at pp
      have hps : (⟨#[120, 95, 32]⟩ ++ O ++ ⟨#[32, 121, 95]⟩ : ByteArray).size ≤ 1000 := by
       rw [ByteArray.size_append, ByteArray.size_append]
       have e1 : (⟨#[120, 95, 32]⟩ : ByteArray).size = 3 := rfl
       have e2 : (⟨#[32, 121, 95]⟩ : ByteArray).size = 3 := rfl
       omega
      have CQ := hid (of_one _ hps pp Op.ts Op.kids w10 (hE.below HB10.out) (hK.low HB10.out))
      have Op := hid Op
      have n1' : ¬ 9223372036854775807 < 3 + O.size := by omega
      have n2' : ¬ 9223372036854775807 < 3 + O.size + 3 := by omega
      clear hpb pp hps hOs
      generalize oneF kp (.bin op (.name nmX) (.name nmY)) dp = fp at *
      go_upto_region 22 with (go_at_call 31; refine CQ.out.mono ?_; rintro q w11 ⟨⟨gp, rfl, hF⟩, hb⟩; have HB11 := hid (HB10.out.trans (hb.mono HB10.out.size)); have HF11 := hid hF; clear hb hF)
      have hw0 : W64 n0 := by have h := vat_w (allX_w HES.out O0.out.w) (x0 : Int); rw [show vat (allX (f0.g.xs.map XM.xe) en) (x0 : Int) = evT E0 en from O0.out.ev en, HV0.out] at h; exact h
      have hw1 : W64 n1 := by have h := vat_w (allX_w HES.out O1.out.w) (x1 : Int); rw [show vat (allX (f1.g.xs.map XM.xe) en) (x1 : Int) = evT E1 en from O1.out.ev en, HV1.out] at h; exact h
      have b1 := (Below.refl w11.heap.size w11).alloc (Nat.le_refl _) (.cells #[.string ⟨#[120, 95]⟩, .int .u64 n0, .string ⟨#[121, 95]⟩, .int .u64 n1] 85)
      have a1 := World.alloc_heap_new w11 (.cells #[.string ⟨#[120, 95]⟩, .int .u64 n0, .string ⟨#[121, 95]⟩, .int .u64 n1] 85)
      have s1 : (w11.alloc (.cells #[.string ⟨#[120, 95]⟩, .int .u64 n0, .string ⟨#[121, 95]⟩, .int .u64 n1] 85)).heap.size = w11.heap.size + 1 := by simp
      have CE := eval_one Op.out.ev Op.out.lt Op.out.w gp (.slice (some ⟨w11.heap.size, 0, none⟩) 2 2) [(nmX, n0), (nmY, n1)] _ (HF11.out.below b1)
       ⟨_, _, rfl, by simp, fun i x hx => by
        match i, hx with
        | 0, hx => simp at hx; subst hx; exact ⟨w11.heap.size, rfl, by omega, by rw [cell_of_row _ _ _ _ _ (0, 0) a1]; rfl, by rw [cell_of_row _ _ _ _ _ (0, 0) a1]; rfl⟩
        | 1, hx => simp at hx; subst hx; exact ⟨w11.heap.size, rfl, by omega, by rw [cell_of_row _ _ _ _ _ (0, 0) a1]; rfl, by rw [cell_of_row _ _ _ _ _ (0, 0) a1]; rfl⟩
        | i + 2, hx => simp at hx⟩ (by intro u hu; simp at hu; rcases hu with rfl | rfl <;> assumption)
      rw [plain_ev, ← HR.out] at CE
      have CE := hid CE
      have HB12 := hid (HB11.out.trans (b1.mono HB11.out.size))
      clear b1 a1 s1 hw0 hw1 n1' n2' HV0 HV1 HVW HR
      go_upto_region 23 with (go_at_call 25; refine CE.out.mono ?_; rintro q w12 ⟨rfl, hb⟩; have HB13 := hid (HB12.out.trans (hb.mono HB12.out.size)); clear hb)
      go_wp2_with (go_at_call 23; refine (HW.out _ HB13.out).mono ?_; rintro q w14 ⟨rfl, hb11⟩; have HBE := hid (HB13.out.trans (hb11.mono HB13.out.size)); clear hb11)
      go_ret
      exact ⟨by simp, HBE.out⟩
     ·rw [if_pos (by simpa using he1)] at hrel
      obtain ⟨rfl, rfl⟩ := Prod.mk.inj hrel
      have hb1 : (ew != 0) = true := by simpa using he1
      clear hrel HREL he1
      go_wp2_with (go_at_call 23; refine (HW.out _ HB10.out).mono ?_; rintro q w11 ⟨rfl, hb11⟩; have HBE := hid (HB10.out.trans (hb11.mono HB10.out.size)); clear hb11)
      go_ret
      exact ⟨by simp, HBE.out⟩
    ·rw [if_pos (by simpa using he0)] at hrel
     obtain ⟨rfl, rfl⟩ := Prod.mk.inj hrel
     have hb1 : (ew != 0) = true := by simpa using he0
     clear hrel HREL he0
     go_wp2_with (go_at_call 23; refine (HW.out _ HB10.out).mono ?_; rintro q w11 ⟨rfl, hb11⟩; have HBE := hid (HB10.out.trans (hb11.mono HB10.out.size)); clear hb11)
     go_ret
     exact ⟨by simp, HBE.out⟩
end Go.Proofs.YtomimkgaelkaoaaGreatDoor
