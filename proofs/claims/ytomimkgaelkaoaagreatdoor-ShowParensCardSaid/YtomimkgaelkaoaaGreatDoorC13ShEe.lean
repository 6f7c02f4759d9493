/- Layer 8: the comparison of two structs. · Layer 8: slices.EqualFunc, at the rows that a File has. -/
import Derived.Test.YtomimkgaelkaoaaGreatDoorC13ShEc
set_option linter.unusedVariables false
set_option linter.unusedSimpArgs false
namespace Go.Proofs.YtomimkgaelkaoaaGreatDoor
open Go.Lib (hid)
open Go.ChangeShapes Go.WideShapes Go.ChangeAt Go.RowKit
set_option maxHeartbeats 4000000 in
set_option maxRecDepth 100000 in
theorem sameStruct {W0 w : World} (hb : Below W0.heap.size W0 w) (x y : SM) {x1 y1 : Option Addr} {xc1 yc1 : Nat}  {x2 y2 : Option Addr} {xc2 yc2 : Nat} (hx1 : SlR 1 StrC W0 (.slice x1 x.ps.length xc1) x.ps) (hy1 : SlR 1 StrC W0 (.slice y1 y.ps.length yc1) y.ps) (hx2 : SlR 9 IrC W0 (.slice x2 x.is.length xc2) x.is) (hy2 : SlR 9 IrC W0 (.slice y2 y.is.length yc2) y.is) :
  Calls Tryz.prog 39 #[.agg #[.string (bs x.s), .slice x1 x.ps.length xc1, .slice x2 x.is.length xc2], .agg #[.string (bs y.s), .slice y1 y.ps.length yc1, .slice y2 y.is.length yc2]] w fun e w' => e = .returned (.bool (decide (x = y))) ∧ Below w.heap.size w w' := by
 have hx := heap_alloc_new w (.cells #[.string (bs x.s), .slice x1 x.ps.length xc1, .slice x2 x.is.length xc2] 110)
 have hs1 : (w.alloc (.cells #[.string (bs x.s), .slice x1 x.ps.length xc1, .slice x2 x.is.length xc2] 110)).heap.size = w.heap.size + 1 := by simp
 have hy := heap_alloc_new (w.alloc (.cells #[.string (bs x.s), .slice x1 x.ps.length xc1, .slice x2 x.is.length xc2] 110)) (.cells #[.string (bs y.s), .slice y1 y.ps.length yc1, .slice y2 y.is.length yc2] 110)
 rw [hs1] at hy
 have hx2 : ((w.alloc (.cells #[.string (bs x.s), .slice x1 x.ps.length xc1, .slice x2 x.is.length xc2] 110)).alloc (.cells #[.string (bs y.s), .slice y1 y.ps.length yc1, .slice y2 y.is.length yc2] 110)).heap[w.heap.size]? = some (.cells #[.string (bs x.s), .slice x1 x.ps.length xc1, .slice x2 x.is.length xc2] 110 (0, 0)) := by rw [Below.heap_alloc _ _ _ (by omega)]; exact hx
 have hB : Below w.heap.size w ((w.alloc (.cells #[.string (bs x.s), .slice x1 x.ps.length xc1, .slice x2 x.is.length xc2] 110)).alloc (.cells #[.string (bs y.s), .slice y1 y.ps.length yc1, .slice y2 y.is.length yc2] 110)) := (below_box _ _).alloc (by simp) _
 have HB := hid hB
 have HB0 := hid (hb.trans (hB.mono hb.size))
 obtain ⟨⟨a0, a1, a2⟩, -, -⟩ := cells3c hx2
 obtain ⟨⟨b0, b1, b2⟩, -, -⟩ := cells3c hy
 have HX := hid hx2
 have HY := hid hy
 have HZ : Hid (w.heap.size < ((w.alloc (.cells #[.string (bs x.s), .slice x1 x.ps.length xc1, .slice x2 x.is.length xc2] 110)).alloc (.cells #[.string (bs y.s), .slice y1 y.ps.length yc1, .slice y2 y.is.length yc2] 110)).heap.size ∧ w.heap.size + 1 < ((w.alloc (.cells #[.string (bs x.s), .slice x1 x.ps.length xc1, .slice x2 x.is.length xc2] 110)).alloc (.cells #[.string (bs y.s), .slice y1 y.ps.length yc1, .slice y2 y.is.length yc2] 110)).heap.size) := hid (by simp; omega)
 clear hx hs1 hy hx2 hb hB
 have CL1 := hid fun w' (hb' : Below ((w.alloc (.cells #[.string (bs x.s), .slice x1 x.ps.length xc1, .slice x2 x.is.length xc2] 110)).alloc (.cells #[.string (bs y.s), .slice y1 y.ps.length yc1, .slice y2 y.is.length yc2] 110)).heap.size ((w.alloc (.cells #[.string (bs x.s), .slice x1 x.ps.length xc1, .slice x2 x.is.length xc2] 110)).alloc (.cells #[.string (bs y.s), .slice y1 y.ps.length yc1, .slice y2 y.is.length yc2] 110)) w') => sleq_S (HB0.out.trans (hb'.mono HB0.out.size)) hx1 hy1
 clear hx1 hy1
 have CL2 := hid fun w' (hb' : Below ((w.alloc (.cells #[.string (bs x.s), .slice x1 x.ps.length xc1, .slice x2 x.is.length xc2] 110)).alloc (.cells #[.string (bs y.s), .slice y1 y.ps.length yc1, .slice y2 y.is.length yc2] 110)).heap.size ((w.alloc (.cells #[.string (bs x.s), .slice x1 x.ps.length xc1, .slice x2 x.is.length xc2] 110)).alloc (.cells #[.string (bs y.s), .slice y1 y.ps.length yc1, .slice y2 y.is.length yc2] 110)) w') => eqf_Item (HB0.out.trans (hb'.mono HB0.out.size)) hx2 hy2
 clear hx2 hy2
 by_cases h0 : x.s = y.s
 rotate_left
 ·have e0 : ((bs x.s).toList == (bs y.s).toList) = false := str_ne8 h0
  have HD : Hid (decide (x = y) = false) := hid (decide_eq_false fun e => h0 (by rw [e]))
  clear h0
  go_enter Tryz.func39, Tryz.ntmps39
  go_wp2_with fail
  go_ret
  exact ⟨by rw [HD.out]; rfl, HB.out⟩
 have e0 : ((bs x.s).toList == (bs y.s).toList) = true := str_eq8 h0
 by_cases h1 : x.ps = y.ps
 rotate_left
 ·have e1 : decide (x.ps = y.ps) = false := decide_eq_false h1
  have HD : Hid (decide (x = y) = false) := hid (decide_eq_false fun e => h1 (by rw [e]))
  clear h0 h1
  go_enter Tryz.func39, Tryz.ntmps39
  go_wp2_with (go_at_call 80; (with_reducible refine (CL1.out _ (Below.refl _ _)).mono ?_); rintro e w2 ⟨rfl, hb2⟩; have X3 := (hb2.block w.heap.size HZ.out.1).trans HX.out; have Y3 := (hb2.block (w.heap.size + 1) HZ.out.2).trans HY.out; clear a0 b0 a1 b1 a2 b2; obtain ⟨⟨a0, a1, a2⟩, -, -⟩ := cells3c X3; obtain ⟨⟨b0, b1, b2⟩, -, -⟩ := cells3c Y3; clear X3 Y3)
  go_ret
  exact ⟨by rw [HD.out]; rfl, HB.out.trans (hb2.mono HB.out.size)⟩
 have e1 : decide (x.ps = y.ps) = true := decide_eq_true h1
 have HD : Hid (decide (x = y) = decide (x.is = y.is)) := hid (by
  obtain ⟨u0, u1, u2⟩ := x
  obtain ⟨v0, v1, v2⟩ := y
  simp_all)
 clear h0 h1
 go_enter Tryz.func39, Tryz.ntmps39
 go_wp2_with (first | (go_at_call 80; (with_reducible refine (CL1.out _ (Below.refl _ _)).mono ?_); rintro e w2 ⟨rfl, hb2⟩; have X3 := (hb2.block w.heap.size HZ.out.1).trans HX.out; have Y3 := (hb2.block (w.heap.size + 1) HZ.out.2).trans HY.out; clear a0 b0 a1 b1 a2 b2; obtain ⟨⟨a0, a1, a2⟩, -, -⟩ := cells3c X3; obtain ⟨⟨b0, b1, b2⟩, -, -⟩ := cells3c Y3; clear X3 Y3) | (go_at_call 81; (with_reducible refine (CL2.out _ hb2).mono ?_); rintro e w3 ⟨rfl, hb3⟩))
 go_ret
 exact ⟨by rw [HD.out]; rfl, HB.out.trans ((hb2.trans (hb3.mono hb2.size)).mono HB.out.size)⟩
end Go.Proofs.YtomimkgaelkaoaaGreatDoor
namespace Go.Proofs.YtomimkgaelkaoaaGreatDoor
open Go.Lib (hid)
open Go.ChangeShapes Go.WideShapes Go.ChangeAt Go.RowKit
theorem one_Struct (i0 : ByteArray) (i1 : Option Addr) (n1 m1 : Nat) (i2 : Option Addr) (n2 m2 : Nat) : #[Value.string i0, Value.slice i1 n1 m1, Value.slice i2 n2 m2].all (fun v => v.oneCell') = true := row_one8 (l := [Value.string i0, Value.slice i1 n1 m1, Value.slice i2 n2 m2]) fun u hu => by
 simp only [List.mem_cons, List.mem_nil_iff, or_false] at hu
 rcases hu with rfl | rfl | rfl <;> rfl
theorem sz_Struct : (Tryz.prog.info? 110).map (·.size) = some 3 := by kernel_rfl
set_option maxHeartbeats 8000000 in
set_option maxRecDepth 100000 in
theorem eqf_Struct {W0 w : World} (hb : Below W0.heap.size W0 w) {v1 v2 : Value} {l m : List SM} (h1 : SlR 3 SrC W0 v1 l) (h2 : SlR 3 SrC W0 v2 m) :
  Calls Tryz.prog 38 #[v1, v2, .func (.func 39) #[] #[]] w fun e w' => e = .returned (.bool (decide (l = m))) ∧ Below w.heap.size w w' := by
 have hn1 := h1.lenA
 have HB := hid hb
 obtain ⟨a1, c1, rfl, -⟩ := h1.shape
 obtain ⟨a2, c2, rfl, -⟩ := h2.shape
 have H1 := hid h1
 have H2 := hid h2
 have HW := hid (Below.refl w.heap.size w)
 clear hb h1 h2
 by_cases hl : l.length = m.length
 ·have hlI : ((l.length : Int) != (m.length : Int)) = false := by simp [hl]
  have HL := hid hl
  clear hl
  go_enter Tryz.func38, Tryz.ntmps38
  go_wp2_with fail
  clear hlI
  go_loopw [17] (fun s17 wr => ∃ i : Nat, s17 = .int .i64 (i : Int) ∧ i ≤ l.length ∧ l.take i = m.take i ∧ Below w.heap.size w wr) (fun s17 _ => l.length - (match s17 with | .int _ i => i.toNat | _ => 0))
  case atStart => exact ⟨0, rfl, Nat.zero_le _, by simp, HW.out⟩
  case round =>
   obtain ⟨i, rfl, hi, htk, hwr⟩ := hrel
   by_cases hlt : i < l.length
   ·have hltI : (i : Int) < (l.length : Int) := by omega
    have hltM : (i : Int) < (m.length : Int) := by have := HL.out; omega
    have hw1 : IntKind.i64.wrap ((i : Int) + 1) = (i : Int) + 1 := IntWalk.i64_in _ (by omega)
    obtain ⟨x, hx⟩ : ∃ x, l[i]? = some x := ⟨l[i], List.getElem?_eq_getElem hlt⟩
    obtain ⟨y, hy⟩ : ∃ y, m[i]? = some y := ⟨m[i]'(by have := HL.out; omega), List.getElem?_eq_getElem (by have := HL.out; omega)⟩
    obtain ⟨k1, qv1, qv2, rfl, hk1, q0, q1, q2, qs1, qs2⟩ := ss_at H1.out hx
    obtain ⟨k2, rv1, rv2, rfl, hk2, r0, r1, r2, rs1, rs2⟩ := ss_at H2.out hy
    have hb2 := HB.out.trans (hwr.mono HB.out.size)
    obtain ⟨x1, xc1, rfl, -⟩ := qs1.shape
    obtain ⟨y1, yc1, rfl, -⟩ := rs1.shape
    obtain ⟨x2, xc2, rfl, -⟩ := qs2.shape
    obtain ⟨y2, yc2, rfl, -⟩ := rs2.shape
    have q0 := (hb2.cell (p := ⟨k1, i * 3, none⟩) hk1).trans q0
    have r0 := ((below_box wr (.cells #[.string (bs x.s), .slice x1 x.ps.length xc1, .slice x2 x.is.length xc2] 110)).cell (p := ⟨k2, i * 3, none⟩) (Nat.lt_of_lt_of_le hk2 hb2.size)).trans ((hb2.cell (p := ⟨k2, i * 3, none⟩) hk2).trans r0)
    have q1 := (hb2.cell (p := ⟨k1, i * 3 + 1, none⟩) hk1).trans q1
    have r1 := ((below_box wr (.cells #[.string (bs x.s), .slice x1 x.ps.length xc1, .slice x2 x.is.length xc2] 110)).cell (p := ⟨k2, i * 3 + 1, none⟩) (Nat.lt_of_lt_of_le hk2 hb2.size)).trans ((hb2.cell (p := ⟨k2, i * 3 + 1, none⟩) hk2).trans r1)
    have q2 := (hb2.cell (p := ⟨k1, i * 3 + 2, none⟩) hk1).trans q2
    have r2 := ((below_box wr (.cells #[.string (bs x.s), .slice x1 x.ps.length xc1, .slice x2 x.is.length xc2] 110)).cell (p := ⟨k2, i * 3 + 2, none⟩) (Nat.lt_of_lt_of_le hk2 hb2.size)).trans ((hb2.cell (p := ⟨k2, i * 3 + 2, none⟩) hk2).trans r2)
    have HR := hid hwr
    have HT := hid htk
    have HX := hid hx
    have HY := hid hy
    have s1 : (wr.alloc (.cells #[.string (bs x.s), .slice x1 x.ps.length xc1, .slice x2 x.is.length xc2] 110)).heap.size = wr.heap.size + 1 := by simp
    have HA := hid (heap_alloc_new wr (.cells #[.string ⟨#[]⟩, .slice none 0 0, .slice none 0 0] 110))
    have hA2 := heap_alloc_new (wr.alloc (.cells #[.string (bs x.s), .slice x1 x.ps.length xc1, .slice x2 x.is.length xc2] 110)) (.cells #[.string ⟨#[]⟩, .slice none 0 0, .slice none 0 0] 110)
    rw [s1] at hA2
    have HA2 := hid hA2
    have hY2 := heap_alloc_new (wr.alloc (.cells #[.string (bs x.s), .slice x1 x.ps.length xc1, .slice x2 x.is.length xc2] 110)) (.cells #[.string (bs y.s), .slice y1 y.ps.length yc1, .slice y2 y.is.length yc2] 110)
    rw [s1] at hY2
    have HY2 := hid hY2
    have HX2 : Hid (((wr.alloc (.cells #[.string (bs x.s), .slice x1 x.ps.length xc1, .slice x2 x.is.length xc2] 110)).alloc (.cells #[.string (bs y.s), .slice y1 y.ps.length yc1, .slice y2 y.is.length yc2] 110)).heap[wr.heap.size]? = some (.cells #[.string (bs x.s), .slice x1 x.ps.length xc1, .slice x2 x.is.length xc2] 110 (0, 0))) := hid (by rw [Below.heap_alloc _ _ _ (by omega)]; exact heap_alloc_new wr _)
    have hB2 : Below wr.heap.size wr ((wr.alloc (.cells #[.string (bs x.s), .slice x1 x.ps.length xc1, .slice x2 x.is.length xc2] 110)).alloc (.cells #[.string (bs y.s), .slice y1 y.ps.length yc1, .slice y2 y.is.length yc2] 110)) := (below_box _ _).alloc (by simp) _
    have HB2 := hid hB2
    have CS := hid (sameStruct (hb2.trans (hB2.mono hb2.size)) x y qs1 rs1 qs2 rs2)
    clear hb2 hk1 hk2 hwr htk hx hy hA2 hY2 s1 hB2 qs1 rs1 qs2 rs2
    by_cases he : x = y
    ·have hd : decide (x = y) = true := decide_eq_true he
     have HE := hid he
     clear he
     go_wp2_with (first | (go_at_call 39; (with_reducible refine CS.out.mono ?_); rintro e w2 ⟨rfl, hb2⟩) | ((with_reducible refine at_list8 ?_); refine wpList_store_rowTo rfl 110 _ _ rfl rfl wr.heap.size #[.string (bs x.s), .slice x1 x.ps.length xc1, .slice x2 x.is.length xc2] rfl rfl 110 _ HA.out sz_Struct rfl (one_Struct _ _ _ _ _ _ _) ?_; rw [World.setRow_alloc_new]) | ((with_reducible refine at_list8 ?_); refine wpList_store_rowTo rfl 110 _ _ rfl rfl (wr.heap.size + 1) #[.string (bs y.s), .slice y1 y.ps.length yc1, .slice y2 y.is.length yc2] rfl rfl 110 _ HA2.out sz_Struct rfl (one_Struct _ _ _ _ _ _ _) ?_; rw [setRow_new8 _ _ _ _ _ (by simp)]) | ((with_reducible refine at_list8 ?_); refine wpList_load_row rfl 110 _ rfl wr.heap.size rfl 110 #[.string (bs x.s), .slice x1 x.ps.length xc1, .slice x2 x.is.length xc2] (0, 0) _ HX2.out Tryz.underlying110 rfl sz_Struct ?_) | ((with_reducible refine at_list8 ?_); refine wpList_load_row rfl 110 _ rfl (wr.heap.size + 1) rfl 110 #[.string (bs y.s), .slice y1 y.ps.length yc1, .slice y2 y.is.length yc2] (0, 0) _ HY2.out Tryz.underlying110 rfl sz_Struct ?_))
     go_roundw
     case rel => exact ⟨i + 1, by go_num, by omega, take_snoc8 HT.out HX.out HY.out HE.out, HR.out.trans ((HB2.out.trans (hb2.mono HB2.out.size)).mono HR.out.size)⟩
     case measure => simp; omega
    ·have hd : decide (x = y) = false := decide_eq_false he
     have HD := hid (decide_eq_false (ne_at8 HX.out HY.out he) : decide (l = m) = false)
     clear he
     go_wp2_with (first | (go_at_call 39; (with_reducible refine CS.out.mono ?_); rintro e w2 ⟨rfl, hb2⟩) | ((with_reducible refine at_list8 ?_); refine wpList_store_rowTo rfl 110 _ _ rfl rfl wr.heap.size #[.string (bs x.s), .slice x1 x.ps.length xc1, .slice x2 x.is.length xc2] rfl rfl 110 _ HA.out sz_Struct rfl (one_Struct _ _ _ _ _ _ _) ?_; rw [World.setRow_alloc_new]) | ((with_reducible refine at_list8 ?_); refine wpList_store_rowTo rfl 110 _ _ rfl rfl (wr.heap.size + 1) #[.string (bs y.s), .slice y1 y.ps.length yc1, .slice y2 y.is.length yc2] rfl rfl 110 _ HA2.out sz_Struct rfl (one_Struct _ _ _ _ _ _ _) ?_; rw [setRow_new8 _ _ _ _ _ (by simp)]) | ((with_reducible refine at_list8 ?_); refine wpList_load_row rfl 110 _ rfl wr.heap.size rfl 110 #[.string (bs x.s), .slice x1 x.ps.length xc1, .slice x2 x.is.length xc2] (0, 0) _ HX2.out Tryz.underlying110 rfl sz_Struct ?_) | ((with_reducible refine at_list8 ?_); refine wpList_load_row rfl 110 _ rfl (wr.heap.size + 1) rfl 110 #[.string (bs y.s), .slice y1 y.ps.length yc1, .slice y2 y.is.length yc2] (0, 0) _ HY2.out Tryz.underlying110 rfl sz_Struct ?_))
     go_ret
     exact ⟨by rw [HD.out]; rfl, HR.out.trans ((HB2.out.trans (hb2.mono HB2.out.size)).mono HR.out.size)⟩
   ·have hi2 : i = l.length := by omega
    subst hi2
    have he : l = m := eq_take8 _ htk rfl HL.out.symm
    have HR := hid hwr
    clear hwr htk
    have HD := hid (decide_eq_true he)
    clear he
    go_wp2_with fail
    go_ret
    exact ⟨by rw [HD.out]; rfl, HR.out⟩
 ·have hlI : ((l.length : Int) != (m.length : Int)) = true := by simp; omega
  have he : decide (l = m) = false := decide_eq_false (fun e => hl (by rw [e]))
  rw [he]
  clear he hl
  go_enter Tryz.func38, Tryz.ntmps38
  go_wp2_with fail
  go_ret
  exact ⟨rfl, HW.out⟩
end Go.Proofs.YtomimkgaelkaoaaGreatDoor
