/- Layer 8: slices.EqualFunc, at the rows that a File has. -/
import Derived.Test.YtomimkgaelkaoaaGreatDoorC13ShEb
set_option linter.unusedVariables false
set_option linter.unusedSimpArgs false
namespace Go.Proofs.YtomimkgaelkaoaaGreatDoor
open Go.Lib (hid)
open Go.ChangeShapes Go.WideShapes Go.ChangeAt Go.RowKit
theorem setRow_new8 (w : World) (c c' : Array Value) (t : TypeId) (k : Nat) (hk : w.heap.size = k) : (w.alloc (.cells c t)).setRow k c' = w.alloc (.cells c' t) := by
 subst hk
 exact World.setRow_alloc_new w c c' t
theorem one_Expr (i0 : Int) (i1 : ByteArray) (i2 : Int) (i3 : ByteArray) (i4 : Option Addr) (n4 m4 : Nat) : #[Value.int .i64 i0, Value.string i1, Value.int .u64 i2, Value.string i3, Value.slice i4 n4 m4].all (fun v => v.oneCell') = true := row_one8 (l := [Value.int .i64 i0, Value.string i1, Value.int .u64 i2, Value.string i3, Value.slice i4 n4 m4]) fun u hu => by
 simp only [List.mem_cons, List.mem_nil_iff, or_false] at hu
 rcases hu with rfl | rfl | rfl | rfl | rfl <;> rfl
theorem sz_Expr : (Tryz.prog.info? 40).map (·.size) = some 5 := by kernel_rfl
set_option maxHeartbeats 8000000 in
set_option maxRecDepth 100000 in
theorem eqf_Expr {W0 w : World} (hb : Below W0.heap.size W0 w) {v1 v2 : Value} {l m : List XG} (h1 : SlR 5 XgC W0 v1 l) (h2 : SlR 5 XgC W0 v2 m) :
  Calls Tryz.prog 40 #[v1, v2, .func (.func 41) #[] #[]] w fun e w' => e = .returned (.bool (decide (l = m))) ∧ Below w.heap.size w w' := by
 have hn1 := h1.lenA
 have HB := hid hb
 obtain ⟨a1, c1, rfl, -⟩ := h1.shape
 obtain ⟨a2, c2, rfl, -⟩ := h2.shape
 have H1 := hid h1
 have H2 := hid h2
 have HW := hid (Below.refl w.heap.size w)
 clear hb h1 h2
 by_cases hl : l.length = m.length
 ·have hlI : ((l.length : Int) != (m.length : Int)) = false := by simp [hl]
  have HL := hid hl
  clear hl
  go_enter Tryz.func40, Tryz.ntmps40
  go_wp2_with fail
  clear hlI
  go_loopw [17] (fun s17 wr => ∃ i : Nat, s17 = .int .i64 (i : Int) ∧ i ≤ l.length ∧ l.take i = m.take i ∧ Below w.heap.size w wr) (fun s17 _ => l.length - (match s17 with | .int _ i => i.toNat | _ => 0))
  case atStart => exact ⟨0, rfl, Nat.zero_le _, by simp, HW.out⟩
  case round =>
   obtain ⟨i, rfl, hi, htk, hwr⟩ := hrel
   by_cases hlt : i < l.length
   ·have hltI : (i : Int) < (l.length : Int) := by omega
    have hltM : (i : Int) < (m.length : Int) := by have := HL.out; omega
    have hw1 : IntKind.i64.wrap ((i : Int) + 1) = (i : Int) + 1 := IntWalk.i64_in _ (by omega)
    obtain ⟨x, hx⟩ : ∃ x, l[i]? = some x := ⟨l[i], List.getElem?_eq_getElem hlt⟩
    obtain ⟨y, hy⟩ : ∃ y, m[i]? = some y := ⟨m[i]'(by have := HL.out; omega), List.getElem?_eq_getElem (by have := HL.out; omega)⟩
    obtain ⟨k1, qv4, rfl, hk1, q0, q1, q2, q3, q4, qs4⟩ := xg_at H1.out hx
    obtain ⟨k2, rv4, rfl, hk2, r0, r1, r2, r3, r4, rs4⟩ := xg_at H2.out hy
    have hb2 := HB.out.trans (hwr.mono HB.out.size)
    obtain ⟨x4, xc4, rfl, -⟩ := qs4.shape
    obtain ⟨y4, yc4, rfl, -⟩ := rs4.shape
    have q0 := (hb2.cell (p := ⟨k1, i * 5, none⟩) hk1).trans q0
    have r0 := ((below_box wr (.cells #[.int .i64 x.k, .string (bs x.op), .int .u64 (x.n : Int), .string (bs x.s), .slice x4 x.kids.length xc4] 40)).cell (p := ⟨k2, i * 5, none⟩) (Nat.lt_of_lt_of_le hk2 hb2.size)).trans ((hb2.cell (p := ⟨k2, i * 5, none⟩) hk2).trans r0)
    have q1 := (hb2.cell (p := ⟨k1, i * 5 + 1, none⟩) hk1).trans q1
    have r1 := ((below_box wr (.cells #[.int .i64 x.k, .string (bs x.op), .int .u64 (x.n : Int), .string (bs x.s), .slice x4 x.kids.length xc4] 40)).cell (p := ⟨k2, i * 5 + 1, none⟩) (Nat.lt_of_lt_of_le hk2 hb2.size)).trans ((hb2.cell (p := ⟨k2, i * 5 + 1, none⟩) hk2).trans r1)
    have q2 := (hb2.cell (p := ⟨k1, i * 5 + 2, none⟩) hk1).trans q2
    have r2 := ((below_box wr (.cells #[.int .i64 x.k, .string (bs x.op), .int .u64 (x.n : Int), .string (bs x.s), .slice x4 x.kids.length xc4] 40)).cell (p := ⟨k2, i * 5 + 2, none⟩) (Nat.lt_of_lt_of_le hk2 hb2.size)).trans ((hb2.cell (p := ⟨k2, i * 5 + 2, none⟩) hk2).trans r2)
    have q3 := (hb2.cell (p := ⟨k1, i * 5 + 3, none⟩) hk1).trans q3
    have r3 := ((below_box wr (.cells #[.int .i64 x.k, .string (bs x.op), .int .u64 (x.n : Int), .string (bs x.s), .slice x4 x.kids.length xc4] 40)).cell (p := ⟨k2, i * 5 + 3, none⟩) (Nat.lt_of_lt_of_le hk2 hb2.size)).trans ((hb2.cell (p := ⟨k2, i * 5 + 3, none⟩) hk2).trans r3)
    have q4 := (hb2.cell (p := ⟨k1, i * 5 + 4, none⟩) hk1).trans q4
    have r4 := ((below_box wr (.cells #[.int .i64 x.k, .string (bs x.op), .int .u64 (x.n : Int), .string (bs x.s), .slice x4 x.kids.length xc4] 40)).cell (p := ⟨k2, i * 5 + 4, none⟩) (Nat.lt_of_lt_of_le hk2 hb2.size)).trans ((hb2.cell (p := ⟨k2, i * 5 + 4, none⟩) hk2).trans r4)
    have HR := hid hwr
    have HT := hid htk
    have HX := hid hx
    have HY := hid hy
    have s1 : (wr.alloc (.cells #[.int .i64 x.k, .string (bs x.op), .int .u64 (x.n : Int), .string (bs x.s), .slice x4 x.kids.length xc4] 40)).heap.size = wr.heap.size + 1 := by simp
    have HA := hid (heap_alloc_new wr (.cells #[.int .i64 0, .string ⟨#[]⟩, .int .u64 0, .string ⟨#[]⟩, .slice none 0 0] 40))
    have hA2 := heap_alloc_new (wr.alloc (.cells #[.int .i64 x.k, .string (bs x.op), .int .u64 (x.n : Int), .string (bs x.s), .slice x4 x.kids.length xc4] 40)) (.cells #[.int .i64 0, .string ⟨#[]⟩, .int .u64 0, .string ⟨#[]⟩, .slice none 0 0] 40)
    rw [s1] at hA2
    have HA2 := hid hA2
    have hY2 := heap_alloc_new (wr.alloc (.cells #[.int .i64 x.k, .string (bs x.op), .int .u64 (x.n : Int), .string (bs x.s), .slice x4 x.kids.length xc4] 40)) (.cells #[.int .i64 y.k, .string (bs y.op), .int .u64 (y.n : Int), .string (bs y.s), .slice y4 y.kids.length yc4] 40)
    rw [s1] at hY2
    have HY2 := hid hY2
    have HX2 : Hid (((wr.alloc (.cells #[.int .i64 x.k, .string (bs x.op), .int .u64 (x.n : Int), .string (bs x.s), .slice x4 x.kids.length xc4] 40)).alloc (.cells #[.int .i64 y.k, .string (bs y.op), .int .u64 (y.n : Int), .string (bs y.s), .slice y4 y.kids.length yc4] 40)).heap[wr.heap.size]? = some (.cells #[.int .i64 x.k, .string (bs x.op), .int .u64 (x.n : Int), .string (bs x.s), .slice x4 x.kids.length xc4] 40 (0, 0))) := hid (by rw [Below.heap_alloc _ _ _ (by omega)]; exact heap_alloc_new wr _)
    have hB2 : Below wr.heap.size wr ((wr.alloc (.cells #[.int .i64 x.k, .string (bs x.op), .int .u64 (x.n : Int), .string (bs x.s), .slice x4 x.kids.length xc4] 40)).alloc (.cells #[.int .i64 y.k, .string (bs y.op), .int .u64 (y.n : Int), .string (bs y.s), .slice y4 y.kids.length yc4] 40)) := (below_box _ _).alloc (by simp) _
    have HB2 := hid hB2
    have CS := hid (sameExpr (hb2.trans (hB2.mono hb2.size)) x y qs4 rs4)
    clear hb2 hk1 hk2 hwr htk hx hy hA2 hY2 s1 hB2 qs4 rs4
    by_cases he : x = y
    ·have hd : decide (x = y) = true := decide_eq_true he
     have HE := hid he
     clear he
     go_wp2_with (first | (go_at_call 41; (with_reducible refine CS.out.mono ?_); rintro e w2 ⟨rfl, hb2⟩) | ((with_reducible refine at_list8 ?_); refine wpList_store_rowTo rfl 40 _ _ rfl rfl wr.heap.size #[.int .i64 x.k, .string (bs x.op), .int .u64 (x.n : Int), .string (bs x.s), .slice x4 x.kids.length xc4] rfl rfl 40 _ HA.out sz_Expr rfl (one_Expr _ _ _ _ _ _ _) ?_; rw [World.setRow_alloc_new]) | ((with_reducible refine at_list8 ?_); refine wpList_store_rowTo rfl 40 _ _ rfl rfl (wr.heap.size + 1) #[.int .i64 y.k, .string (bs y.op), .int .u64 (y.n : Int), .string (bs y.s), .slice y4 y.kids.length yc4] rfl rfl 40 _ HA2.out sz_Expr rfl (one_Expr _ _ _ _ _ _ _) ?_; rw [setRow_new8 _ _ _ _ _ (by simp)]) | ((with_reducible refine at_list8 ?_); refine wpList_load_row rfl 40 _ rfl wr.heap.size rfl 40 #[.int .i64 x.k, .string (bs x.op), .int .u64 (x.n : Int), .string (bs x.s), .slice x4 x.kids.length xc4] (0, 0) _ HX2.out Tryz.underlying40 rfl sz_Expr ?_) | ((with_reducible refine at_list8 ?_); refine wpList_load_row rfl 40 _ rfl (wr.heap.size + 1) rfl 40 #[.int .i64 y.k, .string (bs y.op), .int .u64 (y.n : Int), .string (bs y.s), .slice y4 y.kids.length yc4] (0, 0) _ HY2.out Tryz.underlying40 rfl sz_Expr ?_))
     go_roundw
     case rel => exact ⟨i + 1, by go_num, by omega, take_snoc8 HT.out HX.out HY.out HE.out, HR.out.trans ((HB2.out.trans (hb2.mono HB2.out.size)).mono HR.out.size)⟩
     case measure => simp; omega
    ·have hd : decide (x = y) = false := decide_eq_false he
     have HD := hid (decide_eq_false (ne_at8 HX.out HY.out he) : decide (l = m) = false)
     clear he
     go_wp2_with (first | (go_at_call 41; (with_reducible refine CS.out.mono ?_); rintro e w2 ⟨rfl, hb2⟩) | ((with_reducible refine at_list8 ?_); refine wpList_store_rowTo rfl 40 _ _ rfl rfl wr.heap.size #[.int .i64 x.k, .string (bs x.op), .int .u64 (x.n : Int), .string (bs x.s), .slice x4 x.kids.length xc4] rfl rfl 40 _ HA.out sz_Expr rfl (one_Expr _ _ _ _ _ _ _) ?_; rw [World.setRow_alloc_new]) | ((with_reducible refine at_list8 ?_); refine wpList_store_rowTo rfl 40 _ _ rfl rfl (wr.heap.size + 1) #[.int .i64 y.k, .string (bs y.op), .int .u64 (y.n : Int), .string (bs y.s), .slice y4 y.kids.length yc4] rfl rfl 40 _ HA2.out sz_Expr rfl (one_Expr _ _ _ _ _ _ _) ?_; rw [setRow_new8 _ _ _ _ _ (by simp)]) | ((with_reducible refine at_list8 ?_); refine wpList_load_row rfl 40 _ rfl wr.heap.size rfl 40 #[.int .i64 x.k, .string (bs x.op), .int .u64 (x.n : Int), .string (bs x.s), .slice x4 x.kids.length xc4] (0, 0) _ HX2.out Tryz.underlying40 rfl sz_Expr ?_) | ((with_reducible refine at_list8 ?_); refine wpList_load_row rfl 40 _ rfl (wr.heap.size + 1) rfl 40 #[.int .i64 y.k, .string (bs y.op), .int .u64 (y.n : Int), .string (bs y.s), .slice y4 y.kids.length yc4] (0, 0) _ HY2.out Tryz.underlying40 rfl sz_Expr ?_))
     go_ret
     exact ⟨by rw [HD.out]; rfl, HR.out.trans ((HB2.out.trans (hb2.mono HB2.out.size)).mono HR.out.size)⟩
   ·have hi2 : i = l.length := by omega
    subst hi2
    have he : l = m := eq_take8 _ htk rfl HL.out.symm
    have HR := hid hwr
    clear hwr htk
    have HD := hid (decide_eq_true he)
    clear he
    go_wp2_with fail
    go_ret
    exact ⟨by rw [HD.out]; rfl, HR.out⟩
 ·have hlI : ((l.length : Int) != (m.length : Int)) = true := by simp; omega
  have he : decide (l = m) = false := decide_eq_false (fun e => hl (by rw [e]))
  rw [he]
  clear he hl
  go_enter Tryz.func40, Tryz.ntmps40
  go_wp2_with fail
  go_ret
  exact ⟨rfl, HW.out⟩
theorem one_Item (i0 : ByteArray) (i1 : Int) (i2 : Int) (i3 : ByteArray) (i4 : ByteArray) (i5 : Int) (i6 : Int) (i7 : Bool) (i8 : Option Addr) (n8 m8 : Nat) : #[Value.string i0, Value.int .i64 i1, Value.int .i64 i2, Value.string i3, Value.string i4, Value.int .i64 i5, Value.int .i64 i6, Value.bool i7, Value.slice i8 n8 m8].all (fun v => v.oneCell') = true := row_one8 (l := [Value.string i0, Value.int .i64 i1, Value.int .i64 i2, Value.string i3, Value.string i4, Value.int .i64 i5, Value.int .i64 i6, Value.bool i7, Value.slice i8 n8 m8]) fun u hu => by
 simp only [List.mem_cons, List.mem_nil_iff, or_false] at hu
 rcases hu with rfl | rfl | rfl | rfl | rfl | rfl | rfl | rfl | rfl <;> rfl
theorem sz_Item : (Tryz.prog.info? 129).map (·.size) = some 9 := by kernel_rfl
set_option maxHeartbeats 8000000 in
set_option maxRecDepth 100000 in
theorem eqf_Item {W0 w : World} (hb : Below W0.heap.size W0 w) {v1 v2 : Value} {l m : List IM} (h1 : SlR 9 IrC W0 v1 l) (h2 : SlR 9 IrC W0 v2 m) :
  Calls Tryz.prog 81 #[v1, v2, .func (.func 82) #[] #[]] w fun e w' => e = .returned (.bool (decide (l = m))) ∧ Below w.heap.size w w' := by
 have hn1 := h1.lenA
 have HB := hid hb
 obtain ⟨a1, c1, rfl, -⟩ := h1.shape
 obtain ⟨a2, c2, rfl, -⟩ := h2.shape
 have H1 := hid h1
 have H2 := hid h2
 have HW := hid (Below.refl w.heap.size w)
 clear hb h1 h2
 by_cases hl : l.length = m.length
 ·have hlI : ((l.length : Int) != (m.length : Int)) = false := by simp [hl]
  have HL := hid hl
  clear hl
  go_enter Tryz.func81, Tryz.ntmps81
  go_wp2_with fail
  clear hlI
  go_loopw [17] (fun s17 wr => ∃ i : Nat, s17 = .int .i64 (i : Int) ∧ i ≤ l.length ∧ l.take i = m.take i ∧ Below w.heap.size w wr) (fun s17 _ => l.length - (match s17 with | .int _ i => i.toNat | _ => 0))
  case atStart => exact ⟨0, rfl, Nat.zero_le _, by simp, HW.out⟩
  case round =>
   obtain ⟨i, rfl, hi, htk, hwr⟩ := hrel
   by_cases hlt : i < l.length
   ·have hltI : (i : Int) < (l.length : Int) := by omega
    have hltM : (i : Int) < (m.length : Int) := by have := HL.out; omega
    have hw1 : IntKind.i64.wrap ((i : Int) + 1) = (i : Int) + 1 := IntWalk.i64_in _ (by omega)
    obtain ⟨x, hx⟩ : ∃ x, l[i]? = some x := ⟨l[i], List.getElem?_eq_getElem hlt⟩
    obtain ⟨y, hy⟩ : ∃ y, m[i]? = some y := ⟨m[i]'(by have := HL.out; omega), List.getElem?_eq_getElem (by have := HL.out; omega)⟩
    obtain ⟨k1, qv8, rfl, hk1, q0, q1, q2, q3, q4, q5, q6, q7, q8, qs8⟩ := is_at H1.out hx
    obtain ⟨k2, rv8, rfl, hk2, r0, r1, r2, r3, r4, r5, r6, r7, r8, rs8⟩ := is_at H2.out hy
    have hb2 := HB.out.trans (hwr.mono HB.out.size)
    obtain ⟨x8, xc8, rfl, -⟩ := qs8.shape
    obtain ⟨y8, yc8, rfl, -⟩ := rs8.shape
    have q0 := (hb2.cell (p := ⟨k1, i * 9, none⟩) hk1).trans q0
    have r0 := ((below_box wr (.cells #[.string (bs x.s), .int .i64 x.t, .int .i64 (x.der : Int), .string (bs x.a), .string (bs x.b), .int .i64 x.wh, .int .i64 (x.size : Int), .bool x.little, .slice x8 x.subs.length xc8] 129)).cell (p := ⟨k2, i * 9, none⟩) (Nat.lt_of_lt_of_le hk2 hb2.size)).trans ((hb2.cell (p := ⟨k2, i * 9, none⟩) hk2).trans r0)
    have q1 := (hb2.cell (p := ⟨k1, i * 9 + 1, none⟩) hk1).trans q1
    have r1 := ((below_box wr (.cells #[.string (bs x.s), .int .i64 x.t, .int .i64 (x.der : Int), .string (bs x.a), .string (bs x.b), .int .i64 x.wh, .int .i64 (x.size : Int), .bool x.little, .slice x8 x.subs.length xc8] 129)).cell (p := ⟨k2, i * 9 + 1, none⟩) (Nat.lt_of_lt_of_le hk2 hb2.size)).trans ((hb2.cell (p := ⟨k2, i * 9 + 1, none⟩) hk2).trans r1)
    have q2 := (hb2.cell (p := ⟨k1, i * 9 + 2, none⟩) hk1).trans q2
    have r2 := ((below_box wr (.cells #[.string (bs x.s), .int .i64 x.t, .int .i64 (x.der : Int), .string (bs x.a), .string (bs x.b), .int .i64 x.wh, .int .i64 (x.size : Int), .bool x.little, .slice x8 x.subs.length xc8] 129)).cell (p := ⟨k2, i * 9 + 2, none⟩) (Nat.lt_of_lt_of_le hk2 hb2.size)).trans ((hb2.cell (p := ⟨k2, i * 9 + 2, none⟩) hk2).trans r2)
    have q3 := (hb2.cell (p := ⟨k1, i * 9 + 3, none⟩) hk1).trans q3
    have r3 := ((below_box wr (.cells #[.string (bs x.s), .int .i64 x.t, .int .i64 (x.der : Int), .string (bs x.a), .string (bs x.b), .int .i64 x.wh, .int .i64 (x.size : Int), .bool x.little, .slice x8 x.subs.length xc8] 129)).cell (p := ⟨k2, i * 9 + 3, none⟩) (Nat.lt_of_lt_of_le hk2 hb2.size)).trans ((hb2.cell (p := ⟨k2, i * 9 + 3, none⟩) hk2).trans r3)
    have q4 := (hb2.cell (p := ⟨k1, i * 9 + 4, none⟩) hk1).trans q4
    have r4 := ((below_box wr (.cells #[.string (bs x.s), .int .i64 x.t, .int .i64 (x.der : Int), .string (bs x.a), .string (bs x.b), .int .i64 x.wh, .int .i64 (x.size : Int), .bool x.little, .slice x8 x.subs.length xc8] 129)).cell (p := ⟨k2, i * 9 + 4, none⟩) (Nat.lt_of_lt_of_le hk2 hb2.size)).trans ((hb2.cell (p := ⟨k2, i * 9 + 4, none⟩) hk2).trans r4)
    have q5 := (hb2.cell (p := ⟨k1, i * 9 + 5, none⟩) hk1).trans q5
    have r5 := ((below_box wr (.cells #[.string (bs x.s), .int .i64 x.t, .int .i64 (x.der : Int), .string (bs x.a), .string (bs x.b), .int .i64 x.wh, .int .i64 (x.size : Int), .bool x.little, .slice x8 x.subs.length xc8] 129)).cell (p := ⟨k2, i * 9 + 5, none⟩) (Nat.lt_of_lt_of_le hk2 hb2.size)).trans ((hb2.cell (p := ⟨k2, i * 9 + 5, none⟩) hk2).trans r5)
    have q6 := (hb2.cell (p := ⟨k1, i * 9 + 6, none⟩) hk1).trans q6
    have r6 := ((below_box wr (.cells #[.string (bs x.s), .int .i64 x.t, .int .i64 (x.der : Int), .string (bs x.a), .string (bs x.b), .int .i64 x.wh, .int .i64 (x.size : Int), .bool x.little, .slice x8 x.subs.length xc8] 129)).cell (p := ⟨k2, i * 9 + 6, none⟩) (Nat.lt_of_lt_of_le hk2 hb2.size)).trans ((hb2.cell (p := ⟨k2, i * 9 + 6, none⟩) hk2).trans r6)
    have q7 := (hb2.cell (p := ⟨k1, i * 9 + 7, none⟩) hk1).trans q7
    have r7 := ((below_box wr (.cells #[.string (bs x.s), .int .i64 x.t, .int .i64 (x.der : Int), .string (bs x.a), .string (bs x.b), .int .i64 x.wh, .int .i64 (x.size : Int), .bool x.little, .slice x8 x.subs.length xc8] 129)).cell (p := ⟨k2, i * 9 + 7, none⟩) (Nat.lt_of_lt_of_le hk2 hb2.size)).trans ((hb2.cell (p := ⟨k2, i * 9 + 7, none⟩) hk2).trans r7)
    have q8 := (hb2.cell (p := ⟨k1, i * 9 + 8, none⟩) hk1).trans q8
    have r8 := ((below_box wr (.cells #[.string (bs x.s), .int .i64 x.t, .int .i64 (x.der : Int), .string (bs x.a), .string (bs x.b), .int .i64 x.wh, .int .i64 (x.size : Int), .bool x.little, .slice x8 x.subs.length xc8] 129)).cell (p := ⟨k2, i * 9 + 8, none⟩) (Nat.lt_of_lt_of_le hk2 hb2.size)).trans ((hb2.cell (p := ⟨k2, i * 9 + 8, none⟩) hk2).trans r8)
    have HR := hid hwr
    have HT := hid htk
    have HX := hid hx
    have HY := hid hy
    have s1 : (wr.alloc (.cells #[.string (bs x.s), .int .i64 x.t, .int .i64 (x.der : Int), .string (bs x.a), .string (bs x.b), .int .i64 x.wh, .int .i64 (x.size : Int), .bool x.little, .slice x8 x.subs.length xc8] 129)).heap.size = wr.heap.size + 1 := by simp
    have HA := hid (heap_alloc_new wr (.cells #[.string ⟨#[]⟩, .int .i64 0, .int .i64 0, .string ⟨#[]⟩, .string ⟨#[]⟩, .int .i64 0, .int .i64 0, .bool false, .slice none 0 0] 129))
    have hA2 := heap_alloc_new (wr.alloc (.cells #[.string (bs x.s), .int .i64 x.t, .int .i64 (x.der : Int), .string (bs x.a), .string (bs x.b), .int .i64 x.wh, .int .i64 (x.size : Int), .bool x.little, .slice x8 x.subs.length xc8] 129)) (.cells #[.string ⟨#[]⟩, .int .i64 0, .int .i64 0, .string ⟨#[]⟩, .string ⟨#[]⟩, .int .i64 0, .int .i64 0, .bool false, .slice none 0 0] 129)
    rw [s1] at hA2
    have HA2 := hid hA2
    have hY2 := heap_alloc_new (wr.alloc (.cells #[.string (bs x.s), .int .i64 x.t, .int .i64 (x.der : Int), .string (bs x.a), .string (bs x.b), .int .i64 x.wh, .int .i64 (x.size : Int), .bool x.little, .slice x8 x.subs.length xc8] 129)) (.cells #[.string (bs y.s), .int .i64 y.t, .int .i64 (y.der : Int), .string (bs y.a), .string (bs y.b), .int .i64 y.wh, .int .i64 (y.size : Int), .bool y.little, .slice y8 y.subs.length yc8] 129)
    rw [s1] at hY2
    have HY2 := hid hY2
    have HX2 : Hid (((wr.alloc (.cells #[.string (bs x.s), .int .i64 x.t, .int .i64 (x.der : Int), .string (bs x.a), .string (bs x.b), .int .i64 x.wh, .int .i64 (x.size : Int), .bool x.little, .slice x8 x.subs.length xc8] 129)).alloc (.cells #[.string (bs y.s), .int .i64 y.t, .int .i64 (y.der : Int), .string (bs y.a), .string (bs y.b), .int .i64 y.wh, .int .i64 (y.size : Int), .bool y.little, .slice y8 y.subs.length yc8] 129)).heap[wr.heap.size]? = some (.cells #[.string (bs x.s), .int .i64 x.t, .int .i64 (x.der : Int), .string (bs x.a), .string (bs x.b), .int .i64 x.wh, .int .i64 (x.size : Int), .bool x.little, .slice x8 x.subs.length xc8] 129 (0, 0))) := hid (by rw [Below.heap_alloc _ _ _ (by omega)]; exact heap_alloc_new wr _)
    have hB2 : Below wr.heap.size wr ((wr.alloc (.cells #[.string (bs x.s), .int .i64 x.t, .int .i64 (x.der : Int), .string (bs x.a), .string (bs x.b), .int .i64 x.wh, .int .i64 (x.size : Int), .bool x.little, .slice x8 x.subs.length xc8] 129)).alloc (.cells #[.string (bs y.s), .int .i64 y.t, .int .i64 (y.der : Int), .string (bs y.a), .string (bs y.b), .int .i64 y.wh, .int .i64 (y.size : Int), .bool y.little, .slice y8 y.subs.length yc8] 129)) := (below_box _ _).alloc (by simp) _
    have HB2 := hid hB2
    have CS := hid (sameItem (hb2.trans (hB2.mono hb2.size)) x y qs8 rs8)
    clear hb2 hk1 hk2 hwr htk hx hy hA2 hY2 s1 hB2 qs8 rs8
    by_cases he : x = y
    ·have hd : decide (x = y) = true := decide_eq_true he
     have HE := hid he
     clear he
     go_wp2_with (first | (go_at_call 82; (with_reducible refine CS.out.mono ?_); rintro e w2 ⟨rfl, hb2⟩) | ((with_reducible refine at_list8 ?_); refine wpList_store_rowTo rfl 129 _ _ rfl rfl wr.heap.size #[.string (bs x.s), .int .i64 x.t, .int .i64 (x.der : Int), .string (bs x.a), .string (bs x.b), .int .i64 x.wh, .int .i64 (x.size : Int), .bool x.little, .slice x8 x.subs.length xc8] rfl rfl 129 _ HA.out sz_Item rfl (one_Item _ _ _ _ _ _ _ _ _ _ _) ?_; rw [World.setRow_alloc_new]) | ((with_reducible refine at_list8 ?_); refine wpList_store_rowTo rfl 129 _ _ rfl rfl (wr.heap.size + 1) #[.string (bs y.s), .int .i64 y.t, .int .i64 (y.der : Int), .string (bs y.a), .string (bs y.b), .int .i64 y.wh, .int .i64 (y.size : Int), .bool y.little, .slice y8 y.subs.length yc8] rfl rfl 129 _ HA2.out sz_Item rfl (one_Item _ _ _ _ _ _ _ _ _ _ _) ?_; rw [setRow_new8 _ _ _ _ _ (by simp)]) | ((with_reducible refine at_list8 ?_); refine wpList_load_row rfl 129 _ rfl wr.heap.size rfl 129 #[.string (bs x.s), .int .i64 x.t, .int .i64 (x.der : Int), .string (bs x.a), .string (bs x.b), .int .i64 x.wh, .int .i64 (x.size : Int), .bool x.little, .slice x8 x.subs.length xc8] (0, 0) _ HX2.out Tryz.underlying129 rfl sz_Item ?_) | ((with_reducible refine at_list8 ?_); refine wpList_load_row rfl 129 _ rfl (wr.heap.size + 1) rfl 129 #[.string (bs y.s), .int .i64 y.t, .int .i64 (y.der : Int), .string (bs y.a), .string (bs y.b), .int .i64 y.wh, .int .i64 (y.size : Int), .bool y.little, .slice y8 y.subs.length yc8] (0, 0) _ HY2.out Tryz.underlying129 rfl sz_Item ?_))
     go_roundw
     case rel => exact ⟨i + 1, by go_num, by omega, take_snoc8 HT.out HX.out HY.out HE.out, HR.out.trans ((HB2.out.trans (hb2.mono HB2.out.size)).mono HR.out.size)⟩
     case measure => simp; omega
    ·have hd : decide (x = y) = false := decide_eq_false he
     have HD := hid (decide_eq_false (ne_at8 HX.out HY.out he) : decide (l = m) = false)
     clear he
     go_wp2_with (first | (go_at_call 82; (with_reducible refine CS.out.mono ?_); rintro e w2 ⟨rfl, hb2⟩) | ((with_reducible refine at_list8 ?_); refine wpList_store_rowTo rfl 129 _ _ rfl rfl wr.heap.size #[.string (bs x.s), .int .i64 x.t, .int .i64 (x.der : Int), .string (bs x.a), .string (bs x.b), .int .i64 x.wh, .int .i64 (x.size : Int), .bool x.little, .slice x8 x.subs.length xc8] rfl rfl 129 _ HA.out sz_Item rfl (one_Item _ _ _ _ _ _ _ _ _ _ _) ?_; rw [World.setRow_alloc_new]) | ((with_reducible refine at_list8 ?_); refine wpList_store_rowTo rfl 129 _ _ rfl rfl (wr.heap.size + 1) #[.string (bs y.s), .int .i64 y.t, .int .i64 (y.der : Int), .string (bs y.a), .string (bs y.b), .int .i64 y.wh, .int .i64 (y.size : Int), .bool y.little, .slice y8 y.subs.length yc8] rfl rfl 129 _ HA2.out sz_Item rfl (one_Item _ _ _ _ _ _ _ _ _ _ _) ?_; rw [setRow_new8 _ _ _ _ _ (by simp)]) | ((with_reducible refine at_list8 ?_); refine wpList_load_row rfl 129 _ rfl wr.heap.size rfl 129 #[.string (bs x.s), .int .i64 x.t, .int .i64 (x.der : Int), .string (bs x.a), .string (bs x.b), .int .i64 x.wh, .int .i64 (x.size : Int), .bool x.little, .slice x8 x.subs.length xc8] (0, 0) _ HX2.out Tryz.underlying129 rfl sz_Item ?_) | ((with_reducible refine at_list8 ?_); refine wpList_load_row rfl 129 _ rfl (wr.heap.size + 1) rfl 129 #[.string (bs y.s), .int .i64 y.t, .int .i64 (y.der : Int), .string (bs y.a), .string (bs y.b), .int .i64 y.wh, .int .i64 (y.size : Int), .bool y.little, .slice y8 y.subs.length yc8] (0, 0) _ HY2.out Tryz.underlying129 rfl sz_Item ?_))
     go_ret
     exact ⟨by rw [HD.out]; rfl, HR.out.trans ((HB2.out.trans (hb2.mono HB2.out.size)).mono HR.out.size)⟩
   ·have hi2 : i = l.length := by omega
    subst hi2
    have he : l = m := eq_take8 _ htk rfl HL.out.symm
    have HR := hid hwr
    clear hwr htk
    have HD := hid (decide_eq_true he)
    clear he
    go_wp2_with fail
    go_ret
    exact ⟨by rw [HD.out]; rfl, HR.out⟩
 ·have hlI : ((l.length : Int) != (m.length : Int)) = true := by simp; omega
  have he : decide (l = m) = false := decide_eq_false (fun e => hl (by rw [e]))
  rw [he]
  clear he hl
  go_enter Tryz.func81, Tryz.ntmps81
  go_wp2_with fail
  go_ret
  exact ⟨rfl, HW.out⟩
theorem one_Type (i0 : Int) (i1 : Int) (i2 : Bool) (i3 : ByteArray) (i4 : Option Addr) (n4 m4 : Nat) (i5 : Int) (i6 : Int) (i7 : Option Addr) (n7 m7 : Nat) : #[Value.int .i64 i0, Value.int .i64 i1, Value.bool i2, Value.string i3, Value.slice i4 n4 m4, Value.int .i64 i5, Value.int .i64 i6, Value.slice i7 n7 m7].all (fun v => v.oneCell') = true := row_one8 (l := [Value.int .i64 i0, Value.int .i64 i1, Value.bool i2, Value.string i3, Value.slice i4 n4 m4, Value.int .i64 i5, Value.int .i64 i6, Value.slice i7 n7 m7]) fun u hu => by
 simp only [List.mem_cons, List.mem_nil_iff, or_false] at hu
 rcases hu with rfl | rfl | rfl | rfl | rfl | rfl | rfl | rfl <;> rfl
theorem sz_Type : (Tryz.prog.info? 44).map (·.size) = some 8 := by kernel_rfl
set_option maxHeartbeats 8000000 in
set_option maxRecDepth 100000 in
theorem eqf_Type {W0 w : World} (hb : Below W0.heap.size W0 w) {v1 v2 : Value} {l m : List TG} (h1 : SlR 8 TgC W0 v1 l) (h2 : SlR 8 TgC W0 v2 m) :
  Calls Tryz.prog 42 #[v1, v2, .func (.func 43) #[] #[]] w fun e w' => e = .returned (.bool (decide (l = m))) ∧ Below w.heap.size w w' := by
 have hn1 := h1.lenA
 have HB := hid hb
 obtain ⟨a1, c1, rfl, -⟩ := h1.shape
 obtain ⟨a2, c2, rfl, -⟩ := h2.shape
 have H1 := hid h1
 have H2 := hid h2
 have HW := hid (Below.refl w.heap.size w)
 clear hb h1 h2
 by_cases hl : l.length = m.length
 ·have hlI : ((l.length : Int) != (m.length : Int)) = false := by simp [hl]
  have HL := hid hl
  clear hl
  go_enter Tryz.func42, Tryz.ntmps42
  go_wp2_with fail
  clear hlI
  go_loopw [17] (fun s17 wr => ∃ i : Nat, s17 = .int .i64 (i : Int) ∧ i ≤ l.length ∧ l.take i = m.take i ∧ Below w.heap.size w wr) (fun s17 _ => l.length - (match s17 with | .int _ i => i.toNat | _ => 0))
  case atStart => exact ⟨0, rfl, Nat.zero_le _, by simp, HW.out⟩
  case round =>
   obtain ⟨i, rfl, hi, htk, hwr⟩ := hrel
   by_cases hlt : i < l.length
   ·have hltI : (i : Int) < (l.length : Int) := by omega
    have hltM : (i : Int) < (m.length : Int) := by have := HL.out; omega
    have hw1 : IntKind.i64.wrap ((i : Int) + 1) = (i : Int) + 1 := IntWalk.i64_in _ (by omega)
    obtain ⟨x, hx⟩ : ∃ x, l[i]? = some x := ⟨l[i], List.getElem?_eq_getElem hlt⟩
    obtain ⟨y, hy⟩ : ∃ y, m[i]? = some y := ⟨m[i]'(by have := HL.out; omega), List.getElem?_eq_getElem (by have := HL.out; omega)⟩
    obtain ⟨k1, qv4, qv7, rfl, hk1, q0, q1, q2, q3, q4, q5, q6, q7, qs4, qs7⟩ := tg_at H1.out hx
    obtain ⟨k2, rv4, rv7, rfl, hk2, r0, r1, r2, r3, r4, r5, r6, r7, rs4, rs7⟩ := tg_at H2.out hy
    have hb2 := HB.out.trans (hwr.mono HB.out.size)
    obtain ⟨x4, xc4, rfl, -⟩ := qs4.shape
    obtain ⟨y4, yc4, rfl, -⟩ := rs4.shape
    obtain ⟨x7, xc7, rfl, -⟩ := qs7.shape
    obtain ⟨y7, yc7, rfl, -⟩ := rs7.shape
    have q0 := (hb2.cell (p := ⟨k1, i * 8, none⟩) hk1).trans q0
    have r0 := ((below_box wr (.cells #[.int .i64 x.k, .int .i64 (x.size : Int), .bool x.little, .string (bs x.s), .slice x4 x.args.length xc4, .int .i64 x.e, .int .i64 x.i, .slice x7 x.cs.length xc7] 44)).cell (p := ⟨k2, i * 8, none⟩) (Nat.lt_of_lt_of_le hk2 hb2.size)).trans ((hb2.cell (p := ⟨k2, i * 8, none⟩) hk2).trans r0)
    have q1 := (hb2.cell (p := ⟨k1, i * 8 + 1, none⟩) hk1).trans q1
    have r1 := ((below_box wr (.cells #[.int .i64 x.k, .int .i64 (x.size : Int), .bool x.little, .string (bs x.s), .slice x4 x.args.length xc4, .int .i64 x.e, .int .i64 x.i, .slice x7 x.cs.length xc7] 44)).cell (p := ⟨k2, i * 8 + 1, none⟩) (Nat.lt_of_lt_of_le hk2 hb2.size)).trans ((hb2.cell (p := ⟨k2, i * 8 + 1, none⟩) hk2).trans r1)
    have q2 := (hb2.cell (p := ⟨k1, i * 8 + 2, none⟩) hk1).trans q2
    have r2 := ((below_box wr (.cells #[.int .i64 x.k, .int .i64 (x.size : Int), .bool x.little, .string (bs x.s), .slice x4 x.args.length xc4, .int .i64 x.e, .int .i64 x.i, .slice x7 x.cs.length xc7] 44)).cell (p := ⟨k2, i * 8 + 2, none⟩) (Nat.lt_of_lt_of_le hk2 hb2.size)).trans ((hb2.cell (p := ⟨k2, i * 8 + 2, none⟩) hk2).trans r2)
    have q3 := (hb2.cell (p := ⟨k1, i * 8 + 3, none⟩) hk1).trans q3
    have r3 := ((below_box wr (.cells #[.int .i64 x.k, .int .i64 (x.size : Int), .bool x.little, .string (bs x.s), .slice x4 x.args.length xc4, .int .i64 x.e, .int .i64 x.i, .slice x7 x.cs.length xc7] 44)).cell (p := ⟨k2, i * 8 + 3, none⟩) (Nat.lt_of_lt_of_le hk2 hb2.size)).trans ((hb2.cell (p := ⟨k2, i * 8 + 3, none⟩) hk2).trans r3)
    have q4 := (hb2.cell (p := ⟨k1, i * 8 + 4, none⟩) hk1).trans q4
    have r4 := ((below_box wr (.cells #[.int .i64 x.k, .int .i64 (x.size : Int), .bool x.little, .string (bs x.s), .slice x4 x.args.length xc4, .int .i64 x.e, .int .i64 x.i, .slice x7 x.cs.length xc7] 44)).cell (p := ⟨k2, i * 8 + 4, none⟩) (Nat.lt_of_lt_of_le hk2 hb2.size)).trans ((hb2.cell (p := ⟨k2, i * 8 + 4, none⟩) hk2).trans r4)
    have q5 := (hb2.cell (p := ⟨k1, i * 8 + 5, none⟩) hk1).trans q5
    have r5 := ((below_box wr (.cells #[.int .i64 x.k, .int .i64 (x.size : Int), .bool x.little, .string (bs x.s), .slice x4 x.args.length xc4, .int .i64 x.e, .int .i64 x.i, .slice x7 x.cs.length xc7] 44)).cell (p := ⟨k2, i * 8 + 5, none⟩) (Nat.lt_of_lt_of_le hk2 hb2.size)).trans ((hb2.cell (p := ⟨k2, i * 8 + 5, none⟩) hk2).trans r5)
    have q6 := (hb2.cell (p := ⟨k1, i * 8 + 6, none⟩) hk1).trans q6
    have r6 := ((below_box wr (.cells #[.int .i64 x.k, .int .i64 (x.size : Int), .bool x.little, .string (bs x.s), .slice x4 x.args.length xc4, .int .i64 x.e, .int .i64 x.i, .slice x7 x.cs.length xc7] 44)).cell (p := ⟨k2, i * 8 + 6, none⟩) (Nat.lt_of_lt_of_le hk2 hb2.size)).trans ((hb2.cell (p := ⟨k2, i * 8 + 6, none⟩) hk2).trans r6)
    have q7 := (hb2.cell (p := ⟨k1, i * 8 + 7, none⟩) hk1).trans q7
    have r7 := ((below_box wr (.cells #[.int .i64 x.k, .int .i64 (x.size : Int), .bool x.little, .string (bs x.s), .slice x4 x.args.length xc4, .int .i64 x.e, .int .i64 x.i, .slice x7 x.cs.length xc7] 44)).cell (p := ⟨k2, i * 8 + 7, none⟩) (Nat.lt_of_lt_of_le hk2 hb2.size)).trans ((hb2.cell (p := ⟨k2, i * 8 + 7, none⟩) hk2).trans r7)
    have HR := hid hwr
    have HT := hid htk
    have HX := hid hx
    have HY := hid hy
    have s1 : (wr.alloc (.cells #[.int .i64 x.k, .int .i64 (x.size : Int), .bool x.little, .string (bs x.s), .slice x4 x.args.length xc4, .int .i64 x.e, .int .i64 x.i, .slice x7 x.cs.length xc7] 44)).heap.size = wr.heap.size + 1 := by simp
    have HA := hid (heap_alloc_new wr (.cells #[.int .i64 0, .int .i64 0, .bool false, .string ⟨#[]⟩, .slice none 0 0, .int .i64 0, .int .i64 0, .slice none 0 0] 44))
    have hA2 := heap_alloc_new (wr.alloc (.cells #[.int .i64 x.k, .int .i64 (x.size : Int), .bool x.little, .string (bs x.s), .slice x4 x.args.length xc4, .int .i64 x.e, .int .i64 x.i, .slice x7 x.cs.length xc7] 44)) (.cells #[.int .i64 0, .int .i64 0, .bool false, .string ⟨#[]⟩, .slice none 0 0, .int .i64 0, .int .i64 0, .slice none 0 0] 44)
    rw [s1] at hA2
    have HA2 := hid hA2
    have hY2 := heap_alloc_new (wr.alloc (.cells #[.int .i64 x.k, .int .i64 (x.size : Int), .bool x.little, .string (bs x.s), .slice x4 x.args.length xc4, .int .i64 x.e, .int .i64 x.i, .slice x7 x.cs.length xc7] 44)) (.cells #[.int .i64 y.k, .int .i64 (y.size : Int), .bool y.little, .string (bs y.s), .slice y4 y.args.length yc4, .int .i64 y.e, .int .i64 y.i, .slice y7 y.cs.length yc7] 44)
    rw [s1] at hY2
    have HY2 := hid hY2
    have HX2 : Hid (((wr.alloc (.cells #[.int .i64 x.k, .int .i64 (x.size : Int), .bool x.little, .string (bs x.s), .slice x4 x.args.length xc4, .int .i64 x.e, .int .i64 x.i, .slice x7 x.cs.length xc7] 44)).alloc (.cells #[.int .i64 y.k, .int .i64 (y.size : Int), .bool y.little, .string (bs y.s), .slice y4 y.args.length yc4, .int .i64 y.e, .int .i64 y.i, .slice y7 y.cs.length yc7] 44)).heap[wr.heap.size]? = some (.cells #[.int .i64 x.k, .int .i64 (x.size : Int), .bool x.little, .string (bs x.s), .slice x4 x.args.length xc4, .int .i64 x.e, .int .i64 x.i, .slice x7 x.cs.length xc7] 44 (0, 0))) := hid (by rw [Below.heap_alloc _ _ _ (by omega)]; exact heap_alloc_new wr _)
    have hB2 : Below wr.heap.size wr ((wr.alloc (.cells #[.int .i64 x.k, .int .i64 (x.size : Int), .bool x.little, .string (bs x.s), .slice x4 x.args.length xc4, .int .i64 x.e, .int .i64 x.i, .slice x7 x.cs.length xc7] 44)).alloc (.cells #[.int .i64 y.k, .int .i64 (y.size : Int), .bool y.little, .string (bs y.s), .slice y4 y.args.length yc4, .int .i64 y.e, .int .i64 y.i, .slice y7 y.cs.length yc7] 44)) := (below_box _ _).alloc (by simp) _
    have HB2 := hid hB2
    have CS := hid (sameType (hb2.trans (hB2.mono hb2.size)) x y qs4 rs4 qs7 rs7)
    clear hb2 hk1 hk2 hwr htk hx hy hA2 hY2 s1 hB2 qs4 rs4 qs7 rs7
    by_cases he : x = y
    ·have hd : decide (x = y) = true := decide_eq_true he
     have HE := hid he
     clear he
     go_wp2_with (first | (go_at_call 43; (with_reducible refine CS.out.mono ?_); rintro e w2 ⟨rfl, hb2⟩) | ((with_reducible refine at_list8 ?_); refine wpList_store_rowTo rfl 44 _ _ rfl rfl wr.heap.size #[.int .i64 x.k, .int .i64 (x.size : Int), .bool x.little, .string (bs x.s), .slice x4 x.args.length xc4, .int .i64 x.e, .int .i64 x.i, .slice x7 x.cs.length xc7] rfl rfl 44 _ HA.out sz_Type rfl (one_Type _ _ _ _ _ _ _ _ _ _ _ _) ?_; rw [World.setRow_alloc_new]) | ((with_reducible refine at_list8 ?_); refine wpList_store_rowTo rfl 44 _ _ rfl rfl (wr.heap.size + 1) #[.int .i64 y.k, .int .i64 (y.size : Int), .bool y.little, .string (bs y.s), .slice y4 y.args.length yc4, .int .i64 y.e, .int .i64 y.i, .slice y7 y.cs.length yc7] rfl rfl 44 _ HA2.out sz_Type rfl (one_Type _ _ _ _ _ _ _ _ _ _ _ _) ?_; rw [setRow_new8 _ _ _ _ _ (by simp)]) | ((with_reducible refine at_list8 ?_); refine wpList_load_row rfl 44 _ rfl wr.heap.size rfl 44 #[.int .i64 x.k, .int .i64 (x.size : Int), .bool x.little, .string (bs x.s), .slice x4 x.args.length xc4, .int .i64 x.e, .int .i64 x.i, .slice x7 x.cs.length xc7] (0, 0) _ HX2.out Tryz.underlying44 rfl sz_Type ?_) | ((with_reducible refine at_list8 ?_); refine wpList_load_row rfl 44 _ rfl (wr.heap.size + 1) rfl 44 #[.int .i64 y.k, .int .i64 (y.size : Int), .bool y.little, .string (bs y.s), .slice y4 y.args.length yc4, .int .i64 y.e, .int .i64 y.i, .slice y7 y.cs.length yc7] (0, 0) _ HY2.out Tryz.underlying44 rfl sz_Type ?_))
     go_roundw
     case rel => exact ⟨i + 1, by go_num, by omega, take_snoc8 HT.out HX.out HY.out HE.out, HR.out.trans ((HB2.out.trans (hb2.mono HB2.out.size)).mono HR.out.size)⟩
     case measure => simp; omega
    ·have hd : decide (x = y) = false := decide_eq_false he
     have HD := hid (decide_eq_false (ne_at8 HX.out HY.out he) : decide (l = m) = false)
     clear he
     go_wp2_with (first | (go_at_call 43; (with_reducible refine CS.out.mono ?_); rintro e w2 ⟨rfl, hb2⟩) | ((with_reducible refine at_list8 ?_); refine wpList_store_rowTo rfl 44 _ _ rfl rfl wr.heap.size #[.int .i64 x.k, .int .i64 (x.size : Int), .bool x.little, .string (bs x.s), .slice x4 x.args.length xc4, .int .i64 x.e, .int .i64 x.i, .slice x7 x.cs.length xc7] rfl rfl 44 _ HA.out sz_Type rfl (one_Type _ _ _ _ _ _ _ _ _ _ _ _) ?_; rw [World.setRow_alloc_new]) | ((with_reducible refine at_list8 ?_); refine wpList_store_rowTo rfl 44 _ _ rfl rfl (wr.heap.size + 1) #[.int .i64 y.k, .int .i64 (y.size : Int), .bool y.little, .string (bs y.s), .slice y4 y.args.length yc4, .int .i64 y.e, .int .i64 y.i, .slice y7 y.cs.length yc7] rfl rfl 44 _ HA2.out sz_Type rfl (one_Type _ _ _ _ _ _ _ _ _ _ _ _) ?_; rw [setRow_new8 _ _ _ _ _ (by simp)]) | ((with_reducible refine at_list8 ?_); refine wpList_load_row rfl 44 _ rfl wr.heap.size rfl 44 #[.int .i64 x.k, .int .i64 (x.size : Int), .bool x.little, .string (bs x.s), .slice x4 x.args.length xc4, .int .i64 x.e, .int .i64 x.i, .slice x7 x.cs.length xc7] (0, 0) _ HX2.out Tryz.underlying44 rfl sz_Type ?_) | ((with_reducible refine at_list8 ?_); refine wpList_load_row rfl 44 _ rfl (wr.heap.size + 1) rfl 44 #[.int .i64 y.k, .int .i64 (y.size : Int), .bool y.little, .string (bs y.s), .slice y4 y.args.length yc4, .int .i64 y.e, .int .i64 y.i, .slice y7 y.cs.length yc7] (0, 0) _ HY2.out Tryz.underlying44 rfl sz_Type ?_))
     go_ret
     exact ⟨by rw [HD.out]; rfl, HR.out.trans ((HB2.out.trans (hb2.mono HB2.out.size)).mono HR.out.size)⟩
   ·have hi2 : i = l.length := by omega
    subst hi2
    have he : l = m := eq_take8 _ htk rfl HL.out.symm
    have HR := hid hwr
    clear hwr htk
    have HD := hid (decide_eq_true he)
    clear he
    go_wp2_with fail
    go_ret
    exact ⟨by rw [HD.out]; rfl, HR.out⟩
 ·have hlI : ((l.length : Int) != (m.length : Int)) = true := by simp; omega
  have he : decide (l = m) = false := decide_eq_false (fun e => hl (by rw [e]))
  rw [he]
  clear he hl
  go_enter Tryz.func42, Tryz.ntmps42
  go_wp2_with fail
  go_ret
  exact ⟨rfl, HW.out⟩
end Go.Proofs.YtomimkgaelkaoaaGreatDoor
