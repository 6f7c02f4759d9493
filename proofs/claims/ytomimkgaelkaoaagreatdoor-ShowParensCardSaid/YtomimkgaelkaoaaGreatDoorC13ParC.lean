/- Layer 7: the program's parser: single tokens. · Layer 7: the program's parser: one expression more, one type more. -/
import Derived.Test.YtomimkgaelkaoaaGreatDoorC13ParX
import Derived.Deep.RegionLaw
set_option linter.unusedVariables false
set_option linter.unusedSimpArgs false
namespace Go.Proofs.YtomimkgaelkaoaaGreatDoor
open Go.Lib (hid)
open Go.ChangeShapes Go.WideShapes Go.ChangeAt Go.RowKit
theorem run_text (a0 a1 a2 a3 a4 : Value) (W : World) : (Instr.field 185 (.agg #[a0, a1, a2, a3, a4]) 1).run Tryz.prog W = .ok a1 W := by
 simp [Instr.field, run_underlying Tryz.underlying185, asAgg, go_sem]
theorem run_num (a0 a1 a2 a3 a4 : Value) (W : World) : (Instr.field 185 (.agg #[a0, a1, a2, a3, a4]) 2).run Tryz.prog W = .ok a2 W := by
 simp [Instr.field, run_underlying Tryz.underlying185, asAgg, go_sem]
def PostP {α : Type} (X : Nat → Prop) (g b : Nat) (w : World) (d : Nat) (r : PR α) (V : α → Value) (F : α → FM) (e : Ending) (w' : World) : Prop :=
 e = (match r with | .ok a _ => .returned (V a) | .bad l x => .panicked (flt l x)) ∧ (match r with | .ok a l => PInv X g b w' l d (F a) | .bad _ _ => True) ∧ St layP g w w'
section
variable {X : Nat → Prop} {g b : Nat} {l : List Tok} {d : Nat} {f : FM}
set_option maxRecDepth 100000 in
theorem atName_any (w : World) (h : PInv X g b w l d f) :
  Calls Tryz.prog 128 #[.pointer (some ⟨g, 0, none⟩)] w fun e' w' => e' = .returned (.bool (isName l)) ∧ w = w' := by
 have hl := h.wf.pos
 obtain ⟨k, o, c, h0, h5, hf, hkl, hc, hm, c0, c1, c2, c3, c4⟩ := h.look
 have HK := hid (Keyword_any (hd l).tk.t w h.env)
 have b0 : (((hd l).tk.k : Int) == 0) = decide ((hd l).tk.k = 0) := beq_nat (hd l).tk.k 0
 have HB : Hid (isName l = (decide ((hd l).tk.k = 0) && !isKw (hd l).tk.t)) := hid rfl
 unfold maxLen at hm
 clear h
 cases e0 : decide ((hd l).tk.k = 0) <;> cases e1 : isKw (hd l).tk.t
 all_goals
  rw [e0] at b0 HB
  rw [e1] at HB HK
  clear e0 e1
  go_enter Tryz.func128, Tryz.ntmps128
  go_wp2_with (go_at_call 19; go_must (refine HK.out.mono ?_; rintro e w' ⟨rfl, rfl⟩))
  go_ret
  exact ⟨retBe HB.out.symm, rfl⟩
set_option maxRecDepth 100000 in
theorem take_yes (t : List UInt8) (w : World) (h : PInv X g b w l d f) (ht : isT t l = true) (hn : t ≠ []) :
  Calls Tryz.prog 125 #[.pointer (some ⟨g, 0, none⟩), .string (bs t)] w fun e' w' => e' = .returned (.bool true) ∧ PInv X g (b - 3) w' l.tail d f ∧ St layP g w w' := by
 have C := atText_any t w h
 rw [ht] at C
 have C1 := hid C
 have C2 := hid (read_any w h (h.wf.isT ht hn))
 clear C h ht
 go_enter Tryz.func125, Tryz.ntmps125
 go_wp2_with (first | (go_at_call 75; go_must (refine C1.out.mono ?_; rintro e w' ⟨rfl, rfl⟩)) | (go_at_call 178; go_must (refine C2.out.mono ?_; rintro e w' ⟨rfl, hI, hS⟩)))
 go_ret
 exact ⟨rfl, hI, hS⟩
set_option maxRecDepth 100000 in
theorem take_no (t : List UInt8) (w : World) (h : PInv X g b w l d f) (ht : isT t l = false) :
  Calls Tryz.prog 125 #[.pointer (some ⟨g, 0, none⟩), .string (bs t)] w fun e' w' => e' = .returned (.bool false) ∧ w = w' := by
 have C := atText_any t w h
 rw [ht] at C
 have C1 := hid C
 clear C h ht
 go_enter Tryz.func125, Tryz.ntmps125
 go_wp2_with (go_at_call 75; go_must (refine C1.out.mono ?_; rintro e w' ⟨rfl, rfl⟩))
 go_ret
 exact ⟨rfl, rfl⟩
theorem expect_yes (w : World) (h : PInv X g b w l d f) :
  Calls Tryz.prog 127 #[.pointer (some ⟨g, 0, none⟩), .bool true] w fun e' w' => e' = .returned (.tuple #[]) ∧ w = w' := expect_any true w h
theorem expect_no (w : World) (h : PInv X g b w l d f) :
  Calls Tryz.prog 127 #[.pointer (some ⟨g, 0, none⟩), .bool false] w fun e' w' => e' = .panicked (flt l 4) ∧ w = w' := expect_any false w h
set_option maxRecDepth 100000 in
theorem need_any (t : List UInt8) (hn : t ≠ []) (w : World) (h : PInv X g b w l d f) :
  Calls Tryz.prog 122 #[.pointer (some ⟨g, 0, none⟩), .string (bs t)] w (PostP X g (b - 3) w d (need t l) (fun _ => .tuple #[]) fun _ => f) := by
 cases ht : isT t l
 ·have C1 := hid (take_no t w h ht)
  have C2 := hid (expect_no w h)
  have hr : need t l = .bad l 4 := by unfold need; rw [if_neg (by rw [ht]; decide)]
  rw [hr]
  clear h ht hr
  go_enter Tryz.func122, Tryz.ntmps122
  go_wp2_with (first | (go_at_call 125; go_must (refine C1.out.mono ?_; rintro e w' ⟨rfl, rfl⟩)) | (go_at_call 127; go_must (refine C2.out.mono ?_; rintro e w' ⟨rfl, rfl⟩)))
  exact ⟨rfl, rfl, trivial, St.refl _ _ _⟩
 ·have C1 := hid (take_yes t w h ht hn)
  have hr : need t l = .ok () l.tail := by unfold need; rw [if_pos ht]
  rw [hr]
  clear h ht hr
  go_enter Tryz.func122, Tryz.ntmps122
  go_wp2_with (first | (go_at_call 125; go_must (refine C1.out.mono ?_; rintro e w' ⟨rfl, hI, hS⟩; have H := hid hI; have C2 := hid (expect_yes _ hI); clear hI)) | (go_at_call 127; go_must (refine C2.out.mono ?_; rintro e w' ⟨rfl, rfl⟩)))
  go_end0
  exact ⟨rfl, H.out, hS⟩
set_option maxRecDepth 100000 in
theorem name_any (w : World) (h : PInv X g b w l d f) :
  Calls Tryz.prog 123 #[.pointer (some ⟨g, 0, none⟩)] w (PostP X g (b - 3) w d (nameP l) (fun t => .string (bs t)) fun _ => f) := by
 have C := atName_any w h
 cases ht : isName l
 all_goals rw [ht] at C; have C0 := hid C; clear C
 ·have C2 := hid (expect_no w h)
  have hr : nameP l = .bad l 4 := by unfold nameP; rw [if_neg (by rw [ht]; decide)]
  rw [hr]
  have rt := run_text
  have rn := run_num
  clear h ht hr
  go_enter Tryz.func123, Tryz.ntmps123
  go_wp2_with (first | (go_at_call 128; go_must (refine C0.out.mono ?_; rintro e w' ⟨rfl, rfl⟩)) | (go_at_call 127; go_must (refine C2.out.mono ?_; rintro e w' ⟨rfl, rfl⟩)))
  exact ⟨rfl, rfl, trivial, St.refl _ _ _⟩
 ·have C2 := hid (expect_yes w h)
  have C3 := hid (read_any w h (h.wf.isName ht))
  have hr : nameP l = .ok (hd l).tk.t l.tail := by unfold nameP; rw [if_pos ht]
  rw [hr]
  have rt := run_text
  have rn := run_num
  clear h ht hr
  go_enter Tryz.func123, Tryz.ntmps123
  go_wp2_with (first | (go_at_call 128; go_must (refine C0.out.mono ?_; rintro e w' ⟨rfl, rfl⟩)) | (go_at_call 127; go_must (refine C2.out.mono ?_; rintro e w' ⟨rfl, rfl⟩)) | (go_at_call 178; go_must (refine C3.out.mono ?_; rintro e w' ⟨rfl, hI, hS⟩)))
  go_ret
  exact ⟨rfl, hI, hS⟩
set_option maxRecDepth 100000 in
theorem number_any (w : World) (h : PInv X g b w l d f) :
  Calls Tryz.prog 124 #[.pointer (some ⟨g, 0, none⟩)] w (PostP X g (b - 3) w d (numP l) (fun t => .int .u64 (t : Int)) fun _ => f) := by
 have C := atNumber_any w h
 cases ht : isNum l
 all_goals rw [ht] at C; have C0 := hid C; clear C
 ·have C2 := hid (expect_no w h)
  have hr : numP l = .bad l 4 := by unfold numP; rw [if_neg (by rw [ht]; decide)]
  rw [hr]
  have rt := run_text
  have rn := run_num
  clear h ht hr
  go_enter Tryz.func124, Tryz.ntmps124
  go_wp2_with (first | (go_at_call 179; go_must (refine C0.out.mono ?_; rintro e w' ⟨rfl, rfl⟩)) | (go_at_call 127; go_must (refine C2.out.mono ?_; rintro e w' ⟨rfl, rfl⟩)))
  exact ⟨rfl, rfl, trivial, St.refl _ _ _⟩
 ·have C2 := hid (expect_yes w h)
  have C3 := hid (read_any w h (h.wf.isNum ht))
  have hr : numP l = .ok (hd l).tk.n l.tail := by unfold numP; rw [if_pos ht]
  rw [hr]
  have rt := run_text
  have rn := run_num
  clear h ht hr
  go_enter Tryz.func124, Tryz.ntmps124
  go_wp2_with (first | (go_at_call 179; go_must (refine C0.out.mono ?_; rintro e w' ⟨rfl, rfl⟩)) | (go_at_call 127; go_must (refine C2.out.mono ?_; rintro e w' ⟨rfl, rfl⟩)) | (go_at_call 178; go_must (refine C3.out.mono ?_; rintro e w' ⟨rfl, hI, hS⟩)))
  go_ret
  exact ⟨rfl, hI, hS⟩
set_option maxRecDepth 100000 in
theorem begE_any (w : World) (h : PInv X g b w l d f) :
  Calls Tryz.prog 306 #[.pointer (some ⟨g, 0, none⟩)] w fun e' w' => e' = .returned (.bool (begE l)) ∧ w = w' := by
 have c1 := atText_any sExcl w h
 have c2 := atText_any sLp w h
 have c3 := atNumber_any w h
 have c4 := atName_any w h
 have HB : Hid (begE l = (isT sExcl l || isT sLp l || isNum l || isName l)) := hid rfl
 clear h
 have c1' : Calls Tryz.prog 75 #[.pointer (some ⟨g, 0, none⟩), .string ⟨#[33]⟩] w fun e' w' => e' = .returned (.bool (isT sExcl l)) ∧ w = w' := c1
 have c2' : Calls Tryz.prog 75 #[.pointer (some ⟨g, 0, none⟩), .string ⟨#[40]⟩] w fun e' w' => e' = .returned (.bool (isT sLp l)) ∧ w = w' := c2
 clear c1 c2
 cases e1 : isT sExcl l <;> cases e2 : isT sLp l <;> cases e3 : isNum l <;> cases e4 : isName l
 all_goals
  rw [e1] at c1' HB; rw [e2] at c2' HB; rw [e3] at c3 HB; rw [e4] at c4 HB
  have C1 := hid c1'; have C2 := hid c2'; have C3 := hid c3; have C4 := hid c4
  clear c1' c2' c3 c4 e1 e2 e3 e4
  go_enter Tryz.func306, Tryz.ntmps306
  go_wp2_with (first | (go_at_call 75; first | ((with_reducible refine C1.out.mono ?_); rintro e w' ⟨rfl, rfl⟩) | ((with_reducible refine C2.out.mono ?_); rintro e w' ⟨rfl, rfl⟩)) | (go_at_call 179; go_must (refine C3.out.mono ?_; rintro e w' ⟨rfl, rfl⟩)) | (go_at_call 128; go_must (refine C4.out.mono ?_; rintro e w' ⟨rfl, rfl⟩)))
  go_ret
  exact ⟨retBe HB.out.symm, rfl⟩
set_option maxRecDepth 100000 in
theorem begT_any (w : World) (h : PInv X g b w l d f) :
  Calls Tryz.prog 235 #[.pointer (some ⟨g, 0, none⟩)] w fun e' w' => e' = .returned (.bool (begT l)) ∧ w = w' := by
 have hl := h.wf.pos
 obtain ⟨k, o, c, h0, h5, hf, hkl, hc, hm, c0, c1, c2, c3, c4⟩ := h.look
 have ci := Integer_any (hd l).tk.t w h.env
 have cn := atName_any w h
 have hb : begT l = (tyW.contains (hd l).tk.t || (intW (hd l).tk.t).isSome || isName l) := rfl
 unfold maxLen at hm
 clear h
 generalize (hd l).tk.t = t at *
 by_cases ht : t ∈ tyW
 ·have HB : Hid (begT l = true) := hid (by rw [hb, List.contains_iff_mem.2 ht]; rfl)
  clear hb ci cn
  simp only [tyW, List.mem_cons, List.mem_nil_iff, or_false] at ht
  rcases ht with ht | ht | ht | ht | ht | ht | ht | ht | ht
  ·subst ht
   have c1' : w.cell? ⟨k, o + 1, none⟩ = some (.string (bs [98, 121, 116, 101, 115])) := c1
   have hq := fun u => beq_l [98, 121, 116, 101, 115] u
   clear c1
   go_enter Tryz.func235, Tryz.ntmps235
   go_wp2_with fail
   go_ret
   exact ⟨retBe HB.out.symm, rfl⟩
  ·subst ht
   have c1' : w.cell? ⟨k, o + 1, none⟩ = some (.string (bs [122, 101, 114, 111])) := c1
   have hq := fun u => beq_l [122, 101, 114, 111] u
   clear c1
   go_enter Tryz.func235, Tryz.ntmps235
   go_wp2_with fail
   go_ret
   exact ⟨retBe HB.out.symm, rfl⟩
  ·subst ht
   have c1' : w.cell? ⟨k, o + 1, none⟩ = some (.string (bs [115, 107, 105, 112])) := c1
   have hq := fun u => beq_l [115, 107, 105, 112] u
   clear c1
   go_enter Tryz.func235, Tryz.ntmps235
   go_wp2_with fail
   go_ret
   exact ⟨retBe HB.out.symm, rfl⟩
  ·subst ht
   have c1' : w.cell? ⟨k, o + 1, none⟩ = some (.string (bs [119, 105, 110, 100, 111, 119])) := c1
   have hq := fun u => beq_l [119, 105, 110, 100, 111, 119] u
   clear c1
   go_enter Tryz.func235, Tryz.ntmps235
   go_wp2_with fail
   go_ret
   exact ⟨retBe HB.out.symm, rfl⟩
  ·subst ht
   have c1' : w.cell? ⟨k, o + 1, none⟩ = some (.string (bs [97, 116])) := c1
   have hq := fun u => beq_l [97, 116] u
   clear c1
   go_enter Tryz.func235, Tryz.ntmps235
   go_wp2_with fail
   go_ret
   exact ⟨retBe HB.out.symm, rfl⟩
  ·subst ht
   have c1' : w.cell? ⟨k, o + 1, none⟩ = some (.string (bs [114, 101, 115, 116])) := c1
   have hq := fun u => beq_l [114, 101, 115, 116] u
   clear c1
   go_enter Tryz.func235, Tryz.ntmps235
   go_wp2_with fail
   go_ret
   exact ⟨retBe HB.out.symm, rfl⟩
  ·subst ht
   have c1' : w.cell? ⟨k, o + 1, none⟩ = some (.string (bs [116, 97, 105, 108])) := c1
   have hq := fun u => beq_l [116, 97, 105, 108] u
   clear c1
   go_enter Tryz.func235, Tryz.ntmps235
   go_wp2_with fail
   go_ret
   exact ⟨retBe HB.out.symm, rfl⟩
  ·subst ht
   have c1' : w.cell? ⟨k, o + 1, none⟩ = some (.string (bs [110, 111, 110, 101])) := c1
   have hq := fun u => beq_l [110, 111, 110, 101] u
   clear c1
   go_enter Tryz.func235, Tryz.ntmps235
   go_wp2_with fail
   go_ret
   exact ⟨retBe HB.out.symm, rfl⟩
  ·subst ht
   have c1' : w.cell? ⟨k, o + 1, none⟩ = some (.string (bs [115, 119, 105, 116, 99, 104])) := c1
   have hq := fun u => beq_l [115, 119, 105, 116, 99, 104] u
   clear c1
   go_enter Tryz.func235, Tryz.ntmps235
   go_wp2_with fail
   go_ret
   exact ⟨retBe HB.out.symm, rfl⟩
 ·have hb2 : begT l = ((intW t).isSome || isName l) := by rw [hb, show tyW.contains t = false from by rw [← Bool.not_eq_true, List.contains_iff_mem]; exact ht]; rfl
  simp only [tyW, List.mem_cons, List.mem_nil_iff, or_false, not_or] at ht
  obtain ⟨h20, h21, h22, h23, h24, h25, h26, h27, h28⟩ := ht
  have q0 : ((bs t).toList == [98, 121, 116, 101, 115]) = false := (beq_l t _).trans (decide_eq_false h20)
  have q1 : ((bs t).toList == [122, 101, 114, 111]) = false := (beq_l t _).trans (decide_eq_false h21)
  have q2 : ((bs t).toList == [115, 107, 105, 112]) = false := (beq_l t _).trans (decide_eq_false h22)
  have q3 : ((bs t).toList == [119, 105, 110, 100, 111, 119]) = false := (beq_l t _).trans (decide_eq_false h23)
  have q4 : ((bs t).toList == [97, 116]) = false := (beq_l t _).trans (decide_eq_false h24)
  have q5 : ((bs t).toList == [114, 101, 115, 116]) = false := (beq_l t _).trans (decide_eq_false h25)
  have q6 : ((bs t).toList == [116, 97, 105, 108]) = false := (beq_l t _).trans (decide_eq_false h26)
  have q7 : ((bs t).toList == [110, 111, 110, 101]) = false := (beq_l t _).trans (decide_eq_false h27)
  have q8 : ((bs t).toList == [115, 119, 105, 116, 99, 104]) = false := (beq_l t _).trans (decide_eq_false h28)
  clear h20 h21 h22 h23 h24 h25 h26 h27 h28 hb
  cases e1 : intW t with
  | none =>
   rw [e1] at ci hb2
   simp only [intR] at ci
   have HB := hid hb2
   have CI := hid ci
   clear ci hb2 e1
   cases e4 : isName l
   all_goals
    rw [e4] at cn HB
    have CN := hid cn
    clear cn e4
    go_enter Tryz.func235, Tryz.ntmps235
    go_wp2_with (first | (go_at_call 55; go_must (refine CI.out.mono ?_; rintro e w' ⟨rfl, rfl⟩)) | (go_at_call 128; go_must (refine CN.out.mono ?_; rintro e w' ⟨rfl, rfl⟩)))
    go_ret
    exact ⟨retBe HB.out.symm, rfl⟩
  | some p =>
   obtain ⟨z, li⟩ := p
   rw [e1] at ci hb2
   simp only [intR] at ci
   have HB := hid hb2
   have CI := hid ci
   have CN := hid cn
   clear ci hb2 e1 cn
   go_enter Tryz.func235, Tryz.ntmps235
   go_wp2_with (first | (go_at_call 55; go_must (refine CI.out.mono ?_; rintro e w' ⟨rfl, rfl⟩)) | (go_at_call 128; go_must (refine CN.out.mono ?_; rintro e w' ⟨rfl, rfl⟩)))
   go_ret
   exact ⟨retBe HB.out.symm, rfl⟩
end
end Go.Proofs.YtomimkgaelkaoaaGreatDoor
namespace Go.Proofs.YtomimkgaelkaoaaGreatDoor
open Go.Lib (hid)
open Go.ChangeShapes Go.WideShapes Go.ChangeAt Go.RowKit
theorem step_one {P : Program} (w : World) {ops : Array Oper} {o : Oper} {a : Act} {K : Act → World → Prop} {Q : Exit → Act → World → Prop} {F : Prop} (hgd : o.guard = none) (s x : Operand) (t : TypeId)
  (ho : o.op = .call { callee := .builtin .append, args := #[s, x], argTypes := #[t, t] })
  (e : TypeId) (i : TypeInfo) (z : Value) (size bytes : Nat) (ht : P.underlying t = some (.slice e)) (hi : P.info? e = some i) (hz : i.zero = some z)
  (hsize : i.size = size) (hby : i.bytes = bytes) (hzs : z.cells.size = size) (hpos : 0 < size)
  (v : Value) (n : Nat) (xs : List Value) (hs : a.eval s = v) (hown : w.ownsRow 0 e size v n xs)
  (H c : Nat) (news : List Value) (hx : a.eval x = .slice (some ⟨H, 0, none⟩) 1 c) (hl : news.length = size) (hh : w.heap[H]? = some (.cells news.toArray e (0, 0))) (h1 : ∀ u ∈ news, u.oneCell' = true)
  (h63 : n + 1 ≤ maxLen) (hbytes : (n + 1) * bytes ≤ 140737488355328)
  (h : ∀ v' w', w'.ownsRow 0 e size v' (n + 1) (xs ++ news) → w.grownBy w' v.ownBlock → (v'.ownBlock = v.ownBlock ∨ v'.ownBlock = some w.heap.size) → K (a.put o.dst v') w') :
  if Region.wanted o (yielded ops a.tmps) = true then Oper.wp P o a w K Q else F := by
 have hw : Region.wanted o (yielded ops a.tmps) = true := by simp [Region.wanted, hgd]
 rw [if_pos hw]
 obtain ⟨v', w', hr, h2, h3, _, h5⟩ := run_append_own_at (P := P) w 0 t o.type e i z size bytes ht hi hz hsize hby hzs hpos v n xs hown ⟨H, 0, none⟩ 1 c news (by omega)
  (fun j u hu => by
   rw [show (⟨H, 0, none⟩ : Addr).add j = ⟨H, j, none⟩ from by unfold Addr.add; split <;> simp_all, cell_of_row _ _ _ _ _ (0, 0) hh]
   simpa using hu) h1 h63 hbytes (Nat.zero_le _)
 have hK := h v' w' h2 h3 h5
 unfold Oper.wp execOp
 simp only [ho, resolve, invoke, builtin, Sem.run_bind, Sem.run_pure, Result.andThen_ok, List.map_toArray, List.map_cons, List.map_nil, hs, hx, hr]
 exact hK
theorem RowR.below {w w' : World} {e : TypeId} {size : Nat} {v : Value} {n : Nat} {xs : List Value} (h : w.ownsRow 0 e size v n xs) (hb : Below w.heap.size w w') : w'.ownsRow 0 e size v n xs :=
 ownsRow_same h fun g hg => hb.block g (World.ownsRow.lt h g hg).2
theorem heap_two (w : World) (A B : Obj) : ((w.alloc A).alloc B).drew.heap[w.heap.size + 1]? = some B := by
 have := heap_alloc_new (w.alloc A) B
 rw [show (w.alloc A).heap.size = w.heap.size + 1 from by simp] at this
 exact this
theorem ownsRow_shape {w : World} {B : Nat} {e : TypeId} {size : Nat} {v : Value} {n : Nat} {xs : List Value} (h : w.ownsRow B e size v n xs) : ∃ a c, v = .slice a n c := by
 rcases h.2 with ⟨rfl, rfl⟩ | ⟨g, cap, cur, rfl, r⟩
 ·exact ⟨_, _, rfl⟩
 ·exact ⟨_, _, rfl⟩
theorem below_two (w : World) (A B : Obj) : Below w.heap.size w ((w.alloc A).alloc B).drew := (((Below.refl _ _).alloc (Nat.le_refl _) _).alloc (by simp) _).drew
theorem grown_cell {w w0 w1 : World} {g : Nat} {row : Option Nat} (hb : Below w.heap.size w w0) (hg : g < w.heap.size) (hgrow : w0.grownBy w1 row) (hne : row ≠ some g) :
  w1.heap[g]? = w.heap[g]? := (hgrow.block g (Nat.lt_of_lt_of_le hg hb.size) (fun e => hne e.symm)).trans (hb.block g hg)
theorem info_expr : (Tryz.prog.info? 40).map (fun i => (i.zero, i.size, i.bytes)) = some (some (.agg #[.int .i64 0, .string ⟨#[]⟩, .int .u64 0, .string ⟨#[]⟩, .slice none 0 0]), 5, 72) := by kernel_rfl
theorem info_type : (Tryz.prog.info? 44).map (fun i => (i.zero, i.size, i.bytes)) = some (some (.agg #[.int .i64 0, .int .i64 0, .bool false, .string ⟨#[]⟩, .slice none 0 0, .int .i64 0, .int .i64 0, .slice none 0 0]), 8, 104) := by kernel_rfl
theorem info_parts {P : Program} {t : TypeId} {z : Option Value} {n m : Nat} (h : (P.info? t).map (fun i => (i.zero, i.size, i.bytes)) = some (z, n, m)) : ∃ i, P.info? t = some i ∧ i.zero = z ∧ i.size = n ∧ i.bytes = m := by
 obtain ⟨i, h1, h2⟩ := Option.map_eq_some_iff.1 h
 simp only [Prod.mk.injEq] at h2
 exact ⟨i, h1, h2.1, h2.2.1, h2.2.2⟩
theorem push_core {L : Lay} {g j : Nat} {w w0 w1 : World} {v v' : Value} (hg : g < w.heap.size) (hj : j ∈ L.J) (hv : w.cell? ⟨g, j, none⟩ = some v) (hoff : v.ownBlock ≠ some g) (hB : Below w.heap.size w w0) (hgrow : w0.grownBy w1 v.ownBlock) (hat : v'.ownBlock = v.ownBlock ∨ v'.ownBlock = some w0.heap.size) :
  St0 L g w (w1.setCell ⟨g, j, none⟩ v') ∧ (∀ k, k < w.heap.size → k ≠ g → v.ownBlock ≠ some k → (w1.setCell ⟨g, j, none⟩ v').heap[k]? = w.heap[k]?) ∧
  (∀ (e : TypeId) (size n : Nat) (xs : List Value), w1.ownsRow 0 e size v' n xs → (w1.setCell ⟨g, j, none⟩ v').ownsRow 0 e size v' n xs) := by
 have hv0 : w0.cell? ⟨g, j, none⟩ = some v := (hB.cell (p := ⟨g, j, none⟩) hg).trans hv
 have hg0 : g < w0.heap.size := Nat.lt_of_lt_of_le hg hB.size
 have hv1 : w1.cell? ⟨g, j, none⟩ = some v := (World.cell?_of_block (a := ⟨g, j, none⟩) (hgrow.block g hg0 fun e => hoff e.symm)).trans hv0
 refine ⟨((St0.refl L g w).trans (.below hg hB)).push hg0 hj hv0 hoff hgrow (hat.imp id fun e b hb => ?_) hv1, fun k h1 h2 h3 => ?_, fun e size n xs h => ownsRow_same h fun k hk => Below.heap_setCell _ _ _ _ fun e => ?_⟩
 ·rw [e, Option.some.injEq] at hb; omega
 ·rw [Below.heap_setCell _ _ _ _ h2]
  exact (hgrow.block k (Nat.lt_of_lt_of_le h1 hB.size) fun e => h3 e.symm).trans (hB.block k h1)
 ·have e : k = g := e
  subst e
  rcases hat with hat | hat
  ·rw [hat] at hk; exact hoff hk
  ·rw [hat, Option.some.injEq] at hk; omega
abbrev FM.setG (f : FM) (g : GM) : FM := ⟨f.cs, f.ss, g⟩
structure LayOK (L : Lay) : Prop where
 pc : L.co ≠ L.pa
 ps : L.st ≠ L.pa
 px : L.ex ≠ L.pa
 pt : L.ty ≠ L.pa
 cs : L.co ≠ L.st
 cx : L.co ≠ L.ex
 ct : L.co ≠ L.ty
 sx : L.st ≠ L.ex
 st : L.st ≠ L.ty
 xt : L.ex ≠ L.ty
theorem layP_ok : LayOK layP := ⟨by decide, by decide, by decide, by decide, by decide, by decide, by decide, by decide, by decide, by decide⟩
section
variable {L : Lay} {g j : Nat} {w w0 w1 : World} {vc vs vx vt v' : Value} {cur : Array Value} {f : FM} {X : Nat → Prop}
theorem FRep.pushC (hL : LayOK L) (hh : w.heap[g]? = some (.cells cur L.pa (0, 0))) (h : FRep L (Pub X L g w) w vc vs vx vt f) (hj : j ∈ L.J) (hv : w.cell? ⟨g, j, none⟩ = some vc) (hB : Below w.heap.size w w0) (y : List UInt8 × Nat) {c : List Value} (hc : c.length = 2) (hy : Crep (Pub X L g w) w c y) {cs : List (List Value)}
  (hown : w1.ownsRow 0 L.co 2 v' (f.cs.length + 1) (cs.flatten ++ c)) (hcs : cs.length = f.cs.length) (hcl : ∀ c ∈ cs, c.length = 2) (hrep : ∀ (i : Nat) c x, cs[i]? = some c → f.cs[i]? = some x → Crep (Pub X L g w) w c x)
  (hgrow : w0.grownBy w1 vc.ownBlock) (hat : v'.ownBlock = vc.ownBlock ∨ v'.ownBlock = some w0.heap.size) :
  St0 L g w (w1.setCell ⟨g, j, none⟩ v') ∧ FRep L (Pub X L g (w1.setCell ⟨g, j, none⟩ v')) (w1.setCell ⟨g, j, none⟩ v') v' vs vx vt ⟨f.cs ++ [y], f.ss, f.g⟩ ∧ (w1.setCell ⟨g, j, none⟩ v').heap[g]? = (w.setCell ⟨g, j, none⟩ v').heap[g]? := by
 have hg : g < w.heap.size := (Array.getElem?_eq_some_iff.1 hh).1
 have hoff : vc.ownBlock ≠ some g := h.c.off hh hL.pc
 obtain ⟨hs, hk, hr⟩ := push_core (v' := v') hg hj hv hoff hB hgrow hat
 refine ⟨hs, ⟨RowR.snoc (hr _ _ _ _ hown) hcs hcl (fun i c x h1 h2 => Crep.kept _ _ _ _ _ _ (hrep i c x h1 h2) (hs.pub X)) hc (Crep.kept _ _ _ _ _ _ hy (hs.pub X)), h.s.stay (Srep.kept L) (hs.pub X) fun k e => hk k (h.s.lt k e) (fun e' => h.s.off hh hL.ps (e' ▸ e)) (h.s.ne h.c hL.cs.symm k e), h.x.stay Xrep.kept (hs.pub X) fun k e => hk k (h.x.lt k e) (fun e' => h.x.off hh hL.px (e' ▸ e)) (h.x.ne h.c hL.cx.symm k e), h.t.stay (Trep.kept L) (hs.pub X) fun k e => hk k (h.t.lt k e) (fun e' => h.t.off hh hL.pt (e' ▸ e)) (h.t.ne h.c hL.ct.symm k e)⟩, ?_⟩
 ·have e : w1.heap[g]? = w.heap[g]? := grown_cell hB hg hgrow hoff
  simp only [World.setCell, Array.getElem?_modify, e]
theorem FRep.pushS (hL : LayOK L) (hh : w.heap[g]? = some (.cells cur L.pa (0, 0))) (h : FRep L (Pub X L g w) w vc vs vx vt f) (hj : j ∈ L.J) (hv : w.cell? ⟨g, j, none⟩ = some vs) (hB : Below w.heap.size w w0) (y : SM) {c : List Value} (hc : c.length = 3) (hy : (Srep L) (Pub X L g w) w c y) {cs : List (List Value)}
  (hown : w1.ownsRow 0 L.st 3 v' (f.ss.length + 1) (cs.flatten ++ c)) (hcs : cs.length = f.ss.length) (hcl : ∀ c ∈ cs, c.length = 3) (hrep : ∀ (i : Nat) c x, cs[i]? = some c → f.ss[i]? = some x → (Srep L) (Pub X L g w) w c x)
  (hgrow : w0.grownBy w1 vs.ownBlock) (hat : v'.ownBlock = vs.ownBlock ∨ v'.ownBlock = some w0.heap.size) :
  St0 L g w (w1.setCell ⟨g, j, none⟩ v') ∧ FRep L (Pub X L g (w1.setCell ⟨g, j, none⟩ v')) (w1.setCell ⟨g, j, none⟩ v') vc v' vx vt ⟨f.cs, f.ss ++ [y], f.g⟩ ∧ (w1.setCell ⟨g, j, none⟩ v').heap[g]? = (w.setCell ⟨g, j, none⟩ v').heap[g]? := by
 have hg : g < w.heap.size := (Array.getElem?_eq_some_iff.1 hh).1
 have hoff : vs.ownBlock ≠ some g := h.s.off hh hL.ps
 obtain ⟨hs, hk, hr⟩ := push_core (v' := v') hg hj hv hoff hB hgrow hat
 refine ⟨hs, ⟨h.c.stay Crep.kept (hs.pub X) fun k e => hk k (h.c.lt k e) (fun e' => h.c.off hh hL.pc (e' ▸ e)) (h.c.ne h.s hL.cs k e), RowR.snoc (hr _ _ _ _ hown) hcs hcl (fun i c x h1 h2 => (Srep.kept L) _ _ _ _ _ _ (hrep i c x h1 h2) (hs.pub X)) hc ((Srep.kept L) _ _ _ _ _ _ hy (hs.pub X)), h.x.stay Xrep.kept (hs.pub X) fun k e => hk k (h.x.lt k e) (fun e' => h.x.off hh hL.px (e' ▸ e)) (h.x.ne h.s hL.sx.symm k e), h.t.stay (Trep.kept L) (hs.pub X) fun k e => hk k (h.t.lt k e) (fun e' => h.t.off hh hL.pt (e' ▸ e)) (h.t.ne h.s hL.st.symm k e)⟩, ?_⟩
 ·have e : w1.heap[g]? = w.heap[g]? := grown_cell hB hg hgrow hoff
  simp only [World.setCell, Array.getElem?_modify, e]
theorem FRep.pushX (hL : LayOK L) (hh : w.heap[g]? = some (.cells cur L.pa (0, 0))) (h : FRep L (Pub X L g w) w vc vs vx vt f) (hj : j ∈ L.J) (hv : w.cell? ⟨g, j, none⟩ = some vx) (hB : Below w.heap.size w w0) (y : XM) {c : List Value} (hc : c.length = 5) (hy : Xrep (Pub X L g w) w c y) {cs : List (List Value)}
  (hown : w1.ownsRow 0 L.ex 5 v' (f.g.xs.length + 1) (cs.flatten ++ c)) (hcs : cs.length = f.g.xs.length) (hcl : ∀ c ∈ cs, c.length = 5) (hrep : ∀ (i : Nat) c x, cs[i]? = some c → f.g.xs[i]? = some x → Xrep (Pub X L g w) w c x)
  (hgrow : w0.grownBy w1 vx.ownBlock) (hat : v'.ownBlock = vx.ownBlock ∨ v'.ownBlock = some w0.heap.size) :
  St0 L g w (w1.setCell ⟨g, j, none⟩ v') ∧ FRep L (Pub X L g (w1.setCell ⟨g, j, none⟩ v')) (w1.setCell ⟨g, j, none⟩ v') vc vs v' vt (f.setG (f.g.addX y)) ∧ (w1.setCell ⟨g, j, none⟩ v').heap[g]? = (w.setCell ⟨g, j, none⟩ v').heap[g]? := by
 have hg : g < w.heap.size := (Array.getElem?_eq_some_iff.1 hh).1
 have hoff : vx.ownBlock ≠ some g := h.x.off hh hL.px
 obtain ⟨hs, hk, hr⟩ := push_core (v' := v') hg hj hv hoff hB hgrow hat
 refine ⟨hs, ⟨h.c.stay Crep.kept (hs.pub X) fun k e => hk k (h.c.lt k e) (fun e' => h.c.off hh hL.pc (e' ▸ e)) (h.c.ne h.x hL.cx k e), h.s.stay (Srep.kept L) (hs.pub X) fun k e => hk k (h.s.lt k e) (fun e' => h.s.off hh hL.ps (e' ▸ e)) (h.s.ne h.x hL.sx k e), RowR.snoc (hr _ _ _ _ hown) hcs hcl (fun i c x h1 h2 => Xrep.kept _ _ _ _ _ _ (hrep i c x h1 h2) (hs.pub X)) hc (Xrep.kept _ _ _ _ _ _ hy (hs.pub X)), h.t.stay (Trep.kept L) (hs.pub X) fun k e => hk k (h.t.lt k e) (fun e' => h.t.off hh hL.pt (e' ▸ e)) (h.t.ne h.x hL.xt.symm k e)⟩, ?_⟩
 ·have e : w1.heap[g]? = w.heap[g]? := grown_cell hB hg hgrow hoff
  simp only [World.setCell, Array.getElem?_modify, e]
theorem FRep.pushT (hL : LayOK L) (hh : w.heap[g]? = some (.cells cur L.pa (0, 0))) (h : FRep L (Pub X L g w) w vc vs vx vt f) (hj : j ∈ L.J) (hv : w.cell? ⟨g, j, none⟩ = some vt) (hB : Below w.heap.size w w0) (y : TM) {c : List Value} (hc : c.length = 8) (hy : (Trep L) (Pub X L g w) w c y) {cs : List (List Value)}
  (hown : w1.ownsRow 0 L.ty 8 v' (f.g.ts.length + 1) (cs.flatten ++ c)) (hcs : cs.length = f.g.ts.length) (hcl : ∀ c ∈ cs, c.length = 8) (hrep : ∀ (i : Nat) c x, cs[i]? = some c → f.g.ts[i]? = some x → (Trep L) (Pub X L g w) w c x)
  (hgrow : w0.grownBy w1 vt.ownBlock) (hat : v'.ownBlock = vt.ownBlock ∨ v'.ownBlock = some w0.heap.size) :
  St0 L g w (w1.setCell ⟨g, j, none⟩ v') ∧ FRep L (Pub X L g (w1.setCell ⟨g, j, none⟩ v')) (w1.setCell ⟨g, j, none⟩ v') vc vs vx v' (f.setG (f.g.addT y)) ∧ (w1.setCell ⟨g, j, none⟩ v').heap[g]? = (w.setCell ⟨g, j, none⟩ v').heap[g]? := by
 have hg : g < w.heap.size := (Array.getElem?_eq_some_iff.1 hh).1
 have hoff : vt.ownBlock ≠ some g := h.t.off hh hL.pt
 obtain ⟨hs, hk, hr⟩ := push_core (v' := v') hg hj hv hoff hB hgrow hat
 refine ⟨hs, ⟨h.c.stay Crep.kept (hs.pub X) fun k e => hk k (h.c.lt k e) (fun e' => h.c.off hh hL.pc (e' ▸ e)) (h.c.ne h.t hL.ct k e), h.s.stay (Srep.kept L) (hs.pub X) fun k e => hk k (h.s.lt k e) (fun e' => h.s.off hh hL.ps (e' ▸ e)) (h.s.ne h.t hL.st k e), h.x.stay Xrep.kept (hs.pub X) fun k e => hk k (h.x.lt k e) (fun e' => h.x.off hh hL.px (e' ▸ e)) (h.x.ne h.t hL.xt k e), RowR.snoc (hr _ _ _ _ hown) hcs hcl (fun i c x h1 h2 => (Trep.kept L) _ _ _ _ _ _ (hrep i c x h1 h2) (hs.pub X)) hc ((Trep.kept L) _ _ _ _ _ _ hy (hs.pub X))⟩, ?_⟩
 ·have e : w1.heap[g]? = w.heap[g]? := grown_cell hB hg hgrow hoff
  simp only [World.setCell, Array.getElem?_modify, e]
end
section
variable {X : Nat → Prop} {g b : Nat} {l : List Tok} {d : Nat} {f : FM}
theorem PInv.pushX {w w0 w1 : World} {v' vx : Value} (h : PInv X g b w l d f) (hb : b < 60000) (hv : w.cell? ⟨g, 3, none⟩ = some vx) (hB : Below w.heap.size w w0) (y : XM) {c : List Value} (hc : c.length = 5) (hy : Xrep (Pub X layP g w) w c y) {cs : List (List Value)}
  (hown : w1.ownsRow 0 layP.ex 5 v' (f.g.xs.length + 1) (cs.flatten ++ c)) (hcs : cs.length = f.g.xs.length) (hcl : ∀ c ∈ cs, c.length = 5) (hrep : ∀ (i : Nat) c x, cs[i]? = some c → f.g.xs[i]? = some x → Xrep (Pub X layP g w) w c x)
  (hgrow : w0.grownBy w1 vx.ownBlock) (hat : v'.ownBlock = vx.ownBlock ∨ v'.ownBlock = some w0.heap.size) :
  PInv X g (b + 1) (w1.setCell ⟨g, 3, none⟩ v') l d (f.setG (f.g.addX y)) ∧ St layP g w (w1.setCell ⟨g, 3, none⟩ v') := by
 obtain ⟨a, k, vc, vs, vx', vt, hh, h1, h2, h3, h4⟩ := h.mem
 have hv2 := hv
 rw [cell_of_row _ _ _ _ _ (0, 0) hh] at hv2
 simp only [List.getElem?_toArray, List.getElem?_cons_succ, List.getElem?_cons_zero, Option.some.injEq] at hv2
 subst hv2
 obtain ⟨hs, hf, he⟩ := h4.pushX layP_ok hh (by decide) hv hB y hc hy hown hcs hcl hrep hgrow hat
 refine ⟨⟨h.wf, h.env.stay (hs.pub X), ⟨a, k, vc, vs, v', vt, ?_, h1, h2, h3.stay (hs.pub X), hf⟩, h.dep, by have := h.pot; simp only [GM.addX, List.length_append, List.length_singleton]; omega, hb, h.lc, h.ls, fun k hk => (hs.stay k (h.priv k hk)).2⟩, hs, fun i hi => (World.cell?_of_block (a := ⟨g, i, none⟩) he).trans (World.cell?_setCell_other _ _ _ _ (by intro e; simp only [Addr.mk.injEq] at e; simp only [layP, List.mem_cons, List.mem_nil_iff, or_false] at hi; omega))⟩
 rw [he, cell_set_row hh (by simp)]
 rfl
theorem PInv.pushT {w w0 w1 : World} {v' vx : Value} (h : PInv X g b w l d f) (hb : b < 60000) (hv : w.cell? ⟨g, 4, none⟩ = some vx) (hB : Below w.heap.size w w0) (y : TM) {c : List Value} (hc : c.length = 8) (hy : Trep layP (Pub X layP g w) w c y) {cs : List (List Value)}
  (hown : w1.ownsRow 0 layP.ty 8 v' (f.g.ts.length + 1) (cs.flatten ++ c)) (hcs : cs.length = f.g.ts.length) (hcl : ∀ c ∈ cs, c.length = 8) (hrep : ∀ (i : Nat) c x, cs[i]? = some c → f.g.ts[i]? = some x → Trep layP (Pub X layP g w) w c x)
  (hgrow : w0.grownBy w1 vx.ownBlock) (hat : v'.ownBlock = vx.ownBlock ∨ v'.ownBlock = some w0.heap.size) :
  PInv X g (b + 1) (w1.setCell ⟨g, 4, none⟩ v') l d (f.setG (f.g.addT y)) ∧ St layP g w (w1.setCell ⟨g, 4, none⟩ v') := by
 obtain ⟨a, k, vc, vs, vx', vt, hh, h1, h2, h3, h4⟩ := h.mem
 have hv2 := hv
 rw [cell_of_row _ _ _ _ _ (0, 0) hh] at hv2
 simp only [List.getElem?_toArray, List.getElem?_cons_succ, List.getElem?_cons_zero, Option.some.injEq] at hv2
 subst hv2
 obtain ⟨hs, hf, he⟩ := h4.pushT layP_ok hh (by decide) hv hB y hc hy hown hcs hcl hrep hgrow hat
 refine ⟨⟨h.wf, h.env.stay (hs.pub X), ⟨a, k, vc, vs, vx', v', ?_, h1, h2, h3.stay (hs.pub X), hf⟩, h.dep, by have := h.pot; simp only [GM.addT, List.length_append, List.length_singleton]; omega, hb, h.lc, h.ls, fun k hk => (hs.stay k (h.priv k hk)).2⟩, hs, fun i hi => (World.cell?_of_block (a := ⟨g, i, none⟩) he).trans (World.cell?_setCell_other _ _ _ _ (by intro e; simp only [Addr.mk.injEq] at e; simp only [layP, List.mem_cons, List.mem_nil_iff, or_false] at hi; omega))⟩
 rw [he, cell_set_row hh (by simp)]
 rfl
theorem PInv.pushC {w w0 w1 : World} {v' vx : Value} (h : PInv X g b w l d f) (hb : f.cs.length < 64) (hv : w.cell? ⟨g, 1, none⟩ = some vx) (hB : Below w.heap.size w w0) (y : List UInt8 × Nat) {c : List Value} (hc : c.length = 2) (hy : Crep (Pub X layP g w) w c y) {cs : List (List Value)}
  (hown : w1.ownsRow 0 layP.co 2 v' (f.cs.length + 1) (cs.flatten ++ c)) (hcs : cs.length = f.cs.length) (hcl : ∀ c ∈ cs, c.length = 2) (hrep : ∀ (i : Nat) c x, cs[i]? = some c → f.cs[i]? = some x → Crep (Pub X layP g w) w c x)
  (hgrow : w0.grownBy w1 vx.ownBlock) (hat : v'.ownBlock = vx.ownBlock ∨ v'.ownBlock = some w0.heap.size) :
  PInv X g b (w1.setCell ⟨g, 1, none⟩ v') l d ⟨f.cs ++ [y], f.ss, f.g⟩ ∧ St0 layP g w (w1.setCell ⟨g, 1, none⟩ v') := by
 obtain ⟨a, k, vc, vs, vx', vt, hh, h1, h2, h3, h4⟩ := h.mem
 have hv2 := hv
 rw [cell_of_row _ _ _ _ _ (0, 0) hh] at hv2
 simp only [List.getElem?_toArray, List.getElem?_cons_succ, List.getElem?_cons_zero, Option.some.injEq] at hv2
 subst hv2
 obtain ⟨hs, hf, he⟩ := h4.pushC layP_ok hh (by decide) hv hB y hc hy hown hcs hcl hrep hgrow hat
 refine ⟨⟨h.wf, h.env.stay (hs.pub X), ⟨a, k, v', vs, vx', vt, ?_, h1, h2, h3.stay (hs.pub X), hf⟩, h.dep, h.pot, h.top, by simp only [List.length_append, List.length_singleton]; omega, h.ls, fun k hk => (hs.stay k (h.priv k hk)).2⟩, hs⟩
 rw [he, cell_set_row hh (by simp)]
 rfl
theorem PInv.pushS {w w0 w1 : World} {v' vx : Value} (h : PInv X g b w l d f) (hb : f.ss.length < 64) (hv : w.cell? ⟨g, 2, none⟩ = some vx) (hB : Below w.heap.size w w0) (y : SM) {c : List Value} (hc : c.length = 3) (hy : Srep layP (Pub X layP g w) w c y) {cs : List (List Value)}
  (hown : w1.ownsRow 0 layP.st 3 v' (f.ss.length + 1) (cs.flatten ++ c)) (hcs : cs.length = f.ss.length) (hcl : ∀ c ∈ cs, c.length = 3) (hrep : ∀ (i : Nat) c x, cs[i]? = some c → f.ss[i]? = some x → Srep layP (Pub X layP g w) w c x)
  (hgrow : w0.grownBy w1 vx.ownBlock) (hat : v'.ownBlock = vx.ownBlock ∨ v'.ownBlock = some w0.heap.size) :
  PInv X g b (w1.setCell ⟨g, 2, none⟩ v') l d ⟨f.cs, f.ss ++ [y], f.g⟩ ∧ St0 layP g w (w1.setCell ⟨g, 2, none⟩ v') := by
 obtain ⟨a, k, vc, vs, vx', vt, hh, h1, h2, h3, h4⟩ := h.mem
 have hv2 := hv
 rw [cell_of_row _ _ _ _ _ (0, 0) hh] at hv2
 simp only [List.getElem?_toArray, List.getElem?_cons_succ, List.getElem?_cons_zero, Option.some.injEq] at hv2
 subst hv2
 obtain ⟨hs, hf, he⟩ := h4.pushS layP_ok hh (by decide) hv hB y hc hy hown hcs hcl hrep hgrow hat
 refine ⟨⟨h.wf, h.env.stay (hs.pub X), ⟨a, k, vc, v', vx', vt, ?_, h1, h2, h3.stay (hs.pub X), hf⟩, h.dep, h.pot, h.top, h.lc, by simp only [List.length_append, List.length_singleton]; omega, fun k hk => (hs.stay k (h.priv k hk)).2⟩, hs⟩
 rw [he, cell_set_row hh (by simp)]
 rfl
set_option maxHeartbeats 1000000 in
set_option maxRecDepth 100000 in
theorem addX_any (y : XM) (c0 c1 c2 c3 c4 : Value) (w : World) (h : PInv X g b w l d f) (hb : b < 60000) (hy : Xrep (Pub X layP g w) w [c0, c1, c2, c3, c4] y) :
  Calls Tryz.prog 285 #[.pointer (some ⟨g, 0, none⟩), .agg #[c0, c1, c2, c3, c4]] w fun e' w' => e' = .returned (.int .i64 ((f.g.addX y).x : Int)) ∧ PInv X g (b + 1) w' l d (f.setG (f.g.addX y)) ∧ St layP g w w' := by
 have hg := h.lt
 have hp := h.pot
 obtain ⟨a, c, vc, vs, vx, vt, hh, h1, h2, h3, h4⟩ := h.mem
 obtain ⟨cs, own, q1, q2, q3⟩ := h4.x
 have hv : w.cell? ⟨g, 3, none⟩ = some vx := by rw [cell_of_row _ _ _ _ _ (0, 0) hh]; rfl
 have hne : vx.ownBlock ≠ some g := h4.x.off hh (by decide)
 have hf : w.frozen? ⟨g, 3, none⟩ = false := by simp [World.frozen?, hh]
 have h1c : ∀ u ∈ [c0, c1, c2, c3, c4], u.oneCell' = true := by
  obtain ⟨kv, e, ⟨_, hk⟩, _⟩ := hy
  simp only [List.cons.injEq, and_true] at e
  obtain ⟨rfl, rfl, rfl, rfl, rfl⟩ := e
  intro u hu
  simp only [List.mem_cons, List.mem_nil_iff, or_false] at hu
  rcases hu with rfl | rfl | rfl | rfl | rfl
  ·rfl
  ·rfl
  ·rfl
  ·rfl
  ·rcases hk with ⟨rfl, _⟩ | ⟨_, _, _, rfl, _⟩ <;> rfl
 obtain ⟨i0, hi, hz0, hz1, hz2⟩ := info_parts info_expr
 have H := hid h
 have HO := hid (fun w' (hb : Below w.heap.size w w') => (RowR.below own hb : w'.ownsRow 0 40 5 vx f.g.xs.length cs.flatten))
 have HC := hid h1c
 have HY := hid hy
 have HQ := hid q3
 have HQ1 := hid q1
 have HQ2 := hid q2
 clear h own hh h3 h4 hy q3 q2 q1 h1c h1 h2
 go_enter Tryz.func285, Tryz.ntmps285
 go_wp2_with fail
 go_region_law (refine step_one _ rfl _ _ 32 rfl 40 i0 _ 5 72 Tryz.underlying32 hi hz0 hz1 hz2 rfl (by decide) vx f.g.xs.length cs.flatten rfl (HO.out _ (below_two _ _ _)) _ _ [c0, c1, c2, c3, c4] rfl rfl (heap_two _ _ _) HC.out (by unfold maxLen; omega) (by omega) ?_; intro v' w1 hown hgrow hat; obtain ⟨a', cap', rfl⟩ := ownsRow_shape hown; have hw1 := grown_cell (below_two _ _ _) hg hgrow hne; have k1 : w1.cell? ⟨g, 3, none⟩ = some vx := (World.cell?_of_block (a := ⟨g, 3, none⟩) hw1).trans hv; have k2 : w1.frozen? ⟨g, 3, none⟩ = false := (World.frozen?_of_block (a := ⟨g, 3, none⟩) hw1).trans hf)
 all_goals
  obtain ⟨hI, hS⟩ := H.out.pushX hb hv (below_two _ _ _) y rfl HY.out hown HQ1.out HQ2.out HQ.out hgrow hat
  have HI := hid hI
  have HS := hid hS
  clear hI hS hown hgrow hat hw1
  go_wp2_with fail
  go_ret
  exact ⟨retI (by simp only [GM.x, GM.addX, List.length_append, List.length_singleton]; omega), HI.out, HS.out⟩
set_option maxHeartbeats 1000000 in
set_option maxRecDepth 100000 in
theorem addT_any (y : TM) (c0 c1 c2 c3 c4 c5 c6 c7 : Value) (w : World) (h : PInv X g b w l d f) (hb : b < 60000) (hy : Trep layP (Pub X layP g w) w [c0, c1, c2, c3, c4, c5, c6, c7] y) :
  Calls Tryz.prog 240 #[.pointer (some ⟨g, 0, none⟩), .agg #[c0, c1, c2, c3, c4, c5, c6, c7]] w fun e' w' => e' = .returned (.int .i64 ((f.g.addT y).t : Int)) ∧ PInv X g (b + 1) w' l d (f.setG (f.g.addT y)) ∧ St layP g w w' := by
 have hg := h.lt
 have hp := h.pot
 obtain ⟨a, c, vc, vs, vx, vt, hh, h1, h2, h3, h4⟩ := h.mem
 obtain ⟨cs, own, q1, q2, q3⟩ := h4.t
 have hv : w.cell? ⟨g, 4, none⟩ = some vt := by rw [cell_of_row _ _ _ _ _ (0, 0) hh]; rfl
 have hne : vt.ownBlock ≠ some g := h4.t.off hh (by decide)
 have hf : w.frozen? ⟨g, 4, none⟩ = false := by simp [World.frozen?, hh]
 have h1c : ∀ u ∈ [c0, c1, c2, c3, c4, c5, c6, c7], u.oneCell' = true := by
  obtain ⟨av, cv, e, ⟨_, hk⟩, _, ⟨_, hk'⟩, _⟩ := hy
  simp only [List.cons.injEq, and_true] at e
  obtain ⟨rfl, rfl, rfl, rfl, rfl, rfl, rfl, rfl⟩ := e
  intro u hu
  simp only [List.mem_cons, List.mem_nil_iff, or_false] at hu
  rcases hu with rfl | rfl | rfl | rfl | rfl | rfl | rfl | rfl
  ·rfl
  ·rfl
  ·rfl
  ·rfl
  ·rcases hk with ⟨rfl, _⟩ | ⟨_, _, _, rfl, _⟩ <;> rfl
  ·rfl
  ·rfl
  ·rcases hk' with ⟨rfl, _⟩ | ⟨_, _, _, rfl, _⟩ <;> rfl
 obtain ⟨i0, hi, hz0, hz1, hz2⟩ := info_parts info_type
 have H := hid h
 have HO := hid (fun w' (hb : Below w.heap.size w w') => (RowR.below own hb : w'.ownsRow 0 44 8 vt f.g.ts.length cs.flatten))
 have HC := hid h1c
 have HY := hid hy
 have HQ := hid q3
 have HQ1 := hid q1
 have HQ2 := hid q2
 clear h own hh h3 h4 hy q3 q2 q1 h1c h1 h2
 go_enter Tryz.func240, Tryz.ntmps240
 go_wp2_with fail
 go_region_law (refine step_one _ rfl _ _ 33 rfl 44 i0 _ 8 104 Tryz.underlying33 hi hz0 hz1 hz2 rfl (by decide) vt f.g.ts.length cs.flatten rfl (HO.out _ (below_two _ _ _)) _ _ [c0, c1, c2, c3, c4, c5, c6, c7] rfl rfl (heap_two _ _ _) HC.out (by unfold maxLen; omega) (by omega) ?_; intro v' w1 hown hgrow hat; obtain ⟨a', cap', rfl⟩ := ownsRow_shape hown; have hw1 := grown_cell (below_two _ _ _) hg hgrow hne; have k1 : w1.cell? ⟨g, 4, none⟩ = some vt := (World.cell?_of_block (a := ⟨g, 4, none⟩) hw1).trans hv; have k2 : w1.frozen? ⟨g, 4, none⟩ = false := (World.frozen?_of_block (a := ⟨g, 4, none⟩) hw1).trans hf)
 all_goals
  obtain ⟨hI, hS⟩ := H.out.pushT hb hv (below_two _ _ _) y rfl HY.out hown HQ1.out HQ2.out HQ.out hgrow hat
  have HI := hid hI
  have HS := hid hS
  clear hI hS hown hgrow hat hw1
  go_wp2_with fail
  go_ret
  exact ⟨retI (by simp only [GM.t, GM.addT, List.length_append, List.length_singleton]; omega), HI.out, HS.out⟩
end
end Go.Proofs.YtomimkgaelkaoaaGreatDoor
