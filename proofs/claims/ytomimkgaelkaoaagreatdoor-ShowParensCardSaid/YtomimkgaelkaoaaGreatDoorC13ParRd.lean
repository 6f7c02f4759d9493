/- Layer 7: the program's parser: files. · Layer 7: what is read of a File in memory, whoever made it. -/
import Derived.Test.YtomimkgaelkaoaaGreatDoorC13ParSt
import Derived.Test.YtomimkgaelkaoaaGreatDoorC13ParLv
set_option linter.unusedVariables false
set_option linter.unusedSimpArgs false
namespace Go.Proofs.YtomimkgaelkaoaaGreatDoor
open Go.Lib (hid)
open Go.ChangeShapes Go.WideShapes Go.ChangeAt Go.RowKit
theorem putSs_len (l : List SA) : ∀ (g : GM) (ks : List SM), (l.foldl stepS (g, ks)).2.length = ks.length + l.length := by
 induction l with
 | nil => intro g ks; simp
 | cons a r ih =>
  intro g ks
  rw [List.foldl_cons]
  show (r.foldl stepS ((putS a g).1, ks ++ [(putS a g).2])).2.length = _
  rw [ih, List.length_append, List.length_singleton, List.length_cons]; omega
theorem putSs_length (l : List SA) (g : GM) : (putSs l g).2.length = l.length := by unfold putSs; rw [putSs_len]; simp
theorem putF_const (cs : List (List UInt8 × Nat)) (ss : List SA) (c : List UInt8 × Nat) : (⟨(putF cs ss).cs ++ [c], (putF cs ss).ss, (putF cs ss).g⟩ : FM) = putF (cs ++ [c]) ss := rfl
theorem putF_struct (cs : List (List UInt8 × Nat)) (ss : List SA) (x : SA) : (⟨(putF cs ss).cs, (putF cs ss).ss ++ [(putS x (putF cs ss).g).2], (putS x (putF cs ss).g).1⟩ : FM) = putF cs (ss ++ [x]) := by
 unfold putF
 rw [putSs_snoc]
 rfl
theorem info_const : (Tryz.prog.info? 46).map (fun i => (i.zero, i.size, i.bytes)) = some (some (.agg #[.string ⟨#[]⟩, .int .u64 0]), 2, 24) := by kernel_rfl
theorem info_struct : (Tryz.prog.info? 110).map (fun i => (i.zero, i.size, i.bytes)) = some (some (.agg #[.string ⟨#[]⟩, .slice none 0 0, .slice none 0 0]), 3, 64) := by kernel_rfl
theorem enter_const (args : Array Value) (w : World) : (callFunc 77 args).run Tryz.prog w = .ok (.enter 77 args) w :=
 Go.MuLone.run_callFunc_enter Tryz.func77 (by kernel_rfl) (c := (Tryz.f77.body).getD default) (by kernel_rfl) args w
theorem enter_struct (args : Array Value) (w : World) : (callFunc 78 args).run Tryz.prog w = .ok (.enter 78 args) w :=
 Go.MuLone.run_callFunc_enter Tryz.func78 (by kernel_rfl) (c := (Tryz.f78.body).getD default) (by kernel_rfl) args w
section
variable {X : Nat → Prop} {g b : Nat} {w : World} {l : List Tok} {d : Nat} {f : FM} {v : Value}
theorem PInv.rowC (h : PInv X g b w l d f) (hv : w.cell? ⟨g, 1, none⟩ = some v) : RowR Crep layP.co 2 (Pub X layP g w) w v f.cs := by
 obtain ⟨a, c', vc, vs, vx, vt, hh, h1, h2, h3, h4⟩ := h.mem
 rw [cell_of_row _ _ _ _ _ (0, 0) hh] at hv
 simp only [List.getElem?_toArray, List.getElem?_cons_succ, List.getElem?_cons_zero, Option.some.injEq] at hv
 rw [← hv]; exact h4.c
theorem PInv.rowS (h : PInv X g b w l d f) (hv : w.cell? ⟨g, 2, none⟩ = some v) : RowR (Srep layP) layP.st 3 (Pub X layP g w) w v f.ss := by
 obtain ⟨a, c', vc, vs, vx, vt, hh, h1, h2, h3, h4⟩ := h.mem
 rw [cell_of_row _ _ _ _ _ (0, 0) hh] at hv
 simp only [List.getElem?_toArray, List.getElem?_cons_succ, List.getElem?_cons_zero, Option.some.injEq] at hv
 rw [← hv]; exact h4.s
theorem PInv.frz (h : PInv X g b w l d f) : ∀ j, w.frozen? ⟨g, j, none⟩ = false := by
 obtain ⟨k, o, c, q0, q5, qf, _⟩ := h.look
 exact qf
theorem PInv.two (h : PInv X g b w l d f) : ∃ a c a' c', w.cell? ⟨g, 1, none⟩ = some (.slice a f.cs.length c) ∧ w.cell? ⟨g, 2, none⟩ = some (.slice a' f.ss.length c') ∧ (Value.slice a f.cs.length c).ownBlock ≠ some g ∧ (Value.slice a' f.ss.length c').ownBlock ≠ some g := by
 obtain ⟨a, c', vc, vs, vx, vt, hh, h1, h2, h3, h4⟩ := h.mem
 obtain ⟨p, q, e⟩ := h4.c.shape
 obtain ⟨p', q', e'⟩ := h4.s.shape
 refine ⟨p, q, p', q', ?_, ?_, e ▸ h4.c.off hh (by decide), e' ▸ h4.s.off hh (by decide)⟩
 ·rw [cell_of_row _ _ _ _ _ (0, 0) hh, ← e]; rfl
 ·rw [cell_of_row _ _ _ _ _ (0, 0) hh, ← e']; rfl
end
def FilePost (X : Nat → Prop) (g b : Nat) (w : World) (r : PR (List (List UInt8 × Nat) × List SA)) (e : Ending) (w' : World) : Prop :=
 (match r with | .ok a l => e = .returned (.tuple #[]) ∧ PInv X g b w' l 0 (putF a.1 a.2) | .bad l x => e = .panicked (flt l x)) ∧ St0 layP g w w'
theorem const_len {l l' : List Tok} {x : List UInt8 × Nat} (hw : WF l) (h : constP l = .ok x l') : l'.length < l.length ∧ WF l' := by
 have : Good 5 l (constP l) := Good.mono (s := 1 + (1 + (1 + (1 + (1 + 0))))) ((good_need _ _ (by decide)).bind fun _ _ _ => (good_name _).bind fun _ _ _ => (good_need _ _ (by decide)).bind fun _ _ _ => (good_num _).bind fun _ _ _ => (good_need _ _ (by decide)).bind fun _ _ _ => .ok _ _) (by omega)
 have := this hw
 rw [h] at this
 exact ⟨by have := this.2; omega, this.1⟩
theorem good_itemsL : ∀ (n : Nat) (is : List IA) (l : List Tok), Good 0 l (itemsL n is l)
 | 0, _, l => by rw [itemsL]; exact .bad _ _ (by decide)
 | n + 1, is, l => by
  rw [itemsL]
  split
  ·rename_i h
   exact Good.mono (s := 0 + 1) (Good.isT h (by decide) (.ok _ _)) (by omega)
  ·refine Good.mono (s := 0 + (0 + (1 + 0))) ((good_expect _ _).bind fun _ l1 h1 => ?_) (by omega)
   obtain ⟨rfl, _⟩ := expect_same h1
   refine (good_room _ _).bind fun _ l2 h2 => ?_
   obtain ⟨rfl, _⟩ := room_same h2
   exact (good_item _ _).bind fun _ _ _ => good_itemsL n _ _
theorem good_struct (n : Nat) (l : List Tok) : Good 3 l (structP n l) := by
 unfold structP
 refine Good.mono (s := 1 + (1 + (0 + (1 + (0 + 0))))) ((good_need _ _ (by decide)).bind fun _ _ _ => (good_name _).bind fun _ l2 _ => Good.bind ?_ fun _ _ _ => (good_need _ _ (by decide)).bind fun _ _ _ => (good_itemsL n _ _).bind fun _ _ _ => .ok _ _) (by omega)
 unfold optP
 split
 ·rename_i h
  unfold paramsP
  exact Good.mono (s := 1 + (0 + (1 + 0)) + 1) (Good.isT h (by decide) ((good_name _).bind fun _ _ _ => (good_paramsL n _ _).bind fun _ _ _ => (good_need _ _ (by decide)).bind fun _ _ _ => .ok _ _)) (by omega)
 ·exact .ok _ _
theorem struct_len {n : Nat} {l l' : List Tok} {x : SA} (hw : WF l) (h : structP n l = .ok x l') : l'.length < l.length ∧ WF l' := by
 have := good_struct n l hw
 rw [h] at this
 exact ⟨by have := this.2; omega, this.1⟩
set_option maxHeartbeats 4000000 in
set_option maxRecDepth 100000 in
theorem file_any (n : Nat) {X : Nat → Prop} {g b : Nat} {l : List Tok} (w : World) (h : PInv X g b w l 0 (putF [] [])) (hn : 8 * l.length + 6 ≤ n) :
  Calls Tryz.prog 35 #[.pointer (some ⟨g, 0, none⟩)] w (FilePost X g b w (fileL n [] [] l)) := by
 have H := hid h
 obtain ⟨i0, hi, hz0, hz1, hz2⟩ := info_parts info_const
 obtain ⟨j0, hj, hy0, hy1, hy2⟩ := info_parts info_struct
 obtain ⟨R, HR⟩ : ∃ R, Hid (R = fileL n [] [] l) := ⟨_, hid rfl⟩
 rw [← HR.out]
 clear h
 go_enter Tryz.func35, Tryz.ntmps35
 go_wp2_with fail
 go_loopw [6] (fun s6 wr => ∃ (m : Nat) (cs : List (List UInt8 × Nat)) (ss : List SA) (l' : List Tok), PInv X g b wr l' 0 (putF cs ss) ∧ St0 layP g w wr ∧ Hid (R = fileL m cs ss l') ∧ 8 * l'.length + 6 ≤ m) (fun _ wr => tokN g wr)
 case atStart => exact ⟨n, [], [], l, H.out, St0.refl _ _ _, HR, hn⟩
 case round =>
  obtain ⟨m, cs, ss, l', hI, hS, HH, hm⟩ := hrel
  have hl := hI.wf.pos
  have htok := hid hI.tokN
  obtain ⟨m, rfl⟩ : ∃ m', m = m' + 1 := ⟨m - 1, by omega⟩
  have hw' := hI.wf
  obtain ⟨k, o, c, q0, q5, qf, qkl, qc, qm, e0, e1, e2, e3, e4⟩ := hI.look
  obtain ⟨ua, uc, xa, xc, u1, u2, u3, u4⟩ := hI.two
  have hcs64 : cs.length ≤ 64 := hI.lc
  have hss64 : (putSs ss gm0).2.length ≤ 64 := hI.ls
  change wr.cell? _ = some (.slice ua cs.length uc) at u1
  change wr.cell? _ = some (.slice xa (putSs ss gm0).2.length xc) at u2
  change (Value.slice ua cs.length uc).ownBlock ≠ some g at u3
  change (Value.slice xa (putSs ss gm0).2.length xc).ownBlock ≠ some g at u4
  have b3 : (((hd l').tk.k : Int) == 3) = decide ((hd l').tk.k = 3) := beq_nat (hd l').tk.k 3
  unfold maxLen at qm
  have HI := hid hI
  have HS := hid hS
  clear hI hS e1 e2 e3 e4 q5
  by_cases hk3 : (hd l').tk.k = 3
  ·have HF : Hid (R = .ok (cs, ss) l') := hid (by rw [HH.out, fileL, if_pos hk3])
   rw [decide_eq_true hk3] at b3
   clear HH hk3
   go_wp2_with fail
   go_end0
   rw [HF.out]
   exact ⟨⟨rfl, HI.out⟩, HS.out⟩
  ·rw [decide_eq_false hk3] at b3
   have hR1 : R = if isT kConst l' = true then (roomP cs.length l').bind fun _ _ => (constP l').bind fun c l1 => fileL m (cs ++ [c]) ss l1 else if isT kStruct l' = true then (roomP ss.length l').bind fun _ _ => (structP m l').bind fun s l1 => fileL m cs (ss ++ [s]) l1 else .bad l' 4 := by rw [HH.out, fileL, if_neg hk3]
   clear HH hk3
   have A := fun q (hq : isT kConst l' = q) => at_kConst wr HI.out hq
   have B := fun q (hq : isT kStruct l' = q) => at_kStruct wr HI.out hq
   cases f1 : isT kConst l'
   ·have HA := hid (A false f1)
    rw [f1, if_neg (by decide)] at hR1
    cases f2 : isT kStruct l'
    ·have HB := hid (B false f2)
     rw [f2, if_neg (by decide)] at hR1
     have HR3 := hid hR1
     have CF := hid (fail_any 4 wr HI.out)
     clear hR1 A B f1 f2
     go_wp2_with (first | (go_at_call 75; first | ((with_reducible refine HA.out.mono ?_); rintro e w' ⟨rfl, rfl⟩) | ((with_reducible refine HB.out.mono ?_); rintro e w' ⟨rfl, rfl⟩)) | (go_at_call 79; go_must (refine CF.out.mono ?_; rintro e w' ⟨rfl, rfl⟩)))
     rw [HR3.out]
     exact ⟨rfl, rfl, HS.out⟩
    ·have HB := hid (B true f2)
     rw [f2, if_pos rfl] at hR1
     have hR2 := hR1
     clear hR1 A B f1 f2
     by_cases h64 : 64 ≤ (putSs ss gm0).2.length
     ·rw [roomP, if_pos ((putSs_length ss gm0 ▸ ·) h64), PR.bind_bad] at hR2
      have cr := room_any (putSs ss gm0).2.length hss64 wr HI.out
      rw [if_pos h64] at cr
      have CRM := hid cr
      have HR3 := hid hR2
      clear hR2 cr
      go_wp2_with (first | (go_at_call 75; first | ((with_reducible refine HA.out.mono ?_); rintro e w' ⟨rfl, rfl⟩) | ((with_reducible refine HB.out.mono ?_); rintro e w' ⟨rfl, rfl⟩)) | (go_at_call 76; go_must (refine CRM.out.mono ?_; rintro e w' ⟨rfl, rfl⟩)))
      rw [HR3.out]
      exact ⟨rfl, rfl, HS.out⟩
     ·rw [roomP, if_neg (fun e => h64 ((putSs_length ss gm0).symm ▸  e)), PR.bind_ok] at hR2
      have cr := room_any (putSs ss gm0).2.length hss64 wr HI.out
      rw [if_neg h64] at cr
      have CRM := hid cr
      have c7 : ∀ w7, PInv X g b w7 l' 0 (putF cs ss) → _ := fun w7 hi => struct_any m w7 hi (by omega)
      rcases h7 : structP m l' with ⟨y, l7⟩ | ⟨l7, x⟩
      all_goals rw [h7] at c7 hR2; have C7 := hid c7; clear c7 cr
      ·obtain ⟨hl7, hw7⟩ := struct_len hw' h7
       rw [PR.bind_ok] at hR2
       have HR3 := hid hR2
       have HId := hid (HI.out.below ((Below.refl _ wr).drew))
       have D8 := hid (C7.out wr.drew HId.out)
       clear hR2 h7
       go_wp2_with (first | (go_at_call 75; first | ((with_reducible refine HA.out.mono ?_); rintro e w' ⟨rfl, rfl⟩) | ((with_reducible refine HB.out.mono ?_); rintro e w' ⟨rfl, rfl⟩)) | (go_at_call 76; go_must (refine CRM.out.mono ?_; rintro e w' ⟨rfl, rfl⟩)))
       go_region_law (first | (refine step_call (by rfl) 78 _ 188 (by rfl) enter_struct _ (by rfl) D8.out ?_; rintro e7 w7 ⟨⟨_, rfl, ⟨c0, c1, c2, rfl, pv, iv, hcs, hs1, hs2, hs3, hs4⟩, hI7⟩, hS7⟩; cases hcs; obtain ⟨pa, pc, rfl⟩ := ownsRow_shape hs1; obtain ⟨ia, ic, rfl⟩ := RowR.shape hs3; have HM : Hid (Srep layP (Pub X layP g w7) w7 [.string (bs (putS y (putF cs ss).g).2.s), .slice pa (putS y (putF cs ss).g).2.ps.length pc, .slice ia (putS y (putF cs ss).g).2.is.length ic] (putS y (putF cs ss).g).2) := hid ⟨_, _, rfl, hs1, hs2, hs3, hs4⟩; clear hs1 hs2 hs3 hs4; have hk7 := hS7.keep 2 (by decide); have z7 : w7.cell? ⟨g, 2, none⟩ = some (.slice xa (putSs ss gm0).2.length xc) := hk7.trans u2; obtain ⟨qs, qown, q1, q2, q3⟩ := hI7.rowS z7; have QOWN := hid qown; have Q1 := hid q1; have Q2 := hid q2; have Q3 := hid q3; have zf7 := hI7.frz; have z7a := (s_alloc z7 (zf7 2) hI7.lt (.cells #[.string (bs (putS y (putF cs ss).g).2.s), .slice pa (putS y (putF cs ss).g).2.ps.length pc, .slice ia (putS y (putF cs ss).g).2.is.length ic] 110)).1; have HI7 := hid hI7; clear hI7 hk7 qown q1 q2 q3) | (refine step_one _ (by rfl) _ _ 31 (by rfl) 110 j0 _ 3 64 Tryz.underlying31 hj hy0 hy1 hy2 rfl (by decide) (.slice xa (putSs ss gm0).2.length xc) (putSs ss gm0).2.length qs.flatten (by rfl) (RowR.below QOWN.out (below_box _ _)) _ _ [.string (bs (putS y (putF cs ss).g).2.s), .slice pa (putS y (putF cs ss).g).2.ps.length pc, .slice ia (putS y (putF cs ss).g).2.is.length ic] (by rfl) rfl (heap_alloc_new _ _) (by simp [Value.oneCell']) (by unfold maxLen; omega) (by omega) ?_; intro v' w9 hown hgrow hat; obtain ⟨va', vc', rfl⟩ := ownsRow_shape hown; have HOW := hid hown; have HG := hid hgrow; have HAT := hid hat; have hw9 := grown_cell (below_box w7 _) HI7.out.lt hgrow u4; have k1 : w9.cell? ⟨g, 2, none⟩ = some (.slice xa (putSs ss gm0).2.length xc) := (World.cell?_of_block (a := ⟨g, 2, none⟩) hw9).trans z7; have k2 : w9.frozen? ⟨g, 2, none⟩ = false := (World.frozen?_of_block (a := ⟨g, 2, none⟩) hw9).trans (zf7 2); clear hown hgrow hat hw9))
       all_goals
        obtain ⟨hI10, hS10⟩ := HI7.out.pushS (w0 := w7.alloc (.cells #[.string (bs (putS y (putF cs ss).g).2.s), .slice pa (putS y (putF cs ss).g).2.ps.length pc, .slice ia (putS y (putF cs ss).g).2.is.length ic] 110)) (Nat.lt_of_not_le h64) z7 (below_box w7 _) (putS y (putF cs ss).g).2 rfl HM.out HOW.out Q1.out Q2.out Q3.out HG.out HAT.out
        have HI10 := hid hI10
        have HS10 : Hid (St0 layP g w _) := hid ((HS.out.trans ((St.refl layP g wr).drew HI.out.lt).toSt0).trans (hS7.toSt0.trans hS10))
        have htok9 := hid HI10.out.tokN
        clear hI10 hS10 z7 z7a zf7 k1 k2
        go_wp2_with fail
        refine ⟨⟨m, cs, ss ++ [y], l7, ?_, HS10.out, hid HR3.out, by omega⟩, ?_⟩
        ·exact (putF_struct cs ss y) ▸ HI10.out
        ·rw [htok9.out, htok.out]; omega
      ·rw [PR.bind_bad] at hR2
       have HR3 := hid hR2
       have HId := hid (HI.out.below ((Below.refl _ wr).drew))
       have D8 := hid (C7.out wr.drew HId.out)
       clear hR2 h7
       go_wp2_with (first | (go_at_call 75; first | ((with_reducible refine HA.out.mono ?_); rintro e w' ⟨rfl, rfl⟩) | ((with_reducible refine HB.out.mono ?_); rintro e w' ⟨rfl, rfl⟩)) | (go_at_call 76; go_must (refine CRM.out.mono ?_; rintro e w' ⟨rfl, rfl⟩)))
       refine wp_region_any (by kernel_rfl) ?_
       change wpAny _ _ _ _ _ _ _ (World.drew _)
       refine wpAny_take (i := 0) (v := ?_) rfl (by kernel_rfl) (by kernel_rfl) (by kernel_rfl) (fun _ _ _ h => h) (Or.inl ⟨by rfl, ?_⟩) ?_
       rotate_left
       ·intro w; go_simp; try (with_reducible rfl)
       refine wpAny_take (i := 1) (v := ?_) rfl (by kernel_rfl) (by kernel_rfl) (by kernel_rfl) (fun _ _ _ h => h) (Or.inl ⟨by rfl, ?_⟩) ?_
       rotate_left
       ·intro w; go_simp; try (with_reducible rfl)
       refine wpAny_take (i := 2) (v := ?_) rfl (by kernel_rfl) (by kernel_rfl) (by kernel_rfl) (fun _ _ _ h => h) (Or.inl ⟨by rfl, ?_⟩) ?_
       rotate_left
       ·intro w; go_simp; try (with_reducible rfl)
       refine wpAny_take (i := 3) (v := ?_) rfl (by kernel_rfl) (by kernel_rfl) (by kernel_rfl) (fun _ _ _ h => h) (Or.inl ⟨by rfl, ?_⟩) ?_
       rotate_left
       ·intro w; go_simp; try (with_reducible rfl)
       refine wpAny_take (i := 5) (v := ?_) rfl (by kernel_rfl) (by kernel_rfl) (by kernel_rfl) (fun _ _ _ h => h) (Or.inl ⟨by rfl, ?_⟩) ?_
       rotate_left
       ·intro w; go_simp; try (with_reducible rfl)
       refine wpAny_ready (rs := [4, 6]) (by kernel_rfl) (by simp) ?_
       refine AllReady.cons rfl (fun K hK => ?_) ?_
       ·go_simp
        refine hK _ _ ?_
        clear hK K
        refine wpAny_ready (rs := [6]) (by kernel_rfl) (by simp) ?_
        refine AllReady.cons rfl (fun K hK => ?_) AllReady.nil
        (refine step_call (by rfl) 78 _ 188 (by rfl) enter_struct _ (by rfl) D8.out ?_; rintro e7 w7 ⟨rfl, hS7⟩; refine ⟨rfl, ?_⟩; rw [HR3.out]; exact ⟨rfl, (HS.out.trans ((St.refl layP g wr).drew HI.out.lt).toSt0).trans hS7.toSt0⟩)
       refine AllReady.cons rfl (fun K hK => ?_) AllReady.nil
       (refine step_call (by rfl) 78 _ 188 (by rfl) enter_struct _ (by rfl) D8.out ?_; rintro e7 w7 ⟨rfl, hS7⟩; refine ⟨rfl, ?_⟩; rw [HR3.out]; exact ⟨rfl, (HS.out.trans ((St.refl layP g wr).drew HI.out.lt).toSt0).trans hS7.toSt0⟩)
   ·have HA := hid (A true f1)
    rw [f1, if_pos rfl] at hR1
    have hR2 := hR1
    clear hR1 A B f1
    by_cases h64 : 64 ≤ cs.length
    ·rw [roomP, if_pos (id h64), PR.bind_bad] at hR2
     have cr := room_any cs.length hcs64 wr HI.out
     rw [if_pos h64] at cr
     have CRM := hid cr
     have HR3 := hid hR2
     clear hR2 cr
     go_wp2_with (first | (go_at_call 75; first | ((with_reducible refine HA.out.mono ?_); rintro e w' ⟨rfl, rfl⟩)) | (go_at_call 76; go_must (refine CRM.out.mono ?_; rintro e w' ⟨rfl, rfl⟩)))
     rw [HR3.out]
     exact ⟨rfl, rfl, HS.out⟩
    ·rw [roomP, if_neg (fun e => h64 (id e)), PR.bind_ok] at hR2
     have cr := room_any cs.length hcs64 wr HI.out
     rw [if_neg h64] at cr
     have CRM := hid cr
     have c7 : ∀ w7, PInv X g b w7 l' 0 (putF cs ss) → _ := fun w7 hi => const_any w7 hi
     rcases h7 : constP l' with ⟨y, l7⟩ | ⟨l7, x⟩
     all_goals rw [h7] at c7 hR2; have C7 := hid c7; clear c7 cr
     ·obtain ⟨hl7, hw7⟩ := const_len hw' h7
      rw [PR.bind_ok] at hR2
      have HR3 := hid hR2
      have HId := hid (HI.out.below ((Below.refl _ wr).drew))
      have D8 := hid (C7.out wr.drew HId.out)
      clear hR2 h7
      go_wp2_with (first | (go_at_call 75; first | ((with_reducible refine HA.out.mono ?_); rintro e w' ⟨rfl, rfl⟩)) | (go_at_call 76; go_must (refine CRM.out.mono ?_; rintro e w' ⟨rfl, rfl⟩)))
      go_region_law (first | (refine step_call (by rfl) 77 _ 188 (by rfl) enter_const _ (by rfl) D8.out ?_; rintro e7 w7 ⟨rfl, hI7, hS7⟩; have HM : Hid (Crep (Pub X layP g w7) w7 [.string (bs y.1), .int .u64 (y.2 : Int)] y) := hid rfl; have hk7 := hS7.keep 1 (by decide); have z7 : w7.cell? ⟨g, 1, none⟩ = some (.slice ua cs.length uc) := hk7.trans u1; obtain ⟨qs, qown, q1, q2, q3⟩ := hI7.rowC z7; have QOWN := hid qown; have Q1 := hid q1; have Q2 := hid q2; have Q3 := hid q3; have zf7 := hI7.frz; have z7a := (s_alloc z7 (zf7 1) hI7.lt (.cells #[.string (bs y.1), .int .u64 (y.2 : Int)] 46)).1; have HI7 := hid hI7; clear hI7 hk7 qown q1 q2 q3) | (refine step_one _ (by rfl) _ _ 30 (by rfl) 46 i0 _ 2 24 Tryz.underlying30 hi hz0 hz1 hz2 rfl (by decide) (.slice ua cs.length uc) cs.length qs.flatten (by rfl) (RowR.below QOWN.out (below_box _ _)) _ _ [.string (bs y.1), .int .u64 (y.2 : Int)] (by rfl) rfl (heap_alloc_new _ _) (by simp [Value.oneCell']) (by unfold maxLen; omega) (by omega) ?_; intro v' w9 hown hgrow hat; obtain ⟨va', vc', rfl⟩ := ownsRow_shape hown; have HOW := hid hown; have HG := hid hgrow; have HAT := hid hat; have hw9 := grown_cell (below_box w7 _) HI7.out.lt hgrow u3; have k1 : w9.cell? ⟨g, 1, none⟩ = some (.slice ua cs.length uc) := (World.cell?_of_block (a := ⟨g, 1, none⟩) hw9).trans z7; have k2 : w9.frozen? ⟨g, 1, none⟩ = false := (World.frozen?_of_block (a := ⟨g, 1, none⟩) hw9).trans (zf7 1); clear hown hgrow hat hw9))
      all_goals
       obtain ⟨hI10, hS10⟩ := HI7.out.pushC (w0 := w7.alloc (.cells #[.string (bs y.1), .int .u64 (y.2 : Int)] 46)) (Nat.lt_of_not_le h64) z7 (below_box w7 _) y rfl HM.out HOW.out Q1.out Q2.out Q3.out HG.out HAT.out
       have HI10 := hid hI10
       have HS10 : Hid (St0 layP g w _) := hid ((HS.out.trans ((St.refl layP g wr).drew HI.out.lt).toSt0).trans (hS7.toSt0.trans hS10))
       have htok9 := hid HI10.out.tokN
       clear hI10 hS10 z7 z7a zf7 k1 k2
       go_wp2_with fail
       refine ⟨⟨m, cs ++ [y], ss, l7, ?_, HS10.out, hid HR3.out, by omega⟩, ?_⟩
       ·exact (putF_const cs ss y) ▸ HI10.out
       ·rw [htok9.out, htok.out]; omega
     ·rw [PR.bind_bad] at hR2
      have HR3 := hid hR2
      have HId := hid (HI.out.below ((Below.refl _ wr).drew))
      have D8 := hid (C7.out wr.drew HId.out)
      clear hR2 h7
      go_wp2_with (first | (go_at_call 75; first | ((with_reducible refine HA.out.mono ?_); rintro e w' ⟨rfl, rfl⟩)) | (go_at_call 76; go_must (refine CRM.out.mono ?_; rintro e w' ⟨rfl, rfl⟩)))
      refine wp_region_any (by kernel_rfl) ?_
      change wpAny _ _ _ _ _ _ _ (World.drew _)
      refine wpAny_take (i := 0) (v := ?_) rfl (by kernel_rfl) (by kernel_rfl) (by kernel_rfl) (fun _ _ _ h => h) (Or.inl ⟨by rfl, ?_⟩) ?_
      rotate_left
      ·intro w; go_simp; try (with_reducible rfl)
      refine wpAny_take (i := 1) (v := ?_) rfl (by kernel_rfl) (by kernel_rfl) (by kernel_rfl) (fun _ _ _ h => h) (Or.inl ⟨by rfl, ?_⟩) ?_
      rotate_left
      ·intro w; go_simp; try (with_reducible rfl)
      refine wpAny_take (i := 2) (v := ?_) rfl (by kernel_rfl) (by kernel_rfl) (by kernel_rfl) (fun _ _ _ h => h) (Or.inl ⟨by rfl, ?_⟩) ?_
      rotate_left
      ·intro w; go_simp; try (with_reducible rfl)
      refine wpAny_take (i := 3) (v := ?_) rfl (by kernel_rfl) (by kernel_rfl) (by kernel_rfl) (fun _ _ _ h => h) (Or.inl ⟨by rfl, ?_⟩) ?_
      rotate_left
      ·intro w; go_simp; try (with_reducible rfl)
      refine wpAny_take (i := 5) (v := ?_) rfl (by kernel_rfl) (by kernel_rfl) (by kernel_rfl) (fun _ _ _ h => h) (Or.inl ⟨by rfl, ?_⟩) ?_
      rotate_left
      ·intro w; go_simp; try (with_reducible rfl)
      refine wpAny_ready (rs := [4, 6]) (by kernel_rfl) (by simp) ?_
      refine AllReady.cons rfl (fun K hK => ?_) ?_
      ·go_simp
       refine hK _ _ ?_
       clear hK K
       refine wpAny_ready (rs := [6]) (by kernel_rfl) (by simp) ?_
       refine AllReady.cons rfl (fun K hK => ?_) AllReady.nil
       (refine step_call (by rfl) 77 _ 188 (by rfl) enter_const _ (by rfl) D8.out ?_; rintro e7 w7 ⟨rfl, -, hS7⟩; refine ⟨rfl, ?_⟩; rw [HR3.out]; exact ⟨rfl, (HS.out.trans ((St.refl layP g wr).drew HI.out.lt).toSt0).trans hS7.toSt0⟩)
      refine AllReady.cons rfl (fun K hK => ?_) AllReady.nil
      (refine step_call (by rfl) 77 _ 188 (by rfl) enter_const _ (by rfl) D8.out ?_; rintro e7 w7 ⟨rfl, -, hS7⟩; refine ⟨rfl, ?_⟩; rw [HR3.out]; exact ⟨rfl, (HS.out.trans ((St.refl layP g wr).drew HI.out.lt).toSt0).trans hS7.toSt0⟩)
end Go.Proofs.YtomimkgaelkaoaaGreatDoor
namespace Go.Proofs.YtomimkgaelkaoaaGreatDoor
open Go.Lib (hid)
open Go.ChangeShapes Go.WideShapes Go.ChangeAt Go.RowKit
theorem flat_at {α : Type} (size : Nat) : ∀ (cs : List (List α)), (∀ c ∈ cs, c.length = size) → ∀ i j, j < size → cs.flatten[i * size + j]? = (cs[i]?).bind (fun c => c[j]?)
 | [], _, i, j, _ => by simp
 | c :: r, h, 0, j, hj => by
  have hc := h c (by simp)
  rw [List.flatten_cons, List.getElem?_append_left (by omega)]
  simp
 | c :: r, h, i + 1, j, hj => by
  have hc := h c (by simp)
  have e : (i + 1) * size + j = size + (i * size + j) := by rw [Nat.add_mul]; omega
  rw [List.flatten_cons, List.getElem?_append_right (by omega), e, hc, show size + (i * size + j) - size = i * size + j from by omega, flat_at size r (fun x hx => h x (by simp [hx])) i j hj]
  rfl
def SlR {α : Type} (size : Nat) (rep : World → List Value → α → Prop) (w : World) (v : Value) (l : List α) : Prop :=
 ∃ a c, v = .slice a l.length c ∧ l.length ≤ c ∧ c ≤ maxLen ∧ ∀ (i : Nat) x, l[i]? = some x → ∃ k cs, a = some ⟨k, 0, none⟩ ∧ k < w.heap.size ∧ cs.length = size ∧ (∀ j, j < size → w.cell? ⟨k, i * size + j, none⟩ = cs[j]?) ∧ rep w cs x
def KeptB {α : Type} (rep : World → List Value → α → Prop) : Prop := ∀ (w w' : World) (cs : List Value) (x : α), Below w.heap.size w w' → rep w cs x → rep w' cs x
theorem SlR.below {α : Type} {size : Nat} {rep : World → List Value → α → Prop} (hk : KeptB rep) {w w' : World} {v : Value} {l : List α} (h : SlR size rep w v l) (hb : Below w.heap.size w w') : SlR size rep w' v l := by
 obtain ⟨a, c, h1, h2, h3, h4⟩ := h
 refine ⟨a, c, h1, h2, h3, fun i x hx => ?_⟩
 obtain ⟨k, cs, k1, k2, k3, k4, k5⟩ := h4 i x hx
 exact ⟨k, cs, k1, Nat.lt_of_lt_of_le k2 hb.size, k3, fun j hj => (hb.cell (p := ⟨k, _, none⟩) k2).trans (k4 j hj), hk _ _ _ _ hb k5⟩
theorem SlR.shape {α : Type} {size : Nat} {rep : World → List Value → α → Prop} {w : World} {v : Value} {l : List α} (h : SlR size rep w v l) : ∃ a c, v = .slice a l.length c ∧ l.length ≤ c ∧ c ≤ maxLen := by
 obtain ⟨a, c, h1, h2, h3, h4⟩ := h
 exact ⟨a, c, h1, h2, h3⟩
theorem SlR.at {α : Type} {size : Nat} {rep : World → List Value → α → Prop} {w : World} {a : Option Addr} {n c : Nat} {l : List α} (h : SlR size rep w (.slice a n c) l) {i : Nat} {x : α} (hx : l[i]? = some x) :
  ∃ k cs, a = some ⟨k, 0, none⟩ ∧ k < w.heap.size ∧ cs.length = size ∧ (∀ j, j < size → w.cell? ⟨k, i * size + j, none⟩ = cs[j]?) ∧ rep w cs x := by
 obtain ⟨a', c', h1, h2, h3, h4⟩ := h
 simp only [Value.slice.injEq] at h1
 obtain ⟨rfl, rfl, rfl⟩ := h1
 exact h4 i x hx
theorem SlR.of {α : Type} {size : Nat} {rep : World → List Value → α → Prop} {w : World} {v : Value} {l : List α} {E : TypeId} {cs : List (List Value)} (h0 : w.ownsRow 0 E size v l.length cs.flatten) (h1 : cs.length = l.length) (h2 : ∀ c ∈ cs, c.length = size)
  (h3 : ∀ (i : Nat) c x, cs[i]? = some c → l[i]? = some x → rep w c x) : SlR size rep w v l := by
 have h0' := h0
 obtain ⟨hn, h | ⟨g, cap, cur, hv, hg, hh, hc1, hc2⟩⟩ := h0
 ·obtain ⟨rfl, h⟩ := h
  have : l = [] := List.eq_nil_of_length_eq_zero h
  subst this
  exact ⟨none, 0, rfl, Nat.le_refl _, by unfold maxLen; omega, fun i x hx => by simp at hx⟩
 ·subst hv
  refine ⟨some ⟨g, 0, none⟩, cap, rfl, ?_, ?_, fun i x hx => ?_⟩
  ·exact hc1
  ·exact hc2.1
  ·have hi := (List.getElem?_eq_some_iff.1 hx).1
   have hci : i < cs.length := by omega
   have hc : cs[i]? = some cs[i] := List.getElem?_eq_getElem hci
   refine ⟨g, cs[i], rfl, (World.ownsRow.lt h0' g rfl).2, h2 _ (List.getElem_mem hci), fun j hj => ?_, h3 i _ x hc hx⟩
   rw [World.ownsRow.cellAt h0' (i * size + j) ?_, flat_at size cs h2 i j hj, hc]
   ·rfl
   ·have : (i + 1) * size ≤ l.length * size := Nat.mul_le_mul_right size (by omega)
    rw [Nat.add_mul] at this; omega
theorem SlR.ofMap {α : Type} {size : Nat} {w : World} {v : Value} {l : List α} {E : TypeId} {F : α → List Value} (h : w.ownsRow 0 E size v l.length (l.flatMap F)) (hf : ∀ x, (F x).length = size) : SlR size (fun _ c x => c = F x) w v l := by
 refine SlR.of (E := E) (cs := l.map F) (by rw [← List.flatMap_def]; exact h) (by simp) (fun c hc => ?_) fun i c x hc hx => ?_
 ·obtain ⟨x, _, rfl⟩ := List.mem_map.1 hc; exact hf x
 ·rw [List.getElem?_map, hx] at hc
  cases hc; rfl
theorem RowR.sl {α : Type} {rep : (Nat → Prop) → World → List Value → α → Prop} {rep' : World → List Value → α → Prop} {E : TypeId} {size : Nat} {P : Nat → Prop} {w : World} {v : Value} {l : List α} (h : RowR rep E size P w v l) (hr : ∀ c x, rep P w c x → rep' w c x) : SlR size rep' w v l := by
 obtain ⟨cs, h1, h2, h3, h4⟩ := h
 exact SlR.of h1 h2 h3 fun i c x hc hx => hr _ _ (h4 i c x hc hx)
def IntC (_ : World) (c : List Value) (n : Nat) : Prop := c = [.int .i64 (n : Int)]
def StrC (_ : World) (c : List Value) (s : List UInt8) : Prop := c = [.string (bs s)]
def CaC (_ : World) (c : List Value) (x : Nat × Nat) : Prop := c = [.int .u64 (x.1 : Int), .int .i64 (x.2 : Int)]
def SuC (_ : World) (c : List Value) (x : List UInt8 × Nat) : Prop := c = [.string (bs x.1), .int .i64 (x.2 : Int)]
def CoC (_ : World) (c : List Value) (x : List UInt8 × Nat) : Prop := c = [.string (bs x.1), .int .u64 (x.2 : Int)]
def XrC (w : World) (c : List Value) (x : XM) : Prop := ∃ kv, c = [.int .i64 (x.k : Int), .string (bs x.op), .int .u64 (x.n : Int), .string (bs x.s), kv] ∧ SlR 1 IntC w kv x.kids
def TrC (w : World) (c : List Value) (x : TM) : Prop := ∃ av cv, c = [.int .i64 (x.k : Int), .int .i64 (x.size : Int), .bool x.little, .string (bs x.s), av, .int .i64 x.e, .int .i64 x.i, cv] ∧ SlR 1 IntC w av x.args ∧ SlR 2 CaC w cv x.cs
def IrC (w : World) (c : List Value) (x : IM) : Prop := ∃ sv, c = [.string (bs x.s), .int .i64 x.t, .int .i64 (x.der : Int), .string (bs x.a), .string (bs x.b), .int .i64 x.wh, .int .i64 (x.size : Int), .bool x.little, sv] ∧ SlR 2 SuC w sv x.subs
def SrC (w : World) (c : List Value) (x : SM) : Prop := ∃ pv iv, c = [.string (bs x.s), pv, iv] ∧ SlR 1 StrC w pv x.ps ∧ SlR 9 IrC w iv x.is
theorem IntC.kept : KeptB IntC := fun _ _ _ _ _ h => h
theorem StrC.kept : KeptB StrC := fun _ _ _ _ _ h => h
theorem CaC.kept : KeptB CaC := fun _ _ _ _ _ h => h
theorem SuC.kept : KeptB SuC := fun _ _ _ _ _ h => h
theorem CoC.kept : KeptB CoC := fun _ _ _ _ _ h => h
theorem XrC.kept : KeptB XrC := fun _ _ _ _ hb ⟨kv, h, h1⟩ => ⟨kv, h, h1.below IntC.kept hb⟩
theorem TrC.kept : KeptB TrC := fun _ _ _ _ hb ⟨av, cv, h, h1, h2⟩ => ⟨av, cv, h, h1.below IntC.kept hb, h2.below CaC.kept hb⟩
theorem IrC.kept : KeptB IrC := fun _ _ _ _ hb ⟨sv, h, h1⟩ => ⟨sv, h, h1.below SuC.kept hb⟩
theorem SrC.kept : KeptB SrC := fun _ _ _ _ hb ⟨pv, iv, h, h1, h2⟩ => ⟨pv, iv, h, h1.below StrC.kept hb, h2.below IrC.kept hb⟩
theorem IntsV.sl {w : World} {v : Value} {l : List Nat} (h : IntsV w v l) : SlR 1 IntC w v l := by
 unfold IntsV at h
 rw [List.map_eq_flatMap] at h
 exact SlR.ofMap h fun _ => rfl
theorem StrsV.sl {w : World} {v : Value} {l : List (List UInt8)} (h : StrsV w v l) : SlR 1 StrC w v l := by
 unfold StrsV at h
 rw [List.map_eq_flatMap] at h
 exact SlR.ofMap h fun _ => rfl
theorem CasesV.sl {L : Lay} {w : World} {v : Value} {l : List (Nat × Nat)} (h : CasesV L w v l) : SlR 2 CaC w v l := SlR.ofMap h fun _ => rfl
theorem SubsV.sl {L : Lay} {w : World} {v : Value} {l : List (List UInt8 × Nat)} (h : SubsV L w v l) : SlR 2 SuC w v l := SlR.ofMap h fun _ => rfl
def FileR (g : Nat) (w : World) (f : FM) : Prop := ∃ v0 vc vs vx vt v5, w.heap[g]? = some (.cells #[v0, vc, vs, vx, vt, v5] 103 (0, 0)) ∧ SlR 2 CoC w vc f.cs ∧ SlR 3 SrC w vs f.ss ∧ SlR 5 XrC w vx f.g.xs ∧ SlR 8 TrC w vt f.g.ts
theorem FileR.lt {g : Nat} {w : World} {f : FM} (h : FileR g w f) : g < w.heap.size := by
 obtain ⟨v0, vc, vs, vx, vt, v5, h1, _⟩ := h
 exact (Array.getElem?_eq_some_iff.1 h1).1
theorem FileR.below {g : Nat} {w w' : World} {f : FM} (h : FileR g w f) (hb : Below w.heap.size w w') : FileR g w' f := by
 have hg := h.lt
 obtain ⟨v0, vc, vs, vx, vt, v5, h1, h2, h3, h4, h5⟩ := h
 exact ⟨v0, vc, vs, vx, vt, v5, (hb.block g hg).trans h1, h2.below CoC.kept hb, h3.below SrC.kept hb, h4.below XrC.kept hb, h5.below TrC.kept hb⟩
theorem PInv.file {X : Nat → Prop} {g b : Nat} {w : World} {l : List Tok} {d : Nat} {f : FM} (h : PInv X g b w l d f) : FileR g w f := by
 obtain ⟨a, c', vc, vs, vx, vt, hh, h1, h2, h3, h4⟩ := h.mem
 refine ⟨_, vc, vs, vx, vt, _, hh, h4.c.sl fun c x h => h, h4.s.sl ?_, h4.x.sl ?_, h4.t.sl ?_⟩
 ·rintro c x ⟨pv, iv, e, p1, _, p2, _⟩
  exact ⟨pv, iv, e, p1.sl, p2.sl fun c x ⟨sv, e, q, _⟩ => ⟨sv, e, q.sl⟩⟩
 ·rintro c x ⟨kv, e, p1, _⟩
  exact ⟨kv, e, p1.sl⟩
 ·rintro c x ⟨av, cv, e, p1, _, p2, _⟩
  exact ⟨av, cv, e, p1.sl, p2.sl⟩
theorem FileR.look {g : Nat} {w : World} {f : FM} (h : FileR g w f) : ∃ ac cc bs' cs ax cx at' ct, w.cell? ⟨g, 1, none⟩ = some (.slice ac f.cs.length cc) ∧ w.cell? ⟨g, 2, none⟩ = some (.slice bs' f.ss.length cs) ∧ w.cell? ⟨g, 3, none⟩ = some (.slice ax f.g.xs.length cx) ∧ w.cell? ⟨g, 4, none⟩ = some (.slice at' f.g.ts.length ct) ∧
  SlR 2 CoC w (.slice ac f.cs.length cc) f.cs ∧ SlR 3 SrC w (.slice bs' f.ss.length cs) f.ss ∧ SlR 5 XrC w (.slice ax f.g.xs.length cx) f.g.xs ∧ SlR 8 TrC w (.slice at' f.g.ts.length ct) f.g.ts ∧ g < w.heap.size := by
 have hg := h.lt
 obtain ⟨v0, vc, vs, vx, vt, v5, h1, h2, h3, h4, h5⟩ := h
 obtain ⟨ac, cc, rfl, _⟩ := h2.shape
 obtain ⟨bs', cs, rfl, _⟩ := h3.shape
 obtain ⟨ax, cx, rfl, _⟩ := h4.shape
 obtain ⟨at', ct, rfl, _⟩ := h5.shape
 refine ⟨ac, cc, bs', cs, ax, cx, at', ct, ?_, ?_, ?_, ?_, h2, h3, h4, h5, hg⟩
 all_goals
  rw [cell_of_row _ _ _ _ _ (0, 0) h1]
  rfl
theorem xs_at {w : World} {a : Option Addr} {n c : Nat} {l : List XM} (h : SlR 5 XrC w (.slice a n c) l) {i : Nat} {x : XM} (hx : l[i]? = some x) : ∃ k kv, a = some ⟨k, 0, none⟩ ∧ k < w.heap.size ∧ w.cell? ⟨k, i * 5, none⟩ = some (.int .i64 (x.k : Int)) ∧ w.cell? ⟨k, i * 5 + 1, none⟩ = some (.string (bs x.op)) ∧
  w.cell? ⟨k, i * 5 + 2, none⟩ = some (.int .u64 (x.n : Int)) ∧ w.cell? ⟨k, i * 5 + 3, none⟩ = some (.string (bs x.s)) ∧ w.cell? ⟨k, i * 5 + 4, none⟩ = some kv ∧ SlR 1 IntC w kv x.kids := by
 obtain ⟨k, cs, e, hk, hl, hc, kv, rfl, h1⟩ := h.at hx
 exact ⟨k, kv, e, hk, hc 0 (by decide), hc 1 (by decide), hc 2 (by decide), hc 3 (by decide), hc 4 (by decide), h1⟩
theorem ts_at {w : World} {a : Option Addr} {n c : Nat} {l : List TM} (h : SlR 8 TrC w (.slice a n c) l) {i : Nat} {x : TM} (hx : l[i]? = some x) : ∃ k av cv, a = some ⟨k, 0, none⟩ ∧ k < w.heap.size ∧ w.cell? ⟨k, i * 8, none⟩ = some (.int .i64 (x.k : Int)) ∧ w.cell? ⟨k, i * 8 + 1, none⟩ = some (.int .i64 (x.size : Int)) ∧
  w.cell? ⟨k, i * 8 + 2, none⟩ = some (.bool x.little) ∧ w.cell? ⟨k, i * 8 + 3, none⟩ = some (.string (bs x.s)) ∧ w.cell? ⟨k, i * 8 + 4, none⟩ = some av ∧ w.cell? ⟨k, i * 8 + 5, none⟩ = some (.int .i64 x.e) ∧ w.cell? ⟨k, i * 8 + 6, none⟩ = some (.int .i64 x.i) ∧ w.cell? ⟨k, i * 8 + 7, none⟩ = some cv ∧
  SlR 1 IntC w av x.args ∧ SlR 2 CaC w cv x.cs := by
 obtain ⟨k, cs, e, hk, hl, hc, av, cv, rfl, h1, h2⟩ := h.at hx
 exact ⟨k, av, cv, e, hk, hc 0 (by decide), hc 1 (by decide), hc 2 (by decide), hc 3 (by decide), hc 4 (by decide), hc 5 (by decide), hc 6 (by decide), hc 7 (by decide), h1, h2⟩
theorem is_at {w : World} {a : Option Addr} {n c : Nat} {l : List IM} (h : SlR 9 IrC w (.slice a n c) l) {i : Nat} {x : IM} (hx : l[i]? = some x) : ∃ k sv, a = some ⟨k, 0, none⟩ ∧ k < w.heap.size ∧ w.cell? ⟨k, i * 9, none⟩ = some (.string (bs x.s)) ∧ w.cell? ⟨k, i * 9 + 1, none⟩ = some (.int .i64 x.t) ∧
  w.cell? ⟨k, i * 9 + 2, none⟩ = some (.int .i64 (x.der : Int)) ∧ w.cell? ⟨k, i * 9 + 3, none⟩ = some (.string (bs x.a)) ∧ w.cell? ⟨k, i * 9 + 4, none⟩ = some (.string (bs x.b)) ∧ w.cell? ⟨k, i * 9 + 5, none⟩ = some (.int .i64 x.wh) ∧ w.cell? ⟨k, i * 9 + 6, none⟩ = some (.int .i64 (x.size : Int)) ∧ w.cell? ⟨k, i * 9 + 7, none⟩ = some (.bool x.little) ∧ w.cell? ⟨k, i * 9 + 8, none⟩ = some sv ∧
  SlR 2 SuC w sv x.subs := by
 obtain ⟨k, cs, e, hk, hl, hc, sv, rfl, h1⟩ := h.at hx
 exact ⟨k, sv, e, hk, hc 0 (by decide), hc 1 (by decide), hc 2 (by decide), hc 3 (by decide), hc 4 (by decide), hc 5 (by decide), hc 6 (by decide), hc 7 (by decide), hc 8 (by decide), h1⟩
theorem ss_at {w : World} {a : Option Addr} {n c : Nat} {l : List SM} (h : SlR 3 SrC w (.slice a n c) l) {i : Nat} {x : SM} (hx : l[i]? = some x) : ∃ k pv iv, a = some ⟨k, 0, none⟩ ∧ k < w.heap.size ∧ w.cell? ⟨k, i * 3, none⟩ = some (.string (bs x.s)) ∧ w.cell? ⟨k, i * 3 + 1, none⟩ = some pv ∧ w.cell? ⟨k, i * 3 + 2, none⟩ = some iv ∧
  SlR 1 StrC w pv x.ps ∧ SlR 9 IrC w iv x.is := by
 obtain ⟨k, cs, e, hk, hl, hc, pv, iv, rfl, h1, h2⟩ := h.at hx
 exact ⟨k, pv, iv, e, hk, hc 0 (by decide), hc 1 (by decide), hc 2 (by decide), h1, h2⟩
theorem ints_at {w : World} {a : Option Addr} {n c : Nat} {l : List Nat} (h : SlR 1 IntC w (.slice a n c) l) {i x : Nat} (hx : l[i]? = some x) : ∃ k, a = some ⟨k, 0, none⟩ ∧ k < w.heap.size ∧ w.cell? ⟨k, i, none⟩ = some (.int .i64 (x : Int)) := by
 obtain ⟨k, cs, e, hk, hl, hc, rfl⟩ := h.at hx
 have := hc 0 (by decide)
 rw [Nat.mul_one, Nat.add_zero] at this
 exact ⟨k, e, hk, this⟩
theorem strs_at {w : World} {a : Option Addr} {n c : Nat} {l : List (List UInt8)} (h : SlR 1 StrC w (.slice a n c) l) {i : Nat} {x : List UInt8} (hx : l[i]? = some x) : ∃ k, a = some ⟨k, 0, none⟩ ∧ k < w.heap.size ∧ w.cell? ⟨k, i, none⟩ = some (.string (bs x)) := by
 obtain ⟨k, cs, e, hk, hl, hc, rfl⟩ := h.at hx
 have := hc 0 (by decide)
 rw [Nat.mul_one, Nat.add_zero] at this
 exact ⟨k, e, hk, this⟩
theorem cas_at {w : World} {a : Option Addr} {n c : Nat} {l : List (Nat × Nat)} (h : SlR 2 CaC w (.slice a n c) l) {i : Nat} {x : Nat × Nat} (hx : l[i]? = some x) : ∃ k, a = some ⟨k, 0, none⟩ ∧ k < w.heap.size ∧ w.cell? ⟨k, i * 2, none⟩ = some (.int .u64 (x.1 : Int)) ∧ w.cell? ⟨k, i * 2 + 1, none⟩ = some (.int .i64 (x.2 : Int)) := by
 obtain ⟨k, cs, e, hk, hl, hc, rfl⟩ := h.at hx
 exact ⟨k, e, hk, hc 0 (by decide), hc 1 (by decide)⟩
theorem subs_at {w : World} {a : Option Addr} {n c : Nat} {l : List (List UInt8 × Nat)} (h : SlR 2 SuC w (.slice a n c) l) {i : Nat} {x : List UInt8 × Nat} (hx : l[i]? = some x) : ∃ k, a = some ⟨k, 0, none⟩ ∧ k < w.heap.size ∧ w.cell? ⟨k, i * 2, none⟩ = some (.string (bs x.1)) ∧ w.cell? ⟨k, i * 2 + 1, none⟩ = some (.int .i64 (x.2 : Int)) := by
 obtain ⟨k, cs, e, hk, hl, hc, rfl⟩ := h.at hx
 exact ⟨k, e, hk, hc 0 (by decide), hc 1 (by decide)⟩
theorem cos_at {w : World} {a : Option Addr} {n c : Nat} {l : List (List UInt8 × Nat)} (h : SlR 2 CoC w (.slice a n c) l) {i : Nat} {x : List UInt8 × Nat} (hx : l[i]? = some x) : ∃ k, a = some ⟨k, 0, none⟩ ∧ k < w.heap.size ∧ w.cell? ⟨k, i * 2, none⟩ = some (.string (bs x.1)) ∧ w.cell? ⟨k, i * 2 + 1, none⟩ = some (.int .u64 (x.2 : Int)) := by
 obtain ⟨k, cs, e, hk, hl, hc, rfl⟩ := h.at hx
 exact ⟨k, e, hk, hc 0 (by decide), hc 1 (by decide)⟩
end Go.Proofs.YtomimkgaelkaoaaGreatDoor
