/- Layer 7: the program's parser: structs. -/
import Derived.Test.YtomimkgaelkaoaaGreatDoorC13ParIt
set_option linter.unusedVariables false
set_option linter.unusedSimpArgs false
namespace Go.Proofs.YtomimkgaelkaoaaGreatDoor
open Go.Lib (hid)
open Go.ChangeShapes Go.WideShapes Go.ChangeAt Go.RowKit
theorem cells3 {T : TypeId} {w : World} {k : Nat} {v0 v1 v2 : Value} (h : w.heap[k]? = some (.cells #[v0, v1, v2] T (0, 0))) :
  (w.cell? ⟨k, 0, none⟩ = some v0 ∧ w.cell? ⟨k, 1, none⟩ = some v1 ∧ w.cell? ⟨k, 2, none⟩ = some v2) ∧ (∀ j, w.frozen? ⟨k, j, none⟩ = false) ∧ k < w.heap.size := by
 refine ⟨⟨?_, ?_, ?_⟩, fun j => by simp [World.frozen?, h], (Array.getElem?_eq_some_iff.1 h).1⟩ <;> (rw [cell_of_row _ _ _ _ _ (0, 0) h]; rfl)
def SCell (k : Nat) (w : World) (s : List UInt8) (pv iv : Value) : Prop := w.heap[k]? = some (.cells #[.string (bs s), pv, iv] 110 (0, 0))
section
variable {X : Nat → Prop} {g b : Nat} {w w' W : World} {l : List Tok} {d : Nat} {f : FM} {k : Nat} {s : List UInt8} {pv iv : Value}
theorem SCell.cells (h : SCell k w s pv iv) : (w.cell? ⟨k, 0, none⟩ = some (.string (bs s)) ∧ w.cell? ⟨k, 1, none⟩ = some pv ∧ w.cell? ⟨k, 2, none⟩ = some iv) ∧ (∀ j, w.frozen? ⟨k, j, none⟩ = false) ∧ k < w.heap.size := cells3 h
theorem SCell.own (h : SCell k w s pv iv) (hI : PInv X g b w l d f) (hk : X k) (hS : St layP g w w') : SCell k w' s pv iv := (hI.own hk hS).trans h
theorem SCell.setP (h : SCell k w s pv iv) (u : Value) : SCell k (w.setCell ⟨k, 1, none⟩ u) s u iv := cell_set_row h (by simp) _
theorem SCell.setV (h : SCell k w s pv iv) (u : Value) : SCell k (w.setCell ⟨k, 2, none⟩ u) s pv u := cell_set_row h (by simp) _
def PV (X : Nat → Prop) (g : Nat) (w : World) (pv : Value) (ps : List (List UInt8)) : Prop := StrsV w pv ps ∧ Nest (Pub X layP g w) pv
theorem PV.stay {X' : Nat → Prop} {ps : List (List UInt8)} (h : PV X g w pv ps) (hs : Stay (Pub X layP g w) (Pub X' layP g w') w w') : PV X' g w' pv ps := ⟨ownsRow_same h.1 fun i hi => (hs i (h.2 i hi)).1, h.2.stay hs⟩
theorem PV.st {ps : List (List UInt8)} (h : PV X g w pv ps) (hS : St layP g w w') : PV X g w' pv ps := h.stay (hS.pub X)
theorem PV.nil (X : Nat → Prop) (g : Nat) (w : World) : PV X g w (.slice none 0 0) [] := ⟨World.ownsRow_nil _ _ _ _, Nest.none _ _ _⟩
theorem PV.shape {ps : List (List UInt8)} (h : PV X g w pv ps) : ∃ a c, pv = .slice a ps.length c := ownsRow_shape h.1
theorem Stay.weak {P P' : Nat → Prop} (h : ∀ i, P i → P' i) : Stay P P' w w := fun i hi => ⟨rfl, h i hi⟩
theorem Stay.nilV (X : Nat → Prop) (g : Nat) (w : World) (n c : Nat) : Stay (Pub X layP g w) (Pub (wthV X (.slice none n c)) layP g w) w w := fun i hi => ⟨rfl, hi.1, fun e => e.elim hi.2 fun e => by cases e⟩
theorem Stay.grow {v v' : Value} (h : PInv (wthV X v) g b w l d f) (hgrow : w.grownBy w' v.ownBlock) (hat : v'.ownBlock = v.ownBlock ∨ v'.ownBlock = some w.heap.size) : Stay (Pub (wthV X v) layP g w) (Pub (wthV X v') layP g w') w w' := by
 have hv : ∀ k, v.ownBlock = some k → Out layP g w k := fun k hk => h.priv k (.inr hk)
 have hg : w'.heap[g]? = w.heap[g]? := hgrow.block g h.lt fun e => (hv g e.symm).ne rfl
 refine fun i hi => ⟨hgrow.block i hi.1.lt fun e => hi.2 (.inr e.symm), hi.1.of hgrow.size hg, fun e => e.elim (fun e => hi.2 (.inl e)) fun e => ?_⟩
 rcases hat with hat | hat
 ·rw [hat] at e; exact hi.2 (.inr e)
 ·rw [hat, Option.some.injEq] at e; have := hi.1.lt; omega
def set3 (w : World) (k : Nat) (c0 c1 c2 : Value) : World := ((w.setCell ⟨k, 0, none⟩ c0).setCell ⟨k, 1, none⟩ c1).setCell ⟨k, 2, none⟩ c2
theorem PInv.set3 (h : PInv X g b w l d f) (hk : X k) (c0 c1 c2 : Value) : PInv X g b (Go.Proofs.YtomimkgaelkaoaaGreatDoor.set3 w k c0 c1 c2) l d f := ((h.local hk _ _).local hk _ _).local hk _ _
theorem PInv.stay3 (h : PInv X g b w l d f) (hk : X k) (c0 c1 c2 : Value) : Stay (Pub X layP g w) (Pub X layP g (Go.Proofs.YtomimkgaelkaoaaGreatDoor.set3 w k c0 c1 c2)) w (Go.Proofs.YtomimkgaelkaoaaGreatDoor.set3 w k c0 c1 c2) :=
 ((h.stayL hk _ _).trans ((h.local hk _ _).stayL hk _ _)).trans (((h.local hk _ _).local hk _ _).stayL hk _ _)
theorem St.set3 (h : St layP g W w) (hg : g < W.heap.size) (hk : W.heap.size ≤ k) (c0 c1 c2 : Value) : St layP g W (Go.Proofs.YtomimkgaelkaoaaGreatDoor.set3 w k c0 c1 c2) := ((h.fresh hg hk _ _).fresh hg hk _ _).fresh hg hk _ _
theorem set3_heap (w : World) (c0 c1 c2 : Value) {i : Nat} (hi : i ≠ k) : (Go.Proofs.YtomimkgaelkaoaaGreatDoor.set3 w k c0 c1 c2).heap[i]? = w.heap[i]? := by
 unfold Go.Proofs.YtomimkgaelkaoaaGreatDoor.set3
 iterate 3 rw [Below.heap_setCell _ _ _ _ hi]
end
def StRel (X : Nat → Prop) (g : Nat) (f : FM) (x : SA) (v : Value) (w' : World) : Prop := ∃ c0 c1 c2, v = .agg #[c0, c1, c2] ∧ Srep layP (Pub X layP g w') w' [c0, c1, c2] (putS x f.g).2
theorem info_item : (Tryz.prog.info? 129).map (fun i => (i.zero, i.size, i.bytes)) = some (some (.agg #[.string ⟨#[]⟩, .int .i64 0, .int .i64 0, .string ⟨#[]⟩, .string ⟨#[]⟩, .int .i64 0, .int .i64 0, .bool false, .slice none 0 0]), 9, 112) := by kernel_rfl
theorem enter_item (args : Array Value) (w : World) : (callFunc 129 args).run Tryz.prog w = .ok (.enter 129 args) w :=
 Go.MuLone.run_callFunc_enter Tryz.func129 (by kernel_rfl) (c := (Tryz.f129.body).getD default) (by kernel_rfl) args w
theorem putIs_len (l : List IA) : ∀ (g : GM) (ks : List IM), (l.foldl stepI (g, ks)).2.length = ks.length + l.length := by
 induction l with
 | nil => intro g ks; simp
 | cons a r ih =>
  intro g ks
  rw [List.foldl_cons]
  show (r.foldl stepI ((putI a g).1, ks ++ [(putI a g).2])).2.length = _
  rw [ih, List.length_append, List.length_singleton, List.length_cons]; omega
theorem putIs_length (l : List IA) (g : GM) : (putIs l g).2.length = l.length := by unfold putIs; rw [putIs_len]; simp
theorem good_paramsL : ∀ (n : Nat) (ps : List (List UInt8)) (l : List Tok), Good 0 l (paramsL n ps l)
 | 0, _, l => by rw [paramsL]; exact .bad _ _ (by decide)
 | n + 1, ps, l => by
  rw [paramsL]
  split
  ·rename_i h
   exact Good.mono (s := 0 + (0 + (1 + 0)) + 1) (Good.isT h (by decide) ((good_expect _ _).bind fun _ _ _ => (good_room _ _).bind fun _ _ _ => (good_name _).bind fun _ _ _ => good_paramsL n _ _)) (by omega)
  ·exact .ok _ _
theorem good_subsL : ∀ (n : Nat) (ss : List (List UInt8 × Nat)) (l : List Tok), Good 0 l (subsL n ss l)
 | 0, _, l => by rw [subsL]; exact .bad _ _ (by decide)
 | n + 1, ss, l => by
  rw [subsL]
  split
  ·rename_i h
   exact Good.mono (s := 0 + 1) (Good.isT h (by decide) (.ok _ _)) (by omega)
  ·refine Good.mono (s := 0 + (0 + (4 + 0))) ((good_expect _ _).bind fun _ l1 h1 => ?_) (by omega)
   obtain ⟨rfl, _⟩ := expect_same h1
   refine (good_room _ _).bind fun _ l2 h2 => ?_
   obtain ⟨rfl, _⟩ := room_same h2
   exact (good_sub _).bind fun _ _ _ => good_subsL n _ _
theorem params_len {n : Nat} {l l' : List Tok} {ps : List (List UInt8)} (hw : WF l) (h : paramsP n l = .ok ps l') : l'.length < l.length ∧ WF l' := by
 have : Good 2 l (paramsP n l) := by
  unfold paramsP
  refine Good.mono (s := 1 + (0 + (1 + 0))) ((good_name _).bind fun _ _ _ => (good_paramsL n _ _).bind fun _ _ _ => (good_need _ _ (by decide)).bind fun _ _ _ => .ok _ _) (by omega)
 have := this hw
 rw [h] at this
 exact ⟨by have := this.2; omega, this.1⟩
theorem good_pack (n : Nat) (l : List Tok) : Good 1 l (packP n l) := by
 unfold packP
 split
 ·exact .bad _ _ (by decide)
 ·rename_i z li hi
  exact Good.mono (s := 1 + (4 + (0 + 0)) + 1) (Good.step (fun hw => hw.tailT (intW_ne hi)) ((good_need _ _ (by decide)).bind fun _ _ _ => (good_sub _).bind fun _ _ _ => (good_subsL n _ _).bind fun _ _ _ => .ok _ _)) (by omega)
theorem good_optD (l : List Tok) : Good 0 l (optD l) := by
 unfold optD
 split
 ·rename_i h; exact Good.mono (s := 1 + 1) (Good.isT h (by decide) (good_der _)) (by omega)
 ·exact .ok _ _
theorem good_optW (n : Nat) (l : List Tok) : Good 0 l (optW n l) := by
 unfold optW
 split
 ·rename_i h; exact Good.mono (s := 1 + 0 + 1) (Good.isT h (by decide) ((good_bin _ _ _ _ (Nat.le_refl _)).bind fun _ _ _ => .ok _ _)) (by omega)
 ·exact .ok _ _
theorem good_item (n : Nat) (l : List Tok) : Good 1 l (itemP n l) := by
 unfold itemP
 split
 ·rename_i h; exact Good.mono (s := 1 + 1) (Good.isT h (by decide) (good_pack n _)) (by omega)
 ·unfold fieldP
  exact Good.mono (s := 1 + (1 + (1 + (0 + (0 + (1 + 0)))))) ((good_name _).bind fun _ _ _ => (good_need _ _ (by decide)).bind fun _ _ _ => ((good_types n).1 _ _).bind fun _ _ _ => (good_optD _).bind fun _ _ _ => (good_optW _ _).bind fun _ _ _ => (good_need _ _ (by decide)).bind fun _ _ _ => .ok _ _) (by omega)
theorem item_len {n : Nat} {l l' : List Tok} {x : IA} (hw : WF l) (h : itemP n l = .ok x l') : l'.length < l.length ∧ WF l' := by
 have := good_item n l hw
 rw [h] at this
 exact ⟨by have := this.2; omega, this.1⟩
set_option maxHeartbeats 4000000 in
set_option maxRecDepth 100000 in
theorem struct_any (n : Nat) {X : Nat → Prop} {g b : Nat} {l : List Tok} {f : FM} (w : World) (h : PInv X g b w l 0 f) (hn : 8 * l.length + 4 ≤ n) :
  Calls Tryz.prog 78 #[.pointer (some ⟨g, 0, none⟩)] w (PostV X g b w 0 (structP n l) (StRel X g f) fun x => f.setG (putS x f.g).1) := by
 have htop := h.top
 have hw := h.wf
 have hg := h.lt
 have HXlt : Hid (∀ k, X k → k < w.heap.size) := hid fun k hk => (h.priv k hk).lt
 have h0 := h.hide (.cells #[.string ⟨#[]⟩, .slice none 0 0, .slice none 0 0] 110)
 have HS0 : Hid (St layP g w (w.alloc (.cells #[.string ⟨#[]⟩, .slice none 0 0, .slice none 0 0] 110))) := hid (St.below hg (below_box _ _))
 have hg0 : g < (w.alloc (.cells #[.string ⟨#[]⟩, .slice none 0 0, .slice none 0 0] 110)).heap.size := by simp; omega
 have H := hid h
 obtain ⟨i0, hi, hz0, hz1, hz2⟩ := info_parts info_item
 unfold structP
 have c1 := need_kStruct _ h0
 clear h0 h
 rcases h1 : need kStruct l with ⟨u1, l1⟩ | ⟨l1, x⟩
 all_goals rw [h1] at c1; have D1 := hid c1; clear c1
 ·rw [PR.bind_ok]
  obtain ⟨hl1, hw1⟩ := need_len (by decide) hw h1
  clear h1
  have c2 : ∀ w1, PInv (wth X w.heap.size) g (b - 3) w1 l1 0 f → _ := fun w1 hi => name_any w1 hi
  rcases h2 : nameP l1 with ⟨s, l2⟩ | ⟨l2, x⟩
  all_goals rw [h2] at c2; have C2 := hid c2; clear c2
  ·rw [PR.bind_ok]
   obtain ⟨hl2, hw2⟩ := name_len hw1 h2
   clear h2
   cases eo : isT sLp l2
   ·have ho : optP n l2 = .ok [] l2 := by unfold optP; rw [if_neg (by rw [eo]; decide)]
    rw [ho, PR.bind_ok]
    have EO := hid eo
    clear ho eo
    have c5 : ∀ (k1 : Nat) w5, PInv (wth (wth X w.heap.size) k1) g (b - 3 - 3) w5 l2 0 f → _ := fun k1 w5 hi => need_sLc w5 hi
    rcases h5 : need sLc l2 with ⟨u5, l5⟩ | ⟨l5, x⟩
    all_goals rw [h5] at c5; have C5 := hid c5; clear c5
    ·rw [PR.bind_ok]
     obtain ⟨hl5, hw5⟩ := need_len (by decide) hw2 h5
     clear h5
     obtain ⟨R, HR⟩ : ∃ R, Hid (R = itemsL n [] l5) := ⟨_, hid rfl⟩
     rw [← HR.out]
     go_enter Tryz.func78, Tryz.ntmps78
     go_wp2_with (first | (go_at_call 122; first | ((with_reducible refine D1.out.mono ?_); rintro e1 w1 ⟨rfl, hI1, hS1⟩; have D2 := hid (C2.out _ hI1); clear hI1) | ((with_reducible refine D5.out.mono ?_); rintro e5 w5 ⟨rfl, hI5, hS5⟩; have HI5 := hid hI5; have HQ5 := hid (HQ2.out.own HI2.out (.inr rfl) hS5); have HS5 := hid (HS2.out.trans hS5); have HP5 : Hid (PV (wth (wth X w.heap.size) w2.heap.size) g w5 (.slice none 0 0) []) := hid (PV.nil _ _ _); clear hI5)) | (go_at_call 123; ((with_reducible refine D2.out.mono ?_); rintro e2 w2 ⟨rfl, hI2, hS2⟩; have h2a := hI2.hide (.cells #[.string (bs s), .slice none 0 0, .slice none 0 0] 110); have HI2 := hid h2a; have HQ2 : Hid (SCell w2.heap.size (w2.alloc (.cells #[.string (bs s), .slice none 0 0, .slice none 0 0] 110)) s (.slice none 0 0) (.slice none 0 0)) := hid (heap_alloc_new w2 _); have HS2 := hid ((hS1.trans hS2).alloc hI2.lt (.cells #[.string (bs s), .slice none 0 0, .slice none 0 0] 110)); have HZ : Hid ((w.alloc (.cells #[.string ⟨#[]⟩, .slice none 0 0, .slice none 0 0] 110)).heap.size ≤ w2.heap.size) := hid (Nat.le_trans hS1.size hS2.size); have TO := hid (takeN_sLp _ h2a EO.out); have D5 := hid (C5.out _ _ h2a); clear h2a hI2)) | (go_at_call 125; ((with_reducible refine TO.out.mono ?_); rintro e w' ⟨rfl, rfl⟩)))
     go_loopw [16] (fun s16 wr => ∃ (m : Nat) (is : List IA) (v : Value) (l' : List Tok), PInv (wthV (wth (wth X w.heap.size) w2.heap.size) v) g b wr l' 0 (f.setG (putIs is f.g).1) ∧ SCell w2.heap.size wr s (.slice none 0 0) v ∧ RowR (Irep layP) 129 9 (Pub (wthV (wth (wth X w.heap.size) w2.heap.size) v) layP g wr) wr v (putIs is f.g).2 ∧ PV (wthV (wth (wth X w.heap.size) w2.heap.size) v) g wr (.slice none 0 0) [] ∧ (∀ i, v.ownBlock = some i → w2.heap.size < i) ∧ St layP g (w.alloc (.cells #[.string ⟨#[]⟩, .slice none 0 0, .slice none 0 0] 110)) wr ∧ Hid (R = itemsL m is l') ∧ 8 * l'.length + 5 ≤ m ∧ is.length ≤ 64) (fun _ wr => tokN g wr)
     case atStart =>
      exact ⟨n, [], .slice none 0 0, l5, (HI5.out.nilV 0 0).mono (by omega) htop, HQ5.out, RowR.nil _ _ _ _ _, HP5.out.stay (Stay.nilV _ _ _ _ _), (fun i hi => by cases hi), HS5.out, HR, by omega, by simp⟩
     case round =>
      obtain ⟨m, is, v, l', hI, hT, hV, hP, hlo, hS, HH, hm, hes⟩ := hrel
      have hl := hI.wf.pos
      have htok := hid hI.tokN
      obtain ⟨m, rfl⟩ : ∃ m', m = m' + 1 := ⟨m - 1, by omega⟩
      have hw' := hI.wf
      obtain ⟨va, vc, hsh⟩ := hV.shape
      have hlen : (putIs is f.g).2.length = is.length := putIs_length _ _
      rw [hlen] at hsh
      subst hsh
      have HLEN := hid hlen
      obtain ⟨⟨k0', k1', k2'⟩, kf', kl'⟩ := hT.cells
      have hvk : (Value.slice va is.length vc).ownBlock ≠ some w2.heap.size := RowR.off hV hT (by decide)
      have HVK := hid hvk
      have HV := hid hV
      have HI := hid hI
      have HS := hid hS
      have HT := hid hT
      have HP := hid hP
      have HLO := hid hlo
      clear hV hI hS hT hP hlo hlen hvk
      cases e1 : isT sRc l'
      ·have T := hid (takeN_sRc wr HI.out e1)
       have hR2 : R = (expectP (isName l' || isT kPack l') l').bind fun _ _ => (roomP is.length l').bind fun _ _ => (itemP m l').bind fun x l1 => itemsL m (is ++ [x]) l1 := by rw [HH.out, itemsL, if_neg (by rw [e1]; decide)]
       clear HH
       have cb := atName_any wr HI.out
       have cp := fun q (hq : isT kPack l' = q) => at_kPack wr HI.out hq
       by_cases hbp : (isName l' || isT kPack l') = true
       ·rw [hbp, show expectP true l' = .ok () l' from rfl, PR.bind_ok] at hR2
        have CX := hid (expect_yes wr HI.out)
        have cr := room_any is.length hes wr HI.out
        have hbp2 : isName l' = true ∨ (isName l' = false ∧ isT kPack l' = true) := by
         cases hb : isName l'
         ·rw [hb, Bool.false_or] at hbp; exact .inr ⟨rfl, hbp⟩
         ·exact .inl rfl
        clear hbp
        by_cases h64 : 64 ≤ is.length
        ·rw [roomP, if_pos h64, PR.bind_bad] at hR2
         rw [if_pos h64] at cr
         have CRM := hid cr
         have HR3 := hid hR2
         rcases hbp2 with hb | ⟨hb, hp⟩
         all_goals
          rw [hb] at cb
          have CB := hid cb
          have CP := hid cp
          clear hR2 cb cr e1 cp
          go_wp2_with (first | (go_at_call 125; go_must (refine T.out.mono ?_; rintro e w' ⟨rfl, rfl⟩)) | (go_at_call 128; go_must (refine CB.out.mono ?_; rintro e w' ⟨rfl, rfl⟩)) | (go_at_call 75; go_must (refine (CP.out true hp).mono ?_; rintro e w' ⟨rfl, rfl⟩)) | (go_at_call 127; go_must (refine CX.out.mono ?_; rintro e w' ⟨rfl, rfl⟩)) | (go_at_call 76; go_must (refine CRM.out.mono ?_; rintro e w' ⟨rfl, rfl⟩)))
          rw [HR3.out, PR.bind_bad]
          exact ⟨rfl, rfl, HS0.out.trans HS.out⟩
        ·rw [roomP, if_neg h64, PR.bind_ok] at hR2
         rw [if_neg h64] at cr
         have CRM := hid cr
         have c7 : ∀ w7, PInv (wthV (wth (wth X w.heap.size) w2.heap.size) (.slice va is.length vc)) g b w7 l' 0 (f.setG (putIs is f.g).1) → _ := fun w7 hi => item_any m w7 hi (by omega)
         rcases h7 : itemP m l' with ⟨x, l7⟩ | ⟨l7, x⟩
         all_goals rw [h7] at c7 hR2; have C7 := hid c7; clear c7
         ·obtain ⟨hl7, hw7⟩ := item_len hw' h7
          rw [PR.bind_ok] at hR2
          have HR3 := hid hR2
          rcases hbp2 with hb | ⟨hb, hp⟩
          all_goals
           rw [hb] at cb
           have CB := hid cb
           have CP := hid cp
           have HId := hid (HI.out.below ((Below.refl _ wr).drew))
           have HTd : Hid (SCell w2.heap.size wr.drew s (.slice none 0 0) (.slice va is.length vc)) := hid HT.out
           have HVd : Hid (RowR (Irep layP) 129 9 (Pub (wthV (wth (wth X w.heap.size) w2.heap.size) (.slice va is.length vc)) layP g wr.drew) wr.drew (.slice va is.length vc) (putIs is f.g).2) := hid (HV.out.stay (Irep.kept _) ((St.below HI.out.lt ((Below.refl _ wr).drew)).pub _) fun i hi => rfl)
           have HPd : Hid (PV (wthV (wth (wth X w.heap.size) w2.heap.size) (.slice va is.length vc)) g wr.drew (.slice none 0 0) []) := hid (HP.out.st (St.below HI.out.lt ((Below.refl _ wr).drew)))
           have D8 := hid (C7.out wr.drew HId.out)
           clear hR2 cb cr e1 cp h7 k0' k1'
           go_wp2_with (first | (go_at_call 125; go_must (refine T.out.mono ?_; rintro e w' ⟨rfl, rfl⟩)) | (go_at_call 128; go_must (refine CB.out.mono ?_; rintro e w' ⟨rfl, rfl⟩)) | (go_at_call 75; go_must (refine (CP.out true hp).mono ?_; rintro e w' ⟨rfl, rfl⟩)) | (go_at_call 127; go_must (refine CX.out.mono ?_; rintro e w' ⟨rfl, rfl⟩)) | (go_at_call 76; go_must (refine CRM.out.mono ?_; rintro e w' ⟨rfl, rfl⟩)))
           go_region_law (first | (refine step_call (by rfl) 129 _ 188 (by rfl) enter_item _ (by rfl) D8.out ?_; rintro e7 w7 ⟨⟨_, rfl, ⟨c0, c1, c2, c3, c4, c5, c6, c7, c8, rfl, sv, hcs, hsub, hnest⟩, hI7⟩, hS7⟩; cases hcs; obtain ⟨a', c', rfl⟩ := ownsRow_shape hsub; have HT7 := hid (HTd.out.own HId.out (.inl (.inr rfl)) hS7); have HP7 := hid (HPd.out.st hS7); have hv7 := HVd.out.stay (Irep.kept _) (hS7.pub _) fun i hi => HId.out.own (.inr hi) hS7; obtain ⟨qs, qown, q1, q2, q3⟩ := hv7; rw [HLEN.out] at qown; have QOWN := hid qown; have Q1 := hid q1; have Q2 := hid q2; have Q3 := hid q3; have HM : Hid (Irep layP (Pub (wthV (wth (wth X w.heap.size) w2.heap.size) (.slice va is.length vc)) layP g w7) w7 [.string (bs (putI x (putIs is f.g).1).2.s), .int .i64 (putI x (putIs is f.g).1).2.t, .int .i64 ((putI x (putIs is f.g).1).2.der : Int), .string (bs (putI x (putIs is f.g).1).2.a), .string (bs (putI x (putIs is f.g).1).2.b), .int .i64 (putI x (putIs is f.g).1).2.wh, .int .i64 ((putI x (putIs is f.g).1).2.size : Int), .bool (putI x (putIs is f.g).1).2.little, .slice a' (putI x (putIs is f.g).1).2.subs.length c'] (putI x (putIs is f.g).1).2) := hid ⟨_, rfl, hsub, hnest⟩; obtain ⟨⟨p0, p1, p2⟩, pf, pl⟩ := HT7.out.cells; have HI7 := hid hI7; clear hI7 p0 p1 qown q1 q2 q3 hsub hnest) | (refine step_one _ (by rfl) _ _ 108 (by rfl) 129 i0 _ 9 112 Tryz.underlying108 hi hz0 hz1 hz2 rfl (by decide) (.slice va is.length vc) is.length qs.flatten (by rfl) (RowR.below QOWN.out (below_box _ _)) _ _ [.string (bs (putI x (putIs is f.g).1).2.s), .int .i64 (putI x (putIs is f.g).1).2.t, .int .i64 ((putI x (putIs is f.g).1).2.der : Int), .string (bs (putI x (putIs is f.g).1).2.a), .string (bs (putI x (putIs is f.g).1).2.b), .int .i64 (putI x (putIs is f.g).1).2.wh, .int .i64 ((putI x (putIs is f.g).1).2.size : Int), .bool (putI x (putIs is f.g).1).2.little, .slice a' (putI x (putIs is f.g).1).2.subs.length c'] (by rfl) rfl (heap_alloc_new _ _) (by simp [Value.oneCell']) (by unfold maxLen; omega) (by omega) ?_; intro v' w9 hown hgrow hat; obtain ⟨va', vc', rfl⟩ := ownsRow_shape hown; have HOW := hid hown; have HG := hid hgrow; have HAT := hid hat; have hw9 : w9.heap[w2.heap.size]? = w7.heap[w2.heap.size]? := (HG.out.block w2.heap.size (by simp; omega) fun e => HVK.out e.symm).trans ((below_box w7 _).block w2.heap.size pl); have HW9 := hid hw9; obtain ⟨⟨_, _, n2⟩, nf', nl⟩ := SCell.cells (hw9.trans HT7.out); have nf := nf' 2; clear hown hgrow hat hw9))
           all_goals
            have hI9 := (HI7.out.below (below_box w7 (.cells #[.string (bs (putI x (putIs is f.g).1).2.s), .int .i64 (putI x (putIs is f.g).1).2.t, .int .i64 ((putI x (putIs is f.g).1).2.der : Int), .string (bs (putI x (putIs is f.g).1).2.a), .string (bs (putI x (putIs is f.g).1).2.b), .int .i64 (putI x (putIs is f.g).1).2.wh, .int .i64 ((putI x (putIs is f.g).1).2.size : Int), .bool (putI x (putIs is f.g).1).2.little, .slice a' (putI x (putIs is f.g).1).2.subs.length c'] 129))).grow HG.out HAT.out fun i hi => (World.ownsRow.lt HOW.out i hi).2
            have hst : Stay (Pub (wthV (wth (wth X w.heap.size) w2.heap.size) (.slice va is.length vc)) layP g w7) (Pub (wthV (wth (wth X w.heap.size) w2.heap.size) (.slice va' (is.length + 1) vc')) layP g w9) w7 w9 := ((St.below HI7.out.lt (below_box w7 (.cells #[.string (bs (putI x (putIs is f.g).1).2.s), .int .i64 (putI x (putIs is f.g).1).2.t, .int .i64 ((putI x (putIs is f.g).1).2.der : Int), .string (bs (putI x (putIs is f.g).1).2.a), .string (bs (putI x (putIs is f.g).1).2.b), .int .i64 (putI x (putIs is f.g).1).2.wh, .int .i64 ((putI x (putIs is f.g).1).2.size : Int), .bool (putI x (putIs is f.g).1).2.little, .slice a' (putI x (putIs is f.g).1).2.subs.length c'] 129))).pub _).trans (Stay.grow (HI7.out.below (below_box w7 (.cells #[.string (bs (putI x (putIs is f.g).1).2.s), .int .i64 (putI x (putIs is f.g).1).2.t, .int .i64 ((putI x (putIs is f.g).1).2.der : Int), .string (bs (putI x (putIs is f.g).1).2.a), .string (bs (putI x (putIs is f.g).1).2.b), .int .i64 (putI x (putIs is f.g).1).2.wh, .int .i64 ((putI x (putIs is f.g).1).2.size : Int), .bool (putI x (putIs is f.g).1).2.little, .slice a' (putI x (putIs is f.g).1).2.subs.length c'] 129))) HG.out HAT.out)
            have how := HOW.out
            rw [← HLEN.out] at how
            have hv9 := RowR.snoc how Q1.out Q2.out (fun i c x h1 h2 => (Irep.kept _) _ _ _ _ _ _ (Q3.out i c x h1 h2) hst) rfl ((Irep.kept _) _ _ _ _ _ _ HM.out hst)
            rw [HLEN.out] at hv9
            have hk9 := ownsRow_off HOW.out (HW9.out.trans HT7.out) (by decide)
            have hs10 := hI9.stayL (k := w2.heap.size) (.inl (.inr rfl)) 2 (.slice va' (is.length + 1) vc')
            have HV10 := hid (hv9.stay (Irep.kept _) hs10 fun i hi => Below.heap_setCell _ _ _ _ fun e => hk9 ((show i = w2.heap.size from e) ▸ hi))
            have HP10 := hid ((HP7.out.stay hst).stay hs10)
            have HI10 := hid (hI9.local (k := w2.heap.size) (.inl (.inr rfl)) 2 (.slice va' (is.length + 1) vc'))
            have HT9 := hid (SCell.setV (HW9.out.trans HT7.out) (.slice va' (is.length + 1) vc'))
            have hlo9 : ∀ i, (Value.slice va' (is.length + 1) vc').ownBlock = some i → w2.heap.size < i := fun i hi => by
             rcases HAT.out with e | e
             ·exact HLO.out i (by rw [← e]; exact hi)
             ·rw [e, Option.some.injEq] at hi
              simp at hi
              omega
            have HS9 : Hid (St layP g (w.alloc (.cells #[.string ⟨#[]⟩, .slice none 0 0, .slice none 0 0] 110)) (w9.setCell ⟨w2.heap.size, 2, none⟩ (.slice va' (is.length + 1) vc'))) := hid (((((HS.out.drew HI.out.lt).trans hS7).alloc HI7.out.lt _).grown hg0 HG.out fun i hi => by have := HLO.out i hi; have := HZ.out; omega).fresh hg0 HZ.out _ _)
            have htok9 := hid HI10.out.tokN
            clear hI9 hst how hv9 hk9 hs10 n2 nf nl nf' p2 pf pl k2' kf' kl'
            go_wp2_with fail
            refine ⟨⟨m, is ++ [x], _, l7, ?_, HT9.out, ?_, HP10.out, hlo9, HS9.out, hid HR3.out, by omega, by rw [List.length_append, List.length_singleton]; omega⟩, ?_⟩
            ·rw [putIs_snoc]; exact HI10.out
            ·rw [putIs_snoc]; exact HV10.out
            ·rw [htok9.out, htok.out]; omega
         ·rw [PR.bind_bad] at hR2
          have HR3 := hid hR2
          rcases hbp2 with hb | ⟨hb, hp⟩
          all_goals
           rw [hb] at cb
           have CB := hid cb
           have CP := hid cp
           have HId := hid (HI.out.below ((Below.refl _ wr).drew))
           have D8 := hid (C7.out wr.drew HId.out)
           clear hR2 cb cr e1 cp h7 k0' k1'
           go_wp2_with (first | (go_at_call 125; go_must (refine T.out.mono ?_; rintro e w' ⟨rfl, rfl⟩)) | (go_at_call 128; go_must (refine CB.out.mono ?_; rintro e w' ⟨rfl, rfl⟩)) | (go_at_call 75; go_must (refine (CP.out true hp).mono ?_; rintro e w' ⟨rfl, rfl⟩)) | (go_at_call 127; go_must (refine CX.out.mono ?_; rintro e w' ⟨rfl, rfl⟩)) | (go_at_call 76; go_must (refine CRM.out.mono ?_; rintro e w' ⟨rfl, rfl⟩)))
           refine wp_region_any (by kernel_rfl) ?_
           change wpAny _ _ _ _ _ _ _ (World.drew _)
           refine wpAny_take (i := 0) (v := ?_) rfl (by kernel_rfl) (by kernel_rfl) (by kernel_rfl) (fun _ _ _ h => h) (Or.inl ⟨by rfl, ?_⟩) ?_
           rotate_left
           ·intro w; go_simp; try (with_reducible rfl)
           refine wpAny_take (i := 2) (v := ?_) rfl (by kernel_rfl) (by kernel_rfl) (by kernel_rfl) (fun _ _ _ h => h) (Or.inl ⟨by rfl, ?_⟩) ?_
           rotate_left
           ·intro w; go_simp; try (with_reducible rfl)
           refine wpAny_ready (rs := [1, 3]) (by kernel_rfl) (by simp) ?_
           refine AllReady.cons rfl (fun K hK => ?_) ?_
           ·go_simp
            refine hK _ _ ?_
            clear hK K
            refine wpAny_ready (rs := [3]) (by kernel_rfl) (by simp) ?_
            refine AllReady.cons rfl (fun K hK => ?_) AllReady.nil
            (refine step_call (by rfl) 129 _ 188 (by rfl) enter_item _ (by rfl) D8.out ?_; rintro e7 w7 ⟨rfl, hS7⟩; refine ⟨rfl, ?_⟩; rw [HR3.out, PR.bind_bad]; exact ⟨rfl, HS0.out.trans ((HS.out.drew HI.out.lt).trans hS7)⟩)
           refine AllReady.cons rfl (fun K hK => ?_) AllReady.nil
           (refine step_call (by rfl) 129 _ 188 (by rfl) enter_item _ (by rfl) D8.out ?_; rintro e7 w7 ⟨rfl, hS7⟩; refine ⟨rfl, ?_⟩; rw [HR3.out, PR.bind_bad]; exact ⟨rfl, HS0.out.trans ((HS.out.drew HI.out.lt).trans hS7)⟩)
       ·have hb : isName l' = false := by cases hb : isName l' <;> simp_all
        have hp : isT kPack l' = false := by cases hp : isT kPack l' <;> simp_all
        have hR3 : R = .bad l' 4 := by rw [hR2, hb, hp]; rfl
        have HR3 := hid hR3
        rw [hb] at cb
        have CB := hid cb
        have CP := hid cp
        have CX := hid (expect_no wr HI.out)
        clear hR2 hR3 cb cp e1 hbp
        go_wp2_with (first | (go_at_call 125; go_must (refine T.out.mono ?_; rintro e w' ⟨rfl, rfl⟩)) | (go_at_call 128; go_must (refine CB.out.mono ?_; rintro e w' ⟨rfl, rfl⟩)) | (go_at_call 75; go_must (refine (CP.out false hp).mono ?_; rintro e w' ⟨rfl, rfl⟩)) | (go_at_call 127; go_must (refine CX.out.mono ?_; rintro e w' ⟨rfl, rfl⟩)))
        rw [HR3.out, PR.bind_bad]
        exact ⟨rfl, rfl, HS0.out.trans HS.out⟩
      ·have T := hid (takeY_sRc wr HI.out e1)
       have HF : Hid (R = .ok is l'.tail) := hid (by rw [HH.out, itemsL, if_pos e1])
       clear HH e1
       go_wp2_with (go_at_call 125; go_must (refine T.out.mono ?_; rintro e w4 ⟨rfl, hI4, hS4⟩; have hq := HT.out.own HI.out (.inl (.inr rfl)) hS4; obtain ⟨⟨b0, b1, b2⟩, bf, bl⟩ := hq.cells; have q9 := (((HS.out.trans hS4).stay _ (H.out.fresh (.cells #[.string ⟨#[]⟩, .slice none 0 0, .slice none 0 0] 110))).1).trans (heap_alloc_new w _); obtain ⟨⟨a0, a1, a2⟩, af, al⟩ := cells3 q9; have HI4 := hid hI4; clear hI4 hq q9))
       have q2 := PInv.set3 HI4.out (k := w.heap.size) (.inl (.inl (.inr rfl))) (.string (bs s)) (.slice none 0 0) (.slice va is.length vc)
       have qs := PInv.stay3 HI4.out (k := w.heap.size) (.inl (.inl (.inr rfl))) (.string (bs s)) (.slice none 0 0) (.slice va is.length vc)
       have s2 := St.set3 (k := w.heap.size) (HS0.out.trans (HS.out.trans hS4)) hg (Nat.le_refl _) (.string (bs s)) (.slice none 0 0) (.slice va is.length vc)
       have hp4 := (HP.out.st hS4).stay qs
       have hv4 := (HV.out.stay (Irep.kept _) (hS4.pub _) fun i hi => HI.out.own (.inr hi) hS4).stay (Irep.kept _) qs fun i hi => set3_heap _ _ _ _ (by have := HLO.out i hi; have := HZ.out; simp at this; omega)
       have hwk : ∀ i, Pub (wthV (wth (wth X w.heap.size) w2.heap.size) (.slice va is.length vc)) layP g (set3 w4 w.heap.size (.string (bs s)) (.slice none 0 0) (.slice va is.length vc)) i → Pub X layP g (set3 w4 w.heap.size (.string (bs s)) (.slice none 0 0) (.slice va is.length vc)) i := fun i hi => hi.weak fun k hk => .inl (.inl (.inl hk))
       have hpub : Nest (Pub X layP g (set3 w4 w.heap.size (.string (bs s)) (.slice none 0 0) (.slice va is.length vc))) (.slice va is.length vc) := fun i hi => ⟨q2.priv i (.inr hi), fun hx => by have := HXlt.out i hx; have := HLO.out i hi; have := HZ.out; simp at this; omega⟩
       refine bodyPost_ret (v := .agg #[.string (bs s), (.slice none 0 0), (.slice va is.length vc)]) (by simp [results, Tryz.results78, go_sem, a0, a1, a2]) rfl ?_
       rw [HF.out, PR.bind_ok]
       exact ⟨⟨_, rfl, ⟨_, _, _, rfl, _, _, rfl, hp4.1, (fun i hi => hwk i (hp4.2 i hi)), hv4.stay (Irep.kept _) (Stay.weak hwk) (fun i hi => rfl), hpub⟩, q2.bareV.bare.bare.mono (by omega) htop⟩, s2⟩
    ·rw [PR.bind_bad]
     clear h5
     go_enter Tryz.func78, Tryz.ntmps78
     go_wp2_with (first | (go_at_call 122; first | ((with_reducible refine D1.out.mono ?_); rintro e1 w1 ⟨rfl, hI1, hS1⟩; have D2 := hid (C2.out _ hI1); clear hI1) | ((with_reducible refine D5.out.mono ?_); rintro e5 w5 ⟨rfl, hI5, hS5⟩)) | (go_at_call 123; ((with_reducible refine D2.out.mono ?_); rintro e2 w2 ⟨rfl, hI2, hS2⟩; have h2a := hI2.hide (.cells #[.string (bs s), .slice none 0 0, .slice none 0 0] 110); have HI2 := hid h2a; have HQ2 : Hid (SCell w2.heap.size (w2.alloc (.cells #[.string (bs s), .slice none 0 0, .slice none 0 0] 110)) s (.slice none 0 0) (.slice none 0 0)) := hid (heap_alloc_new w2 _); have HS2 := hid ((hS1.trans hS2).alloc hI2.lt (.cells #[.string (bs s), .slice none 0 0, .slice none 0 0] 110)); have HZ : Hid ((w.alloc (.cells #[.string ⟨#[]⟩, .slice none 0 0, .slice none 0 0] 110)).heap.size ≤ w2.heap.size) := hid (Nat.le_trans hS1.size hS2.size); have TO := hid (takeN_sLp _ h2a EO.out); have D5 := hid (C5.out _ _ h2a); clear h2a hI2)) | (go_at_call 125; ((with_reducible refine TO.out.mono ?_); rintro e w' ⟨rfl, rfl⟩)))
     exact ⟨rfl, rfl, HS0.out.trans (HS2.out.trans hS5)⟩
   ·have ho : optP n l2 = paramsP n l2.tail := by unfold optP; rw [if_pos eo]
    rw [ho]
    have EO := hid eo
    have hw2t := hw2.isT eo (by decide)
    have htl : l2.tail.length = l2.length - 1 := List.length_tail
    have hp2 := hw2.pos
    clear ho eo
    have c4 : ∀ (k1 : Nat) w4, PInv (wth (wth X w.heap.size) k1) g (b - 3 - 3 - 3) w4 l2.tail 0 f → _ := fun k1 w4 hi => params_any n w4 hi (by omega)
    rcases h4 : paramsP n l2.tail with ⟨ps, l4⟩ | ⟨l4, x⟩
    all_goals rw [h4] at c4; have C4 := hid c4; clear c4
    ·rw [PR.bind_ok]
     obtain ⟨hl4, hw4⟩ := params_len hw2t h4
     clear h4
     have c5 : ∀ (k1 : Nat) w5, PInv (wth (wth X w.heap.size) k1) g (b - 3 - 3 - 3) w5 l4 0 f → _ := fun k1 w5 hi => need_sLc w5 hi
     rcases h5 : need sLc l4 with ⟨u5, l5⟩ | ⟨l5, x⟩
     all_goals rw [h5] at c5; have C5 := hid c5; clear c5
     ·rw [PR.bind_ok]
      obtain ⟨hl5, hw5⟩ := need_len (by decide) hw4 h5
      clear h5
      obtain ⟨R, HR⟩ : ∃ R, Hid (R = itemsL n [] l5) := ⟨_, hid rfl⟩
      rw [← HR.out]
      go_enter Tryz.func78, Tryz.ntmps78
      go_wp2_with (first | (go_at_call 122; first | ((with_reducible refine D1.out.mono ?_); rintro e1 w1 ⟨rfl, hI1, hS1⟩; have D2 := hid (C2.out _ hI1); clear hI1) | ((with_reducible refine D5.out.mono ?_); rintro e5 w5 ⟨rfl, hI5, hS5⟩; have HI5 := hid hI5; have HQ5 := hid (HQ4.out.own HI4.out (.inr rfl) hS5); have HS5 := hid (HS4.out.trans hS5); have HP5 := hid (HP4.out.st hS5); clear hI5; clear y0 y1 y2 yf yl)) | (go_at_call 123; ((with_reducible refine D2.out.mono ?_); rintro e2 w2 ⟨rfl, hI2, hS2⟩; have h2a := hI2.hide (.cells #[.string (bs s), .slice none 0 0, .slice none 0 0] 110); have HI2 := hid h2a; have HQ2 : Hid (SCell w2.heap.size (w2.alloc (.cells #[.string (bs s), .slice none 0 0, .slice none 0 0] 110)) s (.slice none 0 0) (.slice none 0 0)) := hid (heap_alloc_new w2 _); have HS2 := hid ((hS1.trans hS2).alloc hI2.lt (.cells #[.string (bs s), .slice none 0 0, .slice none 0 0] 110)); have HZ : Hid ((w.alloc (.cells #[.string ⟨#[]⟩, .slice none 0 0, .slice none 0 0] 110)).heap.size ≤ w2.heap.size) := hid (Nat.le_trans hS1.size hS2.size); have TO := hid (takeY_sLp _ h2a EO.out); clear h2a hI2)) | (go_at_call 125; ((with_reducible refine TO.out.mono ?_); rintro e3 w3 ⟨rfl, hI3, hS3⟩; have HI3 := hid hI3; have HQ3 := hid (HQ2.out.own HI2.out (.inr rfl) hS3); have HS3 := hid (HS2.out.trans hS3); have D4 := hid (C4.out _ _ hI3); clear hI3)) | (go_at_call 126; (refine D4.out.mono ?_; rintro e4 w4 ⟨⟨pv, rfl, hpv, hI4⟩, hS4⟩; obtain ⟨pa, pc, hpsh⟩ := PV.shape hpv; subst hpsh; have hq4 := HQ3.out.own HI3.out (.inr rfl) hS4; obtain ⟨⟨y0, y1, y2⟩, yf, yl⟩ := hq4.cells; have HQ4 := hid (hq4.setP (.slice pa ps.length pc)); have hl4' := hI4.local (.inr rfl) 1 (.slice pa ps.length pc); have HP4 : Hid (PV (wth (wth X w.heap.size) w2.heap.size) g (w4.setCell ⟨w2.heap.size, 1, none⟩ (.slice pa ps.length pc)) (.slice pa ps.length pc) ps) := hid (PV.stay hpv (hI4.stayL (.inr rfl) 1 _)); have HI4 := hid hl4'; have HS4 := hid ((HS3.out.trans hS4).fresh hg0 HZ.out 1 (.slice pa ps.length pc)); have D5 := hid (C5.out _ _ hl4'); clear hq4 hl4' hI4 hpv)))
      go_loopw [16] (fun s16 wr => ∃ (m : Nat) (is : List IA) (v : Value) (l' : List Tok), PInv (wthV (wth (wth X w.heap.size) w2.heap.size) v) g b wr l' 0 (f.setG (putIs is f.g).1) ∧ SCell w2.heap.size wr s (.slice pa ps.length pc) v ∧ RowR (Irep layP) 129 9 (Pub (wthV (wth (wth X w.heap.size) w2.heap.size) v) layP g wr) wr v (putIs is f.g).2 ∧ PV (wthV (wth (wth X w.heap.size) w2.heap.size) v) g wr (.slice pa ps.length pc) ps ∧ (∀ i, v.ownBlock = some i → w2.heap.size < i) ∧ St layP g (w.alloc (.cells #[.string ⟨#[]⟩, .slice none 0 0, .slice none 0 0] 110)) wr ∧ Hid (R = itemsL m is l') ∧ 8 * l'.length + 5 ≤ m ∧ is.length ≤ 64) (fun _ wr => tokN g wr)
      case atStart =>
       exact ⟨n, [], .slice none 0 0, l5, (HI5.out.nilV 0 0).mono (by omega) htop, HQ5.out, RowR.nil _ _ _ _ _, HP5.out.stay (Stay.nilV _ _ _ _ _), (fun i hi => by cases hi), HS5.out, HR, by omega, by simp⟩
      case round =>
       obtain ⟨m, is, v, l', hI, hT, hV, hP, hlo, hS, HH, hm, hes⟩ := hrel
       have hl := hI.wf.pos
       have htok := hid hI.tokN
       obtain ⟨m, rfl⟩ : ∃ m', m = m' + 1 := ⟨m - 1, by omega⟩
       have hw' := hI.wf
       obtain ⟨va, vc, hsh⟩ := hV.shape
       have hlen : (putIs is f.g).2.length = is.length := putIs_length _ _
       rw [hlen] at hsh
       subst hsh
       have HLEN := hid hlen
       obtain ⟨⟨k0', k1', k2'⟩, kf', kl'⟩ := hT.cells
       have hvk : (Value.slice va is.length vc).ownBlock ≠ some w2.heap.size := RowR.off hV hT (by decide)
       have HVK := hid hvk
       have HV := hid hV
       have HI := hid hI
       have HS := hid hS
       have HT := hid hT
       have HP := hid hP
       have HLO := hid hlo
       clear hV hI hS hT hP hlo hlen hvk
       cases e1 : isT sRc l'
       ·have T := hid (takeN_sRc wr HI.out e1)
        have hR2 : R = (expectP (isName l' || isT kPack l') l').bind fun _ _ => (roomP is.length l').bind fun _ _ => (itemP m l').bind fun x l1 => itemsL m (is ++ [x]) l1 := by rw [HH.out, itemsL, if_neg (by rw [e1]; decide)]
        clear HH
        have cb := atName_any wr HI.out
        have cp := fun q (hq : isT kPack l' = q) => at_kPack wr HI.out hq
        by_cases hbp : (isName l' || isT kPack l') = true
        ·rw [hbp, show expectP true l' = .ok () l' from rfl, PR.bind_ok] at hR2
         have CX := hid (expect_yes wr HI.out)
         have cr := room_any is.length hes wr HI.out
         have hbp2 : isName l' = true ∨ (isName l' = false ∧ isT kPack l' = true) := by
          cases hb : isName l'
          ·rw [hb, Bool.false_or] at hbp; exact .inr ⟨rfl, hbp⟩
          ·exact .inl rfl
         clear hbp
         by_cases h64 : 64 ≤ is.length
         ·rw [roomP, if_pos h64, PR.bind_bad] at hR2
          rw [if_pos h64] at cr
          have CRM := hid cr
          have HR3 := hid hR2
          rcases hbp2 with hb | ⟨hb, hp⟩
          all_goals
           rw [hb] at cb
           have CB := hid cb
           have CP := hid cp
           clear hR2 cb cr e1 cp
           go_wp2_with (first | (go_at_call 125; go_must (refine T.out.mono ?_; rintro e w' ⟨rfl, rfl⟩)) | (go_at_call 128; go_must (refine CB.out.mono ?_; rintro e w' ⟨rfl, rfl⟩)) | (go_at_call 75; go_must (refine (CP.out true hp).mono ?_; rintro e w' ⟨rfl, rfl⟩)) | (go_at_call 127; go_must (refine CX.out.mono ?_; rintro e w' ⟨rfl, rfl⟩)) | (go_at_call 76; go_must (refine CRM.out.mono ?_; rintro e w' ⟨rfl, rfl⟩)))
           rw [HR3.out, PR.bind_bad]
           exact ⟨rfl, rfl, HS0.out.trans HS.out⟩
         ·rw [roomP, if_neg h64, PR.bind_ok] at hR2
          rw [if_neg h64] at cr
          have CRM := hid cr
          have c7 : ∀ w7, PInv (wthV (wth (wth X w.heap.size) w2.heap.size) (.slice va is.length vc)) g b w7 l' 0 (f.setG (putIs is f.g).1) → _ := fun w7 hi => item_any m w7 hi (by omega)
          rcases h7 : itemP m l' with ⟨x, l7⟩ | ⟨l7, x⟩
          all_goals rw [h7] at c7 hR2; have C7 := hid c7; clear c7
          ·obtain ⟨hl7, hw7⟩ := item_len hw' h7
           rw [PR.bind_ok] at hR2
           have HR3 := hid hR2
           rcases hbp2 with hb | ⟨hb, hp⟩
           all_goals
            rw [hb] at cb
            have CB := hid cb
            have CP := hid cp
            have HId := hid (HI.out.below ((Below.refl _ wr).drew))
            have HTd : Hid (SCell w2.heap.size wr.drew s (.slice pa ps.length pc) (.slice va is.length vc)) := hid HT.out
            have HVd : Hid (RowR (Irep layP) 129 9 (Pub (wthV (wth (wth X w.heap.size) w2.heap.size) (.slice va is.length vc)) layP g wr.drew) wr.drew (.slice va is.length vc) (putIs is f.g).2) := hid (HV.out.stay (Irep.kept _) ((St.below HI.out.lt ((Below.refl _ wr).drew)).pub _) fun i hi => rfl)
            have HPd : Hid (PV (wthV (wth (wth X w.heap.size) w2.heap.size) (.slice va is.length vc)) g wr.drew (.slice pa ps.length pc) ps) := hid (HP.out.st (St.below HI.out.lt ((Below.refl _ wr).drew)))
            have D8 := hid (C7.out wr.drew HId.out)
            clear hR2 cb cr e1 cp h7 k0' k1'
            go_wp2_with (first | (go_at_call 125; go_must (refine T.out.mono ?_; rintro e w' ⟨rfl, rfl⟩)) | (go_at_call 128; go_must (refine CB.out.mono ?_; rintro e w' ⟨rfl, rfl⟩)) | (go_at_call 75; go_must (refine (CP.out true hp).mono ?_; rintro e w' ⟨rfl, rfl⟩)) | (go_at_call 127; go_must (refine CX.out.mono ?_; rintro e w' ⟨rfl, rfl⟩)) | (go_at_call 76; go_must (refine CRM.out.mono ?_; rintro e w' ⟨rfl, rfl⟩)))
            go_region_law (first | (refine step_call (by rfl) 129 _ 188 (by rfl) enter_item _ (by rfl) D8.out ?_; rintro e7 w7 ⟨⟨_, rfl, ⟨c0, c1, c2, c3, c4, c5, c6, c7, c8, rfl, sv, hcs, hsub, hnest⟩, hI7⟩, hS7⟩; cases hcs; obtain ⟨a', c', rfl⟩ := ownsRow_shape hsub; have HT7 := hid (HTd.out.own HId.out (.inl (.inr rfl)) hS7); have HP7 := hid (HPd.out.st hS7); have hv7 := HVd.out.stay (Irep.kept _) (hS7.pub _) fun i hi => HId.out.own (.inr hi) hS7; obtain ⟨qs, qown, q1, q2, q3⟩ := hv7; rw [HLEN.out] at qown; have QOWN := hid qown; have Q1 := hid q1; have Q2 := hid q2; have Q3 := hid q3; have HM : Hid (Irep layP (Pub (wthV (wth (wth X w.heap.size) w2.heap.size) (.slice va is.length vc)) layP g w7) w7 [.string (bs (putI x (putIs is f.g).1).2.s), .int .i64 (putI x (putIs is f.g).1).2.t, .int .i64 ((putI x (putIs is f.g).1).2.der : Int), .string (bs (putI x (putIs is f.g).1).2.a), .string (bs (putI x (putIs is f.g).1).2.b), .int .i64 (putI x (putIs is f.g).1).2.wh, .int .i64 ((putI x (putIs is f.g).1).2.size : Int), .bool (putI x (putIs is f.g).1).2.little, .slice a' (putI x (putIs is f.g).1).2.subs.length c'] (putI x (putIs is f.g).1).2) := hid ⟨_, rfl, hsub, hnest⟩; obtain ⟨⟨p0, p1, p2⟩, pf, pl⟩ := HT7.out.cells; have HI7 := hid hI7; clear hI7 p0 p1 qown q1 q2 q3 hsub hnest) | (refine step_one _ (by rfl) _ _ 108 (by rfl) 129 i0 _ 9 112 Tryz.underlying108 hi hz0 hz1 hz2 rfl (by decide) (.slice va is.length vc) is.length qs.flatten (by rfl) (RowR.below QOWN.out (below_box _ _)) _ _ [.string (bs (putI x (putIs is f.g).1).2.s), .int .i64 (putI x (putIs is f.g).1).2.t, .int .i64 ((putI x (putIs is f.g).1).2.der : Int), .string (bs (putI x (putIs is f.g).1).2.a), .string (bs (putI x (putIs is f.g).1).2.b), .int .i64 (putI x (putIs is f.g).1).2.wh, .int .i64 ((putI x (putIs is f.g).1).2.size : Int), .bool (putI x (putIs is f.g).1).2.little, .slice a' (putI x (putIs is f.g).1).2.subs.length c'] (by rfl) rfl (heap_alloc_new _ _) (by simp [Value.oneCell']) (by unfold maxLen; omega) (by omega) ?_; intro v' w9 hown hgrow hat; obtain ⟨va', vc', rfl⟩ := ownsRow_shape hown; have HOW := hid hown; have HG := hid hgrow; have HAT := hid hat; have hw9 : w9.heap[w2.heap.size]? = w7.heap[w2.heap.size]? := (HG.out.block w2.heap.size (by simp; omega) fun e => HVK.out e.symm).trans ((below_box w7 _).block w2.heap.size pl); have HW9 := hid hw9; obtain ⟨⟨_, _, n2⟩, nf', nl⟩ := SCell.cells (hw9.trans HT7.out); have nf := nf' 2; clear hown hgrow hat hw9))
            all_goals
             have hI9 := (HI7.out.below (below_box w7 (.cells #[.string (bs (putI x (putIs is f.g).1).2.s), .int .i64 (putI x (putIs is f.g).1).2.t, .int .i64 ((putI x (putIs is f.g).1).2.der : Int), .string (bs (putI x (putIs is f.g).1).2.a), .string (bs (putI x (putIs is f.g).1).2.b), .int .i64 (putI x (putIs is f.g).1).2.wh, .int .i64 ((putI x (putIs is f.g).1).2.size : Int), .bool (putI x (putIs is f.g).1).2.little, .slice a' (putI x (putIs is f.g).1).2.subs.length c'] 129))).grow HG.out HAT.out fun i hi => (World.ownsRow.lt HOW.out i hi).2
             have hst : Stay (Pub (wthV (wth (wth X w.heap.size) w2.heap.size) (.slice va is.length vc)) layP g w7) (Pub (wthV (wth (wth X w.heap.size) w2.heap.size) (.slice va' (is.length + 1) vc')) layP g w9) w7 w9 := ((St.below HI7.out.lt (below_box w7 (.cells #[.string (bs (putI x (putIs is f.g).1).2.s), .int .i64 (putI x (putIs is f.g).1).2.t, .int .i64 ((putI x (putIs is f.g).1).2.der : Int), .string (bs (putI x (putIs is f.g).1).2.a), .string (bs (putI x (putIs is f.g).1).2.b), .int .i64 (putI x (putIs is f.g).1).2.wh, .int .i64 ((putI x (putIs is f.g).1).2.size : Int), .bool (putI x (putIs is f.g).1).2.little, .slice a' (putI x (putIs is f.g).1).2.subs.length c'] 129))).pub _).trans (Stay.grow (HI7.out.below (below_box w7 (.cells #[.string (bs (putI x (putIs is f.g).1).2.s), .int .i64 (putI x (putIs is f.g).1).2.t, .int .i64 ((putI x (putIs is f.g).1).2.der : Int), .string (bs (putI x (putIs is f.g).1).2.a), .string (bs (putI x (putIs is f.g).1).2.b), .int .i64 (putI x (putIs is f.g).1).2.wh, .int .i64 ((putI x (putIs is f.g).1).2.size : Int), .bool (putI x (putIs is f.g).1).2.little, .slice a' (putI x (putIs is f.g).1).2.subs.length c'] 129))) HG.out HAT.out)
             have how := HOW.out
             rw [← HLEN.out] at how
             have hv9 := RowR.snoc how Q1.out Q2.out (fun i c x h1 h2 => (Irep.kept _) _ _ _ _ _ _ (Q3.out i c x h1 h2) hst) rfl ((Irep.kept _) _ _ _ _ _ _ HM.out hst)
             rw [HLEN.out] at hv9
             have hk9 := ownsRow_off HOW.out (HW9.out.trans HT7.out) (by decide)
             have hs10 := hI9.stayL (k := w2.heap.size) (.inl (.inr rfl)) 2 (.slice va' (is.length + 1) vc')
             have HV10 := hid (hv9.stay (Irep.kept _) hs10 fun i hi => Below.heap_setCell _ _ _ _ fun e => hk9 ((show i = w2.heap.size from e) ▸ hi))
             have HP10 := hid ((HP7.out.stay hst).stay hs10)
             have HI10 := hid (hI9.local (k := w2.heap.size) (.inl (.inr rfl)) 2 (.slice va' (is.length + 1) vc'))
             have HT9 := hid (SCell.setV (HW9.out.trans HT7.out) (.slice va' (is.length + 1) vc'))
             have hlo9 : ∀ i, (Value.slice va' (is.length + 1) vc').ownBlock = some i → w2.heap.size < i := fun i hi => by
              rcases HAT.out with e | e
              ·exact HLO.out i (by rw [← e]; exact hi)
              ·rw [e, Option.some.injEq] at hi
               simp at hi
               omega
             have HS9 : Hid (St layP g (w.alloc (.cells #[.string ⟨#[]⟩, .slice none 0 0, .slice none 0 0] 110)) (w9.setCell ⟨w2.heap.size, 2, none⟩ (.slice va' (is.length + 1) vc'))) := hid (((((HS.out.drew HI.out.lt).trans hS7).alloc HI7.out.lt _).grown hg0 HG.out fun i hi => by have := HLO.out i hi; have := HZ.out; omega).fresh hg0 HZ.out _ _)
             have htok9 := hid HI10.out.tokN
             clear hI9 hst how hv9 hk9 hs10 n2 nf nl nf' p2 pf pl k2' kf' kl'
             go_wp2_with fail
             refine ⟨⟨m, is ++ [x], _, l7, ?_, HT9.out, ?_, HP10.out, hlo9, HS9.out, hid HR3.out, by omega, by rw [List.length_append, List.length_singleton]; omega⟩, ?_⟩
             ·rw [putIs_snoc]; exact HI10.out
             ·rw [putIs_snoc]; exact HV10.out
             ·rw [htok9.out, htok.out]; omega
          ·rw [PR.bind_bad] at hR2
           have HR3 := hid hR2
           rcases hbp2 with hb | ⟨hb, hp⟩
           all_goals
            rw [hb] at cb
            have CB := hid cb
            have CP := hid cp
            have HId := hid (HI.out.below ((Below.refl _ wr).drew))
            have D8 := hid (C7.out wr.drew HId.out)
            clear hR2 cb cr e1 cp h7 k0' k1'
            go_wp2_with (first | (go_at_call 125; go_must (refine T.out.mono ?_; rintro e w' ⟨rfl, rfl⟩)) | (go_at_call 128; go_must (refine CB.out.mono ?_; rintro e w' ⟨rfl, rfl⟩)) | (go_at_call 75; go_must (refine (CP.out true hp).mono ?_; rintro e w' ⟨rfl, rfl⟩)) | (go_at_call 127; go_must (refine CX.out.mono ?_; rintro e w' ⟨rfl, rfl⟩)) | (go_at_call 76; go_must (refine CRM.out.mono ?_; rintro e w' ⟨rfl, rfl⟩)))
            refine wp_region_any (by kernel_rfl) ?_
            change wpAny _ _ _ _ _ _ _ (World.drew _)
            refine wpAny_take (i := 0) (v := ?_) rfl (by kernel_rfl) (by kernel_rfl) (by kernel_rfl) (fun _ _ _ h => h) (Or.inl ⟨by rfl, ?_⟩) ?_
            rotate_left
            ·intro w; go_simp; try (with_reducible rfl)
            refine wpAny_take (i := 2) (v := ?_) rfl (by kernel_rfl) (by kernel_rfl) (by kernel_rfl) (fun _ _ _ h => h) (Or.inl ⟨by rfl, ?_⟩) ?_
            rotate_left
            ·intro w; go_simp; try (with_reducible rfl)
            refine wpAny_ready (rs := [1, 3]) (by kernel_rfl) (by simp) ?_
            refine AllReady.cons rfl (fun K hK => ?_) ?_
            ·go_simp
             refine hK _ _ ?_
             clear hK K
             refine wpAny_ready (rs := [3]) (by kernel_rfl) (by simp) ?_
             refine AllReady.cons rfl (fun K hK => ?_) AllReady.nil
             (refine step_call (by rfl) 129 _ 188 (by rfl) enter_item _ (by rfl) D8.out ?_; rintro e7 w7 ⟨rfl, hS7⟩; refine ⟨rfl, ?_⟩; rw [HR3.out, PR.bind_bad]; exact ⟨rfl, HS0.out.trans ((HS.out.drew HI.out.lt).trans hS7)⟩)
            refine AllReady.cons rfl (fun K hK => ?_) AllReady.nil
            (refine step_call (by rfl) 129 _ 188 (by rfl) enter_item _ (by rfl) D8.out ?_; rintro e7 w7 ⟨rfl, hS7⟩; refine ⟨rfl, ?_⟩; rw [HR3.out, PR.bind_bad]; exact ⟨rfl, HS0.out.trans ((HS.out.drew HI.out.lt).trans hS7)⟩)
        ·have hb : isName l' = false := by cases hb : isName l' <;> simp_all
         have hp : isT kPack l' = false := by cases hp : isT kPack l' <;> simp_all
         have hR3 : R = .bad l' 4 := by rw [hR2, hb, hp]; rfl
         have HR3 := hid hR3
         rw [hb] at cb
         have CB := hid cb
         have CP := hid cp
         have CX := hid (expect_no wr HI.out)
         clear hR2 hR3 cb cp e1 hbp
         go_wp2_with (first | (go_at_call 125; go_must (refine T.out.mono ?_; rintro e w' ⟨rfl, rfl⟩)) | (go_at_call 128; go_must (refine CB.out.mono ?_; rintro e w' ⟨rfl, rfl⟩)) | (go_at_call 75; go_must (refine (CP.out false hp).mono ?_; rintro e w' ⟨rfl, rfl⟩)) | (go_at_call 127; go_must (refine CX.out.mono ?_; rintro e w' ⟨rfl, rfl⟩)))
         rw [HR3.out, PR.bind_bad]
         exact ⟨rfl, rfl, HS0.out.trans HS.out⟩
       ·have T := hid (takeY_sRc wr HI.out e1)
        have HF : Hid (R = .ok is l'.tail) := hid (by rw [HH.out, itemsL, if_pos e1])
        clear HH e1
        go_wp2_with (go_at_call 125; go_must (refine T.out.mono ?_; rintro e w4 ⟨rfl, hI4, hS4⟩; have hq := HT.out.own HI.out (.inl (.inr rfl)) hS4; obtain ⟨⟨b0, b1, b2⟩, bf, bl⟩ := hq.cells; have q9 := (((HS.out.trans hS4).stay _ (H.out.fresh (.cells #[.string ⟨#[]⟩, .slice none 0 0, .slice none 0 0] 110))).1).trans (heap_alloc_new w _); obtain ⟨⟨a0, a1, a2⟩, af, al⟩ := cells3 q9; have HI4 := hid hI4; clear hI4 hq q9))
        have q2 := PInv.set3 HI4.out (k := w.heap.size) (.inl (.inl (.inr rfl))) (.string (bs s)) (.slice pa ps.length pc) (.slice va is.length vc)
        have qs := PInv.stay3 HI4.out (k := w.heap.size) (.inl (.inl (.inr rfl))) (.string (bs s)) (.slice pa ps.length pc) (.slice va is.length vc)
        have s2 := St.set3 (k := w.heap.size) (HS0.out.trans (HS.out.trans hS4)) hg (Nat.le_refl _) (.string (bs s)) (.slice pa ps.length pc) (.slice va is.length vc)
        have hp4 := (HP.out.st hS4).stay qs
        have hv4 := (HV.out.stay (Irep.kept _) (hS4.pub _) fun i hi => HI.out.own (.inr hi) hS4).stay (Irep.kept _) qs fun i hi => set3_heap _ _ _ _ (by have := HLO.out i hi; have := HZ.out; simp at this; omega)
        have hwk : ∀ i, Pub (wthV (wth (wth X w.heap.size) w2.heap.size) (.slice va is.length vc)) layP g (set3 w4 w.heap.size (.string (bs s)) (.slice pa ps.length pc) (.slice va is.length vc)) i → Pub X layP g (set3 w4 w.heap.size (.string (bs s)) (.slice pa ps.length pc) (.slice va is.length vc)) i := fun i hi => hi.weak fun k hk => .inl (.inl (.inl hk))
        have hpub : Nest (Pub X layP g (set3 w4 w.heap.size (.string (bs s)) (.slice pa ps.length pc) (.slice va is.length vc))) (.slice va is.length vc) := fun i hi => ⟨q2.priv i (.inr hi), fun hx => by have := HXlt.out i hx; have := HLO.out i hi; have := HZ.out; simp at this; omega⟩
        refine bodyPost_ret (v := .agg #[.string (bs s), (.slice pa ps.length pc), (.slice va is.length vc)]) (by simp [results, Tryz.results78, go_sem, a0, a1, a2]) rfl ?_
        rw [HF.out, PR.bind_ok]
        exact ⟨⟨_, rfl, ⟨_, _, _, rfl, _, _, rfl, hp4.1, (fun i hi => hwk i (hp4.2 i hi)), hv4.stay (Irep.kept _) (Stay.weak hwk) (fun i hi => rfl), hpub⟩, q2.bareV.bare.bare.mono (by omega) htop⟩, s2⟩
     ·rw [PR.bind_bad]
      clear h5
      go_enter Tryz.func78, Tryz.ntmps78
      go_wp2_with (first | (go_at_call 122; first | ((with_reducible refine D1.out.mono ?_); rintro e1 w1 ⟨rfl, hI1, hS1⟩; have D2 := hid (C2.out _ hI1); clear hI1) | ((with_reducible refine D5.out.mono ?_); rintro e5 w5 ⟨rfl, hI5, hS5⟩)) | (go_at_call 123; ((with_reducible refine D2.out.mono ?_); rintro e2 w2 ⟨rfl, hI2, hS2⟩; have h2a := hI2.hide (.cells #[.string (bs s), .slice none 0 0, .slice none 0 0] 110); have HI2 := hid h2a; have HQ2 : Hid (SCell w2.heap.size (w2.alloc (.cells #[.string (bs s), .slice none 0 0, .slice none 0 0] 110)) s (.slice none 0 0) (.slice none 0 0)) := hid (heap_alloc_new w2 _); have HS2 := hid ((hS1.trans hS2).alloc hI2.lt (.cells #[.string (bs s), .slice none 0 0, .slice none 0 0] 110)); have HZ : Hid ((w.alloc (.cells #[.string ⟨#[]⟩, .slice none 0 0, .slice none 0 0] 110)).heap.size ≤ w2.heap.size) := hid (Nat.le_trans hS1.size hS2.size); have TO := hid (takeY_sLp _ h2a EO.out); clear h2a hI2)) | (go_at_call 125; ((with_reducible refine TO.out.mono ?_); rintro e3 w3 ⟨rfl, hI3, hS3⟩; have HI3 := hid hI3; have HQ3 := hid (HQ2.out.own HI2.out (.inr rfl) hS3); have HS3 := hid (HS2.out.trans hS3); have D4 := hid (C4.out _ _ hI3); clear hI3)) | (go_at_call 126; (refine D4.out.mono ?_; rintro e4 w4 ⟨⟨pv, rfl, hpv, hI4⟩, hS4⟩; obtain ⟨pa, pc, hpsh⟩ := PV.shape hpv; subst hpsh; have hq4 := HQ3.out.own HI3.out (.inr rfl) hS4; obtain ⟨⟨y0, y1, y2⟩, yf, yl⟩ := hq4.cells; have HQ4 := hid (hq4.setP (.slice pa ps.length pc)); have hl4' := hI4.local (.inr rfl) 1 (.slice pa ps.length pc); have HP4 : Hid (PV (wth (wth X w.heap.size) w2.heap.size) g (w4.setCell ⟨w2.heap.size, 1, none⟩ (.slice pa ps.length pc)) (.slice pa ps.length pc) ps) := hid (PV.stay hpv (hI4.stayL (.inr rfl) 1 _)); have HI4 := hid hl4'; have HS4 := hid ((HS3.out.trans hS4).fresh hg0 HZ.out 1 (.slice pa ps.length pc)); have D5 := hid (C5.out _ _ hl4'); clear hq4 hl4' hI4 hpv)))
      exact ⟨rfl, rfl, HS0.out.trans (HS4.out.trans hS5)⟩
    ·rw [PR.bind_bad]
     clear h4
     go_enter Tryz.func78, Tryz.ntmps78
     go_wp2_with (first | (go_at_call 122; ((with_reducible refine D1.out.mono ?_); rintro e1 w1 ⟨rfl, hI1, hS1⟩; have D2 := hid (C2.out _ hI1); clear hI1)) | (go_at_call 123; ((with_reducible refine D2.out.mono ?_); rintro e2 w2 ⟨rfl, hI2, hS2⟩; have h2a := hI2.hide (.cells #[.string (bs s), .slice none 0 0, .slice none 0 0] 110); have HI2 := hid h2a; have HQ2 : Hid (SCell w2.heap.size (w2.alloc (.cells #[.string (bs s), .slice none 0 0, .slice none 0 0] 110)) s (.slice none 0 0) (.slice none 0 0)) := hid (heap_alloc_new w2 _); have HS2 := hid ((hS1.trans hS2).alloc hI2.lt (.cells #[.string (bs s), .slice none 0 0, .slice none 0 0] 110)); have HZ : Hid ((w.alloc (.cells #[.string ⟨#[]⟩, .slice none 0 0, .slice none 0 0] 110)).heap.size ≤ w2.heap.size) := hid (Nat.le_trans hS1.size hS2.size); have TO := hid (takeY_sLp _ h2a EO.out); clear h2a hI2)) | (go_at_call 125; ((with_reducible refine TO.out.mono ?_); rintro e3 w3 ⟨rfl, hI3, hS3⟩; have HI3 := hid hI3; have HQ3 := hid (HQ2.out.own HI2.out (.inr rfl) hS3); have HS3 := hid (HS2.out.trans hS3); have D4 := hid (C4.out _ _ hI3); clear hI3)) | (go_at_call 126; (refine D4.out.mono ?_; rintro e4 w4 ⟨rfl, hS4⟩)))
     exact ⟨rfl, rfl, HS0.out.trans (HS3.out.trans hS4)⟩
  ·rw [PR.bind_bad]
   clear h2
   go_enter Tryz.func78, Tryz.ntmps78
   go_wp2_with (first | (go_at_call 122; ((with_reducible refine D1.out.mono ?_); rintro e1 w1 ⟨rfl, hI1, hS1⟩; have D2 := hid (C2.out _ hI1); clear hI1)) | (go_at_call 123; ((with_reducible refine D2.out.mono ?_); rintro e2 w2 ⟨rfl, hI2, hS2⟩)))
   exact ⟨rfl, rfl, HS0.out.trans (hS1.trans hS2)⟩
 ·rw [PR.bind_bad]
  clear h1
  go_enter Tryz.func78, Tryz.ntmps78
  go_wp2_with (go_at_call 122; ((with_reducible refine D1.out.mono ?_); rintro e1 w1 ⟨rfl, hI1, hS1⟩))
  exact ⟨rfl, rfl, HS0.out.trans hS1⟩
end Go.Proofs.YtomimkgaelkaoaaGreatDoor
