/- Layer 7: the program's parser: params. · Layer 7: the program's parser: packs. -/
import Derived.Test.YtomimkgaelkaoaaGreatDoorC13ParDer
set_option linter.unusedVariables false
set_option linter.unusedSimpArgs false
namespace Go.Proofs.YtomimkgaelkaoaaGreatDoor
open Go.Lib (hid)
open Go.ChangeShapes Go.WideShapes Go.ChangeAt Go.RowKit
theorem info_string : (Tryz.prog.info? 9).map (fun i => (i.zero, i.size, i.bytes)) = some (some (.string ⟨#[]⟩), 1, 16) := by kernel_rfl
theorem StrsV.snoc {w : World} {v : Value} {ks : List (List UInt8)} {x : List UInt8} (h : w.ownsRow 0 9 1 v (ks.length + 1) (ks.map (fun s => Value.string (bs s)) ++ [.string (bs x)])) : StrsV w v (ks ++ [x]) := by
 unfold StrsV
 rw [List.length_append, List.map_append]
 exact h
theorem StrsV.below {w w' : World} {v : Value} {ks : List (List UInt8)} (h : StrsV w v ks) (hb : Below w.heap.size w w') : StrsV w' v ks := RowR.below h hb
theorem StrsV.st {X : Nat → Prop} {g b : Nat} {w w' : World} {l : List Tok} {d : Nat} {f : FM} {v : Value} {ks : List (List UInt8)} (h : StrsV w v ks) (hI : PInv (wthV X v) g b w l d f) (hS : St layP g w w') : StrsV w' v ks := ownsRow_same h fun k hk => hI.own (.inr hk) hS
theorem strs_new {w : World} (x : List UInt8) : StrsV (w.alloc (.cells #[.string (bs x)] 9)) (.slice (some ⟨w.heap.size, 0, none⟩) 1 1) [x] :=
 ⟨rfl, .inr ⟨w.heap.size, 1, _, rfl, Nat.zero_le _, heap_alloc_new w _, Nat.le_refl _, by unfold maxLen; omega, rfl, rfl⟩⟩
theorem name_len {l l' : List Tok} {s : List UInt8} (hw : WF l) (h : nameP l = .ok s l') : l'.length < l.length ∧ WF l' := by
 have := good_name l hw
 rw [h] at this
 exact ⟨by have := this.2; omega, this.1⟩
set_option maxHeartbeats 4000000 in
set_option maxRecDepth 100000 in
theorem params_any (n : Nat) {X : Nat → Prop} {g b : Nat} {l : List Tok} {d : Nat} {f : FM} (w : World) (h : PInv X g b w l d f) (hn : l.length < n) :
  Calls Tryz.prog 126 #[.pointer (some ⟨g, 0, none⟩)] w (PostV X g b w d (paramsP n l) (fun ps v w' => StrsV w' v ps ∧ Nest (Pub X layP g w') v) fun _ => f) := by
 have htop := h.top
 have hw := h.wf
 have hg := h.lt
 have hXlt : ∀ k, X k → k < w.heap.size := fun k hk => (h.priv k hk).lt
 have c1 := name_any w h
 unfold paramsP
 rcases h1 : nameP l with ⟨s0, l1⟩ | ⟨l1, x⟩
 all_goals rw [h1] at c1; have C1 := hid c1; clear c1
 ·obtain ⟨hl1, hw1⟩ := name_len hw h1
  rw [PR.bind_ok]
  obtain ⟨R, HR⟩ : ∃ R, Hid (R = paramsL n [s0] l1) := ⟨_, hid rfl⟩
  rw [← HR.out]
  obtain ⟨i0, hi, hz0, hz1, hz2⟩ := info_parts info_string
  have HXlt := hid hXlt
  clear h1 h hXlt
  go_enter Tryz.func126, Tryz.ntmps126
  go_wp2_with (go_at_call 123; go_must (refine C1.out.mono ?_; rintro e1 w1 ⟨rfl, hI1, hS1⟩))
  go_loopw [3] (fun s3 wr => ∃ (m : Nat) (es : List (List UInt8)) (v : Value) (l' : List Tok), v = s3 ∧ PInv (wthV X v) g b wr l' d f ∧ StrsV wr v es ∧ (∀ i, v.ownBlock = some i → w.heap.size ≤ i) ∧ St layP g w wr ∧ Hid (R = paramsL m es l') ∧ l'.length < m ∧ es.length ≤ 64) (fun _ wr => tokN g wr)
  case atStart =>
   have hI2 := hI1.hide (.cells #[.string (bs s0)] 9)
   have hs := hS1.size
   exact ⟨n, [s0], _, l1, rfl, hI2.toV.mono (by omega) htop, strs_new s0, fun i hi => by simp only [Value.ownBlock, Option.some.injEq] at hi; omega, hS1.alloc hI1.lt _, HR, by omega, by simp⟩
  case round =>
   obtain ⟨m, es, v, l', rfl, hI, hV, hlo, hS, H, hm, hes⟩ := hrel
   have hl := hI.wf.pos
   have htok := hid hI.tokN
   obtain ⟨m, rfl⟩ : ∃ m', m = m' + 1 := ⟨m - 1, by omega⟩
   have hpot := hI.pot
   have hw' := hI.wf
   cases e1 : isT sComma l'
   ·have HF : Hid (R = .ok es l') := hid (by rw [H.out, paramsL, if_neg (by rw [e1]; decide)])
    have T := hid (takeN_sComma wr hI e1)
    have c3 := need_sRp wr hI
    rcases h3 : need sRp l' with ⟨u, l3⟩ | ⟨l3, x⟩
    all_goals
     rw [h3] at c3
     have C3 := hid c3
     have HV := hid hV
     have HI := hid hI
     have HS := hid hS
     have H3 := hid h3
     clear c3 h3 e1 H hV hI hS
     go_wp2_with (first | (go_at_call 125; go_must (refine T.out.mono ?_; rintro e w' ⟨rfl, rfl⟩)) | (go_at_call 122; go_must (refine C3.out.mono ?_; rintro e3 w3 ⟨rfl, hI3, hS3⟩)))
    ·go_ret
     rw [HF.out, PR.bind_ok, H3.out]
     have hpub : ∀ k, v.ownBlock = some k → Pub X layP g w3 k := fun k hk => ⟨hI3.priv k (.inr hk), fun hx => by have := HXlt.out k hx; have := hlo k hk; omega⟩
     exact ⟨⟨v, rfl, ⟨HV.out.st HI.out hS3, hpub⟩, hI3.bareV.mono (by omega) htop⟩, HS.out.trans hS3⟩
    ·rw [HF.out, PR.bind_ok, H3.out]
     exact ⟨rfl, rfl, HS.out.trans hS3⟩
   ·have htl : l'.tail.length = l'.length - 1 := List.length_tail
    have T := hid (takeY_sComma wr hI e1)
    have hR2 : R = (expectP (isName l'.tail) l'.tail).bind fun _ l1 => (roomP es.length l1).bind fun _ l2 => (nameP l2).bind fun x l3 => paramsL m (es ++ [x]) l3 := by rw [H.out, paramsL, if_pos e1]
    have hwt := hw'.isT e1 (by decide)
    obtain ⟨va, vc, hsh⟩ := ownsRow_shape hV
    have HV := hid hV
    have HI := hid hI
    have HS := hid hS
    have HLO := hid hlo
    clear H hV hI hS hlo
    cases hb : isName l'.tail
    ·have hR3 : R = .bad l'.tail 4 := by rw [hR2, hb]; rfl
     have HR3 := hid hR3
     clear hR2 hR3
     go_wp2_with (first | (go_at_call 125; go_must (refine T.out.mono ?_; rintro e w2 ⟨rfl, hI2, hS2⟩; have cb := atName_any w2 hI2; rw [hb] at cb; have CB := hid cb; have CX := hid (expect_no w2 hI2); clear cb hI2)) | (go_at_call 128; go_must (refine CB.out.mono ?_; rintro e w' ⟨rfl, rfl⟩)) | (go_at_call 127; go_must (refine CX.out.mono ?_; rintro e w' ⟨rfl, rfl⟩)))
     rw [HR3.out, PR.bind_bad]
     exact ⟨rfl, rfl, HS.out.trans hS2⟩
    ·subst hsh
     by_cases h64 : 64 ≤ es.length
     ·have hR3 : R = .bad l'.tail 10 := by rw [hR2, hb, show expectP true l'.tail = .ok () l'.tail from rfl, PR.bind_ok, roomP, if_pos h64]; rfl
      have HR3 := hid hR3
      clear hR2 hR3
      go_wp2_with (first | (go_at_call 125; go_must (refine T.out.mono ?_; rintro e w2 ⟨rfl, hI2, hS2⟩; have cb := atName_any w2 hI2; rw [hb] at cb; have CB := hid cb; have CX := hid (expect_yes w2 hI2); have cr := room_any es.length hes w2 hI2; rw [if_pos h64] at cr; have CR := hid cr; clear cb cr hI2)) | (go_at_call 128; go_must (refine CB.out.mono ?_; rintro e w' ⟨rfl, rfl⟩)) | (go_at_call 127; go_must (refine CX.out.mono ?_; rintro e w' ⟨rfl, rfl⟩)) | (go_at_call 76; go_must (refine CR.out.mono ?_; rintro e w' ⟨rfl, rfl⟩)))
      rw [HR3.out, PR.bind_bad]
      exact ⟨rfl, rfl, HS.out.trans hS2⟩
     ·rw [hb, show expectP true l'.tail = .ok () l'.tail from rfl, PR.bind_ok, roomP, if_neg h64, PR.bind_ok] at hR2
      have hgr := hg
      have hy : nameP l'.tail = .ok (hd l'.tail).tk.t l'.tail.tail := by unfold nameP; rw [if_pos hb]
      rw [hy, PR.bind_ok] at hR2
      have HR3 := hid hR2
      have htl2 : l'.tail.tail.length = l'.tail.length - 1 := List.length_tail
      have hpt := hwt.pos
      have HB := hid hb
      have HY := hid hy
      clear hR2 hy hb
      go_wp2_with (first | (go_at_call 125; go_must (refine T.out.mono ?_; rintro e w2 ⟨rfl, hI2, hS2⟩; have cb := atName_any w2 hI2; rw [HB.out] at cb; have CB := hid cb; have CX := hid (expect_yes w2 hI2); have cr := room_any es.length hes w2 hI2; rw [if_neg h64] at cr; have CR := hid cr; have ce := name_any w2 hI2; rw [HY.out] at ce; have CE := hid ce; clear cb cr ce hI2)) | (go_at_call 128; go_must (refine CB.out.mono ?_; rintro e w' ⟨rfl, rfl⟩)) | (go_at_call 127; go_must (refine CX.out.mono ?_; rintro e w' ⟨rfl, rfl⟩)) | (go_at_call 76; go_must (refine CR.out.mono ?_; rintro e w' ⟨rfl, rfl⟩)) | (go_at_call 123; go_must (refine CE.out.mono ?_; rintro e w3 ⟨rfl, hI3, hS3⟩; have HV3 := hid ((HV.out.st HI.out (hS2.trans hS3)).below (below_box w3 (.cells #[.string (bs (hd l'.tail).tk.t)] 9))); have HI3 := hid hI3; clear hI3)) | (at_builtin; go_must (refine append_one rfl _ _ 89 rfl 9 i0 _ 1 16 Tryz.underlying89 hi hz0 hz1 hz2 rfl (by decide) (.slice va es.length vc) es.length (es.map fun s => Value.string (bs s)) rfl HV3.out _ _ [.string (bs (hd l'.tail).tk.t)] rfl rfl (heap_alloc_new _ _) (by simp [Value.oneCell']) (by unfold maxLen; omega) (by omega) ?_; intro v' w4 hown hgrow hat; have HOW := hid hown; have HG := hid hgrow; have HAT := hid hat; clear hown hgrow hat)))
      have hI4 := (HI3.out.below (below_box w3 (.cells #[.string (bs (hd l'.tail).tk.t)] 9))).grow HG.out HAT.out (fun k hk => (World.ownsRow.lt HOW.out k hk).2)
      have hV4 := StrsV.snoc HOW.out
      have hlo4 : ∀ i, v'.ownBlock = some i → w.heap.size ≤ i := fun i hi => by
       rcases HAT.out with e | e
       ·exact HLO.out i (by rw [← e]; exact hi)
       ·rw [e, Option.some.injEq] at hi
        have := ((HS.out.trans hS2).trans hS3).size
        simp at hi
        omega
      have hS4 : St layP g w w4 := ((((HS.out.trans hS2).trans hS3).alloc HI3.out.lt _)).grown hgr HG.out fun k hk => HLO.out k hk
      have ht4 := hI4.tokN
      refine ⟨⟨m, es ++ [(hd l'.tail).tk.t], v', l'.tail.tail, rfl, hI4.mono (by omega) htop, hV4, hlo4, hS4, hid HR3.out, by omega, by rw [List.length_append, List.length_singleton]; omega⟩, ?_⟩
      rw [ht4, htok.out]; omega
 ·rw [PR.bind_bad]
  clear h1 h
  go_enter Tryz.func126, Tryz.ntmps126
  go_wp2_with (go_at_call 123; go_must (refine C1.out.mono ?_; rintro e1 w1 ⟨rfl, hI1, hS1⟩))
  exact ⟨rfl, rfl, hS1⟩
end Go.Proofs.YtomimkgaelkaoaaGreatDoor
namespace Go.Proofs.YtomimkgaelkaoaaGreatDoor
open Go.Lib (hid)
open Go.ChangeShapes Go.WideShapes Go.ChangeAt Go.RowKit
theorem cells9 {T : TypeId} {w : World} {k : Nat} {v0 v1 v2 v3 v4 v5 v6 v7 v8 : Value} (h : w.heap[k]? = some (.cells #[v0, v1, v2, v3, v4, v5, v6, v7, v8] T (0, 0))) :
  (w.cell? ⟨k, 0, none⟩ = some v0 ∧ w.cell? ⟨k, 1, none⟩ = some v1 ∧ w.cell? ⟨k, 2, none⟩ = some v2 ∧ w.cell? ⟨k, 3, none⟩ = some v3 ∧ w.cell? ⟨k, 4, none⟩ = some v4 ∧ w.cell? ⟨k, 5, none⟩ = some v5 ∧ w.cell? ⟨k, 6, none⟩ = some v6 ∧ w.cell? ⟨k, 7, none⟩ = some v7 ∧ w.cell? ⟨k, 8, none⟩ = some v8) ∧ (∀ j, w.frozen? ⟨k, j, none⟩ = false) ∧ k < w.heap.size := by
 refine ⟨⟨?_, ?_, ?_, ?_, ?_, ?_, ?_, ?_, ?_⟩, fun j => by simp [World.frozen?, h], (Array.getElem?_eq_some_iff.1 h).1⟩ <;> (rw [cell_of_row _ _ _ _ _ (0, 0) h]; rfl)
section
variable {X : Nat → Prop} {g b : Nat} {w W : World} {l : List Tok} {d : Nat} {f : FM} {k : Nat}
def set9 (w : World) (k : Nat) (c0 c1 c2 c3 c4 c5 c6 c7 c8 : Value) : World := (Go.Proofs.YtomimkgaelkaoaaGreatDoor.set8 w k c0 c1 c2 c3 c4 c5 c6 c7).setCell ⟨k, 8, none⟩ c8
theorem PInv.set9 (h : PInv X g b w l d f) (hk : X k) (c0 c1 c2 c3 c4 c5 c6 c7 c8 : Value) : PInv X g b (Go.Proofs.YtomimkgaelkaoaaGreatDoor.set9 w k c0 c1 c2 c3 c4 c5 c6 c7 c8) l d f := (h.set8 hk c0 c1 c2 c3 c4 c5 c6 c7).local hk _ _
theorem PInv.stay9 (h : PInv X g b w l d f) (hk : X k) (c0 c1 c2 c3 c4 c5 c6 c7 c8 : Value) : Stay (Pub X layP g w) (Pub X layP g (Go.Proofs.YtomimkgaelkaoaaGreatDoor.set9 w k c0 c1 c2 c3 c4 c5 c6 c7 c8)) w (Go.Proofs.YtomimkgaelkaoaaGreatDoor.set9 w k c0 c1 c2 c3 c4 c5 c6 c7 c8) :=
 (h.stay8 hk c0 c1 c2 c3 c4 c5 c6 c7).trans ((h.set8 hk c0 c1 c2 c3 c4 c5 c6 c7).stayL hk _ _)
theorem St.set9 (h : St layP g W w) (hg : g < W.heap.size) (hk : W.heap.size ≤ k) (c0 c1 c2 c3 c4 c5 c6 c7 c8 : Value) : St layP g W (Go.Proofs.YtomimkgaelkaoaaGreatDoor.set9 w k c0 c1 c2 c3 c4 c5 c6 c7 c8) := (h.set8 hg hk c0 c1 c2 c3 c4 c5 c6 c7).fresh hg hk _ _
theorem set9_heap (w : World) (c0 c1 c2 c3 c4 c5 c6 c7 c8 : Value) {i : Nat} (hi : i ≠ k) : (Go.Proofs.YtomimkgaelkaoaaGreatDoor.set9 w k c0 c1 c2 c3 c4 c5 c6 c7 c8).heap[i]? = w.heap[i]? := by
 unfold Go.Proofs.YtomimkgaelkaoaaGreatDoor.set9 Go.Proofs.YtomimkgaelkaoaaGreatDoor.set8
 iterate 9 rw [Below.heap_setCell _ _ _ _ hi]
theorem Irep.weak {L : Lay} {P P' : Nat → Prop} {w : World} {c : List Value} {t : IM} (h : Irep L P w c t) (hp : ∀ i, P i → P' i) : Irep L P' w c t := (Irep.kept L) P P' w w c t h fun i hi => ⟨rfl, hp i hi⟩
end
def IRel (X : Nat → Prop) (g : Nat) (f : FM) (x : IA) (v : Value) (w' : World) : Prop := ∃ c0 c1 c2 c3 c4 c5 c6 c7 c8, v = .agg #[c0, c1, c2, c3, c4, c5, c6, c7, c8] ∧ Irep layP (Pub X layP g w') w' [c0, c1, c2, c3, c4, c5, c6, c7, c8] (putI x f.g).2
theorem info_sub : (Tryz.prog.info? 131).map (fun i => (i.zero, i.size, i.bytes)) = some (some (.agg #[.string ⟨#[]⟩, .int .i64 0]), 2, 24) := by kernel_rfl
theorem SubsV.snoc {w : World} {v : Value} {ks : List (List UInt8 × Nat)} {x : List UInt8 × Nat} (h : w.ownsRow 0 131 2 v (ks.length + 1) (ks.flatMap (fun c : List UInt8 × Nat => [Value.string (bs c.1), Value.int .i64 (c.2 : Int)]) ++ [.string (bs x.1), .int .i64 (x.2 : Int)])) : SubsV layP w v (ks ++ [x]) := by
 unfold SubsV
 rw [List.length_append, List.flatMap_append]
 exact h
theorem SubsV.below {w w' : World} {v : Value} {ks : List (List UInt8 × Nat)} (h : SubsV layP w v ks) (hb : Below w.heap.size w w') : SubsV layP w' v ks := RowR.below h hb
theorem SubsV.st {X : Nat → Prop} {g b : Nat} {w w' : World} {l : List Tok} {d : Nat} {f : FM} {v : Value} {ks : List (List UInt8 × Nat)} (h : SubsV layP w v ks) (hI : PInv (wthV X v) g b w l d f) (hS : St layP g w w') : SubsV layP w' v ks := ownsRow_same h fun k hk => hI.own (.inr hk) hS
theorem subs_new {w : World} (x : List UInt8 × Nat) : SubsV layP (w.alloc (.cells #[.string (bs x.1), .int .i64 (x.2 : Int)] 131)) (.slice (some ⟨w.heap.size, 0, none⟩) 1 1) [x] :=
 ⟨rfl, .inr ⟨w.heap.size, 1, _, rfl, Nat.zero_le _, heap_alloc_new w _, Nat.le_refl _, by unfold maxLen; omega, rfl, rfl⟩⟩
theorem good_sub (l : List Tok) : Good 4 l (subP l) :=
 Good.mono (s := 1 + (1 + (1 + (1 + 0)))) ((good_name _).bind fun _ _ _ => (good_need _ _ (by decide)).bind fun _ _ _ => (good_num _).bind fun _ _ _ => (good_need _ _ (by decide)).bind fun _ _ _ => .ok _ _) (by omega)
theorem sub_len {l l' : List Tok} {x : List UInt8 × Nat} (hw : WF l) (h : subP l = .ok x l') : l'.length < l.length ∧ WF l' := by
 have := good_sub l hw
 rw [h] at this
 exact ⟨by have := this.2; omega, this.1⟩
set_option maxHeartbeats 4000000 in
set_option maxRecDepth 100000 in
theorem pack_any (n : Nat) {X : Nat → Prop} {g b : Nat} {l : List Tok} {d : Nat} {f : FM} (w : World) (h : PInv X g b w l d f) (hn : l.length < n) :
  Calls Tryz.prog 180 #[.pointer (some ⟨g, 0, none⟩)] w (PostV X g b w d (packP n l) (IRel X g f) fun x => f.setG (putI x f.g).1) := by
 have htop := h.top
 have hw := h.wf
 have hg := h.lt
 have hpos := hw.pos
 have hXlt : ∀ k, X k → k < w.heap.size := fun k hk => (h.priv k hk).lt
 have h0 := h.hide (.cells #[.string ⟨#[]⟩, .int .i64 0, .int .i64 0, .string ⟨#[]⟩, .string ⟨#[]⟩, .int .i64 0, .int .i64 0, .bool false, .slice none 0 0] 129)
 have hs0 : St layP g w (w.alloc (.cells #[.string ⟨#[]⟩, .int .i64 0, .int .i64 0, .string ⟨#[]⟩, .string ⟨#[]⟩, .int .i64 0, .int .i64 0, .bool false, .slice none 0 0] 129)) := St.below hg (below_box _ _)
 have hc0 := heap_alloc_new w (.cells #[.string ⟨#[]⟩, .int .i64 0, .int .i64 0, .string ⟨#[]⟩, .string ⟨#[]⟩, .int .i64 0, .int .i64 0, .bool false, .slice none 0 0] 129)
 obtain ⟨k, o, c, q0, q5, qf, qkl, qc, qm, c0, c1, c2, c3, c4⟩ := h.look
 unfold maxLen at qm
 unfold packP
 have HS0 := hid hs0
 have HC0 := hid hc0
 have H0 := hid h0
 have CI := Integer_any (hd l).tk.t _ h0.env
 cases hi : intW (hd l).tk.t with
 | none =>
  rw [hi] at CI
  simp only [intR] at CI
  have HCI := hid CI
  have CX := hid (expect_no _ h0)
  clear CI hi h0 hs0 hc0 h
  generalize (hd l).tk.t = t at *
  go_enter Tryz.func180, Tryz.ntmps180
  go_wp2_with (first | (go_at_call 55; go_must (refine HCI.out.mono ?_; rintro e w' ⟨rfl, rfl⟩)) | (go_at_call 127; go_must (refine CX.out.mono ?_; rintro e w' ⟨rfl, rfl⟩)))
  exact ⟨rfl, rfl, HS0.out⟩
 | some p =>
  obtain ⟨z, li⟩ := p
  dsimp only
  have hwt := hw.tailT (intW_ne hi)
  have htl : l.tail.length = l.length - 1 := List.length_tail
  rw [hi] at CI
  simp only [intR] at CI
  have HCI := hid CI
  have CX := hid (expect_yes _ h0)
  have CR := hid (read_any _ h0 hwt)
  have HXlt := hid hXlt
  clear CI h0 hs0 hc0 h hXlt hi
  have d1 : ∀ w1, PInv (wth X w.heap.size) g (b - 3) w1 l.tail d f → _ := fun w1 hi => need_sLc w1 hi
  rcases h1 : need sLc l.tail with ⟨u1, l1⟩ | ⟨l1, x⟩
  all_goals rw [h1] at d1; have D1 := hid d1; clear d1
  ·obtain ⟨hl1, hw1⟩ := need_len (by decide) hwt h1
   rw [PR.bind_ok]
   have d2 : ∀ w2, PInv (wth X w.heap.size) g (b - 3 - 3) w2 l1 d f → _ := fun w2 hi => sub_any w2 hi
   rcases h2 : subP l1 with ⟨x0, l2⟩ | ⟨l2, x⟩
   all_goals rw [h2] at d2; have D2 := hid d2; clear d2
   ·obtain ⟨hl2, hw2⟩ := sub_len hw1 h2
    rw [PR.bind_ok]
    obtain ⟨R, HR⟩ : ∃ R, Hid (R = subsL n [x0] l2) := ⟨_, hid rfl⟩
    rw [← HR.out]
    obtain ⟨i0, hi, hz0, hz1, hz2⟩ := info_parts info_sub
    clear h1 h2
    generalize (hd l).tk.t = t at *
    go_enter Tryz.func180, Tryz.ntmps180
    go_wp2_with (first | (go_at_call 55; go_must (refine HCI.out.mono ?_; rintro e w' ⟨rfl, rfl⟩)) | (go_at_call 127; go_must (refine CX.out.mono ?_; rintro e w' ⟨rfl, rfl⟩)) | (go_at_call 178; go_must (refine CR.out.mono ?_; rintro e w1 ⟨rfl, hI1, hS1⟩; have E1 := hid (D1.out w1 hI1); have HI1 := hid hI1; clear hI1)) | (go_at_call 122; go_must (refine E1.out.mono ?_; rintro e w2 ⟨rfl, hI2, hS2⟩; have E2 := hid (D2.out w2 hI2); have HI2 := hid hI2; clear hI2)) | (go_at_call 234; go_must (refine E2.out.mono ?_; rintro e w3 ⟨rfl, hI3, hS3⟩; have HI3 := hid hI3; clear hI3)))
    have hr3 := (HI2.out.own (.inr rfl) hS3).trans ((HI1.out.own (.inr rfl) hS2).trans ((H0.out.own (.inr rfl) hS1).trans HC0.out))
    have HR3 := hid hr3
    have HSA := hid (((HS0.out.trans hS1).trans hS2).trans hS3)
    clear hr3 c0 c1 c2 c3 c4 q0 q5 qf
    go_loopw [6] (fun s6 wr => ∃ (m : Nat) (es : List (List UInt8 × Nat)) (v : Value) (l' : List Tok), v = s6 ∧ PInv (wthV (wth X w.heap.size) v) g b wr l' d f ∧ SubsV layP wr v es ∧ (∀ i, v.ownBlock = some i → w.heap.size < i) ∧ wr.heap[w.heap.size]? = some (.cells #[.string ⟨#[]⟩, .int .i64 0, .int .i64 0, .string ⟨#[]⟩, .string ⟨#[]⟩, .int .i64 0, .int .i64 0, .bool false, .slice none 0 0] 129 (0, 0)) ∧ St layP g w wr ∧ Hid (R = subsL m es l') ∧ l'.length < m ∧ es.length ≤ 64) (fun _ wr => tokN g wr)
    case atStart =>
     have hI4 := HI3.out.hide (.cells #[.string (bs x0.1), .int .i64 (x0.2 : Int)] 131)
     have hlt := (Array.getElem?_eq_some_iff.1 HR3.out).1
     exact ⟨n, [x0], _, l2, rfl, hI4.toV.mono (by omega) htop, subs_new x0, (fun i hi => by simp only [Value.ownBlock, Option.some.injEq] at hi; omega), (Below.heap_alloc _ _ _ hlt).trans HR3.out, HSA.out.alloc HI3.out.lt _, HR, by omega, by simp⟩
    case round =>
     obtain ⟨m, es, v, l', rfl, hI, hV, hlo, hk0, hS, H, hm, hes⟩ := hrel
     have hl := hI.wf.pos
     have htok := hid hI.tokN
     obtain ⟨m, rfl⟩ : ∃ m', m = m' + 1 := ⟨m - 1, by omega⟩
     have hw' := hI.wf
     obtain ⟨va, vc, hsh⟩ := ownsRow_shape hV
     subst hsh
     have HV := hid hV
     have HI := hid hI
     have HS := hid hS
     have HLO := hid hlo
     have HK0 := hid hk0
     clear hV hI hS hlo hk0
     cases e1 : isT sRc l'
     ·have T := hid (takeN_sRc wr HI.out e1)
      have hR2 : R = (expectP (isName l') l').bind fun _ _ => (roomP es.length l').bind fun _ _ => (subP l').bind fun x l1 => subsL m (es ++ [x]) l1 := by rw [H.out, subsL, if_neg (by rw [e1]; decide)]
      have cb := atName_any wr HI.out
      clear H
      cases hb : isName l'
      ·rw [hb] at cb
       have CB := hid cb
       have CX := hid (expect_no wr HI.out)
       have hR3 : R = .bad l' 4 := by rw [hR2, hb]; rfl
       have HR3 := hid hR3
       clear hR2 hR3 cb e1 hb
       go_wp2_with (first | (go_at_call 125; go_must (refine T.out.mono ?_; rintro e w' ⟨rfl, rfl⟩)) | (go_at_call 128; go_must (refine CB.out.mono ?_; rintro e w' ⟨rfl, rfl⟩)) | (go_at_call 127; go_must (refine CX.out.mono ?_; rintro e w' ⟨rfl, rfl⟩)))
       rw [HR3.out, PR.bind_bad]
       exact ⟨rfl, rfl, HS.out⟩
      ·rw [hb] at cb hR2
       have CB := hid cb
       have CX := hid (expect_yes wr HI.out)
       have cr := room_any es.length hes wr HI.out
       rw [show expectP true l' = .ok () l' from rfl, PR.bind_ok] at hR2
       by_cases h64 : 64 ≤ es.length
       ·rw [roomP, if_pos h64, PR.bind_bad] at hR2
        rw [if_pos h64] at cr
        have CRM := hid cr
        have HR3 := hid hR2
        clear hR2 cb cr e1 hb
        go_wp2_with (first | (go_at_call 125; go_must (refine T.out.mono ?_; rintro e w' ⟨rfl, rfl⟩)) | (go_at_call 128; go_must (refine CB.out.mono ?_; rintro e w' ⟨rfl, rfl⟩)) | (go_at_call 127; go_must (refine CX.out.mono ?_; rintro e w' ⟨rfl, rfl⟩)) | (go_at_call 76; go_must (refine CRM.out.mono ?_; rintro e w' ⟨rfl, rfl⟩)))
        rw [HR3.out, PR.bind_bad]
        exact ⟨rfl, rfl, HS.out⟩
       ·rw [roomP, if_neg h64, PR.bind_ok] at hR2
        rw [if_neg h64] at cr
        have CRM := hid cr
        have cs := sub_any wr HI.out
        rcases h7 : subP l' with ⟨y, l7⟩ | ⟨l7, x⟩
        all_goals rw [h7] at cs hR2; have CS := hid cs; clear cs
        ·obtain ⟨hl7, hw7⟩ := sub_len hw' h7
         rw [PR.bind_ok] at hR2
         have HR3 := hid hR2
         clear hR2 cb cr e1 hb h7
         go_wp2_with (first | (go_at_call 125; go_must (refine T.out.mono ?_; rintro e w' ⟨rfl, rfl⟩)) | (go_at_call 128; go_must (refine CB.out.mono ?_; rintro e w' ⟨rfl, rfl⟩)) | (go_at_call 127; go_must (refine CX.out.mono ?_; rintro e w' ⟨rfl, rfl⟩)) | (go_at_call 76; go_must (refine CRM.out.mono ?_; rintro e w' ⟨rfl, rfl⟩)) | (go_at_call 234; go_must (refine CS.out.mono ?_; rintro e w7 ⟨rfl, hI7, hS7⟩; have HV7 := hid ((HV.out.st HI.out hS7).below (below_box w7 (.cells #[.string (bs y.1), .int .i64 (y.2 : Int)] 131))); have HI7 := hid hI7; clear hI7)) | (at_builtin; go_must (refine append_one rfl _ _ 127 rfl 131 i0 _ 2 24 Tryz.underlying127 hi hz0 hz1 hz2 rfl (by decide) (.slice va es.length vc) es.length (es.flatMap fun c : List UInt8 × Nat => [Value.string (bs c.1), Value.int .i64 (c.2 : Int)]) rfl HV7.out _ _ [.string (bs y.1), .int .i64 (y.2 : Int)] rfl rfl (heap_alloc_new _ _) (by simp [Value.oneCell']) (by unfold maxLen; omega) (by omega) ?_; intro v' w4 hown hgrow hat; have HOW := hid hown; have HG := hid hgrow; have HAT := hid hat; clear hown hgrow hat)))
         have hI4 := (HI7.out.below (below_box w7 (.cells #[.string (bs y.1), .int .i64 (y.2 : Int)] 131))).grow HG.out HAT.out (fun k hk => (World.ownsRow.lt HOW.out k hk).2)
         have hV4 := SubsV.snoc HOW.out
         have hk7 := (HI.out.own (.inl (.inr rfl)) hS7).trans HK0.out
         have hk7l := (Array.getElem?_eq_some_iff.1 hk7).1
         have hlo4 : ∀ i, v'.ownBlock = some i → w.heap.size < i := fun i hi => by
          rcases HAT.out with e | e
          ·exact HLO.out i (by rw [← e]; exact hi)
          ·rw [e, Option.some.injEq] at hi
           simp at hi
           omega
         have hk4 := (HG.out.block w.heap.size (by simp; omega) fun e => Nat.lt_irrefl _ (HLO.out _ e.symm)).trans ((Below.heap_alloc _ _ _ hk7l).trans hk7)
         have hS4 : St layP g w w4 := ((HS.out.trans hS7).alloc HI7.out.lt _).grown hg HG.out fun k hk => Nat.le_of_lt (HLO.out k hk)
         have ht4 := hI4.tokN
         refine ⟨⟨m, es ++ [y], v', l7, rfl, hI4, hV4, hlo4, hk4, hS4, hid HR3.out, by omega, by rw [List.length_append, List.length_singleton]; omega⟩, ?_⟩
         rw [ht4, htok.out]; omega
        ·rw [PR.bind_bad] at hR2
         have HR3 := hid hR2
         clear hR2 cb cr e1 hb h7
         go_wp2_with (first | (go_at_call 125; go_must (refine T.out.mono ?_; rintro e w' ⟨rfl, rfl⟩)) | (go_at_call 128; go_must (refine CB.out.mono ?_; rintro e w' ⟨rfl, rfl⟩)) | (go_at_call 127; go_must (refine CX.out.mono ?_; rintro e w' ⟨rfl, rfl⟩)) | (go_at_call 76; go_must (refine CRM.out.mono ?_; rintro e w' ⟨rfl, rfl⟩)) | (go_at_call 234; go_must (refine CS.out.mono ?_; rintro e w7 ⟨rfl, hI7, hS7⟩)))
         rw [HR3.out, PR.bind_bad]
         exact ⟨rfl, rfl, HS.out.trans hS7⟩
     ·have T := hid (takeY_sRc wr HI.out e1)
      have HF : Hid (R = .ok es l'.tail) := hid (by rw [H.out, subsL, if_pos e1])
      clear H e1
      go_wp2_with (go_at_call 125; go_must (refine T.out.mono ?_; rintro e w4 ⟨rfl, hI4, hS4⟩; have hk4 := (HI.out.own (.inl (.inr rfl)) hS4).trans HK0.out; obtain ⟨⟨a0, a1, a2, a3, a4, a5, a6, a7, a8⟩, af, al⟩ := cells9 hk4; have HI4 := hid hI4; clear hI4 hk4))
      have q2 := PInv.set9 HI4.out (k := w.heap.size) (.inl (.inr rfl)) (.string ⟨#[]⟩) (.int .i64 (-1)) (.int .i64 0) (.string ⟨#[]⟩) (.string ⟨#[]⟩) (.int .i64 (-1)) (.int .i64 (z : Int)) (.bool li) (.slice va es.length vc)
      have s2 := St.set9 (k := w.heap.size) (HS.out.trans hS4) hg (Nat.le_refl _) (.string ⟨#[]⟩) (.int .i64 (-1)) (.int .i64 0) (.string ⟨#[]⟩) (.string ⟨#[]⟩) (.int .i64 (-1)) (.int .i64 (z : Int)) (.bool li) (.slice va es.length vc)
      have hV4 : SubsV layP (Go.Proofs.YtomimkgaelkaoaaGreatDoor.set9 w4 w.heap.size (.string ⟨#[]⟩) (.int .i64 (-1)) (.int .i64 0) (.string ⟨#[]⟩) (.string ⟨#[]⟩) (.int .i64 (-1)) (.int .i64 (z : Int)) (.bool li) (.slice va es.length vc)) (.slice va es.length vc) es := ownsRow_same (HV.out.st HI.out hS4) fun i hi => set9_heap _ _ _ _ _ _ _ _ _ _ (by have := HLO.out i hi; omega)
      have hpub : Nest (Pub X layP g (Go.Proofs.YtomimkgaelkaoaaGreatDoor.set9 w4 w.heap.size (.string ⟨#[]⟩) (.int .i64 (-1)) (.int .i64 0) (.string ⟨#[]⟩) (.string ⟨#[]⟩) (.int .i64 (-1)) (.int .i64 (z : Int)) (.bool li) (.slice va es.length vc))) (.slice va es.length vc) := fun i hi => ⟨q2.priv i (.inr hi), fun hx => by have := HXlt.out i hx; have := HLO.out i hi; omega⟩
      refine bodyPost_ret (v := .agg #[.string ⟨#[]⟩, .int .i64 (-1), .int .i64 0, .string ⟨#[]⟩, .string ⟨#[]⟩, .int .i64 (-1), .int .i64 (z : Int), .bool li, .slice va es.length vc]) (by simp [results, Tryz.results180, go_sem, a0, a1, a2, a3, a4, a5, a6, a7, a8]) rfl ?_
      rw [HF.out, PR.bind_ok]
      exact ⟨⟨_, rfl, ⟨_, _, _, _, _, _, _, _, _, rfl, ⟨_, rfl, hV4, hpub⟩⟩, q2.bareV.bare.mono (by omega) htop⟩, s2⟩
   ·rw [PR.bind_bad]
    clear h1 h2
    generalize (hd l).tk.t = t at *
    go_enter Tryz.func180, Tryz.ntmps180
    go_wp2_with (first | (go_at_call 55; go_must (refine HCI.out.mono ?_; rintro e w' ⟨rfl, rfl⟩)) | (go_at_call 127; go_must (refine CX.out.mono ?_; rintro e w' ⟨rfl, rfl⟩)) | (go_at_call 178; go_must (refine CR.out.mono ?_; rintro e w1 ⟨rfl, hI1, hS1⟩; have E1 := hid (D1.out w1 hI1); clear hI1)) | (go_at_call 122; go_must (refine E1.out.mono ?_; rintro e w2 ⟨rfl, hI2, hS2⟩; have E2 := hid (D2.out w2 hI2); clear hI2)) | (go_at_call 234; go_must (refine E2.out.mono ?_; rintro e w3 ⟨rfl, hI3, hS3⟩)))
    exact ⟨rfl, rfl, ((HS0.out.trans hS1).trans hS2).trans hS3⟩
  ·rw [PR.bind_bad]
   clear h1
   generalize (hd l).tk.t = t at *
   go_enter Tryz.func180, Tryz.ntmps180
   go_wp2_with (first | (go_at_call 55; go_must (refine HCI.out.mono ?_; rintro e w' ⟨rfl, rfl⟩)) | (go_at_call 127; go_must (refine CX.out.mono ?_; rintro e w' ⟨rfl, rfl⟩)) | (go_at_call 178; go_must (refine CR.out.mono ?_; rintro e w1 ⟨rfl, hI1, hS1⟩; have E1 := hid (D1.out w1 hI1); clear hI1)) | (go_at_call 122; go_must (refine E1.out.mono ?_; rintro e w2 ⟨rfl, hI2, hS2⟩)))
   exact ⟨rfl, rfl, (HS0.out.trans hS1).trans hS2⟩
end Go.Proofs.YtomimkgaelkaoaaGreatDoor
