/- Layer 7: the document's parser: structs: without params, or failed. · Layer 7: the document's parser: structs, all ways. -/
import Derived.Test.YthcdohggffpopaaGreatDoorC1DocR
import Derived.Deep.DeepCutAuto
import Derived.Test.YthcdohggffpopaaGreatDoorC1DocRc
import Derived.Test.YthcdohggffpopaaGreatDoorC1DocN
namespace Go.Proofs.YthcdohggffpopaaGreatDoor
open Go.Lib (hid)
open Go.ChangeShapes Go.WideShapes Go.ChangeAt Go.RowKit
set_option maxHeartbeats 16000000 in
set_option maxRecDepth 100000 in
theorem drecord_np {n : Nat} {β : Type} {a : β} {l : List Tok} {F : β → FM} {X : Nat → Prop} {g m b c : Nat} (w : World) {r0 : PR Unit} (h : DT X g m b c 0 w r0 (fun _ => F a)) (hn : 8 * m + 8 ≤ n) (hbc : b + 16 * n + 32 ≤ c) (hc8 : c ≤ 8000000) (hb3 : 3 ≤ b) (hlt1 : 1 ≤ m)
    {RR : PR (Unit × List UInt8)} (h2 : ((r0.bind fun a l => (need kStruct l).bind fun _ l => .ok a l).bind fun a l => (nameP l).bind fun y l => .ok (a, y) l) = RR) (hq : isT sLp RR.rest = false ∨ isT sLp RR.rest = true ∧ ((RR.err : Int) == 0) = false)
    {R : PR SA} (hR : R = RR.bind fun q l => (need sLc l).bind fun _ l4 => (itemsL n [] l4).bind fun is l5 => .ok ⟨q.2, [], is⟩ l5) :
    Calls Tryz.prog 55 #[.pointer (some ⟨g, 0, none⟩)] w (PostS X g (m - 1) b c 0 w (.ok a l : PR β) F (fun _ => R)) := by
  have hg := h.lt
  have hX0 : ∀ k, X k → k < w.heap.size := fun k hk => (h.out hk).lt
  have hbc' : b ≤ c := by omega
  have hc9 : c ≤ 9000000 := by omega
  have hlm : True := trivial
  have hd32 : True := trivial
  have hw : True := trivial
  have hp : True := trivial
  have hwt : True := trivial
  have htl : True := trivial
  have hst : True := trivial
  have HA := hid hR
  have H2 := hid h2
  have P1 := hid (h.start #[.string ⟨#[]⟩, .slice none 0 0, .slice none 0 0] 58 9 1 (by decide))
  have C1 := hid (dtake_lit kStruct (by decide) ⟨#[115, 116, 114, 117, 99, 116]⟩ rfl _ P1.out.dt)
  clear h hR h2
  rcases hq with hq | ⟨hq, hoff⟩
  all_goals
    have HQ := hid hq
    clear hq
    go_enter Tryz.func55, Tryz.ntmps55
    go_upto_region 17 with (first | (go_at_call 52; (first | ((with_reducible refine C1.out.mono ?_); rintro e w2 ⟨rfl, hT, hS⟩; have P2 := hid (P1.out.step any_stable hT hS); clear hT hS; have C2 := hid (dname_any _ P2.out.dt)))) | (go_at_call 53; (first | ((with_reducible refine C2.out.mono ?_); rintro e w3 ⟨s, rfl, hT, hs, hS⟩; rw [H2.out] at hT hs; have HSN := hid hs; clear hs; have P3 := hid (P2.out.step any_stable hT hS); clear hT hS; have hlt : w.heap.size < w3.heap.size := (Array.getElem?_eq_some_iff.1 (P3.out.bx _ List.mem_cons_self).1).1; have P4 := hid (P3.out.box any_stable #[.string (bs s), .slice none 0 0, .slice none 0 0] 58 (by decide)); have C4 := hid (dis_lit sLp (by decide) ⟨#[40]⟩ rfl _ P4.out.dt HQ.out)))) | (go_at_call 50; (first | ((with_reducible refine C4.out.mono ?_); rintro e w5 ⟨rfl, hb⟩; have P5 := hid (P4.out.below any_stable hb); clear hb; obtain ⟨i_, nn_, kk_, cp_, dd_, -, -, -, q7, qf⟩ := P5.out.dt.cells))))
    obtain ⟨ps, hps0⟩ : ∃ ps : List (List UInt8), [] = ps := ⟨_, rfl⟩
    obtain ⟨v1, hv0⟩ : ∃ v1, (.slice none 0 0 : Value) = v1 := ⟨_, rfl⟩
    obtain ⟨r1, hr1⟩ : ∃ r1 : PR (List UInt8 × List (List UInt8)), (RR.bind fun q l => .ok (q.2, ([] : List (List UInt8))) l) = r1 := ⟨_, rfl⟩
    have PM : Hid (DP (wth (wth X w.heap.size) w3.heap.size) g (m - 1 - 1) (b - 3 - 3) c 0 w w5 r1 (fun _ => F a) [(w3.heap.size, #[.string (bs s), v1, .slice none 0 0], 58), (w.heap.size, #[.string ⟨#[]⟩, .slice none 0 0, .slice none 0 0], 58)] 9 1 v1 ps.length (strCells ps) Any) := hid (by
      rw [← hv0, ← hr1]
      rw [← hps0]
      exact P5.out.to fun h => DT.map h (fun p => (p.2, [])) rfl fun _ _ _ => rfl)
    have HOK : Hid (∀ p l1, r1 = .ok p l1 → s = p.1 ∧ ps = p.2) := hid fun p l1 e => by
      rw [← hr1] at e
      obtain ⟨q, e', rfl⟩ := map_ok e
      exact ⟨HSN.out _ _ e', hps0.symm⟩
    have HR : Hid (R = r1.bind fun p l => (need sLc l).bind fun _ l4 => (itemsL n [] l4).bind fun is l5 => .ok ⟨p.1, p.2, is⟩ l5) := hid (by
      rw [HA.out, ← hr1]
      simp only [PR.bind_assoc, PR.bind_ok])
    clear hv0 hr1 hps0 P1 P2 P3 P4 P5 C1 C2 C4 HA HSN H2 HQ q7 qf
    obtain ⟨va1, vc1, rfl⟩ := ownsRow_shape PM.out.row
    have hX1 : ∀ i, (Value.slice va1 ps.length vc1).ownBlock = some i → ¬ (wth (wth X w.heap.size) w3.heap.size) i := fun i hi e => by
      have h1 := PM.out.vlo i hi
      rcases e with (e | e) | e
      · have := hX0 i e; omega
      · exact (PM.out.bx _ (List.mem_cons_of_mem _ List.mem_cons_self)).2.2.2 (by rw [hi, e])
      · exact (PM.out.bx _ List.mem_cons_self).2.2.2 (by rw [hi, e])
    have PN := hid ((PM.out.next any_stable (E' := 70) (z' := 9) hX1).know (Q' := QI (Value.slice va1 ps.length vc1) ps [] []) fun h => ⟨h.2.1, h.2.2, fun i c y hc => by simp at hc⟩)
    have CN := hid (dtake_lit sLc (by decide) ⟨#[123]⟩ rfl _ PN.out.dt)
    go_wp2_with (first | (go_at_call 52; (first | ((with_reducible refine CN.out.mono ?_); rintro e wb ⟨rfl, hT, hS⟩; have PB := hid (PN.out.step (QI.stable _ _ _ _) hT hS); clear hT hS))))
    go_loopw [8] (fun s8 wr => ∃ (rr : PR ((List UInt8 × List (List UInt8)) × List IA)) (v : Value) (cs : List (List Value)) (is : List IM) (j : Nat), DP (wth (wth X w.heap.size) w3.heap.size) g (m - 1) b c 0 w wr rr (fun p => (F a).setG (putIs p.2 (F a).g).1) [(w3.heap.size, #[.string (bs s), (Value.slice va1 ps.length vc1), v], 58), (w.heap.size, #[.string ⟨#[]⟩, .slice none 0 0, .slice none 0 0], 58)] 70 9 v is.length cs.flatten (QI (Value.slice va1 ps.length vc1) ps cs is) ∧ cs.length = is.length ∧ (∀ c ∈ cs, c.length = 9) ∧ is.length ≤ 65 ∧ (∀ p l1, rr = .ok p l1 → s = p.1.1 ∧ ps = p.1.2 ∧ is = (putIs p.2 (F a).g).2 ∧ is.length ≤ 64 ∧ p.2.length = is.length ∧ 8 * l1.length + 8 ≤ j) ∧ j ≤ n ∧ Hid (R = rr.bind fun p l => (itemsL j p.2 l).bind fun is l5 => .ok ⟨p.1.1, p.1.2, is⟩ l5)) (fun _ wr => tokD g wr)
    case atStart =>
      refine ⟨_, .slice none 0 0, [], [], n, PB.out.to fun h => (DT.map h (fun p => (p, [])) rfl fun _ _ _ => rfl).mono (by omega) (by omega) (by omega) (by omega) (by omega), rfl, fun c hc => (by cases hc), by simp, ?_, Nat.le_refl _, hid ?_⟩
      · intro p l1 e0
        have hm := PB.out.dt
        obtain ⟨y, e, rfl⟩ := map_ok e0
        rw [e] at hm
        have hm := hm.2.1
        obtain ⟨l2, e⟩ := keep_ok e
        obtain ⟨h1, h2⟩ := HOK.out y l2 e
        exact ⟨h1, h2, rfl, by simp, rfl, by omega⟩
      · rw [HR.out]
        simp only [PR.bind_assoc, PR.bind_ok]
    case round =>
      focus
        obtain ⟨rr, v, cs, is, j, hP, hcl, hc9', his, hok, hj, HR2⟩ := hrel
        obtain ⟨va, vc, rfl⟩ := ownsRow_shape hP.row
        have hstab := QI.stable (Value.slice va1 ps.length vc1) ps cs is
        clear PM PN PB CN HOK HR
        obtain ⟨i0, hi0, hz0, hz1, hz2⟩ := info_parts info_ditem
        by_cases hgo : ∃ p l1, rr = .ok p l1 ∧ (isName l1 = true ∨ isT kPack l1 = true)
        · obtain ⟨p, l1, rfl, hnp⟩ := hgo
          obtain ⟨hs1, hs2, hs3, hs4, hs5, hs6⟩ := hok p l1 rfl
          have hw1 := hP.dt.1.wf
          have hp1 := hw1.pos
          have hlm1 := hP.dt.2.1
          have htk := hid (tokD_ok hP.dt)
          have P1 := hid (hP.to DT.again)
          obtain ⟨j, rfl⟩ : ∃ j', j = j' + 1 := ⟨j - 1, by omega⟩
          obtain ⟨r2, hr2⟩ : ∃ r2, ((.ok p l1 : PR ((List UInt8 × List (List UInt8)) × List IA)).bind fun a l => (roomP is.length l).bind fun _ l => .ok a l) = r2 := ⟨_, rfl⟩
          have HRM := hid hr2
          have hrr : r2.rest = l1 := by rw [← hr2]; exact room_rest
          have HR3 : Hid (R = r2.bind fun a l => (itemP j l).bind fun x l2 => (itemsL j (a.2 ++ [x]) l2).bind fun is l5 => .ok ⟨a.1.1, a.1.2, is⟩ l5) := hid (by
            rw [HR2.out, ← hr2, PR.bind_ok, items_yes hw1 hnp, hs5]
            simp only [PR.bind_assoc, PR.bind_ok])
          have HRR2 := hid hrr
          clear hr2 hrr
          obtain ⟨i, nn, kk, cp, dd, -, -, -, q7, qf⟩ := P1.out.dt.cells
          simp only [PR.err] at q7
          have HS1 := hid hs1
          have HS2 := hid hs2
          have HS3 := hid hs3
          have HS5 := hid hs5
          have HCL := hid hcl
          have HC9 := hid hc9'
          have HST := hid hstab
          obtain ⟨qn, hqn⟩ : ∃ q, isName l1 = q := ⟨_, rfl⟩
          obtain ⟨qk, hqk⟩ : ∃ q, isT kPack l1 = q := ⟨_, rfl⟩
          have hnk : ¬ (qn = true ∧ qk = true) := by
            rintro ⟨rfl, rfl⟩
            have := name_word (of_decide_eq_true hqk) (show isKw kPack = true by decide)
            rw [this] at hqn
            cases hqn
          have C1 := hid (dnamed_dt _ P1.out.dt (show isName (PR.ok p l1 : PR ((List UInt8 × List (List UInt8)) × List IA)).rest = qn from hqn))
          have HQK := hid hqk
          have HR2K : Hid (isT kPack r2.rest = qk) := hid (by rw [HRR2.out]; exact hqk)
          rw [hqn, hqk] at hnp
          have HNP := hid hnp
          clear hP hok HR2 hs1 hs2 hs3 hs5 hcl hc9' hstab hqn hqk hnp
          rcases hways : qn with _ | _
          all_goals rcases hwayk : qk with _ | _
          · exfalso; rcases HNP.out with h | h
            · rw [hways] at h; cases h
            · rw [hwayk] at h; cases h
          · subst hways hwayk
            have HNUM : Hid (8 * l1.length + 8 ≤ j + 1 ∧ is.length ≤ 64 ∧ j + 1 ≤ n ∧ b + 16 * n + 32 ≤ c ∧ c ≤ 8000000 ∧ l1.length ≤ m - 1 ∧ 0 < l1.length ∧ 3 ≤ b ∧ b ≤ c) := hid ⟨hs6, hs4, hj, hbc, hc8, hlm1, hp1, hb3, hbc'⟩
            clear hs4 hs6 his hj hn hbc hbc' hc8 hc9 hlm1 hp1 hlt1 hlm hb3 hX0 hst hnk hw1 hw hwt hp htl hd32 hX1 hg
            focus
              go_upto_region 27 with (first | (go_at_call 103; (first | ((with_reducible refine C1.out.mono ?_); rintro e wc ⟨rfl, hb⟩; have P2 := hid (P1.out.below HST.out hb); clear hb q7 qf; have C2 := hid (dis_lit kPack (by decide) ⟨#[112, 97, 99, 107]⟩ rfl _ P2.out.dt HQK.out)))) | (go_at_call 50; (first | ((with_reducible refine C2.out.mono ?_); rintro e wd ⟨rfl, hb⟩; have P3 := hid (P2.out.below HST.out hb); clear hb; obtain ⟨⟨d0, d1, d2⟩, df, dl⟩ := cells3 (P3.out.bx _ List.mem_cons_self).1; have C3 := hid (droom_any is.length _ P3.out.dt)))) | (go_at_call 51; (first | ((with_reducible refine C3.out.mono ?_); rintro e we ⟨rfl, hT, hS⟩; have P4 := hid (P3.out.step (r' := r2) HST.out (HRM.out ▸ hT) hS); clear hT hS; clear d0 d1 d2 df dl; have P5 := hid (P4.out.box0 HST.out #[.string ⟨#[]⟩, .int .i64 0, .int .i64 0, .string ⟨#[]⟩, .string ⟨#[]⟩, .int .i64 0, .int .i64 0, .bool false, .slice none 0 0] 70); have z9 := (P5.out.bx _ List.mem_cons_self).1; obtain ⟨⟨z0, z1, z2, z3, z4, z5, z6, z7, z8⟩, zf, zl⟩ := cells9 z9; clear z9; have C5 := hid (ditem_pack (n := j) _ P5.out.dt HR2K.out (by obtain ⟨n1, n2, n3, n4, n5, n6, n7, n8, n9⟩ := HNUM.out; omega) (by obtain ⟨n1, n2, n3, n4, n5, n6, n7, n8, n9⟩ := HNUM.out; omega))))) | (go_at_call 104; (first | ((with_reducible refine C5.out.mono ?_); rintro e wf ⟨c0, c1, c2, c3, c4, c5, c6, c7, c8, y, rfl, hT, hI, hy, hS⟩; have HY := hid hy; have HI1 := hid hI.one; have P6 := hid ((P5.out.step HST.out hT hS).know (Q' := QI (Value.slice va1 ps.length vc1) ps (cs ++ [[c0, c1, c2, c3, c4, c5, c6, c7, c8]]) (is ++ [y])) fun h => h.snoc HCL.out hI); obtain ⟨sv, ec, hsub, hnest⟩ := hI; simp only [List.cons.injEq, and_true] at ec; obtain ⟨rfl, rfl, rfl, rfl, rfl, rfl, rfl, rfl, rfl⟩ := ec; obtain ⟨sa, sc, rfl⟩ := ownsRow_shape hsub; clear hT hy hS hsub hnest z0 z1 z2 z3 z4 z5 z6 z7 z8 zf zl; have HX6 : Hid (wf.heap[we.heap.size]? = some (.cells #[.string ⟨#[]⟩, .int .i64 0, .int .i64 0, .string ⟨#[]⟩, .string ⟨#[]⟩, .int .i64 0, .int .i64 0, .bool false, .slice none 0 0] 70 (0, 0))) := hid (P6.out.bx _ List.mem_cons_self).1))) | ((with_reducible refine at_list ?_); refine wpList_store_rowTo rfl 70 _ _ rfl rfl we.heap.size #[.string (bs y.s), .int .i64 y.t, .int .i64 (y.der : Int), .string (bs y.a), .string (bs y.b), .int .i64 y.wh, .int .i64 (y.size : Int), .bool y.little, .slice sa y.subs.length sc] rfl rfl 70 _ HX6.out size_ditem rfl (row_one HI1.out) ?_; rw [row9 HX6.out (.string (bs y.s)) (.int .i64 y.t) (.int .i64 (y.der : Int)) (.string (bs y.a)) (.string (bs y.b)) (.int .i64 y.wh) (.int .i64 (y.size : Int)) (.bool y.little) (.slice sa y.subs.length sc)]; have HST2 := hid (QI.stable (Value.slice va1 ps.length vc1) ps (cs ++ [[.string (bs y.s), .int .i64 y.t, .int .i64 (y.der : Int), .string (bs y.a), .string (bs y.b), .int .i64 y.wh, .int .i64 (y.size : Int), .bool y.little, .slice sa y.subs.length sc]]) (is ++ [y])); have P7' := P6.out.fill9 HST2.out (by have hl1 := (Array.getElem?_eq_some_iff.1 (P4.out.bx _ List.mem_cons_self).1).1; have hl0 := (Array.getElem?_eq_some_iff.1 (P4.out.bx _ (List.mem_cons_of_mem _ List.mem_cons_self)).1).1; simp; omega) (.string (bs y.s)) (.int .i64 y.t) (.int .i64 (y.der : Int)) (.string (bs y.a)) (.string (bs y.b)) (.int .i64 y.wh) (.int .i64 (y.size : Int)) (.bool y.little) (.slice sa y.subs.length sc); generalize Go.Proofs.YthcdohggffpopaaGreatDoor.set9 wf we.heap.size (.string (bs y.s)) (.int .i64 y.t) (.int .i64 (y.der : Int)) (.string (bs y.a)) (.string (bs y.b)) (.int .i64 y.wh) (.int .i64 (y.size : Int)) (.bool y.little) (.slice sa y.subs.length sc) = W7 at P7' ⊢; have HX9 : Hid (W7.heap[we.heap.size]? = some (.cells #[.string (bs y.s), .int .i64 y.t, .int .i64 (y.der : Int), .string (bs y.a), .string (bs y.b), .int .i64 y.wh, .int .i64 (y.size : Int), .bool y.little, .slice sa y.subs.length sc] 70 (0, 0))) := hid (P7'.bx _ List.mem_cons_self).1; clear HX6; have P7 := hid (P7'.drop HST2.out fun p hp => (P4.out.bx p hp).2.1); clear P7' P6 C1 C2 C3 C5 P5 P3 P2; obtain ⟨⟨d0, d1, d2⟩, df, dl⟩ := cells3 (P7.out.bx _ List.mem_cons_self).1))
              dsimp only at d0 d1 d2 df dl
              go_wp2_with (first | ((with_reducible refine at_list ?_); refine wpList_load_row rfl 70 _ rfl we.heap.size rfl _ _ (0, 0) _ HX9.out Tryz.underlying70 rfl size_ditem ?_) | ((with_reducible refine at_list ?_); refine wpList_buildSlice rfl 56 70 1 _ rfl #[.string (bs y.s), .int .i64 y.t, .int .i64 (y.der : Int), .string (bs y.a), .string (bs y.b), .int .i64 y.wh, .int .i64 (y.size : Int), .bool y.little, .slice sa y.subs.length sc] i0 _ Tryz.underlying56 hi0 hz0 (by rw [hz1]; decide) (by rw [hz1]; decide) (by rw [hz1]; exact fill9_one _ _ _ _ _ _ _ _ _) ?_) | (at_builtin; refine list_one rfl _ _ 56 rfl 70 i0 _ 9 112 Tryz.underlying56 hi0 hz0 hz1 hz2 rfl (by decide) (.slice va is.length vc) is.length cs.flatten rfl (RowR.below P7.out.row (below_box W7 _)) _ _ [.string (bs y.s), .int .i64 y.t, .int .i64 (y.der : Int), .string (bs y.a), .string (bs y.b), .int .i64 y.wh, .int .i64 (y.size : Int), .bool y.little, .slice sa y.subs.length sc] rfl rfl (heap_alloc_new W7 _) HI1.out (by obtain ⟨n1, n2, n3, n4, n5, n6, n7, n8, n9⟩ := HNUM.out; unfold maxLen; omega) (by obtain ⟨n1, n2, n3, n4, n5, n6, n7, n8, n9⟩ := HNUM.out; omega) ?_; intro v' w8 hown hgrow hat; have P8 := hid (P7.out.grow HST2.out (.cells #[.string (bs y.s), .int .i64 y.t, .int .i64 (y.der : Int), .string (bs y.a), .string (bs y.b), .int .i64 y.wh, .int .i64 (y.size : Int), .bool y.little, .slice sa y.subs.length sc] 70) hown hgrow hat); obtain ⟨va', vc', rfl⟩ := ownsRow_shape hown; have P9 : Hid (DP _ g _ _ _ _ _ _ _ _ [(w3.heap.size, #[.string (bs s), (Value.slice va1 ps.length vc1), .slice va' (is.length + 1) vc'], 58), (w.heap.size, #[.string ⟨#[]⟩, .slice none 0 0, .slice none 0 0], 58)] _ _ _ _ _ _) := hid (P8.out.set HST2.out (by simp; omega) (by decide : 2 < 3) (.slice va' (is.length + 1) vc')); clear d0 d1 d2 df dl; obtain ⟨⟨d0, d1, d2⟩, df, dl⟩ := cells3 (P8.out.bx _ List.mem_cons_self).1; clear hown hgrow hat))
              have htk2 := hid (tokD_le P9.out.dt)
              go_roundw
              case rel =>
                obtain ⟨n1, n2, n3, n4, n5, n6, n7, n8, n9⟩ := HNUM.out
                have hrow : (is ++ [y]).length = is.length + 1 := by simp
                have hflat : (cs ++ [([.string (bs y.s), .int .i64 y.t, .int .i64 (y.der : Int), .string (bs y.a), .string (bs y.b), .int .i64 y.wh, .int .i64 (y.size : Int), .bool y.little, .slice sa y.subs.length sc] : List Value)]).flatten = cs.flatten ++ ([.string (bs y.s), .int .i64 y.t, .int .i64 (y.der : Int), .string (bs y.a), .string (bs y.b), .int .i64 y.wh, .int .i64 (y.size : Int), .bool y.little, .slice sa y.subs.length sc] : List Value) := by rw [List.flatten_append]; simp
                have hc9 : ∀ c ∈ cs ++ [([.string (bs y.s), .int .i64 y.t, .int .i64 (y.der : Int), .string (bs y.a), .string (bs y.b), .int .i64 y.wh, .int .i64 (y.size : Int), .bool y.little, .slice sa y.subs.length sc] : List Value)], c.length = 9 := fun c hc => (List.mem_append.1 hc).elim (HC9.out c) fun e => by (rw [List.mem_singleton.1 e]; rfl)
                refine ⟨_, .slice va' (is.length + 1) vc', cs ++ [[.string (bs y.s), .int .i64 y.t, .int .i64 (y.der : Int), .string (bs y.a), .string (bs y.b), .int .i64 y.wh, .int .i64 (y.size : Int), .bool y.little, .slice sa y.subs.length sc]], is ++ [y], j, (P9.out.to fun h => (DT.map h (fun q => (q.1.1, q.1.2 ++ [q.2])) rfl fun q l _ => by rw [putIs_snoc]; rfl).mono (by omega) (by omega) (by omega) (by omega) (by omega)).re hrow hflat, by rw [List.length_append, List.length_append, HCL.out]; rfl, hc9, by omega, ?_, by omega, hid ?_⟩
                · intro p' l' e0
                  have hm := P9.out.dt
                  obtain ⟨q, e, rfl⟩ := map_ok e0
                  rw [e] at hm
                  have hm := hm.2.1
                  have hy := HY.out q l' e
                  obtain ⟨l3, e, -⟩ := pair_ok e
                  obtain ⟨q1, q2⟩ := q
                  obtain ⟨e1, -, e3⟩ := room_ok (HRM.out.trans e)
                  obtain rfl : q1 = p := e1
                  refine ⟨HS1.out, HS2.out, ?_, by omega, by simp [HS5.out], by omega⟩
                  rw [hy, HS3.out, putIs_snoc]; rfl
                · rw [HR3.out, PR.bind_assoc, PR.bind_assoc]
                  refine bind_same rfl fun a l e => ?_
                  obtain ⟨-, rfl, -⟩ := room_ok (HRM.out.trans e)
                  have hi : itemP j l = packP j l.tail := by unfold itemP; rw [if_pos HQK.out]
                  rw [hi]; simp only [PR.bind_assoc, PR.bind_ok]
              case measure => rw [htk.out]; have := htk2.out; obtain ⟨n1, n2, n3, n4, n5, n6, n7, n8, n9⟩ := HNUM.out; omega
          · subst hways hwayk
            have HNUM : Hid (8 * l1.length + 8 ≤ j + 1 ∧ is.length ≤ 64 ∧ j + 1 ≤ n ∧ b + 16 * n + 32 ≤ c ∧ c ≤ 8000000 ∧ l1.length ≤ m - 1 ∧ 0 < l1.length ∧ 3 ≤ b ∧ b ≤ c) := hid ⟨hs6, hs4, hj, hbc, hc8, hlm1, hp1, hb3, hbc'⟩
            clear hs4 hs6 his hj hn hbc hbc' hc8 hc9 hlm1 hp1 hlt1 hlm hb3 hX0 hst hnk hw1 hw hwt hp htl hd32 hX1 hg
            focus
              go_upto_region 27 with (first | (go_at_call 103; (first | ((with_reducible refine C1.out.mono ?_); rintro e wc ⟨rfl, hb⟩; have P2 := hid (P1.out.below HST.out hb); clear hb q7 qf; have C2 := hid (dis_lit kPack (by decide) ⟨#[112, 97, 99, 107]⟩ rfl _ P2.out.dt HQK.out)))) | (go_at_call 50; (first | ((with_reducible refine C2.out.mono ?_); rintro e wd ⟨rfl, hb⟩; have P3 := hid (P2.out.below HST.out hb); clear hb; obtain ⟨⟨d0, d1, d2⟩, df, dl⟩ := cells3 (P3.out.bx _ List.mem_cons_self).1; have C3 := hid (droom_any is.length _ P3.out.dt)))) | (go_at_call 51; (first | ((with_reducible refine C3.out.mono ?_); rintro e we ⟨rfl, hT, hS⟩; have P4 := hid (P3.out.step (r' := r2) HST.out (HRM.out ▸ hT) hS); clear hT hS; clear d0 d1 d2 df dl; have P5 := hid (P4.out.box0 HST.out #[.string ⟨#[]⟩, .int .i64 0, .int .i64 0, .string ⟨#[]⟩, .string ⟨#[]⟩, .int .i64 0, .int .i64 0, .bool false, .slice none 0 0] 70); have z9 := (P5.out.bx _ List.mem_cons_self).1; obtain ⟨⟨z0, z1, z2, z3, z4, z5, z6, z7, z8⟩, zf, zl⟩ := cells9 z9; clear z9; have C5 := hid (ditem_field (n := j) _ P5.out.dt (by obtain ⟨n1, n2, n3, n4, n5, n6, n7, n8, n9⟩ := HNUM.out; omega) (by obtain ⟨n1, n2, n3, n4, n5, n6, n7, n8, n9⟩ := HNUM.out; omega) (by obtain ⟨n1, n2, n3, n4, n5, n6, n7, n8, n9⟩ := HNUM.out; omega))))) | (go_at_call 105; (first | ((with_reducible refine C5.out.mono ?_); rintro e wf ⟨c0, c1, c2, c3, c4, c5, c6, c7, c8, y, rfl, hT, hI, hy, hS⟩; have HY := hid hy; have HI1 := hid hI.one; have P6 := hid ((P5.out.step HST.out hT hS).know (Q' := QI (Value.slice va1 ps.length vc1) ps (cs ++ [[c0, c1, c2, c3, c4, c5, c6, c7, c8]]) (is ++ [y])) fun h => h.snoc HCL.out hI); obtain ⟨sv, ec, hsub, hnest⟩ := hI; simp only [List.cons.injEq, and_true] at ec; obtain ⟨rfl, rfl, rfl, rfl, rfl, rfl, rfl, rfl, rfl⟩ := ec; obtain ⟨sa, sc, rfl⟩ := ownsRow_shape hsub; clear hT hy hS hsub hnest z0 z1 z2 z3 z4 z5 z6 z7 z8 zf zl; have HX6 : Hid (wf.heap[we.heap.size]? = some (.cells #[.string ⟨#[]⟩, .int .i64 0, .int .i64 0, .string ⟨#[]⟩, .string ⟨#[]⟩, .int .i64 0, .int .i64 0, .bool false, .slice none 0 0] 70 (0, 0))) := hid (P6.out.bx _ List.mem_cons_self).1))) | ((with_reducible refine at_list ?_); refine wpList_store_rowTo rfl 70 _ _ rfl rfl we.heap.size #[.string (bs y.s), .int .i64 y.t, .int .i64 (y.der : Int), .string (bs y.a), .string (bs y.b), .int .i64 y.wh, .int .i64 (y.size : Int), .bool y.little, .slice sa y.subs.length sc] rfl rfl 70 _ HX6.out size_ditem rfl (row_one HI1.out) ?_; rw [row9 HX6.out (.string (bs y.s)) (.int .i64 y.t) (.int .i64 (y.der : Int)) (.string (bs y.a)) (.string (bs y.b)) (.int .i64 y.wh) (.int .i64 (y.size : Int)) (.bool y.little) (.slice sa y.subs.length sc)]; have HST2 := hid (QI.stable (Value.slice va1 ps.length vc1) ps (cs ++ [[.string (bs y.s), .int .i64 y.t, .int .i64 (y.der : Int), .string (bs y.a), .string (bs y.b), .int .i64 y.wh, .int .i64 (y.size : Int), .bool y.little, .slice sa y.subs.length sc]]) (is ++ [y])); have P7' := P6.out.fill9 HST2.out (by have hl1 := (Array.getElem?_eq_some_iff.1 (P4.out.bx _ List.mem_cons_self).1).1; have hl0 := (Array.getElem?_eq_some_iff.1 (P4.out.bx _ (List.mem_cons_of_mem _ List.mem_cons_self)).1).1; simp; omega) (.string (bs y.s)) (.int .i64 y.t) (.int .i64 (y.der : Int)) (.string (bs y.a)) (.string (bs y.b)) (.int .i64 y.wh) (.int .i64 (y.size : Int)) (.bool y.little) (.slice sa y.subs.length sc); generalize Go.Proofs.YthcdohggffpopaaGreatDoor.set9 wf we.heap.size (.string (bs y.s)) (.int .i64 y.t) (.int .i64 (y.der : Int)) (.string (bs y.a)) (.string (bs y.b)) (.int .i64 y.wh) (.int .i64 (y.size : Int)) (.bool y.little) (.slice sa y.subs.length sc) = W7 at P7' ⊢; have HX9 : Hid (W7.heap[we.heap.size]? = some (.cells #[.string (bs y.s), .int .i64 y.t, .int .i64 (y.der : Int), .string (bs y.a), .string (bs y.b), .int .i64 y.wh, .int .i64 (y.size : Int), .bool y.little, .slice sa y.subs.length sc] 70 (0, 0))) := hid (P7'.bx _ List.mem_cons_self).1; clear HX6; have P7 := hid (P7'.drop HST2.out fun p hp => (P4.out.bx p hp).2.1); clear P7' P6 C1 C2 C3 C5 P5 P3 P2; obtain ⟨⟨d0, d1, d2⟩, df, dl⟩ := cells3 (P7.out.bx _ List.mem_cons_self).1))
              dsimp only at d0 d1 d2 df dl
              go_wp2_with (first | ((with_reducible refine at_list ?_); refine wpList_load_row rfl 70 _ rfl we.heap.size rfl _ _ (0, 0) _ HX9.out Tryz.underlying70 rfl size_ditem ?_) | ((with_reducible refine at_list ?_); refine wpList_buildSlice rfl 56 70 1 _ rfl #[.string (bs y.s), .int .i64 y.t, .int .i64 (y.der : Int), .string (bs y.a), .string (bs y.b), .int .i64 y.wh, .int .i64 (y.size : Int), .bool y.little, .slice sa y.subs.length sc] i0 _ Tryz.underlying56 hi0 hz0 (by rw [hz1]; decide) (by rw [hz1]; decide) (by rw [hz1]; exact fill9_one _ _ _ _ _ _ _ _ _) ?_) | (at_builtin; refine list_one rfl _ _ 56 rfl 70 i0 _ 9 112 Tryz.underlying56 hi0 hz0 hz1 hz2 rfl (by decide) (.slice va is.length vc) is.length cs.flatten rfl (RowR.below P7.out.row (below_box W7 _)) _ _ [.string (bs y.s), .int .i64 y.t, .int .i64 (y.der : Int), .string (bs y.a), .string (bs y.b), .int .i64 y.wh, .int .i64 (y.size : Int), .bool y.little, .slice sa y.subs.length sc] rfl rfl (heap_alloc_new W7 _) HI1.out (by obtain ⟨n1, n2, n3, n4, n5, n6, n7, n8, n9⟩ := HNUM.out; unfold maxLen; omega) (by obtain ⟨n1, n2, n3, n4, n5, n6, n7, n8, n9⟩ := HNUM.out; omega) ?_; intro v' w8 hown hgrow hat; have P8 := hid (P7.out.grow HST2.out (.cells #[.string (bs y.s), .int .i64 y.t, .int .i64 (y.der : Int), .string (bs y.a), .string (bs y.b), .int .i64 y.wh, .int .i64 (y.size : Int), .bool y.little, .slice sa y.subs.length sc] 70) hown hgrow hat); obtain ⟨va', vc', rfl⟩ := ownsRow_shape hown; have P9 : Hid (DP _ g _ _ _ _ _ _ _ _ [(w3.heap.size, #[.string (bs s), (Value.slice va1 ps.length vc1), .slice va' (is.length + 1) vc'], 58), (w.heap.size, #[.string ⟨#[]⟩, .slice none 0 0, .slice none 0 0], 58)] _ _ _ _ _ _) := hid (P8.out.set HST2.out (by simp; omega) (by decide : 2 < 3) (.slice va' (is.length + 1) vc')); clear d0 d1 d2 df dl; obtain ⟨⟨d0, d1, d2⟩, df, dl⟩ := cells3 (P8.out.bx _ List.mem_cons_self).1; clear hown hgrow hat))
              have htk2 := hid (tokD_le P9.out.dt)
              go_roundw
              case rel =>
                obtain ⟨n1, n2, n3, n4, n5, n6, n7, n8, n9⟩ := HNUM.out
                have hrow : (is ++ [y]).length = is.length + 1 := by simp
                have hflat : (cs ++ [([.string (bs y.s), .int .i64 y.t, .int .i64 (y.der : Int), .string (bs y.a), .string (bs y.b), .int .i64 y.wh, .int .i64 (y.size : Int), .bool y.little, .slice sa y.subs.length sc] : List Value)]).flatten = cs.flatten ++ ([.string (bs y.s), .int .i64 y.t, .int .i64 (y.der : Int), .string (bs y.a), .string (bs y.b), .int .i64 y.wh, .int .i64 (y.size : Int), .bool y.little, .slice sa y.subs.length sc] : List Value) := by rw [List.flatten_append]; simp
                have hc9 : ∀ c ∈ cs ++ [([.string (bs y.s), .int .i64 y.t, .int .i64 (y.der : Int), .string (bs y.a), .string (bs y.b), .int .i64 y.wh, .int .i64 (y.size : Int), .bool y.little, .slice sa y.subs.length sc] : List Value)], c.length = 9 := fun c hc => (List.mem_append.1 hc).elim (HC9.out c) fun e => by (rw [List.mem_singleton.1 e]; rfl)
                refine ⟨_, .slice va' (is.length + 1) vc', cs ++ [[.string (bs y.s), .int .i64 y.t, .int .i64 (y.der : Int), .string (bs y.a), .string (bs y.b), .int .i64 y.wh, .int .i64 (y.size : Int), .bool y.little, .slice sa y.subs.length sc]], is ++ [y], j, (P9.out.to fun h => (DT.map h (fun q => (q.1.1, q.1.2 ++ [q.2])) rfl fun q l _ => by rw [putIs_snoc]; rfl).mono (by omega) (by omega) (by omega) (by omega) (by omega)).re hrow hflat, by rw [List.length_append, List.length_append, HCL.out]; rfl, hc9, by omega, ?_, by omega, hid ?_⟩
                · intro p' l' e0
                  have hm := P9.out.dt
                  obtain ⟨q, e, rfl⟩ := map_ok e0
                  rw [e] at hm
                  have hm := hm.2.1
                  have hy := HY.out q l' e
                  obtain ⟨l3, e, -⟩ := pair_ok e
                  obtain ⟨q1, q2⟩ := q
                  obtain ⟨e1, -, e3⟩ := room_ok (HRM.out.trans e)
                  obtain rfl : q1 = p := e1
                  refine ⟨HS1.out, HS2.out, ?_, by omega, by simp [HS5.out], by omega⟩
                  rw [hy, HS3.out, putIs_snoc]; rfl
                · rw [HR3.out, PR.bind_assoc, PR.bind_assoc]
                  refine bind_same rfl fun a l e => ?_
                  obtain ⟨-, rfl, -⟩ := room_ok (HRM.out.trans e)
                  have hi : itemP j l = fieldP j l := by unfold itemP; rw [if_neg (by rw [HQK.out]; decide)]
                  rw [hi]; simp only [PR.bind_assoc, PR.bind_ok]
              case measure => rw [htk.out]; have := htk2.out; obtain ⟨n1, n2, n3, n4, n5, n6, n7, n8, n9⟩ := HNUM.out; omega
          · exact absurd ⟨hways, hwayk⟩ hnk
        · have HP1 := hid hP
          have HST := hid hstab
          have HCL := hid hcl
          have HC9 := hid hc9'
          have HOK2 : Hid (∀ p l1, rr = .ok p l1 → s = p.1.1 ∧ ps = p.1.2 ∧ is = (putIs p.2 (F a).g).2) := hid fun p l1 e => ⟨(hok p l1 e).1, (hok p l1 e).2.1, (hok p l1 e).2.2.1⟩
          have HRx : Hid (R = (rr.bind fun p l => (need sRc l).bind fun _ l => .ok p l).bind fun p l5 => .ok ⟨p.1.1, p.1.2, p.2⟩ l5) := hid (by
            rw [HR2.out, PR.bind_assoc]
            refine bind_same rfl fun p l1 e => ?_
            have h0 := (hok p l1 e).2.2.2.2.2
            obtain ⟨j, rfl⟩ : ∃ j', j = j' + 1 := ⟨j - 1, by omega⟩
            have hn : isName l1 = false := by
              cases hn : isName l1
              · rfl
              · exact absurd ⟨p, l1, e, .inl hn⟩ hgo
            have hk : isT kPack l1 = false := by
              cases hn : isT kPack l1
              · rfl
              · exact absurd ⟨p, l1, e, .inr hn⟩ hgo
            rw [items_no hn hk]
            simp only [PR.bind_assoc, PR.bind_ok])
          have HN : Hid (isName rr.rest = false ∨ ((rr.err : Int) == 0) = false) := hid (by
            cases rr with
            | bad l1 x => exact .inr hP.dt.err_eq
            | ok p l1 =>
              cases hn : isName l1
              · exact .inl hn
              · exact absurd ⟨p, l1, rfl, .inl hn⟩ hgo)
          have HK : Hid (isT kPack rr.rest = false ∨ ((rr.err : Int) == 0) = false) := hid (by
            cases rr with
            | bad l1 x => exact .inr hP.dt.err_eq
            | ok p l1 =>
              cases hn : isT kPack l1
              · exact .inl hn
              · exact absurd ⟨p, l1, rfl, .inr hn⟩ hgo)
          obtain ⟨i, nn, kk, cp, dd, -, -, -, q7, qf⟩ := hP.dt.cells
          have C1 := hid (dtake_lit sRc (by decide) ⟨#[125]⟩ rfl _ hP.dt)
          have HNUM : Hid (is.length ≤ 65 ∧ b + 16 * n + 32 ≤ c ∧ c ≤ 8000000 ∧ 3 ≤ b ∧ b ≤ c ∧ 1 ≤ m) := hid ⟨his, hbc, hc8, hb3, hbc', hlt1⟩
          have HX0 := hid hX0
          clear hP hok HR2 hgo hstab hcl hc9' his hj hn hbc hbc' hc8 hc9 hlt1 hlm hb3 hX0 hst hw hwt hp htl hd32 hX1 hg
          rcases Bool.eq_false_or_eq_true ((rr.err : Int) == 0) with hz | hz
          · have hz0 : rr.err = 0 := by have := eq_of_beq hz; omega
            rw [hz0] at q7
            have C2 := hid (dnamed_dt _ HP1.out.dt (HN.out.resolve_right (by rw [hz]; decide)))
            have HZ := hid hz
            clear hz hz0
            focus
              go_wp2_with (first | (go_at_call 103; (first | ((with_reducible refine C2.out.mono ?_); rintro e wc ⟨rfl, hb⟩; have P2 := hid (HP1.out.below HST.out hb); clear hb; have C3 := hid (dis_lit kPack (by decide) ⟨#[112, 97, 99, 107]⟩ rfl _ P2.out.dt (HK.out.resolve_right (by rw [HZ.out]; decide)))))) | (go_at_call 50; (first | ((with_reducible refine C3.out.mono ?_); rintro e wd ⟨rfl, hb⟩; have P3 := hid (P2.out.below HST.out hb); clear hb; have C4 := hid (dtake_lit sRc (by decide) ⟨#[125]⟩ rfl _ P3.out.dt)))) | (go_at_call 52; (first | ((with_reducible refine C4.out.mono ?_); rintro e we ⟨rfl, hT, hS⟩; have P4 := hid (P3.out.step HST.out hT hS); clear hT hS; obtain ⟨⟨d0, d1, d2⟩, df, dl⟩ := cells3 (P4.out.bx _ List.mem_cons_self).1; obtain ⟨⟨e0, e1, e2⟩, ef, el⟩ := cells3 (P4.out.bx _ (List.mem_cons_of_mem _ List.mem_cons_self)).1))))
              obtain ⟨n1, n2, n3, n4, n5, n6⟩ := HNUM.out
              have hX0 := HX0.out
              have P5 := P4.out.out3 HST.out (List.mem_cons_of_mem _ List.mem_cons_self) (.string (bs s)) (Value.slice va1 ps.length vc1) (.slice va is.length vc)
              refine bodyPost_ret (v := .agg #[.string (bs s), (Value.slice va1 ps.length vc1), .slice va is.length vc]) (by simp [results, Tryz.results55, go_sem, e0, e1, e2]) rfl ⟨_, _, _, ⟨s, ps, is⟩, rfl, ?_, ?_, ?_, P5.st⟩
              · refine (DT.map (P5.dt.weak fun k hk => .inl (.inl (.inl hk))) (fun p => (a, (⟨p.1.1, p.1.2, p.2⟩ : SA))) ?_ fun _ _ _ => rfl).mono (by omega) (by omega) (by omega) (by omega) (by omega)
                rw [PR.bind_ok]
                show R.bind _ = _
                rw [HRx.out]
                simp only [PR.bind_assoc, PR.bind_ok]
              · have hwk : ∀ (wz : World) i, Pub (wthV (wth (wth X w.heap.size) w3.heap.size) (.slice va is.length vc)) layD g wz i → Pub X layD g wz i := fun wz i hi => ⟨hi.1, fun hx => hi.2 (.inl (.inl (.inl hx)))⟩
                have hq := P5.q
                exact ⟨(Value.slice va1 ps.length vc1), _, rfl, hq.1, fun i hi => hwk _ i (hq.2.1 i hi), ⟨cs, P5.row, HCL.out, HC9.out, fun i c y hc hy => (Irep.kept layD) _ _ _ _ _ _ (hq.2.2 i c y hc hy) fun b hb => ⟨rfl, hwk _ b hb⟩⟩, P5.nest hX0⟩
              · intro p l' e
                have e : R.bind (fun y l => .ok (a, y) l) = .ok p l' := e
                rw [HRx.out] at e
                simp only [PR.bind_assoc, PR.bind_ok] at e
                cases hrr : rr with
                | bad l1 x => rw [hrr] at e; cases e
                | ok q l1 =>
                  rw [hrr, PR.bind_ok] at e
                  cases hnd : need sRc l1 with
                  | bad l2 x => rw [hnd] at e; cases e
                  | ok u l2 =>
                    rw [hnd] at e
                    cases e
                    obtain ⟨h1, h2, h3⟩ := HOK2.out q l1 hrr
                    rw [h1, h2, h3]
                    rfl
          · focus
              go_wp2_with (go_at_call 52; (first | ((with_reducible refine C1.out.mono ?_); rintro e we ⟨rfl, hT, hS⟩; have P4 := hid (HP1.out.step HST.out hT hS); clear hT hS; clear q7 qf; obtain ⟨⟨d0, d1, d2⟩, df, dl⟩ := cells3 (P4.out.bx _ List.mem_cons_self).1; obtain ⟨⟨e0, e1, e2⟩, ef, el⟩ := cells3 (P4.out.bx _ (List.mem_cons_of_mem _ List.mem_cons_self)).1)))
              obtain ⟨n1, n2, n3, n4, n5, n6⟩ := HNUM.out
              have hX0 := HX0.out
              have P5 := P4.out.out3 HST.out (List.mem_cons_of_mem _ List.mem_cons_self) (.string (bs s)) (Value.slice va1 ps.length vc1) (.slice va is.length vc)
              refine bodyPost_ret (v := .agg #[.string (bs s), (Value.slice va1 ps.length vc1), .slice va is.length vc]) (by simp [results, Tryz.results55, go_sem, e0, e1, e2]) rfl ⟨_, _, _, ⟨s, ps, is⟩, rfl, ?_, ?_, ?_, P5.st⟩
              · refine (DT.map (P5.dt.weak fun k hk => .inl (.inl (.inl hk))) (fun p => (a, (⟨p.1.1, p.1.2, p.2⟩ : SA))) ?_ fun _ _ _ => rfl).mono (by omega) (by omega) (by omega) (by omega) (by omega)
                rw [PR.bind_ok]
                show R.bind _ = _
                rw [HRx.out]
                simp only [PR.bind_assoc, PR.bind_ok]
              · have hwk : ∀ (wz : World) i, Pub (wthV (wth (wth X w.heap.size) w3.heap.size) (.slice va is.length vc)) layD g wz i → Pub X layD g wz i := fun wz i hi => ⟨hi.1, fun hx => hi.2 (.inl (.inl (.inl hx)))⟩
                have hq := P5.q
                exact ⟨(Value.slice va1 ps.length vc1), _, rfl, hq.1, fun i hi => hwk _ i (hq.2.1 i hi), ⟨cs, P5.row, HCL.out, HC9.out, fun i c y hc hy => (Irep.kept layD) _ _ _ _ _ _ (hq.2.2 i c y hc hy) fun b hb => ⟨rfl, hwk _ b hb⟩⟩, P5.nest hX0⟩
              · intro p l' e
                have e : R.bind (fun y l => .ok (a, y) l) = .ok p l' := e
                rw [HRx.out] at e
                simp only [PR.bind_assoc, PR.bind_ok] at e
                cases hrr : rr with
                | bad l1 x => rw [hrr] at e; cases e
                | ok q l1 =>
                  rw [hrr, PR.bind_ok] at e
                  cases hnd : need sRc l1 with
                  | bad l2 x => rw [hnd] at e; cases e
                  | ok u l2 =>
                    rw [hnd] at e
                    cases e
                    obtain ⟨h1, h2, h3⟩ := HOK2.out q l1 hrr
                    rw [h1, h2, h3]
                    rfl
end Go.Proofs.YthcdohggffpopaaGreatDoor
namespace Go.Proofs.YthcdohggffpopaaGreatDoor
open Go.Lib (hid)
open Go.ChangeShapes Go.WideShapes Go.ChangeAt Go.RowKit
theorem drecord_any {n : Nat} {β : Type} {r : PR β} {F : β → FM} {X : Nat → Prop} {g m b c : Nat} (w : World) (h : DT X g m b c 0 w r F) (hst : isT kStruct r.rest = true) (hn : 8 * m + 8 ≤ n) (hbc : b + 16 * n + 32 ≤ c) (hc8 : c ≤ 8000000) (hb3 : 3 ≤ b) (hm : 1 ≤ m) :
    Calls Tryz.prog 55 #[.pointer (some ⟨g, 0, none⟩)] w (PostS X g (m - 1) b c 0 w r F (structP n)) := by
  have hsl : ∀ l : List Tok, isT kStruct l = true → isT sLp l = false := fun l hst => by
    unfold isT at *
    simp only [decide_eq_true_eq] at hst
    simp only [decide_eq_false_iff_not]
    rw [hst]
    decide
  cases r with
  | ok a l =>
    have hst : isT kStruct l = true := hst
    obtain ⟨RR, h2⟩ : ∃ RR, ((.ok () l.tail : PR Unit).bind fun a l => (nameP l).bind fun y l => .ok (a, y) l) = RR := ⟨_, rfl⟩
    have h0 : DT X g m b c 0 w (.ok () l : PR Unit) (fun _ => F a) := h
    have h3 : (((.ok () l : PR Unit).bind fun a l => (need kStruct l).bind fun _ l => .ok a l).bind fun a l => (nameP l).bind fun y l => .ok (a, y) l) = RR := by
      rw [PR.bind_ok, need_yes hst, PR.bind_ok]
      exact h2
    have conv : ∀ {e w'}, PostS X g (m - 1) b c 0 w (.ok a l : PR β) F (fun _ => structP n l) e w' → PostS X g (m - 1) b c 0 w (.ok a l : PR β) F (structP n) e w' := fun {e w'} h => h
    cases hq : isT sLp RR.rest with
    | false =>
      refine (drecord_np w h0 hn hbc hc8 hb3 hm h3 (.inl hq) ?_).mono fun e w' h => conv h
      unfold structP optP
      rw [need_yes hst, PR.bind_ok]
      rw [PR.bind_ok] at h2
      cases hnm : nameP l.tail with
      | bad l7 x => rw [hnm] at h2; subst h2; rfl
      | ok y l7 =>
        rw [hnm] at h2
        subst h2
        rw [PR.bind_ok, if_neg (by rw [show isT sLp l7 = false from hq]; decide)]
        rfl
    | true =>
      cases RR with
      | bad l2 x =>
        have hnm : nameP l.tail = .bad l2 x := by
          rw [PR.bind_ok] at h2
          cases hnm : nameP l.tail with
          | ok y l7 => rw [hnm] at h2; cases h2
          | bad l7 x7 => rw [hnm] at h2; cases h2; rfl
        have hx : x ≠ 0 := by
          unfold nameP at hnm
          split at hnm
          · cases hnm
          · cases hnm; decide
        refine (drecord_np w h0 hn hbc hc8 hb3 hm h3 (.inr ⟨hq, ?_⟩) ?_).mono fun e w' h => conv h
        · show ((x : Int) == 0) = false
          simp only [beq_eq_false_iff_ne, ne_eq]
          omega
        · unfold structP optP
          rw [need_yes hst, PR.bind_ok, hnm]
          rfl
      | ok q l2 =>
        obtain ⟨u, y⟩ := q
        exact drecord_pars w h hst hn hbc hc8 (y := y) (l2 := l2) h2 hq
  | bad l x =>
    refine (drecord_np (n := n) (a := ()) (l := l) (F := fun _ => putF [] []) (RR := .bad l x) (R := .bad l x) w (r0 := .bad l x) (DT.bad_any h) hn hbc hc8 hb3 hm rfl (.inl (hsl l hst)) rfl).mono ?_
    rintro e w' ⟨c0, c1, c2, y, rfl, hD, hS, -, hs⟩
    have hD : DT X g (m - 1) b c 0 w' (.bad l x : PR (Unit × SA)) _ := hD
    exact ⟨c0, c1, c2, y, rfl, DT.bad_any hD, hS, fun p l e => (by cases e), hs⟩
end Go.Proofs.YthcdohggffpopaaGreatDoor
