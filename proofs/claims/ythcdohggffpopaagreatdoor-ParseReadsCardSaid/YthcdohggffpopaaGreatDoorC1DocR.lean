/- Layer 7: the document's parser: packs. · Layer 7: the document's parser: structs. -/
import Derived.Test.YthcdohggffpopaaGreatDoorC1DocKa
import Derived.Test.YthcdohggffpopaaGreatDoorC1DocN
import Derived.Great.BuildSlice
import Derived.Test.YthcdohggffpopaaGreatDoorC1ParFi
namespace Go.Proofs.YthcdohggffpopaaGreatDoor
open Go.Lib (hid)
open Go.ChangeShapes Go.WideShapes Go.ChangeAt Go.RowKit
theorem int_pos {t : List UInt8} {q : Nat × Bool} (h : intW t = some q) : q.1 ≠ 0 := by
  unfold intW at h
  obtain ⟨x, hx, rfl⟩ := Option.map_eq_some_iff.1 h
  have hm := List.mem_of_find?_eq_some hx
  have : ∀ x ∈ intsL, x.2.1 ≠ 0 := by decide
  exact this x hm
theorem int_word0 {l : List Tok} (hw : WF l) {q : Nat × Bool} (h : intW (hd l).tk.t = some q) : (hd l).tk.k = 0 := by
  rcases hw.cases with ⟨h1, _⟩ | ⟨h1, _⟩
  · rw [h1] at h; cases h
  · by_cases h0 : (hd l).tk.k = 0
    · exact h0
    · have := h1.kw h0
      unfold isKw at this
      rw [h] at this
      simp at this
set_option maxHeartbeats 8000000 in
set_option maxRecDepth 100000 in
theorem dpack_some {n : Nat} {β : Type} {a : β} {l : List Tok} {F : β → FM} {X : Nat → Prop} {g m b c d : Nat} (w : World) (h : DT X g m b c d w (.ok a l : PR β) F) (hpk : isT kPack l = true) (hn : m + 2 ≤ n) (hc8 : c ≤ 8000000) {z : Nat} {li : Bool} (hi : intW (hd l.tail).tk.t = some (z, li)) :
    Calls Tryz.prog 104 #[.pointer (some ⟨g, 0, none⟩)] w (PostI X g (m - 1) b c d w (.ok a l : PR β) F fun l => packP n l.tail) := by
  have hg := h.lt
  have hX0 : ∀ k, X k → k < w.heap.size := fun k hk => (h.out hk).lt
  obtain ⟨hD, hlm, hd32, hbc', hc9⟩ := h
  have hw := hD.wf
  have hp := hw.pos
  have hb3 : 3 ≤ b := by have := hD.pot; omega
  have hwt := hw.isT hpk (by decide)
  have hpt := hwt.pos
  have htl : l.tail.length = l.length - 1 := List.length_tail
  have HI : Hid (∀ w, Calls Tryz.prog 120 #[.string (bs (hd l.tail).tk.t)] w fun e w' => e = .returned (.tuple #[.int .i64 (z : Int), .bool li]) ∧ Below w.heap.size w w') := hid fun w => by
    have := refInteger_any (hd l.tail).tk.t w
    rw [hi] at this
    exact this
  have hz : ((z : Int) == 0) = false := by
    have : z ≠ 0 := int_pos hi
    rw [beq_eq_false_iff_ne]; omega
  have hk0 : (((hd l.tail).tk.k : Int) != 0) = false := by
    have : (hd l.tail).tk.k = 0 := int_word0 hwt hi
    rw [this]; rfl
  have hwtt : WF l.tail.tail := hwt.tailT (intW_ne hi)
  have httl : l.tail.tail.length = l.tail.length - 1 := List.length_tail
  obtain ⟨R, hR⟩ : ∃ R, ((need sLc l.tail.tail).bind fun _ l1 => subsQ n true [] l1) = R := ⟨_, rfl⟩
  have HA := hid hR.symm
  have HR : Hid (packP n l.tail = R.bind fun ss l => .ok (.pack z li ss) l) := hid (by rw [pack_eq hi, ← hR, PR.bind_assoc])
  clear hR
  have P1 := hid ((DT.ok hD hd32 hlm hbc' hc9).start #[.string ⟨#[]⟩, .int .i64 0, .int .i64 0, .string ⟨#[]⟩, .string ⟨#[]⟩, .int .i64 0, .int .i64 0, .bool false, .slice none 0 0] 70 201 2 (by decide))
  have C1 := hid (dtake_lit kPack (by decide) ⟨#[112, 97, 99, 107]⟩ rfl _ P1.out.dt)
  clear hD
  go_enter Tryz.func104, Tryz.ntmps104
  go_wp2_with (first | (go_at_call 52; (first | ((with_reducible refine C1.out.mono ?_); rintro e w2 ⟨rfl, hT, hS⟩; have P2 := hid (P1.out.step any_stable hT hS); clear hT hS; have P3 := hid ((P2.out.to (fun h => h.take_yes hpk)).box any_stable #[.string ⟨#[]⟩, .int .i64 (-1), .int .i64 0, .string ⟨#[]⟩, .string ⟨#[]⟩, .int .i64 (-1), .int .i64 0, .bool false, .slice none 0 0] 70 (by decide)); obtain ⟨i, nn, kk, cp, q0, q1, q2, q7, qf, qi, qc, qm, qkg, qkl, t0, t1, t2, t3, t4⟩ := P3.out.dt.1.look; unfold maxLen at qm; have qin : (i : Int) < (nn : Int) := (by omega); have hlt : w.heap.size < w2.heap.size := (Array.getElem?_eq_some_iff.1 (P2.out.bx _ List.mem_cons_self).1).1))))
  have hln : 1 ≤ nn := by omega
  generalize hW3 : w2.alloc (.cells #[.string ⟨#[]⟩, .int .i64 (-1), .int .i64 0, .string ⟨#[]⟩, .string ⟨#[]⟩, .int .i64 (-1), .int .i64 0, .bool false, .slice none 0 0] 70) = W3 at *
  have hg3 := P3.out.dt.lt
  have hz := packS_keep q0 q1 t1 hg3 qkl (Below.refl W3.heap.size W3) (Below.refl W3.heap.size W3).drew
  obtain ⟨s0, s1, s2, s3, s4, s5⟩ := hz
  clear q0 q1 q2 q7 t0 t1 t2 t3 t4
  go_region_held3 (fun w' => w'.cell? ⟨g, 0, none⟩ = some (.slice (some ⟨kk, 0, none⟩) nn cp) ∧ w'.cell? ⟨g, 1, none⟩ = some (.int .i64 (i : Int)) ∧ w'.cell? ⟨kk, i * 5 + 1, none⟩ = some (.string (bs (hd l.tail).tk.t)) ∧ g < w'.heap.size ∧ kk < w'.heap.size ∧ Below W3.heap.size W3 w')
    (first | exact ⟨s0, s1, s2, s3, s4, s5⟩ | (go_split_ands; exact packS_keep (by assumption) (by assumption) (by assumption) (by assumption) (by assumption) (by assumption) (by assumption)) | go_keep)
    (first | (go_at_call 120; refine (HI.out _).mono ?_; rintro e w4 ⟨rfl, hb4⟩))
  rename_i hHeld
  have P4 := hid (P3.out.below any_stable hHeld.2.2.2.2.2)
  clear hHeld hb4 s0 s1 s2 s3 s4 s5 qf qi qc qm qkg qkl qin
  obtain ⟨i, nn, kk, cp, q0, q1, q2, q7, qf, qi, qc, qm, qkg, qkl, t0, t1, t2, t3, t4⟩ := P4.out.dt.1.look
  unfold maxLen at qm
  have qin : (i : Int) < (nn : Int) := by omega
  go_wp2_with fail
  go_quiet (fail)
  generalize hW : World.drewN _ _ = W5
  have P5 := hid (P4.out.below any_stable (show Below w4.heap.size w4 W5 by rw [← hW]; exact below_drewN _ _ _))
  clear hW q0 q1 q2 q7 qf qi qc qm qkg qkl t0 t1 t2 t3 t4 qin
  obtain ⟨i, nn, kk, cp, q0, q1, q2, q7, qf, qi, qc, qm, -⟩ := P5.out.dt.1.look
  unfold maxLen at qm
  have hi1 : IntKind.i64.wrap ((i : Int) + 1) = (i : Int) + 1 := IntWalk.i64_in _ (by omega)
  have HN := hid (P5.out.dt.1.next hwtt q1)
  have P6 := hid (P5.out.step any_stable (r' := (.ok () l.tail.tail : PR Unit)) (F' := fun _ => F a) (m' := m - 1) (b' := b - 3 - 3) (c' := c) (d' := d) ⟨HN.out.1, by omega, hd32, by omega, hc9⟩ HN.out.2)
  have P7 : Hid (DP _ g _ _ _ _ _ _ _ _ [(w2.heap.size, #[.string ⟨#[]⟩, .int .i64 (-1), .int .i64 0, .string ⟨#[]⟩, .string ⟨#[]⟩, .int .i64 (-1), .int .i64 (z : Int), .bool false, .slice none 0 0], 70), (w.heap.size, #[.string ⟨#[]⟩, .int .i64 0, .int .i64 0, .string ⟨#[]⟩, .string ⟨#[]⟩, .int .i64 0, .int .i64 0, .bool false, .slice none 0 0], 70)] _ _ _ _ _ _) := hid (P6.out.set any_stable (by simp; omega) (by decide : 6 < 9) (.int .i64 (z : Int)))
  have P8 : Hid (DP _ g _ _ _ _ _ _ _ _ [(w2.heap.size, #[.string ⟨#[]⟩, .int .i64 (-1), .int .i64 0, .string ⟨#[]⟩, .string ⟨#[]⟩, .int .i64 (-1), .int .i64 (z : Int), .bool li, .slice none 0 0], 70), (w.heap.size, #[.string ⟨#[]⟩, .int .i64 0, .int .i64 0, .string ⟨#[]⟩, .string ⟨#[]⟩, .int .i64 0, .int .i64 0, .bool false, .slice none 0 0], 70)] _ _ _ _ _ _) := hid (P7.out.set any_stable (by simp; omega) (by decide : 7 < 9) (.bool li))
  obtain ⟨⟨d0, d1, d2, d3, d4, d5, d6, d7, d8⟩, df, dl⟩ := cells9 (P6.out.bx _ List.mem_cons_self).1
  have C8 := hid (dtake_lit sLc (by decide) ⟨#[123]⟩ rfl _ P8.out.dt)
  go_wp2_with (first | (go_at_call 52; (first | ((with_reducible refine C8.out.mono ?_); rintro e w9 ⟨rfl, hT, hS⟩; have P9 := hid (P8.out.step any_stable hT hS); clear hT hS; clear d0 d1 d2 d3 d4 d5 d6 d7 d8 df dl))))
  have hlt1 : 1 ≤ m := by omega
  clear q0 q1 q2 q7 qf qi qc qm hi1 hW3 hg3 hln hz hk0 hw hwt hwtt hi hpk hpt htl httl hp
  go_loopw [6] (fun s6 wr => ∃ (q : Bool) (rr : PR (List (List UInt8 × Nat))) (v : Value) (ss : List (List UInt8 × Nat)) (j : Nat), s6 = .bool q ∧ DP (wth (wth X w.heap.size) w2.heap.size) g (m - 1) b c d w wr rr (fun _ => F a) [(w2.heap.size, #[.string ⟨#[]⟩, .int .i64 (-1), .int .i64 0, .string ⟨#[]⟩, .string ⟨#[]⟩, .int .i64 (-1), .int .i64 (z : Int), .bool li, v], 70), (w.heap.size, #[.string ⟨#[]⟩, .int .i64 0, .int .i64 0, .string ⟨#[]⟩, .string ⟨#[]⟩, .int .i64 0, .int .i64 0, .bool false, .slice none 0 0], 70)] 201 2 v ss.length (subCells ss) Any ∧ ss.length ≤ 65 ∧ (∀ ss' l1, rr = .ok ss' l1 → ss = ss' ∧ ss.length ≤ 64 ∧ l1.length ≤ j) ∧ Hid (R = rr.bind fun ss l1 => subsQ j q ss l1)) (fun _ wr => tokD g wr)
  case atStart =>
    refine ⟨true, _, .slice none 0 0, [], n, rfl, P9.out.to fun h => (DT.map h (fun _ => []) rfl fun _ _ _ => rfl).mono (by omega) (by omega) (by omega) (by omega) (by omega), by simp, ?_, hid ?_⟩
    · intro ss' l1 e0
      have hm := P9.out.dt
      obtain ⟨u, e, rfl⟩ := map_ok e0
      rw [e] at hm
      exact ⟨rfl, by simp, by have := hm.2.1; omega⟩
    · rw [HA.out]
      simp only [PR.bind_assoc, PR.bind_ok]
  case round =>
    obtain ⟨q, rr, v, ss, j, rfl, hP, hss, hok, HR2⟩ := hrel
    obtain ⟨va, vc, rfl⟩ := ownsRow_shape hP.row
    clear P1 P2 P3 P4 P5 P6 P7 P8 P9 C1 C8 HA HI HN
    obtain ⟨i0, hi0, hz0, hz1, hz2⟩ := info_parts info_dsub
    by_cases hgo : q = true ∧ ∃ ss' l1, rr = .ok ss' l1
    · obtain ⟨rfl, ss', l1, rfl⟩ := hgo
      obtain ⟨rfl, hsl, hjl⟩ := hok _ _ rfl
      have hp1 := hP.dt.1.wf.pos
      have hlm1 := hP.dt.2.1
      have htk := hid (tokD_ok hP.dt)
      have P1 := hid (hP.to DT.again)
      obtain ⟨j, rfl⟩ : ∃ j', j = j' + 1 := ⟨j - 1, by omega⟩
      obtain ⟨Rq, hRq⟩ : ∃ Rq, ((if isName l1 = true then roomP ss.length l1 else .ok () l1).bind fun _ l => .ok ss l) = Rq := ⟨_, rfl⟩
      have HR3 : Hid (R = (((((Rq.bind fun a l => (nameP l).bind fun y l => .ok (a, y) l).bind fun a l => (need sColon l).bind fun _ l => .ok a l).bind fun a l => (numP l).bind fun y l => .ok (a, y) l).bind fun a l => (need sSemi l).bind fun _ l => .ok a l)).bind fun q l => subsL (j + 1) (subJ q) l) := hid (by
        rw [HR2.out, PR.bind_ok, subs_chain]
        unfold subD
        rw [hRq])
      have HQ : Hid (∀ (p : List (List UInt8 × Nat) × List UInt8) l', (Rq.bind fun a l => (nameP l).bind fun y l => .ok (a, y) l) = .ok p l' → p.1 = ss ∧ ss.length < 64) := hid (by
        intro p l' e
        obtain ⟨l2, e, e2⟩ := pair_ok e
        rw [← hRq] at e
        split at e
        · cases hr : roomP ss.length l1 with
          | bad l7 x => rw [hr] at e; cases e
          | ok u l7 =>
            obtain ⟨rfl, h64⟩ := room_same hr
            rw [hr] at e
            cases e
            exact ⟨rfl, h64⟩
        · rename_i hn
          cases e
          unfold nameP at e2
          rw [if_neg hn] at e2
          cases e2)
      have HRQ := hid hRq
      obtain ⟨i, nn, kk, cp, dd, -, -, -, q7, qf⟩ := P1.out.dt.cells
      simp only [PR.err] at q7
      clear hP hok HR2 hRq
      obtain ⟨nm, hnm⟩ : ∃ nm, isName l1 = nm := ⟨_, rfl⟩
      have C1 := hid (dnamed_dt _ P1.out.dt (show isName (PR.ok ss l1 : PR (List (List UInt8 × Nat))).rest = nm from hnm))
      rw [hnm] at HRQ
      clear hnm
      cases nm
      all_goals
        go_wp2_with (first | (go_at_call 103; (first | ((with_reducible refine C1.out.mono ?_); rintro e w2' ⟨rfl, hb⟩; have P2 := hid (P1.out.below any_stable hb); clear hb q7 qf; have P3 : Hid (DP _ g _ _ _ _ _ _ Rq _ _ _ _ _ _ _ _) := hid (P2.out.to fun h => (show PR.ok ss l1 = Rq from HRQ.out) ▸ h); have C3 := hid (dname_any _ P3.out.dt)) | ((with_reducible refine C1.out.mono ?_); rintro e w2' ⟨rfl, hb⟩; have P2 := hid (P1.out.below any_stable hb); clear hb q7 qf; obtain ⟨⟨d0, d1, d2, d3, d4, d5, d6, d7, d8⟩, df, dl⟩ := cells9 (P2.out.bx _ List.mem_cons_self).1; have C2 := hid (droom_any ss.length _ P2.out.dt)))) | (go_at_call 51; (first | ((with_reducible refine C2.out.mono ?_); rintro e w3' ⟨rfl, hT, hS⟩; have P3 : Hid (DP _ g _ _ _ _ _ _ Rq _ _ _ _ _ _ _ _) := hid (P2.out.step any_stable ((show ((.ok ss l1 : PR (List (List UInt8 × Nat))).bind fun a l => (roomP ss.length l).bind fun _ l => .ok a l) = Rq from HRQ.out) ▸ hT) hS); clear hT hS; clear d0 d1 d2 d3 d4 d5 d6 d7 d8 df dl; have C3 := hid (dname_any _ P3.out.dt)))) | (go_at_call 53; (first | ((with_reducible refine C3.out.mono ?_); rintro e w4' ⟨s, rfl, hT, hs, hS⟩; have HSN := hid hs; clear hs; have P4 := hid (P3.out.step any_stable hT hS); clear hT hS; have C4 := hid (dtake_lit sColon (by decide) ⟨#[58]⟩ rfl _ P4.out.dt)))) | (go_at_call 52; (first | ((with_reducible refine C4.out.mono ?_); rintro e w5' ⟨rfl, hT, hS⟩; have P5 := hid (P4.out.step any_stable hT hS); clear hT hS; have C5 := hid (dnum_any _ P5.out.dt)))) | (go_at_call 54; (first | ((with_reducible refine C5.out.mono ?_); rintro e w6' ⟨u, rfl, hT, hs, hS⟩; have HU := hid hs; clear hs; have P6 := hid (P5.out.step any_stable hT hS); clear hT hS))))
        have C6 := hid (dtake_lit sSemi (by decide) ⟨#[59]⟩ rfl _ P6.out.dt)
        obtain ⟨q', hq'⟩ : ∃ q', isName ((((((Rq.bind fun a l => (nameP l).bind fun y l => .ok (a, y) l).bind fun a l => (need sColon l).bind fun _ l => .ok a l).bind fun a l => (numP l).bind fun y l => .ok (a, y) l).bind fun a l => (need sSemi l).bind fun _ l => .ok a l))).rest = q' := ⟨_, rfl⟩
        have HQ' := hid hq'
        clear hq'
        rcases Nat.lt_or_ge 1048576 u with hbig | hbig
        · have hU := hid (show ((min u 1048576 : Nat) : Int) = 1048576 by omega)
          have hgt : (1048576 : Int) < (u : Int) := by omega
          clear hbig
          go_wp2_with (first | (go_at_call 52; (first | ((with_reducible refine C6.out.mono ?_); rintro e w7 ⟨rfl, hT, hS⟩; have P7 := hid (P6.out.step any_stable hT hS); clear hT hS; obtain ⟨⟨d0, d1, d2, d3, d4, d5, d6, d7, d8⟩, df, dl⟩ := cells9 (P7.out.bx _ List.mem_cons_self).1))) | (go_at_call 103; (first | ((with_reducible refine C9.out.mono ?_); rintro e w10 ⟨rfl, hb⟩; have P10 := hid (P9.out.below any_stable hb); clear hb))) | (refine list_one rfl _ _ 68 rfl 201 i0 _ 2 24 Tryz.underlying68 hi0 hz0 hz1 hz2 rfl (by decide) (.slice va ss.length vc) ss.length (subCells ss) rfl (RowR.below P7.out.row (below_box w7 _)) _ _ [.string (bs s), .int .i64 1048576] rfl rfl (heap_alloc_new w7 _) (fun u hu => by (simp only [List.mem_cons, List.mem_nil_iff, or_false] at hu; rcases hu with rfl | rfl <;> rfl)) (by unfold maxLen; omega) (by omega) ?_; intro v' w8 hown hgrow hat; have P8 := hid (P7.out.grow any_stable (.cells #[.string (bs s), .int .i64 1048576] 201) hown hgrow hat); obtain ⟨va', vc', rfl⟩ := ownsRow_shape hown; have P9 : Hid (DP _ g _ _ _ _ _ _ _ _ [(w2.heap.size, #[.string ⟨#[]⟩, .int .i64 (-1), .int .i64 0, .string ⟨#[]⟩, .string ⟨#[]⟩, .int .i64 (-1), .int .i64 (z : Int), .bool li, .slice va' (ss.length + 1) vc'], 70), (w.heap.size, #[.string ⟨#[]⟩, .int .i64 0, .int .i64 0, .string ⟨#[]⟩, .string ⟨#[]⟩, .int .i64 0, .int .i64 0, .bool false, .slice none 0 0], 70)] _ _ _ _ _ _) := hid (P8.out.set any_stable (by simp; omega) (by decide : 8 < 9) (.slice va' (ss.length + 1) vc')); have C9 := hid (dnamed_dt _ P9.out.dt HQ'.out); clear d0 d1 d2 d3 d4 d5 d6 d7 d8 df dl; obtain ⟨⟨d0, d1, d2, d3, d4, d5, d6, d7, d8⟩, df, dl⟩ := cells9 (P8.out.bx _ List.mem_cons_self).1; clear hown hgrow hat))
          have htk2 := tokD_le P10.out.dt
          go_roundw
          case rel =>
            have hrow : (ss ++ [(s, min u 1048576)]).length = ss.length + 1 := by simp
            refine ⟨q', _, .slice va' (ss.length + 1) vc', ss ++ [(s, min u 1048576)], j, rfl, (P10.out.to fun h => (DT.map h subJ rfl fun _ _ _ => rfl).mono (by omega) (by omega) (by omega) (by omega) (by omega)).re hrow (by rw [subCells_snoc, hU.out]), by omega, ?_, hid ?_⟩
            · intro ss' l' e0
              have hm := P10.out.dt
              obtain ⟨y, e, rfl⟩ := map_ok e0
              rw [e] at hm
              have hm := hm.2.1
              obtain ⟨l2, e⟩ := keep_ok e
              have h1 := HU.out y l2 e
              obtain ⟨l3, e, -⟩ := pair_ok e
              obtain ⟨l4, e⟩ := keep_ok e
              have h2 := HSN.out y.1 l4 e
              obtain ⟨h3, h64⟩ := HQ.out y.1 l4 e
              refine ⟨?_, by omega, by omega⟩
              unfold subJ
              rw [h1, h2, h3]
            · rw [HR3.out]
              refine subs_next (fun y l' e => ?_) HQ'.out
              have hm := P10.out.dt
              rw [e] at hm
              exact hm.1.wf
          case measure => rw [htk.out]; omega
        · have hU := hid (show ((min u 1048576 : Nat) : Int) = (u : Int) by omega)
          have hgt : ¬ (1048576 : Int) < (u : Int) := by omega
          have hwu : IntKind.i64.wrap (u : Int) = (u : Int) := IntWalk.i64_in _ (by omega)
          clear hbig
          go_wp2_with (first | (go_at_call 52; (first | ((with_reducible refine C6.out.mono ?_); rintro e w7 ⟨rfl, hT, hS⟩; have P7 := hid (P6.out.step any_stable hT hS); clear hT hS; obtain ⟨⟨d0, d1, d2, d3, d4, d5, d6, d7, d8⟩, df, dl⟩ := cells9 (P7.out.bx _ List.mem_cons_self).1))) | (go_at_call 103; (first | ((with_reducible refine C9.out.mono ?_); rintro e w10 ⟨rfl, hb⟩; have P10 := hid (P9.out.below any_stable hb); clear hb))) | (refine list_one rfl _ _ 68 rfl 201 i0 _ 2 24 Tryz.underlying68 hi0 hz0 hz1 hz2 rfl (by decide) (.slice va ss.length vc) ss.length (subCells ss) rfl (RowR.below P7.out.row (below_box w7 _)) _ _ [.string (bs s), .int .i64 (u : Int)] rfl rfl (heap_alloc_new w7 _) (fun u hu => by (simp only [List.mem_cons, List.mem_nil_iff, or_false] at hu; rcases hu with rfl | rfl <;> rfl)) (by unfold maxLen; omega) (by omega) ?_; intro v' w8 hown hgrow hat; have P8 := hid (P7.out.grow any_stable (.cells #[.string (bs s), .int .i64 (u : Int)] 201) hown hgrow hat); obtain ⟨va', vc', rfl⟩ := ownsRow_shape hown; have P9 : Hid (DP _ g _ _ _ _ _ _ _ _ [(w2.heap.size, #[.string ⟨#[]⟩, .int .i64 (-1), .int .i64 0, .string ⟨#[]⟩, .string ⟨#[]⟩, .int .i64 (-1), .int .i64 (z : Int), .bool li, .slice va' (ss.length + 1) vc'], 70), (w.heap.size, #[.string ⟨#[]⟩, .int .i64 0, .int .i64 0, .string ⟨#[]⟩, .string ⟨#[]⟩, .int .i64 0, .int .i64 0, .bool false, .slice none 0 0], 70)] _ _ _ _ _ _) := hid (P8.out.set any_stable (by simp; omega) (by decide : 8 < 9) (.slice va' (ss.length + 1) vc')); have C9 := hid (dnamed_dt _ P9.out.dt HQ'.out); clear d0 d1 d2 d3 d4 d5 d6 d7 d8 df dl; obtain ⟨⟨d0, d1, d2, d3, d4, d5, d6, d7, d8⟩, df, dl⟩ := cells9 (P8.out.bx _ List.mem_cons_self).1; clear hown hgrow hat))
          have htk2 := tokD_le P10.out.dt
          go_roundw
          case rel =>
            have hrow : (ss ++ [(s, min u 1048576)]).length = ss.length + 1 := by simp
            refine ⟨q', _, .slice va' (ss.length + 1) vc', ss ++ [(s, min u 1048576)], j, rfl, (P10.out.to fun h => (DT.map h subJ rfl fun _ _ _ => rfl).mono (by omega) (by omega) (by omega) (by omega) (by omega)).re hrow (by rw [subCells_snoc, hU.out]), by omega, ?_, hid ?_⟩
            · intro ss' l' e0
              have hm := P10.out.dt
              obtain ⟨y, e, rfl⟩ := map_ok e0
              rw [e] at hm
              have hm := hm.2.1
              obtain ⟨l2, e⟩ := keep_ok e
              have h1 := HU.out y l2 e
              obtain ⟨l3, e, -⟩ := pair_ok e
              obtain ⟨l4, e⟩ := keep_ok e
              have h2 := HSN.out y.1 l4 e
              obtain ⟨h3, h64⟩ := HQ.out y.1 l4 e
              refine ⟨?_, by omega, by omega⟩
              unfold subJ
              rw [h1, h2, h3]
            · rw [HR3.out]
              refine subs_next (fun y l' e => ?_) HQ'.out
              have hm := P10.out.dt
              rw [e] at hm
              exact hm.1.wf
          case measure => rw [htk.out]; omega
    · have HRx : Hid (R = rr.bind fun ss l1 => (need sRc l1).bind fun _ l => .ok ss l) := hid (by
        rw [HR2.out]
        cases rr with
        | bad l1 x => rfl
        | ok ss' l1 =>
          have : q = false := by cases q with
            | false => rfl
            | true => exact absurd ⟨rfl, ss', l1, rfl⟩ hgo
          subst this
          rfl)
      have hstop : q = false ∨ (q = true ∧ ((rr.err : Int) == 0) = false) := by
        cases q with
        | false => exact .inl rfl
        | true =>
          cases rr with
          | ok ss' l1 => exact absurd ⟨rfl, ss', l1, rfl⟩ hgo
          | bad l1 x => exact .inr ⟨rfl, hP.dt.err_eq⟩
      have HOK : Hid (∀ ss' l1, rr = .ok ss' l1 → ss = ss') := hid fun ss' l1 e => (hok ss' l1 e).1
      obtain ⟨i, nn, kk, cp, dd, -, -, -, q7, qf⟩ := hP.dt.cells
      have P1 := hid hP
      have C1 := hid (dtake_lit sRc (by decide) ⟨#[125]⟩ rfl _ P1.out.dt)
      clear hP hok HR2 hgo
      rcases hstop with rfl | ⟨rfl, hzz⟩
      all_goals
        go_wp2_with (first | (go_at_call 52; (first | ((with_reducible refine C1.out.mono ?_); rintro e w2 ⟨rfl, hT, hS⟩; have P2 := hid (P1.out.step any_stable hT hS); clear hT hS; clear q7 qf; obtain ⟨⟨d0, d1, d2, d3, d4, d5, d6, d7, d8⟩, df, dl⟩ := cells9 (P2.out.bx _ List.mem_cons_self).1; obtain ⟨⟨e0, e1, e2, e3, e4, e5, e6, e7, e8⟩, ef, el⟩ := cells9 (P2.out.bx _ (List.mem_cons_of_mem _ List.mem_cons_self)).1))))
        have P3 := P2.out.out9 any_stable (List.mem_cons_of_mem _ List.mem_cons_self) (.string ⟨#[]⟩) (.int .i64 (-1)) (.int .i64 0) (.string ⟨#[]⟩) (.string ⟨#[]⟩) (.int .i64 (-1)) (.int .i64 (z : Int)) (.bool li) (.slice va ss.length vc)
        refine bodyPost_ret (v := .agg #[.string ⟨#[]⟩, .int .i64 (-1), .int .i64 0, .string ⟨#[]⟩, .string ⟨#[]⟩, .int .i64 (-1), .int .i64 (z : Int), .bool li, .slice va ss.length vc]) (by simp [results, Tryz.results104, go_sem, e0, e1, e2, e3, e4, e5, e6, e7, e8]) rfl ⟨_, _, _, _, _, _, _, _, _, ⟨[], -1, 0, [], [], -1, z, li, ss⟩, rfl, ?_, ⟨_, rfl, P3.row, P3.nest hX0⟩, fun p l' e => ?_, P3.st⟩
        · refine (DT.map (P3.dt.weak fun k hk => .inl (.inl (.inl hk))) (fun ss => (a, IA.pack z li ss)) ?_ fun _ _ _ => rfl).mono (by omega) (by omega) (by omega) (by omega) (by omega)
          rw [PR.bind_ok]
          show (packP n l.tail).bind _ = _
          rw [HR.out, HRx.out]
          simp only [PR.bind_assoc, PR.bind_ok]
        · have e : (packP n l.tail).bind (fun y l => .ok (a, y) l) = .ok p l' := e
          rw [HR.out, HRx.out] at e
          cases rr with
          | bad l1 x => cases e
          | ok ss' l1 =>
            simp only [PR.bind_assoc, PR.bind_ok] at e
            cases hnd : need sRc l1 with
            | bad l2 x => rw [hnd] at e; cases e
            | ok u l2 =>
              rw [hnd] at e
              cases e
              rw [HOK.out ss' l1 rfl]
              rfl
theorem dpack_any {n : Nat} {β : Type} {a : β} {l : List Tok} {F : β → FM} {X : Nat → Prop} {g m b c d : Nat} (w : World) (h : DT X g m b c d w (.ok a l : PR β) F) (hpk : isT kPack l = true) (hn : m + 2 ≤ n) (hc8 : c ≤ 8000000) : Calls Tryz.prog 104 #[.pointer (some ⟨g, 0, none⟩)] w (PostI X g (m - 1) b c d w (.ok a l : PR β) F fun l => packP n l.tail) := by
  rcases hi : intW (hd l.tail).tk.t with _ | ⟨z, li⟩
  · exact dpack_none w h hpk hn hc8 hi
  · exact dpack_some w h hpk hn hc8 hi
end Go.Proofs.YthcdohggffpopaaGreatDoor
namespace Go.Proofs.YthcdohggffpopaaGreatDoor
open Go.Lib (hid)
open Go.ChangeShapes Go.WideShapes Go.ChangeAt Go.RowKit
def parsQ (j : Nat) (q : Bool) (ps : List (List UInt8)) (l : List Tok) : PR (List (List UInt8)) := if q = true then (if isName l = true then roomP ps.length l else .ok () l).bind fun _ l1 => (nameP l1).bind fun x l2 => paramsL j (ps ++ [x]) l2 else .ok ps l
theorem pars_step {j : Nat} {ps : List (List UInt8)} {l : List Tok} : paramsL (j + 1) ps l = if isT sComma l = true then parsQ j true ps l.tail else .ok ps l := by
  rw [paramsL]
  split
  · unfold parsQ
    rw [if_pos rfl]
    unfold expectP
    cases hn : isName l.tail
    · rw [if_neg (by decide), if_neg (by decide), PR.bind_ok]
      unfold nameP
      rw [if_neg (by rw [hn]; decide)]
      rfl
    · rw [if_pos rfl, if_pos rfl, PR.bind_ok]
  · rfl
theorem params_eq (n : Nat) (l : List Tok) : paramsP n l = (parsQ n true [] l).bind fun ps l2 => (need sRp l2).bind fun _ l3 => .ok ps l3 := by
  unfold paramsP parsQ
  rw [if_pos rfl]
  have e0 : (if isName l = true then roomP ([] : List (List UInt8)).length l else .ok () l) = .ok () l := by split <;> rfl
  rw [e0, PR.bind_ok, PR.bind_assoc]
  rfl
theorem pars_chain (j : Nat) (ps : List (List UInt8)) (l : List Tok) : parsQ j true ps l = ((((if isName l = true then roomP ps.length l else .ok () l).bind fun _ l => .ok ps l).bind fun a l => (nameP l).bind fun y l => .ok (a, y) l)).bind fun q l => paramsL j (q.1 ++ [q.2]) l := by
  unfold parsQ
  rw [if_pos rfl]
  simp only [PR.bind_assoc, PR.bind_ok]
theorem pars_no {j : Nat} {r : PR (List (List UInt8) × List UInt8)} (hq : isT sComma r.rest = false) : (r.bind fun q l => paramsL (j + 1) (q.1 ++ [q.2]) l) = (r.bind fun q l => .ok (q.1 ++ [q.2]) l).bind fun ps l => parsQ j false ps l := by
  cases r with
  | bad l x => rfl
  | ok q l =>
    rw [PR.bind_ok, PR.bind_ok, PR.bind_ok, pars_step, if_neg (by rw [show isT sComma l = false from hq]; decide)]
    rfl
theorem pars_yes {j : Nat} {r : PR (List (List UInt8) × List UInt8)} (hq : isT sComma r.rest = true) : (r.bind fun q l => paramsL (j + 1) (q.1 ++ [q.2]) l) = ((r.bind fun a l => (need sComma l).bind fun _ l => .ok a l).bind fun q l => .ok (q.1 ++ [q.2]) l).bind fun ps l => parsQ j true ps l := by
  cases r with
  | bad l x => rfl
  | ok q l =>
    have hq : isT sComma l = true := hq
    rw [PR.bind_ok, PR.bind_ok, pars_step, if_pos hq, need_yes hq]
    rfl
theorem items_no {j : Nat} {is : List IA} {l : List Tok} (hn : isName l = false) (hk : isT kPack l = false) : itemsL (j + 1) is l = (need sRc l).bind fun _ l1 => .ok is l1 := by
  rw [itemsL, hn, hk]
  unfold need
  split
  · rfl
  · rfl
theorem items_yes {j : Nat} {is : List IA} {l : List Tok} (hw : WF l) (h : isName l = true ∨ isT kPack l = true) : itemsL (j + 1) is l = (roomP is.length l).bind fun _ l1 => (itemP j l1).bind fun x l2 => itemsL j (is ++ [x]) l2 := by
  have hb : isT sRc l = false := by
    rcases h with h | h
    · exact name_brace hw h
    · have := of_decide_eq_true h
      unfold isT
      rw [this]
      decide
  have he : (isName l || isT kPack l) = true := by rcases h with h | h <;> rw [h] <;> simp
  rw [itemsL, if_neg (by rw [hb]; decide), he]
  unfold expectP
  rw [if_pos rfl, PR.bind_ok]
  exact bind_same rfl fun _ l1 e => by
    obtain ⟨rfl, _⟩ := room_same e
    rfl
theorem info_ditem : (Tryz.prog.info? 70).map (fun i => (i.zero, i.size, i.bytes)) = some (some (.agg #[.string ⟨#[]⟩, .int .i64 0, .int .i64 0, .string ⟨#[]⟩, .string ⟨#[]⟩, .int .i64 0, .int .i64 0, .bool false, .slice none 0 0]), 9, 112) := by kernel_rfl
def strCells (l : List (List UInt8)) : List Value := l.map fun s => Value.string (bs s)
theorem strCells_snoc (l : List (List UInt8)) (s : List UInt8) : strCells (l ++ [s]) = strCells l ++ [Value.string (bs s)] := by unfold strCells; rw [List.map_append]; rfl
def QI (v1 : Value) (ps : List (List UInt8)) (cs : List (List Value)) (is : List IM) (P : Nat → Prop) (w : World) : Prop := w.ownsRow 0 9 1 v1 ps.length (strCells ps) ∧ Nest P v1 ∧ ∀ (i : Nat) c y, cs[i]? = some c → is[i]? = some y → Irep layD P w c y
theorem QI.stable (v1 : Value) (ps : List (List UInt8)) (cs : List (List Value)) (is : List IM) : Stable (QI v1 ps cs is) := fun P P' w w' ⟨h1, h2, h3⟩ hs =>
  ⟨ownsRow_same h1 fun i hi => (hs i (h2 i hi)).1, h2.stay hs, fun i c y hc hy => (Irep.kept layD) P P' w w' c y (h3 i c y hc hy) hs⟩
theorem QI.snoc {v1 : Value} {ps : List (List UInt8)} {cs : List (List Value)} {is : List IM} {P : Nat → Prop} {w : World} (h : QI v1 ps cs is P w) (hl : cs.length = is.length) {c : List Value} {y : IM} (hc : Irep layD P w c y) : QI v1 ps (cs ++ [c]) (is ++ [y]) P w := by
  refine ⟨h.1, h.2.1, fun i a x ha hx => ?_⟩
  by_cases hi : i < cs.length
  · rw [List.getElem?_append_left hi] at ha
    rw [List.getElem?_append_left (by omega)] at hx
    exact h.2.2 i a x ha hx
  · rw [List.getElem?_append_right (by omega)] at ha
    rw [List.getElem?_append_right (by omega)] at hx
    rw [List.getElem?_singleton] at ha hx
    split at ha
    · rename_i h0
      rw [if_pos (by omega)] at hx
      cases ha
      cases hx
      exact hc
    · cases ha
section
variable {β : Type} {X : Nat → Prop} {g m b c d : Nat} {W w : World} {r : PR β} {F : β → FM} {B : List (Nat × Array Value × TypeId)} {E : TypeId} {z : Nat} {v : Value} {n : Nat} {xs : List Value} {Q : (Nat → Prop) → World → Prop}
theorem DP.drop {k : Nat} {cs : Array Value} {T : TypeId} (h : DP (wth X k) g m b c d W w r F ((k, cs, T) :: B) E z v n xs Q) (hQ : Stable Q) (hB : ∀ p ∈ B, X p.1) : DP X g m b c d W w r F B E z v n xs Q :=
  ⟨h.dt.weak fun i hi => hi.elim (fun e => .inl (.inl e)) .inr, fun p hp => ⟨(h.bx p (List.mem_cons_of_mem _ hp)).1, hB p hp, (h.bx p (List.mem_cons_of_mem _ hp)).2.2⟩, h.row, h.vlo, h.st, hQ _ _ _ _ h.q fun i hi => ⟨rfl, hi.1, fun e => hi.2 (e.elim (fun e => .inl (.inl e)) .inr)⟩, h.gW⟩
theorem Irep.one {L : Lay} {P : Nat → Prop} {w : World} {cs : List Value} {y : IM} (h : Irep L P w cs y) : ∀ u ∈ cs, u.oneCell' = true := by
  obtain ⟨sv, rfl, ⟨_, hk⟩, _⟩ := h
  intro u hu
  simp only [List.mem_cons, List.mem_nil_iff, or_false] at hu
  rcases hu with rfl | rfl | rfl | rfl | rfl | rfl | rfl | rfl | rfl
  · rfl
  · rfl
  · rfl
  · rfl
  · rfl
  · rfl
  · rfl
  · rfl
  · rcases hk with ⟨rfl, _⟩ | ⟨_, _, _, rfl, _⟩ <;> rfl
end
theorem at_list {P : Program} {w : World} {ops : Array Oper} {rest : List Oper} {o : Oper} {a : Act} {Q : Exit → Act → World → Prop} (h : wpList P ops Q (o :: rest) a w) : wpList P ops Q (o :: rest) a w := h
theorem size_ditem : (Tryz.prog.info? 70).map (·.size) = some 9 := by kernel_rfl
theorem fill9_one (c0 c1 c2 c3 c4 c5 c6 c7 c8 : Value) : Instr.fill (fun i => some (i * 9, 9)) ((Array.range (1 * 9)).map ((Value.agg #[.string ⟨#[]⟩, .int .i64 0, .int .i64 0, .string ⟨#[]⟩, .string ⟨#[]⟩, .int .i64 0, .int .i64 0, .bool false, .slice none 0 0]).cells[· % (Value.agg #[.string ⟨#[]⟩, .int .i64 0, .int .i64 0, .string ⟨#[]⟩, .string ⟨#[]⟩, .int .i64 0, .int .i64 0, .bool false, .slice none 0 0]).cells.size]!)) [(0, Value.agg #[c0, c1, c2, c3, c4, c5, c6, c7, c8])] = some #[c0, c1, c2, c3, c4, c5, c6, c7, c8] := by kernel_rfl
def FrameH (w w' : World) : Prop := ∃ h, w' = { w with heap := h }
theorem FrameH.set {w w' : World} (h : FrameH w w') (a : Addr) (v : Value) : FrameH w (w'.setCell a v) := by
  obtain ⟨h, rfl⟩ := h
  exact ⟨_, rfl⟩
theorem FrameH.eq {w w1 w2 : World} (h1 : FrameH w w1) (h2 : FrameH w w2) (h : w1.heap = w2.heap) : w1 = w2 := by
  obtain ⟨x, rfl⟩ := h1
  obtain ⟨y, rfl⟩ := h2
  have h : x = y := h
  rw [h]
theorem row_one {l : List Value} (h : ∀ u ∈ l, u.oneCell' = true) : l.toArray.all (fun v => v.oneCell') = true := by
  rw [← Array.all_toList]
  exact List.all_eq_true.2 h
theorem row9 {w : World} {k : Nat} {T : TypeId} {z0 z1 z2 z3 z4 z5 z6 z7 z8 : Value} (hg : w.heap[k]? = some (.cells #[z0, z1, z2, z3, z4, z5, z6, z7, z8] T (0, 0))) (c0 c1 c2 c3 c4 c5 c6 c7 c8 : Value) :
    w.setRow k #[c0, c1, c2, c3, c4, c5, c6, c7, c8] = Go.Proofs.YthcdohggffpopaaGreatDoor.set9 w k c0 c1 c2 c3 c4 c5 c6 c7 c8 := by
  have hh : (w.setRow k #[c0, c1, c2, c3, c4, c5, c6, c7, c8]).heap = (Go.Proofs.YthcdohggffpopaaGreatDoor.set9 w k c0 c1 c2 c3 c4 c5 c6 c7 c8).heap := by
    refine Array.ext_getElem? fun i => ?_
    by_cases hi : i = k
    · subst hi
      rw [setRow_heap _ _ _ _ _ _ hg]
      have h0 := cell_set_row hg (j := 0) (by decide : 0 < 9) c0
      have h1 := cell_set_row h0 (j := 1) (by decide : 1 < 9) c1
      have h2 := cell_set_row h1 (j := 2) (by decide : 2 < 9) c2
      have h3 := cell_set_row h2 (j := 3) (by decide : 3 < 9) c3
      have h4 := cell_set_row h3 (j := 4) (by decide : 4 < 9) c4
      have h5 := cell_set_row h4 (j := 5) (by decide : 5 < 9) c5
      have h6 := cell_set_row h5 (j := 6) (by decide : 6 < 9) c6
      have h7 := cell_set_row h6 (j := 7) (by decide : 7 < 9) c7
      have h8 := cell_set_row h7 (j := 8) (by decide : 8 < 9) c8
      exact h8.symm
    · rw [setRow_other _ _ _ _ hi]
      unfold Go.Proofs.YthcdohggffpopaaGreatDoor.set9
      rw [Below.heap_setCell _ _ _ _ hi]
      exact (heap_set8 hi c0 c1 c2 c3 c4 c5 c6 c7).symm
  have f0 : FrameH w w := ⟨w.heap, rfl⟩
  have f9 : FrameH w (Go.Proofs.YthcdohggffpopaaGreatDoor.set9 w k c0 c1 c2 c3 c4 c5 c6 c7 c8) := ((((((((f0.set _ _).set _ _).set _ _).set _ _).set _ _).set _ _).set _ _).set _ _).set _ _
  exact FrameH.eq ⟨_, rfl⟩ f9 hh
theorem ditem_field {n : Nat} {β : Type} {r : PR β} {F : β → FM} {X : Nat → Prop} {g m b c : Nat} (w : World) (h : DT X g m b c 0 w r F) (hn : 8 * m + 4 ≤ n) (hbc : b + 16 * n + 16 ≤ c) (hc8 : c ≤ 8000000) : Calls Tryz.prog 105 #[.pointer (some ⟨g, 0, none⟩)] w (PostI X g (m - 1) b c 0 w r F (fieldP n)) := by
  cases r with
  | ok a l => exact dfield_any w h hn hbc hc8
  | bad l x => exact dfield_off (n := n) w (DT.bad_any (m' := m - 1) (b' := b) h)
theorem ditem_pack {n : Nat} {β : Type} {r : PR β} {F : β → FM} {X : Nat → Prop} {g m b c : Nat} (w : World) (h : DT X g m b c 0 w r F) (hpk : isT kPack r.rest = true) (hn : m + 2 ≤ n) (hc8 : c ≤ 8000000) : Calls Tryz.prog 104 #[.pointer (some ⟨g, 0, none⟩)] w (PostI X g (m - 1) b c 0 w r F fun l => packP n l.tail) := by
  cases r with
  | ok a l => exact dpack_any w h hpk hn hc8
  | bad l x => exact dpack_bad w (DT.bad_any (m' := m - 1) (b' := b) h) hpk
theorem room_rest {β : Type} {k : Nat} {a : β} {l : List Tok} : ((.ok a l : PR β).bind fun a l => (roomP k l).bind fun _ l => .ok a l).rest = l := by
  rw [PR.bind_ok]; unfold roomP; split <;> rfl
theorem room_ok {β : Type} {k : Nat} {a a' : β} {l l' : List Tok} (h : ((.ok a l : PR β).bind fun a l => (roomP k l).bind fun _ l => .ok a l) = .ok a' l') : a' = a ∧ l' = l ∧ k < 64 := by
  rw [PR.bind_ok] at h
  unfold roomP at h
  split at h
  · cases h
  · cases h; exact ⟨rfl, rfl, by omega⟩
def PostS {β : Type} (X : Nat → Prop) (g m b c d : Nat) (w : World) (r : PR β) (F : β → FM) (P : List Tok → PR SA) (e : Ending) (w' : World) : Prop :=
  ∃ (c0 c1 c2 : Value) (y : SM), e = .returned (.agg #[c0, c1, c2]) ∧ DT X g m b c d w' (r.bind fun a l => (P l).bind fun y l => .ok (a, y) l) (fun p => (F p.1).setG (putS p.2 (F p.1).g).1) ∧ Srep layD (Pub X layD g w') w' [c0, c1, c2] y ∧
    (∀ p l, (r.bind fun a l => (P l).bind fun y l => .ok (a, y) l) = .ok p l → y = (putS p.2 (F p.1).g).2) ∧ St layD g w w'
end Go.Proofs.YthcdohggffpopaaGreatDoor
