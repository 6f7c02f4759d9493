/- Layer 7: the document's parser: switches. -/
import Derived.Test.YthcdohggffpopaaGreatDoorC1DocH
namespace Go.Proofs.YthcdohggffpopaaGreatDoor
open Go.Lib (hid)
open Go.ChangeShapes Go.WideShapes Go.ChangeAt Go.RowKit
def swEnd (n d : Nat) (e : EA) (cs : TA) (l : List Tok) : PR TA := if isT kElse l = true then (branchP n d l.tail).bind fun t l6 => (need sRc l6).bind fun _ l7 => .ok (.sw e cs t) l7 else (need sRc l).bind fun _ l7 => .ok (.sw e cs .nil) l7
theorem need_yes {t : List UInt8} {l : List Tok} (h : isT t l = true) : need t l = .ok () l.tail := by unfold need; rw [if_pos h]
theorem cases_no {j d k : Nat} {cs : TA} {l : List Tok} (hj : 1 ≤ j) (h : isT kCase l = false) : casesL j d k cs l = .ok cs l := by
  obtain ⟨j, rfl⟩ : ∃ j', j = j' + 1 := ⟨j - 1, by omega⟩
  rw [casesL, if_neg (by rw [h]; decide)]
theorem case_step {γ : Type} (j d k : Nat) (p : EA × TA) (l : List Tok) (hc : isT kCase l = true) (K : EA → TA → List Tok → PR γ) :
    (casesL (j + 2) d k p.2 l).bind (fun cs l5 => K p.1 cs l5) = ((((((((.ok p l : PR (EA × TA)).bind fun a l => (roomP k l).bind fun _ l => .ok a l).bind fun a l => (need kCase l).bind fun _ l => .ok a l).bind fun a l => (numP l).bind fun y l => .ok (a, y) l).bind fun a l => (need sColon l).bind fun _ l => .ok a l).bind fun a l => (innerP j d l).bind fun y l => .ok (a, y) l).bind fun a l => (need sSemi l).bind fun _ l => .ok a l).bind fun q l => .ok (q.1.1.1, TA.snoc q.1.1.2 q.1.2 q.2) l).bind fun q l5 => (casesL (j + 1) d (k + 1) q.2 l5).bind fun cs l6 => K q.1 cs l6 := by
  rw [casesL, if_pos hc]
  simp only [PR.bind_assoc, PR.bind_ok]
  refine bind_same rfl fun _ l1 e => ?_
  obtain ⟨rfl, _⟩ := room_same e
  rw [need_yes hc, PR.bind_ok]
  refine bind_same rfl fun v l2 e => ?_
  rw [branchP]
  simp only [PR.bind_assoc, PR.bind_ok]
theorem info_dcase : (Tryz.prog.info? 168).map (fun i => (i.zero, i.size, i.bytes)) = some (some (.agg #[.int .u64 0, .int .i64 0]), 2, 16) := by kernel_rfl
theorem inner_nil {n d : Nat} {l l' : List Tok} {t : TA} (h : innerP n d l = .ok t l') : t.isNil = false := by
  cases n with
  | zero => rw [innerP] at h; cases h
  | succ n => rw [innerP] at h; exact bind_nil h fun _ l1 h => typ_nil h
def DS (n : Nat) : Prop := ∀ (β : Type) (a : β) (l : List Tok) (F : β → FM) (X : Nat → Prop) (g m b c d : Nat) (w : World), DT X g m b c d w (.ok a l : PR β) F → 8 * m + 11 ≤ n → b + 16 * n + 8 ≤ c → c ≤ 8000000 →
  Calls Tryz.prog 199 #[.pointer (some ⟨g, 0, none⟩)] w (PostY X g (m - 1) b c d w (.ok a l : PR β) F (switchP n d))
def caseCells (ks : List (Nat × Nat)) : List Value := ks.flatMap fun c => [Value.int .u64 (c.1 : Int), Value.int .i64 (c.2 : Int)]
theorem caseCells_snoc (ks : List (Nat × Nat)) (s k : Nat) : caseCells (ks ++ [(s, k)]) = caseCells ks ++ [Value.int .u64 (s : Int), Value.int .i64 (k : Int)] := by unfold caseCells; rw [List.flatMap_append]; rfl
set_option maxHeartbeats 4000000 in
set_option maxRecDepth 100000 in
theorem dchoice_step {n : Nat} (IN : ∀ j, j ≤ n → DN j) : DS (n + 2) := by
  intro β a l F X g m b c d w h hn hbc hc8
  have hg := h.lt
  have hX0 : ∀ k, X k → k < w.heap.size := fun k hk => (h.out hk).lt
  obtain ⟨hD, hlm, hd32, hbc', hc9⟩ := h
  have hw := hD.wf
  have hp := hw.pos
  have hb3 : 3 ≤ b := by have := hD.pot; omega
  have P1 := hid ((DT.ok hD hd32 hlm (show b ≤ c - 1 by omega) (by omega)).start #[.int .i64 9, .int .i64 0, .bool false, .string ⟨#[]⟩, .slice none 0 0, .int .i64 0, .int .i64 (-1), .slice none 0 0] 149 168 2 (by decide))
  obtain ⟨R, hR⟩ : ∃ R, switchP (n + 2) d l = R := ⟨_, rfl⟩
  have HA := hid hR.symm
  have HRR : Hid (PostY X g (m - 1) b c d w (.ok a l : PR β) F (switchP (n + 2) d) = PostY X g (m - 1) b c d w (.ok a l : PR β) F (fun _ => R)) := hid (by
    unfold PostY
    simp only [PR.bind_ok, hR])
  rw [HRR.out]
  clear HRR hR hD
  have HIN := hid IN
  clear IN
  have C1 := hid (dtake_lit sLp (by decide) ⟨#[40]⟩ rfl _ P1.out.dt)
  go_enter Tryz.func199, Tryz.ntmps199
  go_wp2_with (first | (go_at_call 52; (first | ((with_reducible refine C1.out.mono ?_); rintro e w2 ⟨rfl, hT, hS⟩; have P2 := hid (P1.out.step any_stable hT hS); clear hT hS; have C2 := hid (dexpr_any (n + 1) _ _ _ _ _ _ _ _ _ _ P2.out.dt (by omega) (by omega) (by omega))) | ((with_reducible refine C4.out.mono ?_); rintro e w5 ⟨rfl, hT, hS⟩; have P5 := hid (P4.out.step any_stable hT hS); clear hT hS; clear d0 d1 d2 d3 d4 d5 d6 d7 df dl; have C5 := hid (dtake_lit sLc (by decide) ⟨#[123]⟩ rfl _ P5.out.dt)) | ((with_reducible refine C5.out.mono ?_); rintro e w6 ⟨rfl, hT, hS⟩; have P6 := hid (P5.out.step any_stable hT hS); clear hT hS))) | (go_at_call 155; (first | (refine C2.out.mono ?_; rintro e w3 ⟨kx, rfl, hT, hk, hS⟩; have HKX := hid hk; clear hk; have P3 := hid (P2.out.step any_stable hT hS); clear hT hS; obtain ⟨⟨d0, d1, d2, d3, d4, d5, d6, d7⟩, df, dl⟩ := cells8 (P3.out.bx _ List.mem_cons_self).1; have P4 : Hid (DP _ g _ _ _ _ _ _ _ _ [(w.heap.size, #[.int .i64 9, .int .i64 0, .bool false, .string ⟨#[]⟩, .slice none 0 0, .int .i64 (kx : Int), .int .i64 (-1), .slice none 0 0], 149)] _ _ _ _ _ _) := hid (P3.out.set any_stable (by simp) (by decide : 5 < 8) (.int .i64 (kx : Int))); have C4 := hid (dtake_lit sRp (by decide) ⟨#[41]⟩ rfl _ P4.out.dt)))))
  have hlt : 1 ≤ m := by omega
  go_loopw [4] (fun s4 wr => ∃ (rr : PR (EA × TA)) (v : Value) (ks : List (Nat × Nat)) (j : Nat), DP (wth X w.heap.size) g (m - 1) (b - 3) (c - 1) d w wr rr (fun p => (F a).setG (putT p.2 (putE p.1 (F a).g)).1) [(w.heap.size, #[.int .i64 9, .int .i64 0, .bool false, .string ⟨#[]⟩, .slice none 0 0, .int .i64 (kx : Int), .int .i64 (-1), v], 149)] 168 2 v ks.length (caseCells ks) Any ∧ ks.length ≤ 65 ∧ (∀ p l1, rr = .ok p l1 → kx = (putE p.1 (F a).g).x ∧ ks = (putT p.2 (putE p.1 (F a).g)).2 ∧ ks.length ≤ 64 ∧ 8 * l1.length + 11 ≤ j) ∧ j ≤ n + 1 ∧ Hid (R = rr.bind fun p l1 => (casesL j d ks.length p.2 l1).bind fun cs l5 => swEnd (n + 1) d p.1 cs l5)) (fun _ wr => tokD g wr)
  case atStart =>
    refine ⟨_, .slice none 0 0, [], n + 1, P6.out.to fun h => (DT.map h (fun p => (p.2, TA.nil)) rfl fun _ _ _ => rfl).mono (by omega) (by omega) (by omega) (by omega) (by omega), by simp, ?_, Nat.le_refl _, hid ?_⟩
    · intro p l1 e0
      have hm := P6.out.dt
      obtain ⟨q, e, rfl⟩ := map_ok e0
      rw [e] at hm
      have hm := hm.2.1
      obtain ⟨l2, e⟩ := keep_ok e
      obtain ⟨l3, e⟩ := keep_ok e
      exact ⟨HKX.out q l3 e, rfl, by simp, by omega⟩
    · rw [HA.out, switchP]
      simp only [PR.bind_assoc, PR.bind_ok]
      rfl
  case round =>
    obtain ⟨rr, v, ks, j, hP, hks, hok, hj, HR⟩ := hrel
    obtain ⟨va, vc, rfl⟩ := ownsRow_shape hP.row
    clear P1 P2 P3 P4 P5 P6 C1 C2 C4 C5 HA HKX
    obtain ⟨i0, hi, hz0, hz1, hz2⟩ := info_parts info_dcase
    by_cases hgo : ∃ p l1, rr = .ok p l1 ∧ isT kCase l1 = true
    · obtain ⟨p, l1, rfl, hc⟩ := hgo
      obtain ⟨hkx, hks2, hkl, hjl⟩ := hok p l1 rfl
      have hp1 := hP.dt.1.wf.pos
      have hlm1 := hP.dt.2.1
      have htk := hid (tokD_ok hP.dt)
      have P1 := hid (hP.to DT.again)
      obtain ⟨j, rfl⟩ : ∃ j', j = j' + 2 := ⟨j - 2, by omega⟩
      have HKS := hid hks2
      have HKX := hid hkx
      have HR2 := hid (HR.out.trans (case_step j d ks.length p l1 hc (swEnd (n + 1) d)))
      have C1 := hid (dis_lit kCase (by decide) ⟨#[99, 97, 115, 101]⟩ rfl _ P1.out.dt hc)
      obtain ⟨i_, nn_, kk_, cp_, dd_, -, -, -, q7, qf⟩ := P1.out.dt.cells; simp only [PR.err] at q7
      clear hP hok hks2 hkx HR hc
      go_wp2_with (first | (go_at_call 50; (first | ((with_reducible refine C1.out.mono ?_); rintro e w2 ⟨rfl, hb⟩; have P2 := hid (P1.out.below any_stable hb); clear hb; clear q7 qf; obtain ⟨⟨d0, d1, d2, d3, d4, d5, d6, d7⟩, df, dl⟩ := cells8 (P2.out.bx _ List.mem_cons_self).1; have C2 := hid (droom_any ks.length _ P2.out.dt)))) | (go_at_call 51; (first | ((with_reducible refine C2.out.mono ?_); rintro e w3 ⟨rfl, hT, hS⟩; have P3 := hid (P2.out.step any_stable hT hS); clear hT hS; clear d0 d1 d2 d3 d4 d5 d6 d7 df dl; have C3 := hid (dtake_lit kCase (by decide) ⟨#[99, 97, 115, 101]⟩ rfl _ P3.out.dt)))) | (go_at_call 52; (first | ((with_reducible refine C3.out.mono ?_); rintro e w4 ⟨rfl, hT, hS⟩; have P4 := hid (P3.out.step any_stable hT hS); clear hT hS; have C4 := hid (dnum_any _ P4.out.dt)) | ((with_reducible refine C5.out.mono ?_); rintro e w6 ⟨rfl, hT, hS⟩; have P6 := hid (P5.out.step any_stable hT hS); clear hT hS; have C6 := hid (HIN.out j (by omega) _ _ _ _ _ _ _ _ _ _ P6.out.dt (by omega) (by omega) (by omega))) | ((with_reducible refine C7.out.mono ?_); rintro e w8 ⟨rfl, hT, hS⟩; have P8 := hid (P7.out.step any_stable hT hS); clear hT hS; obtain ⟨⟨d0, d1, d2, d3, d4, d5, d6, d7⟩, df, dl⟩ := cells8 (P8.out.bx _ List.mem_cons_self).1))) | (go_at_call 54; (first | ((with_reducible refine C4.out.mono ?_); rintro e w5 ⟨s, rfl, hT, hs, hS⟩; have HS := hid hs; clear hs; have P5 := hid (P4.out.step any_stable hT hS); clear hT hS; have C5 := hid (dtake_lit sColon (by decide) ⟨#[58]⟩ rfl _ P5.out.dt)))) | (go_at_call 197; (first | ((with_reducible refine C6.out.mono ?_); rintro e w7 ⟨kt, rfl, hT, hk, hS⟩; have HK := hid hk; clear hk; have P7 := hid (P6.out.step any_stable hT hS); clear hT hS; have C7 := hid (dtake_lit sSemi (by decide) ⟨#[59]⟩ rfl _ P7.out.dt)))) | (refine list_one rfl _ _ 147 rfl 168 i0 _ 2 16 Tryz.underlying147 hi hz0 hz1 hz2 rfl (by decide) (.slice va ks.length vc) ks.length (caseCells ks) rfl (RowR.below P8.out.row (below_box w8 _)) _ _ [.int .u64 (s : Int), .int .i64 (kt : Int)] rfl rfl (heap_alloc_new w8 _) (fun u hu => by (simp only [List.mem_cons, List.mem_nil_iff, or_false] at hu; rcases hu with rfl | rfl <;> rfl)) (by unfold maxLen; omega) (by omega) ?_; intro v' w9 hown hgrow hat; have P9 := hid (P8.out.grow any_stable (.cells #[.int .u64 (s : Int), .int .i64 (kt : Int)] 168) hown hgrow hat); obtain ⟨va', vc', rfl⟩ := ownsRow_shape hown; have P10 : Hid (DP _ g _ _ _ _ _ _ _ _ [(w.heap.size, #[.int .i64 9, .int .i64 0, .bool false, .string ⟨#[]⟩, .slice none 0 0, .int .i64 (kx : Int), .int .i64 (-1), .slice va' (ks.length + 1) vc'], 149)] _ _ _ _ _ _) := hid (P9.out.set any_stable (by simp) (by decide : 7 < 8) (.slice va' (ks.length + 1) vc')); clear d0 d1 d2 d3 d4 d5 d6 d7 df dl; obtain ⟨⟨d0, d1, d2, d3, d4, d5, d6, d7⟩, df, dl⟩ := cells8 (P9.out.bx _ List.mem_cons_self).1; clear hown hgrow hat))
      have htk2 := tokD_le P10.out.dt
      go_roundw
      case rel =>
        have hrow : (ks ++ [(s, kt)]).length = ks.length + 1 := by simp
        refine ⟨_, .slice va' (ks.length + 1) vc', ks ++ [(s, kt)], j + 1, (P10.out.to fun h => (DT.map h (fun q => (q.1.1.1, TA.snoc q.1.1.2 q.1.2 q.2)) rfl fun _ _ _ => rfl).mono (by omega) (by omega) (by omega) (by omega) (by omega)).re hrow (caseCells_snoc _ _ _), by omega, ?_, by omega, hid ?_⟩
        · intro p' l' e0
          have hm := P10.out.dt
          obtain ⟨q, e, rfl⟩ := map_ok e0
          rw [e] at hm
          have hm := hm.2.1
          obtain ⟨l2, e⟩ := keep_ok e
          have hk := HK.out q l2 e
          obtain ⟨l3, e, -⟩ := pair_ok e
          obtain ⟨l4, e⟩ := keep_ok e
          have hs := HS.out q.1 l4 e
          obtain ⟨l5, e, -⟩ := pair_ok e
          obtain ⟨l6, e⟩ := keep_ok e
          rw [PR.bind_ok] at e
          obtain ⟨q1, q2⟩ := q
          obtain ⟨q0, q1⟩ := q1
          cases hr : roomP ks.length l1 with
          | bad l7 x => rw [hr] at e; cases e
          | ok u l7 =>
            obtain ⟨rfl, h64⟩ := room_same hr
            rw [hr] at e
            cases e
            refine ⟨HKX.out, ?_, by omega, by omega⟩
            rw [hk, hs, HKS.out]
            rfl
        · rw [HR2.out, hrow]
      case measure => rw [htk.out]; omega
    · have hj1 : 1 ≤ j ∨ ∃ l x, rr = .bad l x := by
        cases rr with
        | bad l x => exact .inr ⟨_, _, rfl⟩
        | ok p l1 => exact .inl (by have := (hok p l1 rfl).2.2.2; omega)
      have HR2 : Hid (R = rr.bind fun p l5 => swEnd (n + 1) d p.1 p.2 l5) := hid (by
        rw [HR.out]
        cases rr with
        | bad l x => rfl
        | ok p l1 =>
          rw [PR.bind_ok, PR.bind_ok, cases_no (by have := (hok p l1 rfl).2.2.2; omega) (by rw [← Bool.not_eq_true]; exact fun e => hgo ⟨p, l1, rfl, e⟩), PR.bind_ok])
      have HOK : Hid (∀ p l1, rr = .ok p l1 → kx = (putE p.1 (F a).g).x ∧ ks = (putT p.2 (putE p.1 (F a).g)).2) := hid fun p l1 e => ⟨(hok p l1 e).1, (hok p l1 e).2.1⟩
      clear hok HR hj1
      by_cases hel : ∃ p l1, rr = .ok p l1 ∧ isT kElse l1 = true
      · obtain ⟨p, l1, rfl, hl⟩ := hel
        have hcn : isT kCase l1 = false := by rw [← Bool.not_eq_true]; exact fun e => hgo ⟨p, l1, rfl, e⟩
        have hp1 := hP.dt.1.wf.pos
        have hlm1 := hP.dt.2.1
        have HR3 : Hid (R = (((((((.ok p l1 : PR (EA × TA)).bind fun a l => (need kElse l).bind fun _ l => .ok a l).bind fun a l => (need sColon l).bind fun _ l => .ok a l).bind fun a l => (innerP n d l).bind fun y l => .ok (a, y) l).bind fun a l => (need sSemi l).bind fun _ l => .ok a l).bind fun a l => (need sRc l).bind fun _ l => .ok a l).bind fun q l => .ok (TA.sw q.1.1 q.1.2 q.2) l)) := hid (by
          rw [HR2.out, PR.bind_ok]
          unfold swEnd
          rw [if_pos hl, branchP]
          simp only [PR.bind_assoc, PR.bind_ok]
          rw [need_yes hl, PR.bind_ok])
        obtain ⟨hkx, hks2⟩ := HOK.out p l1 rfl
        have HKS := hid hks2
        have HKX := hid hkx
        have P1 := hid hP
        have C1 := hid (dis_lit kCase (by decide) ⟨#[99, 97, 115, 101]⟩ rfl _ P1.out.dt hcn)
        obtain ⟨i_, nn_, kk_, cp_, dd_, -, -, -, q7, qf⟩ := P1.out.dt.cells; simp only [PR.err] at q7
        clear hP hks2 hkx HOK HR2 hgo hcn
        go_wp2_with (first | (go_at_call 50; (first | ((with_reducible refine C1.out.mono ?_); rintro e w2 ⟨rfl, hb⟩; have P2 := hid (P1.out.below any_stable hb); clear hb; have C2 := hid (dis_lit kElse (by decide) ⟨#[101, 108, 115, 101]⟩ rfl _ P2.out.dt hl)) | ((with_reducible refine C2.out.mono ?_); rintro e w3 ⟨rfl, hb⟩; have P3 := hid (P2.out.below any_stable hb); clear hb; clear q7 qf; obtain ⟨i_, nn_, kk_, cp_, dd_, -, -, -, q7, qf⟩ := P3.out.dt.cells; simp only [PR.err] at q7; have C3 := hid (dtake_lit kElse (by decide) ⟨#[101, 108, 115, 101]⟩ rfl _ P3.out.dt)))) | (go_at_call 52; (first | ((with_reducible refine C3.out.mono ?_); rintro e w4 ⟨rfl, hT, hS⟩; have P4 := hid (P3.out.step any_stable hT hS); clear hT hS; clear q7 qf; have C4 := hid (dtake_lit sColon (by decide) ⟨#[58]⟩ rfl _ P4.out.dt)) | ((with_reducible refine C4.out.mono ?_); rintro e w5 ⟨rfl, hT, hS⟩; have P5 := hid (P4.out.step any_stable hT hS); clear hT hS; have C5 := hid (HIN.out n (Nat.le_refl _) _ _ _ _ _ _ _ _ _ _ P5.out.dt (by omega) (by omega) (by omega))) | ((with_reducible refine C7.out.mono ?_); rintro e w8 ⟨rfl, hT, hS⟩; have P8 := hid (P7.out.step any_stable hT hS); clear hT hS; clear d0 d1 d2 d3 d4 d5 d6 d7 df dl; have C8 := hid (dtake_lit sRc (by decide) ⟨#[125]⟩ rfl _ P8.out.dt)) | ((with_reducible refine C8.out.mono ?_); rintro e w9 ⟨rfl, hT, hS⟩; have P9 := hid (P8.out.step any_stable hT hS); clear hT hS; obtain ⟨⟨d0, d1, d2, d3, d4, d5, d6, d7⟩, df, dl⟩ := cells8 (P9.out.bx _ List.mem_cons_self).1; have C9 := hid (dlay_dt ⟨9, 0, false, [], [], (kx : Int), (kt : Int), ks⟩ _ _ _ _ _ _ _ _ _ (P9.out.dt.bareV.bare) (by omega) ⟨.slice none 0 0, .slice va ks.length vc, rfl, World.ownsRow_nil _ _ _ _, Nest.none _ _ _, P9.out.row, P9.out.nest hX0⟩)))) | (go_at_call 197; (first | ((with_reducible refine C5.out.mono ?_); rintro e w6 ⟨kt, rfl, hT, hk, hS⟩; have HK := hid hk; clear hk; have P6 := hid (P5.out.step any_stable hT hS); clear hT hS; obtain ⟨⟨d0, d1, d2, d3, d4, d5, d6, d7⟩, df, dl⟩ := cells8 (P6.out.bx _ List.mem_cons_self).1; have P7 : Hid (DP _ g _ _ _ _ _ _ _ _ [(w.heap.size, #[.int .i64 9, .int .i64 0, .bool false, .string ⟨#[]⟩, .slice none 0 0, .int .i64 (kx : Int), .int .i64 (kt : Int), .slice va ks.length vc], 149)] _ _ _ _ _ _) := hid (P6.out.set any_stable (by simp) (by decide : 6 < 8) (.int .i64 (kt : Int))); have C7 := hid (dtake_lit sSemi (by decide) ⟨#[59]⟩ rfl _ P7.out.dt)))) | (go_at_call 198; (first | (refine C9.out.mono ?_; rintro e w10 ⟨k6, rfl, hT, hk, hS⟩))))
        go_ret
        refine PostY.of hT (fun q => (a, TA.sw q.1.1 q.1.2 q.2)) ?_ (fun q l' e => ?_) (by omega) (by omega) (by omega) (by omega) (by omega) (P9.out.st.trans hS)
        · rw [PR.bind_ok, HR3.out]
          simp only [PR.bind_assoc, PR.bind_ok]
        · rw [hk q l' e]
          obtain ⟨l2, e⟩ := keep_ok e
          obtain ⟨l3, e⟩ := keep_ok e
          have hkt := HK.out q l3 e
          obtain ⟨l4, e, hin⟩ := pair_ok e
          obtain ⟨l5, e⟩ := keep_ok e
          obtain ⟨l6, e⟩ := keep_ok e
          obtain ⟨q0, q1⟩ := q
          cases e
          have hnil : q1.isNil = false := inner_nil hin
          show (F a).setG (putT (.sw _ _ q1) (F a).g).1 = _ ∧ _ = (putT (.sw _ _ q1) (F a).g).1.t
          simp only [putT, hnil]
          rw [HKX.out, HKS.out, hkt]
          exact ⟨rfl, rfl⟩
      · have HR3 : Hid (R = (rr.bind fun a l => (need sRc l).bind fun _ l => .ok a l).bind fun q l => .ok (TA.sw q.1 q.2 .nil) l) := hid (by
          rw [HR2.out]
          cases rr with
          | bad l x => rfl
          | ok p l1 =>
            simp only [PR.bind_ok, PR.bind_assoc]
            unfold swEnd
            rw [if_neg fun e => hel ⟨p, l1, rfl, e⟩])
        have hcn : ∀ p l1, rr = .ok p l1 → isT kCase rr.rest = false := fun p l1 e => by
          subst e
          rw [← Bool.not_eq_true]; exact fun e => hgo ⟨p, l1, rfl, e⟩
        have hen : ∀ p l1, rr = .ok p l1 → isT kElse rr.rest = false := fun p l1 e => by
          subst e
          rw [← Bool.not_eq_true]; exact fun e => hel ⟨p, l1, rfl, e⟩
        have P1 := hid hP
        clear hP HR2 hgo hel
        cases rr with
        | bad l1 x =>
          have hz := P1.out.dt.err_eq
          obtain ⟨q, hq⟩ : ∃ q, isT kElse (PR.bad l1 x : PR (EA × TA)).rest = q := ⟨_, rfl⟩
          obtain ⟨i_, nn_, kk_, cp_, dd_, -, -, -, q7, qf⟩ := P1.out.dt.cells; simp only [PR.err] at q7
          have C1 := hid (dis_lit kElse (by decide) ⟨#[101, 108, 115, 101]⟩ rfl _ P1.out.dt hq)
          clear hq hcn hen
          cases q
          all_goals
            go_wp2_with (first | (go_at_call 50; (first | ((with_reducible refine C1.out.mono ?_); rintro e w2 ⟨rfl, hb⟩; have P2 := hid (P1.out.below any_stable hb); clear hb; clear q7 qf; obtain ⟨i_, nn_, kk_, cp_, dd_, -, -, -, q7, qf⟩ := P2.out.dt.cells; simp only [PR.err] at q7; have C2 := hid (dtake_lit sRc (by decide) ⟨#[125]⟩ rfl _ P2.out.dt)))) | (go_at_call 52; (first | ((with_reducible refine C2.out.mono ?_); rintro e w3 ⟨rfl, hT, hS⟩; have P3 := hid (P2.out.step any_stable hT hS); clear hT hS; clear q7 qf; obtain ⟨⟨d0, d1, d2, d3, d4, d5, d6, d7⟩, df, dl⟩ := cells8 (P3.out.bx _ List.mem_cons_self).1; have C3 := hid (dlay_dt ⟨9, 0, false, [], [], (kx : Int), (-1), ks⟩ _ _ _ _ _ _ _ _ _ (P3.out.dt.bareV.bare) (by omega) ⟨.slice none 0 0, .slice va ks.length vc, rfl, World.ownsRow_nil _ _ _ _, Nest.none _ _ _, P3.out.row, P3.out.nest hX0⟩)))) | (go_at_call 198; (first | (refine C3.out.mono ?_; rintro e w4 ⟨k6, rfl, hT, hk, hS⟩))))
            go_ret
            refine PostY.of hT (fun q => (a, TA.sw q.1 q.2 .nil)) (by rw [PR.bind_ok, HR3.out]; simp only [PR.bind_assoc, PR.bind_ok]) (fun q l' e => ?_) (by omega) (by omega) (by omega) (by omega) (by omega) (P3.out.st.trans hS)
            rw [hk q l' e]
            obtain ⟨l2, e⟩ := keep_ok e
            obtain ⟨h1, h2⟩ := HOK.out q l2 e
            rw [h1, h2]
            exact ⟨rfl, rfl⟩
        | ok p l1 =>
          have hcn := hcn p l1 rfl
          have hen := hen p l1 rfl
          obtain ⟨i_, nn_, kk_, cp_, dd_, -, -, -, q7, qf⟩ := P1.out.dt.cells; simp only [PR.err] at q7
          have C1 := hid (dis_lit kCase (by decide) ⟨#[99, 97, 115, 101]⟩ rfl _ P1.out.dt hcn)
          clear hcn
          go_wp2_with (first | (go_at_call 50; (first | ((with_reducible refine C1.out.mono ?_); rintro e w2 ⟨rfl, hb⟩; have P2 := hid (P1.out.below any_stable hb); clear hb; clear q7 qf; have C2 := hid (dis_lit kElse (by decide) ⟨#[101, 108, 115, 101]⟩ rfl _ P2.out.dt hen)) | ((with_reducible refine C2.out.mono ?_); rintro e w3 ⟨rfl, hb⟩; have P3 := hid (P2.out.below any_stable hb); clear hb; have C3 := hid (dtake_lit sRc (by decide) ⟨#[125]⟩ rfl _ P3.out.dt)))) | (go_at_call 52; (first | ((with_reducible refine C3.out.mono ?_); rintro e w4 ⟨rfl, hT, hS⟩; have P4 := hid (P3.out.step any_stable hT hS); clear hT hS; obtain ⟨⟨d0, d1, d2, d3, d4, d5, d6, d7⟩, df, dl⟩ := cells8 (P4.out.bx _ List.mem_cons_self).1; have C4 := hid (dlay_dt ⟨9, 0, false, [], [], (kx : Int), (-1), ks⟩ _ _ _ _ _ _ _ _ _ (P4.out.dt.bareV.bare) (by omega) ⟨.slice none 0 0, .slice va ks.length vc, rfl, World.ownsRow_nil _ _ _ _, Nest.none _ _ _, P4.out.row, P4.out.nest hX0⟩)))) | (go_at_call 198; (first | (refine C4.out.mono ?_; rintro e w5 ⟨k6, rfl, hT, hk, hS⟩))))
          go_ret
          refine PostY.of hT (fun q => (a, TA.sw q.1 q.2 .nil)) (by rw [PR.bind_ok, HR3.out]; simp only [PR.bind_assoc, PR.bind_ok]) (fun q l' e => ?_) (by omega) (by omega) (by omega) (by omega) (by omega) (P4.out.st.trans hS)
          rw [hk q l' e]
          obtain ⟨l2, e⟩ := keep_ok e
          obtain ⟨h1, h2⟩ := HOK.out q l2 e
          rw [h1, h2]
          exact ⟨rfl, rfl⟩
end Go.Proofs.YthcdohggffpopaaGreatDoor
