/- Layer 11: the parts of an expression, by package bounds. -/
import Derived.Test.YtoengahfkfmfeaaBdF
set_option linter.unusedVariables false
set_option linter.unusedSimpArgs false
namespace Go.Proofs.Ytoengahfkfmfeaa
open Go.ChangeShapes Go.WideShapes Go.ChangeAt Go.RowKit

def Upw (xs : List XE) (t : Int) (l : List Int) : Prop := ∀ y ∈ l, y = t ∨ ∃ z ∈ l, ∃ x ks, xs[z.toNat]? = some x ∧ opsX x = some ks ∧ y ∈ ks ∧ ∀ k ∈ ks, 0 ≤ k ∧ k < z
theorem Upw.start (xs : List XE) (t : Int) : Upw xs t [t] := fun y hy => .inl (by simpa using hy)
theorem Upw.add {xs : List XE} {t : Int} {l : List Int} (h : Upw xs t l) {z : Int} {x : XE} {ks : List Int} (hz : z ∈ l) (hx : xs[z.toNat]? = some x) (ho : opsX x = some ks) (hk : ∀ k ∈ ks, 0 ≤ k ∧ k < z) {k : Int} (hm : k ∈ ks) : Upw xs t (l ++ [k]) := fun y hy => by
  rcases List.mem_append.1 hy with hy | hy
  · rcases h y hy with e | ⟨z', q1, q2⟩
    · exact .inl e
    · exact .inr ⟨z', List.mem_append_left _ q1, q2⟩
  · simp at hy; subst hy
    exact .inr ⟨z, List.mem_append_left _ hz, x, ks, hx, ho, hm, hk⟩
/-- Where a part has no range, the whole has none. -/
theorem Upw.none {xs : List XE} {t : Int} {l : List Int} (h : Upw xs t l) (R : RngL) (hl : ∀ y ∈ l, 0 ≤ y ∧ y ≤ t) : ∀ (n : Nat) (y : Int), y ∈ l → t - y < n → rat (allB xs R) y = none → rat (allB xs R) t = none
  | 0, y, hy, hn, _ => by have := hl y hy; omega
  | n + 1, y, hy, hn, hr => by
    rcases h y hy with rfl | ⟨z, hz, x, ks, hx, ho, hm, hk⟩
    · exact hr
    · have h0 := (hl z hz).1
      have h1 := hk y hm
      refine h.none R hl n z hz (by omega) ?_
      obtain ⟨m, rfl⟩ : ∃ m : Nat, z = (m : Int) := ⟨z.toNat, by omega⟩
      exact rat_up (R := R) hx ho hk hm hr
/-- The parts, ascending; each but the whole is an operand of one. -/
structure PartsU (xs : List XE) (t : Int) (l : List Int) : Prop where
  ps : Parts xs t l
  up : Upw xs t l
theorem PartsU.of {xs : List XE} {t : Int} {l : List Int} (h : Pt xs t l.length l) (hu : Upw xs t l) : PartsU xs t (l.mergeSort fun x y => decide (x ≤ y)) := by
  have hp : (l.mergeSort fun x y => decide (x ≤ y)).Perm l := List.mergeSort_perm _ _
  refine ⟨h.parts, fun y hy => ?_⟩
  rcases hu y (hp.mem_iff.1 hy) with e | ⟨z, q1, q2⟩
  · exact .inl e
  · exact .inr ⟨z, hp.mem_iff.2 q1, q2⟩
set_option maxHeartbeats 2000000 in
theorem operandsB_any (x : XE) (a : Option Addr) (l c : Nat) (w : World) :
    Calls Try.prog 53 #[.agg #[.int .i64 x.k, .string (bs x.op), .int .u64 x.n, .string (bs x.s), .slice a l c]] w fun e w' => e = .returned (if x.k = 2 ∨ x.k = 3 then .slice a l c else .slice none 0 0) ∧ Below w.heap.size w w' := by
  have hb : Below w.heap.size w (w.alloc (.cells #[.int .i64 x.k, .string (bs x.op), .int .u64 x.n, .string (bs x.s), .slice a l c] 83)) := (Below.refl _ _).alloc (Nat.le_refl _) _
  have HB := Lib.hid hb
  clear hb
  obtain ⟨k, op, n, s, kids⟩ := x
  simp only at HB ⊢
  generalize bs op = O at HB ⊢
  generalize bs s = T at HB ⊢
  by_cases h2 : k = 2
  · subst h2
    rw [if_pos (.inl rfl)]
    go_enter Try.func53, Try.ntmps53
    go_wp2_with fail
    go_ret
    exact ⟨rfl, HB.out⟩
  by_cases h3 : k = 3
  · subst h3
    rw [if_pos (.inr rfl)]
    go_enter Try.func53, Try.ntmps53
    go_wp2_with fail
    go_ret
    exact ⟨rfl, HB.out⟩
  · rw [if_neg (by omega)]
    have e2 : (k == 2) = false := by simpa using h2
    have e3 : (k == 3) = false := by simpa using h3
    clear h2 h3
    go_enter Try.func53, Try.ntmps53
    go_wp2_with fail
    go_ret
    exact ⟨rfl, HB.out⟩
set_option maxHeartbeats 4000000 in
set_option maxRecDepth 100000 in
theorem partsB_any (g o : Nat) (xs : List XE) (t : Int) (w : World) (hF : FileX w g o xs) (ht : -9223372036854775808 ≤ t ∧ t ≤ 9223372036854775807) (hok : (evalL xs t []).2 ≠ 2) :
    Calls Try.prog 31 #[.pointer (some ⟨g, o, none⟩), .int .i64 t] w fun e w' => (∃ l v, e = .returned v ∧ PartsU xs t l ∧ KidR w' v l) ∧ Below w.heap.size w w' := by
  have hlen : xs.length < 1000000000000 := by obtain ⟨v, h1, h2, a, c, h3, h4, h5⟩ := hF; exact h4
  have hneg : 0 ≤ t ∧ t < (xs.length : Int) := by have := vat_past hok; rw [allX_len] at this; exact this
  obtain ⟨hneg, hbig⟩ := hneg
  obtain ⟨fa, fc, cf, hX⟩ := hF.look
  have hmm := @run_makeMap Try.prog
  obtain ⟨i0, hi, hz0, hz1, hz2⟩ := info_parts ex_info_int
  have HX := Lib.hid hX
  have HF := Lib.hid hF
  have HOK := Lib.hid hok
  clear hX hF hok
  go_enter Try.func31, Try.ntmps31
  have O1 := Lib.hid (show Own 3 .i64 w.heap.size ((w.alloc (.cells #[.int .i64 t] 3)).alloc (.map #[] 0)) (.slice (some ⟨w.heap.size, 0, none⟩) 1 1) [t] from (World.ownsRow_lit w #[.int .i64 t] 1 (Nat.le_refl _) (by unfold maxLen; omega) rfl).alloc _)
  have M1 := Lib.hid (show SetM ((w.alloc (.cells #[.int .i64 t] 3)).alloc (.map #[] 0)) (w.heap.size + 1) 0 (fun _ => false) from by
    have := SetM.made (w.alloc (.cells #[.int .i64 t] 3))
    rwa [World.size_alloc] at this)
  have B1 := Lib.hid (show Below w.heap.size w ((w.alloc (.cells #[.int .i64 t] 3)).alloc (.map #[] 0)) from ((Below.refl _ _).alloc (Nat.le_refl _) _).alloc (by simp) _)
  go_wp2_with fail
  generalize (w.alloc (.cells #[.int .i64 t] 3)).alloc (.map #[] 0) = W1 at O1 M1 B1 ⊢
  go_loopw [5, 7] (fun s5 s7 wr => ∃ (i : Nat) (l : List Int), s7 = .int .i64 i ∧ Own 3 .i64 w.heap.size wr s5 l ∧ SetM wr (w.heap.size + 1) l.length (fun k => decide (k ∈ l ∧ k ≠ t)) ∧ Pt xs t i l ∧ Upw xs t l ∧ Below w.heap.size w wr) (fun s5 s7 _ => t.toNat + 1 - (intOf s7).toNat)
  case atStart => exact ⟨0, [t], rfl, O1.out, (M1.out.mono (Nat.zero_le _)).eq fun k => by simp, Pt.start hneg, Upw.start _ _, B1.out⟩
  case round =>
    clear O1 M1 B1
    obtain ⟨i, l, rfl, hO, hM, hP, hU, hB⟩ := hrel
    obtain ⟨la, lc, rfl⟩ := hO.shape
    by_cases hil : i < l.length
    · obtain ⟨y, hy⟩ : ∃ y, l[i]? = some y := ⟨_, List.getElem?_eq_getElem hil⟩
      have hym := List.mem_of_getElem? hy
      obtain ⟨hy0, hyt⟩ := hP.le y hym
      obtain ⟨m, rfl⟩ : ∃ m : Nat, y = (m : Int) := ⟨y.toNat, by omega⟩
      obtain ⟨x, hx⟩ : ∃ x, xs[m]? = some x := ⟨_, List.getElem?_eq_getElem (by omega)⟩
      have hlen2 := hP.len
      obtain ⟨ks, hks, hkk⟩ := (ok_iff [] hx).1 (hP.ok [] HOK.out _ hym)
      obtain rfl : ksX x = ks := by have := opsX_ks (x := x) (by rw [hks]; rfl); rw [hks] at this; exact (Option.some.inj this).symm
      have HKS := Lib.hid hks
      have HKK := Lib.hid (show ∀ k ∈ ksX x, 0 ≤ k ∧ k < (m : Int) from fun k hk => ⟨(hkk k hk).1, (hkk k hk).2.1⟩)
      clear hks hkk
      obtain ⟨fk, fv, rfl, fkl, x0, x1, x2, x3, x4, xk⟩ := HX.out.at hx
      replace x0 := (hB.cell (p := ⟨fk, _, none⟩) fkl).trans x0
      replace x1 := (hB.cell (p := ⟨fk, _, none⟩) fkl).trans x1
      replace x2 := (hB.cell (p := ⟨fk, _, none⟩) fkl).trans x2
      replace x3 := (hB.cell (p := ⟨fk, _, none⟩) fkl).trans x3
      replace x4 := (hB.cell (p := ⟨fk, _, none⟩) fkl).trans x4
      have cf' := (hB.cell (p := ⟨g, o + 2, none⟩) (show g < w.heap.size from by obtain ⟨v, h1, _⟩ := HF.out; exact h1)).trans cf
      rcases hO.form with ⟨_, rfl⟩ | ⟨gl, cl, e1, hR⟩
      · exact absurd hil (by simp)
      simp only [Value.slice.injEq, true_and] at e1
      obtain ⟨rfl, rfl⟩ := e1
      have cl := hR.cell hil
      rw [show el l i = (m : Int) from by unfold el; rw [hy]; rfl] at cl
      obtain ⟨va, vc, rfl, -, -⟩ := id xk
      obtain ⟨qa, qc, hq, hqk⟩ := ks_kid xk
      have OP : Hid (∀ (w' : World), Calls Try.prog 53 #[.agg #[.int .i64 x.k, .string (bs x.op), .int .u64 x.n, .string (bs x.s), .slice va x.kids.length vc]] w' fun e w'' => e = .returned (.slice qa (ksX x).length qc) ∧ Below w'.heap.size w' w'') := Lib.hid fun w' => by
        have := operandsB_any x va x.kids.length vc w'
        rw [hq] at this
        exact this
      have QK := Lib.hid hqk
      clear hq hqk
      have hmx : m < xs.length := (List.getElem?_eq_some_iff.1 hx).1
      have hil' : (i : Int) < (l.length : Int) := by omega
      have hmx' : (m : Int) < (xs.length : Int) := by omega
      have HP := Lib.hid hP
      have HU := Lib.hid hU
      have HM := Lib.hid hM
      have HO := Lib.hid hO
      have HB := Lib.hid hB
      have HR := Lib.hid hR
      have HY := Lib.hid hy
      have HX2 := Lib.hid hx
      clear xk hP hU hM hO hB hR hy hx hym
      go_wp2_with fail
      go_region_with (go_at_call 53; refine (OP.out _).mono ?_; rintro q w2 ⟨rfl, hb2⟩; have HB2 := Lib.hid hb2; clear hb2)
      all_goals
        have HB3 := Lib.hid (HB.out.drew.trans (HB2.out.mono HB.out.size))
        have HM3 := Lib.hid ((show SetM wr.drew _ _ _ from HM.out).below HB2.out HM.out.lt)
        have HO3 := Lib.hid ((show Own 3 .i64 w.heap.size wr.drew _ _ from HO.out).below HB2.out (Nat.le_refl _))
        have HB4 := Lib.hid HB2.out.size
        have hqn : (ksX x).length < 4611686018427387904 := by obtain ⟨a, c, h1, h2, h3⟩ := QK.out; exact h2
        clear HB HM HO HR HB2 OP x0 x1 x2 x3 x4 cf' cl
        try go_simp
        go_wp2_with fail
        go_loopw [5, 33] (fun s5 s33 w3 => ∃ (j : Nat) (l2 : List Int), s33 = .int .i64 j ∧ j ≤ (ksX x).length ∧ Own 3 .i64 w.heap.size w3 s5 l2 ∧ SetM w3 (w.heap.size + 1) l2.length (fun k => decide (k ∈ l2 ∧ k ≠ t)) ∧ Pt xs t i l2 ∧ Upw xs t l2 ∧ l2[i]? = some (m : Int) ∧ (∀ k ∈ (ksX x).take j, 0 ≤ k ∧ k < (m : Int) ∧ k ∈ l2) ∧ Below w.heap.size w w3) (fun s5 s33 _ => (ksX x).length - (intOf s33).toNat)
        case atStart => exact ⟨0, l, rfl, Nat.zero_le _, HO3.out, HM3.out, HP.out, HU.out, HY.out, by simp, HB3.out⟩
        case round =>
          clear HO3 HM3 HP HU HY HB3 HB4
          obtain ⟨j, l2, rfl, hj, hO2, hM2, hP2, hU2, hy2, hkk, hB2⟩ := hrel
          obtain ⟨la2, lc2, rfl⟩ := hO2.shape
          have hil2 : i < l2.length := (List.getElem?_eq_some_iff.1 hy2).1
          have hln := hP2.len
          by_cases hjk : j < (ksX x).length
          · obtain ⟨k, hk⟩ : ∃ k, (ksX x)[j]? = some k := ⟨_, List.getElem?_eq_getElem hjk⟩
            obtain ⟨p, rfl, ck, r1, r2⟩ := kid_at QK.out hk
            have ck2 := (hB2.cell (World.block_lt_of_cell? w _ ck)).trans ck
            have hkm := List.mem_of_getElem? hk
            obtain ⟨hk0, hkb⟩ := HKK.out k hkm
            rcases hO2.form with ⟨_, rfl⟩ | ⟨g2, c2, e2, hR2⟩
            · exact absurd hil2 (by simp)
            simp only [Value.slice.injEq, true_and] at e2
            obtain ⟨rfl, rfl⟩ := e2
            have hjk' : (j : Int) < ((ksX x).length : Int) := by omega
            have HB2 := Lib.hid hB2
            have hM3 : SetM (wr.alloc (.cells #[] 107)) (w.heap.size + 1) l2.length (fun k => decide (k ∈ l2 ∧ k ≠ t)) := hM2.kept (World.grownBy_alloc wr _ none) (by simp)
            have LK := hM2.look ⟨r1, r2⟩
            have hkt : k ≠ t := by omega
            by_cases hkl : k ∈ l2
            · have hd : decide (k ∈ l2 ∧ k ≠ t) = true := by simp [hkl, hkt]
              have HKK2 := Lib.hid hkk
              have HP2 := Lib.hid hP2
              have HU2 := Lib.hid hU2
              have HY2 := Lib.hid hy2
              have HO4 := Lib.hid (hO2.alloc (.cells #[] 107))
              have HM4 := Lib.hid hM3
              rw [hd] at LK
              clear hkk hP2 hU2 hy2 hO2 hM2 hR2 hB2 hM3 hd
              go_wp2_with fail
              refine ⟨⟨j + 1, l2, by go_num, by omega, HO4.out, HM4.out, HP2.out, HU2.out, HY2.out, fun z hz => ?_, HB2.out.alloc HB2.out.size _⟩, by simp [intOf]; go_num⟩
              rw [List.take_add_one, hk] at hz
              rcases List.mem_append.1 hz with hz | hz
              · exact HKK2.out z hz
              · simp at hz; subst hz; exact ⟨by omega, by omega, hkl⟩
            · have hd : decide (k ∈ l2 ∧ k ≠ t) = false := by simp [hkl]
              obtain ⟨w4, hrun, hS4, hg4⟩ := hM3.put (by unfold maxLen; omega) ⟨r1, r2⟩
              have hne := hM2.ne hO2
              have hO4 : Own 3 .i64 w.heap.size w4 (.slice (some ⟨g2, 0, none⟩) l2.length lc2) l2 := World.ownsRow.kept (hO2.alloc (.cells #[] 107)) hg4 (.inr (fun e => hne e))
              have hB4 : Below w.heap.size w w4 := (hB2.alloc hB2.size (.cells #[] 107)).grown hg4 (by have := hB2.size; simp; omega) (fun z hz => by cases hz; omega)
              have h63 : l2.length + 1 ≤ maxLen := by unfold maxLen; omega
              have hby : (l2.length + 1) * 8 ≤ 140737488355328 := by omega
              have HPA := Lib.hid (hP2.add hy2 HX2.out HKS.out hkm (by omega) (by omega) hkl)
              have HUA := Lib.hid (hU2.add (List.mem_of_getElem? hy2) HX2.out HKS.out HKK.out hkm)
              have HY2 := Lib.hid (show (l2 ++ [k])[i]? = some (m : Int) from by rw [List.getElem?_append_left hil2]; exact hy2)
              have HKK2 := Lib.hid hkk
              have HO4 := Lib.hid hO4
              have HS4 := Lib.hid hS4
              have HB4 := Lib.hid hB4
              have hmb := hM3.lt
              have HNE := Lib.hid hne
              have HMB := Lib.hid (show w.heap.size + 1 < w4.heap.size from Nat.lt_of_lt_of_le hmb hg4.size)
              rw [hd] at LK
              clear hkk hP2 hU2 hy2 hO2 hM2 hR2 hB2 hM3 hd hO4 hS4 hB4 hne hg4 hmb
              go_wp2_with (at_builtin; refine append_int rfl _ _ 78 rfl w.heap.size 3 i0 (.int .i64 0) 8 Try.underlying78 hi hz0 hz1 hz2 rfl .i64 (.slice (some ⟨g2, 0, none⟩) l2.length lc2) _ _ rfl HO4.out _ rfl h63 hby HB4.out.size ?_; intro v' w5 hO5 hB5 hk5)
              refine ⟨⟨j + 1, l2 ++ [k], by go_num, by omega, hO5, ?_, HPA.out, HUA.out, HY2.out, fun z hz => ?_, HB4.out.trans hB5⟩, by simp [intOf]; go_num⟩
              · rw [List.length_append]
                refine (HS4.out.set (hk5 _ HMB.out HNE.out)).eq fun z => ?_
                by_cases hzk : z = k <;> simp [hzk, hkt]
              · rw [List.take_add_one, hk] at hz
                rcases List.mem_append.1 hz with hz | hz
                · have := HKK2.out z hz; exact ⟨this.1, this.2.1, List.mem_append_left _ this.2.2⟩
                · simp at hz; subst hz; exact ⟨by omega, by omega, by simp⟩
          · obtain rfl : j = (ksX x).length := by omega
            rw [List.take_length] at hkk
            have hst := hP2.step hy2 HX2.out HKS.out hkk
            have hjk' : ¬ (((ksX x).length : Int) < ((ksX x).length : Int)) := by omega
            have HS := Lib.hid hst
            have HU2 := Lib.hid hU2
            have HO4 := Lib.hid hO2
            have HM4 := Lib.hid hM2
            have HB4 := Lib.hid hB2
            clear hst hO2 hM2 hB2 hkk hP2 hU2 hy2
            go_wp2_with fail
            go_roundw
            case rel => exact ⟨i + 1, l2, by go_num, HO4.out, HM4.out, HS.out, HU2.out, HB4.out⟩
            case measure => simp [intOf]; omega
    · have hP' := hP.weak (by omega)
      have hr : ∀ z ∈ l, -9223372036854775808 ≤ z ∧ z ≤ 9223372036854775807 := fun z hz => by have := hP.le z hz; omega
      have hl := hP.len
      rcases hO.form with ⟨_, rfl⟩ | ⟨gl, cl, e1, hR⟩
      · exact absurd hP.mem (by simp)
      simp only [Value.slice.injEq, true_and] at e1
      obtain ⟨rfl, rfl⟩ := e1
      have CS := Lib.hid (sort_any w.heap.size gl lc l wr hR (by omega) hB.size hr)
      have HP := Lib.hid (PartsU.of hP' hU)
      have HB := Lib.hid hB
      clear hP hU hP' hr hR hO hM hB
      have hil' : ¬ ((i : Int) < (l.length : Int)) := by omega
      go_wp2_with (go_at_call 54; refine CS.out.mono ?_; rintro q w2 ⟨rfl, hk2, hb2⟩)
      go_ret
      exact ⟨⟨_, _, rfl, HP.out, hk2⟩, HB.out.trans hb2⟩
end Go.Proofs.Ytoengahfkfmfeaa
