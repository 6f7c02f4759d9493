/- Layer 11: the walk of the law BoundsWider. -/
import Derived.Test.YtoengahfkfmfeaaBdT
import Derived.Lib.AppendZerosOnto
import Derived.Lib.Walk
import Derived.Lib.SliceRun
import Derived.Deep.Upon
import Derived.Lib.SlFresh
set_option linter.unusedVariables false
set_option linter.unusedSimpArgs false
namespace Go.Proofs.Ytoengahfkfmfeaa
open Go.ChangeShapes Go.WideShapes Go.ChangeAt Go.RowKit

/-- 'append(nil, x...)' of a row of ranges. -/
theorem append_rng {w : World} {ops : Array Oper} {rest : List Oper} {o : Oper} {a : Act} {Q : Exit → Act → World → Prop} (hgd : o.guard = none) (s x : Operand)
    (ho : o.op = .call { callee := .builtin .append, args := #[s, x], argTypes := #[49, 49] })
    (hs : a.eval s = .slice none 0 0) {B m c : Nat} {ra : Option Addr} {xs : List Value} (hx : a.eval x = .slice ra m c) (hu : w.ownsRow B 63 3 (.slice ra m c) m xs) (h1 : ∀ u ∈ xs, u.oneCell' = true) (hm : m ≤ 1000000)
    (h : ∀ va vc w', w'.ownsRow w.heap.size 63 3 (.slice va m vc) m xs → Below w.heap.size w w' → wpList Try.prog ops Q rest (a.put o.dst (.slice va m vc)) w') : wpList Try.prog ops Q (o :: rest) a w := by
  obtain ⟨i0, hi, hz0, hz1, hz2⟩ := info_parts ex_info_rvar
  have hu' := hu
  rcases id hu.2 with ⟨e, h0⟩ | ⟨g, cap, cur, e, _⟩
  · subst h0
    simp only [Value.slice.injEq, true_and] at e
    obtain ⟨rfl, rfl⟩ := e
    obtain rfl : xs = [] := by have := hu.1; simpa using this
    exact Lib.wpList_append_run_sl w hgd s x _ ho _ _ hs hx (Go.run_append_nothing w _ _ o.type 63 i0 Try.underlying49 hi none 0 0 (Nat.le_refl _) _ (Go.Src.ofNil _ Try.underlying49 0)) (h none 0 w (World.ownsRow_nil w _ _ _) (Below.refl _ _))
  · simp only [Value.slice.injEq, true_and] at e
    obtain ⟨rfl, rfl⟩ := e
    refine wpList_append_own_at w hgd s x _ ho w.heap.size 63 i0 _ 3 32 Try.underlying49 hi hz0 hz1 hz2 rfl (by decide) (.slice none 0 0) 0 [] hs (World.ownsRow_nil w _ _ _) ⟨g, 0, none⟩ m c xs hx hu.1 (fun j u hj => by
      rw [show (⟨g, 0, none⟩ : Addr).add j = ⟨g, j, none⟩ from by unfold Addr.add; split <;> simp_all]
      have hjl := (List.getElem?_eq_some_iff.1 hj).1
      rw [hu.1] at hjl
      rw [World.ownsRow.cellAt hu' j hjl]; exact hj) h1 (by unfold maxLen; omega) (by omega) (Nat.le_refl _) ?_
    intro v' w' k1 k2 _ _
    rw [Nat.zero_add, List.nil_append] at k1
    obtain ⟨va, vc, rfl⟩ := ownsRow_shape k1
    exact h va vc w' k1 ((Below.refl _ w).grown k2 (Nat.le_refl _) fun g hg => by cases hg)
theorem rv_one (R : RngL) : ∀ u ∈ R.flatMap rvC, u.oneCell' = true := by
  intro u hu
  obtain ⟨x, _, hx⟩ := List.mem_flatMap.1 hu
  simp [rvC] at hx
  rcases hx with rfl | rfl | rfl <;> rfl
theorem ofL_wider {xs : List XE} {R : RngL} {u : VarL} (hx : ∀ x ∈ xs, W64 x.n) (hf : Fits R (u.map eOf)) (t : Int) : (ofL xs t (u.map pOf)).isSome = true → (ofL xs t R).isSome = true ∧ ((ofL xs t R).getD (0, 0)).1 ≤ ((ofL xs t (u.map pOf)).getD (0, 0)).1 ∧ ((ofL xs t (u.map pOf)).getD (0, 0)).1 ≤ ((ofL xs t R).getD (0, 0)).2 ∧ ((ofL xs t (u.map pOf)).getD (0, 0)).2 = ((ofL xs t (u.map pOf)).getD (0, 0)).1 := by
  intro h
  rw [ofL_point] at h ⊢
  by_cases hg : (evalL xs t (u.map eOf)).2 = 0
  · obtain ⟨r, h1, h2, h3⟩ := ofL_holds hx hf hg
    rw [if_pos hg, h1]
    exact ⟨rfl, h2, h3, rfl⟩
  · rw [if_neg hg] at h; cases h
set_option maxHeartbeats 4000000 in
set_option maxRecDepth 100000 in
theorem BoundsWider_walk (a : Option Addr) (c : Nat) (l : List XE) (t : Int) (a2 : Option Addr) (c2 : Nat) (v : VarL) (w : World) (hX : ArgX w a c l) (ht0 : -9223372036854775808 ≤ t) (ht1 : t ≤ 9223372036854775807) (hV : ArgW w a2 c2 v) :
    Calls Try.prog 7 #[.slice a l.length c, .int .i64 t, .slice a2 v.length c2] w fun q w' => q = .returned (.bool true) ∧ Below w.heap.size w w' := by
  have hvl : (v.length : Int) ≤ 9223372036854775807 := by have h1 := hV.1; have h2 := hV.2.1; unfold maxLen at h2; omega
  have HV := Lib.hid hV
  have hlc := hX.1
  have hcm := hX.2.1
  have hll : (l.length : Int) ≤ 9223372036854775807 := by unfold maxLen at hcm; omega
  obtain ⟨k, D, hD, hl1, hk, hk2⟩ := place_of l.length hll t ⟨ht0, ht1⟩
  have hxs := take_xn hX 60
  have hvw := take_vw hV 20
  have CF := Lib.hid (files_any a c l w hX)
  have CV := Lib.hid fun w' (hb : Below w.heap.size w w') => vars_any a2 c2 v w' (hV.below hb)
  have HW := Lib.hid fun w' => wakes_any w'
  obtain ⟨xs, hxq⟩ : ∃ xs, (l.take 60).map cutK = xs := ⟨_, rfl⟩
  rw [hxq] at hxs CF
  have HXS := Lib.hid hxs
  have HK2 := Lib.hid hk2
  obtain ⟨U, hU⟩ : ∃ U, v.take 20 = U := ⟨_, rfl⟩
  have hUl : U.length ≤ 20 := by rw [← hU, List.length_take]; omega
  rw [hU] at hvw CV
  have HPW := Lib.hid (pOf_w hvw)
  have HEW := Lib.hid (eOf_w hvw)
  obtain ⟨m, hm⟩ : ∃ m, U.length = m := ⟨_, rfl⟩
  have hm20 : (m : Int) ≤ 20 := by omega
  have CV2 : Hid (∀ w', Below w.heap.size w w' → Calls Try.prog 19 #[.slice a2 v.length c2] w' fun q w'' => ∃ ra rc rb ea ec, q = .returned (.tuple #[.slice ra m rc, rb, .slice ea m ec]) ∧ w''.ownsRow w'.heap.size 63 3 (.slice ra m rc) m ((mixP U 0).flatMap rvC) ∧ EnvO w'.heap.size w'' (.slice ea m ec) (U.map eOf) ∧ Below w'.heap.size w' w'') := Lib.hid fun w' hb => (CV.out w' hb).mono fun q w'' ⟨v1, v2, v3, h1, h2, h3, h4⟩ => by
    obtain ⟨ra, rc, rfl⟩ := ownsRow_shape h2
    obtain ⟨ea, ec, rfl⟩ := ownsRow_shape h3
    unfold RngO at h2
    rw [List.length_map, hm] at h1 h2 h3
    rw [List.length_map, hm] at h1
    exact ⟨ra, rc, v2, ea, ec, h1, h2, h3, h4⟩
  have HPE := Lib.hid (fun (i : Nat) (x : List UInt8 × (Int × Int × Int)) (h : U[i]? = some x) => (show (U.map eOf)[i]? = some (eOf x) from by rw [List.getElem?_map, h]; rfl))
  have HM := Lib.hid hm
  have HRL := Lib.hid (show (U.map pOf).length = m from by rw [List.length_map, hm])
  have HEL := Lib.hid (show (U.map eOf).length = m from by rw [List.length_map, hm])
  have HQL := Lib.hid (show (U.map rOf).length = m from by rw [List.length_map, hm])
  have HRW := Lib.hid (rOf_w hvw)
  have HP := Lib.hid fun B w' ra rc (h : w'.ownsRow B 63 3 (.slice ra m rc) m ((mixP U m).flatMap rvC)) => (show RngO B w' (.slice ra m rc) (U.map pOf) from by
    have e := mixP_end U
    rw [hm] at e
    unfold RngO
    rw [List.length_map, hm, ← e]
    exact h)
  have HP0 := Lib.hid fun B w' ra rc (h : w'.ownsRow B 63 3 (.slice ra m rc) m ((mixP U 0).flatMap rvC)) => (show RngO B w' (.slice ra m rc) (U.map rOf) from by
    unfold RngO
    rw [List.length_map, hm]
    exact h)
  have HO := Lib.hid fun (hv : ∀ x ∈ v.take 20, x.2.1 ≤ x.2.2.1) k => ofL_wider hxs (fits_of hvw (by rw [← hU]; exact hv)) k
  obtain ⟨E, hE⟩ : ∃ E, U.map eOf = E := ⟨_, rfl⟩
  obtain ⟨R, hR⟩ : ∃ R, U.map pOf = R := ⟨_, rfl⟩
  obtain ⟨R0, hR0⟩ : ∃ R0, U.map rOf = R0 := ⟨_, rfl⟩
  rw [hE] at CV2 HEW HPE HEL
  rw [hR] at HPW HP HRL
  rw [hR0] at HP0 HQL HRW
  rw [hR, hR0] at HO
  clear CV hX hV hxs hxq hvw hk2 hlc hcm ht0 ht1 hU hUl hm hE hR hR0
  go_enter Try.func7, Try.ntmps7
  go_upto_region 2 with (go_at_call 18; refine CF.out.mono ?_; rintro q w1 ⟨g, v2, rfl, hF, hb1⟩; have HF := Lib.hid hF; have HB1 := Lib.hid hb1; clear hF hb1 CF)
  go_upto_region 3 with fail
  go_loopw [27] (fun s27 wr => ∃ (i : Nat), s27 = .int .i64 i ∧ i ≤ v.length ∧ (∀ j x, j < i → v[j]? = some x → x.2.1 ≤ x.2.2.1) ∧ Below w1.heap.size w1 wr) (fun s27 _ => v.length - (intOf s27).toNat)
  case atStart => exact ⟨0, rfl, Nat.zero_le _, fun j x h => absurd h (Nat.not_lt_zero _), Below.refl _ _⟩
  case round =>
    obtain ⟨i, rfl, hin, hno, hB⟩ := hrel
    have HBW := Lib.hid (HB1.out.trans (hB.mono HB1.out.size))
    by_cases hi2 : i < v.length
    · have hi2' : (i : Int) < (v.length : Int) := by omega
      obtain ⟨x, hx⟩ : ∃ x, v[i]? = some x := ⟨_, List.getElem?_eq_getElem (by omega)⟩
      obtain ⟨q0, p, rfl, q2, e0, e1, e2, e3⟩ := (HV.out.below HBW.out).2.2 i x hx
      replace e1 : wr.cell? ⟨(p.add (i * 4)).block, (p.add (i * 4)).off + 1, none⟩ = some (.int .u64 x.2.1) := e1
      replace e2 : wr.cell? ⟨(p.add (i * 4)).block, (p.add (i * 4)).off + 2, none⟩ = some (.int .u64 x.2.2.1) := e2
      have HNO := Lib.hid hno
      have HB := Lib.hid hB
      have HX := Lib.hid hx
      clear hno hB hx e0 e3 q0 q2
      by_cases hc : x.2.1 ≤ x.2.2.1
      · have hc' : ¬ (x.2.2.1 < x.2.1) := by omega
        go_upto_region 5 with fail
        go_quiet (fail)
        go_wp2_with fail
        refine ⟨⟨i + 1, by go_num, by omega, fun j z hj hz => ?_, bdrewN HB.out _⟩, by simp [intOf]; omega⟩
        by_cases hji : j = i
        · subst hji
          obtain rfl : x = z := by rw [HX.out] at hz; exact Option.some.inj hz
          exact hc
        · exact HNO.out j z (by omega) hz
      · have hc' : x.2.2.1 < x.2.1 := by omega
        go_upto_region 5 with fail
        go_quiet (fail)
        go_wp2_with (go_at_call 11; refine (HW.out _).mono ?_; rintro q w5 ⟨rfl, hb5⟩; have HBE := Lib.hid ((bdrewN HBW.out nq).trans (hb5.mono (bdrewN HBW.out nq).size)); clear hb5)
        go_ret
        exact ⟨rfl, HBE.out⟩
    · obtain rfl : i = v.length := by omega
      have hi2' : ¬ ((v.length : Int) < (v.length : Int)) := by omega
      have HNO := Lib.hid (show ∀ x ∈ v.take 20, x.2.1 ≤ x.2.2.1 from fun x hx => by
        obtain ⟨j, hj⟩ := List.getElem?_of_mem (List.mem_of_mem_take hx)
        exact hno j x (List.getElem?_eq_some_iff.1 hj).1 hj)
      have HF1 := Lib.hid (HF.out.below hB)
      have CV1 := Lib.hid (CV2.out wr HBW.out)
      clear hno hB
      go_upto_region 9 with (go_at_call 19; refine CV1.out.mono ?_; rintro q w2 ⟨ra, rc, rb, ea, ec, rfl, hR, hE, hb2⟩; have HF2 := Lib.hid (HF1.out.below hb2); have HR2 := Lib.hid hR; have HB2 := Lib.hid (HBW.out.trans (hb2.mono HBW.out.size)); have HE2 := Lib.hid hE; clear hR hE hb2 CV1)
      go_upto_region 10 with (at_builtin; refine append_rng rfl _ _ rfl rfl rfl HR2.out (rv_one _) (by omega) ?_; intro va vc w3 hown hb3; have HV3 := Lib.hid hown; have HB3 := Lib.hid hb3; clear hown hb3)
      go_upto_region 11 with fail
      go_loopw [53] (fun s53 wq => ∃ (i : Nat), s53 = .int .i64 i ∧ i ≤ m ∧ wq.ownsRow w2.heap.size 63 3 (.slice va m vc) m ((mixP U i).flatMap rvC) ∧ Below w2.heap.size w2 wq) (fun s53 _ => m - (intOf s53).toNat)
      case atStart => exact ⟨0, rfl, Nat.zero_le _, HV3.out, HB3.out⟩
      case round =>
        clear HV3 HB3
        obtain ⟨i, rfl, hin, hR, hB⟩ := hrel
        by_cases hi3 : i < m
        · have hi3' : (i : Int) < (m : Int) := by omega
          obtain ⟨x, hx⟩ : ∃ x, U[i]? = some x := ⟨_, List.getElem?_eq_getElem (by have := HM.out; omega)⟩
          obtain ⟨gr, rfl, r1, r2, c1, c2, f1, f2⟩ := row_cells hR (mixP_at hx) hi3
          obtain ⟨gE, rfl, e1, e2, e3⟩ := (HE2.out.at (by have := HEL.out; omega)).get (HPE.out i x hx)
          replace e3 := (hB.cell (p := ⟨gE, i * 2 + 1, none⟩) e1).trans e3
          have HX := Lib.hid hx
          have HR := Lib.hid hR
          have HB := Lib.hid hB
          clear hx hR hB
          generalize hn : (eOf x).2 = n at e3
          go_upto_region 13 with fail
          go_wp2_with (go_at_call 15; refine (Point_any _ _).mono ?_; rintro q w3 ⟨rfl, hb3⟩; have c1 := (hb3.cell (p := ⟨gr, i * 3 + 1, none⟩) r2).trans c1; have c2 := (hb3.cell (p := ⟨gr, i * 3 + 2, none⟩) r2).trans c2; have f1 := (hb3.frozen (p := ⟨gr, i * 3 + 1, none⟩) r2).trans f1; have f2 := (hb3.frozen (p := ⟨gr, i * 3 + 2, none⟩) r2).trans f2; have HR3 := Lib.hid (ownsRow_below HR.out hb3); have HB3 := Lib.hid (HB.out.trans (hb3.mono HB.out.size)))
          refine ⟨⟨i + 1, by go_num, by omega, ?_, ?_⟩, by simp [intOf]; omega⟩
          · have q := row_put HR3.out (mixP_at HX.out) n n
            have q2 := mixP_set HX.out
            rw [hn] at q2
            rw [← q2]
            exact q
          · exact (HB3.out.setCell (p := ⟨gr, i * 3 + 1, none⟩) r1 _).setCell (p := ⟨gr, i * 3 + 1 + 1, none⟩) r1 _
        · obtain rfl : i = m := by omega
          have hi3' : ¬ ((i : Int) < (i : Int)) := by omega
          have HF3 := Lib.hid (HF2.out.below hB)
          have HBB := Lib.hid (HB2.out.trans (hB.mono HB2.out.size))
          have HR := Lib.hid ((HP.out _ wr va vc hR).at (by rw [HRL.out]; omega))
          have HR0 := Lib.hid ((HP0.out _ wr ra rc (ownsRow_below HR2.out hB)).at (by rw [HQL.out]; omega))
          have CO := Lib.hid (Of_any g 0 xs k (.slice ra i rc) R0 wr HF3.out HK2.out HR0.out HXS.out HRW.out)
          have CP : Hid (∀ w', Below wr.heap.size wr w' → Calls Try.prog 20 #[.pointer (some ⟨g, 0, none⟩), .int .i64 k, .slice va i vc] w' fun q w'' => q = optE (ofL xs k R) ∧ Below w'.heap.size w' w'') := Lib.hid fun w' hb => Of_any g 0 xs k _ R w' (HF3.out.below hb) HK2.out ((HR.out.below hb).mono hb.size) HXS.out HPW.out
          have CO : Hid (Calls Try.prog 20 #[.pointer (some ⟨g, 0, none⟩), .int .i64 k, .slice ra i rc] wr fun q w' => q = .returned (.tuple #[.agg #[.int .u64 ((ofL xs k R0).getD (0, 0)).1, .int .u64 ((ofL xs k R0).getD (0, 0)).2], .bool (ofL xs k R0).isSome]) ∧ Below wr.heap.size wr w') := CO
          have CP : Hid (∀ w', Below wr.heap.size wr w' → Calls Try.prog 20 #[.pointer (some ⟨g, 0, none⟩), .int .i64 k, .slice va i vc] w' fun q w'' => q = .returned (.tuple #[.agg #[.int .u64 ((ofL xs k R).getD (0, 0)).1, .int .u64 ((ofL xs k R).getD (0, 0)).2], .bool (ofL xs k R).isSome]) ∧ Below w'.heap.size w' w'') := CP
          have LW := Lib.hid (HO.out HNO.out k)
          generalize (ofL xs k R0).isSome = bb at CO LW
          generalize ((ofL xs k R0).getD (0, 0)).1 = u1 at CO LW
          generalize ((ofL xs k R0).getD (0, 0)).2 = u2 at CO LW
          generalize (ofL xs k R).isSome = cc at CP LW
          generalize ((ofL xs k R).getD (0, 0)).1 = t1 at CP LW
          generalize ((ofL xs k R).getD (0, 0)).2 = t2 at CP LW
          clear hR hB HO HR0 HR HRW HPW HEW
          go_upto_region 16 with fail
          go_upto_region 17 with (go_at_call_of 20 ra; refine CO.out.mono ?_; rintro q w3 ⟨rfl, hb3⟩; have CP1 := Lib.hid (CP.out _ (hb3.alloc hb3.size (.cells #[.int .u64 u1, .int .u64 u2] 25))); have HB3 := Lib.hid ((HBB.out.trans (hb3.mono HBB.out.size)).alloc (Nat.le_trans HBB.out.size hb3.size) (.cells #[.int .u64 u1, .int .u64 u2] 25)); have D3 := Lib.hid (show Duo (w3.alloc (.cells #[.int .u64 u1, .int .u64 u2] 25)) w3.heap.size 25 (.int .u64 u1) (.int .u64 u2) from World.alloc_heap_new _ _))
          generalize w3.alloc (.cells #[.int .u64 u1, .int .u64 u2] 25) = W3 at *
          clear hb3 CO CP
          go_upto_region 18 with (go_at_call 20; refine CP1.out.mono ?_; rintro q w4 ⟨rfl, hb4⟩; have HB4 := Lib.hid ((HB3.out.trans (hb4.mono HB3.out.size)).alloc (Nat.le_trans HB3.out.size hb4.size) (.cells #[.int .u64 t1, .int .u64 t2] 25)); have E4 := Lib.hid (show Duo (w4.alloc (.cells #[.int .u64 t1, .int .u64 t2] 25)) w4.heap.size 25 (.int .u64 t1) (.int .u64 t2) from World.alloc_heap_new _ _); have D4 := Lib.hid (Duo.keep D3.out (hb4.alloc hb4.size (.cells #[.int .u64 t1, .int .u64 t2] 25)) D3.out.lt))
          generalize w4.alloc (.cells #[.int .u64 t1, .int .u64 t2] 25) = W4 at *
          clear hb4 CP1 hk hD hl1
          have d0 := D4.out.c0
          have d1 := D4.out.c1
          have e0 := E4.out.c0
          have e1 := E4.out.c1
          have HHas : Hid (∀ n, u1 ≤ n → n ≤ u2 → ∀ w', Calls Try.prog 14 #[.agg #[.int .u64 u1, .int .u64 u2], .int .u64 n] w' fun q w'' => q = .returned (.bool true) ∧ Below w'.heap.size w' w'') := Lib.hid fun n h1 h2 w' => by
            have := Has_any u1 u2 n w'
            rw [decide_eq_true h1, decide_eq_true h2] at this
            exact this
          cases cc with
          | false =>
            go_wp2_with (go_at_call 11; refine (HW.out _).mono ?_; rintro q w5 ⟨rfl, hb5⟩; have B5 := Lib.hid (HB4.out.trans (hb5.mono HB4.out.size)); clear hb5)
            go_ret
            exact ⟨by simp, B5.out⟩
          | true =>
            obtain ⟨rfl, h1, h2, rfl⟩ := LW.out rfl
            have HH := Lib.hid (HHas.out _ h1 h2)
            clear h1 h2 HHas
            go_wp2_with (first
              | (go_at_call 11; refine (HW.out _).mono ?_; rintro q w5 ⟨rfl, hb5⟩; replace D4 := Lib.hid (Duo.keep D4.out hb5 D4.out.lt); replace E4 := Lib.hid (Duo.keep E4.out hb5 E4.out.lt); have d0 := D4.out.c0; have d1 := D4.out.c1; have e0 := E4.out.c0; have e1 := E4.out.c1; replace HB4 := Lib.hid (HB4.out.trans (hb5.mono HB4.out.size)); clear hb5)
              | (go_at_call 14; refine (HH.out _).mono ?_; rintro q w6 ⟨rfl, hb6⟩; replace D4 := Lib.hid (Duo.keep D4.out hb6 D4.out.lt); replace E4 := Lib.hid (Duo.keep E4.out hb6 E4.out.lt); have d0 := D4.out.c0; have d1 := D4.out.c1; have e0 := E4.out.c0; have e1 := E4.out.c1; replace HB4 := Lib.hid (HB4.out.trans (hb6.mono HB4.out.size)); clear hb6))
            go_ret
            exact ⟨by simp, HB4.out⟩
end Go.Proofs.Ytoengahfkfmfeaa
