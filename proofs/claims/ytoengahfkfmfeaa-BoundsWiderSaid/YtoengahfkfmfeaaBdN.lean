/- Layer 11: the walk of the law BoundsHolds. -/
import Derived.Test.YtoengahfkfmfeaaBdM
import Derived.Test.YtoengahfkfmfeaaBdK
set_option linter.unusedVariables false
set_option linter.unusedSimpArgs false
namespace Go.Proofs.Ytoengahfkfmfeaa
open Go.ChangeShapes Go.WideShapes Go.ChangeAt Go.RowKit

theorem take_vw {w : World} {a : Option Addr} {c : Nat} {v : VarL} (h : ArgW w a c v) (n : Nat) : VW (v.take n) := fun x hx => by
  obtain ⟨i, hi⟩ := List.getElem?_of_mem (List.mem_of_mem_take hx)
  exact (h.2.2 i x hi).1
theorem take_xn {w : World} {a : Option Addr} {c : Nat} {l : List XE} (h : ArgX w a c l) (n : Nat) : ∀ x ∈ (l.take n).map cutK, W64 x.n := fun x hx => by
  obtain ⟨y, hy, rfl⟩ := List.mem_map.1 hx
  obtain ⟨i, hi⟩ := List.getElem?_of_mem (List.mem_of_mem_take hy)
  exact (h.2.2 i y hi).1
/-- The place that the law asks for. -/
theorem place_of (L : Nat) (hL : (L : Int) ≤ 9223372036854775807) (t : Int) (ht : -9223372036854775808 ≤ t ∧ t ≤ 9223372036854775807) : ∃ k D : Int, IntKind.i64.wrap ((L : Int) + 1) = D ∧ ¬ D = 0 ∧ max 0 t % D = k ∧ -9223372036854775808 ≤ k ∧ k ≤ 9223372036854775807 := by
  have hD0 : ¬ IntKind.i64.wrap ((L : Int) + 1) = 0 ∧ (0 < IntKind.i64.wrap ((L : Int) + 1) ∨ IntKind.i64.wrap ((L : Int) + 1) = -9223372036854775808) ∧ IntKind.i64.wrap ((L : Int) + 1) ≤ 9223372036854775807 := by
    by_cases hh : (L : Int) = 9223372036854775807
    · rw [hh]; decide
    · rw [show IntKind.i64.wrap ((L : Int) + 1) = wrap64 ((L : Int) + 1) from IntWalk.i64_left _, IntWalk.wrap64_in _ (by omega)]; omega
  refine ⟨_, _, rfl, hD0.1, rfl, ?_⟩
  have h2 := Int.emod_nonneg (max 0 t) hD0.1
  rcases hD0.2.1 with h | h
  · have h1 := Int.emod_lt_of_pos (max 0 t) h
    omega
  · rw [h, show (-9223372036854775808 : Int) = -(9223372036854775808) from rfl, Int.emod_neg]; omega
set_option maxHeartbeats 4000000 in
set_option maxRecDepth 100000 in
theorem BoundsHolds_walk (a : Option Addr) (c : Nat) (l : List XE) (t : Int) (a2 : Option Addr) (c2 : Nat) (v : VarL) (w : World) (hX : ArgX w a c l) (ht0 : -9223372036854775808 ≤ t) (ht1 : t ≤ 9223372036854775807) (hV : ArgW w a2 c2 v) :
    Calls Try.prog 4 #[.slice a l.length c, .int .i64 t, .slice a2 v.length c2] w fun q w' => q = .returned (.bool true) ∧ Below w.heap.size w w' := by
  have hlc := hX.1
  have hcm := hX.2.1
  have hll : (l.length : Int) ≤ 9223372036854775807 := by unfold maxLen at hcm; omega
  have hvl : (v.length : Int) ≤ 9223372036854775807 := by have h1 := hV.1; have h2 := hV.2.1; unfold maxLen at h2; omega
  obtain ⟨k, D, hD, hl1, hk, hk2⟩ := place_of l.length hll t ⟨ht0, ht1⟩
  have hxs := take_xn hX 60
  have hvw := take_vw hV 20
  have CF := Lib.hid (files_any a c l w hX)
  have CV := Lib.hid fun w' (hb : Below w.heap.size w w') => vars_any a2 c2 v w' (hV.below hb)
  have HW := Lib.hid fun w' => wakes_any w'
  have HV := Lib.hid hV
  obtain ⟨xs, hxq⟩ : ∃ xs, (l.take 60).map cutK = xs := ⟨_, rfl⟩
  rw [hxq] at hxs CF
  have HXS := Lib.hid hxs
  have HFIT := Lib.hid fun h => fits_of hvw h
  have HRW := Lib.hid (rOf_w hvw)
  have HEW := Lib.hid (eOf_w hvw)
  have HK2 := Lib.hid hk2
  have HRL := Lib.hid (show ((v.take 20).map rOf).length ≤ 20 from by rw [List.length_map, List.length_take]; omega)
  have HEL := Lib.hid (show ((v.take 20).map eOf).length ≤ 20 from by rw [List.length_map, List.length_take]; omega)
  obtain ⟨R, hRq⟩ : ∃ R, (v.take 20).map rOf = R := ⟨_, rfl⟩
  obtain ⟨E, hEq⟩ : ∃ E, (v.take 20).map eOf = E := ⟨_, rfl⟩
  rw [hRq, hEq] at HFIT
  rw [hRq] at HRW HRL
  rw [hEq] at HEW HEL
  have CV2 : Hid (∀ w', Below w.heap.size w w' → Calls Try.prog 19 #[.slice a2 v.length c2] w' fun q w'' => ∃ v1 v2 v3, q = .returned (.tuple #[v1, v2, v3]) ∧ RngO w'.heap.size w'' v1 R ∧ EnvO w'.heap.size w'' v3 E ∧ Below w'.heap.size w' w'') := by rw [← hRq, ← hEq]; exact CV
  clear CV hX hV hxs hxq hvw hk2 hlc hcm ht0 ht1 hRq hEq
  go_enter Try.func4, Try.ntmps4
  go_upto_region 2 with (go_at_call 18; refine CF.out.mono ?_; rintro q w1 ⟨g, v2, rfl, hF, hb1⟩; have HF := Lib.hid hF; have HB1 := Lib.hid hb1; clear hF hb1 CF)
  go_upto_region 3 with fail
  go_loopw [25] (fun s25 wr => ∃ (i : Nat), s25 = .int .i64 i ∧ i ≤ v.length ∧ (∀ j x, j < i → v[j]? = some x → x.2.1 ≤ x.2.2.1) ∧ Below w1.heap.size w1 wr) (fun s25 _ => v.length - (intOf s25).toNat)
  case atStart => exact ⟨0, rfl, Nat.zero_le _, fun j x h => absurd h (Nat.not_lt_zero _), Below.refl _ _⟩
  case round =>
    obtain ⟨i, rfl, hin, hno, hB⟩ := hrel
    have HBW := Lib.hid (HB1.out.trans (hB.mono HB1.out.size))
    by_cases hi2 : i < v.length
    · have hi2' : (i : Int) < (v.length : Int) := by omega
      obtain ⟨x, hx⟩ : ∃ x, v[i]? = some x := ⟨_, List.getElem?_eq_getElem (by omega)⟩
      obtain ⟨q0, p, rfl, q2, e0, e1, e2, e3⟩ := (HV.out.below HBW.out).2.2 i x hx
      replace e1 : wr.cell? ⟨(p.add (i * 4)).block, (p.add (i * 4)).off + 1, none⟩ = some (.int .u64 x.2.1) := e1
      replace e2 : wr.cell? ⟨(p.add (i * 4)).block, (p.add (i * 4)).off + 2, none⟩ = some (.int .u64 x.2.2.1) := e2
      have HNO := Lib.hid hno
      have HB := Lib.hid hB
      have HX := Lib.hid hx
      clear hno hB hx e0 e3 q0 q2
      by_cases hc : x.2.1 ≤ x.2.2.1
      · have hc' : ¬ (x.2.2.1 < x.2.1) := by omega
        go_upto_region 5 with fail
        go_quiet (fail)
        go_wp2_with fail
        refine ⟨⟨i + 1, by go_num, by omega, fun j z hj hz => ?_, bdrewN HB.out _⟩, by simp [intOf]; omega⟩
        by_cases hji : j = i
        · subst hji
          obtain rfl : x = z := by rw [HX.out] at hz; exact Option.some.inj hz
          exact hc
        · exact HNO.out j z (by omega) hz
      · have hc' : x.2.2.1 < x.2.1 := by omega
        go_upto_region 5 with fail
        go_quiet (fail)
        go_wp2_with (go_at_call 11; refine (HW.out _).mono ?_; rintro q w5 ⟨rfl, hb5⟩; have HBE := Lib.hid ((bdrewN HBW.out nq).trans (hb5.mono (bdrewN HBW.out nq).size)); clear hb5)
        go_ret
        exact ⟨rfl, HBE.out⟩
    · obtain rfl : i = v.length := by omega
      have hi2' : ¬ ((v.length : Int) < (v.length : Int)) := by omega
      have HNO := Lib.hid (show ∀ x ∈ v.take 20, x.2.1 ≤ x.2.2.1 from fun x hx => by
        obtain ⟨j, hj⟩ := List.getElem?_of_mem (List.mem_of_mem_take hx)
        exact hno j x (List.getElem?_eq_some_iff.1 hj).1 hj)
      have HF1 := Lib.hid (HF.out.below hB)
      have CV1 := Lib.hid (CV2.out wr HBW.out)
      clear hno hB
      go_upto_region 9 with (go_at_call 19; refine CV1.out.mono ?_; rintro q w2 ⟨v1, v3, v4, rfl, hR, hE, hb2⟩; have HF2 := Lib.hid (HF1.out.below hb2); obtain ⟨ra, rc, rfl⟩ := ownsRow_shape hR; obtain ⟨ea, ec, rfl⟩ := ownsRow_shape hE; have HR := Lib.hid (hR.at (by have := HRL.out; omega)); have HE := Lib.hid (hE.at (by have := HEL.out; omega)); have HB2 := Lib.hid (HBW.out.trans (hb2.mono HBW.out.size)); clear hR hE hb2 CV1)
      have CO := Lib.hid (Of_any g 0 xs k _ R w2 HF2.out HK2.out HR.out HXS.out HRW.out)
      have LE := Lib.hid (ofL_ok HXS.out HRW.out k)
      have LH := Lib.hid (fun h => ofL_holds (t := k) HXS.out (HFIT.out HNO.out) h)
      have LH : Hid ((evalL xs k E).2 = 0 → (ofL xs k R).isSome = true ∧ ((ofL xs k R).getD (0, 0)).1 ≤ (evalL xs k E).1 ∧ (evalL xs k E).1 ≤ ((ofL xs k R).getD (0, 0)).2) := Lib.hid fun h => by
        obtain ⟨r, hr, h1, h2⟩ := LH.out h
        rw [hr]; exact ⟨rfl, h1, h2⟩
      have CO : Hid (Calls Try.prog 20 #[.pointer (some ⟨g, 0, none⟩), .int .i64 k, .slice ra R.length rc] w2 fun q w' => q = .returned (.tuple #[.agg #[.int .u64 ((ofL xs k R).getD (0, 0)).1, .int .u64 ((ofL xs k R).getD (0, 0)).2], .bool (ofL xs k R).isSome]) ∧ Below w2.heap.size w2 w') := CO
      generalize (ofL xs k R).isSome = bb at CO LH
      generalize ((ofL xs k R).getD (0, 0)).1 = u1 at CO LH LE
      generalize ((ofL xs k R).getD (0, 0)).2 = u2 at CO LH LE
      have CE : Hid (∀ w', Below w2.heap.size w2 w' → Calls Try.prog 21 #[.pointer (some ⟨g, 0, none⟩), .int .i64 k, .slice ea E.length ec] w' fun q w'' => EvalPost xs k E q ∧ Below w'.heap.size w' w'') := Lib.hid fun w' hb => Eval_any g 0 xs k _ E w' (HF2.out.below hb) HK2.out ((HE.out.below hb).mono hb.size) HXS.out HEW.out
      unfold EvalPost at CE
      generalize evalL xs k E = ev at CE LH
      obtain ⟨gn, ge⟩ := ev
      go_upto_region 10 with fail
      go_upto_region 11 with (go_at_call 20; refine CO.out.mono ?_; rintro q w3 ⟨rfl, hb3⟩; have CE1 := Lib.hid (CE.out _ (hb3.alloc hb3.size (.cells #[.int .u64 u1, .int .u64 u2] 25))); have HB3 := Lib.hid ((HB2.out.trans (hb3.mono HB2.out.size)).alloc (Nat.le_trans HB2.out.size hb3.size) (.cells #[.int .u64 u1, .int .u64 u2] 25)); have D3 := Lib.hid (show Duo (w3.alloc (.cells #[.int .u64 u1, .int .u64 u2] 25)) w3.heap.size 25 (.int .u64 u1) (.int .u64 u2) from World.alloc_heap_new _ _))
      generalize w3.alloc (.cells #[.int .u64 u1, .int .u64 u2] 25) = W3 at *
      clear hb3 CO CE
      go_upto_region 12 with (go_at_call 21; refine CE1.out.mono ?_; rintro q w4 ⟨rfl, hb4⟩; have HB4 := Lib.hid (HB3.out.trans (hb4.mono HB3.out.size)); have D4 := Lib.hid (Duo.keep D3.out hb4 D3.out.lt); clear hb4 CE1)
      clear hk hD hl1
      have d0 := D4.out.c0
      have d1 := D4.out.c1
      have hle := LE.out
      by_cases hg : ge = 0
      · obtain ⟨rfl, h1, h2⟩ := LH.out hg
        subst hg
        have HH : Hid (∀ w', Calls Try.prog 14 #[.agg #[.int .u64 u1, .int .u64 u2], .int .u64 gn] w' fun q w'' => q = .returned (.bool true) ∧ Below w'.heap.size w' w'') := Lib.hid fun w' => by
          have := Has_any u1 u2 gn w'
          rw [decide_eq_true h1, decide_eq_true h2] at this
          exact this
        clear h1 h2
        go_wp2_with (first
          | (go_at_call 11; refine (HW.out _).mono ?_; rintro q w5 ⟨rfl, hb5⟩; have D5 := Duo.keep D4.out hb5 D4.out.lt; have d0 := D5.c0; have d1 := D5.c1; have B5 := Lib.hid (HB4.out.trans (hb5.mono HB4.out.size)); have D5 := Lib.hid D5; clear hb5)
          | (go_at_call 14; refine (HH.out _).mono ?_; rintro q w6 ⟨rfl, hb6⟩; have D6 := Duo.keep D5.out hb6 D5.out.lt; have d0 := D6.c0; have d1 := D6.c1; have B6 := Lib.hid (B5.out.trans (hb6.mono B5.out.size)); clear hb6))
        go_ret
        exact ⟨by simp [hle], B6.out⟩
      · have hgb : (ge != 0) = true := by simpa using hg
        clear hg
        go_wp2_with (go_at_call 11; refine (HW.out _).mono ?_; rintro q w5 ⟨rfl, hb5⟩; have D5 := Duo.keep D4.out hb5 D4.out.lt; have d0 := D5.c0; have d1 := D5.c1; have B5 := Lib.hid (HB4.out.trans (hb5.mono HB4.out.size)); clear hb5)
        go_ret
        exact ⟨by simp [hle], B5.out⟩
end Go.Proofs.Ytoengahfkfmfeaa
