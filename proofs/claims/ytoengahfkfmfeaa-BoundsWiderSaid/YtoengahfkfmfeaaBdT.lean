/- Layer 11: the walk of the law BoundsPoint. -/
import Derived.Test.YtoengahfkfmfeaaBdN
import Derived.Lib.QuietBelow
set_option linter.unusedVariables false
set_option linter.unusedSimpArgs false
namespace Go.Proofs.Ytoengahfkfmfeaa
open Go.ChangeShapes Go.WideShapes Go.ChangeAt Go.RowKit

theorem flatR_set : ∀ (R : RngL) (i : Nat) (x : List UInt8 × (Int × Int)) (u v : Int), R[i]? = some x → ((R.flatMap rvC).set (i * 3 + 1) (.int .u64 u)).set (i * 3 + 2) (.int .u64 v) = (R.set i (x.1, (u, v))).flatMap rvC
  | [], i, x, u, v, h => by simp at h
  | y :: R, 0, x, u, v, h => by simp at h; subst h; rfl
  | y :: R, i + 1, x, u, v, h => by
    have ih := flatR_set R i x u v (by simpa using h)
    rw [List.flatMap_cons, List.set_cons_succ, List.flatMap_cons, ← ih, show (i + 1) * 3 + 1 = 3 + (i * 3 + 1) from by omega, show (i + 1) * 3 + 2 = 3 + (i * 3 + 2) from by omega, List.set_append_right _ _ (by simp [rvC]), List.set_append_right _ _ (by simp [rvC])]
    simp [rvC]
/-- The ranges, those ahead of i turned to points. -/
def mixP (u : VarL) (i : Nat) : RngL := (u.take i).map pOf ++ (u.drop i).map rOf
theorem mixP_zero (u : VarL) : mixP u 0 = u.map rOf := rfl
theorem mixP_end (u : VarL) : mixP u u.length = u.map pOf := by unfold mixP; rw [List.take_length, List.drop_length]; simp
theorem mixP_len (u : VarL) {i : Nat} (h : i ≤ u.length) : (mixP u i).length = u.length := by
  unfold mixP; rw [List.length_append, List.length_map, List.length_map, List.length_take, List.length_drop]; omega
theorem mixP_at {u : VarL} {i : Nat} {x : List UInt8 × (Int × Int × Int)} (h : u[i]? = some x) : (mixP u i)[i]? = some (rOf x) := by
  have hi := (List.getElem?_eq_some_iff.1 h).1
  unfold mixP
  rw [List.getElem?_append_right (by rw [List.length_map, List.length_take]; omega), List.length_map, List.length_take, Nat.min_eq_left (by omega), Nat.sub_self, List.getElem?_map, List.getElem?_drop, Nat.add_zero, h]
  rfl
theorem mixP_set {u : VarL} {i : Nat} {x : List UInt8 × (Int × Int × Int)} (h : u[i]? = some x) : (mixP u i).set i (x.1, ((eOf x).2, (eOf x).2)) = mixP u (i + 1) := by
  have hi := (List.getElem?_eq_some_iff.1 h).1
  have hd : u.drop i = x :: u.drop (i + 1) := by
    rw [List.drop_eq_getElem_cons hi]
    rw [List.getElem?_eq_getElem hi] at h
    rw [Option.some.inj h]
  unfold mixP
  rw [List.take_add_one, h, hd]
  rw [List.set_append_right _ _ (by rw [List.length_map, List.length_take]; omega)]
  rw [List.length_map, List.length_take, Nat.min_eq_left (by omega), Nat.sub_self]
  simp [pOf]
/-- One range is turned to a point. -/
theorem row_put {B : Nat} {w : World} {g c m i : Nat} {R : RngL} {x : List UInt8 × (Int × Int)} (h : w.ownsRow B 63 3 (.slice (some ⟨g, 0, none⟩) m c) m (R.flatMap rvC)) (hx : R[i]? = some x) (u v : Int) :
    ((w.setCell ⟨g, i * 3 + 1, none⟩ (.int .u64 u)).setCell ⟨g, i * 3 + 2, none⟩ (.int .u64 v)).ownsRow B 63 3 (.slice (some ⟨g, 0, none⟩) m c) m ((R.set i (x.1, (u, v))).flatMap rvC) := by
  rw [← flatR_set R i x u v hx]
  exact (World.ownsRow.stored (World.ownsRow.stored h (i * 3 + 1) (.int .u64 u)).1 (i * 3 + 2) (.int .u64 v)).1
theorem EnvAt.get {n : Nat} {w : World} {a : Option Addr} {m c : Nat} {e : EnvL} (h : EnvAt n w (.slice a m c) e) {i : Nat} {x : List UInt8 × Int} (hx : e[i]? = some x) : ∃ k, a = some ⟨k, 0, none⟩ ∧ k < n ∧ w.cell? ⟨k, i * 2, none⟩ = some (.string ⟨x.1.toArray⟩) ∧ w.cell? ⟨k, i * 2 + 1, none⟩ = some (.int .u64 x.2) := by
  obtain ⟨a', c', h1, _, h3⟩ := h
  simp only [Value.slice.injEq] at h1
  obtain ⟨rfl, rfl, rfl⟩ := h1
  exact h3 i x hx
theorem row_base {B B' n s : Nat} {w : World} {e : TypeId} {v : Value} {xs : List Value} (h : w.ownsRow B e s v n xs) (hb : B' ≤ B) : w.ownsRow B' e s v n xs := by
  obtain ⟨h1, h2⟩ := h
  refine ⟨h1, ?_⟩
  rcases h2 with h2 | ⟨g', cap', cur, hv, hg, r⟩
  · exact Or.inl h2
  · exact Or.inr ⟨g', cap', cur, hv, by omega, r⟩
/-- The cells of a row of ranges. -/
theorem row_cells {B : Nat} {w : World} {a : Option Addr} {c m i : Nat} {R : RngL} {x : List UInt8 × (Int × Int)} (h : w.ownsRow B 63 3 (.slice a m c) m (R.flatMap rvC)) (hx : R[i]? = some x) (hi : i < m) : ∃ g, a = some ⟨g, 0, none⟩ ∧ B ≤ g ∧ g < w.heap.size ∧ w.cell? ⟨g, i * 3 + 1, none⟩ = some (.int .u64 x.2.1) ∧ w.cell? ⟨g, i * 3 + 2, none⟩ = some (.int .u64 x.2.2) ∧ w.frozen? ⟨g, i * 3 + 1, none⟩ = false ∧ w.frozen? ⟨g, i * 3 + 2, none⟩ = false := by
  have h' := h
  rcases id h.2 with ⟨e, h0⟩ | ⟨g, cap, cur, e, _⟩
  · omega
  · simp only [Value.slice.injEq, true_and] at e
    obtain ⟨rfl, rfl⟩ := e
    have hl := World.ownsRow.lt h' g rfl
    have hg := flatR_get R hx
    exact ⟨g, rfl, hl.1, hl.2, by rw [World.ownsRow.cellAt h' _ (by omega)]; exact hg.2.1, by rw [World.ownsRow.cellAt h' _ (by omega)]; exact hg.2.2, World.ownsRow.frozenAt h' _, World.ownsRow.frozenAt h' _⟩
set_option maxHeartbeats 4000000 in
set_option maxRecDepth 100000 in
theorem BoundsPoint_walk (a : Option Addr) (c : Nat) (l : List XE) (t : Int) (a2 : Option Addr) (c2 : Nat) (v : VarL) (w : World) (hX : ArgX w a c l) (ht0 : -9223372036854775808 ≤ t) (ht1 : t ≤ 9223372036854775807) (hV : ArgW w a2 c2 v) :
    Calls Try.prog 5 #[.slice a l.length c, .int .i64 t, .slice a2 v.length c2] w fun q w' => q = .returned (.bool true) ∧ Below w.heap.size w w' := by
  have hlc := hX.1
  have hcm := hX.2.1
  have hll : (l.length : Int) ≤ 9223372036854775807 := by unfold maxLen at hcm; omega
  obtain ⟨k, D, hD, hl1, hk, hk2⟩ := place_of l.length hll t ⟨ht0, ht1⟩
  have hxs := take_xn hX 60
  have hvw := take_vw hV 20
  have CF := Lib.hid (files_any a c l w hX)
  have CV := Lib.hid fun w' (hb : Below w.heap.size w w') => vars_any a2 c2 v w' (hV.below hb)
  have HW := Lib.hid fun w' => wakes_any w'
  obtain ⟨xs, hxq⟩ : ∃ xs, (l.take 60).map cutK = xs := ⟨_, rfl⟩
  rw [hxq] at hxs CF
  have HXS := Lib.hid hxs
  have HK2 := Lib.hid hk2
  obtain ⟨U, hU⟩ : ∃ U, v.take 20 = U := ⟨_, rfl⟩
  have hUl : U.length ≤ 20 := by rw [← hU, List.length_take]; omega
  rw [hU] at hvw CV
  have HPW := Lib.hid (pOf_w hvw)
  have HEW := Lib.hid (eOf_w hvw)
  obtain ⟨m, hm⟩ : ∃ m, U.length = m := ⟨_, rfl⟩
  have hm20 : (m : Int) ≤ 20 := by omega
  have CV2 : Hid (∀ w', Below w.heap.size w w' → Calls Try.prog 19 #[.slice a2 v.length c2] w' fun q w'' => ∃ ra rc rb ea ec, q = .returned (.tuple #[.slice ra m rc, rb, .slice ea m ec]) ∧ w''.ownsRow w'.heap.size 63 3 (.slice ra m rc) m ((mixP U 0).flatMap rvC) ∧ EnvO w'.heap.size w'' (.slice ea m ec) (U.map eOf) ∧ Below w'.heap.size w' w'') := Lib.hid fun w' hb => (CV.out w' hb).mono fun q w'' ⟨v1, v2, v3, h1, h2, h3, h4⟩ => by
    obtain ⟨ra, rc, rfl⟩ := ownsRow_shape h2
    obtain ⟨ea, ec, rfl⟩ := ownsRow_shape h3
    unfold RngO at h2
    rw [List.length_map, hm] at h1 h2 h3
    rw [List.length_map, hm] at h1
    exact ⟨ra, rc, v2, ea, ec, h1, h2, h3, h4⟩
  have HPE := Lib.hid (fun (i : Nat) (x : List UInt8 × (Int × Int × Int)) (h : U[i]? = some x) => (show (U.map eOf)[i]? = some (eOf x) from by rw [List.getElem?_map, h]; rfl))
  have HM := Lib.hid hm
  have HRL := Lib.hid (show (U.map pOf).length = m from by rw [List.length_map, hm])
  have HEL := Lib.hid (show (U.map eOf).length = m from by rw [List.length_map, hm])
  have HP := Lib.hid fun w' ra rc (h : w'.ownsRow w.heap.size 63 3 (.slice ra m rc) m ((mixP U m).flatMap rvC)) => (show RngO w.heap.size w' (.slice ra m rc) (U.map pOf) from by
    have e := mixP_end U
    rw [hm] at e
    unfold RngO
    rw [List.length_map, hm, ← e]
    exact h)
  have HO := Lib.hid fun k => ofL_point xs U k
  obtain ⟨E, hE⟩ : ∃ E, U.map eOf = E := ⟨_, rfl⟩
  obtain ⟨R, hR⟩ : ∃ R, U.map pOf = R := ⟨_, rfl⟩
  rw [hE] at CV2 HEW HPE HEL
  rw [hR] at HPW HP HRL
  rw [hR, hE] at HO
  clear CV hX hV hxs hxq hvw hk2 hlc hcm ht0 ht1 hU hUl hm hE hR
  go_enter Try.func5, Try.ntmps5
  go_upto_region 2 with (go_at_call 18; refine CF.out.mono ?_; rintro q w1 ⟨g, v2, rfl, hF, hb1⟩; have HF := Lib.hid hF; have HB1 := Lib.hid hb1; have CV3 := Lib.hid (CV2.out w1 hb1); clear hF hb1 CF CV2)
  go_upto_region 3 with (go_at_call 19; refine CV3.out.mono ?_; rintro q w2 ⟨ra, rc, rb, ea, ec, rfl, hR, hE, hb2⟩; have HF2 := Lib.hid (HF.out.below hb2); have HR2 := Lib.hid hR; have HB2 := Lib.hid hb2; have HE0 := Lib.hid hE; clear hR hE hb2 CV3)
  go_upto_region 4 with fail
  go_loopw [31] (fun s31 wr => ∃ (i : Nat), s31 = .int .i64 i ∧ i ≤ m ∧ wr.ownsRow w1.heap.size 63 3 (.slice ra m rc) m ((mixP U i).flatMap rvC) ∧ EnvO w1.heap.size wr (.slice ea m ec) E ∧ Below w1.heap.size w1 wr) (fun s31 _ => m - (intOf s31).toNat)
  case atStart => exact ⟨0, rfl, Nat.zero_le _, HR2.out, HE0.out, HB2.out⟩
  case round =>
    clear HR2 HE0 HB2 HF2
    obtain ⟨i, rfl, hin, hR, hE, hB⟩ := hrel
    by_cases hi2 : i < m
    · have hi2' : (i : Int) < (m : Int) := by omega
      obtain ⟨x, hx⟩ : ∃ x, U[i]? = some x := ⟨_, List.getElem?_eq_getElem (by have := HM.out; omega)⟩
      obtain ⟨gr, rfl, r1, r2, c1, c2, f1, f2⟩ := row_cells hR (mixP_at hx) hi2
      obtain ⟨gE, rfl, e1, e2, e3⟩ := (hE.at (by have := HEL.out; omega)).get (HPE.out i x hx)
      have hne : gr ≠ gE := fun e => by
        have := own_ne hR hE (by decide)
        rcases this with h | h
        · simp [Value.ownBlock] at h
        · simp [Value.ownBlock] at h; exact h e
      have HX := Lib.hid hx
      have HR := Lib.hid hR
      have HE := Lib.hid hE
      have HB := Lib.hid hB
      clear hx hR hE hB
      generalize hn : (eOf x).2 = n at e3
      go_upto_region 6 with fail
      go_wp2_with (go_at_call 15; refine (Point_any _ _).mono ?_; rintro q w3 ⟨rfl, hb3⟩; have c1 := (hb3.cell (p := ⟨gr, i * 3 + 1, none⟩) r2).trans c1; have c2 := (hb3.cell (p := ⟨gr, i * 3 + 2, none⟩) r2).trans c2; have f1 := (hb3.frozen (p := ⟨gr, i * 3 + 1, none⟩) r2).trans f1; have f2 := (hb3.frozen (p := ⟨gr, i * 3 + 2, none⟩) r2).trans f2; have HR3 := Lib.hid (ownsRow_below HR.out hb3); have HE3 := Lib.hid (ownsRow_below HE.out hb3); have HB3 := Lib.hid (HB.out.trans (hb3.mono HB.out.size)))
      refine ⟨⟨i + 1, by go_num, by omega, ?_, ?_, ?_⟩, by simp [intOf]; omega⟩
      · have q := row_put HR3.out (mixP_at HX.out) n n
        have q2 := mixP_set HX.out
        rw [hn] at q2
        rw [← q2]
        exact q
      · exact ownsRow_setCell_other (ownsRow_setCell_other HE3.out (a := ⟨gr, i * 3 + 1, none⟩) (fun e => hne (Option.some.inj e).symm) _) (a := ⟨gr, i * 3 + 1 + 1, none⟩) (fun e => hne (Option.some.inj e).symm) _
      · exact (HB3.out.setCell (p := ⟨gr, i * 3 + 1, none⟩) r1 _).setCell (p := ⟨gr, i * 3 + 1 + 1, none⟩) r1 _
    · obtain rfl : i = m := by omega
      have hi2' : ¬ ((i : Int) < (i : Int)) := by omega
      have HB := Lib.hid (HB1.out.trans (hB.mono HB1.out.size))
      have HF2 := Lib.hid (HF.out.below hB)
      have HR := Lib.hid ((HP.out wr ra rc (row_base hR HB1.out.size)).at (by rw [HRL.out]; omega))
      have HE := Lib.hid (hE.at (by rw [HEL.out]; omega))
      have hrl := HRL.out
      have CO := Lib.hid (Of_any g 0 xs k (.slice ra i rc) R wr HF2.out HK2.out HR.out HXS.out HPW.out)
      have CO : Hid (Calls Try.prog 20 #[.pointer (some ⟨g, 0, none⟩), .int .i64 k, .slice ra i rc] wr fun q w' => q = .returned (.tuple #[.agg #[.int .u64 ((ofL xs k R).getD (0, 0)).1, .int .u64 ((ofL xs k R).getD (0, 0)).2], .bool (ofL xs k R).isSome]) ∧ Below wr.heap.size wr w') := CO
      have CE : Hid (∀ w', Below wr.heap.size wr w' → Calls Try.prog 21 #[.pointer (some ⟨g, 0, none⟩), .int .i64 k, .slice ea i ec] w' fun q w'' => EvalPost xs k E q ∧ Below w'.heap.size w' w'') := Lib.hid fun w' hb => Eval_any g 0 xs k _ E w' (HF2.out.below hb) HK2.out ((HE.out.below hb).mono hb.size) HXS.out HEW.out
      unfold EvalPost at CE
      have LP := Lib.hid (HO.out k)
      rw [LP.out] at CO
      clear LP HO
      generalize evalL xs k E = ev at CE CO
      obtain ⟨gn, ge⟩ := ev
      clear hR hE hB hrl
      by_cases hg : ge = 0
      · subst hg
        have CO : Hid (Calls Try.prog 20 #[.pointer (some ⟨g, 0, none⟩), .int .i64 k, .slice ra i rc] wr fun q w' => q = .returned (.tuple #[.agg #[.int .u64 gn, .int .u64 gn], .bool true]) ∧ Below wr.heap.size wr w') := CO
        go_upto_region 9 with fail
        go_upto_region 10 with (go_at_call 20; refine CO.out.mono ?_; rintro q w3 ⟨rfl, hb3⟩; have CE1 := Lib.hid (CE.out _ (hb3.alloc hb3.size (.cells #[.int .u64 gn, .int .u64 gn] 25))); have HB3 := Lib.hid ((HB.out.trans (hb3.mono HB.out.size)).alloc (Nat.le_trans HB.out.size hb3.size) (.cells #[.int .u64 gn, .int .u64 gn] 25)); have D3 := Lib.hid (show Duo (w3.alloc (.cells #[.int .u64 gn, .int .u64 gn] 25)) w3.heap.size 25 (.int .u64 gn) (.int .u64 gn) from World.alloc_heap_new _ _))
        generalize w3.alloc (.cells #[.int .u64 gn, .int .u64 gn] 25) = W3 at *
        clear hb3 CO CE
        go_upto_region 11 with (go_at_call 21; refine CE1.out.mono ?_; rintro q w4 ⟨rfl, hb4⟩; have HB4 := Lib.hid (HB3.out.trans (hb4.mono HB3.out.size)); have D4 := Lib.hid (Duo.keep D3.out hb4 D3.out.lt); clear hb4 CE1)
        have d0 := D4.out.c0
        have d1 := D4.out.c1
        clear hk hD hl1
        have cW : ∀ d os, Calls Try.prog 11 #[] (Go.Sort.grow (redrawn w4 d) os) fun e w'' => e = .returned (.bool true) ∧ ∃ p : Regrown, w'' = Go.Sort.grow (redrawn w4 p.d) p.os := fun d os => Calls.regrown_of (HW.out _)
        have cP : ∀ d os, Calls Try.prog 15 #[.int .u64 gn] (Go.Sort.grow (redrawn w4 d) os) fun e w'' => e = .returned (.agg #[.int .u64 gn, .int .u64 gn]) ∧ ∃ p : Regrown, w'' = Go.Sort.grow (redrawn w4 p.d) p.os := fun d os => Calls.regrown_of (Point_any gn _)
        have k0 := cell_regrown d0
        have k1 := cell_regrown d1
        refine wp_region_quiet_below (by kernel_rfl) (by kernel_rfl) ?_
        repeat (with_reducible refine wpQuiet_step (fun K hK => ?_); go_simp; first | (with_reducible refine hK _ ?_; clear hK K) | (apply Exists.intro; refine ⟨fun _ => ?_, hK _ ?_⟩; (first | exact cW _ _ | exact cP _ _); clear hK K))
        refine wpQuiet_nil ?_
        intro _ hw'
        obtain ⟨⟨dq, osq⟩, hw''⟩ := hw'
        subst hw''
        go_wp2_with fail
        go_ret
        exact ⟨by simp, HB4.out.trans ((below_regrown w4 dq osq).mono HB4.out.size)⟩
      · have CO : Hid (Calls Try.prog 20 #[.pointer (some ⟨g, 0, none⟩), .int .i64 k, .slice ra i rc] wr fun q w' => q = .returned (.tuple #[.agg #[.int .u64 0, .int .u64 0], .bool false]) ∧ Below wr.heap.size wr w') := by
          simp only [hg, if_false] at CO
          exact CO
        have hgb : (ge == 0) = false := by simpa using hg
        clear hg
        go_upto_region 9 with fail
        go_upto_region 10 with (go_at_call 20; refine CO.out.mono ?_; rintro q w3 ⟨rfl, hb3⟩; have CE1 := Lib.hid (CE.out _ (hb3.alloc hb3.size (.cells #[.int .u64 0, .int .u64 0] 25))); have HB3 := Lib.hid ((HB.out.trans (hb3.mono HB.out.size)).alloc (Nat.le_trans HB.out.size hb3.size) (.cells #[.int .u64 0, .int .u64 0] 25)))
        generalize w3.alloc (.cells #[.int .u64 0, .int .u64 0] 25) = W3 at *
        clear hb3 CO CE
        go_upto_region 11 with (go_at_call 21; refine CE1.out.mono ?_; rintro q w4 ⟨rfl, hb4⟩; have HB4 := Lib.hid (HB3.out.trans (hb4.mono HB3.out.size)); clear hb4 CE1)
        clear hk hD hl1
        have cW : ∀ d os, Calls Try.prog 11 #[] (Go.Sort.grow (redrawn w4 d) os) fun e w'' => e = .returned (.bool true) ∧ ∃ p : Regrown, w'' = Go.Sort.grow (redrawn w4 p.d) p.os := fun d os => Calls.regrown_of (HW.out _)
        refine wp_region_quiet_below (by kernel_rfl) (by kernel_rfl) ?_
        repeat (with_reducible refine wpQuiet_step (fun K hK => ?_); go_simp; first | (with_reducible refine hK _ ?_; clear hK K) | (apply Exists.intro; refine ⟨fun _ => ?_, hK _ ?_⟩; (exact cW _ _); clear hK K))
        refine wpQuiet_nil ?_
        intro _ hw'
        obtain ⟨⟨dq, osq⟩, hw''⟩ := hw'
        subst hw''
        go_wp2_with fail
        go_ret
        exact ⟨by simp, HB4.out.trans ((below_regrown w4 dq osq).mono HB4.out.size)⟩
end Go.Proofs.Ytoengahfkfmfeaa
