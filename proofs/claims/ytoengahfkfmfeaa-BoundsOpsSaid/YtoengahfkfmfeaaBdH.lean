/- Layer 11: Of. -/
import Derived.Test.YtoengahfkfmfeaaBdG
set_option linter.unusedVariables false
set_option linter.unusedSimpArgs false
namespace Go.Proofs.Ytoengahfkfmfeaa
open Go.ChangeShapes Go.WideShapes Go.ChangeAt Go.RowKit

theorem evaluable_any (g o : Nat) (xs : List XE) (t : Int) (w : World) (hF : FileX w g o xs) (ht : -9223372036854775808 ≤ t ∧ t ≤ 9223372036854775807) (hx : ∀ x ∈ xs, W64 x.n) :
    Calls Try.prog 30 #[.pointer (some ⟨g, o, none⟩), .int .i64 t] w fun e w' => e = .returned (.bool ((evalL xs t []).2 != 2)) ∧ Below w.heap.size w w' := by
  have C := Lib.hid (Eval_any g o xs t (.slice none 0 0) [] w hF ht ⟨none, 0, rfl, by simp, fun i x hx => by simp at hx⟩ hx (fun u hu => by simp at hu))
  unfold EvalPost at C
  generalize evalL xs t [] = r at C ⊢
  clear hF ht hx
  go_enter Try.func30, Try.ntmps30
  go_wp2_with (go_at_call 21; refine C.out.mono ?_; rintro q w2 ⟨rfl, hb⟩)
  go_ret
  exact ⟨rfl, hb⟩
/-- What is known when j parts have been gone through. -/
def upB (V : List (Option (Int × Int))) (l : List Int) (j : Nat) (k : Int) : Int × Int := if k ∈ l.take j then (rat V k).getD (0, 0) else (0, 0)
theorem name_valid {R : RngL} (hR : ∀ u ∈ R, WR u.2) (s : List UInt8) (r : Int × Int) (h : nameB R s = some r) : WR r ∧ r.1 ≤ r.2 := by
  unfold nameB at h
  obtain ⟨q, h1, h2⟩ := Option.bind_eq_some_iff.1 h
  split at h2
  · cases h2
    unfold getB at h1
    obtain ⟨u, h3, rfl⟩ := Option.map_eq_some_iff.1 h1
    exact ⟨hR u (by have := List.mem_of_find?_eq_some h3; simpa using this), by assumption⟩
  · cases h2
theorem upB_w {xs : List XE} {R : RngL} (hx : ∀ x ∈ xs, W64 x.n) (hR : ∀ u ∈ R, WR u.2) (l : List Int) (j : Nat) (k : Int) : WR (upB (allB xs R) l j k) := by
  unfold upB
  split
  · cases h : rat (allB xs R) k with
    | none => exact ⟨W0, W0⟩
    | some r => exact (rat_ok hx (name_valid hR) k r h).1
  · exact ⟨W0, W0⟩
theorem KidR.map {w w' : World} {v : Value} {l : List Int} {b n : Nat} {G : Int → Int × Int} (h : KidR w v l) (hg : w.grownBy w' (some b)) (hm : RngM w b n G) : KidR w' v l := by
  obtain ⟨D, ⟨es, clock, q1, -⟩, -⟩ := hm
  obtain ⟨a, c, h1, h2, h3⟩ := h
  refine ⟨a, c, h1, h2, fun j x hx => ?_⟩
  obtain ⟨⟨p, p1, p2, p3⟩, p4⟩ := h3 j x hx
  have hne : p.block ≠ b := fun e => by
    have : w.heap[(p.add j).block]? = some (.map es clock) := by rw [addr_block, e]; exact q1
    unfold World.cell? at p3
    rw [this] at p3
    cases p3
  refine ⟨⟨p, p1, Nat.lt_of_lt_of_le p2 hg.size, (World.cell?_of_block (by rw [addr_block]; exact hg.block _ p2 (fun e => hne (Option.some.inj e)))).trans p3⟩, p4⟩
theorem RngAt.mono {n m : Nat} {w : World} {v : Value} {e : RngL} (h : RngAt n w v e) (hm : n ≤ m) : RngAt m w v e := by
  obtain ⟨a, c, h1, h2, h3⟩ := h
  exact ⟨a, c, h1, h2, fun i x hx => by obtain ⟨k, k1, k2, k3⟩ := h3 i x hx; exact ⟨k, k1, by omega, k3⟩⟩
set_option maxHeartbeats 4000000 in
set_option maxRecDepth 100000 in
theorem Of_any (g o : Nat) (xs : List XE) (t : Int) (sv : Value) (R : RngL) (w : World) (hF : FileX w g o xs) (ht : -9223372036854775808 ≤ t ∧ t ≤ 9223372036854775807) (hE : RngAt w.heap.size w sv R) (hx : ∀ x ∈ xs, W64 x.n) (hR : ∀ u ∈ R, WR u.2) :
    Calls Try.prog 20 #[.pointer (some ⟨g, o, none⟩), .int .i64 t, sv] w fun q w' => q = optE (ofL xs t R) ∧ Below w.heap.size w w' := by
  have hlen : xs.length < 1000000000000 := by obtain ⟨v, h1, h2, a, c, h3, h4, h5⟩ := hF; exact h4
  have hg : g < w.heap.size := by obtain ⟨v, h1, _⟩ := hF; exact h1
  have hmm := @run_makeMap Try.prog
  have hv : ∃ a l c, sv = .slice a l c := by obtain ⟨a, c, rfl, _⟩ := hE; exact ⟨_, _, _, rfl⟩
  obtain ⟨sa, sl, sc, rfl⟩ := hv
  have HW := Lib.hid (upB_w hx hR)
  have D0 := Lib.hid (show Duo (w.alloc (.cells #[.int .u64 0, .int .u64 0] 25)) w.heap.size 25 (.int .u64 0) (.int .u64 0) from World.alloc_heap_new _ _)
  have hb0 := (Below.refl w.heap.size w).alloc (Nat.le_refl _) (.cells #[.int .u64 0, .int .u64 0] 25)
  have hF0 := hF.below hb0
  have hE0 := hE.below hb0
  have hsz : (w.alloc (.cells #[.int .u64 0, .int .u64 0] 25)).heap.size = w.heap.size + 1 := by simp
  have CE := Lib.hid (evaluable_any g o xs t _ hF0 ht hx)
  have HF := Lib.hid hF0
  have HE := Lib.hid hE0
  have HB0 := Lib.hid hb0
  have HT := Lib.hid ht
  clear hF hE hF0 hE0 hb0 ht
  by_cases hok : (evalL xs t []).2 = 2
  · have e1 : ofL xs t R = none := by unfold ofL; rw [if_pos hok]
    rw [e1]
    rw [hok] at CE
    go_enter Try.func20, Try.ntmps20
    go_upto_region 1 with fail
    generalize w.alloc (.cells #[.int .u64 0, .int .u64 0] 25) = W at *
    have CE2 : Hid (Calls Try.prog 30 #[.pointer (some ⟨g, o, none⟩), .int .i64 t] W fun e w' => e = .returned (.bool false) ∧ Below W.heap.size W w') := CE
    go_wp2_with (go_at_call 30; refine CE2.out.mono ?_; rintro q w1 ⟨rfl, hb⟩; have D1 := Duo.keep D0.out hb (by omega); have d0 := D1.c0; have d1 := D1.c1; have f0 := Duo.fz D1 0; have f1 := Duo.fz D1 1; have B1 := Lib.hid (HB0.out.trans (hb.mono HB0.out.size)); have D1 := Lib.hid D1; clear hb)
    have q := Duo.sets D1.out (.int .u64 0) (.int .u64 0)
    exact bodyPost_ret (v := .tuple #[.agg #[.int .u64 0, .int .u64 0], .bool false]) (by simp [results, Try.results20, go_sem, q.c0, q.c1]) rfl ⟨rfl, bset2 B1.out (Nat.le_refl _) _ _⟩
  · have e1 : ofL xs t R = rat (allB xs R) t := by unfold ofL; rw [if_neg hok]
    rw [e1]
    have hne : ((evalL xs t []).2 != 2) = true := by simpa using hok
    rw [hne] at CE
    clear hne
    have HOK := Lib.hid hok
    have ht2 : 0 ≤ t ∧ t < (xs.length : Int) := by have := vat_past hok; rw [allX_len] at this; exact this
    obtain ⟨V, hV⟩ : ∃ V, allB xs R = V := ⟨_, rfl⟩
    rw [hV]
    go_enter Try.func20, Try.ntmps20
    go_upto_region 1 with fail
    generalize w.alloc (.cells #[.int .u64 0, .int .u64 0] 25) = W at *
    clear hok e1
    obtain ⟨fa, fc, cf, hX⟩ := HF.out.look
    have HX := Lib.hid hX
    clear hX
    go_upto_region 4 with (go_at_call 30; refine CE.out.mono ?_; rintro q w1 ⟨rfl, hb⟩; have hs1 := hb.size; have BW1 := Lib.hid (hb.alloc hs1 (.map #[] 0)); have M1 := Lib.hid (RngM.made w1); have hs2 : (w1.alloc (.map #[] 0)).heap.size = w1.heap.size + 1 := (by simp))
    generalize hmb : w1.heap.size = mb at *
    generalize w1.alloc (.map #[] 0) = W1 at *
    have CP := Lib.hid (partsB_any g o xs t W1 (HF.out.below BW1.out) HT.out HOK.out)
    go_wp2_with (go_at_call 31; refine CP.out.mono ?_; rintro q w2 ⟨⟨l, v, rfl, hP, hK⟩, hb2⟩; obtain ⟨la, lc, rfl, -, -⟩ := id hK; have HP := Lib.hid hP; have HK := Lib.hid hK; have M2 := Lib.hid (M1.out.below hb2 (by omega)); have BW := Lib.hid (BW1.out.trans (hb2.mono (by omega))); have hs3 := hb2.size; clear hb2 hP hK)
    have hgW : g < W.heap.size := by omega
    have hln : (l.length : Int) ≤ 1000000000000 := by have := HP.out.ps.len; omega
    clear ht2
    clear hb CP CE
    go_loopw [27] (fun s27 wr => ∃ (j : Nat), s27 = .int .i64 j ∧ j ≤ l.length ∧ RngM wr mb j (upB V l j) ∧ (∀ k ∈ l.take j, ∃ r, rat V k = some r) ∧ KidR wr (.slice la l.length lc) l ∧ Below mb w2 wr) (fun s27 _ => l.length - (intOf s27).toNat)
    case atStart => exact ⟨0, rfl, Nat.zero_le _, M2.out.eq fun k => by simp [upB], by simp, HK.out, Below.refl _ _⟩
    case round =>
      clear M1 M2 HK
      obtain ⟨j, rfl, hj, hM, hS, hK, hB⟩ := hrel
      have hBW : Below W.heap.size W wr := BW.out.trans (hB.mono (by omega))
      have hb0 : Below w.heap.size w wr := HB0.out.trans (hBW.mono (by omega))
      have hD : Duo wr w.heap.size 25 (.int .u64 0) (.int .u64 0) := Duo.keep D0.out hBW (by omega)
      by_cases hjl : j < l.length
      · obtain ⟨y, hy⟩ : ∃ y, l[j]? = some y := ⟨_, List.getElem?_eq_getElem hjl⟩
        obtain ⟨hy0, hyt, x, ks, hx', ho, hkk⟩ := HP.out.ps.all j y hy
        obtain ⟨m, rfl⟩ : ∃ m : Nat, y = (m : Int) := ⟨y.toNat, by omega⟩
        rw [show ((m : Int)).toNat = m from rfl] at hx'
        obtain ⟨fk, fv, rfl, fkl, x0, x1, x2, x3, x4, xk⟩ := HX.out.at hx'
        replace x0 := (hBW.cell (p := ⟨fk, _, none⟩) fkl).trans x0
        replace x1 := (hBW.cell (p := ⟨fk, _, none⟩) fkl).trans x1
        replace x2 := (hBW.cell (p := ⟨fk, _, none⟩) fkl).trans x2
        replace x3 := (hBW.cell (p := ⟨fk, _, none⟩) fkl).trans x3
        replace x4 := (hBW.cell (p := ⟨fk, _, none⟩) fkl).trans x4
        have cf' := (hBW.cell (p := ⟨g, o + 2, none⟩) hgW).trans cf
        obtain ⟨p, rfl, ck, r1, r2⟩ := kid_at hK hy
        have hkb : ∀ k ∈ ks, 0 ≤ k ∧ k < (m : Int) := fun k hk => ⟨(hkk k hk).1, (hkk k hk).2.1⟩
        have hval : ofX x R (fun k => some (upB V l j k)) = rat V m := by
          rw [← hV, rat_eq R hx' ho hkb]
          refine ofX_congr ho fun k hk => ?_
          obtain ⟨r, hr⟩ := hS k (hkk k hk).2.2
          rw [hV, hr]
          unfold upB
          rw [if_pos (hkk k hk).2.2, hr]; rfl
        have hm0 := HP.out.ps.all j _ hy
        have CR := Lib.hid (rangeOf_any x fv R (.slice sa sl sc) mb j (upB V l j) wr (xk.below hBW) ((HE.out.below (hBW.mono (by omega))).mono hb0.size) hM (by rw [ho]; rfl) (by rw [← hV]; exact HW.out l j))
        have CR2 : Hid (Calls Try.prog 32 #[.agg #[.int .i64 x.k, .string (bs x.op), .int .u64 x.n, .string (bs x.s), fv], .slice sa sl sc, .map (some mb)] wr fun q w' => (∃ u v, q = .returned (.tuple #[.agg #[.int .u64 u, .int .u64 v], .bool (rat V m).isSome]) ∧ ∀ r, rat V m = some r → r = (u, v)) ∧ Below wr.heap.size wr w') := Lib.hid (by
          have := CR.out
          unfold RangePost at this
          rw [hval] at this
          exact this)
        have hmx : (m : Int) < (xs.length : Int) := by have := (List.getElem?_eq_some_iff.1 hx').1; omega
        have hjl' : (j : Int) < (l.length : Int) := by omega
        have HY := Lib.hid hy
        have HM := Lib.hid hM
        have HS := Lib.hid hS
        have HKd := Lib.hid hK
        have HB := Lib.hid hB
        have HB1 := Lib.hid hb0
        have HD := Lib.hid hD
        have hwr : w.heap.size < wr.heap.size := hD.lt
        have hmw := hM.lt
        clear hy hM hS hK hB hb0 hD hval CR hkk ho xk hm0 hkb hBW
        cases hrm : rat V m with
        | none =>
          rw [hrm] at CR2
          go_wp2_with (go_at_call 32; refine CR2.out.mono ?_; rintro q w3 ⟨⟨u, v, rfl, -⟩, hb3⟩; have D3 := Duo.keep (Duo.keep HD.out hb3 hwr) ((Below.refl w3.heap.size w3).alloc (Nat.le_refl _) (.cells #[.int .u64 u, .int .u64 v] 25)) (Nat.lt_of_lt_of_le hwr hb3.size); have d0 := D3.c0; have d1 := D3.c1; have f0 := Duo.fz D3 0; have f1 := Duo.fz D3 1; have B3 := Lib.hid ((HB1.out.trans (hb3.mono HB1.out.size)).alloc (Nat.le_trans HB1.out.size hb3.size) (.cells #[.int .u64 u, .int .u64 v] 25)); have D3 := Lib.hid D3; clear hb3)
          have q := Duo.sets D3.out (.int .u64 0) (.int .u64 0)
          have hn : rat (allB xs R) t = none := HP.out.up.none R (fun y hy => by obtain ⟨i, hi⟩ := List.getElem?_of_mem hy; have := HP.out.ps.all i y hi; exact ⟨this.1, this.2.1⟩) (t.toNat + 1) m (List.mem_of_getElem? HY.out) (by omega) (by rw [hV]; exact hrm)
          rw [hV] at hn
          exact bodyPost_ret (v := .tuple #[.agg #[.int .u64 0, .int .u64 0], .bool false]) (by simp [results, Try.results20, go_sem, q.c0, q.c1]) rfl ⟨by rw [hn]; rfl, bset2 B3.out (Nat.le_refl _) _ _⟩
        | some r =>
          rw [hrm] at CR2
          obtain ⟨ra, rb⟩ := r
          have CR3 : Hid (Calls Try.prog 32 #[.agg #[.int .i64 x.k, .string (bs x.op), .int .u64 x.n, .string (bs x.s), fv], .slice sa sl sc, .map (some mb)] wr fun q w' => q = .returned (.tuple #[.agg #[.int .u64 ra, .int .u64 rb], .bool true]) ∧ Below wr.heap.size wr w') := Lib.hid (CR2.out.mono fun q w' ⟨⟨u, v, h1, h2⟩, h3⟩ => by
            have := h2 _ rfl
            cases this
            exact ⟨h1, h3⟩)
          clear CR2
          go_wp2_with (go_at_call 32; refine CR3.out.mono ?_; rintro q w3 ⟨rfl, hb3⟩; have hb4 := hb3.alloc hb3.size (.cells #[.int .u64 ra, .int .u64 rb] 25); have E3 : Duo (w3.alloc (.cells #[.int .u64 ra, .int .u64 rb] 25)) w3.heap.size 25 (.int .u64 ra) (.int .u64 rb) := World.alloc_heap_new _ _; have e0 := E3.c0; have e1 := E3.c1; obtain ⟨w5, hrun, hS5, hg5⟩ := (HM.out.below hb4 hmw).put (by unfold maxLen; omega) ⟨r1, r2⟩ (ra, rb); have HM4 := Lib.hid (HM.out.below hb4 hmw); have HB5 := Lib.hid ((HB.out.trans (hb4.mono (Nat.le_trans (by omega) HB.out.size))).grown hg5 (Nat.le_trans (by omega) (Nat.le_trans HB.out.size hb4.size)) (fun z hz => by cases hz; exact Nat.le_refl _)); have HS5 := Lib.hid hS5; have HK5 := Lib.hid ((HKd.out.below hb4).map hg5 HM4.out); clear hb3 hb4 hS5 hg5 E3)
          refine ⟨⟨j + 1, by go_num, by omega, HS5.out.eq fun k => ?_, fun k hk => ?_, HK5.out, HB5.out⟩, by simp [intOf]; omega⟩
          · unfold upB
            rw [List.take_add_one, HY.out]
            by_cases hkm : k = (m : Int)
            · subst hkm
              simp [hrm]
            · simp [hkm]
          · rw [List.take_add_one, HY.out] at hk
            rcases List.mem_append.1 hk with hk | hk
            · exact HS.out k hk
            · simp at hk; subst hk; exact ⟨_, hrm⟩
      · obtain rfl : j = l.length := by omega
        rw [List.take_length] at hS
        obtain ⟨r, hr⟩ := hS t HP.out.ps.mem
        have hv1 : upB V l l.length t = r := by unfold upB; rw [List.take_length, if_pos HP.out.ps.mem, hr]; rfl
        have LK := hM.look HT.out
        rw [hv1] at LK
        have HR := Lib.hid hr
        have hjl' : ¬ ((l.length : Int) < (l.length : Int)) := by omega
        have d0 := hD.c0
        have d1 := hD.c1
        have f0 := Duo.fz hD 0
        have f1 := Duo.fz hD 1
        have HD := Lib.hid hD
        have HB := Lib.hid hb0
        clear hM hS hK hB hBW hb0 hD hv1 hr
        go_wp2_with fail
        have q := Duo.sets HD.out (.int .u64 r.1) (.int .u64 r.2)
        exact bodyPost_ret (v := .tuple #[.agg #[.int .u64 r.1, .int .u64 r.2], .bool true]) (by simp [results, Try.results20, go_sem, q.c0, q.c1]) rfl ⟨by rw [HR.out]; rfl, bset2 HB.out (Nat.le_refl _) _ _⟩
end Go.Proofs.Ytoengahfkfmfeaa
