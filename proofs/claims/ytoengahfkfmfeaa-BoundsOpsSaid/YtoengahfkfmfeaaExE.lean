/- Layer 10: Eval. -/
import Derived.Test.YtoengahfkfmfeaaExD
set_option linter.unusedVariables false
set_option linter.unusedSimpArgs false
namespace Go.Proofs.Ytoengahfkfmfeaa
open Go.ChangeShapes Go.WideShapes Go.ChangeAt Go.RowKit

theorem getE_mem {e : EnvL} {s : List UInt8} {n : Int} (h : getE e s = some n) : ∃ v ∈ e, v.2 = n := by
  unfold getE at h
  obtain ⟨v, h1, h2⟩ := Option.map_eq_some_iff.1 h
  exact ⟨v, by have := List.mem_of_find?_eq_some h1; simpa using this, h2⟩
theorem evX_w {x : XE} {e : EnvL} {v : Int → Int × Int} (hx : W64 x.n) (he : ∀ u ∈ e, W64 u.2) (hv : ∀ k, W64 (v k).1) : W64 (evX x e v).1 := by
  unfold evX
  split
  · exact hx
  split
  · split
    · exact ⟨by decide, by decide⟩
    · rename_i n hn
      obtain ⟨u, h1, rfl⟩ := getE_mem hn
      exact he u h1
  split
  · exact hv _
  split
  · exact (truth_ok _).1
  split
  · exact hv _
  · exact (op_ok _ (hv _) (hv _)).1
theorem vat_w {V : List (Int × Int)} (h : ∀ p ∈ V, W64 p.1) (k : Int) : W64 (vat V k).1 := by
  unfold vat
  split
  · rw [List.getD_eq_getElem?_getD]
    cases hk : V[k.toNat]? with
    | none => exact ⟨by decide, by decide⟩
    | some p => exact h p (List.mem_of_getElem? hk)
  · exact ⟨by decide, by decide⟩
theorem allX_w {e : EnvL} (he : ∀ u ∈ e, W64 u.2) {xs : List XE} (hx : ∀ x ∈ xs, W64 x.n) : ∀ p ∈ allX xs e, W64 p.1 := by
  induction xs using rev_ind with
  | h0 => intro p hp; exact absurd hp (by simp [allX])
  | hs xs x ih =>
    have ih := ih fun y hy => hx y (by simp [hy])
    intro p hp
    rw [allX_snoc] at hp
    rcases List.mem_append.1 hp with hp | hp
    · exact ih p hp
    · simp at hp
      subst hp
      unfold oneX
      split
      · exact ⟨by decide, by decide⟩
      · split
        · exact evX_w (hx x (by simp)) he (vat_w ih)
        · exact ⟨by decide, by decide⟩
theorem EnvAt.mono {n m : Nat} {w : World} {v : Value} {e : EnvL} (h : EnvAt n w v e) (hm : n ≤ m) : EnvAt m w v e := by
  obtain ⟨a, c, h1, h2, h3⟩ := h
  exact ⟨a, c, h1, h2, fun i x hx => by obtain ⟨k, k1, k2, k3⟩ := h3 i x hx; exact ⟨k, k1, by omega, k3⟩⟩
theorem ValM.eq {w : World} {b n : Nat} {S T : Int → Int × Int} (h : ValM w b n S) (e : ∀ k, S k = T k) : ValM w b n T := by rw [← funext e]; exact h
def EvalPost (xs : List XE) (t : Int) (en : EnvL) (q : Ending) : Prop := q = .returned (.tuple #[.int .u64 (evalL xs t en).1, .int .i64 (evalL xs t en).2])
/-- What is known when j parts have been gone through. -/
def upG (V : List (Int × Int)) (l : List Int) (j : Nat) (k : Int) : Int × Int := if k ∈ l.take j then vat V k else (0, 0)

set_option maxHeartbeats 4000000 in
set_option maxRecDepth 100000 in
theorem Eval_any (g o : Nat) (xs : List XE) (t : Int) (sv : Value) (e : EnvL) (w : World) (hF : FileX w g o xs) (ht : -9223372036854775808 ≤ t ∧ t ≤ 9223372036854775807) (hE : EnvAt w.heap.size w sv e) (hx : ∀ x ∈ xs, W64 x.n) (he : ∀ u ∈ e, W64 u.2) :
    Calls Try.prog 21 #[.pointer (some ⟨g, o, none⟩), .int .i64 t, sv] w fun q w' => EvalPost xs t e q ∧ Below w.heap.size w w' := by
  have hlen : xs.length < 1000000000000 := by obtain ⟨v, h1, h2, a, c, h3, h4, h5⟩ := hF; exact h4
  obtain ⟨fa, fc, cf, hX⟩ := hF.look
  have hg : g < w.heap.size := by obtain ⟨v, h1, _⟩ := hF; exact h1
  have hmm := @run_makeMap Try.prog
  have CP := Lib.hid (parts_any g o xs t w hF ht)
  have HX := Lib.hid hX
  have HE := Lib.hid hE
  have HW := Lib.hid (vat_w (allX_w he hx))
  have hv : ∃ a l c, sv = .slice a l c := by obtain ⟨a, c, rfl, _⟩ := hE; exact ⟨_, _, _, rfl⟩
  obtain ⟨sa, sl, sc, rfl⟩ := hv
  have PO : Hid (∀ q, q = (.returned (.tuple #[.int .u64 (evalL xs t e).1, .int .i64 (evalL xs t e).2]) : Ending) → EvalPost xs t e q) := Lib.hid fun q h => h
  generalize hPP : EvalPost xs t e = PP at PO ⊢
  clear hPP hX hF hE
  go_enter Try.func21, Try.ntmps21
  go_wp2_with (go_at_call 33; refine CP.out.mono ?_; rintro q w1 ⟨⟨l, v, rfl, hP, a, c, rfl, hl, hK⟩ | ⟨rfl, hno⟩, hb⟩; rotate_left; (have HNO := Lib.hid hno; have HB := Lib.hid hb; clear hno hb); rotate_left; (have HP := Lib.hid hP; have HK := Lib.hid (show KidR w1 (.slice a l.length c) l from ⟨a, c, rfl, hl, hK⟩); have HB := Lib.hid hb; clear hP hK hb))
  · have M1 := Lib.hid (ValM.made w1)
    have B1 := Lib.hid ((Below.refl w1.heap.size w1).alloc (Nat.le_refl _) (.map #[] 0))
    generalize w1.alloc (.map #[] 0) = W1 at M1 B1 ⊢
    go_loopw [26] (fun s26 wr => ∃ (j : Nat), s26 = .int .i64 j ∧ j ≤ l.length ∧ ValM wr w1.heap.size j (upG (allX xs e) l j) ∧ Below w1.heap.size w1 wr) (fun s26 _ => l.length - (intOf s26).toNat)
    case atStart => exact ⟨0, rfl, Nat.zero_le _, by
      obtain ⟨D, h1, h2⟩ := M1.out
      exact ⟨D, h1, fun k => by rw [h2]; simp [upG]⟩, B1.out⟩
    case round =>
      clear M1 B1
      obtain ⟨j, rfl, hj, hM, hB⟩ := hrel
      have hBw := HB.out.trans (hB.mono HB.out.size)
      by_cases hjl : j < l.length
      · obtain ⟨y, hy⟩ : ∃ y, l[j]? = some y := ⟨_, List.getElem?_eq_getElem hjl⟩
        obtain ⟨hy0, hyt, x, ks, hx', ho, hkk⟩ := HP.out.all j y hy
        obtain ⟨m, rfl⟩ : ∃ m : Nat, y = (m : Int) := ⟨y.toNat, by omega⟩
        rw [show ((m : Int)).toNat = m from rfl] at hx'
        obtain ⟨fk, fv, rfl, fkl, x0, x1, x2, x3, x4, xk⟩ := HX.out.at hx'
        replace x0 := (hBw.cell (p := ⟨fk, _, none⟩) fkl).trans x0
        replace x1 := (hBw.cell (p := ⟨fk, _, none⟩) fkl).trans x1
        replace x2 := (hBw.cell (p := ⟨fk, _, none⟩) fkl).trans x2
        replace x3 := (hBw.cell (p := ⟨fk, _, none⟩) fkl).trans x3
        replace x4 := (hBw.cell (p := ⟨fk, _, none⟩) fkl).trans x4
        have cf' := (hBw.cell (p := ⟨g, o + 2, none⟩) hg).trans cf
        obtain ⟨p, rfl, ck, r1, r2⟩ := kid_at HK.out hy
        have ck2 := (hB.cell (World.block_lt_of_cell? w1 _ ck)).trans ck
        have hG : ∀ k, W64 (upG (allX xs e) l j k).1 := fun k => by
          unfold upG
          split
          · exact HW.out k
          · exact ⟨by decide, by decide⟩
        have hval : evX x e (upG (allX xs e) l j) = vat (allX xs e) m := by
          rw [val_eq e hx' (HP.out.ok e _ (List.mem_of_getElem? hy))]
          exact evX_congr ho fun k hk => by unfold upG; rw [if_pos (hkk k hk).2.2]
        have CE := Lib.hid (evaluate_any x fv e (.slice sa sl sc) w1.heap.size j (upG (allX xs e) l j) wr (xk.below (hBw.mono (Nat.le_refl _))) ((HE.out.below hBw).mono hBw.size) hM (by rw [ho]; rfl) fun k _ => hG k)
        have CE2 : Hid (Calls Try.prog 34 #[.agg #[.int .i64 x.k, .string (bs x.op), .int .u64 x.n, .string (bs x.s), fv], .slice sa sl sc, .map (some w1.heap.size)] wr fun q w' => q = .returned (.agg #[.int .u64 (vat (allX xs e) m).1, .int .i64 (vat (allX xs e) m).2]) ∧ Below wr.heap.size wr w') := Lib.hid (by
          have := CE.out
          unfold EvPost at this
          rw [hval] at this
          exact this)
        have hmx : (m : Int) < (xs.length : Int) := by have := (List.getElem?_eq_some_iff.1 hx').1; omega
        have hjl' : (j : Int) < (l.length : Int) := by omega
        have HY := Lib.hid hy
        have HM := Lib.hid hM
        have HBB := Lib.hid hB
        clear hy hM hB hBw hval CE hG hkk ho xk
        generalize hvv : vat (allX xs e) m = vv at CE2
        go_wp2_with (go_at_call 34; refine CE2.out.mono ?_; rintro q w3 ⟨rfl, hb3⟩; obtain ⟨w4, hrun, hS4, hg4⟩ := (HM.out.below hb3 HM.out.lt).put (by unfold maxLen; omega) ⟨r1, r2⟩ vv; have HB4 := Lib.hid ((HBB.out.trans (hb3.mono HBB.out.size)).grown hg4 (Nat.le_trans HBB.out.size hb3.size) (fun z hz => by cases hz; exact Nat.le_refl _)); have HS4 := Lib.hid hS4; clear hb3 hS4 hg4)
        refine ⟨⟨j + 1, by go_num, by omega, HS4.out.eq fun k => ?_, HB4.out⟩, by simp [intOf]; omega⟩
        unfold upG
        rw [List.take_add_one, HY.out]
        by_cases hkm : k = (m : Int)
        · subst hkm
          simp [hvv]
        · simp [hkm]
      · obtain rfl : j = l.length := by omega
        have hv1 : upG (allX xs e) l l.length t = evalL xs t e := by unfold upG; rw [List.take_length, if_pos HP.out.mem]; rfl
        have LE : ∀ n, (Instr.lookup 93 (.map (some w1.heap.size)) (.int .i64 t) false).run Try.prog (wr.drewN n) = .ok (.agg #[.int .u64 (evalL xs t e).1, .int .i64 (evalL xs t e).2]) (wr.drewN n) := fun n => by
          have := (show ValM (wr.drewN n) _ _ _ from hM).look ht
          rw [hv1] at this
          exact this
        have ro0 := run_out0
        have ro1 := run_out1
        have hjl' : ¬ ((l.length : Int) < (l.length : Int)) := by omega
        have HBW := Lib.hid hBw
        clear hM hB hBw hv1
        generalize evalL xs t e = ev at LE PO
        go_wp2_with fail
        go_quiet (fail)
        go_wp2_with fail
        go_ret2
        exact ⟨PO.out _ rfl, bdrewN HBW.out _⟩
  · go_ret2
    exact ⟨PO.out _ (by rw [HNO.out e]; rfl), HB.out⟩
end Go.Proofs.Ytoengahfkfmfeaa
