/- The walk of the law LexBack. -/
import Derived.Test.YtioddoojjmeknaaDoorLexO
import Derived.Test.YtioddoojjmeknaaDoorLexY
import Derived.Deep.QuietTactic
import Derived.Deep.RegionWith
namespace Go.Proofs.YtioddoojjmeknaaDoor
open Go.ChangeShapes Go.WideShapes Go.ChangeAt Go.RowKit
set_option linter.unusedVariables false

theorem lex_had {s : ByteArray} {r : LR} (h : lexL s.data.toList = r) (w : World) (hE : Env w) :
    Calls Tryd.prog 8 #[.string s] w fun e w' => ∃ a c, e = .returned (.tuple #[.slice a r.toks.length c, .agg #[.int .i64 r.pos.1, .int .i64 r.pos.2], .int .i64 r.err]) ∧ TkS w' a r.toks ∧ Below w.heap.size w w' := by
  subst h
  refine (Lex_any s w hE).mono ?_
  rintro e w' ⟨v, rfl, hT, hb⟩
  obtain ⟨a, c, rfl⟩ := hT.shape
  exact ⟨a, c, rfl, hT.rd, hb⟩
/-- Block g holds tokens, but for their places. -/
def MS (w : World) (g : Nat) (us : List Tok) : Prop := (∀ j, w.frozen? ⟨g, j, none⟩ = false) ∧ g < w.heap.size ∧ ∀ i t, us[i]? = some t →
  w.cell? ⟨g, i * 5, none⟩ = some (.int .i64 t.tk.k) ∧ w.cell? ⟨g, i * 5 + 1, none⟩ = some (.string (bs t.tk.t)) ∧ w.cell? ⟨g, i * 5 + 2, none⟩ = some (.int .u64 t.tk.n) ∧
  (∃ v, w.cell? ⟨g, i * 5 + 3, none⟩ = some v) ∧ ∃ v, w.cell? ⟨g, i * 5 + 4, none⟩ = some v
theorem lex_own {s : ByteArray} {us : List Tok} (h : lexL s.data.toList = .ok us) (hne : us ≠ []) (w : World) (hE : Env w) :
    Calls Tryd.prog 8 #[.string s] w fun e w' => ∃ g c, e = .returned (.tuple #[.slice (some ⟨g, 0, none⟩) us.length c, .agg #[.int .i64 0, .int .i64 0], .int .i64 0]) ∧ w.heap.size ≤ g ∧ MS w' g us ∧ Below w.heap.size w w' := by
  have := Lex_any s w hE
  rw [h] at this
  refine this.mono ?_
  rintro e w' ⟨v, rfl, hT, hb⟩
  have hT : Toks _ w.heap.size w' v us := hT
  rcases hT.form with ⟨_, e⟩ | ⟨g, cap, rfl⟩
  · exact absurd e hne
  · refine ⟨g, cap, rfl, (hT.lt g rfl).1, ⟨fun j => World.ownsRow.frozenAt hT j, (hT.lt g rfl).2, fun i t ht => ?_⟩, hb⟩
    obtain ⟨g2, e2, _, c0, c1, c2, c3, c4⟩ := hT.rd i t ht
    cases e2
    exact ⟨c0, c1, c2, ⟨_, c3⟩, _, c4⟩
theorem MS.set {w : World} {g : Nat} {us : List Tok} (h : MS w g us) {j : Nat} (hj : 3 ≤ j % 5) (u : Value) : MS (w.setCell ⟨g, j, none⟩ u) g us := by
  obtain ⟨h1, h2, h3⟩ := h
  refine ⟨fun i => by simp [h1 i], by simpa using h2, fun i t ht => ?_⟩
  obtain ⟨c0, c1, c2, ⟨v3, c3⟩, v4, c4⟩ := h3 i t ht
  have o : ∀ d, d ≠ j → (w.setCell ⟨g, j, none⟩ u).cell? ⟨g, d, none⟩ = w.cell? ⟨g, d, none⟩ := fun d hd => World.cell?_setCell_other _ _ _ _ (fun e => hd (by cases e; rfl))
  refine ⟨(o _ (by omega)).trans c0, (o _ (by omega)).trans c1, (o _ (by omega)).trans c2, ?_, ?_⟩
  · by_cases e : i * 5 + 3 = j
    · subst e; exact ⟨u, World.cell?_setCell_same _ _ _ c3⟩
    · exact ⟨v3, (o _ e).trans c3⟩
  · by_cases e : i * 5 + 4 = j
    · subst e; exact ⟨u, World.cell?_setCell_same _ _ _ c4⟩
    · exact ⟨v4, (o _ e).trans c4⟩
theorem MS.keep {w w' : World} {g : Nat} {us : List Tok} (h : MS w g us) (hb : Below w.heap.size w w') : MS w' g us := by
  obtain ⟨h1, h2, h3⟩ := h
  have k : ∀ (a : Addr) v, w.cell? a = some v → w'.cell? a = some v := fun a v e => (hb.cell (World.block_lt_of_cell? w a e)).trans e
  refine ⟨fun j => ?_, Nat.lt_of_lt_of_le h2 hb.size, fun i t ht => ?_⟩
  · have := h1 j
    unfold World.frozen? at this ⊢
    rw [hb.block g h2]
    exact this
  · obtain ⟨c0, c1, c2, ⟨v3, c3⟩, v4, c4⟩ := h3 i t ht
    exact ⟨k _ _ c0, k _ _ c1, k _ _ c2, ⟨_, k _ _ c3⟩, _, k _ _ c4⟩
theorem TkS.set {w : World} {a : Option Addr} {l : List Tok} (h : TkS w a l) {g j : Nat} (hg : ∀ b, a = some b → b.block ≠ g) (u : Value) : TkS (w.setCell ⟨g, j, none⟩ u) a l := by
  intro i t ht
  obtain ⟨g2, rfl, h2, c⟩ := h i t ht
  have o : ∀ d, (w.setCell ⟨g, j, none⟩ u).cell? ⟨g2, d, none⟩ = w.cell? ⟨g2, d, none⟩ := fun d => World.cell?_setCell_other _ _ _ _ (fun e => hg _ rfl (by cases e; rfl))
  exact ⟨g2, rfl, by simpa using h2, by rw [o, o, o, o, o]; exact c⟩
theorem lexL_ne {s : List UInt8} {ts : List Tok} (h : lexL s = .ok ts) : ts ≠ [] := by
  unfold lexL at h
  split at h
  · cases h
  · obtain ⟨Vs, e, _⟩ := lexG_good _ _ _ s ts (Nat.le_refl _) h
    rintro rfl
    simp at e
theorem lexG_err : ∀ (n : Nat) (b : Bool) (p : Ps) (l : List UInt8), l.length ≤ n → ∀ q e, lexG b p l = .bad q e → e ≠ 0 := by
  intro n
  induction n with
  | zero =>
    intro b p l hl q e h
    obtain rfl : l = [] := List.eq_nil_of_length_eq_zero (by omega)
    rw [lexG_nil] at h
    cases h
  | succ n ih =>
    intro b p l hl q e h
    have hs := skipM_len b l
    rw [lexG_eq b p] at h
    by_cases he : (firstL (skipM b l)).2 ≠ 0
    · rw [if_pos he] at h
      cases h
      exact he
    · rw [if_neg he] at h
      by_cases h3 : (firstL (skipM b l)).1.k = 3
      · rw [if_pos h3] at h
        cases h
      · rw [if_neg h3] at h
        have hne : skipM b l ≠ [] := fun e => h3 (by rw [e]; rfl)
        have hd := drop_lt (by simpa using he) hne
        have i2 := ih false (posL (posL p (l.take (l.length - (skipM b l).length))) (firstL (skipM b l)).1.t) ((skipM b l).drop (firstL (skipM b l)).1.t.length) (by omega)
        generalize lexG false (posL (posL p (l.take (l.length - (skipM b l).length))) (firstL (skipM b l)).1.t) ((skipM b l).drop (firstL (skipM b l)).1.t.length) = R at i2 h
        cases R with
        | ok u => cases h
        | bad q' e' => cases h; exact i2 _ _ rfl
theorem lexL_err {s : List UInt8} {q : Ps} {e : Nat} (h : lexL s = .bad q e) : e ≠ 0 := by
  unfold lexL at h
  split at h
  · cases h; decide
  · exact lexG_err _ false (1, 1) s (Nat.le_refl _) q e h
theorem TkS_lt {w : World} {a : Option Addr} {l : List Tok} (h : TkS w a l) (hne : l ≠ []) : ∀ b, a = some b → b.block < w.heap.size := by
  intro b hb
  cases l with
  | nil => exact absurd rfl hne
  | cons t r =>
    obtain ⟨g, rfl, hg, _⟩ := h 0 t rfl
    cases hb
    exact hg
set_option maxHeartbeats 4000000 in
set_option maxRecDepth 100000 in
theorem LexBack_walk (s : ByteArray) (w : World) (ws : s.size ≤ maxLen) (hE : Env w) :
    Calls Tryd.prog 5 #[.string s] w fun e w' => e = .returned (.bool true) ∧ Below w.heap.size w w' := by
  have HE := Lib.hid hE
  have HW := Lib.hid fun w hE => wakes_any w hE
  clear hE ws
  cases h1 : lexL s.data.toList with
  | bad P e =>
    have hbad := lexL_err h1
    have A1 := Lib.hid fun w hE => lex_had (s := s) (r := .bad P e) h1 w hE
    obtain ⟨P1, P2⟩ := P
    simp only [LR.toks, LR.pos, LR.err, List.length_nil] at A1
    have he : ((e : Int) == 0) = false := by rw [beq_eq_false_iff_ne]; omega
    clear h1 hbad
    go_enter Tryd.func5, Tryd.ntmps5
    go_wp2_with (go_at_call_of 8 s; go_must (refine (A1.out _ HE.out).mono ?_; rintro e w2 ⟨a, c1, rfl, hS, hb⟩; have B2 := Lib.hid hb; have E2 := Lib.hid (HE.out.below hb); have S2 := Lib.hid hS; clear hS hb))
    go_wp2_with (first | (go_at_call 10; have q := E3; clear q; go_must (refine (HW.out _ E3.out).mono ?_; rintro e w4 ⟨rfl, hb⟩; have B4 := Lib.hid (chain B3.out (Nat.le_refl _) hb); clear hb)) | (go_at_call 10; go_must (refine (HW.out _ (E2.out.below (below_box w2 (.cells #[.int .i64 P1, .int .i64 P2] 24)))).mono ?_; rintro e w3 ⟨rfl, hb⟩; have B3 := Lib.hid (chain (chain B2.out (Nat.le_refl _) (below_box w2 (.cells #[.int .i64 P1, .int .i64 P2] 24))) (Nat.le_refl _) hb); have E3 := Lib.hid ((E2.out.below (below_box w2 (.cells #[.int .i64 P1, .int .i64 P2] 24))).below hb); have S3 := Lib.hid ((S2.out.below (below_box w2 (.cells #[.int .i64 P1, .int .i64 P2] 24))).below hb); clear hb)))
    go_ret
    exact ⟨rfl, B4.out⟩
  | ok ts =>
    have A1 := Lib.hid fun w hE => lex_had (s := s) (r := .ok ts) h1 w hE
    simp only [LR.toks, LR.pos, LR.err] at A1
    obtain ⟨hl1, hsum, -⟩ := lexL_all h1
    have hjl := join_len ts
    have hne := lexL_ne h1
    have JN := Lib.hid fun a c w h => Join_any a c ts w h (by omega) (by omega)
    have hback := lexL_back h1
    have hJl : (joinL ts).length ≤ 32769 := by omega
    obtain ⟨J, hJ⟩ : ∃ J, bs (joinL ts) = J := ⟨_, rfl⟩
    have hJd : J.data.toList = joinL ts := by rw [← hJ]; rfl
    rw [hJ] at JN
    rw [← hJd, ← size_list] at hback hJl
    clear h1 hsum hjl hJ hJd
    by_cases hbig : 16384 < J.size
    · rw [if_pos hbig] at hback
      have A2 := Lib.hid fun w hE => lex_had (s := J) (r := .bad (1, 1) 7) hback w hE
      simp only [LR.toks, LR.pos, LR.err, List.length_nil] at A2
      clear hback
      go_enter Tryd.func5, Tryd.ntmps5
      go_wp2_with (go_at_call_of 8 s; go_must (refine (A1.out _ HE.out).mono ?_; rintro e w2 ⟨a, c1, rfl, hS, hb⟩; have B2 := Lib.hid hb; have E2 := Lib.hid (HE.out.below hb); have S2 := Lib.hid hS; clear hS hb))
      go_wp2_with (first | (go_at_call 10; go_must (refine (HW.out _ (E2.out.below (below_box w2 (.cells #[.int .i64 0, .int .i64 0] 24)))).mono ?_; rintro e w3 ⟨rfl, hb⟩; have B3 := Lib.hid (chain (chain B2.out (Nat.le_refl _) (below_box w2 (.cells #[.int .i64 0, .int .i64 0] 24))) (Nat.le_refl _) hb); have E3 := Lib.hid ((E2.out.below (below_box w2 (.cells #[.int .i64 0, .int .i64 0] 24))).below hb); have S3 := Lib.hid ((S2.out.below (below_box w2 (.cells #[.int .i64 0, .int .i64 0] 24))).below hb); clear hb)) | (go_at_call 13; go_must (refine (JN.out _ _ _ S3.out).mono ?_; rintro e w4 ⟨rfl, hb⟩; have B4 := Lib.hid (chain B3.out (Nat.le_refl _) hb); have E4 := Lib.hid (E3.out.below hb); have S4 := Lib.hid (S3.out.below hb); clear hb)) | (go_at_call_of 8 J; go_must (refine (A2.out _ E4.out).mono ?_; rintro e w5 ⟨a', c2, rfl, hS, hb⟩; have B5 := Lib.hid (chain B4.out (Nat.le_refl _) hb); clear hS hb)))
      go_ret
      exact ⟨rfl, chain B5.out (Nat.le_refl _) (below_box w5 (.cells #[.int .i64 1, .int .i64 1] 24))⟩
    · rw [if_neg hbig] at hback
      obtain ⟨us, hu1, hu2⟩ := hback
      have A2 := Lib.hid fun w hE => lex_own (s := J) hu1 (lexL_ne hu1) w hE
      have hlu : us.length = ts.length := by have := congrArg List.length hu2; simpa using this
      have HU := Lib.hid hu2
      rw [hlu] at A2
      clear hu1 hu2
      go_enter Tryd.func5, Tryd.ntmps5
      go_wp2_with (go_at_call_of 8 s; go_must (refine (A1.out _ HE.out).mono ?_; rintro e w2 ⟨a, c1, rfl, hS, hb⟩; have B2 := Lib.hid hb; have E2 := Lib.hid (HE.out.below hb); have S2 := Lib.hid hS; clear hS hb))
      go_wp2_with (first | (go_at_call 10; go_must (refine (HW.out _ (E2.out.below (below_box w2 (.cells #[.int .i64 0, .int .i64 0] 24)))).mono ?_; rintro e w3 ⟨rfl, hb⟩; have B3 := Lib.hid (chain (chain B2.out (Nat.le_refl _) (below_box w2 (.cells #[.int .i64 0, .int .i64 0] 24))) (Nat.le_refl _) hb); have E3 := Lib.hid ((E2.out.below (below_box w2 (.cells #[.int .i64 0, .int .i64 0] 24))).below hb); have S3 := Lib.hid ((S2.out.below (below_box w2 (.cells #[.int .i64 0, .int .i64 0] 24))).below hb); clear hb)) | (go_at_call 13; go_must (refine (JN.out _ _ _ S3.out).mono ?_; rintro e w4 ⟨rfl, hb⟩; have B4 := Lib.hid (chain B3.out (Nat.le_refl _) hb); have E4 := Lib.hid (E3.out.below hb); have S4 := Lib.hid (S3.out.below hb); clear hb)) | (go_at_call_of 8 J; go_must (refine (A2.out _ E4.out).mono ?_; rintro e w5 ⟨g', c2, rfl, hg', hM, hb⟩; have B5 := Lib.hid (chain B4.out (Nat.le_refl _) hb); have S5 := Lib.hid (S4.out.below hb); have M5 := Lib.hid hM; have G4 := Lib.hid (fun b h => Nat.ne_of_lt (Nat.lt_of_lt_of_le (TkS_lt S4.out hne b h) hg')); have G5 := Nat.le_trans B4.out.size hg'; clear hM hb hg')))
      have S6 := Lib.hid (S5.out.below (below_box w5 (.cells #[.int .i64 0, .int .i64 0] 24)))
      have M6 := Lib.hid (M5.out.keep (below_box w5 (.cells #[.int .i64 0, .int .i64 0] 24)))
      have BB6 := Lib.hid (chain B5.out (Nat.le_refl _) (below_box w5 (.cells #[.int .i64 0, .int .i64 0] 24)))
      generalize w5.alloc (.cells #[.int .i64 0, .int .i64 0] 24) = w6 at S6 M6 BB6 ⊢
      clear B2 B3 B4 B5 E2 E3 E4 S2 S3 S4 S5 M5 A1 A2 JN HE HW
      go_loopw [53] (fun s53 wr => ∃ k : Nat, s53 = .int .i64 k ∧ k ≤ ts.length ∧ TkS wr a ts ∧ MS wr g' us ∧ Below w.heap.size w wr) (fun s53 _ => ts.length - (intOf s53).toNat)
      case atStart => exact ⟨0, rfl, by omega, S6.out, M6.out, BB6.out⟩
      case round =>
        obtain ⟨k, rfl, hk, hS, hM, hb⟩ := hrel
        have S := Lib.hid hS
        have M := Lib.hid hM
        have B := Lib.hid hb
        clear hS hM hb S6 M6 BB6
        by_cases hlt : k < ts.length
        · obtain ⟨u, hu⟩ : ∃ u, ts[k]? = some u := ⟨_, List.getElem?_eq_getElem hlt⟩
          obtain ⟨v, hv⟩ : ∃ v, us[k]? = some v := ⟨_, List.getElem?_eq_getElem (by omega)⟩
          have huv : v.tk = u.tk := by
            have := congrArg (fun x => x[k]?) HU.out
            simpa [hu, hv] using this
          obtain ⟨⟨kk, tt, nn⟩, ⟨px, py⟩⟩ := u
          obtain ⟨vt, ⟨qx, qy⟩⟩ := v
          simp only at huv
          subst huv
          obtain ⟨g, rfl, hg, c0, c1, c2, c3, c4⟩ := S.out k _ hu
          obtain ⟨fz, hgm, mc⟩ := M.out
          obtain ⟨d0, d1, d2, ⟨v3, d3⟩, v4, d4⟩ := mc k _ hv
          simp only at c0 c1 c2 c3 c4 d0 d1 d2
          have gne : g ≠ g' := G4.out _ rfl
          have S7 := Lib.hid ((S.out.set (g := g') (j := k * 5 + 3) G4.out (.int .i64 px)).set (g := g') (j := k * 5 + 4) G4.out (.int .i64 py))
          have M7 := Lib.hid ((M.out.set (j := k * 5 + 3) (by omega) (.int .i64 px)).set (j := k * 5 + 4) (by omega) (.int .i64 py))
          have B7 : Hid (Below w.heap.size w ((wr.setCell ⟨g', k * 5 + 3, none⟩ (.int .i64 px)).setCell ⟨g', k * 5 + 4, none⟩ (.int .i64 py))) := Lib.hid (Below.setCell (Below.setCell B.out G5 _) G5 _)
          have e3 : ((wr.setCell ⟨g', k * 5 + 3, none⟩ (.int .i64 px)).setCell ⟨g', k * 5 + 4, none⟩ (.int .i64 py)).cell? ⟨g', k * 5 + 3, none⟩ = some (.int .i64 px) := (World.cell?_setCell_other _ _ _ _ (by simp)).trans (World.cell?_setCell_same _ _ _ d3)
          have e4 : ((wr.setCell ⟨g', k * 5 + 3, none⟩ (.int .i64 px)).setCell ⟨g', k * 5 + 4, none⟩ (.int .i64 py)).cell? ⟨g', k * 5 + 4, none⟩ = some (.int .i64 py) := World.cell?_setCell_same _ _ _ ((World.cell?_setCell_other _ _ _ _ (by simp)).trans d4)
          have E34 := Lib.hid (And.intro e3 e4)
          have HU1 := Lib.hid hu
          have HV1 := Lib.hid hv
          clear e3 e4 mc hu hv
          go_wp2_with fail
          rw [show k * 5 + 3 + 1 = k * 5 + 4 from rfl]
          generalize ((wr.setCell ⟨g', k * 5 + 3, none⟩ (.int .i64 px)).setCell ⟨g', k * 5 + 4, none⟩ (.int .i64 py)) = W at S7 M7 B7 E34 ⊢
          clear c0 c1 c2 c3 c4 d0 d1 d2 d3 d4 fz hg hgm S M B
          obtain ⟨_, e, hg, c0, c1, c2, c3, c4⟩ := S7.out k _ HU1.out
          cases e
          obtain ⟨fz, hgm, mc⟩ := M7.out
          obtain ⟨d0, d1, d2, -, -⟩ := mc k _ HV1.out
          obtain ⟨d3, d4⟩ := E34.out
          simp only at c0 c1 c2 c3 c4 d0 d1 d2
          clear mc
          first
            | go_quiet (fail)
            | go_region
          all_goals go_wp2_with fail
          all_goals exact ⟨⟨k + 1, by go_num, by omega, S7.out.below (below_drewN _ _ _), M7.out.keep (below_drewN _ _ _), chain B7.out (Nat.le_refl _) (below_drewN _ _ _)⟩, by simp [intOf]; omega⟩
        · obtain rfl : k = ts.length := by omega
          go_wp2_with fail
          go_ret
          exact ⟨rfl, B.out⟩
end Go.Proofs.YtioddoojjmeknaaDoor
