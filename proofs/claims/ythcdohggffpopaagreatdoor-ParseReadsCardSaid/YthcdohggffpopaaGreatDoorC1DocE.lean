/- Layer 7: the document's parser: brackets, arrays, inner types. -/
import Derived.Test.YthcdohggffpopaaGreatDoorC1DocD
import Derived.Test.YthcdohggffpopaaGreatDoorC1ParT
namespace Go.Proofs.YthcdohggffpopaaGreatDoor
open Go.Lib (hid)
open Go.ChangeShapes Go.WideShapes Go.ChangeAt Go.RowKit
section
variable {β : Type} {X : Nat → Prop} {g m b c d : Nat} {r : PR β} {F : β → FM}
theorem dlay_dt (y : TM) (c0 c1 c2 c3 c4 c5 c6 c7 : Value) (w : World) (h : DT X g m b c d w r F) (hc : c + 1 ≤ 9000000) (hy : Trep layD (Pub X layD g w) w [c0, c1, c2, c3, c4, c5, c6, c7] y) :
    Calls Tryz.prog 198 #[.pointer (some ⟨g, 0, none⟩), .agg #[c0, c1, c2, c3, c4, c5, c6, c7]] w
      fun e' w' => ∃ k : Nat, e' = .returned (.int .i64 (k : Int)) ∧ DT X g m (b + 1) (c + 1) d w' r (fun a => (F a).setG ((F a).g.addT y)) ∧ (∀ a l, r = .ok a l → k = ((F a).g.addT y).t) ∧ St layD g w w' := by
  cases r with
  | ok a l =>
    obtain ⟨hD, hlm, hd32, hbc, hc9⟩ := h
    refine (dlay_any y _ _ _ _ _ _ _ _ _ hD (by omega) hy).mono ?_
    rintro e w' ⟨rfl, h1, h2⟩
    exact ⟨_, rfl, ⟨h1, hlm, hd32, by omega, hc⟩, fun a l e => (by cases e; rfl), h2⟩
  | bad l x =>
    obtain ⟨h0, d', f', hD⟩ := h
    refine (dlay_any y _ _ _ _ _ _ _ _ _ hD (by omega) hy).mono ?_
    rintro e w' ⟨rfl, h1, h2⟩
    exact ⟨_, rfl, ⟨h0, _, _, h1⟩, fun a l e => (by cases e), h2⟩
theorem dlay_leaf (K z : Nat) (li : Bool) (s : List UInt8) (e i : Int) (w : World) (h : DT X g m b c d w r F) (hc : c + 1 ≤ 9000000) :
    Calls Tryz.prog 198 #[.pointer (some ⟨g, 0, none⟩), .agg #[.int .i64 (K : Int), .int .i64 (z : Int), .bool li, .string (bs s), .slice none 0 0, .int .i64 e, .int .i64 i, .slice none 0 0]] w
      fun e' w' => ∃ k : Nat, e' = .returned (.int .i64 (k : Int)) ∧ DT X g m (b + 1) (c + 1) d w' r (fun a => (F a).setG ((F a).g.addT ⟨K, z, li, s, [], e, i, []⟩)) ∧ (∀ a l, r = .ok a l → k = ((F a).g.addT ⟨K, z, li, s, [], e, i, []⟩).t) ∧ St layD g w w' :=
  dlay_dt ⟨K, z, li, s, [], e, i, []⟩ _ _ _ _ _ _ _ _ w h hc ⟨_, _, rfl, World.ownsRow_nil _ _ _ _, Nest.none _ _ _, World.ownsRow_nil _ _ _ _, Nest.none _ _ _⟩
end
def DB (n : Nat) : Prop := ∀ (β : Type) (r : PR β) (F : β → FM) (X : Nat → Prop) (g m b c d : Nat) (w : World), DT X g m b c d w r F → 8 * m + 2 ≤ n → b + 16 * n + 8 ≤ c → c ≤ 8000000 →
  Calls Tryz.prog 196 #[.pointer (some ⟨g, 0, none⟩)] w (PostX X g (m - 1) (b - 3) c d w r F (idxP n d))
set_option maxHeartbeats 1000000 in
set_option maxRecDepth 100000 in
theorem dbracket_any {n : Nat} (IE : DE n 1) : DB n := by
  intro β r F X g m b c d w h hn hbc hc8
  have T1 : Calls Tryz.prog 52 #[.pointer (some ⟨g, 0, none⟩), .string ⟨#[91]⟩] w fun e' w' => e' = .returned (.tuple #[]) ∧ DT X g (m - 1) (b - 3) c d w' (r.bind fun a l => (need sLb l).bind fun _ l => .ok a l) F ∧ St layD g w w' := dtake_any sLb (by decide) w h
  have HT1 := hid T1
  have HTK : Hid (∀ (γ : Type) (r2 : PR γ) (F2 : γ → FM) m b c w, DT X g m b c d w r2 F2 → Calls Tryz.prog 52 #[.pointer (some ⟨g, 0, none⟩), .string ⟨#[93]⟩] w fun e' w' => e' = .returned (.tuple #[]) ∧ DT X g (m - 1) (b - 3) c d w' (r2.bind fun a l => (need sRb l).bind fun _ l => .ok a l) F2 ∧ St layD g w w') := hid fun γ r2 F2 m b c w h => dtake_any sRb (by decide) w h
  have HIE := hid IE
  have hbc' : b ≤ c := by omega
  clear T1 h IE
  go_enter Tryz.func196, Tryz.ntmps196
  go_wp2_with (first | (go_at_call 52; first | ((with_reducible refine HT1.out.mono ?_); rintro e w1 ⟨rfl, hT1, hS1⟩; have HX := hid (HIE.out _ _ _ _ _ _ _ c _ w1 hT1 (by omega) (by omega) (by omega)); clear hT1) | ((with_reducible refine (HTK.out _ _ _ _ _ _ _ hT2.out).mono ?_); rintro e w3 ⟨rfl, hT3, hS3⟩)) | (go_at_call 155; go_must (refine HX.out.mono ?_; rintro e w2 ⟨k, rfl, hT2', hk2, hS2⟩; have hT2 := hid hT2'; have HK2 := hid hk2; clear hT2' hk2)))
  go_ret
  refine PostX.of hT3 (fun p => p) (by simp only [idxP, PR.bind_ok, PR.bind_assoc]) (fun p l e => ?_) (by omega) (by omega) (by omega) (by omega) (by omega) ((hS1.trans hS2).trans hS3)
  obtain ⟨l1, e⟩ := keep_ok e
  rw [HK2.out p l1 e]
  exact ⟨rfl, rfl⟩
def PostY {β : Type} (X : Nat → Prop) (g m b c d : Nat) (w : World) (r : PR β) (F : β → FM) (P : List Tok → PR TA) (e : Ending) (w' : World) : Prop :=
  ∃ k : Nat, e = .returned (.int .i64 (k : Int)) ∧ DT X g m b c d w' (r.bind fun a l => (P l).bind fun y l => .ok (a, y) l) (fun p => (F p.1).setG (putT p.2 (F p.1).g).1) ∧
    (∀ p l, (r.bind fun a l => (P l).bind fun y l => .ok (a, y) l) = .ok p l → k = (putT p.2 (F p.1).g).1.t) ∧ St layD g w w'
theorem PostY.of {β γ : Type} {X : Nat → Prop} {g m b c m' b' c' d k : Nat} {w w' : World} {r : PR β} {F : β → FM} {P : List Tok → PR TA} {r3 : PR γ} {F3 : γ → FM} (h : DT X g m' b' c' d w' r3 F3) (φ : γ → β × TA)
    (hE : (r.bind fun a l => (P l).bind fun y l => .ok (a, y) l) = r3.bind fun p l => .ok (φ p) l) (hF : ∀ p l, r3 = .ok p l → (F (φ p).1).setG (putT (φ p).2 (F (φ p).1).g).1 = F3 p ∧ k = (putT (φ p).2 (F (φ p).1).g).1.t)
    (hm : m' ≤ m) (hb : b' ≤ b) (hc : c' ≤ c) (hbc : b ≤ c) (ht : c ≤ 9000000) (hS : St layD g w w') : PostY X g m b c d w r F P (.returned (.int .i64 (k : Int))) w' :=
  ⟨k, rfl, (h.map φ hE fun p l e => (hF p l e).1).mono hm hb hc hbc ht, fun q l e => by
    rw [hE] at e
    obtain ⟨p, e1, rfl⟩ := map_ok e
    exact (hF p l e1).2, hS⟩
def DK (n : Nat) : Prop := ∀ (β : Type) (r : PR β) (F : β → FM) (X : Nat → Prop) (g m b c d : Nat) (w : World), DT X g m b c d w r F → 8 * m + 4 ≤ n → b + 16 * n + 16 ≤ c → c ≤ 8000000 →
  Calls Tryz.prog 153 #[.pointer (some ⟨g, 0, none⟩)] w (PostY X g (m - 1) b c d w r F (typP n d))
def DN (n : Nat) : Prop := ∀ (β : Type) (r : PR β) (F : β → FM) (X : Nat → Prop) (g m b c d : Nat) (w : World), DT X g m b c d w r F → 8 * m + 5 ≤ n → b + 16 * n ≤ c → c ≤ 8000000 →
  Calls Tryz.prog 197 #[.pointer (some ⟨g, 0, none⟩)] w (PostY X g (m - 1) b c d w r F (innerP n d))
set_option maxHeartbeats 1000000 in
set_option maxRecDepth 100000 in
theorem dinner_step {n : Nat} (IK : DK n) : DN (n + 1) := by
  intro β r F X g m b c d w h hn hbc hc8
  obtain ⟨b', d', f', hI⟩ := h.inv
  have HTY := hid (dtyped_any w hI)
  have H := hid h
  have HIK := hid IK
  have hg := h.lt
  clear h hI IK
  go_enter Tryz.func197, Tryz.ntmps197
  go_wp2_with (first | (go_at_call 195; go_must (refine HTY.out.mono ?_; rintro e w1 ⟨rfl, hb1⟩; have HN := hid (denter_any (begT r.rest) w1 (H.out.below hb1)))) | (go_at_call 230; go_must (refine HN.out.mono ?_; rintro e w2 ⟨rfl, hT2, hS2⟩; have HX := hid (HIK.out _ _ _ _ _ _ _ c _ w2 hT2 (by omega) (by omega) (by omega)); clear hT2)) | (go_at_call 153; go_must (refine HX.out.mono ?_; rintro e w3 ⟨k, rfl, hT3, hk3, hS3⟩; obtain ⟨bb, dd, ff, hI3⟩ := hT3.inv; obtain ⟨i3, n3, kk3, cp3, -, -, q2, -, qf, -⟩ := hI3.look; have HT4 := hid (hT3.up q2); have HK3 := hid hk3; clear hT3 hk3 hI3)))
  go_ret
  refine PostY.of HT4.out.1 (fun p => p) ?_ (fun p l e => ?_) (by omega) (by omega) (by omega) (by omega) (by omega) ((((St.below hg hb1).trans hS2).trans hS3).trans HT4.out.2)
  · cases r with
    | ok a l => simp only [innerP, PR.bind_ok, PR.bind_assoc, PR.rest]
    | bad l x => rfl
  · rw [HK3.out p l e]
    exact ⟨rfl, rfl⟩
def arrP {β : Type} (n d : Nat) (p : β × TA) (l : List Tok) : PR (β × TA) := if isT sLb l = true then (idxP n d l).bind fun e l => .ok (p.1, .arr p.2 e) l else .ok p l
set_option maxHeartbeats 1000000 in
set_option maxRecDepth 100000 in
theorem darray_any {n : Nat} (IB : DB n) {β : Type} {r : PR (β × TA)} {F : β → FM} {X : Nat → Prop} {g m b c d : Nat} (y : TM) (c0 c1 c2 c3 c4 c5 c6 c7 : Value) (w : World) (h : DT X g m b c d w r fun p => (F p.1).setG (singleM p.2 (F p.1).g).1) (hy : Trep layD (Pub X layD g w) w [c0, c1, c2, c3, c4, c5, c6, c7] y)
    (hys : ∀ p l, r = .ok p l → putT p.2 (F p.1).g = ((singleM p.2 (F p.1).g).1.addT y, [])) (hn : 8 * m + 2 ≤ n) (hbc : b + 16 * n + 9 ≤ c) (hc8 : c + 1 ≤ 8000000) :
    Calls Tryz.prog 194 #[.pointer (some ⟨g, 0, none⟩), .agg #[c0, c1, c2, c3, c4, c5, c6, c7]] w
      fun e' w' => ∃ k : Nat, e' = .returned (.int .i64 (k : Int)) ∧ DT X g m (b + 1) (c + 1) d w' (r.bind fun p l => arrP n d p l) (fun p => (F p.1).setG (putT p.2 (F p.1).g).1) ∧ (∀ p l, (r.bind fun p l => arrP n d p l) = .ok p l → k = (putT p.2 (F p.1).g).1.t) ∧ St layD g w w' := by
  have hg := h.lt
  have h' := h.below (below_box w (.cells #[c0, c1, c2, c3, c4, c5, c6, c7] 149))
  have hy' := (Trep.kept layD) _ (Pub X layD g (w.alloc (.cells #[c0, c1, c2, c3, c4, c5, c6, c7] 149))) _ _ _ _ hy ((St.below (L := layD) hg (below_box w (.cells #[c0, c1, c2, c3, c4, c5, c6, c7] 149))).pub X)
  have HL := hid (dlay_dt y _ _ _ _ _ _ _ _ _ h' (by omega) hy')
  have HS0 := hid (St.below (L := layD) hg (below_box w (.cells #[c0, c1, c2, c3, c4, c5, c6, c7] 149)))
  clear h hy h' hy'
  cases r with
  | bad l x =>
    clear hys
    go_enter Tryz.func194, Tryz.ntmps194
    cases hL : isT sLb l
    all_goals
      go_wp2_with (first | (go_at_call 198; go_must (refine HL.out.mono ?_; rintro e w1 ⟨k, rfl, hT1, hk1, hS1⟩; have hne := hT1.err_ne; obtain ⟨bb, dd, ff, hI1⟩ := hT1.inv; have HC : Hid (Calls Tryz.prog 50 #[.pointer (some ⟨g, 0, none⟩), .string ⟨#[91]⟩] w1 fun e' w' => e' = .returned (.bool (isT sLb l)) ∧ Below w1.heap.size w1 w') := hid (dis_any sLb (by decide) w1 hI1); rw [hL] at HC; have HI1 := hid hI1; have HT1 := hid hT1; have hg1 := hT1.lt; clear hT1 hI1 hk1)) | (go_at_call 50; go_must (refine HC.out.mono ?_; rintro e w2 ⟨rfl, hb2⟩; obtain ⟨i1, n1, kk1, cp1, -, -, q2, q7, qf, -⟩ := (HI1.out.below hb2).look; simp only [PR.err] at q7)))
      go_ret
      exact ⟨k, rfl, HT1.out.below hb2, fun p l e => (by cases e), (HS0.out.trans hS1).trans (St.below hg1 hb2)⟩
  | ok p l =>
    have hys := hys p l rfl
    cases hL : isT sLb l
    · have hr : ((.ok p l : PR (β × TA)).bind fun p l => arrP n d p l) = .ok p l := by rw [PR.bind_ok]; unfold arrP; rw [if_neg (by rw [hL]; decide)]
      rw [hr]
      have HY := hid hys
      clear hr hys
      go_enter Tryz.func194, Tryz.ntmps194
      go_wp2_with (first | (go_at_call 198; go_must (refine HL.out.mono ?_; rintro e w1 ⟨k, rfl, hT1, hk1, hS1⟩; have HC : Hid (Calls Tryz.prog 50 #[.pointer (some ⟨g, 0, none⟩), .string ⟨#[91]⟩] w1 fun e' w' => e' = .returned (.bool (isT sLb l)) ∧ Below w1.heap.size w1 w') := hid (dis_any sLb (by decide) w1 hT1.1); rw [hL] at HC; have HT1 := hid hT1; have HK1 := hid (hk1 p l rfl); have hg1 := hT1.lt; clear hT1 hk1)) | (go_at_call 50; go_must (refine HC.out.mono ?_; rintro e w2 ⟨rfl, hb2⟩)))
      go_ret
      refine ⟨k, rfl, (HT1.out.below hb2).map (fun p => p) rfl fun p l e => ?_, fun q l e => ?_, (HS0.out.trans hS1).trans (St.below hg1 hb2)⟩
      · cases e; rw [HY.out]
      · cases e; rw [HY.out]; exact HK1.out
    · have hr : ((.ok p l : PR (β × TA)).bind fun p l => arrP n d p l) = (idxP n d l).bind fun e l => .ok (p.1, .arr p.2 e) l := by rw [PR.bind_ok]; unfold arrP; rw [if_pos hL]
      rw [hr]
      have HY := hid hys
      have HIB := hid IB
      clear hr hys IB
      go_enter Tryz.func194, Tryz.ntmps194
      go_wp2_with (first | (go_at_call 198; first | ((with_reducible refine HL.out.mono ?_); rintro e w1 ⟨k, rfl, hT1, hk1, hS1⟩; have HC : Hid (Calls Tryz.prog 50 #[.pointer (some ⟨g, 0, none⟩), .string ⟨#[91]⟩] w1 fun e' w' => e' = .returned (.bool (isT sLb l)) ∧ Below w1.heap.size w1 w') := hid (dis_any sLb (by decide) w1 hT1.1); rw [hL] at HC; have HT1 := hid hT1; have HK1 := hid (hk1 p l rfl); have hg1 := hT1.lt; clear hT1 hk1) | (refine HL2.out.mono ?_; rintro e w4 ⟨k4, rfl, hT4, hk4, hS4⟩)) | (go_at_call 50; go_must (refine HC.out.mono ?_; rintro e w2 ⟨rfl, hb2⟩; obtain ⟨i1, n1, kk1, cp1, -, -, q2, q7, qf, -⟩ := (HT1.out.below hb2).1.look; have HX := hid (HIB.out (β × TA) (.ok p l) (fun p => ((F p.1).setG (singleM p.2 (F p.1).g).1).setG ((singleM p.2 (F p.1).g).1.addT y)) X g m (b + 1) c d w2 ⟨(HT1.out.below hb2).1, (HT1.out.below hb2).2.1, (HT1.out.below hb2).2.2.1, by omega, by omega⟩ hn (by omega) (by omega)))) | (go_at_call 196; go_must (refine HX.out.mono ?_; rintro e w3 ⟨k3, rfl, hT3, hk3, hS3⟩; have HK3 := hid hk3; have HL2 := hid (dlay_leaf 5 0 false [] (k3 : Int) (k : Int) w3 hT3 (by omega)); clear hT3 hk3)))
      go_ret
      refine ⟨k4, rfl, (DT.map hT4 (fun q => (q.1.1, TA.arr q.1.2 q.2)) ?_ ?_).mono (by omega) (by omega) (by omega) (by omega) (by omega), ?_, (((HS0.out.trans hS1).trans (St.below hg1 hb2)).trans hS3).trans hS4⟩
      · simp only [PR.bind_ok, PR.bind_assoc]
      · intro q l2 e
        obtain ⟨l1, e1, -⟩ := pair_ok e
        have hk3 := HK3.out q l2 e
        obtain ⟨q1, q2⟩ := q
        cases e1
        rw [hk3, HK1.out]
        simp only [putT, HY.out]
      · intro q l2 e
        obtain ⟨z, e1, rfl⟩ := map_ok e
        rw [hk4 (p, z) l2 (by rw [PR.bind_ok, e1]; rfl), HK3.out (p, z) l2 (by rw [PR.bind_ok, e1]; rfl), HK1.out]
        simp only [putT, HY.out]
end Go.Proofs.YthcdohggffpopaaGreatDoor
