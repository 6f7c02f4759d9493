/- Layer 7: the document's parser: fields. -/
import Derived.Test.YthcdohggffpopaaGreatDoorC1DocKa
import Derived.Test.YthcdohggffpopaaGreatDoorC1ParIt
namespace Go.Proofs.YthcdohggffpopaaGreatDoor
open Go.Lib (hid)
open Go.ChangeShapes Go.WideShapes Go.ChangeAt Go.RowKit
section
variable {β γ : Type} {X : Nat → Prop} {g m b c d : Nat} {W w : World} {r : PR β} {F : β → FM} {B : List (Nat × Array Value × TypeId)} {E : TypeId} {z : Nat} {v : Value} {n : Nat} {xs : List Value} {Q : (Nat → Prop) → World → Prop}
theorem DP.fill9 {k : Nat} {T : TypeId} {a0 a1 a2 a3 a4 a5 a6 a7 a8 : Value} (h : DP X g m b c d W w r F ((k, #[a0, a1, a2, a3, a4, a5, a6, a7, a8], T) :: B) E z v n xs Q) (hQ : Stable Q) (hB : ∀ p ∈ B, p.1 ≠ k) (c0 c1 c2 c3 c4 c5 c6 c7 c8 : Value) :
    DP X g m b c d W (Go.Proofs.YthcdohggffpopaaGreatDoor.set9 w k c0 c1 c2 c3 c4 c5 c6 c7 c8) r F ((k, #[c0, c1, c2, c3, c4, c5, c6, c7, c8], T) :: B) E z v n xs Q := by
  have h0 := h.set hQ hB (o := 0) (by decide : 0 < 9) c0
  have h1 := h0.set hQ hB (o := 1) (by decide : 1 < 9) c1
  have h2 := h1.set hQ hB (o := 2) (by decide : 2 < 9) c2
  have h3 := h2.set hQ hB (o := 3) (by decide : 3 < 9) c3
  have h4 := h3.set hQ hB (o := 4) (by decide : 4 < 9) c4
  have h5 := h4.set hQ hB (o := 5) (by decide : 5 < 9) c5
  have h6 := h5.set hQ hB (o := 6) (by decide : 6 < 9) c6
  have h7 := h6.set hQ hB (o := 7) (by decide : 7 < 9) c7
  exact h7.set hQ hB (o := 8) (by decide : 8 < 9) c8
end
theorem field_eq {β : Type} (a : β) (n : Nat) (l : List Tok) : (fieldP n l).bind (fun y l => .ok (a, y) l) = ((((((((.ok () l : PR Unit).bind fun a l => (nameP l).bind fun y l => .ok (a, y) l).bind fun a l => (need sColon l).bind fun _ l => .ok a l).bind fun a l => (typP n 0 l).bind fun y l => .ok (a, y) l).bind fun a l => (optD l).bind fun y l => .ok (a, y) l).bind fun a l => (optW n l).bind fun y l => .ok (a, y) l).bind fun a l => (need sSemi l).bind fun _ l => .ok a l).bind fun q l => .ok (a, IA.field q.1.1.1.2 q.1.1.2 q.1.2 q.2) l) := by
  unfold fieldP
  simp only [PR.bind_assoc, PR.bind_ok]
set_option maxHeartbeats 8000000 in
set_option maxRecDepth 100000 in
theorem dfield_bad {n : Nat} {β : Type} {a : β} {l : List Tok} {F : β → FM} {X : Nat → Prop} {g m b c : Nat} (w : World) (h : DT X g m b c 0 w (.ok a l : PR β) F) (hn : 8 * m + 4 ≤ n) (hbc : b + 16 * n + 16 ≤ c) (hc8 : c ≤ 8000000) {l3 : List Tok} {x : Nat} (h3 : ((((.ok () l : PR Unit).bind fun a l => (nameP l).bind fun y l => .ok (a, y) l).bind fun a l => (need sColon l).bind fun _ l => .ok a l).bind fun a l => (typP n 0 l).bind fun y l => .ok (a, y) l) = .bad l3 x) (hx : ((x : Int) == 0) = false) :
    Calls Tryz.prog 105 #[.pointer (some ⟨g, 0, none⟩)] w (PostI X g (m - 1) b c 0 w (.ok a l : PR β) F (fieldP n)) := by
  have hg := h.lt
  have hX0 : ∀ k, X k → k < w.heap.size := fun k hk => (h.out hk).lt
  obtain ⟨hD, hlm, hd32, hbc', hc9⟩ := h
  have hw := hD.wf
  have hp := hw.pos
  have hb3 : 3 ≤ b := by have := hD.pot; omega
  have hD4 : ((.bad l3 x : PR ((Unit × List UInt8) × TA)).bind fun a l => (optD l).bind fun y l => .ok (a, y) l) = .bad l3 x := rfl
  have hD5 : ((.bad l3 x : PR (((Unit × List UInt8) × TA) × DA)).bind fun a l => (optW n l).bind fun y l => .ok (a, y) l) = .bad l3 x := rfl
  have hz : ((x : Int) == 0) = false := hx
  obtain ⟨q1, hq1⟩ : ∃ q, isT sEq (PR.bad l3 x : PR ((Unit × List UInt8) × TA)).rest = q := ⟨_, rfl⟩
  obtain ⟨q2, hq2⟩ : ∃ q, isT kWhere (PR.bad l3 x : PR (((Unit × List UInt8) × TA) × DA)).rest = q := ⟨_, rfl⟩
  have HQ1 := hid hq1
  have HQ2 := hid hq2
  clear hq1 hq2
  have HR : Hid ((fieldP n l).bind (fun y l => .ok (a, y) l) = ((.bad l3 x : PR ((((Unit × List UInt8) × TA) × DA) × Option EA)).bind fun a l => (need sSemi l).bind fun _ l => .ok a l).bind fun q l => .ok (a, IA.field q.1.1.1.2 q.1.1.2 q.1.2 q.2) l) := hid (by rw [field_eq, h3, hD4, hD5])
  have H3 := hid h3
  have P1 := hid ((DT.ok hD hd32 hlm hbc' hc9).start #[.string ⟨#[]⟩, .int .i64 0, .int .i64 0, .string ⟨#[]⟩, .string ⟨#[]⟩, .int .i64 0, .int .i64 0, .bool false, .slice none 0 0] 70 201 2 (by decide))
  have C1 := hid (dname_any _ P1.out.dt)
  clear hD h3 hD4 hD5
  go_enter Tryz.func105, Tryz.ntmps105
  cases q1 <;> cases q2
  all_goals
    go_wp2_with (first | (go_at_call 53; (first | ((with_reducible refine C1.out.mono ?_); rintro e w2 ⟨s, rfl, hT, hs, hS⟩; have HSN := hid hs; clear hs; have P2 := hid (P1.out.step any_stable hT hS); clear hT hS; have hlt : w.heap.size < w2.heap.size := (Array.getElem?_eq_some_iff.1 (P2.out.bx _ List.mem_cons_self).1).1; have P3 := hid (P2.out.box any_stable #[.string (bs s), .int .i64 0, .int .i64 0, .string ⟨#[]⟩, .string ⟨#[]⟩, .int .i64 (-1), .int .i64 0, .bool false, .slice none 0 0] 70 (by decide)); have C3 := hid (dtake_lit sColon (by decide) ⟨#[58]⟩ rfl _ P3.out.dt)))) | (go_at_call 52; (first | ((with_reducible refine C3.out.mono ?_); rintro e w4 ⟨rfl, hT, hS⟩; have P4 := hid (P3.out.step any_stable hT hS); clear hT hS; have C4 := hid (dkind_any n _ _ _ _ _ _ _ _ _ _ P4.out.dt (by omega) (by omega) (by omega))) | ((with_reducible refine C14.out.mono ?_); rintro e w15 ⟨rfl, hT, hS⟩; have P15 := hid (P14.out.step any_stable hT hS); clear hT hS; clear q7 qf; obtain ⟨⟨d0, d1, d2, d3, d4, d5, d6, d7, d8⟩, df, dl⟩ := cells9 (P15.out.bx _ List.mem_cons_self).1; obtain ⟨⟨e0, e1, e2, e3, e4, e5, e6, e7, e8⟩, ef, el⟩ := cells9 (P15.out.bx _ (List.mem_cons_of_mem _ List.mem_cons_self)).1))) | (go_at_call 153; (first | ((with_reducible refine C4.out.mono ?_); rintro e w5 ⟨kt, rfl, hT, hk, hS⟩; rw [H3.out] at hT hk; have HKT := hid hk; clear hk; have P5 := hid (P4.out.step any_stable hT hS); clear hT hS; obtain ⟨⟨d0, d1, d2, d3, d4, d5, d6, d7, d8⟩, df, dl⟩ := cells9 (P5.out.bx _ List.mem_cons_self).1; have P6 : Hid (DP _ g _ _ _ _ _ _ _ _ [(w2.heap.size, #[.string (bs s), .int .i64 (kt : Int), .int .i64 0, .string ⟨#[]⟩, .string ⟨#[]⟩, .int .i64 (-1), .int .i64 0, .bool false, .slice none 0 0], 70), (w.heap.size, #[.string ⟨#[]⟩, .int .i64 0, .int .i64 0, .string ⟨#[]⟩, .string ⟨#[]⟩, .int .i64 0, .int .i64 0, .bool false, .slice none 0 0], 70)] _ _ _ _ _ _) := hid (P5.out.set any_stable (by simp; omega) (by decide : 1 < 9) (.int .i64 (kt : Int))); have C6 := hid (dis_lit sEq (by decide) ⟨#[61]⟩ rfl _ P6.out.dt HQ1.out)))) | (go_at_call 50; (first | ((with_reducible refine C6.out.mono ?_); rintro e w7 ⟨rfl, hb⟩; have P7 := hid (P6.out.below any_stable hb); clear hb; clear d0 d1 d2 d3 d4 d5 d6 d7 d8 df dl; obtain ⟨i_, nn_, kk_, cp_, dd_, -, -, -, q7, qf⟩ := P7.out.dt.cells; simp only [PR.err] at q7; have P10 : Hid (DP _ g _ _ _ _ _ w7 (.bad l3 x : PR (((Unit × List UInt8) × TA) × DA)) (fun q => (F a).setG (putT q.1.2 (F a).g).1) _ _ _ _ _ _ _) := hid (P7.out.to fun h => DT.map h (fun p => (p, (⟨0, [], []⟩ : DA))) rfl fun _ _ _ => rfl); have C10 := hid (dis_lit kWhere (by decide) ⟨#[119, 104, 101, 114, 101]⟩ rfl _ P10.out.dt HQ2.out)) | ((with_reducible refine C10.out.mono ?_); rintro e w11 ⟨rfl, hb⟩; have P11 := hid (P10.out.below any_stable hb); clear hb; clear q7 qf; obtain ⟨i_, nn_, kk_, cp_, dd_, -, -, -, q7, qf⟩ := P11.out.dt.cells; simp only [PR.err] at q7; have P14 : Hid (DP _ g _ _ _ _ _ w11 (.bad l3 x : PR ((((Unit × List UInt8) × TA) × DA) × Option EA)) (fun q => ((F a).setG (putT q.1.1.2 (F a).g).1).setG (putW q.2 (putT q.1.1.2 (F a).g).1)) _ _ _ _ _ _ _) := hid (P11.out.to fun h => DT.map h (fun p => (p, (none : Option EA))) rfl fun _ _ _ => rfl); have C14 := hid (dtake_lit sSemi (by decide) ⟨#[59]⟩ rfl _ P14.out.dt)))))
    have P16 := P15.out.out9 any_stable (List.mem_cons_of_mem _ List.mem_cons_self) (.string (bs s)) (.int .i64 (kt : Int)) (.int .i64 0) (.string ⟨#[]⟩) (.string ⟨#[]⟩) (.int .i64 (-1)) (.int .i64 0) (.bool false) (.slice none 0 0)
    refine bodyPost_ret (v := .agg #[.string (bs s), .int .i64 (kt : Int), .int .i64 0, .string ⟨#[]⟩, .string ⟨#[]⟩, .int .i64 (-1), .int .i64 0, .bool false, .slice none 0 0]) (by simp [results, Tryz.results105, go_sem, e0, e1, e2, e3, e4, e5, e6, e7, e8]) rfl ⟨_, _, _, _, _, _, _, _, _, ⟨s, (kt : Int), 0, [], [], (-1), 0, false, []⟩, rfl, ?_, ⟨_, rfl, World.ownsRow_nil _ _ _ _, Nest.none _ _ _⟩, fun p l' e0 => ?_, P16.st⟩
    · refine (DT.map (P16.dt.weak fun k hk => .inl (.inl (.inl hk))) (fun q => (a, IA.field q.1.1.1.2 q.1.1.2 q.1.2 q.2)) ?_ fun _ _ _ => rfl).mono (by omega) (by omega) (by omega) (by omega) (by omega)
      rw [PR.bind_ok, HR.out]
    · rw [PR.bind_ok, HR.out] at e0
      cases e0
set_option maxHeartbeats 8000000 in
set_option maxRecDepth 100000 in
theorem dfield_nn {n : Nat} {β : Type} {a : β} {l : List Tok} {F : β → FM} {X : Nat → Prop} {g m b c : Nat} (w : World) (h : DT X g m b c 0 w (.ok a l : PR β) F) (hn : 8 * m + 4 ≤ n) (hbc : b + 16 * n + 16 ≤ c) (hc8 : c ≤ 8000000) {p3 : ((Unit × List UInt8) × TA)} {l3 : List Tok} (h3 : ((((.ok () l : PR Unit).bind fun a l => (nameP l).bind fun y l => .ok (a, y) l).bind fun a l => (need sColon l).bind fun _ l => .ok a l).bind fun a l => (typP n 0 l).bind fun y l => .ok (a, y) l) = .ok p3 l3) (he : isT sEq l3 = false) (hwh : isT kWhere l3 = false) :
    Calls Tryz.prog 105 #[.pointer (some ⟨g, 0, none⟩)] w (PostI X g (m - 1) b c 0 w (.ok a l : PR β) F (fieldP n)) := by
  have hg := h.lt
  have hX0 : ∀ k, X k → k < w.heap.size := fun k hk => (h.out hk).lt
  obtain ⟨hD, hlm, hd32, hbc', hc9⟩ := h
  have hw := hD.wf
  have hp := hw.pos
  have hb3 : 3 ≤ b := by have := hD.pot; omega
  have hD4 : ((.ok p3 l3 : PR ((Unit × List UInt8) × TA)).bind fun a l => (optD l).bind fun y l => .ok (a, y) l) = .ok (p3, ⟨0, [], []⟩) l3 := by rw [PR.bind_ok]; unfold optD; rw [if_neg (by rw [he]; decide)]; rfl
  have hD5 : ((.ok (p3, (⟨0, [], []⟩ : DA)) l3 : PR (((Unit × List UInt8) × TA) × DA)).bind fun a l => (optW n l).bind fun y l => .ok (a, y) l) = .ok ((p3, (⟨0, [], []⟩ : DA)), none) l3 := by rw [PR.bind_ok]; unfold optW; rw [if_neg (by rw [hwh]; decide)]; rfl
  have HR : Hid ((fieldP n l).bind (fun y l => .ok (a, y) l) = ((.ok ((p3, (⟨0, [], []⟩ : DA)), none) l3 : PR ((((Unit × List UInt8) × TA) × DA) × Option EA)).bind fun a l => (need sSemi l).bind fun _ l => .ok a l).bind fun q l => .ok (a, IA.field q.1.1.1.2 q.1.1.2 q.1.2 q.2) l) := hid (by rw [field_eq, h3, hD4, hD5])
  have H3 := hid h3
  have P1 := hid ((DT.ok hD hd32 hlm hbc' hc9).start #[.string ⟨#[]⟩, .int .i64 0, .int .i64 0, .string ⟨#[]⟩, .string ⟨#[]⟩, .int .i64 0, .int .i64 0, .bool false, .slice none 0 0] 70 201 2 (by decide))
  have C1 := hid (dname_any _ P1.out.dt)
  clear hD h3 hD4 hD5
  go_enter Tryz.func105, Tryz.ntmps105
  go_wp2_with (first | (go_at_call 53; (first | ((with_reducible refine C1.out.mono ?_); rintro e w2 ⟨s, rfl, hT, hs, hS⟩; have HSN := hid hs; clear hs; have P2 := hid (P1.out.step any_stable hT hS); clear hT hS; have hlt : w.heap.size < w2.heap.size := (Array.getElem?_eq_some_iff.1 (P2.out.bx _ List.mem_cons_self).1).1; have P3 := hid (P2.out.box any_stable #[.string (bs s), .int .i64 0, .int .i64 0, .string ⟨#[]⟩, .string ⟨#[]⟩, .int .i64 (-1), .int .i64 0, .bool false, .slice none 0 0] 70 (by decide)); have C3 := hid (dtake_lit sColon (by decide) ⟨#[58]⟩ rfl _ P3.out.dt)))) | (go_at_call 52; (first | ((with_reducible refine C3.out.mono ?_); rintro e w4 ⟨rfl, hT, hS⟩; have P4 := hid (P3.out.step any_stable hT hS); clear hT hS; have C4 := hid (dkind_any n _ _ _ _ _ _ _ _ _ _ P4.out.dt (by omega) (by omega) (by omega))) | ((with_reducible refine C14.out.mono ?_); rintro e w15 ⟨rfl, hT, hS⟩; have P15 := hid (P14.out.step any_stable hT hS); clear hT hS; clear q7 qf; obtain ⟨⟨d0, d1, d2, d3, d4, d5, d6, d7, d8⟩, df, dl⟩ := cells9 (P15.out.bx _ List.mem_cons_self).1; obtain ⟨⟨e0, e1, e2, e3, e4, e5, e6, e7, e8⟩, ef, el⟩ := cells9 (P15.out.bx _ (List.mem_cons_of_mem _ List.mem_cons_self)).1))) | (go_at_call 153; (first | ((with_reducible refine C4.out.mono ?_); rintro e w5 ⟨kt, rfl, hT, hk, hS⟩; rw [H3.out] at hT hk; have HKT := hid hk; clear hk; have P5 := hid (P4.out.step any_stable hT hS); clear hT hS; obtain ⟨⟨d0, d1, d2, d3, d4, d5, d6, d7, d8⟩, df, dl⟩ := cells9 (P5.out.bx _ List.mem_cons_self).1; have P6 : Hid (DP _ g _ _ _ _ _ _ _ _ [(w2.heap.size, #[.string (bs s), .int .i64 (kt : Int), .int .i64 0, .string ⟨#[]⟩, .string ⟨#[]⟩, .int .i64 (-1), .int .i64 0, .bool false, .slice none 0 0], 70), (w.heap.size, #[.string ⟨#[]⟩, .int .i64 0, .int .i64 0, .string ⟨#[]⟩, .string ⟨#[]⟩, .int .i64 0, .int .i64 0, .bool false, .slice none 0 0], 70)] _ _ _ _ _ _) := hid (P5.out.set any_stable (by simp; omega) (by decide : 1 < 9) (.int .i64 (kt : Int))); have C6 := hid (dis_lit sEq (by decide) ⟨#[61]⟩ rfl _ P6.out.dt he)))) | (go_at_call 50; (first | ((with_reducible refine C6.out.mono ?_); rintro e w7 ⟨rfl, hb⟩; have P7 := hid (P6.out.below any_stable hb); clear hb; clear d0 d1 d2 d3 d4 d5 d6 d7 d8 df dl; obtain ⟨i_, nn_, kk_, cp_, dd_, -, -, -, q7, qf⟩ := P7.out.dt.cells; simp only [PR.err] at q7; have P10 : Hid (DP _ g _ _ _ _ _ w7 (.ok (p3, (⟨0, [], []⟩ : DA)) l3 : PR (((Unit × List UInt8) × TA) × DA)) (fun q => (F a).setG (putT q.1.2 (F a).g).1) _ _ _ _ _ _ _) := hid (P7.out.to fun h => DT.map h (fun p => (p, (⟨0, [], []⟩ : DA))) rfl fun _ _ _ => rfl); have C10 := hid (dis_lit kWhere (by decide) ⟨#[119, 104, 101, 114, 101]⟩ rfl _ P10.out.dt hwh)) | ((with_reducible refine C10.out.mono ?_); rintro e w11 ⟨rfl, hb⟩; have P11 := hid (P10.out.below any_stable hb); clear hb; clear q7 qf; obtain ⟨i_, nn_, kk_, cp_, dd_, -, -, -, q7, qf⟩ := P11.out.dt.cells; simp only [PR.err] at q7; have P14 : Hid (DP _ g _ _ _ _ _ w11 (.ok ((p3, (⟨0, [], []⟩ : DA)), none) l3 : PR ((((Unit × List UInt8) × TA) × DA) × Option EA)) (fun q => ((F a).setG (putT q.1.1.2 (F a).g).1).setG (putW q.2 (putT q.1.1.2 (F a).g).1)) _ _ _ _ _ _ _) := hid (P11.out.to fun h => DT.map h (fun p => (p, (none : Option EA))) rfl fun _ _ _ => rfl); have C14 := hid (dtake_lit sSemi (by decide) ⟨#[59]⟩ rfl _ P14.out.dt)))))
  have P16 := P15.out.out9 any_stable (List.mem_cons_of_mem _ List.mem_cons_self) (.string (bs s)) (.int .i64 (kt : Int)) (.int .i64 0) (.string ⟨#[]⟩) (.string ⟨#[]⟩) (.int .i64 (-1)) (.int .i64 0) (.bool false) (.slice none 0 0)
  refine bodyPost_ret (v := .agg #[.string (bs s), .int .i64 (kt : Int), .int .i64 0, .string ⟨#[]⟩, .string ⟨#[]⟩, .int .i64 (-1), .int .i64 0, .bool false, .slice none 0 0]) (by simp [results, Tryz.results105, go_sem, e0, e1, e2, e3, e4, e5, e6, e7, e8]) rfl ⟨_, _, _, _, _, _, _, _, _, ⟨s, (kt : Int), 0, [], [], (-1), 0, false, []⟩, rfl, ?_, ⟨_, rfl, World.ownsRow_nil _ _ _ _, Nest.none _ _ _⟩, fun p l' e0 => ?_, P16.st⟩
  · refine (DT.map (P16.dt.weak fun k hk => .inl (.inl (.inl hk))) (fun q => (a, IA.field q.1.1.1.2 q.1.1.2 q.1.2 q.2)) ?_ fun _ _ _ => rfl).mono (by omega) (by omega) (by omega) (by omega) (by omega)
    rw [PR.bind_ok, HR.out]
  · rw [PR.bind_ok, HR.out] at e0
    obtain ⟨q, e, rfl⟩ := map_ok e0
    obtain ⟨l2, e⟩ := keep_ok e
    have h3 := H3.out
    have hkt := HKT.out p3 l3 rfl
    obtain ⟨l4, h3, -⟩ := pair_ok h3
    obtain ⟨l5, h3⟩ := keep_ok h3
    have hs := HSN.out _ _ h3
    cases e
    show (⟨_, _, _, _, _, _, _, _, _⟩ : IM) = ⟨_, _, _, _, _, _, _, _, _⟩
    simp only [putI, whI]
    rw [hs, hkt]
set_option maxHeartbeats 8000000 in
set_option maxRecDepth 100000 in
theorem dfield_ny {n : Nat} {β : Type} {a : β} {l : List Tok} {F : β → FM} {X : Nat → Prop} {g m b c : Nat} (w : World) (h : DT X g m b c 0 w (.ok a l : PR β) F) (hn : 8 * m + 4 ≤ n) (hbc : b + 16 * n + 16 ≤ c) (hc8 : c ≤ 8000000) {p3 : ((Unit × List UInt8) × TA)} {l3 : List Tok} (h3 : ((((.ok () l : PR Unit).bind fun a l => (nameP l).bind fun y l => .ok (a, y) l).bind fun a l => (need sColon l).bind fun _ l => .ok a l).bind fun a l => (typP n 0 l).bind fun y l => .ok (a, y) l) = .ok p3 l3) (he : isT sEq l3 = false) (hwh : isT kWhere l3 = true) :
    Calls Tryz.prog 105 #[.pointer (some ⟨g, 0, none⟩)] w (PostI X g (m - 1) b c 0 w (.ok a l : PR β) F (fieldP n)) := by
  have hg := h.lt
  have hX0 : ∀ k, X k → k < w.heap.size := fun k hk => (h.out hk).lt
  obtain ⟨hD, hlm, hd32, hbc', hc9⟩ := h
  have hw := hD.wf
  have hp := hw.pos
  have hb3 : 3 ≤ b := by have := hD.pot; omega
  have hD4 : ((.ok p3 l3 : PR ((Unit × List UInt8) × TA)).bind fun a l => (optD l).bind fun y l => .ok (a, y) l) = .ok (p3, ⟨0, [], []⟩) l3 := by rw [PR.bind_ok]; unfold optD; rw [if_neg (by rw [he]; decide)]; rfl
  have hD5 : ((.ok (p3, (⟨0, [], []⟩ : DA)) l3 : PR (((Unit × List UInt8) × TA) × DA)).bind fun a l => (optW n l).bind fun y l => .ok (a, y) l) = ((.ok (p3, (⟨0, [], []⟩ : DA)) l3.tail : PR (((Unit × List UInt8) × TA) × DA)).bind fun a l => (bin n 1 0 l).bind fun y l => .ok (a, y) l).bind fun p l => .ok (p.1, some p.2) l := by rw [PR.bind_ok]; unfold optW; rw [if_pos hwh]; simp only [PR.bind_assoc, PR.bind_ok]
  have HR : Hid ((fieldP n l).bind (fun y l => .ok (a, y) l) = (((((.ok (p3, (⟨0, [], []⟩ : DA)) l3.tail : PR (((Unit × List UInt8) × TA) × DA)).bind fun a l => (bin n 1 0 l).bind fun y l => .ok (a, y) l).bind fun p l => .ok (p.1, some p.2) l) : PR ((((Unit × List UInt8) × TA) × DA) × Option EA)).bind fun a l => (need sSemi l).bind fun _ l => .ok a l).bind fun q l => .ok (a, IA.field q.1.1.1.2 q.1.1.2 q.1.2 q.2) l) := hid (by rw [field_eq, h3, hD4, hD5])
  have H3 := hid h3
  have P1 := hid ((DT.ok hD hd32 hlm hbc' hc9).start #[.string ⟨#[]⟩, .int .i64 0, .int .i64 0, .string ⟨#[]⟩, .string ⟨#[]⟩, .int .i64 0, .int .i64 0, .bool false, .slice none 0 0] 70 201 2 (by decide))
  have C1 := hid (dname_any _ P1.out.dt)
  clear hD h3 hD4 hD5
  go_enter Tryz.func105, Tryz.ntmps105
  go_wp2_with (first | (go_at_call 53; (first | ((with_reducible refine C1.out.mono ?_); rintro e w2 ⟨s, rfl, hT, hs, hS⟩; have HSN := hid hs; clear hs; have P2 := hid (P1.out.step any_stable hT hS); clear hT hS; have hlt : w.heap.size < w2.heap.size := (Array.getElem?_eq_some_iff.1 (P2.out.bx _ List.mem_cons_self).1).1; have P3 := hid (P2.out.box any_stable #[.string (bs s), .int .i64 0, .int .i64 0, .string ⟨#[]⟩, .string ⟨#[]⟩, .int .i64 (-1), .int .i64 0, .bool false, .slice none 0 0] 70 (by decide)); have C3 := hid (dtake_lit sColon (by decide) ⟨#[58]⟩ rfl _ P3.out.dt)))) | (go_at_call 52; (first | ((with_reducible refine C3.out.mono ?_); rintro e w4 ⟨rfl, hT, hS⟩; have P4 := hid (P3.out.step any_stable hT hS); clear hT hS; have C4 := hid (dkind_any n _ _ _ _ _ _ _ _ _ _ P4.out.dt (by omega) (by omega) (by omega))) | ((with_reducible refine C11.out.mono ?_); rintro e w12 ⟨rfl, hT, hS⟩; have P12 := hid (P11.out.step any_stable hT hS); clear hT hS; clear q7 qf; have P12' := hid (P12.out.to fun h => h.take_yes hwh); have C12 := hid (dexpr_any n _ _ _ _ _ _ _ _ _ _ P12'.out.dt (by omega) (by omega) (by omega))) | ((with_reducible refine C14.out.mono ?_); rintro e w15 ⟨rfl, hT, hS⟩; have P15 := hid (P14.out.step any_stable hT hS); clear hT hS; clear d0 d1 d2 d3 d4 d5 d6 d7 d8 df dl; obtain ⟨⟨d0, d1, d2, d3, d4, d5, d6, d7, d8⟩, df, dl⟩ := cells9 (P15.out.bx _ List.mem_cons_self).1; obtain ⟨⟨e0, e1, e2, e3, e4, e5, e6, e7, e8⟩, ef, el⟩ := cells9 (P15.out.bx _ (List.mem_cons_of_mem _ List.mem_cons_self)).1))) | (go_at_call 153; (first | ((with_reducible refine C4.out.mono ?_); rintro e w5 ⟨kt, rfl, hT, hk, hS⟩; rw [H3.out] at hT hk; have HKT := hid hk; clear hk; have P5 := hid (P4.out.step any_stable hT hS); clear hT hS; obtain ⟨⟨d0, d1, d2, d3, d4, d5, d6, d7, d8⟩, df, dl⟩ := cells9 (P5.out.bx _ List.mem_cons_self).1; have P6 : Hid (DP _ g _ _ _ _ _ _ _ _ [(w2.heap.size, #[.string (bs s), .int .i64 (kt : Int), .int .i64 0, .string ⟨#[]⟩, .string ⟨#[]⟩, .int .i64 (-1), .int .i64 0, .bool false, .slice none 0 0], 70), (w.heap.size, #[.string ⟨#[]⟩, .int .i64 0, .int .i64 0, .string ⟨#[]⟩, .string ⟨#[]⟩, .int .i64 0, .int .i64 0, .bool false, .slice none 0 0], 70)] _ _ _ _ _ _) := hid (P5.out.set any_stable (by simp; omega) (by decide : 1 < 9) (.int .i64 (kt : Int))); have C6 := hid (dis_lit sEq (by decide) ⟨#[61]⟩ rfl _ P6.out.dt he)))) | (go_at_call 50; (first | ((with_reducible refine C6.out.mono ?_); rintro e w7 ⟨rfl, hb⟩; have P7 := hid (P6.out.below any_stable hb); clear hb; clear d0 d1 d2 d3 d4 d5 d6 d7 d8 df dl; obtain ⟨i_, nn_, kk_, cp_, dd_, -, -, -, q7, qf⟩ := P7.out.dt.cells; simp only [PR.err] at q7; have P10 : Hid (DP _ g _ _ _ _ _ w7 (.ok (p3, (⟨0, [], []⟩ : DA)) l3 : PR (((Unit × List UInt8) × TA) × DA)) (fun q => (F a).setG (putT q.1.2 (F a).g).1) _ _ _ _ _ _ _) := hid (P7.out.to fun h => DT.map h (fun p => (p, (⟨0, [], []⟩ : DA))) rfl fun _ _ _ => rfl); have C10 := hid (dis_lit kWhere (by decide) ⟨#[119, 104, 101, 114, 101]⟩ rfl _ P10.out.dt hwh)) | ((with_reducible refine C10.out.mono ?_); rintro e w11 ⟨rfl, hb⟩; have P11 := hid (P10.out.below any_stable hb); clear hb; clear q7 qf; obtain ⟨i_, nn_, kk_, cp_, dd_, -, -, -, q7, qf⟩ := P11.out.dt.cells; simp only [PR.err] at q7; have C11 := hid (dtake_lit kWhere (by decide) ⟨#[119, 104, 101, 114, 101]⟩ rfl _ P11.out.dt)))) | (go_at_call 155; (first | (refine C12.out.mono ?_; rintro e w13 ⟨kx, rfl, hT, hk, hS⟩; have HKX := hid hk; clear hk; have P13 := hid (P12'.out.step any_stable hT hS); clear hT hS; obtain ⟨⟨d0, d1, d2, d3, d4, d5, d6, d7, d8⟩, df, dl⟩ := cells9 (P13.out.bx _ List.mem_cons_self).1; have P14' : Hid (DP _ g _ _ _ _ _ _ _ _ [(w2.heap.size, #[.string (bs s), .int .i64 (kt : Int), .int .i64 0, .string ⟨#[]⟩, .string ⟨#[]⟩, .int .i64 (kx : Int), .int .i64 0, .bool false, .slice none 0 0], 70), (w.heap.size, #[.string ⟨#[]⟩, .int .i64 0, .int .i64 0, .string ⟨#[]⟩, .string ⟨#[]⟩, .int .i64 0, .int .i64 0, .bool false, .slice none 0 0], 70)] _ _ _ _ _ _) := hid (P13.out.set any_stable (by simp; omega) (by decide : 5 < 9) (.int .i64 (kx : Int))); have P14 : Hid (DP _ g _ _ _ _ _ _ ((((.ok (p3, (⟨0, [], []⟩ : DA)) l3.tail : PR (((Unit × List UInt8) × TA) × DA)).bind fun a l => (bin n 1 0 l).bind fun y l => .ok (a, y) l).bind fun p l => .ok (p.1, some p.2) l) : PR ((((Unit × List UInt8) × TA) × DA) × Option EA)) (fun q => ((F a).setG (putT q.1.1.2 (F a).g).1).setG (putW q.2 (putT q.1.1.2 (F a).g).1)) _ _ _ _ _ _ _) := hid (P14'.out.to fun h => DT.map h (fun p => (p.1, some p.2)) rfl fun _ _ _ => rfl); have C14 := hid (dtake_lit sSemi (by decide) ⟨#[59]⟩ rfl _ P14.out.dt)))))
  have P16 := P15.out.out9 any_stable (List.mem_cons_of_mem _ List.mem_cons_self) (.string (bs s)) (.int .i64 (kt : Int)) (.int .i64 0) (.string ⟨#[]⟩) (.string ⟨#[]⟩) (.int .i64 (kx : Int)) (.int .i64 0) (.bool false) (.slice none 0 0)
  refine bodyPost_ret (v := .agg #[.string (bs s), .int .i64 (kt : Int), .int .i64 0, .string ⟨#[]⟩, .string ⟨#[]⟩, .int .i64 (kx : Int), .int .i64 0, .bool false, .slice none 0 0]) (by simp [results, Tryz.results105, go_sem, e0, e1, e2, e3, e4, e5, e6, e7, e8]) rfl ⟨_, _, _, _, _, _, _, _, _, ⟨s, (kt : Int), 0, [], [], (kx : Int), 0, false, []⟩, rfl, ?_, ⟨_, rfl, World.ownsRow_nil _ _ _ _, Nest.none _ _ _⟩, fun p l' e0 => ?_, P16.st⟩
  · refine (DT.map (P16.dt.weak fun k hk => .inl (.inl (.inl hk))) (fun q => (a, IA.field q.1.1.1.2 q.1.1.2 q.1.2 q.2)) ?_ fun _ _ _ => rfl).mono (by omega) (by omega) (by omega) (by omega) (by omega)
    rw [PR.bind_ok, HR.out]
  · rw [PR.bind_ok, HR.out] at e0
    obtain ⟨q, e, rfl⟩ := map_ok e0
    obtain ⟨l2, e⟩ := keep_ok e
    have h3 := H3.out
    have hkt := HKT.out p3 l3 rfl
    obtain ⟨l4, h3, -⟩ := pair_ok h3
    obtain ⟨l5, h3⟩ := keep_ok h3
    have hs := HSN.out _ _ h3
    obtain ⟨x, e1, rfl⟩ := map_ok e
    have e := e1
    have hkx := HKX.out _ _ e
    obtain ⟨l6, e, -⟩ := pair_ok e
    obtain ⟨x1, x2⟩ := x
    cases e
    show (⟨_, _, _, _, _, _, _, _, _⟩ : IM) = ⟨_, _, _, _, _, _, _, _, _⟩
    simp only [putI, whI]
    rw [hs, hkt, hkx]
set_option maxHeartbeats 8000000 in
set_option maxRecDepth 100000 in
theorem dfield_yb {n : Nat} {β : Type} {a : β} {l : List Tok} {F : β → FM} {X : Nat → Prop} {g m b c : Nat} (w : World) (h : DT X g m b c 0 w (.ok a l : PR β) F) (hn : 8 * m + 4 ≤ n) (hbc : b + 16 * n + 16 ≤ c) (hc8 : c ≤ 8000000) {p3 : ((Unit × List UInt8) × TA)} {l3 : List Tok} (h3 : ((((.ok () l : PR Unit).bind fun a l => (nameP l).bind fun y l => .ok (a, y) l).bind fun a l => (need sColon l).bind fun _ l => .ok a l).bind fun a l => (typP n 0 l).bind fun y l => .ok (a, y) l) = .ok p3 l3) (he : isT sEq l3 = true) {l4 : List Tok} {x : Nat} (h4 : ((.ok p3 l3.tail : PR ((Unit × List UInt8) × TA)).bind fun a l => (derP l).bind fun y l => .ok (a, y) l) = .bad l4 x) (hx : ((x : Int) == 0) = false) :
    Calls Tryz.prog 105 #[.pointer (some ⟨g, 0, none⟩)] w (PostI X g (m - 1) b c 0 w (.ok a l : PR β) F (fieldP n)) := by
  have hg := h.lt
  have hX0 : ∀ k, X k → k < w.heap.size := fun k hk => (h.out hk).lt
  obtain ⟨hD, hlm, hd32, hbc', hc9⟩ := h
  have hw := hD.wf
  have hp := hw.pos
  have hb3 : 3 ≤ b := by have := hD.pot; omega
  have hD4 : ((.ok p3 l3 : PR ((Unit × List UInt8) × TA)).bind fun a l => (optD l).bind fun y l => .ok (a, y) l) = .bad l4 x := by rw [PR.bind_ok]; unfold optD; rw [if_pos he]; exact h4
  have H4 := hid h4
  have hD5 : ((.bad l4 x : PR (((Unit × List UInt8) × TA) × DA)).bind fun a l => (optW n l).bind fun y l => .ok (a, y) l) = .bad l4 x := rfl
  have hz : ((x : Int) == 0) = false := hx
  obtain ⟨q2, hq2⟩ : ∃ q, isT kWhere (PR.bad l4 x : PR (((Unit × List UInt8) × TA) × DA)).rest = q := ⟨_, rfl⟩
  have HQ2 := hid hq2
  clear hq2
  have HR : Hid ((fieldP n l).bind (fun y l => .ok (a, y) l) = ((.bad l4 x : PR ((((Unit × List UInt8) × TA) × DA) × Option EA)).bind fun a l => (need sSemi l).bind fun _ l => .ok a l).bind fun q l => .ok (a, IA.field q.1.1.1.2 q.1.1.2 q.1.2 q.2) l) := hid (by rw [field_eq, h3, hD4, hD5])
  have H3 := hid h3
  have P1 := hid ((DT.ok hD hd32 hlm hbc' hc9).start #[.string ⟨#[]⟩, .int .i64 0, .int .i64 0, .string ⟨#[]⟩, .string ⟨#[]⟩, .int .i64 0, .int .i64 0, .bool false, .slice none 0 0] 70 201 2 (by decide))
  have C1 := hid (dname_any _ P1.out.dt)
  clear hD h3 hD4 hD5
  go_enter Tryz.func105, Tryz.ntmps105
  cases q2
  all_goals
    go_wp2_with (first | (go_at_call 53; (first | ((with_reducible refine C1.out.mono ?_); rintro e w2 ⟨s, rfl, hT, hs, hS⟩; have HSN := hid hs; clear hs; have P2 := hid (P1.out.step any_stable hT hS); clear hT hS; have hlt : w.heap.size < w2.heap.size := (Array.getElem?_eq_some_iff.1 (P2.out.bx _ List.mem_cons_self).1).1; have P3 := hid (P2.out.box any_stable #[.string (bs s), .int .i64 0, .int .i64 0, .string ⟨#[]⟩, .string ⟨#[]⟩, .int .i64 (-1), .int .i64 0, .bool false, .slice none 0 0] 70 (by decide)); have C3 := hid (dtake_lit sColon (by decide) ⟨#[58]⟩ rfl _ P3.out.dt)))) | (go_at_call 52; (first | ((with_reducible refine C3.out.mono ?_); rintro e w4 ⟨rfl, hT, hS⟩; have P4 := hid (P3.out.step any_stable hT hS); clear hT hS; have C4 := hid (dkind_any n _ _ _ _ _ _ _ _ _ _ P4.out.dt (by omega) (by omega) (by omega))) | ((with_reducible refine C7.out.mono ?_); rintro e w8 ⟨rfl, hT, hS⟩; have P8 := hid (P7.out.step any_stable hT hS); clear hT hS; clear q7 qf; have P8' := hid (P8.out.to fun h => h.take_yes he); obtain ⟨⟨d0, d1, d2, d3, d4, d5, d6, d7, d8⟩, df, dl⟩ := cells9 (P8.out.bx _ List.mem_cons_self).1; have C8 := hid (dder_any s (kt : Int) _ P8'.out.dt)) | ((with_reducible refine C14.out.mono ?_); rintro e w15 ⟨rfl, hT, hS⟩; have P15 := hid (P14.out.step any_stable hT hS); clear hT hS; clear q7 qf; obtain ⟨⟨d0, d1, d2, d3, d4, d5, d6, d7, d8⟩, df, dl⟩ := cells9 (P15.out.bx _ List.mem_cons_self).1; obtain ⟨⟨e0, e1, e2, e3, e4, e5, e6, e7, e8⟩, ef, el⟩ := cells9 (P15.out.bx _ (List.mem_cons_of_mem _ List.mem_cons_self)).1))) | (go_at_call 153; (first | ((with_reducible refine C4.out.mono ?_); rintro e w5 ⟨kt, rfl, hT, hk, hS⟩; rw [H3.out] at hT hk; have HKT := hid hk; clear hk; have P5 := hid (P4.out.step any_stable hT hS); clear hT hS; obtain ⟨⟨d0, d1, d2, d3, d4, d5, d6, d7, d8⟩, df, dl⟩ := cells9 (P5.out.bx _ List.mem_cons_self).1; have P6 : Hid (DP _ g _ _ _ _ _ _ _ _ [(w2.heap.size, #[.string (bs s), .int .i64 (kt : Int), .int .i64 0, .string ⟨#[]⟩, .string ⟨#[]⟩, .int .i64 (-1), .int .i64 0, .bool false, .slice none 0 0], 70), (w.heap.size, #[.string ⟨#[]⟩, .int .i64 0, .int .i64 0, .string ⟨#[]⟩, .string ⟨#[]⟩, .int .i64 0, .int .i64 0, .bool false, .slice none 0 0], 70)] _ _ _ _ _ _) := hid (P5.out.set any_stable (by simp; omega) (by decide : 1 < 9) (.int .i64 (kt : Int))); have C6 := hid (dis_lit sEq (by decide) ⟨#[61]⟩ rfl _ P6.out.dt he)))) | (go_at_call 50; (first | ((with_reducible refine C6.out.mono ?_); rintro e w7 ⟨rfl, hb⟩; have P7 := hid (P6.out.below any_stable hb); clear hb; clear d0 d1 d2 d3 d4 d5 d6 d7 d8 df dl; obtain ⟨i_, nn_, kk_, cp_, dd_, -, -, -, q7, qf⟩ := P7.out.dt.cells; simp only [PR.err] at q7; have C7 := hid (dtake_lit sEq (by decide) ⟨#[61]⟩ rfl _ P7.out.dt)) | ((with_reducible refine C10.out.mono ?_); rintro e w11 ⟨rfl, hb⟩; have P11 := hid (P10.out.below any_stable hb); clear hb; clear d0 d1 d2 d3 d4 d5 d6 d7 d8 df dl; obtain ⟨i_, nn_, kk_, cp_, dd_, -, -, -, q7, qf⟩ := P11.out.dt.cells; simp only [PR.err] at q7; have P14 : Hid (DP _ g _ _ _ _ _ w11 (.bad l4 x : PR ((((Unit × List UInt8) × TA) × DA) × Option EA)) (fun q => ((F a).setG (putT q.1.1.2 (F a).g).1).setG (putW q.2 (putT q.1.1.2 (F a).g).1)) _ _ _ _ _ _ _) := hid (P11.out.to fun h => DT.map h (fun p => (p, (none : Option EA))) rfl fun _ _ _ => rfl); have C14 := hid (dtake_lit sSemi (by decide) ⟨#[59]⟩ rfl _ P14.out.dt)))) | (go_at_call 154; (first | (refine C8.out.mono ?_; rintro e w9 ⟨K, A, B, rfl, hT, hd, hS⟩; rw [H4.out] at hT hd; have HD := hid hd; clear hd; have P9 := hid (P8'.out.step any_stable hT hS); clear hT hS; clear d0 d1 d2 d3 d4 d5 d6 d7 d8 df dl; obtain ⟨⟨d0, d1, d2, d3, d4, d5, d6, d7, d8⟩, df, dl⟩ := cells9 (P9.out.bx _ List.mem_cons_self).1; have P10 : Hid (DP _ g _ _ _ _ _ ((((((((((w9).setCell ⟨w2.heap.size, 0, none⟩ (.string (bs s))).setCell ⟨w2.heap.size, 1, none⟩ (.int .i64 (kt : Int))).setCell ⟨w2.heap.size, 2, none⟩ (.int .i64 (K : Int))).setCell ⟨w2.heap.size, 3, none⟩ (.string (bs A))).setCell ⟨w2.heap.size, 4, none⟩ (.string (bs B))).setCell ⟨w2.heap.size, 5, none⟩ (.int .i64 (-1))).setCell ⟨w2.heap.size, 6, none⟩ (.int .i64 0)).setCell ⟨w2.heap.size, 7, none⟩ (.bool false)).setCell ⟨w2.heap.size, 8, none⟩ (.slice none 0 0)) _ _ [(w2.heap.size, #[.string (bs s), .int .i64 (kt : Int), .int .i64 (K : Int), .string (bs A), .string (bs B), .int .i64 (-1), .int .i64 0, .bool false, .slice none 0 0], 70), (w.heap.size, #[.string ⟨#[]⟩, .int .i64 0, .int .i64 0, .string ⟨#[]⟩, .string ⟨#[]⟩, .int .i64 0, .int .i64 0, .bool false, .slice none 0 0], 70)] _ _ _ _ _ _) := hid (P9.out.fill9 any_stable (by simp; omega) _ _ _ _ _ _ _ _ _); have C10 := hid (dis_lit kWhere (by decide) ⟨#[119, 104, 101, 114, 101]⟩ rfl _ P10.out.dt HQ2.out)))))
    have P16 := P15.out.out9 any_stable (List.mem_cons_of_mem _ List.mem_cons_self) (.string (bs s)) (.int .i64 (kt : Int)) (.int .i64 (K : Int)) (.string (bs A)) (.string (bs B)) (.int .i64 (-1)) (.int .i64 0) (.bool false) (.slice none 0 0)
    refine bodyPost_ret (v := .agg #[.string (bs s), .int .i64 (kt : Int), .int .i64 (K : Int), .string (bs A), .string (bs B), .int .i64 (-1), .int .i64 0, .bool false, .slice none 0 0]) (by simp [results, Tryz.results105, go_sem, e0, e1, e2, e3, e4, e5, e6, e7, e8]) rfl ⟨_, _, _, _, _, _, _, _, _, ⟨s, (kt : Int), K, A, B, (-1), 0, false, []⟩, rfl, ?_, ⟨_, rfl, World.ownsRow_nil _ _ _ _, Nest.none _ _ _⟩, fun p l' e0 => ?_, P16.st⟩
    · refine (DT.map (P16.dt.weak fun k hk => .inl (.inl (.inl hk))) (fun q => (a, IA.field q.1.1.1.2 q.1.1.2 q.1.2 q.2)) ?_ fun _ _ _ => rfl).mono (by omega) (by omega) (by omega) (by omega) (by omega)
      rw [PR.bind_ok, HR.out]
    · rw [PR.bind_ok, HR.out] at e0
      cases e0
set_option maxHeartbeats 8000000 in
set_option maxRecDepth 100000 in
theorem dfield_yn {n : Nat} {β : Type} {a : β} {l : List Tok} {F : β → FM} {X : Nat → Prop} {g m b c : Nat} (w : World) (h : DT X g m b c 0 w (.ok a l : PR β) F) (hn : 8 * m + 4 ≤ n) (hbc : b + 16 * n + 16 ≤ c) (hc8 : c ≤ 8000000) {p3 : ((Unit × List UInt8) × TA)} {l3 : List Tok} (h3 : ((((.ok () l : PR Unit).bind fun a l => (nameP l).bind fun y l => .ok (a, y) l).bind fun a l => (need sColon l).bind fun _ l => .ok a l).bind fun a l => (typP n 0 l).bind fun y l => .ok (a, y) l) = .ok p3 l3) (he : isT sEq l3 = true) {p4 : (((Unit × List UInt8) × TA) × DA)} {l4 : List Tok} (h4 : ((.ok p3 l3.tail : PR ((Unit × List UInt8) × TA)).bind fun a l => (derP l).bind fun y l => .ok (a, y) l) = .ok p4 l4) (hwh : isT kWhere l4 = false) :
    Calls Tryz.prog 105 #[.pointer (some ⟨g, 0, none⟩)] w (PostI X g (m - 1) b c 0 w (.ok a l : PR β) F (fieldP n)) := by
  have hg := h.lt
  have hX0 : ∀ k, X k → k < w.heap.size := fun k hk => (h.out hk).lt
  obtain ⟨hD, hlm, hd32, hbc', hc9⟩ := h
  have hw := hD.wf
  have hp := hw.pos
  have hb3 : 3 ≤ b := by have := hD.pot; omega
  have hD4 : ((.ok p3 l3 : PR ((Unit × List UInt8) × TA)).bind fun a l => (optD l).bind fun y l => .ok (a, y) l) = .ok p4 l4 := by rw [PR.bind_ok]; unfold optD; rw [if_pos he]; exact h4
  have H4 := hid h4
  have hD5 : ((.ok p4 l4 : PR (((Unit × List UInt8) × TA) × DA)).bind fun a l => (optW n l).bind fun y l => .ok (a, y) l) = .ok (p4, none) l4 := by rw [PR.bind_ok]; unfold optW; rw [if_neg (by rw [hwh]; decide)]; rfl
  have HR : Hid ((fieldP n l).bind (fun y l => .ok (a, y) l) = ((.ok (p4, none) l4 : PR ((((Unit × List UInt8) × TA) × DA) × Option EA)).bind fun a l => (need sSemi l).bind fun _ l => .ok a l).bind fun q l => .ok (a, IA.field q.1.1.1.2 q.1.1.2 q.1.2 q.2) l) := hid (by rw [field_eq, h3, hD4, hD5])
  have H3 := hid h3
  have P1 := hid ((DT.ok hD hd32 hlm hbc' hc9).start #[.string ⟨#[]⟩, .int .i64 0, .int .i64 0, .string ⟨#[]⟩, .string ⟨#[]⟩, .int .i64 0, .int .i64 0, .bool false, .slice none 0 0] 70 201 2 (by decide))
  have C1 := hid (dname_any _ P1.out.dt)
  clear hD h3 hD4 hD5
  go_enter Tryz.func105, Tryz.ntmps105
  go_wp2_with (first | (go_at_call 53; (first | ((with_reducible refine C1.out.mono ?_); rintro e w2 ⟨s, rfl, hT, hs, hS⟩; have HSN := hid hs; clear hs; have P2 := hid (P1.out.step any_stable hT hS); clear hT hS; have hlt : w.heap.size < w2.heap.size := (Array.getElem?_eq_some_iff.1 (P2.out.bx _ List.mem_cons_self).1).1; have P3 := hid (P2.out.box any_stable #[.string (bs s), .int .i64 0, .int .i64 0, .string ⟨#[]⟩, .string ⟨#[]⟩, .int .i64 (-1), .int .i64 0, .bool false, .slice none 0 0] 70 (by decide)); have C3 := hid (dtake_lit sColon (by decide) ⟨#[58]⟩ rfl _ P3.out.dt)))) | (go_at_call 52; (first | ((with_reducible refine C3.out.mono ?_); rintro e w4 ⟨rfl, hT, hS⟩; have P4 := hid (P3.out.step any_stable hT hS); clear hT hS; have C4 := hid (dkind_any n _ _ _ _ _ _ _ _ _ _ P4.out.dt (by omega) (by omega) (by omega))) | ((with_reducible refine C7.out.mono ?_); rintro e w8 ⟨rfl, hT, hS⟩; have P8 := hid (P7.out.step any_stable hT hS); clear hT hS; clear q7 qf; have P8' := hid (P8.out.to fun h => h.take_yes he); obtain ⟨⟨d0, d1, d2, d3, d4, d5, d6, d7, d8⟩, df, dl⟩ := cells9 (P8.out.bx _ List.mem_cons_self).1; have C8 := hid (dder_any s (kt : Int) _ P8'.out.dt)) | ((with_reducible refine C14.out.mono ?_); rintro e w15 ⟨rfl, hT, hS⟩; have P15 := hid (P14.out.step any_stable hT hS); clear hT hS; clear q7 qf; obtain ⟨⟨d0, d1, d2, d3, d4, d5, d6, d7, d8⟩, df, dl⟩ := cells9 (P15.out.bx _ List.mem_cons_self).1; obtain ⟨⟨e0, e1, e2, e3, e4, e5, e6, e7, e8⟩, ef, el⟩ := cells9 (P15.out.bx _ (List.mem_cons_of_mem _ List.mem_cons_self)).1))) | (go_at_call 153; (first | ((with_reducible refine C4.out.mono ?_); rintro e w5 ⟨kt, rfl, hT, hk, hS⟩; rw [H3.out] at hT hk; have HKT := hid hk; clear hk; have P5 := hid (P4.out.step any_stable hT hS); clear hT hS; obtain ⟨⟨d0, d1, d2, d3, d4, d5, d6, d7, d8⟩, df, dl⟩ := cells9 (P5.out.bx _ List.mem_cons_self).1; have P6 : Hid (DP _ g _ _ _ _ _ _ _ _ [(w2.heap.size, #[.string (bs s), .int .i64 (kt : Int), .int .i64 0, .string ⟨#[]⟩, .string ⟨#[]⟩, .int .i64 (-1), .int .i64 0, .bool false, .slice none 0 0], 70), (w.heap.size, #[.string ⟨#[]⟩, .int .i64 0, .int .i64 0, .string ⟨#[]⟩, .string ⟨#[]⟩, .int .i64 0, .int .i64 0, .bool false, .slice none 0 0], 70)] _ _ _ _ _ _) := hid (P5.out.set any_stable (by simp; omega) (by decide : 1 < 9) (.int .i64 (kt : Int))); have C6 := hid (dis_lit sEq (by decide) ⟨#[61]⟩ rfl _ P6.out.dt he)))) | (go_at_call 50; (first | ((with_reducible refine C6.out.mono ?_); rintro e w7 ⟨rfl, hb⟩; have P7 := hid (P6.out.below any_stable hb); clear hb; clear d0 d1 d2 d3 d4 d5 d6 d7 d8 df dl; obtain ⟨i_, nn_, kk_, cp_, dd_, -, -, -, q7, qf⟩ := P7.out.dt.cells; simp only [PR.err] at q7; have C7 := hid (dtake_lit sEq (by decide) ⟨#[61]⟩ rfl _ P7.out.dt)) | ((with_reducible refine C10.out.mono ?_); rintro e w11 ⟨rfl, hb⟩; have P11 := hid (P10.out.below any_stable hb); clear hb; clear d0 d1 d2 d3 d4 d5 d6 d7 d8 df dl; obtain ⟨i_, nn_, kk_, cp_, dd_, -, -, -, q7, qf⟩ := P11.out.dt.cells; simp only [PR.err] at q7; have P14 : Hid (DP _ g _ _ _ _ _ w11 (.ok (p4, none) l4 : PR ((((Unit × List UInt8) × TA) × DA) × Option EA)) (fun q => ((F a).setG (putT q.1.1.2 (F a).g).1).setG (putW q.2 (putT q.1.1.2 (F a).g).1)) _ _ _ _ _ _ _) := hid (P11.out.to fun h => DT.map h (fun p => (p, (none : Option EA))) rfl fun _ _ _ => rfl); have C14 := hid (dtake_lit sSemi (by decide) ⟨#[59]⟩ rfl _ P14.out.dt)))) | (go_at_call 154; (first | (refine C8.out.mono ?_; rintro e w9 ⟨K, A, B, rfl, hT, hd, hS⟩; rw [H4.out] at hT hd; have HD := hid hd; clear hd; have P9 := hid (P8'.out.step any_stable hT hS); clear hT hS; clear d0 d1 d2 d3 d4 d5 d6 d7 d8 df dl; obtain ⟨⟨d0, d1, d2, d3, d4, d5, d6, d7, d8⟩, df, dl⟩ := cells9 (P9.out.bx _ List.mem_cons_self).1; have P10 : Hid (DP _ g _ _ _ _ _ ((((((((((w9).setCell ⟨w2.heap.size, 0, none⟩ (.string (bs s))).setCell ⟨w2.heap.size, 1, none⟩ (.int .i64 (kt : Int))).setCell ⟨w2.heap.size, 2, none⟩ (.int .i64 (K : Int))).setCell ⟨w2.heap.size, 3, none⟩ (.string (bs A))).setCell ⟨w2.heap.size, 4, none⟩ (.string (bs B))).setCell ⟨w2.heap.size, 5, none⟩ (.int .i64 (-1))).setCell ⟨w2.heap.size, 6, none⟩ (.int .i64 0)).setCell ⟨w2.heap.size, 7, none⟩ (.bool false)).setCell ⟨w2.heap.size, 8, none⟩ (.slice none 0 0)) _ _ [(w2.heap.size, #[.string (bs s), .int .i64 (kt : Int), .int .i64 (K : Int), .string (bs A), .string (bs B), .int .i64 (-1), .int .i64 0, .bool false, .slice none 0 0], 70), (w.heap.size, #[.string ⟨#[]⟩, .int .i64 0, .int .i64 0, .string ⟨#[]⟩, .string ⟨#[]⟩, .int .i64 0, .int .i64 0, .bool false, .slice none 0 0], 70)] _ _ _ _ _ _) := hid (P9.out.fill9 any_stable (by simp; omega) _ _ _ _ _ _ _ _ _); have C10 := hid (dis_lit kWhere (by decide) ⟨#[119, 104, 101, 114, 101]⟩ rfl _ P10.out.dt hwh)))))
  have P16 := P15.out.out9 any_stable (List.mem_cons_of_mem _ List.mem_cons_self) (.string (bs s)) (.int .i64 (kt : Int)) (.int .i64 (K : Int)) (.string (bs A)) (.string (bs B)) (.int .i64 (-1)) (.int .i64 0) (.bool false) (.slice none 0 0)
  refine bodyPost_ret (v := .agg #[.string (bs s), .int .i64 (kt : Int), .int .i64 (K : Int), .string (bs A), .string (bs B), .int .i64 (-1), .int .i64 0, .bool false, .slice none 0 0]) (by simp [results, Tryz.results105, go_sem, e0, e1, e2, e3, e4, e5, e6, e7, e8]) rfl ⟨_, _, _, _, _, _, _, _, _, ⟨s, (kt : Int), K, A, B, (-1), 0, false, []⟩, rfl, ?_, ⟨_, rfl, World.ownsRow_nil _ _ _ _, Nest.none _ _ _⟩, fun p l' e0 => ?_, P16.st⟩
  · refine (DT.map (P16.dt.weak fun k hk => .inl (.inl (.inl hk))) (fun q => (a, IA.field q.1.1.1.2 q.1.1.2 q.1.2 q.2)) ?_ fun _ _ _ => rfl).mono (by omega) (by omega) (by omega) (by omega) (by omega)
    rw [PR.bind_ok, HR.out]
  · rw [PR.bind_ok, HR.out] at e0
    obtain ⟨q, e, rfl⟩ := map_ok e0
    obtain ⟨l2, e⟩ := keep_ok e
    have h3 := H3.out
    have hkt := HKT.out p3 l3 rfl
    obtain ⟨l4, h3, -⟩ := pair_ok h3
    obtain ⟨l5, h3⟩ := keep_ok h3
    have hs := HSN.out _ _ h3
    have hd := HD.out _ _ rfl
    have hp4 : p4.1 = p3 := by
      obtain ⟨l7, h4', -⟩ := pair_ok H4.out
      rw [PR.ok.injEq] at h4'
      exact h4'.1.symm
    cases e
    show (⟨_, _, _, _, _, _, _, _, _⟩ : IM) = ⟨_, _, _, _, _, _, _, _, _⟩
    simp only [putI, whI]
    rw [hs, hkt, hd, hp4]
set_option maxHeartbeats 8000000 in
set_option maxRecDepth 100000 in
theorem dfield_yy {n : Nat} {β : Type} {a : β} {l : List Tok} {F : β → FM} {X : Nat → Prop} {g m b c : Nat} (w : World) (h : DT X g m b c 0 w (.ok a l : PR β) F) (hn : 8 * m + 4 ≤ n) (hbc : b + 16 * n + 16 ≤ c) (hc8 : c ≤ 8000000) {p3 : ((Unit × List UInt8) × TA)} {l3 : List Tok} (h3 : ((((.ok () l : PR Unit).bind fun a l => (nameP l).bind fun y l => .ok (a, y) l).bind fun a l => (need sColon l).bind fun _ l => .ok a l).bind fun a l => (typP n 0 l).bind fun y l => .ok (a, y) l) = .ok p3 l3) (he : isT sEq l3 = true) {p4 : (((Unit × List UInt8) × TA) × DA)} {l4 : List Tok} (h4 : ((.ok p3 l3.tail : PR ((Unit × List UInt8) × TA)).bind fun a l => (derP l).bind fun y l => .ok (a, y) l) = .ok p4 l4) (hwh : isT kWhere l4 = true) :
    Calls Tryz.prog 105 #[.pointer (some ⟨g, 0, none⟩)] w (PostI X g (m - 1) b c 0 w (.ok a l : PR β) F (fieldP n)) := by
  have hg := h.lt
  have hX0 : ∀ k, X k → k < w.heap.size := fun k hk => (h.out hk).lt
  obtain ⟨hD, hlm, hd32, hbc', hc9⟩ := h
  have hw := hD.wf
  have hp := hw.pos
  have hb3 : 3 ≤ b := by have := hD.pot; omega
  have hD4 : ((.ok p3 l3 : PR ((Unit × List UInt8) × TA)).bind fun a l => (optD l).bind fun y l => .ok (a, y) l) = .ok p4 l4 := by rw [PR.bind_ok]; unfold optD; rw [if_pos he]; exact h4
  have H4 := hid h4
  have hD5 : ((.ok p4 l4 : PR (((Unit × List UInt8) × TA) × DA)).bind fun a l => (optW n l).bind fun y l => .ok (a, y) l) = ((.ok p4 l4.tail : PR (((Unit × List UInt8) × TA) × DA)).bind fun a l => (bin n 1 0 l).bind fun y l => .ok (a, y) l).bind fun p l => .ok (p.1, some p.2) l := by rw [PR.bind_ok]; unfold optW; rw [if_pos hwh]; simp only [PR.bind_assoc, PR.bind_ok]
  have HR : Hid ((fieldP n l).bind (fun y l => .ok (a, y) l) = (((((.ok p4 l4.tail : PR (((Unit × List UInt8) × TA) × DA)).bind fun a l => (bin n 1 0 l).bind fun y l => .ok (a, y) l).bind fun p l => .ok (p.1, some p.2) l) : PR ((((Unit × List UInt8) × TA) × DA) × Option EA)).bind fun a l => (need sSemi l).bind fun _ l => .ok a l).bind fun q l => .ok (a, IA.field q.1.1.1.2 q.1.1.2 q.1.2 q.2) l) := hid (by rw [field_eq, h3, hD4, hD5])
  have H3 := hid h3
  have P1 := hid ((DT.ok hD hd32 hlm hbc' hc9).start #[.string ⟨#[]⟩, .int .i64 0, .int .i64 0, .string ⟨#[]⟩, .string ⟨#[]⟩, .int .i64 0, .int .i64 0, .bool false, .slice none 0 0] 70 201 2 (by decide))
  have C1 := hid (dname_any _ P1.out.dt)
  clear hD h3 hD4 hD5
  go_enter Tryz.func105, Tryz.ntmps105
  go_wp2_with (first | (go_at_call 53; (first | ((with_reducible refine C1.out.mono ?_); rintro e w2 ⟨s, rfl, hT, hs, hS⟩; have HSN := hid hs; clear hs; have P2 := hid (P1.out.step any_stable hT hS); clear hT hS; have hlt : w.heap.size < w2.heap.size := (Array.getElem?_eq_some_iff.1 (P2.out.bx _ List.mem_cons_self).1).1; have P3 := hid (P2.out.box any_stable #[.string (bs s), .int .i64 0, .int .i64 0, .string ⟨#[]⟩, .string ⟨#[]⟩, .int .i64 (-1), .int .i64 0, .bool false, .slice none 0 0] 70 (by decide)); have C3 := hid (dtake_lit sColon (by decide) ⟨#[58]⟩ rfl _ P3.out.dt)))) | (go_at_call 52; (first | ((with_reducible refine C3.out.mono ?_); rintro e w4 ⟨rfl, hT, hS⟩; have P4 := hid (P3.out.step any_stable hT hS); clear hT hS; have C4 := hid (dkind_any n _ _ _ _ _ _ _ _ _ _ P4.out.dt (by omega) (by omega) (by omega))) | ((with_reducible refine C7.out.mono ?_); rintro e w8 ⟨rfl, hT, hS⟩; have P8 := hid (P7.out.step any_stable hT hS); clear hT hS; clear q7 qf; have P8' := hid (P8.out.to fun h => h.take_yes he); obtain ⟨⟨d0, d1, d2, d3, d4, d5, d6, d7, d8⟩, df, dl⟩ := cells9 (P8.out.bx _ List.mem_cons_self).1; have C8 := hid (dder_any s (kt : Int) _ P8'.out.dt)) | ((with_reducible refine C11.out.mono ?_); rintro e w12 ⟨rfl, hT, hS⟩; have P12 := hid (P11.out.step any_stable hT hS); clear hT hS; clear q7 qf; have P12' := hid (P12.out.to fun h => h.take_yes hwh); have C12 := hid (dexpr_any n _ _ _ _ _ _ _ _ _ _ P12'.out.dt (by omega) (by omega) (by omega))) | ((with_reducible refine C14.out.mono ?_); rintro e w15 ⟨rfl, hT, hS⟩; have P15 := hid (P14.out.step any_stable hT hS); clear hT hS; clear d0 d1 d2 d3 d4 d5 d6 d7 d8 df dl; obtain ⟨⟨d0, d1, d2, d3, d4, d5, d6, d7, d8⟩, df, dl⟩ := cells9 (P15.out.bx _ List.mem_cons_self).1; obtain ⟨⟨e0, e1, e2, e3, e4, e5, e6, e7, e8⟩, ef, el⟩ := cells9 (P15.out.bx _ (List.mem_cons_of_mem _ List.mem_cons_self)).1))) | (go_at_call 153; (first | ((with_reducible refine C4.out.mono ?_); rintro e w5 ⟨kt, rfl, hT, hk, hS⟩; rw [H3.out] at hT hk; have HKT := hid hk; clear hk; have P5 := hid (P4.out.step any_stable hT hS); clear hT hS; obtain ⟨⟨d0, d1, d2, d3, d4, d5, d6, d7, d8⟩, df, dl⟩ := cells9 (P5.out.bx _ List.mem_cons_self).1; have P6 : Hid (DP _ g _ _ _ _ _ _ _ _ [(w2.heap.size, #[.string (bs s), .int .i64 (kt : Int), .int .i64 0, .string ⟨#[]⟩, .string ⟨#[]⟩, .int .i64 (-1), .int .i64 0, .bool false, .slice none 0 0], 70), (w.heap.size, #[.string ⟨#[]⟩, .int .i64 0, .int .i64 0, .string ⟨#[]⟩, .string ⟨#[]⟩, .int .i64 0, .int .i64 0, .bool false, .slice none 0 0], 70)] _ _ _ _ _ _) := hid (P5.out.set any_stable (by simp; omega) (by decide : 1 < 9) (.int .i64 (kt : Int))); have C6 := hid (dis_lit sEq (by decide) ⟨#[61]⟩ rfl _ P6.out.dt he)))) | (go_at_call 50; (first | ((with_reducible refine C6.out.mono ?_); rintro e w7 ⟨rfl, hb⟩; have P7 := hid (P6.out.below any_stable hb); clear hb; clear d0 d1 d2 d3 d4 d5 d6 d7 d8 df dl; obtain ⟨i_, nn_, kk_, cp_, dd_, -, -, -, q7, qf⟩ := P7.out.dt.cells; simp only [PR.err] at q7; have C7 := hid (dtake_lit sEq (by decide) ⟨#[61]⟩ rfl _ P7.out.dt)) | ((with_reducible refine C10.out.mono ?_); rintro e w11 ⟨rfl, hb⟩; have P11 := hid (P10.out.below any_stable hb); clear hb; clear d0 d1 d2 d3 d4 d5 d6 d7 d8 df dl; obtain ⟨i_, nn_, kk_, cp_, dd_, -, -, -, q7, qf⟩ := P11.out.dt.cells; simp only [PR.err] at q7; have C11 := hid (dtake_lit kWhere (by decide) ⟨#[119, 104, 101, 114, 101]⟩ rfl _ P11.out.dt)))) | (go_at_call 154; (first | (refine C8.out.mono ?_; rintro e w9 ⟨K, A, B, rfl, hT, hd, hS⟩; rw [H4.out] at hT hd; have HD := hid hd; clear hd; have P9 := hid (P8'.out.step any_stable hT hS); clear hT hS; clear d0 d1 d2 d3 d4 d5 d6 d7 d8 df dl; obtain ⟨⟨d0, d1, d2, d3, d4, d5, d6, d7, d8⟩, df, dl⟩ := cells9 (P9.out.bx _ List.mem_cons_self).1; have P10 : Hid (DP _ g _ _ _ _ _ ((((((((((w9).setCell ⟨w2.heap.size, 0, none⟩ (.string (bs s))).setCell ⟨w2.heap.size, 1, none⟩ (.int .i64 (kt : Int))).setCell ⟨w2.heap.size, 2, none⟩ (.int .i64 (K : Int))).setCell ⟨w2.heap.size, 3, none⟩ (.string (bs A))).setCell ⟨w2.heap.size, 4, none⟩ (.string (bs B))).setCell ⟨w2.heap.size, 5, none⟩ (.int .i64 (-1))).setCell ⟨w2.heap.size, 6, none⟩ (.int .i64 0)).setCell ⟨w2.heap.size, 7, none⟩ (.bool false)).setCell ⟨w2.heap.size, 8, none⟩ (.slice none 0 0)) _ _ [(w2.heap.size, #[.string (bs s), .int .i64 (kt : Int), .int .i64 (K : Int), .string (bs A), .string (bs B), .int .i64 (-1), .int .i64 0, .bool false, .slice none 0 0], 70), (w.heap.size, #[.string ⟨#[]⟩, .int .i64 0, .int .i64 0, .string ⟨#[]⟩, .string ⟨#[]⟩, .int .i64 0, .int .i64 0, .bool false, .slice none 0 0], 70)] _ _ _ _ _ _) := hid (P9.out.fill9 any_stable (by simp; omega) _ _ _ _ _ _ _ _ _); have C10 := hid (dis_lit kWhere (by decide) ⟨#[119, 104, 101, 114, 101]⟩ rfl _ P10.out.dt hwh)))) | (go_at_call 155; (first | (refine C12.out.mono ?_; rintro e w13 ⟨kx, rfl, hT, hk, hS⟩; have HKX := hid hk; clear hk; have P13 := hid (P12'.out.step any_stable hT hS); clear hT hS; obtain ⟨⟨d0, d1, d2, d3, d4, d5, d6, d7, d8⟩, df, dl⟩ := cells9 (P13.out.bx _ List.mem_cons_self).1; have P14' : Hid (DP _ g _ _ _ _ _ _ _ _ [(w2.heap.size, #[.string (bs s), .int .i64 (kt : Int), .int .i64 (K : Int), .string (bs A), .string (bs B), .int .i64 (kx : Int), .int .i64 0, .bool false, .slice none 0 0], 70), (w.heap.size, #[.string ⟨#[]⟩, .int .i64 0, .int .i64 0, .string ⟨#[]⟩, .string ⟨#[]⟩, .int .i64 0, .int .i64 0, .bool false, .slice none 0 0], 70)] _ _ _ _ _ _) := hid (P13.out.set any_stable (by simp; omega) (by decide : 5 < 9) (.int .i64 (kx : Int))); have P14 : Hid (DP _ g _ _ _ _ _ _ ((((.ok p4 l4.tail : PR (((Unit × List UInt8) × TA) × DA)).bind fun a l => (bin n 1 0 l).bind fun y l => .ok (a, y) l).bind fun p l => .ok (p.1, some p.2) l) : PR ((((Unit × List UInt8) × TA) × DA) × Option EA)) (fun q => ((F a).setG (putT q.1.1.2 (F a).g).1).setG (putW q.2 (putT q.1.1.2 (F a).g).1)) _ _ _ _ _ _ _) := hid (P14'.out.to fun h => DT.map h (fun p => (p.1, some p.2)) rfl fun _ _ _ => rfl); have C14 := hid (dtake_lit sSemi (by decide) ⟨#[59]⟩ rfl _ P14.out.dt)))))
  have P16 := P15.out.out9 any_stable (List.mem_cons_of_mem _ List.mem_cons_self) (.string (bs s)) (.int .i64 (kt : Int)) (.int .i64 (K : Int)) (.string (bs A)) (.string (bs B)) (.int .i64 (kx : Int)) (.int .i64 0) (.bool false) (.slice none 0 0)
  refine bodyPost_ret (v := .agg #[.string (bs s), .int .i64 (kt : Int), .int .i64 (K : Int), .string (bs A), .string (bs B), .int .i64 (kx : Int), .int .i64 0, .bool false, .slice none 0 0]) (by simp [results, Tryz.results105, go_sem, e0, e1, e2, e3, e4, e5, e6, e7, e8]) rfl ⟨_, _, _, _, _, _, _, _, _, ⟨s, (kt : Int), K, A, B, (kx : Int), 0, false, []⟩, rfl, ?_, ⟨_, rfl, World.ownsRow_nil _ _ _ _, Nest.none _ _ _⟩, fun p l' e0 => ?_, P16.st⟩
  · refine (DT.map (P16.dt.weak fun k hk => .inl (.inl (.inl hk))) (fun q => (a, IA.field q.1.1.1.2 q.1.1.2 q.1.2 q.2)) ?_ fun _ _ _ => rfl).mono (by omega) (by omega) (by omega) (by omega) (by omega)
    rw [PR.bind_ok, HR.out]
  · rw [PR.bind_ok, HR.out] at e0
    obtain ⟨q, e, rfl⟩ := map_ok e0
    obtain ⟨l2, e⟩ := keep_ok e
    have h3 := H3.out
    have hkt := HKT.out p3 l3 rfl
    obtain ⟨l4, h3, -⟩ := pair_ok h3
    obtain ⟨l5, h3⟩ := keep_ok h3
    have hs := HSN.out _ _ h3
    have hd := HD.out _ _ rfl
    have hp4 : p4.1 = p3 := by
      obtain ⟨l7, h4', -⟩ := pair_ok H4.out
      rw [PR.ok.injEq] at h4'
      exact h4'.1.symm
    obtain ⟨x, e1, rfl⟩ := map_ok e
    have e := e1
    have hkx := HKX.out _ _ e
    obtain ⟨l6, e, -⟩ := pair_ok e
    obtain ⟨x1, x2⟩ := x
    cases e
    show (⟨_, _, _, _, _, _, _, _, _⟩ : IM) = ⟨_, _, _, _, _, _, _, _, _⟩
    simp only [putI, whI]
    rw [hs, hkt, hkx, hd, hp4]
theorem dfield_any {n : Nat} {β : Type} {a : β} {l : List Tok} {F : β → FM} {X : Nat → Prop} {g m b c : Nat} (w : World) (h : DT X g m b c 0 w (.ok a l : PR β) F) (hn : 8 * m + 4 ≤ n) (hbc : b + 16 * n + 16 ≤ c) (hc8 : c ≤ 8000000) : Calls Tryz.prog 105 #[.pointer (some ⟨g, 0, none⟩)] w (PostI X g (m - 1) b c 0 w (.ok a l : PR β) F (fieldP n)) := by
  have hgood : Good (0 + (1 + 0) + (1 + 0) + (1 + 0)) l ((((.ok () l : PR Unit).bind fun a l => (nameP l).bind fun y l => .ok (a, y) l).bind fun a l => (need sColon l).bind fun _ l => .ok a l).bind fun a l => (typP n 0 l).bind fun y l => .ok (a, y) l) := Good.bind (Good.bind (Good.bind (Good.ok () l) fun _ l1 _ => Good.bind (good_name l1) fun _ _ _ => Good.ok _ _) fun _ l1 _ => Good.bind (good_need sColon l1 (by decide)) fun _ _ _ => Good.ok _ _) fun _ l1 _ => Good.bind ((good_types n).1 0 l1) fun _ _ _ => Good.ok _ _
  have hwl := h.1.wf
  rcases h3 : ((((.ok () l : PR Unit).bind fun a l => (nameP l).bind fun y l => .ok (a, y) l).bind fun a l => (need sColon l).bind fun _ l => .ok a l).bind fun a l => (typP n 0 l).bind fun y l => .ok (a, y) l) with ⟨p3, l3⟩ | ⟨l3, x⟩
  · have hg3 := hgood hwl
    rw [h3] at hg3
    cases he : isT sEq l3
    · cases hwh : isT kWhere l3
      · exact dfield_nn w h hn hbc hc8 h3 he hwh
      · exact dfield_ny w h hn hbc hc8 h3 he hwh
    · rcases h4 : ((.ok p3 l3.tail : PR ((Unit × List UInt8) × TA)).bind fun a l => (derP l).bind fun y l => .ok (a, y) l) with ⟨p4, l4⟩ | ⟨l4, x⟩
      · cases hwh : isT kWhere l4
        · exact dfield_yn w h hn hbc hc8 h3 he h4 hwh
        · exact dfield_yy w h hn hbc hc8 h3 he h4 hwh
      · refine dfield_yb w h hn hbc hc8 h3 he h4 ?_
        have hg4 : Good (0 + (1 + 0)) l3.tail ((.ok p3 l3.tail : PR ((Unit × List UInt8) × TA)).bind fun a l => (derP l).bind fun y l => .ok (a, y) l) := Good.bind (Good.ok p3 l3.tail) fun _ l1 _ => Good.bind (good_der l1) fun _ _ _ => Good.ok _ _
        have := hg4 (hg3.1.isT he (by decide))
        rw [h4] at this
        have := this.2.2
        rw [beq_eq_false_iff_ne]; omega
  · refine dfield_bad w h hn hbc hc8 h3 ?_
    have := hgood hwl
    rw [h3] at this
    have := this.2.2
    rw [beq_eq_false_iff_ne]; omega
end Go.Proofs.YthcdohggffpopaaGreatDoor
