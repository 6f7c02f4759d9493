/- Layer 7: the document's parser: packs and fields where it has failed already. -/
import Derived.Test.YthcdohggffpopaaGreatDoorC1DocL
namespace Go.Proofs.YthcdohggffpopaaGreatDoor
open Go.Lib (hid)
open Go.ChangeShapes Go.WideShapes Go.ChangeAt Go.RowKit
theorem DT.bad_any {β γ : Type} {X : Nat → Prop} {g m b c d m' b' d' : Nat} {w : World} {l : List Tok} {x : Nat} {F : β → FM} {F' : γ → FM} (h : DT X g m b c d w (.bad l x : PR β) F) : DT X g m' b' c d' w (.bad l x : PR γ) F' := h
set_option maxHeartbeats 4000000 in
set_option maxRecDepth 100000 in
theorem dpack_bad {β : Type} {l : List Tok} {x : Nat} {F : β → FM} {X : Nat → Prop} {g m b c d : Nat} {P : List Tok → PR IA} (w : World) (h : DT X g m b c d w (.bad l x : PR β) F) (hpk : isT kPack l = true) :
    Calls Tryz.prog 104 #[.pointer (some ⟨g, 0, none⟩)] w (PostI X g m b c d w (.bad l x : PR β) F P) := by
  have hg := h.lt
  have hX0 : ∀ k, X k → k < w.heap.size := fun k hk => (h.out hk).lt
  have hx0 : x ≠ 0 := h.1
  have HI : Hid (∀ w, Calls Tryz.prog 120 #[.string (bs (hd l).tk.t)] w fun e w' => e = .returned (.tuple #[.int .i64 0, .bool false]) ∧ Below w.heap.size w w') := hid fun w => by
    have := refInteger_any (hd l).tk.t w
    rw [show (hd l).tk.t = kPack from of_decide_eq_true hpk] at this ⊢
    exact this
  have P1 := hid (h.start #[.string ⟨#[]⟩, .int .i64 0, .int .i64 0, .string ⟨#[]⟩, .string ⟨#[]⟩, .int .i64 0, .int .i64 0, .bool false, .slice none 0 0] 70 201 2 (by decide))
  have C1 := hid (dtake_lit kPack (by decide) ⟨#[112, 97, 99, 107]⟩ rfl _ P1.out.dt)
  clear h
  go_enter Tryz.func104, Tryz.ntmps104
  go_wp2_with (go_at_call 52; (refine C1.out.mono ?_; rintro e w2 ⟨rfl, hT, hS⟩; have P2 := hid (P1.out.step any_stable (r' := (.bad l x : PR β)) (F' := F) (m' := m) (b' := b) (c' := c) (d' := d) hT.bad_any hS); clear hT hS; have P3 := hid (P2.out.box any_stable #[.string ⟨#[]⟩, .int .i64 (-1), .int .i64 0, .string ⟨#[]⟩, .string ⟨#[]⟩, .int .i64 (-1), .int .i64 0, .bool false, .slice none 0 0] 70 (by decide)); obtain ⟨bb, dd, ff, hI⟩ := P3.out.dt.inv; obtain ⟨i, nn, kk, cp, q0, q1, q2, q7, qf, qi, qc, qm, qkg, qkl, t0, t1, t2, t3, t4⟩ := hI.look; have hwl := hI.wf.pos; simp only [PR.rest] at qi hwl t0 t1 t2 t3 t4; unfold maxLen at qm; have qin : (i : Int) < (nn : Int) := (by omega); have hlt : w.heap.size < w2.heap.size := (Array.getElem?_eq_some_iff.1 (P2.out.bx _ List.mem_cons_self).1).1; clear hI))
  generalize hW3 : w2.alloc (.cells #[.string ⟨#[]⟩, .int .i64 (-1), .int .i64 0, .string ⟨#[]⟩, .string ⟨#[]⟩, .int .i64 (-1), .int .i64 0, .bool false, .slice none 0 0] 70) = W3 at *
  have hg3 := P3.out.dt.lt
  have hz := packS_keep q0 q1 t1 hg3 qkl (Below.refl W3.heap.size W3) (Below.refl W3.heap.size W3).drew
  obtain ⟨s0, s1, s2, s3, s4, s5⟩ := hz
  clear q0 q1 q2 q7 t0 t1 t2 t3 t4
  go_region_held3 (fun w' => w'.cell? ⟨g, 0, none⟩ = some (.slice (some ⟨kk, 0, none⟩) nn cp) ∧ w'.cell? ⟨g, 1, none⟩ = some (.int .i64 (i : Int)) ∧ w'.cell? ⟨kk, i * 5 + 1, none⟩ = some (.string (bs (hd l).tk.t)) ∧ g < w'.heap.size ∧ kk < w'.heap.size ∧ Below W3.heap.size W3 w')
    (first | exact ⟨s0, s1, s2, s3, s4, s5⟩ | (go_split_ands; exact packS_keep (by assumption) (by assumption) (by assumption) (by assumption) (by assumption) (by assumption) (by assumption)) | go_keep)
    (first | (go_at_call 120; refine (HI.out _).mono ?_; rintro e w4 ⟨rfl, hb4⟩))
  rename_i hHeld
  have P4 := hid (P3.out.below any_stable hHeld.2.2.2.2.2)
  clear hHeld hb4 s0 s1 s2 s3 s4 s5 qf qi qc qm qkg qkl qin
  obtain ⟨bb, dd, ff, hI⟩ := P4.out.dt.inv
  obtain ⟨i, nn, kk, cp, q0, q1, q2, q7, qf, qi, qc, qm, qkg, qkl, t0, t1, t2, t3, t4⟩ := hI.look
  simp only [PR.rest] at qi t0 t1 t2 t3 t4
  unfold maxLen at qm
  have qin : (i : Int) < (nn : Int) := by omega
  clear hI
  go_wp2_with fail
  go_quiet (fail)
  generalize hW : World.drewN _ _ = W5
  have P5 := hid (P4.out.below any_stable (show Below w4.heap.size w4 W5 by rw [← hW]; exact below_drewN _ _ _))
  obtain ⟨bb5, dd5, ff5, hI5⟩ := P5.out.dt.inv
  have C5 := hid (dfail_bad 4 W5 hI5 hx0)
  clear hW q0 q1 q2 q7 qf qi qc qm qkg qkl t0 t1 t2 t3 t4 qin hI5
  obtain ⟨⟨d0, d1, d2, d3, d4, d5, d6, d7, d8⟩, df, dl⟩ := cells9 (P5.out.bx _ List.mem_cons_self).1
  obtain ⟨⟨e0, e1, e2, e3, e4, e5, e6, e7, e8⟩, ef, el⟩ := cells9 (P5.out.bx _ (List.mem_cons_of_mem _ List.mem_cons_self)).1
  go_wp2_with (go_at_call 56; (refine C5.out.mono ?_; rintro e w6 ⟨rfl, rfl⟩))
  have P7 := P5.out.out9 any_stable (List.mem_cons_of_mem _ List.mem_cons_self) (.string ⟨#[]⟩) (.int .i64 (-1)) (.int .i64 0) (.string ⟨#[]⟩) (.string ⟨#[]⟩) (.int .i64 (-1)) (.int .i64 0) (.bool false) (.slice none 0 0)
  exact bodyPost_ret (v := .agg #[.string ⟨#[]⟩, .int .i64 (-1), .int .i64 0, .string ⟨#[]⟩, .string ⟨#[]⟩, .int .i64 (-1), .int .i64 0, .bool false, .slice none 0 0]) (by simp [results, Tryz.results104, go_sem, e0, e1, e2, e3, e4, e5, e6, e7, e8]) rfl ⟨_, _, _, _, _, _, _, _, _, ⟨[], -1, 0, [], [], -1, 0, false, []⟩, rfl, (P7.dt.weak fun k hk => .inl (.inl (.inl hk))).bad_any, ⟨_, rfl, World.ownsRow_nil _ _ _ _, Nest.none _ _ _⟩, fun p l' e => (by cases e), P7.st⟩
set_option maxHeartbeats 4000000 in
set_option maxRecDepth 100000 in
theorem dfield_off {n : Nat} {β : Type} {l : List Tok} {x : Nat} {F : β → FM} {X : Nat → Prop} {g m b c : Nat} {P : List Tok → PR IA} (w : World) (h : DT X g m b c 0 w (.bad l x : PR β) F) :
    Calls Tryz.prog 105 #[.pointer (some ⟨g, 0, none⟩)] w (PostI X g m b c 0 w (.bad l x : PR β) F P) := by
  have hg := h.lt
  have hX0 : ∀ k, X k → k < w.heap.size := fun k hk => (h.out hk).lt
  have hz := h.err_eq
  have P1 := hid (h.start #[.string ⟨#[]⟩, .int .i64 0, .int .i64 0, .string ⟨#[]⟩, .string ⟨#[]⟩, .int .i64 0, .int .i64 0, .bool false, .slice none 0 0] 70 201 2 (by decide))
  have C1 := hid (dname_any _ P1.out.dt)
  obtain ⟨q1, hq1⟩ : ∃ q, isT sEq l = q := ⟨_, rfl⟩
  obtain ⟨q2, hq2⟩ : ∃ q, isT kWhere l = q := ⟨_, rfl⟩
  have HQ1 := hid hq1
  have HQ2 := hid hq2
  clear h hq1 hq2
  go_enter Tryz.func105, Tryz.ntmps105
  cases q1 <;> cases q2
  all_goals
    go_wp2_with (first | (go_at_call 53; (first | ((with_reducible refine C1.out.mono ?_); rintro e w2 ⟨s, rfl, hT, hs, hS⟩; clear hs; have P2 := hid (P1.out.step any_stable (r' := (.bad l x : PR β)) (F' := F) (m' := m) (b' := b) (c' := c) (d' := 0) hT.bad_any hS); clear hT hS; have hlt : w.heap.size < w2.heap.size := (Array.getElem?_eq_some_iff.1 (P2.out.bx _ List.mem_cons_self).1).1; have P3 := hid (P2.out.box any_stable #[.string (bs s), .int .i64 0, .int .i64 0, .string ⟨#[]⟩, .string ⟨#[]⟩, .int .i64 (-1), .int .i64 0, .bool false, .slice none 0 0] 70 (by decide)); have C3 := hid (dtake_lit sColon (by decide) ⟨#[58]⟩ rfl _ P3.out.dt)))) | (go_at_call 52; (first | ((with_reducible refine C3.out.mono ?_); rintro e w4 ⟨rfl, hT, hS⟩; have P4 := hid (P3.out.step any_stable (r' := (.bad l x : PR β)) (F' := F) (m' := m) (b' := b) (c' := c) (d' := 0) hT.bad_any hS); clear hT hS; have C4 := hid (dkind_fail (n := 0) (d := 0) _ P4.out.dt)) | ((with_reducible refine C8.out.mono ?_); rintro e w9 ⟨rfl, hT, hS⟩; clear q7 qf; have P9 := hid (P8.out.step any_stable (r' := (.bad l x : PR β)) (F' := F) (m' := m) (b' := b) (c' := c) (d' := 0) hT.bad_any hS); clear hT hS; obtain ⟨⟨d0, d1, d2, d3, d4, d5, d6, d7, d8⟩, df, dl⟩ := cells9 (P9.out.bx _ List.mem_cons_self).1; obtain ⟨⟨e0, e1, e2, e3, e4, e5, e6, e7, e8⟩, ef, el⟩ := cells9 (P9.out.bx _ (List.mem_cons_of_mem _ List.mem_cons_self)).1))) | (go_at_call 153; (first | ((with_reducible refine C4.out.mono ?_); rintro e w5 ⟨kt, rfl, hT, hk, hS⟩; clear hk; have P5 := hid (P4.out.step any_stable (r' := (.bad l x : PR β)) (F' := F) (m' := m) (b' := b) (c' := c) (d' := 0) hT.bad_any hS); clear hT hS; obtain ⟨⟨d0, d1, d2, d3, d4, d5, d6, d7, d8⟩, df, dl⟩ := cells9 (P5.out.bx _ List.mem_cons_self).1; have P6 : Hid (DP _ g _ _ _ _ _ _ _ _ [(w2.heap.size, #[.string (bs s), .int .i64 (kt : Int), .int .i64 0, .string ⟨#[]⟩, .string ⟨#[]⟩, .int .i64 (-1), .int .i64 0, .bool false, .slice none 0 0], 70), (w.heap.size, #[.string ⟨#[]⟩, .int .i64 0, .int .i64 0, .string ⟨#[]⟩, .string ⟨#[]⟩, .int .i64 0, .int .i64 0, .bool false, .slice none 0 0], 70)] _ _ _ _ _ _) := hid (P5.out.set any_stable (by simp; omega) (by decide : 1 < 9) (.int .i64 (kt : Int))); have C6 := hid (dis_lit sEq (by decide) ⟨#[61]⟩ rfl _ P6.out.dt HQ1.out)))) | (go_at_call 50; (first | ((with_reducible refine C6.out.mono ?_); rintro e w7 ⟨rfl, hb⟩; have P7 := hid (P6.out.below any_stable hb); clear hb; clear d0 d1 d2 d3 d4 d5 d6 d7 d8 df dl; obtain ⟨i_, nn_, kk_, cp_, dd_, -, -, -, q7, qf⟩ := P7.out.dt.cells; simp only [PR.err] at q7; have C7 := hid (dis_lit kWhere (by decide) ⟨#[119, 104, 101, 114, 101]⟩ rfl _ P7.out.dt HQ2.out)) | ((with_reducible refine C7.out.mono ?_); rintro e w8 ⟨rfl, hb⟩; have P8 := hid (P7.out.below any_stable hb); clear hb; clear q7 qf; obtain ⟨i_, nn_, kk_, cp_, dd_, -, -, -, q7, qf⟩ := P8.out.dt.cells; simp only [PR.err] at q7; have C8 := hid (dtake_lit sSemi (by decide) ⟨#[59]⟩ rfl _ P8.out.dt)))))
    have P10 := P9.out.out9 any_stable (List.mem_cons_of_mem _ List.mem_cons_self) (.string (bs s)) (.int .i64 (kt : Int)) (.int .i64 0) (.string ⟨#[]⟩) (.string ⟨#[]⟩) (.int .i64 (-1)) (.int .i64 0) (.bool false) (.slice none 0 0)
    exact bodyPost_ret (v := .agg #[.string (bs s), .int .i64 (kt : Int), .int .i64 0, .string ⟨#[]⟩, .string ⟨#[]⟩, .int .i64 (-1), .int .i64 0, .bool false, .slice none 0 0]) (by simp [results, Tryz.results105, go_sem, e0, e1, e2, e3, e4, e5, e6, e7, e8]) rfl ⟨_, _, _, _, _, _, _, _, _, ⟨s, (kt : Int), 0, [], [], -1, 0, false, []⟩, rfl, (P10.dt.weak fun k hk => .inl (.inl (.inl hk))).bad_any, ⟨_, rfl, World.ownsRow_nil _ _ _ _, Nest.none _ _ _⟩, fun p l' e => (by cases e), P10.st⟩
end Go.Proofs.YthcdohggffpopaaGreatDoor
