/- Layer 7: the document's parser: how a field is derived. -/
import Derived.Test.YthcdohggffpopaaGreatDoorC1DocF
import Derived.Test.YthcdohggffpopaaGreatDoorC1ParPk
namespace Go.Proofs.YthcdohggffpopaaGreatDoor
open Go.Lib (hid)
open Go.ChangeShapes Go.WideShapes Go.ChangeAt Go.RowKit
theorem DT.set9 {β : Type} {X : Nat → Prop} {g m b c d : Nat} {w : World} {r : PR β} {F : β → FM} (h : DT X g m b c d w r F) {k : Nat} (hk : X k) (c0 c1 c2 c3 c4 c5 c6 c7 c8 : Value) : DT X g m b c d (Go.Proofs.YthcdohggffpopaaGreatDoor.set9 w k c0 c1 c2 c3 c4 c5 c6 c7 c8) r F := (h.set8 hk c0 c1 c2 c3 c4 c5 c6 c7).local hk _ _
theorem StD.set9 {g k : Nat} {W w : World} (h : St layD g W w) (hg : g < W.heap.size) (hk : W.heap.size ≤ k) (c0 c1 c2 c3 c4 c5 c6 c7 c8 : Value) : St layD g W (Go.Proofs.YthcdohggffpopaaGreatDoor.set9 w k c0 c1 c2 c3 c4 c5 c6 c7 c8) := (StD.set8 h hg hk c0 c1 c2 c3 c4 c5 c6 c7).fresh hg hk _ _
def ItmC (k : Nat) (w : World) (c0 c1 c2 c3 c4 c5 c6 c7 c8 : Value) : Prop := w.heap[k]? = some (.cells #[c0, c1, c2, c3, c4, c5, c6, c7, c8] 70 (0, 0))
set_option maxHeartbeats 4000000 in
set_option maxRecDepth 100000 in
theorem dder_any {β : Type} {a : β} {l : List Tok} {F : β → FM} {X : Nat → Prop} {g m b c d : Nat} (s0 : List UInt8) (k0 : Int) (w : World) (h : DT X g m b c d w (.ok a l : PR β) F) :
    Calls Tryz.prog 154 #[.pointer (some ⟨g, 0, none⟩), .agg #[(.string (bs s0)), (.int .i64 k0), .int .i64 0, .string ⟨#[]⟩, .string ⟨#[]⟩, (.int .i64 (-1)), (.int .i64 0), (.bool false), (.slice none 0 0)]] w fun e' w' => ∃ (K : Nat) (A B : List UInt8), e' = .returned (.agg #[(.string (bs s0)), (.int .i64 k0), .int .i64 (K : Int), .string (bs A), .string (bs B), (.int .i64 (-1)), (.int .i64 0), (.bool false), (.slice none 0 0)]) ∧
      DT X g (m - 1) (b - 3) c d w' ((.ok a l : PR β).bind fun a l => (derP l).bind fun y l => .ok (a, y) l) (fun p => F p.1) ∧ (∀ p l', ((.ok a l : PR β).bind fun a l => (derP l).bind fun y l => .ok (a, y) l) = .ok p l' → p.2 = ⟨K, A, B⟩) ∧ St layD g w w' := by
  have hg := h.lt
  obtain ⟨hD, hlm, hd32, hbc', hc9⟩ := h
  have hw := hD.wf
  have hp := hw.pos
  have hb3 : 3 ≤ b := by have := hD.pot; omega
  have htl : l.tail.length = l.length - 1 := List.length_tail
  have h0 := ((DT.ok hD hd32 hlm hbc' hc9).hide (.cells #[(.string (bs s0)), (.int .i64 k0), .int .i64 0, .string ⟨#[]⟩, .string ⟨#[]⟩, (.int .i64 (-1)), (.int .i64 0), (.bool false), (.slice none 0 0)] 70)).hide (.cells #[.string ⟨#[]⟩, .int .i64 0, .int .i64 0, .string ⟨#[]⟩, .string ⟨#[]⟩, .int .i64 0, .int .i64 0, .bool false, .slice none 0 0] 70)
  rw [show (w.alloc (.cells #[(.string (bs s0)), (.int .i64 k0), .int .i64 0, .string ⟨#[]⟩, .string ⟨#[]⟩, (.int .i64 (-1)), (.int .i64 0), (.bool false), (.slice none 0 0)] 70)).heap.size = w.heap.size + 1 from by simp] at h0
  have hs0 : St layD g w ((w.alloc (.cells #[(.string (bs s0)), (.int .i64 k0), .int .i64 0, .string ⟨#[]⟩, .string ⟨#[]⟩, (.int .i64 (-1)), (.int .i64 0), (.bool false), (.slice none 0 0)] 70)).alloc (.cells #[.string ⟨#[]⟩, .int .i64 0, .int .i64 0, .string ⟨#[]⟩, .string ⟨#[]⟩, .int .i64 0, .int .i64 0, .bool false, .slice none 0 0] 70)) := St.below hg (below_pair _ _ _)
  have hk1 : ItmC w.heap.size ((w.alloc (.cells #[(.string (bs s0)), (.int .i64 k0), .int .i64 0, .string ⟨#[]⟩, .string ⟨#[]⟩, (.int .i64 (-1)), (.int .i64 0), (.bool false), (.slice none 0 0)] 70)).alloc (.cells #[.string ⟨#[]⟩, .int .i64 0, .int .i64 0, .string ⟨#[]⟩, .string ⟨#[]⟩, .int .i64 0, .int .i64 0, .bool false, .slice none 0 0] 70)) (.string (bs s0)) (.int .i64 k0) (.int .i64 0) (.string ⟨#[]⟩) (.string ⟨#[]⟩) (.int .i64 (-1)) (.int .i64 0) (.bool false) (.slice none 0 0) := (Below.heap_alloc _ _ _ (by simp)).trans (heap_alloc_new w _)
  have hk0 : ItmC (w.heap.size + 1) ((w.alloc (.cells #[(.string (bs s0)), (.int .i64 k0), .int .i64 0, .string ⟨#[]⟩, .string ⟨#[]⟩, (.int .i64 (-1)), (.int .i64 0), (.bool false), (.slice none 0 0)] 70)).alloc (.cells #[.string ⟨#[]⟩, .int .i64 0, .int .i64 0, .string ⟨#[]⟩, .string ⟨#[]⟩, .int .i64 0, .int .i64 0, .bool false, .slice none 0 0] 70)) (.string ⟨#[]⟩) (.int .i64 0) (.int .i64 0) (.string ⟨#[]⟩) (.string ⟨#[]⟩) (.int .i64 0) (.int .i64 0) (.bool false) (.slice none 0 0) := heap_pair w _ _
  obtain ⟨W2, hW2⟩ : ∃ W2, ((w.alloc (.cells #[(.string (bs s0)), (.int .i64 k0), .int .i64 0, .string ⟨#[]⟩, .string ⟨#[]⟩, (.int .i64 (-1)), (.int .i64 0), (.bool false), (.slice none 0 0)] 70)).alloc (.cells #[.string ⟨#[]⟩, .int .i64 0, .int .i64 0, .string ⟨#[]⟩, .string ⟨#[]⟩, .int .i64 0, .int .i64 0, .bool false, .slice none 0 0] 70)) = W2 := ⟨_, rfl⟩
  have HW2 := hid hW2
  rw [hW2] at h0 hs0 hk1 hk0
  clear hW2
  obtain ⟨i, nn, kk, cp, q0, q1, q2, q7, qf, qi, qc, qm, qkg, qkl, t0, t1, t2, t3, t4⟩ := h0.1.look
  unfold maxLen at qm
  have qin : (i : Int) < (nn : Int) := by omega
  obtain ⟨⟨x0, x1, x2, x3, x4, x5, x6, x7, x8⟩, xf, xl⟩ := cells9 hk1
  obtain ⟨⟨y0, y1, y2, y3, y4, y5, y6, y7, y8⟩, yf, yl⟩ := cells9 hk0
  have H0 := hid h0
  have HS0 := hid hs0
  have HK1 := hid hk1
  have HK0 := hid hk0
  clear h0 hs0 hk1 hk0 hD
  obtain ⟨t, ht⟩ : ∃ t, (hd l).tk.t = t := ⟨_, rfl⟩
  rw [ht] at t1
  have hq := fun u : List UInt8 => beq_l t u
  have hiT : ∀ u : List UInt8, isT u l = decide (t = u) := fun u => by unfold isT; rw [ht]
  by_cases e0 : t = kSizeof
  · have b0 : ((bs t).toList == [115, 105, 122, 101, 111, 102]) = true := (hq _).trans (decide_eq_true e0)
    have HD : Hid (derK l = 1) := hid (by unfold derK; simp only [hiT]; rw [if_pos (decide_eq_true e0)])
    have hwt : WF l.tail := hw.isT (by rw [hiT]; exact decide_eq_true e0) (by decide)
    clear e0 hq hiT
    go_enter Tryz.func154, Tryz.ntmps154
    go_wp2_with fail
    rw [HW2.out]
    go_quiet (fail)
    generalize hW : World.drewN _ _ = W3
    have hB3 : Below W2.heap.size W2 W3 := by rw [← hW]; exact below_drewN _ _ _
    have M3 := H0.out.mineB hB3
    have HK13 : ItmC w.heap.size W3 (.string (bs s0)) (.int .i64 k0) (.int .i64 0) (.string ⟨#[]⟩) (.string ⟨#[]⟩) (.int .i64 (-1)) (.int .i64 0) (.bool false) (.slice none 0 0) := (M3 _ (.inl (.inr rfl))).trans HK1.out
    have HK03 := hid ((M3 _ (.inr rfl)).trans HK0.out)
    have HT4 := (H0.out.below hB3).local (k := w.heap.size) (.inl (.inr rfl)) 2 (.int .i64 1)
    have HK14 : ItmC w.heap.size (W3.setCell ⟨w.heap.size, 2, none⟩ (.int .i64 1)) (.string (bs s0)) (.int .i64 k0) (.int .i64 1) (.string ⟨#[]⟩) (.string ⟨#[]⟩) (.int .i64 (-1)) (.int .i64 0) (.bool false) (.slice none 0 0) := cell_set_row HK13 (by simp) _
    have HS4 := hid (((HS0.out.trans (St.below H0.out.lt hB3))).fresh (B := w.heap.size) hg (Nat.le_refl _) 2 (.int .i64 1))
    clear q0 q1 q2 q7 qf qi qc qm qkg qkl t0 t1 t2 t3 t4 qin x0 x1 x2 x3 x4 x5 x6 x7 x8 xf xl y0 y1 y2 y3 y4 y5 y6 y7 y8 yf yl hW M3
    obtain ⟨⟨x0, x1, x2, x3, x4, x5, x6, x7, x8⟩, xf, xl⟩ := cells9 HK13
    obtain ⟨i, nn, kk, cp, q0, q1, q2, q7, qf, qi, qc, qm, -⟩ := HT4.1.look
    unfold maxLen at qm
    have hi1 : IntKind.i64.wrap ((i : Int) + 1) = (i : Int) + 1 := IntWalk.i64_in _ (by omega)
    have HN := HT4.1.next hwt q1
    have HT5 : DT (wth (wth X w.heap.size) (w.heap.size + 1)) g (m - 1) (b - 3) c d _ (.ok () l.tail : PR Unit) (fun _ => F a) := ⟨HN.1, by omega, hd32, by omega, hc9⟩
    have M5 := HT4.mine HN.2
    have HK15 := hid ((M5 _ (.inl (.inr rfl))).trans HK14)
    have HK05 := hid ((M5 _ (.inr rfl)).trans ((Below.heap_setCell _ _ _ _ (show w.heap.size + 1 ≠ w.heap.size from by omega)).trans HK03.out))
    have HS5 := hid (HS4.out.trans HN.2)
    have TL : Hid (∀ (γ : Type) (r2 : PR γ) (F2 : γ → FM) m b w', DT (wth (wth X w.heap.size) (w.heap.size + 1)) g m b c d w' r2 F2 → Calls Tryz.prog 52 #[.pointer (some ⟨g, 0, none⟩), .string ⟨#[40]⟩] w' fun e' w2 => e' = .returned (.tuple #[]) ∧ DT (wth (wth X w.heap.size) (w.heap.size + 1)) g (m - 1) (b - 3) c d w2 (r2.bind fun a l => (need sLp l).bind fun _ l => .ok a l) F2 ∧ St layD g w' w2) := hid fun γ r2 F2 m b w' h => dtake_any sLp (by decide) w' h
    have TR : Hid (∀ (γ : Type) (r2 : PR γ) (F2 : γ → FM) m b w', DT (wth (wth X w.heap.size) (w.heap.size + 1)) g m b c d w' r2 F2 → Calls Tryz.prog 52 #[.pointer (some ⟨g, 0, none⟩), .string ⟨#[41]⟩] w' fun e' w2 => e' = .returned (.tuple #[]) ∧ DT (wth (wth X w.heap.size) (w.heap.size + 1)) g (m - 1) (b - 3) c d w2 (r2.bind fun a l => (need sRp l).bind fun _ l => .ok a l) F2 ∧ St layD g w' w2) := hid fun γ r2 F2 m b w' h => dtake_any sRp (by decide) w' h
    have HT5 := hid HT5
    have HTL := hid (TL.out _ _ _ _ _ _ HT5.out)
    clear HN M5 HK14 HT4 HK13 hB3 TL
    go_wp2_with (first | (go_at_call 52; first | ((with_reducible refine HTL.out.mono ?_); rintro e w6 ⟨rfl, hT6, hS6⟩; have M6 := hid (HT5.out.mine hS6); have HS6 := hid (HS5.out.trans hS6); have HT6 := hid hT6; have HN6 := hid (dname_any w6 hT6); clear hT6 hS6) | ((with_reducible refine HT9.out.mono ?_); rintro e w9 ⟨rfl, hT9, hS9⟩; have M9 := hid (HT8.out.mine hS9); have hc1 := (M9.out _ (.inl (.inr rfl))).trans HK18.out; have hc0 := (M9.out _ (.inr rfl)).trans HK08.out; have HT10 := hid hT9; have HS10 := hid (HS8.out.trans hS9); clear x0 x1 x2 x3 x4 x5 x6 x7 x8 xf xl z0 z1 z2 z3 z4 z5 z6 z7 z8 zf zl; obtain ⟨⟨x0, x1, x2, x3, x4, x5, x6, x7, x8⟩, xf, xl⟩ := cells9 hc1; obtain ⟨⟨z0, z1, z2, z3, z4, z5, z6, z7, z8⟩, zf, zl⟩ := cells9 hc0; clear hc1 hc0 hT9)) | (go_at_call 53; go_must ((refine HN6.out.mono ?_); rintro e w7 ⟨A, rfl, hT7, hA, hS7⟩; have HA := hid hA; have M7 := hid (M6.out.trans (HT6.out.mine hS7)); have hc1 := (M7.out _ (.inl (.inr rfl))).trans HK15.out; have hc0 := (M7.out _ (.inr rfl)).trans HK05.out; have HT8 := hid (hT7.local (k := w.heap.size) (.inl (.inr rfl)) 3 (.string (bs A))); have HS8 := hid ((HS6.out.trans hS7).fresh (B := w.heap.size) hg (Nat.le_refl _) 3 (.string (bs A))); have HK18 : Hid (ItmC w.heap.size (w7.setCell ⟨w.heap.size, 3, none⟩ (.string (bs A))) (.string (bs s0)) (.int .i64 k0) (.int .i64 1) (.string (bs A)) (.string ⟨#[]⟩) (.int .i64 (-1)) (.int .i64 0) (.bool false) (.slice none 0 0)) := hid (cell_set_row hc1 (by simp) _); have HK08 : Hid (ItmC (w.heap.size + 1) (w7.setCell ⟨w.heap.size, 3, none⟩ (.string (bs A))) (.string ⟨#[]⟩) (.int .i64 0) (.int .i64 0) (.string ⟨#[]⟩) (.string ⟨#[]⟩) (.int .i64 0) (.int .i64 0) (.bool false) (.slice none 0 0)) := hid ((Below.heap_setCell _ _ _ _ (show w.heap.size + 1 ≠ w.heap.size from by omega)).trans hc0); clear x0 x1 x2 x3 x4 x5 x6 x7 x8 xf xl; obtain ⟨⟨x0, x1, x2, x3, x4, x5, x6, x7, x8⟩, xf, xl⟩ := cells9 hc1; obtain ⟨⟨z0, z1, z2, z3, z4, z5, z6, z7, z8⟩, zf, zl⟩ := cells9 HK18.out; have HT9 := hid (TR.out _ _ _ _ _ _ HT8.out); clear hA hT7 hS7 hc1 hc0)))
    refine bodyPost_ret (v := .agg #[(.string (bs s0)), (.int .i64 k0), .int .i64 1, .string (bs A), .string ⟨#[]⟩, (.int .i64 (-1)), (.int .i64 0), (.bool false), (.slice none 0 0)]) (by simp [results, Tryz.results154, go_sem, z0, z1, z2, z3, z4, z5, z6, z7, z8]) rfl ⟨1, A, [], rfl, ?_, ?_, StD.set9 HS10.out hg (Nat.le_succ _) _ _ _ _ _ _ _ _ _⟩
    · refine (DT.map (DT.set9 HT10.out (k := w.heap.size + 1) (.inr rfl) (.string (bs s0)) (.int .i64 k0) (.int .i64 1) (.string (bs A)) (.string ⟨#[]⟩) (.int .i64 (-1)) (.int .i64 0) (.bool false) (.slice none 0 0)).bare.bare (fun p => (a, ⟨1, p.2, []⟩)) ?_ fun _ _ _ => rfl).mono (by omega) (by omega) (by omega) (by omega) (by omega)
      rw [PR.bind_ok]
      unfold derP
      rw [HD.out, if_neg (by decide)]
      simp only [PR.bind_assoc, PR.bind_ok, if_pos (show 1 ≤ 2 from by decide)]
    · intro p l' e
      unfold derP at e
      rw [PR.bind_ok, HD.out, if_neg (by decide)] at e
      simp only [PR.bind_assoc, PR.bind_ok, if_pos (show 1 ≤ 2 from by decide)] at e
      cases hn1 : need sLp l.tail with
      | bad l2 x => rw [hn1] at e; cases e
      | ok u l2 =>
        rw [hn1, PR.bind_ok] at e
        cases hn2 : nameP l2 with
        | bad l3 x => rw [hn2] at e; cases e
        | ok A' l3 =>
          rw [hn2, PR.bind_ok] at e
          cases hn3 : need sRp l3 with
          | bad l4 x => rw [hn3] at e; cases e
          | ok u' l4 =>
            rw [hn3] at e
            cases e
            rw [HA.out ((), A') l3 (by rw [PR.bind_ok, hn1]; simp only [PR.bind_ok]; rw [hn2]; rfl)]
  by_cases e1 : t = kCountof
  · have b0 : ((bs t).toList == [115, 105, 122, 101, 111, 102]) = false := (hq _).trans (decide_eq_false e0)
    have b1 : ((bs t).toList == [99, 111, 117, 110, 116, 111, 102]) = true := (hq _).trans (decide_eq_true e1)
    have HD : Hid (derK l = 2) := hid (by unfold derK; simp only [hiT]; rw [if_neg (by rw [decide_eq_false e0]; decide)]; rw [if_pos (decide_eq_true e1)])
    have hwt : WF l.tail := hw.isT (by rw [hiT]; exact decide_eq_true e1) (by decide)
    clear e0 e1 hq hiT
    go_enter Tryz.func154, Tryz.ntmps154
    go_wp2_with fail
    rw [HW2.out]
    go_quiet (fail)
    generalize hW : World.drewN _ _ = W3
    have hB3 : Below W2.heap.size W2 W3 := by rw [← hW]; exact below_drewN _ _ _
    have M3 := H0.out.mineB hB3
    have HK13 : ItmC w.heap.size W3 (.string (bs s0)) (.int .i64 k0) (.int .i64 0) (.string ⟨#[]⟩) (.string ⟨#[]⟩) (.int .i64 (-1)) (.int .i64 0) (.bool false) (.slice none 0 0) := (M3 _ (.inl (.inr rfl))).trans HK1.out
    have HK03 := hid ((M3 _ (.inr rfl)).trans HK0.out)
    have HT4 := (H0.out.below hB3).local (k := w.heap.size) (.inl (.inr rfl)) 2 (.int .i64 2)
    have HK14 : ItmC w.heap.size (W3.setCell ⟨w.heap.size, 2, none⟩ (.int .i64 2)) (.string (bs s0)) (.int .i64 k0) (.int .i64 2) (.string ⟨#[]⟩) (.string ⟨#[]⟩) (.int .i64 (-1)) (.int .i64 0) (.bool false) (.slice none 0 0) := cell_set_row HK13 (by simp) _
    have HS4 := hid (((HS0.out.trans (St.below H0.out.lt hB3))).fresh (B := w.heap.size) hg (Nat.le_refl _) 2 (.int .i64 2))
    clear q0 q1 q2 q7 qf qi qc qm qkg qkl t0 t1 t2 t3 t4 qin x0 x1 x2 x3 x4 x5 x6 x7 x8 xf xl y0 y1 y2 y3 y4 y5 y6 y7 y8 yf yl hW M3
    obtain ⟨⟨x0, x1, x2, x3, x4, x5, x6, x7, x8⟩, xf, xl⟩ := cells9 HK13
    obtain ⟨i, nn, kk, cp, q0, q1, q2, q7, qf, qi, qc, qm, -⟩ := HT4.1.look
    unfold maxLen at qm
    have hi1 : IntKind.i64.wrap ((i : Int) + 1) = (i : Int) + 1 := IntWalk.i64_in _ (by omega)
    have HN := HT4.1.next hwt q1
    have HT5 : DT (wth (wth X w.heap.size) (w.heap.size + 1)) g (m - 1) (b - 3) c d _ (.ok () l.tail : PR Unit) (fun _ => F a) := ⟨HN.1, by omega, hd32, by omega, hc9⟩
    have M5 := HT4.mine HN.2
    have HK15 := hid ((M5 _ (.inl (.inr rfl))).trans HK14)
    have HK05 := hid ((M5 _ (.inr rfl)).trans ((Below.heap_setCell _ _ _ _ (show w.heap.size + 1 ≠ w.heap.size from by omega)).trans HK03.out))
    have HS5 := hid (HS4.out.trans HN.2)
    have TL : Hid (∀ (γ : Type) (r2 : PR γ) (F2 : γ → FM) m b w', DT (wth (wth X w.heap.size) (w.heap.size + 1)) g m b c d w' r2 F2 → Calls Tryz.prog 52 #[.pointer (some ⟨g, 0, none⟩), .string ⟨#[40]⟩] w' fun e' w2 => e' = .returned (.tuple #[]) ∧ DT (wth (wth X w.heap.size) (w.heap.size + 1)) g (m - 1) (b - 3) c d w2 (r2.bind fun a l => (need sLp l).bind fun _ l => .ok a l) F2 ∧ St layD g w' w2) := hid fun γ r2 F2 m b w' h => dtake_any sLp (by decide) w' h
    have TR : Hid (∀ (γ : Type) (r2 : PR γ) (F2 : γ → FM) m b w', DT (wth (wth X w.heap.size) (w.heap.size + 1)) g m b c d w' r2 F2 → Calls Tryz.prog 52 #[.pointer (some ⟨g, 0, none⟩), .string ⟨#[41]⟩] w' fun e' w2 => e' = .returned (.tuple #[]) ∧ DT (wth (wth X w.heap.size) (w.heap.size + 1)) g (m - 1) (b - 3) c d w2 (r2.bind fun a l => (need sRp l).bind fun _ l => .ok a l) F2 ∧ St layD g w' w2) := hid fun γ r2 F2 m b w' h => dtake_any sRp (by decide) w' h
    have HT5 := hid HT5
    have HTL := hid (TL.out _ _ _ _ _ _ HT5.out)
    clear HN M5 HK14 HT4 HK13 hB3 TL
    go_wp2_with (first | (go_at_call 52; first | ((with_reducible refine HTL.out.mono ?_); rintro e w6 ⟨rfl, hT6, hS6⟩; have M6 := hid (HT5.out.mine hS6); have HS6 := hid (HS5.out.trans hS6); have HT6 := hid hT6; have HN6 := hid (dname_any w6 hT6); clear hT6 hS6) | ((with_reducible refine HT9.out.mono ?_); rintro e w9 ⟨rfl, hT9, hS9⟩; have M9 := hid (HT8.out.mine hS9); have hc1 := (M9.out _ (.inl (.inr rfl))).trans HK18.out; have hc0 := (M9.out _ (.inr rfl)).trans HK08.out; have HT10 := hid hT9; have HS10 := hid (HS8.out.trans hS9); clear x0 x1 x2 x3 x4 x5 x6 x7 x8 xf xl z0 z1 z2 z3 z4 z5 z6 z7 z8 zf zl; obtain ⟨⟨x0, x1, x2, x3, x4, x5, x6, x7, x8⟩, xf, xl⟩ := cells9 hc1; obtain ⟨⟨z0, z1, z2, z3, z4, z5, z6, z7, z8⟩, zf, zl⟩ := cells9 hc0; clear hc1 hc0 hT9)) | (go_at_call 53; go_must ((refine HN6.out.mono ?_); rintro e w7 ⟨A, rfl, hT7, hA, hS7⟩; have HA := hid hA; have M7 := hid (M6.out.trans (HT6.out.mine hS7)); have hc1 := (M7.out _ (.inl (.inr rfl))).trans HK15.out; have hc0 := (M7.out _ (.inr rfl)).trans HK05.out; have HT8 := hid (hT7.local (k := w.heap.size) (.inl (.inr rfl)) 3 (.string (bs A))); have HS8 := hid ((HS6.out.trans hS7).fresh (B := w.heap.size) hg (Nat.le_refl _) 3 (.string (bs A))); have HK18 : Hid (ItmC w.heap.size (w7.setCell ⟨w.heap.size, 3, none⟩ (.string (bs A))) (.string (bs s0)) (.int .i64 k0) (.int .i64 2) (.string (bs A)) (.string ⟨#[]⟩) (.int .i64 (-1)) (.int .i64 0) (.bool false) (.slice none 0 0)) := hid (cell_set_row hc1 (by simp) _); have HK08 : Hid (ItmC (w.heap.size + 1) (w7.setCell ⟨w.heap.size, 3, none⟩ (.string (bs A))) (.string ⟨#[]⟩) (.int .i64 0) (.int .i64 0) (.string ⟨#[]⟩) (.string ⟨#[]⟩) (.int .i64 0) (.int .i64 0) (.bool false) (.slice none 0 0)) := hid ((Below.heap_setCell _ _ _ _ (show w.heap.size + 1 ≠ w.heap.size from by omega)).trans hc0); clear x0 x1 x2 x3 x4 x5 x6 x7 x8 xf xl; obtain ⟨⟨x0, x1, x2, x3, x4, x5, x6, x7, x8⟩, xf, xl⟩ := cells9 hc1; obtain ⟨⟨z0, z1, z2, z3, z4, z5, z6, z7, z8⟩, zf, zl⟩ := cells9 HK18.out; have HT9 := hid (TR.out _ _ _ _ _ _ HT8.out); clear hA hT7 hS7 hc1 hc0)))
    refine bodyPost_ret (v := .agg #[(.string (bs s0)), (.int .i64 k0), .int .i64 2, .string (bs A), .string ⟨#[]⟩, (.int .i64 (-1)), (.int .i64 0), (.bool false), (.slice none 0 0)]) (by simp [results, Tryz.results154, go_sem, z0, z1, z2, z3, z4, z5, z6, z7, z8]) rfl ⟨2, A, [], rfl, ?_, ?_, StD.set9 HS10.out hg (Nat.le_succ _) _ _ _ _ _ _ _ _ _⟩
    · refine (DT.map (DT.set9 HT10.out (k := w.heap.size + 1) (.inr rfl) (.string (bs s0)) (.int .i64 k0) (.int .i64 2) (.string (bs A)) (.string ⟨#[]⟩) (.int .i64 (-1)) (.int .i64 0) (.bool false) (.slice none 0 0)).bare.bare (fun p => (a, ⟨2, p.2, []⟩)) ?_ fun _ _ _ => rfl).mono (by omega) (by omega) (by omega) (by omega) (by omega)
      rw [PR.bind_ok]
      unfold derP
      rw [HD.out, if_neg (by decide)]
      simp only [PR.bind_assoc, PR.bind_ok, if_pos (show 2 ≤ 2 from by decide)]
    · intro p l' e
      unfold derP at e
      rw [PR.bind_ok, HD.out, if_neg (by decide)] at e
      simp only [PR.bind_assoc, PR.bind_ok, if_pos (show 2 ≤ 2 from by decide)] at e
      cases hn1 : need sLp l.tail with
      | bad l2 x => rw [hn1] at e; cases e
      | ok u l2 =>
        rw [hn1, PR.bind_ok] at e
        cases hn2 : nameP l2 with
        | bad l3 x => rw [hn2] at e; cases e
        | ok A' l3 =>
          rw [hn2, PR.bind_ok] at e
          cases hn3 : need sRp l3 with
          | bad l4 x => rw [hn3] at e; cases e
          | ok u' l4 =>
            rw [hn3] at e
            cases e
            rw [HA.out ((), A') l3 (by rw [PR.bind_ok, hn1]; simp only [PR.bind_ok]; rw [hn2]; rfl)]
  by_cases e2 : t = kCrc32
  · have b0 : ((bs t).toList == [115, 105, 122, 101, 111, 102]) = false := (hq _).trans (decide_eq_false e0)
    have b1 : ((bs t).toList == [99, 111, 117, 110, 116, 111, 102]) = false := (hq _).trans (decide_eq_false e1)
    have b2 : ((bs t).toList == [99, 114, 99, 51, 50]) = true := (hq _).trans (decide_eq_true e2)
    have HD : Hid (derK l = 3) := hid (by unfold derK; simp only [hiT]; rw [if_neg (by rw [decide_eq_false e0]; decide)]; rw [if_neg (by rw [decide_eq_false e1]; decide)]; rw [if_pos (decide_eq_true e2)])
    have hwt : WF l.tail := hw.isT (by rw [hiT]; exact decide_eq_true e2) (by decide)
    clear e0 e1 e2 hq hiT
    go_enter Tryz.func154, Tryz.ntmps154
    go_wp2_with fail
    rw [HW2.out]
    go_quiet (fail)
    generalize hW : World.drewN _ _ = W3
    have hB3 : Below W2.heap.size W2 W3 := by rw [← hW]; exact below_drewN _ _ _
    have M3 := H0.out.mineB hB3
    have HK13 : ItmC w.heap.size W3 (.string (bs s0)) (.int .i64 k0) (.int .i64 0) (.string ⟨#[]⟩) (.string ⟨#[]⟩) (.int .i64 (-1)) (.int .i64 0) (.bool false) (.slice none 0 0) := (M3 _ (.inl (.inr rfl))).trans HK1.out
    have HK03 := hid ((M3 _ (.inr rfl)).trans HK0.out)
    have HT4 := (H0.out.below hB3).local (k := w.heap.size) (.inl (.inr rfl)) 2 (.int .i64 3)
    have HK14 : ItmC w.heap.size (W3.setCell ⟨w.heap.size, 2, none⟩ (.int .i64 3)) (.string (bs s0)) (.int .i64 k0) (.int .i64 3) (.string ⟨#[]⟩) (.string ⟨#[]⟩) (.int .i64 (-1)) (.int .i64 0) (.bool false) (.slice none 0 0) := cell_set_row HK13 (by simp) _
    have HS4 := hid (((HS0.out.trans (St.below H0.out.lt hB3))).fresh (B := w.heap.size) hg (Nat.le_refl _) 2 (.int .i64 3))
    clear q0 q1 q2 q7 qf qi qc qm qkg qkl t0 t1 t2 t3 t4 qin x0 x1 x2 x3 x4 x5 x6 x7 x8 xf xl y0 y1 y2 y3 y4 y5 y6 y7 y8 yf yl hW M3
    obtain ⟨⟨x0, x1, x2, x3, x4, x5, x6, x7, x8⟩, xf, xl⟩ := cells9 HK13
    obtain ⟨i, nn, kk, cp, q0, q1, q2, q7, qf, qi, qc, qm, -⟩ := HT4.1.look
    unfold maxLen at qm
    have hi1 : IntKind.i64.wrap ((i : Int) + 1) = (i : Int) + 1 := IntWalk.i64_in _ (by omega)
    have HN := HT4.1.next hwt q1
    have HT5 : DT (wth (wth X w.heap.size) (w.heap.size + 1)) g (m - 1) (b - 3) c d _ (.ok () l.tail : PR Unit) (fun _ => F a) := ⟨HN.1, by omega, hd32, by omega, hc9⟩
    have M5 := HT4.mine HN.2
    have HK15 := hid ((M5 _ (.inl (.inr rfl))).trans HK14)
    have HK05 := hid ((M5 _ (.inr rfl)).trans ((Below.heap_setCell _ _ _ _ (show w.heap.size + 1 ≠ w.heap.size from by omega)).trans HK03.out))
    have HS5 := hid (HS4.out.trans HN.2)
    have TL : Hid (∀ (γ : Type) (r2 : PR γ) (F2 : γ → FM) m b w', DT (wth (wth X w.heap.size) (w.heap.size + 1)) g m b c d w' r2 F2 → Calls Tryz.prog 52 #[.pointer (some ⟨g, 0, none⟩), .string ⟨#[40]⟩] w' fun e' w2 => e' = .returned (.tuple #[]) ∧ DT (wth (wth X w.heap.size) (w.heap.size + 1)) g (m - 1) (b - 3) c d w2 (r2.bind fun a l => (need sLp l).bind fun _ l => .ok a l) F2 ∧ St layD g w' w2) := hid fun γ r2 F2 m b w' h => dtake_any sLp (by decide) w' h
    have TR : Hid (∀ (γ : Type) (r2 : PR γ) (F2 : γ → FM) m b w', DT (wth (wth X w.heap.size) (w.heap.size + 1)) g m b c d w' r2 F2 → Calls Tryz.prog 52 #[.pointer (some ⟨g, 0, none⟩), .string ⟨#[41]⟩] w' fun e' w2 => e' = .returned (.tuple #[]) ∧ DT (wth (wth X w.heap.size) (w.heap.size + 1)) g (m - 1) (b - 3) c d w2 (r2.bind fun a l => (need sRp l).bind fun _ l => .ok a l) F2 ∧ St layD g w' w2) := hid fun γ r2 F2 m b w' h => dtake_any sRp (by decide) w' h
    have TD : Hid (∀ (γ : Type) (r2 : PR γ) (F2 : γ → FM) m b w', DT (wth (wth X w.heap.size) (w.heap.size + 1)) g m b c d w' r2 F2 → Calls Tryz.prog 52 #[.pointer (some ⟨g, 0, none⟩), .string ⟨#[46, 46]⟩] w' fun e' w2 => e' = .returned (.tuple #[]) ∧ DT (wth (wth X w.heap.size) (w.heap.size + 1)) g (m - 1) (b - 3) c d w2 (r2.bind fun a l => (need sDots l).bind fun _ l => .ok a l) F2 ∧ St layD g w' w2) := hid fun γ r2 F2 m b w' h => dtake_any sDots (by decide) w' h
    have HT5 := hid HT5
    have HTL := hid (TL.out _ _ _ _ _ _ HT5.out)
    clear HN M5 HK14 HT4 HK13 hB3 TL
    go_wp2_with (first | (go_at_call 52; first | ((with_reducible refine HTL.out.mono ?_); rintro e w6 ⟨rfl, hT6, hS6⟩; have M6 := hid (HT5.out.mine hS6); have HS6 := hid (HS5.out.trans hS6); have HT6 := hid hT6; have HN6 := hid (dname_any w6 hT6); clear hT6 hS6) | ((with_reducible refine HT9.out.mono ?_); rintro e w9 ⟨rfl, hT9, hS9⟩; have M9 := hid (HT8.out.mine hS9); have HS9 := hid (HS8.out.trans hS9); have HT10 := hid hT9; have HN11 := hid (dname_any w9 hT9); clear hT9 hS9) | ((with_reducible refine HT13.out.mono ?_); rintro e w13 ⟨rfl, hT13, hS13⟩; have M13 := hid (HT12.out.mine hS13); have hc1 := (M13.out _ (.inl (.inr rfl))).trans HK112.out; have hc0 := (M13.out _ (.inr rfl)).trans HK012.out; have HT14 := hid hT13; have HS14 := hid (HS12.out.trans hS13); clear x0 x1 x2 x3 x4 x5 x6 x7 x8 xf xl; obtain ⟨⟨x0, x1, x2, x3, x4, x5, x6, x7, x8⟩, xf, xl⟩ := cells9 hc1; obtain ⟨⟨z0, z1, z2, z3, z4, z5, z6, z7, z8⟩, zf, zl⟩ := cells9 hc0; clear hc1 hc0 hT13)) | (go_at_call 53; first | ((refine HN11.out.mono ?_); rintro e w11 ⟨B, rfl, hT11, hB, hS11⟩; have HBB := hid hB; have M11 := hid (M9.out.trans (HT10.out.mine hS11)); have hc1 := (M11.out _ (.inl (.inr rfl))).trans HK18.out; have hc0 := (M11.out _ (.inr rfl)).trans HK08.out; have HT12 := hid (hT11.local (k := w.heap.size) (.inl (.inr rfl)) 4 (.string (bs B))); have HS12 := hid ((HS9.out.trans hS11).fresh (B := w.heap.size) hg (Nat.le_refl _) 4 (.string (bs B))); have HK112 : Hid (ItmC w.heap.size (w11.setCell ⟨w.heap.size, 4, none⟩ (.string (bs B))) (.string (bs s0)) (.int .i64 k0) (.int .i64 3) (.string (bs A)) (.string (bs B)) (.int .i64 (-1)) (.int .i64 0) (.bool false) (.slice none 0 0)) := hid (cell_set_row hc1 (by simp) _); have HK012 : Hid (ItmC (w.heap.size + 1) (w11.setCell ⟨w.heap.size, 4, none⟩ (.string (bs B))) (.string ⟨#[]⟩) (.int .i64 0) (.int .i64 0) (.string ⟨#[]⟩) (.string ⟨#[]⟩) (.int .i64 0) (.int .i64 0) (.bool false) (.slice none 0 0)) := hid ((Below.heap_setCell _ _ _ _ (show w.heap.size + 1 ≠ w.heap.size from by omega)).trans hc0); clear x0 x1 x2 x3 x4 x5 x6 x7 x8 xf xl z0 z1 z2 z3 z4 z5 z6 z7 z8 zf zl; obtain ⟨⟨x0, x1, x2, x3, x4, x5, x6, x7, x8⟩, xf, xl⟩ := cells9 hc1; have HT13 := hid (TR.out _ _ _ _ _ _ HT12.out); clear hB hT11 hS11 hc1 hc0) | ((refine HN6.out.mono ?_); rintro e w7 ⟨A, rfl, hT7, hA, hS7⟩; have HA := hid hA; have M7 := hid (M6.out.trans (HT6.out.mine hS7)); have hc1 := (M7.out _ (.inl (.inr rfl))).trans HK15.out; have hc0 := (M7.out _ (.inr rfl)).trans HK05.out; have HT8 := hid (hT7.local (k := w.heap.size) (.inl (.inr rfl)) 3 (.string (bs A))); have HS8 := hid ((HS6.out.trans hS7).fresh (B := w.heap.size) hg (Nat.le_refl _) 3 (.string (bs A))); have HK18 : Hid (ItmC w.heap.size (w7.setCell ⟨w.heap.size, 3, none⟩ (.string (bs A))) (.string (bs s0)) (.int .i64 k0) (.int .i64 3) (.string (bs A)) (.string ⟨#[]⟩) (.int .i64 (-1)) (.int .i64 0) (.bool false) (.slice none 0 0)) := hid (cell_set_row hc1 (by simp) _); have HK08 : Hid (ItmC (w.heap.size + 1) (w7.setCell ⟨w.heap.size, 3, none⟩ (.string (bs A))) (.string ⟨#[]⟩) (.int .i64 0) (.int .i64 0) (.string ⟨#[]⟩) (.string ⟨#[]⟩) (.int .i64 0) (.int .i64 0) (.bool false) (.slice none 0 0)) := hid ((Below.heap_setCell _ _ _ _ (show w.heap.size + 1 ≠ w.heap.size from by omega)).trans hc0); clear x0 x1 x2 x3 x4 x5 x6 x7 x8 xf xl; obtain ⟨⟨x0, x1, x2, x3, x4, x5, x6, x7, x8⟩, xf, xl⟩ := cells9 hc1; obtain ⟨⟨z0, z1, z2, z3, z4, z5, z6, z7, z8⟩, zf, zl⟩ := cells9 HK18.out; have HT9 := hid (TD.out _ _ _ _ _ _ HT8.out); clear hA hT7 hS7 hc1 hc0)))
    refine bodyPost_ret (v := .agg #[(.string (bs s0)), (.int .i64 k0), .int .i64 3, .string (bs A), .string (bs B), (.int .i64 (-1)), (.int .i64 0), (.bool false), (.slice none 0 0)]) (by simp [results, Tryz.results154, go_sem, z0, z1, z2, z3, z4, z5, z6, z7, z8]) rfl ⟨3, A, B, rfl, ?_, ?_, StD.set9 HS14.out hg (Nat.le_succ _) _ _ _ _ _ _ _ _ _⟩
    · refine (DT.map (DT.set9 HT14.out (k := w.heap.size + 1) (.inr rfl) (.string (bs s0)) (.int .i64 k0) (.int .i64 3) (.string (bs A)) (.string (bs B)) (.int .i64 (-1)) (.int .i64 0) (.bool false) (.slice none 0 0)).bare.bare (fun p => (a, ⟨3, p.1.2, p.2⟩)) ?_ fun _ _ _ => rfl).mono (by omega) (by omega) (by omega) (by omega) (by omega)
      rw [PR.bind_ok]
      unfold derP
      rw [HD.out, if_neg (by decide)]
      simp only [PR.bind_assoc, PR.bind_ok, if_neg (show ¬ 3 ≤ 2 from by decide)]
    · intro p l' e
      unfold derP at e
      rw [PR.bind_ok, HD.out, if_neg (by decide)] at e
      simp only [PR.bind_assoc, PR.bind_ok, if_neg (show ¬ 3 ≤ 2 from by decide)] at e
      cases hn1 : need sLp l.tail with
      | bad l2 x => rw [hn1] at e; cases e
      | ok u l2 =>
        rw [hn1, PR.bind_ok] at e
        cases hn2 : nameP l2 with
        | bad l3 x => rw [hn2] at e; cases e
        | ok A' l3 =>
          rw [hn2, PR.bind_ok] at e
          cases hn3 : need sDots l3 with
          | bad l4 x => rw [hn3] at e; cases e
          | ok u' l4 =>
            rw [hn3, PR.bind_ok] at e
            cases hn4 : nameP l4 with
            | bad l5 x => rw [hn4] at e; cases e
            | ok B' l5 =>
              rw [hn4, PR.bind_ok] at e
              cases hn5 : need sRp l5 with
              | bad l6 x => rw [hn5] at e; cases e
              | ok u6 l6 =>
                rw [hn5] at e
                cases e
                rw [HA.out ((), A') l3 (by rw [PR.bind_ok, hn1]; simp only [PR.bind_ok]; rw [hn2]; rfl), HBB.out (((), A'), B') l5 (by rw [PR.bind_ok, hn1]; simp only [PR.bind_ok]; rw [hn2]; simp only [PR.bind_ok]; rw [hn3]; simp only [PR.bind_ok]; rw [hn4]; rfl)]
  by_cases e3 : t = kAdler32
  · have b0 : ((bs t).toList == [115, 105, 122, 101, 111, 102]) = false := (hq _).trans (decide_eq_false e0)
    have b1 : ((bs t).toList == [99, 111, 117, 110, 116, 111, 102]) = false := (hq _).trans (decide_eq_false e1)
    have b2 : ((bs t).toList == [99, 114, 99, 51, 50]) = false := (hq _).trans (decide_eq_false e2)
    have b3 : ((bs t).toList == [97, 100, 108, 101, 114, 51, 50]) = true := (hq _).trans (decide_eq_true e3)
    have HD : Hid (derK l = 4) := hid (by unfold derK; simp only [hiT]; rw [if_neg (by rw [decide_eq_false e0]; decide)]; rw [if_neg (by rw [decide_eq_false e1]; decide)]; rw [if_neg (by rw [decide_eq_false e2]; decide)]; rw [if_pos (decide_eq_true e3)])
    have hwt : WF l.tail := hw.isT (by rw [hiT]; exact decide_eq_true e3) (by decide)
    clear e0 e1 e2 e3 hq hiT
    go_enter Tryz.func154, Tryz.ntmps154
    go_wp2_with fail
    rw [HW2.out]
    go_quiet (fail)
    generalize hW : World.drewN _ _ = W3
    have hB3 : Below W2.heap.size W2 W3 := by rw [← hW]; exact below_drewN _ _ _
    have M3 := H0.out.mineB hB3
    have HK13 : ItmC w.heap.size W3 (.string (bs s0)) (.int .i64 k0) (.int .i64 0) (.string ⟨#[]⟩) (.string ⟨#[]⟩) (.int .i64 (-1)) (.int .i64 0) (.bool false) (.slice none 0 0) := (M3 _ (.inl (.inr rfl))).trans HK1.out
    have HK03 := hid ((M3 _ (.inr rfl)).trans HK0.out)
    have HT4 := (H0.out.below hB3).local (k := w.heap.size) (.inl (.inr rfl)) 2 (.int .i64 4)
    have HK14 : ItmC w.heap.size (W3.setCell ⟨w.heap.size, 2, none⟩ (.int .i64 4)) (.string (bs s0)) (.int .i64 k0) (.int .i64 4) (.string ⟨#[]⟩) (.string ⟨#[]⟩) (.int .i64 (-1)) (.int .i64 0) (.bool false) (.slice none 0 0) := cell_set_row HK13 (by simp) _
    have HS4 := hid (((HS0.out.trans (St.below H0.out.lt hB3))).fresh (B := w.heap.size) hg (Nat.le_refl _) 2 (.int .i64 4))
    clear q0 q1 q2 q7 qf qi qc qm qkg qkl t0 t1 t2 t3 t4 qin x0 x1 x2 x3 x4 x5 x6 x7 x8 xf xl y0 y1 y2 y3 y4 y5 y6 y7 y8 yf yl hW M3
    obtain ⟨⟨x0, x1, x2, x3, x4, x5, x6, x7, x8⟩, xf, xl⟩ := cells9 HK13
    obtain ⟨i, nn, kk, cp, q0, q1, q2, q7, qf, qi, qc, qm, -⟩ := HT4.1.look
    unfold maxLen at qm
    have hi1 : IntKind.i64.wrap ((i : Int) + 1) = (i : Int) + 1 := IntWalk.i64_in _ (by omega)
    have HN := HT4.1.next hwt q1
    have HT5 : DT (wth (wth X w.heap.size) (w.heap.size + 1)) g (m - 1) (b - 3) c d _ (.ok () l.tail : PR Unit) (fun _ => F a) := ⟨HN.1, by omega, hd32, by omega, hc9⟩
    have M5 := HT4.mine HN.2
    have HK15 := hid ((M5 _ (.inl (.inr rfl))).trans HK14)
    have HK05 := hid ((M5 _ (.inr rfl)).trans ((Below.heap_setCell _ _ _ _ (show w.heap.size + 1 ≠ w.heap.size from by omega)).trans HK03.out))
    have HS5 := hid (HS4.out.trans HN.2)
    have TL : Hid (∀ (γ : Type) (r2 : PR γ) (F2 : γ → FM) m b w', DT (wth (wth X w.heap.size) (w.heap.size + 1)) g m b c d w' r2 F2 → Calls Tryz.prog 52 #[.pointer (some ⟨g, 0, none⟩), .string ⟨#[40]⟩] w' fun e' w2 => e' = .returned (.tuple #[]) ∧ DT (wth (wth X w.heap.size) (w.heap.size + 1)) g (m - 1) (b - 3) c d w2 (r2.bind fun a l => (need sLp l).bind fun _ l => .ok a l) F2 ∧ St layD g w' w2) := hid fun γ r2 F2 m b w' h => dtake_any sLp (by decide) w' h
    have TR : Hid (∀ (γ : Type) (r2 : PR γ) (F2 : γ → FM) m b w', DT (wth (wth X w.heap.size) (w.heap.size + 1)) g m b c d w' r2 F2 → Calls Tryz.prog 52 #[.pointer (some ⟨g, 0, none⟩), .string ⟨#[41]⟩] w' fun e' w2 => e' = .returned (.tuple #[]) ∧ DT (wth (wth X w.heap.size) (w.heap.size + 1)) g (m - 1) (b - 3) c d w2 (r2.bind fun a l => (need sRp l).bind fun _ l => .ok a l) F2 ∧ St layD g w' w2) := hid fun γ r2 F2 m b w' h => dtake_any sRp (by decide) w' h
    have TD : Hid (∀ (γ : Type) (r2 : PR γ) (F2 : γ → FM) m b w', DT (wth (wth X w.heap.size) (w.heap.size + 1)) g m b c d w' r2 F2 → Calls Tryz.prog 52 #[.pointer (some ⟨g, 0, none⟩), .string ⟨#[46, 46]⟩] w' fun e' w2 => e' = .returned (.tuple #[]) ∧ DT (wth (wth X w.heap.size) (w.heap.size + 1)) g (m - 1) (b - 3) c d w2 (r2.bind fun a l => (need sDots l).bind fun _ l => .ok a l) F2 ∧ St layD g w' w2) := hid fun γ r2 F2 m b w' h => dtake_any sDots (by decide) w' h
    have HT5 := hid HT5
    have HTL := hid (TL.out _ _ _ _ _ _ HT5.out)
    clear HN M5 HK14 HT4 HK13 hB3 TL
    go_wp2_with (first | (go_at_call 52; first | ((with_reducible refine HTL.out.mono ?_); rintro e w6 ⟨rfl, hT6, hS6⟩; have M6 := hid (HT5.out.mine hS6); have HS6 := hid (HS5.out.trans hS6); have HT6 := hid hT6; have HN6 := hid (dname_any w6 hT6); clear hT6 hS6) | ((with_reducible refine HT9.out.mono ?_); rintro e w9 ⟨rfl, hT9, hS9⟩; have M9 := hid (HT8.out.mine hS9); have HS9 := hid (HS8.out.trans hS9); have HT10 := hid hT9; have HN11 := hid (dname_any w9 hT9); clear hT9 hS9) | ((with_reducible refine HT13.out.mono ?_); rintro e w13 ⟨rfl, hT13, hS13⟩; have M13 := hid (HT12.out.mine hS13); have hc1 := (M13.out _ (.inl (.inr rfl))).trans HK112.out; have hc0 := (M13.out _ (.inr rfl)).trans HK012.out; have HT14 := hid hT13; have HS14 := hid (HS12.out.trans hS13); clear x0 x1 x2 x3 x4 x5 x6 x7 x8 xf xl; obtain ⟨⟨x0, x1, x2, x3, x4, x5, x6, x7, x8⟩, xf, xl⟩ := cells9 hc1; obtain ⟨⟨z0, z1, z2, z3, z4, z5, z6, z7, z8⟩, zf, zl⟩ := cells9 hc0; clear hc1 hc0 hT13)) | (go_at_call 53; first | ((refine HN11.out.mono ?_); rintro e w11 ⟨B, rfl, hT11, hB, hS11⟩; have HBB := hid hB; have M11 := hid (M9.out.trans (HT10.out.mine hS11)); have hc1 := (M11.out _ (.inl (.inr rfl))).trans HK18.out; have hc0 := (M11.out _ (.inr rfl)).trans HK08.out; have HT12 := hid (hT11.local (k := w.heap.size) (.inl (.inr rfl)) 4 (.string (bs B))); have HS12 := hid ((HS9.out.trans hS11).fresh (B := w.heap.size) hg (Nat.le_refl _) 4 (.string (bs B))); have HK112 : Hid (ItmC w.heap.size (w11.setCell ⟨w.heap.size, 4, none⟩ (.string (bs B))) (.string (bs s0)) (.int .i64 k0) (.int .i64 4) (.string (bs A)) (.string (bs B)) (.int .i64 (-1)) (.int .i64 0) (.bool false) (.slice none 0 0)) := hid (cell_set_row hc1 (by simp) _); have HK012 : Hid (ItmC (w.heap.size + 1) (w11.setCell ⟨w.heap.size, 4, none⟩ (.string (bs B))) (.string ⟨#[]⟩) (.int .i64 0) (.int .i64 0) (.string ⟨#[]⟩) (.string ⟨#[]⟩) (.int .i64 0) (.int .i64 0) (.bool false) (.slice none 0 0)) := hid ((Below.heap_setCell _ _ _ _ (show w.heap.size + 1 ≠ w.heap.size from by omega)).trans hc0); clear x0 x1 x2 x3 x4 x5 x6 x7 x8 xf xl z0 z1 z2 z3 z4 z5 z6 z7 z8 zf zl; obtain ⟨⟨x0, x1, x2, x3, x4, x5, x6, x7, x8⟩, xf, xl⟩ := cells9 hc1; have HT13 := hid (TR.out _ _ _ _ _ _ HT12.out); clear hB hT11 hS11 hc1 hc0) | ((refine HN6.out.mono ?_); rintro e w7 ⟨A, rfl, hT7, hA, hS7⟩; have HA := hid hA; have M7 := hid (M6.out.trans (HT6.out.mine hS7)); have hc1 := (M7.out _ (.inl (.inr rfl))).trans HK15.out; have hc0 := (M7.out _ (.inr rfl)).trans HK05.out; have HT8 := hid (hT7.local (k := w.heap.size) (.inl (.inr rfl)) 3 (.string (bs A))); have HS8 := hid ((HS6.out.trans hS7).fresh (B := w.heap.size) hg (Nat.le_refl _) 3 (.string (bs A))); have HK18 : Hid (ItmC w.heap.size (w7.setCell ⟨w.heap.size, 3, none⟩ (.string (bs A))) (.string (bs s0)) (.int .i64 k0) (.int .i64 4) (.string (bs A)) (.string ⟨#[]⟩) (.int .i64 (-1)) (.int .i64 0) (.bool false) (.slice none 0 0)) := hid (cell_set_row hc1 (by simp) _); have HK08 : Hid (ItmC (w.heap.size + 1) (w7.setCell ⟨w.heap.size, 3, none⟩ (.string (bs A))) (.string ⟨#[]⟩) (.int .i64 0) (.int .i64 0) (.string ⟨#[]⟩) (.string ⟨#[]⟩) (.int .i64 0) (.int .i64 0) (.bool false) (.slice none 0 0)) := hid ((Below.heap_setCell _ _ _ _ (show w.heap.size + 1 ≠ w.heap.size from by omega)).trans hc0); clear x0 x1 x2 x3 x4 x5 x6 x7 x8 xf xl; obtain ⟨⟨x0, x1, x2, x3, x4, x5, x6, x7, x8⟩, xf, xl⟩ := cells9 hc1; obtain ⟨⟨z0, z1, z2, z3, z4, z5, z6, z7, z8⟩, zf, zl⟩ := cells9 HK18.out; have HT9 := hid (TD.out _ _ _ _ _ _ HT8.out); clear hA hT7 hS7 hc1 hc0)))
    refine bodyPost_ret (v := .agg #[(.string (bs s0)), (.int .i64 k0), .int .i64 4, .string (bs A), .string (bs B), (.int .i64 (-1)), (.int .i64 0), (.bool false), (.slice none 0 0)]) (by simp [results, Tryz.results154, go_sem, z0, z1, z2, z3, z4, z5, z6, z7, z8]) rfl ⟨4, A, B, rfl, ?_, ?_, StD.set9 HS14.out hg (Nat.le_succ _) _ _ _ _ _ _ _ _ _⟩
    · refine (DT.map (DT.set9 HT14.out (k := w.heap.size + 1) (.inr rfl) (.string (bs s0)) (.int .i64 k0) (.int .i64 4) (.string (bs A)) (.string (bs B)) (.int .i64 (-1)) (.int .i64 0) (.bool false) (.slice none 0 0)).bare.bare (fun p => (a, ⟨4, p.1.2, p.2⟩)) ?_ fun _ _ _ => rfl).mono (by omega) (by omega) (by omega) (by omega) (by omega)
      rw [PR.bind_ok]
      unfold derP
      rw [HD.out, if_neg (by decide)]
      simp only [PR.bind_assoc, PR.bind_ok, if_neg (show ¬ 4 ≤ 2 from by decide)]
    · intro p l' e
      unfold derP at e
      rw [PR.bind_ok, HD.out, if_neg (by decide)] at e
      simp only [PR.bind_assoc, PR.bind_ok, if_neg (show ¬ 4 ≤ 2 from by decide)] at e
      cases hn1 : need sLp l.tail with
      | bad l2 x => rw [hn1] at e; cases e
      | ok u l2 =>
        rw [hn1, PR.bind_ok] at e
        cases hn2 : nameP l2 with
        | bad l3 x => rw [hn2] at e; cases e
        | ok A' l3 =>
          rw [hn2, PR.bind_ok] at e
          cases hn3 : need sDots l3 with
          | bad l4 x => rw [hn3] at e; cases e
          | ok u' l4 =>
            rw [hn3, PR.bind_ok] at e
            cases hn4 : nameP l4 with
            | bad l5 x => rw [hn4] at e; cases e
            | ok B' l5 =>
              rw [hn4, PR.bind_ok] at e
              cases hn5 : need sRp l5 with
              | bad l6 x => rw [hn5] at e; cases e
              | ok u6 l6 =>
                rw [hn5] at e
                cases e
                rw [HA.out ((), A') l3 (by rw [PR.bind_ok, hn1]; simp only [PR.bind_ok]; rw [hn2]; rfl), HBB.out (((), A'), B') l5 (by rw [PR.bind_ok, hn1]; simp only [PR.bind_ok]; rw [hn2]; simp only [PR.bind_ok]; rw [hn3]; simp only [PR.bind_ok]; rw [hn4]; rfl)]
  · have b0 : ((bs t).toList == [115, 105, 122, 101, 111, 102]) = false := (hq _).trans (decide_eq_false e0)
    have b1 : ((bs t).toList == [99, 111, 117, 110, 116, 111, 102]) = false := (hq _).trans (decide_eq_false e1)
    have b2 : ((bs t).toList == [99, 114, 99, 51, 50]) = false := (hq _).trans (decide_eq_false e2)
    have b3 : ((bs t).toList == [97, 100, 108, 101, 114, 51, 50]) = false := (hq _).trans (decide_eq_false e3)
    have HD : Hid (derK l = 0) := hid (by unfold derK; simp only [hiT]; rw [if_neg (by rw [decide_eq_false e0]; decide), if_neg (by rw [decide_eq_false e1]; decide), if_neg (by rw [decide_eq_false e2]; decide), if_neg (by rw [decide_eq_false e3]; decide)])
    clear e0 e1 e2 e3 hq hiT
    go_enter Tryz.func154, Tryz.ntmps154
    go_wp2_with fail
    rw [HW2.out]
    go_quiet (fail)
    generalize hW : World.drewN _ _ = W3
    have hB3 : Below W2.heap.size W2 W3 := by rw [← hW]; exact below_drewN _ _ _
    have M3 := hid (H0.out.mineB hB3)
    have HT3 := hid (H0.out.below hB3)
    have HS3 := hid (HS0.out.trans (St.below H0.out.lt hB3))
    clear q0 q1 q2 q7 qf qi qc qm qkg qkl t0 t1 t2 t3 t4 qin x0 x1 x2 x3 x4 x5 x6 x7 x8 xf xl y0 y1 y2 y3 y4 y5 y6 y7 y8 yf yl hW hB3
    go_wp2_with (go_at_call 56; go_must (refine (dfail_ok 4 W3 HT3.out.1).mono ?_; rintro e w4 ⟨rfl, hI, hS⟩; have M4 := hid (M3.out.trans (HT3.out.mine hS)); have hc1 := (M4.out _ (.inl (.inr rfl))).trans HK1.out; have hc0 := (M4.out _ (.inr rfl)).trans HK0.out; obtain ⟨⟨x0, x1, x2, x3, x4, x5, x6, x7, x8⟩, xf, xl⟩ := cells9 hc1; obtain ⟨⟨z0, z1, z2, z3, z4, z5, z6, z7, z8⟩, zf, zl⟩ := cells9 hc0; have HI := hid hI; clear hc1 hc0 hI))
    have hT4 : DT (wth (wth X w.heap.size) (w.heap.size + 1)) g m b c d w4 (.bad l 4 : PR (β × DA)) (fun p => F p.1) := ⟨by decide, _, _, HI.out.mono hbc' hc9⟩
    have hder : ((.ok a l : PR β).bind fun a l => (derP l).bind fun y l => .ok (a, y) l) = (.bad l 4 : PR (β × DA)) := by rw [PR.bind_ok]; unfold derP; rw [HD.out, if_pos rfl]; rfl
    rw [hder]
    exact bodyPost_ret (v := .agg #[(.string (bs s0)), (.int .i64 k0), .int .i64 0, .string ⟨#[]⟩, .string ⟨#[]⟩, (.int .i64 (-1)), (.int .i64 0), (.bool false), (.slice none 0 0)]) (by simp [results, Tryz.results154, go_sem, z0, z1, z2, z3, z4, z5, z6, z7, z8]) rfl ⟨0, [], [], rfl, (DT.set9 hT4 (k := w.heap.size + 1) (.inr rfl) (.string (bs s0)) (.int .i64 k0) (.int .i64 0) (.string ⟨#[]⟩) (.string ⟨#[]⟩) (.int .i64 (-1)) (.int .i64 0) (.bool false) (.slice none 0 0)).bare.bare, fun p l e => (by cases e), StD.set9 (HS3.out.trans hS) hg (Nat.le_succ _) _ _ _ _ _ _ _ _ _⟩
end Go.Proofs.YthcdohggffpopaaGreatDoor
