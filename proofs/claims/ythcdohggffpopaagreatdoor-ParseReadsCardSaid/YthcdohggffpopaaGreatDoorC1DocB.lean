/- Layer 7: the document's parser: single tokens. -/
import Derived.Test.YthcdohggffpopaaGreatDoorC1DocA
import Derived.BigQuiet
import Derived.Deep.QuietTactic
import Derived.StillTailTactics
namespace Go.Proofs.YthcdohggffpopaaGreatDoor
open Go.Lib (hid)
open Go.ChangeShapes Go.WideShapes Go.ChangeAt Go.RowKit
theorem ne_nat (a b : Nat) : ((a : Int) != (b : Int)) = !decide (a = b) := by rw [bne, beq_nat]
theorem tk_end {l : List Tok} (hw : WF l) (h : (hd l).tk.k = 3) : (hd l).tk = tkEnd := by
  rcases hw.cases with ⟨h1, _⟩ | ⟨h1, _⟩
  · exact h1
  · have := h1.k; omega
theorem isT_no {t : List UInt8} {l : List Tok} (hn : t ≠ []) (hw : WF l) (h : (hd l).tk.k = 3) : isT t l = false := by
  unfold isT
  rw [tk_end hw h]
  exact decide_eq_false fun e => hn e.symm
section
variable {X : Nat → Prop} {g b : Nat} {l : List Tok} {e : Nat} {d : Int} {f : FM}
theorem dfail_ok (x : Nat) (w : World) (h : DInv X g b w l 0 d f) :
    Calls Tryz.prog 56 #[.pointer (some ⟨g, 0, none⟩), .int .i64 (x : Int)] w fun e' w' => e' = .returned (.tuple #[]) ∧ DInv X g b w' l x d f ∧ St layD g w w' := by
  obtain ⟨i, n, k, c, h0, h1, h2, h7, hf, -⟩ := h.look
  have H := hid (h.fails x)
  clear h
  go_enter Tryz.func56, Tryz.ntmps56
  go_wp2_with fail
  first | go_end0 | refine bodyPost_ret (results_none rfl _ _ _) rfl ?_
  exact ⟨rfl, H.out.1, H.out.2⟩
theorem dfail_bad (x : Nat) (w : World) (h : DInv X g b w l e d f) (he : e ≠ 0) :
    Calls Tryz.prog 56 #[.pointer (some ⟨g, 0, none⟩), .int .i64 (x : Int)] w fun e' w' => e' = .returned (.tuple #[]) ∧ w = w' := by
  obtain ⟨i, n, k, c, h0, h1, h2, h7, hf, -⟩ := h.look
  have hb : ((e : Int) == 0) = false := by rw [beq_eq_false_iff_ne]; omega
  clear h
  go_enter Tryz.func56, Tryz.ntmps56
  go_wp2_with fail
  first | go_end0 | refine bodyPost_ret (results_none rfl _ _ _) rfl ?_
  exact ⟨rfl, rfl⟩
set_option maxRecDepth 100000 in
theorem dis_any (t : List UInt8) (hn : t ≠ []) (w : World) (h : DInv X g b w l e d f) :
    Calls Tryz.prog 50 #[.pointer (some ⟨g, 0, none⟩), .string (bs t)] w fun e' w' => e' = .returned (.bool (isT t l)) ∧ Below w.heap.size w w' := by
  obtain ⟨i, n, k, c, h0, h1, h2, h7, hf, hi, hc, hm, hkg, hkl, c0, c1, c2, c3, c4⟩ := h.look
  have hl := h.wf.pos
  have hin : (i : Int) < (n : Int) := by omega
  unfold maxLen at hm
  by_cases h3 : (hd l).tk.k = 3
  · have HR := hid (isT_no hn h.wf h3)
    have hb : (((hd l).tk.k : Int) != 3) = false := by rw [h3]; rfl
    clear h h3 hi
    go_enter Tryz.func50, Tryz.ntmps50
    go_wp2_with fail
    go_quiet (fail)
    go_wp2_with fail
    go_ret
    exact ⟨retBe HR.out.symm, below_drewN _ _ _⟩
  · have hb : (((hd l).tk.k : Int) != 3) = true := by rw [show (3 : Int) = ((3 : Nat) : Int) from rfl, ne_nat, decide_eq_false h3]; rfl
    clear h h3 hi
    go_enter Tryz.func50, Tryz.ntmps50
    go_wp2_with fail
    go_quiet (fail)
    go_wp2_with fail
    go_ret
    exact ⟨retBe (beq_bs _ _), below_drewN _ _ _⟩
set_option maxRecDepth 100000 in
theorem dnamed_any (w : World) (h : DInv X g b w l e d f) :
    Calls Tryz.prog 103 #[.pointer (some ⟨g, 0, none⟩)] w fun e' w' => e' = .returned (.bool (isName l)) ∧ Below w.heap.size w w' := by
  obtain ⟨i, n, k, c, h0, h1, h2, h7, hf, hi, hc, hm, hkg, hkl, c0, c1, c2, c3, c4⟩ := h.look
  have hl := h.wf.pos
  have hin : (i : Int) < (n : Int) := by omega
  have HK := hid (fun w => refKeyword_any (hd l).tk.t w)
  have b0 : (((hd l).tk.k : Int) == 0) = decide ((hd l).tk.k = 0) := beq_nat (hd l).tk.k 0
  have HB : Hid (isName l = (decide ((hd l).tk.k = 0) && !isKw (hd l).tk.t)) := hid rfl
  have H := hid (h.below (Below.refl w.heap.size w).drew)
  unfold maxLen at hm
  clear h hi
  generalize (hd l).tk.t = t at *
  cases e0 : decide ((hd l).tk.k = 0) <;> cases e1 : isKw t
  all_goals
    rw [e0] at b0 HB
    rw [e1] at HB HK
    clear e0 e1
    go_enter Tryz.func103, Tryz.ntmps103
    go_wp2_with fail
    go_still_tail 11, (by kernel_rfl)
    change wpList _ _ _ _ _ w.drew
    go_wp2_with (go_at_call 152; go_must (refine (HK.out _).mono ?_; rintro e' w' ⟨rfl, hb⟩; obtain ⟨i', n', k', c', h0', h1', h2', h7', hf', hi', hc', hm', hkg', hkl', c0', -⟩ := (H.out.below hb).look; unfold maxLen at hm'; have hin' : (i' : Int) < (n' : Int) := by omega))
    go_quiet (fail)
    go_wp2_with fail
    go_ret
    exact ⟨retBe HB.out.symm, ((Below.refl _ _).drew.trans hb).trans (below_drewN _ _ _)⟩
end
section
variable {β : Type} {X : Nat → Prop} {g m b c d : Nat} {r : PR β} {F : β → FM}
theorem DT.err_ne {w : World} {l : List Tok} {x : Nat} (h : DT X g m b c d w (.bad l x : PR β) F) : ((x : Int) != 0) = true := by
  have := h.1
  rw [show (0 : Int) = ((0 : Nat) : Int) from rfl, ne_nat, decide_eq_false this]; rfl
set_option maxRecDepth 100000 in
theorem dtake_any (t : List UInt8) (hn : t ≠ []) (w : World) (h : DT X g m b c d w r F) :
    Calls Tryz.prog 52 #[.pointer (some ⟨g, 0, none⟩), .string (bs t)] w fun e' w' => e' = .returned (.tuple #[]) ∧ DT X g (m - 1) (b - 3) c d w' (r.bind fun a l => (need t l).bind fun _ l => .ok a l) F ∧ St layD g w w' := by
  obtain ⟨b', d', f', hI⟩ := h.inv
  have C1 := hid (dis_any t hn w hI)
  have HG := hid h.lt
  cases r with
  | bad l x =>
    have hne := h.err_ne
    have H := hid h
    simp only [PR.rest, PR.err] at C1 hI
    have HI := hid hI
    clear h hI
    cases ht : isT t l
    all_goals
      rw [ht] at C1
      clear ht
      go_enter Tryz.func52, Tryz.ntmps52
      go_wp2_with (go_at_call 50; go_must (refine C1.out.mono ?_; rintro e w' ⟨rfl, hb⟩; obtain ⟨i, n, k, cp, h0, h1, h2, h7, hf, -⟩ := (HI.out.below hb).look))
      first | go_end0 | refine bodyPost_ret (results_none rfl _ _ _) rfl ?_
      exact ⟨rfl, H.out.below hb, St.below HG.out hb⟩
  | ok a l =>
    obtain ⟨hD, hlm, hd32, hbc, hc9⟩ := h
    have HD := hid hD
    have hww := hD.wf
    clear hI hD
    simp only [PR.rest, PR.err] at C1
    rw [PR.bind_ok]
    have hl := hww.pos
    cases ht : isT t l
    · rw [ht] at C1
      have hr : ((need t l).bind fun _ l => .ok a l) = (.bad l 4 : PR β) := by unfold need; rw [if_neg (by rw [ht]; decide)]; rfl
      rw [hr]
      clear hr ht
      go_enter Tryz.func52, Tryz.ntmps52
      go_wp2_with (first | (go_at_call 50; go_must (refine C1.out.mono ?_; rintro e w' ⟨rfl, hb⟩; obtain ⟨i, n, k, cp, h0, h1, h2, h7, hf, -⟩ := (HD.out.below hb).look; have C2 := hid (dfail_ok 4 w' (HD.out.below hb)))) | (go_at_call 56; go_must (refine C2.out.mono ?_; rintro e w2 ⟨rfl, hI, hS⟩)))
      first | go_end0 | refine bodyPost_ret (results_none rfl _ _ _) rfl ?_
      exact ⟨rfl, ⟨by decide, _, _, hI.mono hbc hc9⟩, (St.below HG.out hb).trans hS⟩
    · have hwt := hww.isT ht hn
      have hr : ((need t l).bind fun _ l => .ok a l) = (.ok a l.tail : PR β) := by unfold need; rw [if_pos ht]; rfl
      have htl : l.tail.length = l.length - 1 := List.length_tail
      rw [hr]
      rw [ht] at C1
      clear hr ht
      go_enter Tryz.func52, Tryz.ntmps52
      go_wp2_with (go_at_call 50; go_must (refine C1.out.mono ?_; rintro e w' ⟨rfl, hb⟩; obtain ⟨i, n, k, cp, h0, h1, h2, h7, hf, hi, hc, hm, -⟩ := (HD.out.below hb).look; unfold maxLen at hm; have hi1 : IntKind.i64.wrap ((i : Int) + 1) = (i : Int) + 1 := IntWalk.i64_in _ (by omega); have HN := hid ((HD.out.below hb).next hwt h1)))
      first | go_end0 | refine bodyPost_ret (results_none rfl _ _ _) rfl ?_
      exact ⟨rfl, ⟨HN.out.1, by omega, hd32, by omega, hc9⟩, (St.below HG.out hb).trans HN.out.2⟩
set_option maxRecDepth 100000 in
theorem dname_any (w : World) (h : DT X g m b c d w r F) :
    Calls Tryz.prog 53 #[.pointer (some ⟨g, 0, none⟩)] w fun e' w' => ∃ s, e' = .returned (.string (bs s)) ∧ DT X g (m - 1) (b - 3) c d w' (r.bind fun a l => (nameP l).bind fun y l => .ok (a, y) l) (fun p => F p.1) ∧ (∀ p l, (r.bind fun a l => (nameP l).bind fun y l => .ok (a, y) l) = .ok p l → s = p.2) ∧ St layD g w w' := by
  obtain ⟨b', d', f', hI⟩ := h.inv
  have C1 := hid (dnamed_any w hI)
  have H := hid h
  have HG := hid h.lt
  cases r with
  | bad l x =>
    have hne := h.err_ne
    clear h
    simp only [PR.rest, PR.err] at C1 hI
    have HI := hid hI
    clear hI
    cases ht : isName l
    all_goals
      rw [ht] at C1
      clear ht
      go_enter Tryz.func53, Tryz.ntmps53
      go_wp2_with (go_at_call 103; go_must (refine C1.out.mono ?_; rintro e w' ⟨rfl, hb⟩; obtain ⟨i, n, k, cp, h0, h1, h2, h7, hf, -⟩ := (HI.out.below hb).look))
      go_ret
      exact ⟨[], rfl, H.out.below hb, fun p l e => (by cases e), St.below HG.out hb⟩
  | ok a l =>
    obtain ⟨hD, hlm, hd32, hbc, hc9⟩ := h
    simp only [PR.rest, PR.err] at C1
    simp only [PR.bind_ok]
    have HD := hid hD
    have hwt := hD.wf
    have hl := hD.wf.pos
    clear hI hD
    cases ht : isName l
    · rw [ht] at C1
      have hr : ((nameP l).bind fun y l => .ok (a, y) l) = (.bad l 4 : PR (β × List UInt8)) := by unfold nameP; rw [if_neg (by rw [ht]; decide)]; rfl
      rw [hr]
      clear hr ht
      go_enter Tryz.func53, Tryz.ntmps53
      go_wp2_with (first | (go_at_call 103; go_must (refine C1.out.mono ?_; rintro e w' ⟨rfl, hb⟩; obtain ⟨i, n, k, cp, h0, h1, h2, h7, hf, -⟩ := (HD.out.below hb).look; have C2 := hid (dfail_ok 4 w' (HD.out.below hb)))) | (go_at_call 56; go_must (refine C2.out.mono ?_; rintro e w2 ⟨rfl, hI, hS⟩)))
      go_ret
      exact ⟨[], rfl, ⟨by decide, _, _, hI.mono hbc hc9⟩, fun p l e => (by cases e), (St.below HG.out hb).trans hS⟩
    · rw [ht] at C1
      have hwt := hwt.isName ht
      have hr : ((nameP l).bind fun y l => .ok (a, y) l) = (.ok (a, (hd l).tk.t) l.tail : PR (β × List UInt8)) := by unfold nameP; rw [if_pos ht]; rfl
      have htl : l.tail.length = l.length - 1 := List.length_tail
      rw [hr]
      clear hr ht
      go_enter Tryz.func53, Tryz.ntmps53
      go_wp2_with (go_at_call 103; go_must (refine C1.out.mono ?_; rintro e w' ⟨rfl, hb⟩; obtain ⟨i, n, k, cp, h0, h1, h2, h7, hf, hi, hc, hm, hkg, hkl, c0, c1, c2, c3, c4⟩ := (HD.out.below hb).look; unfold maxLen at hm; have hin : (i : Int) < (n : Int) := (by omega); have hi1 : IntKind.i64.wrap ((i : Int) + 1) = (i : Int) + 1 := IntWalk.i64_in _ (by omega); have hi2 : IntKind.i64.wrap ((i : Int) + 1 - 1) = (i : Int) := (congrArg _ (Int.add_sub_cancel _ _)).trans (IntWalk.i64_in _ (by omega)); have HN := hid ((HD.out.below hb).next hwt h1); have q0 : (w'.setCell ⟨g, 1, none⟩ (.int .i64 ((i : Int) + 1))).cell? ⟨g, 1, none⟩ = _ := World.cell?_setCell_same _ _ _ h1; have q1 : (w'.setCell ⟨g, 1, none⟩ (.int .i64 ((i : Int) + 1))).cell? ⟨g, 0, none⟩ = _ := (World.cell?_setCell_other _ _ _ _ (by simp)).trans h0; have q2 : (w'.setCell ⟨g, 1, none⟩ (.int .i64 ((i : Int) + 1))).cell? ⟨k, i * 5 + 1, none⟩ = _ := (World.cell?_setCell_other _ _ _ _ (by simp [hkg])).trans c1))
      generalize (w'.setCell ⟨g, 1, none⟩ (.int .i64 ((i : Int) + 1))) = W2 at *
      go_quiet (fail)
      go_wp2_with fail
      go_ret
      exact ⟨_, rfl, ⟨HN.out.1.below (below_drewN _ _ _), by omega, hd32, by omega, hc9⟩, fun p l e => (by cases e; rfl), ((St.below HG.out hb).trans HN.out.2).trans (St.below HN.out.1.lt (below_drewN _ _ _))⟩
set_option maxRecDepth 100000 in
theorem dnum_any (w : World) (h : DT X g m b c d w r F) :
    Calls Tryz.prog 54 #[.pointer (some ⟨g, 0, none⟩)] w fun e' w' => ∃ s : Nat, e' = .returned (.int .u64 (s : Int)) ∧ DT X g (m - 1) (b - 3) c d w' (r.bind fun a l => (numP l).bind fun y l => .ok (a, y) l) (fun p => F p.1) ∧ (∀ p l, (r.bind fun a l => (numP l).bind fun y l => .ok (a, y) l) = .ok p l → s = p.2) ∧ St layD g w w' := by
  obtain ⟨b', d', f', hI⟩ := h.inv
  obtain ⟨i, n, k, cp, h0, h1, h2, h7, hf, hi, hc, hm, hkg, hkl, c0, c1, c2, c3, c4⟩ := hI.look
  have H := hid h
  have HG := hid h.lt
  cases r with
  | bad l x =>
    have hne := h.err_ne
    clear h
    simp only [PR.rest, PR.err] at h7
    go_enter Tryz.func54, Tryz.ntmps54
    go_wp2_with fail
    go_ret
    exact ⟨0, rfl, H.out, fun p l e => (by cases e), St.refl _ _ _⟩
  | ok a l =>
    obtain ⟨hD, hlm, hd32, hbc, hc9⟩ := h
    simp only [PR.rest, PR.err] at h7 hi c0 c1 c2 c3 c4
    simp only [PR.bind_ok]
    have hl := hD.wf.pos
    unfold maxLen at hm
    clear hI
    have hin : (i : Int) < (n : Int) := by omega
    cases ht : isNum l
    · have HD := hid hD
      have hr : ((numP l).bind fun y l => .ok (a, y) l) = (.bad l 4 : PR (β × Nat)) := by unfold numP; rw [if_neg (by rw [ht]; decide)]; rfl
      have hb : (((hd l).tk.k : Int) != 1) = true := by rw [show (1 : Int) = ((1 : Nat) : Int) from rfl, ne_nat]; unfold isNum at ht; rw [ht]; rfl
      rw [hr]
      clear hr ht hD
      go_enter Tryz.func54, Tryz.ntmps54
      go_wp2_with fail
      go_quiet (fail)
      go_wp2_with (go_at_call 56; go_must (refine (dfail_ok 4 _ (HD.out.below (below_drewN _ _ _))).mono ?_; rintro e w2 ⟨rfl, hI, hS⟩))
      go_ret
      exact ⟨0, rfl, ⟨by decide, _, _, hI.mono hbc hc9⟩, fun p l e => (by cases e), (St.below HG.out (below_drewN _ _ _)).trans hS⟩
    · have hwt := hD.wf.isNum ht
      have hr : ((numP l).bind fun y l => .ok (a, y) l) = (.ok (a, (hd l).tk.n) l.tail : PR (β × Nat)) := by unfold numP; rw [if_pos ht]; rfl
      have hb : (((hd l).tk.k : Int) != 1) = false := by rw [show (1 : Int) = ((1 : Nat) : Int) from rfl, ne_nat]; unfold isNum at ht; rw [ht]; rfl
      have htl : l.tail.length = l.length - 1 := List.length_tail
      have HD := hid hD
      rw [hr]
      clear hr ht hD
      go_enter Tryz.func54, Tryz.ntmps54
      go_wp2_with fail
      go_quiet (fail)
      generalize hW : World.drewN _ _ = W1
      have hbb : Below w.heap.size w W1 := by rw [← hW]; exact below_drewN _ _ _
      clear hW h0 h1 h2 h7 hf hi hc hm hkg hkl c0 c1 c2 c3 c4 hin
      obtain ⟨i, n, k, cp, h0, h1, h2, h7, hf, hi, hc, hm, hkg, hkl, c0, c1, c2, c3, c4⟩ := (HD.out.below hbb).look
      unfold maxLen at hm
      have hin : (i : Int) < (n : Int) := by omega
      have hi1 : IntKind.i64.wrap ((i : Int) + 1) = (i : Int) + 1 := IntWalk.i64_in _ (by omega)
      have hi2 : IntKind.i64.wrap ((i : Int) + 1 - 1) = (i : Int) := (congrArg _ (Int.add_sub_cancel _ _)).trans (IntWalk.i64_in _ (by omega))
      have HN := hid ((HD.out.below hbb).next hwt h1)
      have q0 : (W1.setCell ⟨g, 1, none⟩ (.int .i64 ((i : Int) + 1))).cell? ⟨g, 1, none⟩ = _ := World.cell?_setCell_same _ _ _ h1
      have q1 : (W1.setCell ⟨g, 1, none⟩ (.int .i64 ((i : Int) + 1))).cell? ⟨g, 0, none⟩ = _ := (World.cell?_setCell_other _ _ _ _ (by simp)).trans h0
      have q2 : (W1.setCell ⟨g, 1, none⟩ (.int .i64 ((i : Int) + 1))).cell? ⟨k, i * 5 + 2, none⟩ = _ := (World.cell?_setCell_other _ _ _ _ (by simp [hkg])).trans c2
      go_wp2_with fail
      generalize (W1.setCell ⟨g, 1, none⟩ (.int .i64 ((i : Int) + 1))) = W2 at *
      go_quiet (fail)
      go_wp2_with fail
      go_ret
      exact ⟨_, rfl, ⟨HN.out.1.below (below_drewN _ _ _), by omega, hd32, by omega, hc9⟩, fun p l e => (by cases e; rfl), ((St.below HG.out hbb).trans HN.out.2).trans (St.below HN.out.1.lt (below_drewN _ _ _))⟩
set_option maxRecDepth 100000 in
theorem denter_any (q : Bool) (w : World) (h : DT X g m b c d w r F) :
    Calls Tryz.prog 230 #[.pointer (some ⟨g, 0, none⟩), .bool q] w fun e' w' => e' = .returned (.tuple #[]) ∧ DT X g m b c (d + 1) w' (r.bind fun a l => (enterP q d l).bind fun _ l => .ok a l) F ∧ St layD g w w' := by
  have H := hid h
  cases r with
  | bad l x =>
    obtain ⟨b', d', f', hI⟩ := h.inv
    obtain ⟨i, n, k, cp, h0, h1, h2, h7, hf, -⟩ := hI.look
    have hne := h.err_ne
    clear h hI
    simp only [PR.rest, PR.err] at h7
    go_enter Tryz.func230, Tryz.ntmps230
    go_wp2_with fail
    first | go_end0 | refine bodyPost_ret (results_none rfl _ _ _) rfl ?_
    exact ⟨rfl, H.out, St.refl _ _ _⟩
  | ok a l =>
    obtain ⟨hD, hlm, hd32, hbc, hc9⟩ := h
    obtain ⟨i, n, k, cp, h0, h1, h2, h7, hf, -⟩ := hD.look
    rw [PR.bind_ok]
    cases q
    · have C2 := hid (dfail_ok 4 w hD)
      have hr : ((enterP false d l).bind fun _ l => .ok a l) = (.bad l 4 : PR β) := rfl
      rw [hr]
      clear hr hD
      go_enter Tryz.func230, Tryz.ntmps230
      go_wp2_with (go_at_call 56; go_must (refine C2.out.mono ?_; rintro e w2 ⟨rfl, hI, hS⟩))
      first | go_end0 | refine bodyPost_ret (results_none rfl _ _ _) rfl ?_
      exact ⟨rfl, ⟨by decide, _, _, hI.mono hbc hc9⟩, hS⟩
    · by_cases h32 : 32 ≤ d
      · have C2 := hid (dfail_ok 8 w hD)
        have hr : ((enterP true d l).bind fun _ l => .ok a l) = (.bad l 8 : PR β) := by unfold enterP; rw [if_neg (by decide), if_pos h32]; rfl
        have hq : (32 : Int) ≤ (d : Int) := by omega
        rw [hr]
        clear hr hD
        go_enter Tryz.func230, Tryz.ntmps230
        go_wp2_with (go_at_call 56; go_must (refine C2.out.mono ?_; rintro e w2 ⟨rfl, hI, hS⟩))
        first | go_end0 | refine bodyPost_ret (results_none rfl _ _ _) rfl ?_
        exact ⟨rfl, ⟨by decide, _, _, hI.mono hbc hc9⟩, hS⟩
      · have hr : ((enterP true d l).bind fun _ l => .ok a l) = (.ok a l : PR β) := by unfold enterP; rw [if_neg (by decide), if_neg h32]; rfl
        have hq : ¬ (32 : Int) ≤ (d : Int) := by omega
        have HD := hid (hD.deep ((d : Int) + 1))
        have hi1 : IntKind.i64.wrap ((d : Int) + 1) = (d : Int) + 1 := IntWalk.i64_in _ (by omega)
        rw [hr]
        clear hr hD
        go_enter Tryz.func230, Tryz.ntmps230
        go_wp2_with fail
        first | go_end0 | refine bodyPost_ret (results_none rfl _ _ _) rfl ?_
        exact ⟨rfl, ⟨HD.out.1, hlm, by omega, hbc, hc9⟩, HD.out.2⟩
theorem wrapEq (x : Int) : IntKind.i64.wrap x = wrap64 x := IntWalk.i64_left x
theorem DT.up {w : World} (h : DT X g m b c (d + 1) w r F) {z : Int} (hz : w.cell? ⟨g, 2, none⟩ = some (.int .i64 z)) :
    DT X g m b c d (w.setCell ⟨g, 2, none⟩ (.int .i64 (wrap64 (z - 1)))) r F ∧ St layD g w (w.setCell ⟨g, 2, none⟩ (.int .i64 (wrap64 (z - 1)))) := by
  cases r with
  | bad l x =>
    obtain ⟨h0, d', f', h⟩ := h
    exact ⟨⟨h0, _, _, (h.deep _).1⟩, (h.deep _).2⟩
  | ok a l =>
    obtain ⟨hD, hlm, hd32, hbc, hc9⟩ := h
    obtain ⟨i, n, k, cp, h0, h1, h2, -⟩ := hD.look
    rw [h2] at hz
    simp only [Option.some.injEq, Value.int.injEq, true_and] at hz
    subst hz
    rw [show ((d + 1 : Nat) : Int) - 1 = (d : Int) from by omega, ← wrapEq, IntWalk.i64_in _ (by omega)]
    exact ⟨⟨(hD.deep _).1, hlm, by omega, hbc, hc9⟩, (hD.deep _).2⟩
set_option maxRecDepth 100000 in
theorem droom_any (k : Nat) (w : World) (h : DT X g m b c d w r F) :
    Calls Tryz.prog 51 #[.pointer (some ⟨g, 0, none⟩), .int .i64 (k : Int), .int .i64 64] w fun e' w' => e' = .returned (.tuple #[]) ∧ DT X g m b c d w' (r.bind fun a l => (roomP k l).bind fun _ l => .ok a l) F ∧ St layD g w w' := by
  have H := hid h
  by_cases h64 : 64 ≤ k
  · have hq : (64 : Int) ≤ (k : Int) := by omega
    have hr : ∀ (a : β) l, ((roomP k l).bind fun _ l => .ok a l) = (.bad l 10 : PR β) := fun a l => by unfold roomP; rw [if_pos h64]; rfl
    simp only [hr]
    cases r with
    | bad l x =>
      obtain ⟨h0, d', f', h⟩ := h
      have C2 := hid (dfail_bad 10 w h h0)
      clear h hr
      go_enter Tryz.func51, Tryz.ntmps51
      go_wp2_with (go_at_call 56; go_must (refine C2.out.mono ?_; rintro e w2 ⟨rfl, rfl⟩))
      first | go_end0 | refine bodyPost_ret (results_none rfl _ _ _) rfl ?_
      exact ⟨rfl, H.out, St.refl _ _ _⟩
    | ok a l =>
      obtain ⟨hD, hlm, hd32, hbc, hc9⟩ := h
      have C2 := hid (dfail_ok 10 w hD)
      clear hD hr
      go_enter Tryz.func51, Tryz.ntmps51
      go_wp2_with (go_at_call 56; go_must (refine C2.out.mono ?_; rintro e w2 ⟨rfl, hI, hS⟩))
      first | go_end0 | refine bodyPost_ret (results_none rfl _ _ _) rfl ?_
      exact ⟨rfl, ⟨by decide, _, _, hI.mono hbc hc9⟩, hS⟩
  · have hq : ¬ (64 : Int) ≤ (k : Int) := by omega
    have hr : (r.bind fun a l => (roomP k l).bind fun _ l => .ok a l) = r := by cases r <;> simp [PR.bind, roomP, h64]
    rw [hr]
    clear h hr
    go_enter Tryz.func51, Tryz.ntmps51
    go_wp2_with fail
    first | go_end0 | refine bodyPost_ret (results_none rfl _ _ _) rfl ?_
    exact ⟨rfl, H.out, St.refl _ _ _⟩
end
end Go.Proofs.YthcdohggffpopaaGreatDoor
