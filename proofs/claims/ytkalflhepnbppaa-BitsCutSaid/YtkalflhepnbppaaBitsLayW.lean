/- Layer 3's law BitsLay. -/
import Derived.Test.YtkalflhepnbppaaBitsJ
import Derived.Deep.RegionHeld3
namespace Go.Proofs.Ytkalflhepnbppaa
open Go.ChangeShapes Go.WideShapes Go.ChangeAt Go.RowKit
set_option linter.unusedVariables false

theorem field_cells {w w3 : World} {v0 v1 : Value} {t : TypeId} (h : Below (w.alloc (.cells #[v0, v1] t)).heap.size (w.alloc (.cells #[v0, v1] t)) w3) :
    w3.cell? ⟨w.heap.size, 0, none⟩ = some v0 ∧ w3.cell? ⟨w.heap.size, 1, none⟩ = some v1 ∧ w.heap.size < w3.heap.size := by
  have hs := h.size
  simp at hs
  refine ⟨(h.cell (by simp)).trans ?_, (h.cell (by simp)).trans ?_, by omega⟩
  all_goals
    rw [cell_of_row _ _ _ _ _ (0, 0) (heap_alloc_new w _)]
    rfl

/-- What is read in the laws' long test: the field's cells, and the width. -/
theorem layS {w wr : World} {r y : Nat} {t : TypeId} {x : Addr} {k : Nat} (hb : Below w.heap.size w wr) (hx : x.block < wr.heap.size) (hc : wr.cell? (x.add k) = some (.int .i64 y)) :
    let W := wr.alloc (.cells #[.int .i64 r, .int .i64 y] t)
    W.cell? ⟨wr.heap.size, 0, none⟩ = some (.int .i64 r) ∧ W.cell? ⟨wr.heap.size, 1, none⟩ = some (.int .i64 y) ∧ W.cell? (x.add k) = some (.int .i64 y) ∧ wr.heap.size < W.heap.size ∧ x.block < W.heap.size ∧ Below w.heap.size w W := by
  obtain ⟨c0, c1, c2⟩ := field_cells (v0 := .int .i64 r) (v1 := .int .i64 y) (t := t) (Below.refl (wr.alloc (.cells #[.int .i64 r, .int .i64 y] t)).heap.size (wr.alloc (.cells #[.int .i64 r, .int .i64 y] t)))
  exact ⟨c0, c1, by rw [World.cell?_alloc_lt _ _ _ (by rw [block_add]; exact hx)]; exact hc, c2, by simp; omega, hb.alloc hb.size _⟩

theorem below_drew {B : Nat} {a w : World} (h : Below B a w) : Below B a w.drew := ⟨h.os, h.tape, h.output, h.size, h.block⟩
theorem layS_keep {w w1 w2 : World} {r y k p : Nat} {x : Addr} (hb : Below w1.heap.size w1 w2) (h0 : w1.cell? ⟨p, 0, none⟩ = some (.int .i64 r)) (h1 : w1.cell? ⟨p, 1, none⟩ = some (.int .i64 y)) (h2 : w1.cell? (x.add k) = some (.int .i64 y)) (h3 : p < w1.heap.size) (h4 : x.block < w1.heap.size) (h5 : Below w.heap.size w w1) :
    w2.cell? ⟨p, 0, none⟩ = some (.int .i64 r) ∧ w2.cell? ⟨p, 1, none⟩ = some (.int .i64 y) ∧ w2.cell? (x.add k) = some (.int .i64 y) ∧ p < w2.heap.size ∧ x.block < w2.heap.size ∧ Below w.heap.size w w2 :=
  ⟨(hb.cell h3).trans h0, (hb.cell h3).trans h1, (hb.cell (by rw [block_add]; exact h4)).trans h2, Nat.lt_of_lt_of_le h3 hb.size, Nat.lt_of_lt_of_le h4 hb.size, chain h5 (Nat.le_refl _) hb⟩

set_option maxRecDepth 100000 in
set_option maxHeartbeats 1000000 in
theorem BitsLay_walk (a0 : Int) (a1 : Option Addr) (len1 cap1 : Nat) (z1 : List Int) (a2 : Int) (w : World) (w0 : (Lit.int .i64 a0).wf = true) (w1 : IsRow .i64 w a1 len1 cap1 z1) (w2 : (Lit.int .u64 a2).wf = true) :
    Calls Try.prog 3 #[.int .i64 a0, .slice a1 len1 cap1, .int .u64 a2] w fun e w' => e = .returned (.bool true) ∧ Below w.heap.size w w' := by
  obtain ⟨l, rfl, hl, hc, hrd, hwf⟩ := w1.rd
  obtain ⟨u1, u2⟩ := bounds_u64 w2
  obtain ⟨n, rfl⟩ := Int.eq_ofNat_of_zero_le u1
  have hn : n < 18446744073709551616 := by omega
  obtain ⟨b1, b2⟩ := bounds_i64 w0
  have HW := Lib.hid wakes_any
  have HG := Lib.hid (fun b d w => Get_any n b d hn w)
  have HP := Lib.hid (fun b d w => refPart_any n b d hn w)
  unfold maxLen at hc
  by_cases hm : l.length ≤ 70
  · cases hg : goesB a0 l
    · have cL := Lib.hid (Lay_no a0 a1 cap1 l w (by unfold maxLen; omega) hrd hg)
      have cG := refGoes_any a0 a1 cap1 l w (by unfold maxLen; omega) hrd
      rw [hg] at cG
      have CG := Lib.hid cG
      clear cG hg hrd hwf
      go_enter Try.func3, Try.ntmps3
      go_wp2_with (first | ((with_reducible refine (cL.out).mono ?_); rintro e w' ⟨rfl, rfl⟩) | ((with_reducible refine (CG.out).mono ?_); rintro e w' ⟨rfl, rfl⟩))
      refine wp_loop_rounds 1 ?_
      rw [rounds_succ]
      go_wp2_with fail
      refine (HW.out _).mono ?_; rintro e w3 ⟨rfl, hb3⟩
      obtain ⟨c0, c1, c2⟩ := field_cells hb3
      have hb3' := chain ((Below.refl w.heap.size w).alloc (Nat.le_refl _) (.cells #[.int .i64 a0, .int .i64 l.length] 30)) (Nat.le_refl _) hb3
      clear hb3
      go_wp2_with fail
      refine (HG.out _ _ _).mono ?_; rintro e w4 ⟨rfl, hb4⟩
      have hb4' := chain hb3' (Nat.le_refl _) hb4
      clear c0 c1 hb4
      go_wp2_with fail
      refine (HP.out _ _ _).mono ?_; rintro e w5 ⟨rfl, hb5⟩
      have hb5' := chain hb4' (Nat.le_refl _) hb5
      go_wp2_with fail
      go_ret
      exact ⟨ret_bool (by simp), hb5'⟩
    · have G := goes_of hg
      have cL := Lib.hid (Lay_ok a0 a1 cap1 l w hrd hg)
      have cG := refGoes_any a0 a1 cap1 l w (by unfold maxLen; omega) hrd
      rw [hg] at cG
      have CG := Lib.hid cG
      obtain ⟨t1, t2⟩ := G.total
      have HGO := Lib.hid G
      have H := Lib.hid hrd
      clear cG hg hrd hwf G
      go_enter Try.func3, Try.ntmps3
      go_wp2_with fail
      refine (cL.out).mono ?_; rintro e w1' ⟨rfl, hfr, hb1⟩
      have hG1 := CG.out
      have hrd1 := H.out.below hb1 (Nat.le_refl _)
      have cG := refGoes_any a0 a1 cap1 l w1' (by unfold maxLen; omega) hrd1
      rw [goesB_true HGO.out] at cG
      have CG2 := Lib.hid cG
      clear cG CG hG1 hrd1
      go_wp2_with fail
      refine (CG2.out).mono ?_; rintro e w' ⟨rfl, rfl⟩
      go_wp2_with fail
      go_loopw [10, 53] (fun r i wr => ∃ (k s : Nat), k ≤ l.length ∧ i = .int .i64 k ∧ r = .int .i64 s ∧ s ≤ 64 ∧ Hid (s = rst l k) ∧ FRow w.heap.size wr w.heap.size l l.length ∧ Below w.heap.size w wr) (fun _ i _ => l.length - (intOf i).toNat)
      case atStart => exact ⟨0, a0.toNat, by omega, rfl, by rw [show ((a0.toNat : Nat) : Int) = a0 from by omega], by omega, Lib.hid (goes_rst_zero HGO.out).symm, hfr, hb1⟩
      case round =>
        obtain ⟨k, s, hk, rfl, rfl, hs, HS, hf, hb⟩ := hrel
        by_cases hlt : k < l.length
        · obtain ⟨c0, c1⟩ := hf.cells hlt
          obtain ⟨x, rfl, hx, hc0⟩ := H.out.at_ hlt
          have hcx : wr.cell? (x.add k) = some (.int .i64 (el l k)) := by rw [← hc0]; exact hb.cell (by rw [block_add]; exact hx)
          obtain ⟨y, HY, hy1, hy2⟩ : ∃ y, Hid (y = wd l k) ∧ 1 ≤ y ∧ y ≤ s := ⟨_, Lib.hid rfl, (goes_wd HGO.out hlt).2.1, by rw [HS.out, rst_step hlt]; omega⟩
          have e2 : s - y = rst l (k + 1) := by rw [HS.out, HY.out, rst_step hlt]; omega
          obtain ⟨r, HR⟩ : ∃ r : Nat, Hid (r = s - y) := ⟨_, Lib.hid rfl⟩
          have e1 : r = rst l (k + 1) := by rw [HR.out, e2]
          have e3 : (r : Int) = (s : Int) - (y : Int) := by rw [HR.out]; omega
          rw [(goes_wd HGO.out hlt).1, ← HY.out] at hcx c1
          rw [← e1] at c0
          have HE := Lib.hid e1
          have HE3 := Lib.hid e3
          have hxs := hb.size
          have hxw : x.block < wr.heap.size := by omega
          have hca : (wr.alloc (.cells #[.int .i64 r, .int .i64 y] 30)).cell? (x.add k) = some (.int .i64 y) := by
            rw [World.cell?_alloc_lt _ _ _ (by rw [block_add]; exact hxw)]; exact hcx
          clear e1 e2 e3 hc0
          go_wp2_with fail
          rw [← HE3.out]
          have S0 := layS (r := r) (y := y) (t := 30) (x := x) (k := k) hb hxw hcx
          have hfW := hf.alloc (.cells #[.int .i64 r, .int .i64 y] 30)
          generalize wr.alloc (.cells #[.int .i64 r, .int .i64 y] 30) = W at S0 hfW ⊢
          generalize wr.heap.size = p at S0 ⊢
          clear hca hcx c0 c1
          obtain ⟨s0, s1, s2, s3, s4, s5⟩ := id S0
          go_region_held3 (fun w' => w'.cell? ⟨p, 0, none⟩ = some (.int .i64 r) ∧ w'.cell? ⟨p, 1, none⟩ = some (.int .i64 y) ∧ w'.cell? (x.add k) = some (.int .i64 y) ∧ p < w'.heap.size ∧ x.block < w'.heap.size ∧ Below w.heap.size w w')
            (first | exact ⟨s0, s1, s2, s3, s4, below_drew s5⟩ | (go_split_ands; exact layS_keep (by assumption) (by assumption) (by assumption) (by assumption) (by assumption) (by assumption) (by assumption)) | go_keep)
            (first | (go_at_call 10; refine (HG.out _ _ _).mono ?_; rintro e w4 ⟨rfl, hb4⟩) | (go_at_call 11; refine (HP.out _ _ _).mono ?_; rintro e w5 ⟨rfl, hb5⟩))
          rename_i hHeld
          have hf5 := (hfW.below (w' := w4) (B' := W.drew.heap.size) ⟨hb4.os, hb4.tape, hb4.output, hb4.size, hb4.block⟩ hfW.lt.2).below hb5 (Nat.lt_of_lt_of_le hfW.lt.2 hb4.size)
          have hbe := hHeld.2.2.2.2.2
          clear hHeld hb4 hb5 s0 s1 s2 s3 s4 s5 S0 hf hb
          go_wp2_with fail
          go_roundw
          case rel => exact ⟨k + 1, r, by omega, by go_num, rfl, by have := HR.out; omega, HE, hf5, hbe⟩
          case measure => simp [intOf]; omega
        · obtain rfl : k = l.length := by omega
          go_wp2_with fail
          refine (HW.out _).mono ?_; rintro e w3 ⟨rfl, hb3⟩
          obtain ⟨c0, c1, c2⟩ := field_cells hb3
          have hb3' := chain (hb.alloc hb.size (.cells #[.int .i64 a0, .int .i64 l.length] 30)) (Nat.le_refl _) hb3
          clear hb3
          go_wp2_with fail
          refine (HG.out _ _ _).mono ?_; rintro e w4 ⟨rfl, hb4⟩
          have hb4' := chain hb3' (Nat.le_refl _) hb4
          clear c0 c1 hb4
          go_wp2_with fail
          refine (HP.out _ _ _).mono ?_; rintro e w5 ⟨rfl, hb5⟩
          have hb5' := chain hb4' (Nat.le_refl _) hb5
          go_wp2_with fail
          go_ret
          exact ⟨ret_bool (by simp), hb5'⟩
  · have hm' : 70 < l.length := by omega
    have e70 : (l.take 70).length = 70 := by rw [List.length_take]; omega
    have hg : goesB a0 (l.take 70) = false := goesB_false fun g => by have := g.len.2; omega
    have cL := Lay_no a0 a1 cap1 (l.take 70) w (by unfold maxLen; omega) (hrd.take 70) hg
    have cG := refGoes_any a0 a1 cap1 (l.take 70) w (by unfold maxLen; omega) (hrd.take 70)
    rw [e70] at cL cG
    rw [hg] at cG
    have CL := Lib.hid cL
    have CG := Lib.hid cG
    have h70 : (70 : Int) < l.length := by omega
    clear cG cL hg hrd hwf e70 hm hm'
    go_enter Try.func3, Try.ntmps3
    go_wp2_with (first | ((with_reducible refine (CL.out).mono ?_); rintro e w' ⟨rfl, rfl⟩) | ((with_reducible refine (CG.out).mono ?_); rintro e w' ⟨rfl, rfl⟩))
    refine wp_loop_rounds 1 ?_
    rw [rounds_succ]
    go_wp2_with fail
    refine (HW.out _).mono ?_; rintro e w3 ⟨rfl, hb3⟩
    obtain ⟨c0, c1, c2⟩ := field_cells hb3
    have hb3' := chain ((Below.refl w.heap.size w).alloc (Nat.le_refl _) (.cells #[.int .i64 a0, .int .i64 70] 30)) (Nat.le_refl _) hb3
    clear hb3
    go_wp2_with fail
    refine (HG.out _ _ _).mono ?_; rintro e w4 ⟨rfl, hb4⟩
    have hb4' := chain hb3' (Nat.le_refl _) hb4
    clear c0 c1 hb4
    go_wp2_with fail
    refine (HP.out _ _ _).mono ?_; rintro e w5 ⟨rfl, hb5⟩
    have hb5' := chain hb4' (Nat.le_refl _) hb5
    go_wp2_with fail
    go_ret
    exact ⟨ret_bool (by simp), hb5'⟩

end Go.Proofs.Ytkalflhepnbppaa
