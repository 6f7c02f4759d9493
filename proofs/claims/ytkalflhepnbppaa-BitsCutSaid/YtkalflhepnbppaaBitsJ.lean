/- Contracts of layer 3's laws: widths that go into a total, out of any numbers. -/
import Derived.Test.YtkalflhepnbppaaBitsI
namespace Go.Proofs.Ytkalflhepnbppaa
open Go.ChangeShapes Go.WideShapes Go.ChangeAt Go.RowKit
set_option linter.unusedVariables false

/-- Widths that leave s of a total. -/
def GoesTo (t : Int) (l : List Int) (s : Int) : Prop := isTotal t ∧ (∀ j, j < l.length → 1 ≤ el l j ∧ el l j ≤ 64) ∧ l.sum + s = t
theorem GoesTo.start {t : Int} (h : isTotal t) : GoesTo t [] t := ⟨h, fun j hj => absurd hj (by simp), by simp⟩
theorem GoesTo.more {t s x : Int} {l : List Int} (h : GoesTo t l s) (h1 : 1 ≤ x) (h2 : x ≤ 64) : GoesTo t (l ++ [x]) (s - x) := by
  refine ⟨h.1, fun j hj => ?_, ?_⟩
  · rw [List.length_append] at hj
    by_cases e : j < l.length
    · rw [el_append_left e]; exact h.2.1 j e
    · rw [el_append_right (by omega)]
      obtain rfl : j = l.length := by simp at hj; omega
      simp [el]; omega
  · have := h.2.2
    simp
    omega
theorem GoesTo.len {t s : Int} {l : List Int} (h : GoesTo t l s) (hs : 0 ≤ s) : l.length ≤ 64 := by
  have h2 := pre_mono (fun j hj => (h.2.1 j hj).1) 0 l.length (by omega) (by omega)
  have h1 := h.1
  have h3 := h.2.2
  rw [pre_all, pre_zero] at h2
  unfold isTotal at h1
  omega
theorem GoesTo.done {t : Int} {l : List Int} (h : GoesTo t l 0) : goesB t l = true := goesB_true ⟨h.1, h.2.1, by have := h.2.2; omega⟩

/-- A total, and widths that go into it. -/
def WholePost (w : World) (e : Ending) (w' : World) : Prop :=
  ∃ (t : Int) (b : Option Addr) (c : Nat) (l : List Int), e = .returned (.tuple #[.int .i64 t, .slice b l.length c]) ∧ goesB t l = true ∧ l.length ≤ c ∧ c ≤ maxLen ∧ Rd .i64 w' b l ∧ Below w.heap.size w w'

theorem Own.caps {E : TypeId} {k : IntKind} {B : Nat} {w : World} {a : Option Addr} {n c : Nat} {l : List Int} (h : Own E k B w (.slice a n c) l) : n = l.length ∧ n ≤ c ∧ c ≤ maxLen := by
  rcases h.form with ⟨h1, rfl⟩ | ⟨g, cap, h1, hr⟩
  · simp only [Value.slice.injEq] at h1
    obtain ⟨rfl, rfl, rfl⟩ := h1
    simp
  · simp only [Value.slice.injEq] at h1
    obtain ⟨rfl, rfl, rfl⟩ := h1
    rcases hr.2 with ⟨h', _⟩ | ⟨g', cap', cur, hv, hg, hh, h1, h2, _⟩
    · simp at h'
    · simp only [Value.slice.injEq] at hv
      omega

set_option maxHeartbeats 4000000 in
theorem whole_any (x n : Int) (hx : 0 ≤ x ∧ x ≤ 255) (a : Option Addr) (cap : Nat) (l : List Int) (w : World) (hl : l.length ≤ cap) (hc : cap ≤ maxLen) (h : Rd .i64 w a l) (hw : ∀ j, j < l.length → (Lit.int .i64 (el l j)).wf = true) :
    Calls Try.prog 13 #[.int .u8 x, .int .u8 n, .slice a l.length cap] w (WholePost w) := by
  obtain ⟨x1, x2⟩ := hx
  have hl70 : ((l.length : Int) ≤ 70 ∧ (l.length ≤ 70)) ∨ ((70 : Int) < l.length ∧ (70 < l.length)) := by omega
  unfold maxLen at hc
  obtain ⟨i0, hi, hz0, hz1, hz2⟩ := info_parts info_int
  have H := Lib.hid h
  have HI := Lib.hid hw
  clear h hw
  have h5 : x % 5 = 0 ∨ x % 5 = 1 ∨ x % 5 = 2 ∨ x % 5 = 3 ∨ x % 5 = 4 := by omega
  rcases h5 with h5 | h5 | h5 | h5 | h5
  all_goals rcases hl70 with ⟨hm, hm'⟩ | ⟨hm, hm'⟩
  all_goals
    go_enter Try.func13, Try.ntmps13
    go_wp2_with fail
    clear h5
    have hb0 := (Below.refl w.heap.size w).alloc (Nat.le_refl _) (.cells #[.int .i64 8, .int .i64 16, .int .i64 24, .int .i64 32, .int .i64 64] 3)
    go_loopw [9, 10, 26] (fun r u i wr => ∃ (k : Nat) (s : Int) (v : Value) (L : List Int), k ≤ l.length ∧ k ≤ 70 ∧ i = .int .i64 k ∧ r = .int .i64 s ∧ 0 ≤ s ∧ s ≤ 64 ∧ v = u ∧ Hid (GoesTo (intOf (.int .i64 _)) L s) ∧ Own 3 .i64 w.heap.size wr v L ∧ Below w.heap.size w wr) (fun _ _ i _ => l.length - (intOf i).toNat)
    case atStart => exact ⟨0, _, _, [], by omega, by omega, rfl, rfl, by omega, by omega, rfl, Lib.hid (GoesTo.start (by unfold isTotal; simp [intOf])), Own.nil .., hb0⟩
    case round =>
      obtain ⟨k, s, u, L, hk, hk', rfl, rfl, hs0, hs1, rfl, HL, hown, hb⟩ := hrel
      simp only [intOf] at HL
      obtain ⟨b, c, rfl⟩ := hown.shape
      by_cases hlt : k < l.length ∧ k < 70
      · obtain ⟨hlt1, hlt2⟩ := hlt
        obtain ⟨y, rfl, hy, hc0⟩ := H.out.at_ hlt1
        have hcc : wr.cell? (y.add k) = some (.int .i64 (el l k)) := by rw [← hc0]; exact hb.cell (by rw [block_add]; exact hy)
        clear hc0
        obtain ⟨z, HZ⟩ : ∃ z, Hid (el l k = z) := ⟨_, Lib.hid rfl⟩
        have hwf := HI.out k hlt1
        rw [HZ.out] at hcc hwf
        obtain ⟨z1, z2⟩ := bounds_i64 hwf
        clear hwf
        by_cases h0 : s = 0
        · subst h0
          go_wp2_with fail
          go_ret2
          exact ⟨_, b, c, L, rfl, HL.out.done, hown.caps.2.1, hown.caps.2.2, Rd.of_own hown, hb⟩
        · have h1 : 0 < s := by omega
          have h2 : (s == 0) = false := by simpa using h0
          clear h0
          have hlen := HL.out.len hs0
          have g1 : L.length + 1 ≤ maxLen := by unfold maxLen; omega
          have g2 : (L.length + 1) * 8 ≤ 140737488355328 := by omega
          have g3 := hb.size
          have HO := Lib.hid hown
          clear hown hlen
          by_cases hz : 0 < z
          · have r0 : 0 ≤ z % s := Int.emod_nonneg _ (by omega)
            have r1 : z % s < s := Int.emod_lt_of_pos _ h1
            go_wp2_with (at_builtin; refine append_own1 rfl _ _ 22 rfl w.heap.size 3 i0 (.int .i64 0) 8 Try.underlying22 hi hz0 hz1 hz2 rfl .i64 (.slice b L.length c) _ _ rfl HO.out _ rfl g1 g2 g3 ?_; intro v' w4 hown4 hb5)
            go_roundw
            case rel =>
              exact ⟨k + 1, s - (1 + z % s), _, _, by omega, by omega, by go_num, rfl, by omega, by omega, rfl, Lib.hid (HL.out.more (by omega) (by omega)), hown4, hb.trans hb5⟩
            case measure => simp [intOf]; omega
          · have hz' : z ≤ 0 := by omega
            have hd : decide (0 < z) = false := by simpa using hz
            clear hz
            go_wp2_with (at_builtin; refine append_own1 rfl _ _ 22 rfl w.heap.size 3 i0 (.int .i64 0) 8 Try.underlying22 hi hz0 hz1 hz2 rfl .i64 (.slice b L.length c) _ _ rfl HO.out _ rfl g1 g2 g3 ?_; intro v' w4 hown4 hb5)
            go_roundw
            case rel =>
              exact ⟨k + 1, s - 1, _, _, by omega, by omega, by go_num, rfl, by omega, by omega, rfl, Lib.hid (HL.out.more (by omega) (by omega)), hown4, hb.trans hb5⟩
            case measure => simp [intOf]; omega
      · have hge : l.length ≤ k ∨ 70 ≤ k := by omega
        by_cases h0 : s = 0
        · subst h0
          first | (have hge' : (l.length : Int) ≤ k := by omega); skip | (have hge' : (70 : Int) ≤ k := by omega)
          go_wp2_with fail
          go_ret2
          exact ⟨_, b, c, L, rfl, HL.out.done, hown.caps.2.1, hown.caps.2.2, Rd.of_own hown, hb⟩
        · have h1 : 0 < s := by omega
          have hlen := HL.out.len hs0
          have g1 : L.length + 1 ≤ maxLen := by unfold maxLen; omega
          have g2 : (L.length + 1) * 8 ≤ 140737488355328 := by omega
          have g3 := hb.size
          have HO := Lib.hid hown
          clear hown hlen h0
          go_wp2_with (at_builtin; refine append_own1 rfl _ _ 22 rfl w.heap.size 3 i0 (.int .i64 0) 8 Try.underlying22 hi hz0 hz1 hz2 rfl .i64 (.slice b L.length c) _ _ rfl HO.out _ rfl g1 g2 g3 ?_; intro v' w4 hown4 hb5)
          go_ret2
          obtain ⟨b', c', rfl⟩ := hown4.shape
          have hG := (HL.out.more (x := s) (by omega) hs1)
          rw [Int.sub_self] at hG
          exact ⟨_, b', c', _, rfl, hG.done, hown4.caps.2.1, hown4.caps.2.2, Rd.of_own hown4, hb.trans hb5⟩

end Go.Proofs.Ytkalflhepnbppaa
