/- Layer 3's law BitsSplit. -/
import Derived.Test.YtkalflhepnbppaaBitsJ
namespace Go.Proofs.Ytkalflhepnbppaa
open Go.ChangeShapes Go.WideShapes Go.ChangeAt Go.RowKit
set_option linter.unusedVariables false

theorem splitR_len (n : Nat) (t : Int) (l : List Int) : (splitR n t l).1.length ≤ l.length := by
  unfold splitR
  split
  · split
    · rw [partsL_length]; exact Nat.le_refl _
    · simp
  · simp

/-- What came in, at most 70 of it. -/
theorem cut70 {k : IntKind} {w : World} {a : Option Addr} {l : List Int} (h : Rd k w a l) (hw : ∀ j, j < l.length → (Lit.int k (el l j)).wf = true) :
    ∃ p : List Int, p.length = min l.length 70 ∧ Rd k w a p ∧ ∀ j, j < p.length → (Lit.int k (el p j)).wf = true :=
  ⟨l.take 70, by rw [List.length_take]; omega, h.take 70, fun j hj => by
    rw [List.length_take] at hj
    rw [show el (l.take 70) j = el l j from by simp [el, show j < 70 from by omega]]
    exact hw j (by omega)⟩

/-- The two slices of widths that are tried. -/
def Two (w : World) (p : Nat) (b a : Option Addr) (c m cap : Nat) (L q : List Int) : Prop :=
  p < w.heap.size ∧ w.cell? ⟨p, 0, none⟩ = some (.slice b L.length c) ∧ w.cell? ⟨p, 1, none⟩ = some (.slice a m cap) ∧ q.length = m ∧ m ≤ 70 ∧ L.length ≤ 70 ∧ Rd .i64 w b L ∧ Rd .i64 w a q
theorem Two.at_ {w : World} {p c m cap : Nat} {b a : Option Addr} {L q : List Int} (h : Two w p b a c m cap L q) (k : Nat) (hk : k < 2) :
    ∃ (x : Option Addr) (d : Nat) (l : List Int), w.cell? ⟨p, k, none⟩ = some (.slice x l.length d) ∧ l.length ≤ 70 ∧ Rd .i64 w x l := by
  obtain ⟨h0, h1, h2, h3, h4, h5, h6, h7⟩ := h
  match k, hk with
  | 0, _ => exact ⟨b, c, L, h1, h5, h6⟩
  | 1, _ => exact ⟨a, cap, q, by rw [h2, h3], by omega, h7⟩
theorem Two.below {w w' : World} {p c m cap : Nat} {b a : Option Addr} {L q : List Int} (h : Two w p b a c m cap L q) (hb : Below w.heap.size w w') : Two w' p b a c m cap L q := by
  obtain ⟨h0, h1, h2, h3, h4, h5, h6, h7⟩ := h
  exact ⟨Nat.lt_of_lt_of_le h0 hb.size, (hb.cell h0).trans h1, (hb.cell h0).trans h2, h3, h4, h5, h6.below hb (Nat.le_refl _), h7.below hb (Nat.le_refl _)⟩

theorem Two.start {w0 w : World} {c m cap : Nat} {b a : Option Addr} {t : TypeId} {L q : List Int} (hb : Below w0.heap.size w0 w) (h1 : Rd .i64 w b L) (h2 : Rd .i64 w a q) (h3 : q.length = m) (h4 : q.length ≤ 70) (h5 : L.length ≤ 70) :
    Two (w.alloc (.cells #[.slice b L.length c, .slice a m cap] t)) w.heap.size b a c m cap L q ∧ Below w0.heap.size w0 (w.alloc (.cells #[.slice b L.length c, .slice a m cap] t)) := by
  refine ⟨⟨by simp, ?_, ?_, h3, by omega, h5, h1.alloc _, h2.alloc _⟩, hb.alloc hb.size _⟩
  all_goals
    rw [cell_of_row _ _ _ _ _ (0, 0) (heap_alloc_new w _)]
    rfl

set_option maxRecDepth 100000 in
set_option maxHeartbeats 2000000 in
theorem BitsSplit_walk (a0 : Int) (a1 : Option Addr) (len1 cap1 : Nat) (z1 : List Int) (a2 : Option Addr) (len2 cap2 : Nat) (z2 : List Int) (w : World) (w0 : (Lit.int .u64 a0).wf = true) (w1 : IsRow .i64 w a1 len1 cap1 z1) (w2 : IsRow .u64 w a2 len2 cap2 z2) :
    Calls Try.prog 4 #[.int .u64 a0, .slice a1 len1 cap1, .slice a2 len2 cap2] w fun e w' => e = .returned (.bool true) ∧ Below w.heap.size w w' := by
  obtain ⟨l, rfl, hl, hc, hrd, hwf⟩ := w1.rd
  obtain ⟨l2, rfl, hl2, hc2, hrd2, hwf2⟩ := w2.rd
  obtain ⟨u1, u2⟩ := bounds_u64 w0
  obtain ⟨n, rfl⟩ := Int.eq_ofNat_of_zero_le u1
  have hn : n < 18446744073709551616 := by omega
  obtain ⟨q, hq, hqr, hqw⟩ := cut70 hrd hwf
  obtain ⟨ps, hps, hpr, hpw⟩ := cut70 hrd2 hwf2
  have hU : U64s ps := fun j hj => bounds_u64 (hpw j hj)
  have HU := Lib.hid hU
  have HW := Lib.hid wakes_any
  have H := Lib.hid hrd
  have HF := Lib.hid hwf
  have HQ := Lib.hid hqr
  have HP := Lib.hid hpr
  have HC := Lib.hid hc
  unfold maxLen at hc hc2
  have hm1 : ((l.length : Int) ≤ 70 ∧ q.length = l.length) ∨ ((70 : Int) < l.length ∧ q.length = 70) := by omega
  have hm2 : ((l2.length : Int) ≤ 70 ∧ ps.length = l2.length) ∨ ((70 : Int) < l2.length ∧ ps.length = 70) := by omega
  clear hrd hwf hrd2 hwf2 w0 w1 w2 hqr hqw hpr hpw hU hq hps
  rcases hm1 with ⟨h1, h1'⟩ | ⟨h1, h1'⟩
  all_goals rcases hm2 with ⟨h2, h2'⟩ | ⟨h2, h2'⟩
  all_goals
    have H1 := Lib.hid h1'
    have H2 := Lib.hid h2'
    have hq70 : q.length ≤ 70 := by omega
    have hp70 : ps.length ≤ 70 := by omega
    clear h1' h2'
    go_enter Try.func4, Try.ntmps4
    go_wp2_with fail
    go_loopw [25] (fun i wr => ∃ k : Nat, k ≤ 5 ∧ i = .int .u8 k ∧ Below w.heap.size w wr) (fun i _ => 5 - (intOf i).toNat)
    case atStart => exact ⟨0, by omega, rfl, Below.refl _ _⟩
    case round =>
      obtain ⟨k, hk, rfl, hb⟩ := hrel
      by_cases hlt : k < 5
      · go_wp2_with fail
        refine (whole_any k 0 (by omega) a1 cap1 l wr hl HC.out (H.out.below hb (Nat.le_refl _)) HF.out).mono ?_; rintro e w3 ⟨t, b, c, L, rfl, hg, hL, hcc, hrd, hb3⟩
        go_wp2_with fail
        have hL70 : L.length ≤ 70 := by have := (goes_of hg).len; omega
        have hb3' := chain hb (Nat.le_refl _) hb3
        obtain ⟨T0, hb4⟩ := Two.start (t := 22) (a := a1) (cap := cap1) (c := c) hb3' hrd ((HQ.out.below hb3' (Nat.le_refl _))) H1.out hq70 hL70
        have HG := Lib.hid hg
        clear hb hb3 hb3' hrd hg
        go_loopw [42] (fun i wr => ∃ k : Nat, k ≤ 2 ∧ i = .int .i64 k ∧ Two wr w3.heap.size b a1 c _ cap1 L q ∧ Below w.heap.size w wr) (fun i _ => 2 - (intOf i).toNat)
        case atStart => exact ⟨0, by omega, rfl, T0, hb4⟩
        case round =>
          obtain ⟨j, hj, rfl, T, hb⟩ := hrel
          by_cases hj2 : j < 2
          · obtain ⟨x, d, l', hcl, hl', hrx⟩ := T.at_ j hj2
            have hlm : l'.length ≤ maxLen := by unfold maxLen; omega
            have hpm : ps.length ≤ maxLen := by unfold maxLen; omega
            go_wp2_with fail
            refine (Split_any n t x d l' _ hrx hlm hn).mono ?_; rintro e w5 ⟨x5, d5, rfl, hr5, hb5⟩
            have T5 := T.below hb5
            have hrx5 := hrx.below hb5 (Nat.le_refl _)
            have hbb5 := chain hb (Nat.le_refl _) hb5
            clear hb5 T hrx hb hcl
            go_wp2_with fail
            refine (refSplit_any n t x d l' _ hrx5 hlm hn).mono ?_; rintro e w6 ⟨x6, d6, rfl, hr6, hb6⟩
            have T6 := T5.below hb6
            have hrx6 := hrx5.below hb6 (Nat.le_refl _)
            have hr56 := hr5.below hb6 (Nat.le_refl _)
            have hbb6 := chain hbb5 (Nat.le_refl _) hb6
            clear hb6 T5 hrx5 hr5 hbb5
            have hJ := Join_any t a2 x cap2 d ps l' w6 hpm hlm (HP.out.below hbb6 (Nat.le_refl _)) hrx6 HU.out
            rw [H2.out] at hJ
            have HJ := Lib.hid hJ
            clear hJ
            go_wp2_with fail
            refine (HJ.out).mono ?_; rintro e w7 ⟨rfl, hb7⟩
            have T7 := T6.below hb7
            have hrx7 := hrx6.below hb7 (Nat.le_refl _)
            have hr67 := hr6.below hb7 (Nat.le_refl _)
            have hr57 := hr56.below hb7 (Nat.le_refl _)
            have hbb7 := chain hbb6 (Nat.le_refl _) hb7
            clear hb7 T6 hrx6 hr56 hr6 hbb6 HJ
            have hK := refJoin_any t a2 x cap2 d ps l' w7 hlm (HP.out.below hbb7 (Nat.le_refl _)) hrx7 HU.out
            rw [H2.out] at hK
            have HK := Lib.hid hK
            clear hK
            go_wp2_with fail
            refine (HK.out).mono ?_; rintro e w8 ⟨rfl, hb8⟩
            have T8 := T7.below hb8
            have hr68 := hr67.below hb8 (Nat.le_refl _)
            have hr58 := hr57.below hb8 (Nat.le_refl _)
            have hbb8 := chain hbb7 (Nat.le_refl _) hb8
            clear hb8 T7 hrx7 hr57 hr67 hbb7 HK
            have hlen := splitR_len n t l'
            have hE := equal_same x5 x6 d5 d6 (splitR n t l').1 w8 (by unfold maxLen at hlm ⊢; omega) hr58 hr68
            have HE := Lib.hid hE
            clear hE hlen
            go_wp2_with fail
            refine (HE.out).mono ?_; rintro e w9 ⟨rfl, hb9⟩
            have T9 := T8.below hb9
            have hbb9 := chain hbb8 (Nat.le_refl _) hb9
            clear hb9 T8 hr58 hr68 hbb8 HE
            go_wp2_with fail
            go_roundw
            case rel => exact ⟨j + 1, by omega, by go_num, T9, hbb9⟩
            case measure => simp [intOf]; omega
          · obtain rfl : j = 2 := by omega
            go_wp2_with fail
            go_roundw
            case rel => exact ⟨k + 1, by omega, by go_num, hb⟩
            case measure => simp [intOf]; omega
      · obtain rfl : k = 5 := by omega
        go_wp2_with fail
        refine (HW.out _).mono ?_; rintro e w3 ⟨rfl, hb3⟩
        go_wp2_with fail
        go_ret
        exact ⟨rfl, chain hb (Nat.le_refl _) hb3⟩

end Go.Proofs.Ytkalflhepnbppaa
