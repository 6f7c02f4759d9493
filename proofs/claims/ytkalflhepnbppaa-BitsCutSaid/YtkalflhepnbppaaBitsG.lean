/- Contracts of layer 3: a number split, by the document. -/
import Derived.Test.YtkalflhepnbppaaBitsF
namespace Go.Proofs.Ytkalflhepnbppaa
open Go.ChangeShapes Go.WideShapes Go.ChangeAt Go.RowKit
set_option linter.unusedVariables false

theorem refSplit_no (n : Nat) (t : Int) (a : Option Addr) (cap : Nat) (l : List Int) (w : World) (h : Rd .i64 w a l) (hl : l.length ≤ maxLen) (hg : goesB t l = false) :
    Calls Try.prog 15 #[.int .u64 n, .int .i64 t, .slice a l.length cap] w (SplitPost (splitR n t l) w) := by
  have hr : splitR n t l = ([], 2) := by unfold splitR; rw [if_neg (by rw [hg]; decide)]
  have c := refGoes_any t a cap l w hl h
  rw [hg] at c
  have C := Lib.hid c
  have HR := Lib.hid hr
  clear h hg hr c
  go_enter Try.func15, Try.ntmps15
  go_wp2_with (refine C.out.mono ?_; rintro e w1 ⟨rfl, rfl⟩)
  go_ret2
  exact SplitPost.void HR.out (Below.refl _ _)

/-- A bit of a number, as the row of bits has it. -/
theorem bit_el (n i : Nat) (h : i < 64) : el (bitsL n) i = ((n / 2 ^ i % 2 : Nat) : Int) := by
  rw [show el (bitsL n) i = (n : Int) / 2 ^ i % 2 from bitsL_get n i h]; simp
theorem bit_none {n t i : Nat} (hn : n < 2 ^ t) (hi : t ≤ i) : n / 2 ^ i % 2 = 0 := by
  rw [Nat.div_eq_of_lt (Nat.lt_of_lt_of_le hn (Nat.pow_le_pow_right (by decide) hi))]
theorem bit_up {n i : Nat} (h : 2 ^ i ≤ n) (hb : n / 2 ^ i % 2 = 0) : 2 ^ (i + 1) ≤ n := by
  have h1 : 1 ≤ n / 2 ^ i := (Nat.le_div_iff_mul_le (Nat.pow_pos (by decide))).2 (by omega)
  have h2 : 2 ≤ n / 2 ^ i := by omega
  have h3 := (Nat.le_div_iff_mul_le (Nat.pow_pos (by decide))).1 h2
  rw [Nat.pow_succ]
  omega

set_option maxHeartbeats 400000 in
theorem refSplit_far (n : Nat) (t : Int) (a : Option Addr) (cap : Nat) (l : List Int) (w : World) (h : Rd .i64 w a l) (hg : goesB t l = true) (hn : 2 ^ t.toNat ≤ n) (hn64 : n < 18446744073709551616) :
    Calls Try.prog 15 #[.int .u64 n, .int .i64 t, .slice a l.length cap] w (SplitPost (splitR n t l) w) := by
  have hr : splitR n t l = ([], 5) := by unfold splitR; rw [if_pos hg, if_neg (by omega)]
  have G := goes_of hg
  obtain ⟨t1, t2⟩ := G.total
  have hl := G.len.2
  have c := refGoes_any t a cap l w (by unfold maxLen; omega) h
  rw [hg] at c
  have C := Lib.hid c
  have HB := Lib.hid (fun w => refBits_any n ⟨by omega, by omega⟩ w)
  have HR := Lib.hid hr
  have HN := Lib.hid hn
  clear h hg hr c hn G
  go_enter Try.func15, Try.ntmps15
  go_wp2_with fail
  refine C.out.mono ?_; rintro e w1 ⟨rfl, rfl⟩
  go_wp2_with fail
  refine (HB.out _).mono ?_; rintro e w1 ⟨rfl, hr, hb⟩
  go_wp2_with fail
  have HW := Lib.hid hr
  have HBL := Lib.hid hb
  clear hr hb
  go_loop [10] (fun i => ∃ q : Nat, t.toNat ≤ q ∧ q ≤ 64 ∧ i = .int .i64 q ∧ Hid (2 ^ q ≤ n)) (fun i => 64 - (intOf i).toNat)
  case atStart => exact ⟨t.toNat, by omega, by omega, by rw [show ((t.toNat : Nat) : Int) = t from by omega], HN⟩
  case round =>
    obtain ⟨q, hq1, hq2, rfl, HQ⟩ := hrel
    by_cases hlt : q < 64
    · have hc := HW.out.cell (j := q) (by rw [bitsL_length]; exact hlt)
      rw [bit_el n q hlt] at hc
      obtain ⟨y, HY, hy1⟩ : ∃ y, Hid (n / 2 ^ q % 2 = y) ∧ y ≤ 1 := ⟨_, Lib.hid rfl, by omega⟩
      rw [HY.out] at hc
      by_cases h1 : y = 1
      · subst h1
        go_wp2
        go_ret2
        exact SplitPost.void HR.out HBL.out
      · obtain rfl : y = 0 := by omega
        clear h1
        go_wp2
        go_round
        case rel => exact ⟨q + 1, by omega, by omega, by go_num, Lib.hid (bit_up HQ.out HY.out)⟩
        case measure => simp [intOf]; omega
    · obtain rfl : q = 64 := by omega
      exact absurd HQ.out (by omega)

set_option maxHeartbeats 1000000 in
theorem refSplit_ok (n : Nat) (t : Int) (a : Option Addr) (cap : Nat) (l : List Int) (w : World) (h : Rd .i64 w a l) (hg : goesB t l = true) (hn : n < 2 ^ t.toNat) :
    Calls Try.prog 15 #[.int .u64 n, .int .i64 t, .slice a l.length cap] w (SplitPost (splitR n t l) w) := by
  have hr : splitR n t l = (partsL n l, 0) := by unfold splitR; rw [if_pos hg, if_pos hn]
  have G := goes_of hg
  obtain ⟨t1, t2⟩ := G.total
  have hl := G.len.2
  have hn64 : n < 18446744073709551616 := Nat.lt_of_lt_of_le hn (show 2 ^ t.toNat ≤ 2 ^ 64 from Nat.pow_le_pow_right (by decide) (by omega))
  have c := refGoes_any t a cap l w (by unfold maxLen; omega) h
  rw [hg] at c
  have C := Lib.hid c
  have HB := Lib.hid (fun w => refBits_any n ⟨by omega, by omega⟩ w)
  have HP := Lib.hid (fun b d w => refPart_any n b d hn64 w)
  have HR := Lib.hid hr
  have HN := Lib.hid hn
  have H := Lib.hid h
  have HG := Lib.hid G
  clear h hg hr c hn G
  obtain ⟨i0, hi, hz0, hz1, hz2⟩ := info_parts info_u64
  go_enter Try.func15, Try.ntmps15
  go_wp2_with fail
  refine C.out.mono ?_; rintro e w1 ⟨rfl, rfl⟩
  go_wp2_with fail
  refine (HB.out _).mono ?_; rintro e w1 ⟨rfl, hr, hb⟩
  go_wp2_with fail
  have HW := Lib.hid hr
  clear hr
  go_loop [10] (fun i => ∃ q : Nat, t.toNat ≤ q ∧ q ≤ 64 ∧ i = .int .i64 q) (fun i => 64 - (intOf i).toNat)
  case atStart => exact ⟨t.toNat, by omega, by omega, by rw [show ((t.toNat : Nat) : Int) = t from by omega]⟩
  case round =>
    obtain ⟨q, hq1, hq2, rfl⟩ := hrel
    by_cases hlt : q < 64
    · have hc := HW.out.cell (j := q) (by rw [bitsL_length]; exact hlt)
      rw [bit_el n q hlt, bit_none HN.out hq1] at hc
      go_wp2
      go_round
      case rel => exact ⟨q + 1, by omega, by omega, by go_num⟩
      case measure => simp [intOf]; omega
    · obtain rfl : q = 64 := by omega
      go_wp2_with fail
      go_loopw [11, 12, 13] (fun u r i wr => ∃ (k s : Nat) (v : Value), k ≤ l.length ∧ v = u ∧ i = .int .i64 k ∧ r = .int .i64 s ∧ s ≤ 64 ∧ Hid (s = rst l k) ∧ Own 23 .u64 w.heap.size wr v ((partsL n l).take k) ∧ Below w.heap.size w wr) (fun _ _ i _ => l.length - (intOf i).toNat)
      case atStart => exact ⟨0, t.toNat, _, by omega, rfl, rfl, by rw [show ((t.toNat : Nat) : Int) = t from by omega], by omega, Lib.hid (goes_rst_zero HG.out).symm, Own.nil .., hb⟩
      case round =>
        obtain ⟨k, s, u, hk, rfl, rfl, rfl, hs, HS, hown, hbb⟩ := hrel
        by_cases hkl : k < l.length
        · obtain ⟨x, rfl, hx, hc0⟩ := H.out.at_ hkl
          have hc : wr.cell? (x.add k) = some (.int .i64 (el l k)) := by rw [← hc0]; exact hbb.cell (by rw [block_add]; exact hx)
          obtain ⟨y, HY, hy1, hy2⟩ : ∃ y, Hid (y = wd l k) ∧ 1 ≤ y ∧ y ≤ s := ⟨_, Lib.hid rfl, (goes_wd HG.out hkl).2.1, by rw [HS.out, rst_step hkl]; omega⟩
          rw [(goes_wd HG.out hkl).1, ← HY.out] at hc
          clear hc0
          go_wp2_with fail
          have e1 : ((s : Int) - (y : Int)) = ((s - y : Nat) : Int) := by omega
          have e2 : s - y = rst l (k + 1) := by rw [HS.out, HY.out, rst_step hkl]; omega
          rw [e1]
          clear e1
          refine (HP.out _ _ _).mono ?_; rintro e w3 ⟨rfl, hb3⟩
          obtain ⟨z, hz⟩ : ∃ z, z = partV n ((s - y : Nat) : Int) y := ⟨_, rfl⟩
          have e3 : z = part n (rst l (k + 1)) (wd l k) := by
            rw [hz, e2, HY.out, partV_in (goes_rst_lt HG.out hkl).2.1 (goes_wd HG.out hkl).2.1 (goes_wd HG.out hkl).2.2]
          rw [← hz]
          have H3 := Lib.hid e3
          have H2 := Lib.hid e2
          clear hz e3 e2
          have hown3 := hown.below hb3 (Nat.le_refl _)
          have hb4 := chain hbb (Nat.le_refl _) hb3
          have hlen : ((partsL n l).take k).length = k := by rw [List.length_take, partsL_length]; omega
          have h1 : ((partsL n l).take k).length + 1 ≤ maxLen := by unfold maxLen; omega
          have h2 : (((partsL n l).take k).length + 1) * 8 ≤ 140737488355328 := by omega
          have h3 := hb4.size
          have HO := Lib.hid hown3
          clear hown hown3 hlen hb3 hbb
          go_wp2_with (at_builtin; refine append_own1 rfl _ _ 35 rfl w.heap.size 23 i0 (.int .u64 0) 8 Try.underlying35 hi hz0 hz1 hz2 rfl .u64 u _ _ rfl HO.out _ rfl h1 h2 h3 ?_; intro v' w4 hown4 hb5)
          go_roundw
          case rel =>
            refine ⟨k + 1, s - y, _, by omega, rfl, by go_num, rfl, by omega, H2, ?_, hb4.trans hb5⟩
            rw [partsL_take n l k hkl, ← H3.out]
            exact hown4
          case measure => simp [intOf]; omega
        · obtain rfl : k = l.length := by omega
          go_wp2_with fail
          go_ret2
          rw [List.take_of_length_le (by rw [partsL_length]; exact Nat.le_refl _)] at hown
          obtain ⟨a', c', hv⟩ := hown.shape
          subst hv
          rw [HR.out]
          exact ⟨a', c', rfl, Rd.of_own hown, hbb⟩

/-- A number split, by the document. -/
theorem refSplit_any (n : Nat) (t : Int) (a : Option Addr) (cap : Nat) (l : List Int) (w : World) (h : Rd .i64 w a l) (hl : l.length ≤ maxLen) (hn64 : n < 18446744073709551616) :
    Calls Try.prog 15 #[.int .u64 n, .int .i64 t, .slice a l.length cap] w (SplitPost (splitR n t l) w) := by
  by_cases hg : goesB t l = true
  · by_cases hn : n < 2 ^ t.toNat
    · exact refSplit_ok n t a cap l w h hg hn
    · exact refSplit_far n t a cap l w h hg (by omega) hn64
  · exact refSplit_no n t a cap l w h hl (by simpa using hg)

end Go.Proofs.Ytkalflhepnbppaa
