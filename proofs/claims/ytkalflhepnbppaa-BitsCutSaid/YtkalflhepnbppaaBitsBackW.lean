/- Layer 3's law BitsBack. -/
import Derived.Test.YtkalflhepnbppaaBitsJ
namespace Go.Proofs.Ytkalflhepnbppaa
open Go.ChangeShapes Go.WideShapes Go.ChangeAt Go.RowKit
set_option linter.unusedVariables false

theorem mask_and {n : Nat} {t : Int} (hn : n < 18446744073709551616) (ht : 0 ≤ t ∧ t ≤ 64) : bits .and .u64 (n : Int) (maskV t) = ((n % 2 ^ t.toNat : Nat) : Int) := by
  obtain ⟨m, rfl⟩ := Int.eq_ofNat_of_zero_le ht.1
  rw [u64_and_mask hn (by omega)]
  rfl
theorem join_back {n : Nat} {t : Int} {l : List Int} (hg : goesB t l = true) (hn : n < 2 ^ t.toNat) : joinR (partsL n l) t l = ((n : Int), 0) := by
  have h0 := goes_rst_zero (goes_of hg)
  unfold joinR
  rw [if_pos ⟨hg, partsL_length n l⟩, if_pos (fun j hj => parts_in n l j hj), jn_back n (by rw [h0]; exact hn)]
theorem U64s.parts {n : Nat} {l : List Int} (hn : n < 18446744073709551616) : U64s (partsL n l) := fun j hj => by
  rw [partsL_length] at hj
  rw [partsL_el n l j hj]
  have := part_le n (rst l (j + 1)) (wd l j)
  omega
theorem low64 {n : Nat} {t : Int} (ht : t ≤ 64) (hn : n < 2 ^ t.toNat) : n < 18446744073709551616 :=
  Nat.lt_of_lt_of_le hn (show 2 ^ t.toNat ≤ 2 ^ 64 from Nat.pow_le_pow_right (by decide) (by omega))

set_option maxRecDepth 100000 in
set_option maxHeartbeats 1000000 in
theorem BitsBack_walk (a0 : Int) (a1 : Option Addr) (len1 cap1 : Nat) (z1 : List Int) (a2 : Int) (w : World) (w0 : (Lit.int .u64 a0).wf = true) (w1 : IsRow .i64 w a1 len1 cap1 z1) (w2 : (Lit.int .u8 a2).wf = true) :
    Calls Try.prog 5 #[.int .u64 a0, .slice a1 len1 cap1, .int .u8 a2] w fun e w' => e = .returned (.bool true) ∧ Below w.heap.size w w' := by
  obtain ⟨l, rfl, hl, hc, hrd, hwf⟩ := w1.rd
  obtain ⟨u1, u2⟩ := bounds_u64 w0
  obtain ⟨n, rfl⟩ := Int.eq_ofNat_of_zero_le u1
  have hn : n < 18446744073709551616 := by omega
  have h8 : 0 ≤ a2 ∧ a2 ≤ 255 := by simpa [Lit.wf, IntKind.min, IntKind.max, IntKind.bits, IntKind.signed] using w2
  have HW := Lib.hid wakes_any
  have C := Lib.hid (whole_any a2 0 h8 a1 cap1 l w hl hc hrd hwf)
  clear hrd hwf hc hl w1 w0 w2
  go_enter Try.func5, Try.ntmps5
  go_wp2_with fail
  refine (C.out).mono ?_; rintro e w1 ⟨t, b, c, L, rfl, hg, hL, hcc, hrd, hb1⟩
  have HG := Lib.hid hg
  have G := goes_of hg
  obtain ⟨t1, t2⟩ := G.total
  obtain ⟨l1, l2⟩ := G.len
  have hM := fun w => refMask_any t (wf_i64 (by omega) (by omega)) w
  have HM := Lib.hid hM
  clear hM hg G
  go_wp2_with ((with_reducible refine (HM.out _).mono ?_); rintro e w' ⟨rfl, rfl⟩)
  rw [mask_and hn ⟨by omega, t2⟩]
  obtain ⟨m, Hm, hm64⟩ : ∃ m : Nat, Hid (n % 2 ^ t.toNat = m) ∧ m < 18446744073709551616 := ⟨_, Lib.hid rfl, Nat.lt_of_le_of_lt (Nat.mod_le _ _) hn⟩
  have Hlt : Hid (m < 2 ^ t.toNat) := Lib.hid (by rw [← Hm.out]; exact Nat.mod_lt _ (Nat.pow_pos (by decide)))
  rw [Hm.out]
  refine (Split_ok m t b c L _ hrd HG.out Hlt.out).mono ?_; rintro e w2 ⟨g2, rfl, hr2, hb2⟩
  have hbb2 := chain hb1 (Nat.le_refl _) hb2
  have hrd2 := hrd.below hb2 (Nat.le_refl _)
  have hjb := join_back HG.out Hlt.out
  have hpl := partsL_length m L
  have hJ := Join_any t (some ⟨g2, 0, none⟩) b L.length c (partsL m L) L w2 (by rw [hpl]; unfold maxLen; omega) (by unfold maxLen; omega) (Rd.of_row hr2) hrd2 (U64s.parts hm64)
  rw [hjb, hpl] at hJ
  have HJ := Lib.hid hJ
  clear hJ hjb hpl hb1 hb2 hrd
  go_wp2_with fail
  refine (HJ.out).mono ?_; rintro e w3 ⟨rfl, hb3⟩
  have hrd3 := hrd2.below hb3 (Nat.le_refl _)
  have hr3 := hr2.below hb3 hr2.lt.2
  have hbb3 := chain hbb2 (Nat.le_refl _) hb3
  clear HJ hb3 hr2 hrd2 hbb2
  go_wp2_with fail
  refine (Split_ok m t b c L _ hrd3 HG.out Hlt.out).mono ?_; rintro e w4 ⟨g4, rfl, hr4, hb4⟩
  have hr34 := hr3.below hb4 hr3.lt.2
  have hbb4 := chain hbb3 (Nat.le_refl _) hb4
  clear hb4 hr3 hrd3 hbb3
  go_wp2_with fail
  refine (HW.out _).mono ?_; rintro e w5 ⟨rfl, hb5⟩
  have hpl := partsL_length m L
  have hE := equal_same (some ⟨g4, 0, none⟩) (some ⟨g2, 0, none⟩) L.length L.length (partsL m L) w5 (by rw [hpl]; unfold maxLen; omega) (Rd.of_row (hr4.below hb5 hr4.lt.2)) (Rd.of_row (hr34.below hb5 hr34.lt.2))
  rw [hpl] at hE
  have HE := Lib.hid hE
  have hbb5 := chain hbb4 (Nat.le_refl _) hb5
  clear hpl hE hb5 hbb4 hr4 hr34
  go_wp2_with fail
  refine (HE.out).mono ?_; rintro e w6 ⟨rfl, hb6⟩
  go_wp2_with fail
  go_ret
  exact ⟨rfl, chain hbb5 (Nat.le_refl _) hb6⟩

end Go.Proofs.Ytkalflhepnbppaa
