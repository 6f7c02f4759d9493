/- Layer 3's law BitsCut. -/
import Derived.Test.YtkalflhepnbppaaBitsOneW
import Derived.Test.YtkalflhepnbppaaCutP
import Derived.Test.YtkalflhepnbppaaApp
import Derived.IntWalk
namespace Go.Proofs.Ytkalflhepnbppaa
open Go.ChangeShapes Go.WideShapes Go.ChangeAt Go.RowKit
set_option linter.unusedVariables false

theorem cutS {W w' : World} {x : Addr} {k : Nat} {v : Value} {L : List Int} (h : w'.cell? (x.add k) = some v ∧ Below W.heap.size W w') (hr : Rd .i64 W (some x) L) : Src .i64 w' x L :=
  Src.of_rd (hr.below h.2 (Nat.le_refl _))
theorem srcDrew {k : IntKind} {w : World} {x : Addr} {l : List Int} (h : Src k w x l) : Src k w.drew x l := h
theorem srcAt {k : IntKind} {w : World} {g n : Nat} {l : List Int} (h : Src k w ((⟨g, 0, none⟩ : Addr).add n) l) : Src k w ⟨g, n, none⟩ l := by
  rw [show (⟨g, 0, none⟩ : Addr).add n = ⟨g, n, none⟩ from by unfold Addr.add; split <;> simp_all] at h
  exact h
theorem cutV {W w' : World} {g k : Nat} {v v' : Value} {l : List Int} (hg : g < W.heap.size) (h : w'.cell? ⟨g, k, none⟩ = some v ∧ w'.cell? ⟨g, k + 1, none⟩ = some v' ∧ Below W.heap.size W w') (hs : Src .u64 W ⟨g, 0, none⟩ l) : Src .u64 w' ⟨g, 0, none⟩ l :=
  hs.below (.inr hg) h.2.2
theorem cutY {W w' : World} {g k : Nat} {v v' : Value} (h : w'.cell? ⟨g, k, none⟩ = some v ∧ w'.cell? ⟨g, k + 1, none⟩ = some v' ∧ Below W.heap.size W w') : W.heap.size ≤ w'.heap.size := h.2.2.size
theorem cutV_alloc {W w' : World} {g k : Nat} {v v' : Value} (hg : g < W.heap.size) (h : w'.cell? ⟨g, k, none⟩ = some v ∧ w'.cell? ⟨g, k + 1, none⟩ = some v' ∧ Below W.heap.size W w') (o : Obj) :
    (w'.alloc o).cell? ⟨g, k, none⟩ = some v ∧ (w'.alloc o).cell? ⟨g, k + 1, none⟩ = some v' ∧ Below W.heap.size W (w'.alloc o) := by
  have hs := h.2.2.size
  exact ⟨by rw [World.cell?_alloc_lt _ _ _ (show g < _ by omega)]; exact h.1, by rw [World.cell?_alloc_lt _ _ _ (show g < _ by omega)]; exact h.2.1, h.2.2.alloc hs o⟩
theorem cutV_app {W w1 w2 : World} {g k : Nat} {v v' : Value} (hg : g < W.heap.size) (h : w1.cell? ⟨g, k, none⟩ = some v ∧ w1.cell? ⟨g, k + 1, none⟩ = some v' ∧ Below W.heap.size W w1) (hb : Below W.heap.size w1 w2) :
    w2.cell? ⟨g, k, none⟩ = some v ∧ w2.cell? ⟨g, k + 1, none⟩ = some v' ∧ Below W.heap.size W w2 :=
  ⟨(hb.cell hg).trans h.1, (hb.cell hg).trans h.2.1, h.2.2.trans hb⟩
theorem cutZ {W w' : World} {x : Addr} {k : Nat} {v : Value} (h : w'.cell? (x.add k) = some v ∧ Below W.heap.size W w') : W.heap.size ≤ w'.heap.size := h.2.size
theorem cutK_alloc {W w' : World} {x : Addr} {k : Nat} {v : Value} (hx : x.block < W.heap.size) (h : w'.cell? (x.add k) = some v ∧ Below W.heap.size W w') (o : Obj) :
    (w'.alloc o).cell? (x.add k) = some v ∧ Below W.heap.size W (w'.alloc o) :=
  ⟨by rw [World.cell?_alloc_lt _ _ _ (by rw [block_add]; have := h.2.size; omega)]; exact h.1, h.2.alloc h.2.size o⟩
theorem cutK_app {W w1 w2 : World} {x : Addr} {k : Nat} {v : Value} (hx : x.block < W.heap.size) (h : w1.cell? (x.add k) = some v ∧ Below W.heap.size W w1) (hb : Below W.heap.size w1 w2) :
    w2.cell? (x.add k) = some v ∧ Below W.heap.size W w2 :=
  ⟨(hb.cell (by rw [block_add]; exact hx)).trans h.1, h.2.trans hb⟩

set_option maxRecDepth 100000 in
set_option maxHeartbeats 8000000 in
theorem BitsCut_walk (a0 : Int) (a1 : Option Addr) (len1 cap1 : Nat) (z1 : List Int) (x2a x2b x2c : Int) (w : World) (w0 : (Lit.int .u64 a0).wf = true) (w1 : IsRow .i64 w a1 len1 cap1 z1) (w2a : (Lit.int .u8 x2a).wf = true) (w2b : (Lit.int .u8 x2b).wf = true) (w2c : (Lit.int .u8 x2c).wf = true) :
    Calls Try.prog 7 #[.int .u64 a0, .slice a1 len1 cap1, .agg #[.int .u8 x2a, .int .u8 x2b, .int .u8 x2c]] w fun e w' => e = .returned (.bool true) ∧ Below w.heap.size w w' := by
  obtain ⟨l, rfl, hl, hc, hrd, hwf⟩ := w1.rd
  obtain ⟨u1, u2⟩ := bounds_u64 w0
  obtain ⟨n, rfl⟩ := Int.eq_ofNat_of_zero_le u1
  have hn : n < 18446744073709551616 := by omega
  have h8a : 0 ≤ x2a ∧ x2a ≤ 255 := by simpa [Lit.wf, IntKind.min, IntKind.max, IntKind.bits, IntKind.signed] using w2a
  have h8b : 0 ≤ x2b ∧ x2b ≤ 255 := by simpa [Lit.wf, IntKind.min, IntKind.max, IntKind.bits, IntKind.signed] using w2b
  have h8c : 0 ≤ x2c ∧ x2c ≤ 255 := by simpa [Lit.wf, IntKind.min, IntKind.max, IntKind.bits, IntKind.signed] using w2c
  obtain ⟨xb, rfl⟩ := Int.eq_ofNat_of_zero_le h8b.1
  obtain ⟨xc, rfl⟩ := Int.eq_ofNat_of_zero_le h8c.1
  have hxb : xb ≤ 255 := by omega
  have hxc : xc ≤ 255 := by omega
  have HW := Lib.hid wakes_any
  have hb0 := (Below.refl w.heap.size w).alloc (Nat.le_refl _) (.cells #[.int .u8 x2a, .int .u8 xb, .int .u8 xc] 51)
  have C := Lib.hid (whole_any x2a 0 h8a a1 cap1 l (w.alloc (.cells #[.int .u8 x2a, .int .u8 xb, .int .u8 xc] 51)) hl hc (hrd.alloc _) hwf)
  clear hrd hwf hc hl w1 w0 w2a w2b w2c h8b h8c
  go_enter Try.func7, Try.ntmps7
  go_wp2_with fail
  refine (C.out).mono ?_; rintro e w1 ⟨t, b, c, L, rfl, hg, hL, hcc, hrd, hb1⟩
  have HG := Lib.hid hg
  have G := goes_of hg
  obtain ⟨t1, t2⟩ := G.total
  obtain ⟨l1, l2⟩ := G.len
  have hM1 := fun w => refMask_any t (wf_i64 (by omega) (by omega)) w
  have HM1 := Lib.hid hM1
  have ax1 := arr_cells hb1
  have bb1 := chain hb0 (by simp) hb1
  have hgw : w.heap.size < w1.heap.size := ax1.2.2
  have axx := id ax1
  obtain ⟨ax11, ax12, _⟩ := axx
  clear hM1 hg G hb0 hb1 C
  go_wp2_with ((with_reducible refine (HM1.out _).mono ?_); rintro e w' ⟨rfl, rfl⟩)
  rw [mask_and hn ⟨by omega, t2⟩]
  obtain ⟨m, Hm, hm64⟩ : ∃ m : Nat, Hid (n % 2 ^ t.toNat = m) ∧ m < 18446744073709551616 := ⟨_, Lib.hid rfl, Nat.lt_of_le_of_lt (Nat.mod_le _ _) hn⟩
  have Hlt : Hid (m < 2 ^ t.toNat) := Lib.hid (by rw [← Hm.out]; exact Nat.mod_lt _ (Nat.pow_pos (by decide)))
  rw [Hm.out]
  obtain ⟨k, Hk, hk⟩ : ∃ k : Nat, Hid ((xb : Int) % (L.length : Int) = (k : Int)) ∧ k < L.length :=
    ⟨xb % L.length, Lib.hid (by simp), Nat.mod_lt _ (by omega)⟩
  rw [Hk.out]
  obtain ⟨x, rfl, hx, hcw⟩ := hrd.at_ hk
  refine (Split_ok m t (some x) c L _ hrd HG.out Hlt.out).mono ?_; rintro e w2 ⟨g2, rfl, hr2, c2⟩
  clear ax11 ax12
  go_wp2_with fail
  refine (HW.out _).mono ?_; rintro e w4 ⟨rfl, hb4⟩
  have c4 := chain c2 (Nat.le_refl _) hb4
  have hr4 := hr2.below hb4 hr2.lt.2
  have hg0 : w1.heap.size ≤ g2 := hr2.lt.1
  obtain ⟨ax41, ax42, ax43⟩ := ax1.below c4
  obtain ⟨d, HD, hd1, hd2⟩ : ∃ d : Nat, Hid (wd L k = d) ∧ 1 ≤ d ∧ d ≤ 64 := ⟨_, Lib.hid rfl, (goes_wd (goes_of HG.out) hk).2⟩
  have hcw4 := (c4.cell (p := x.add k) (by rw [block_add]; exact hx)).trans hcw
  rw [(goes_wd (goes_of HG.out) hk).1, HD.out] at hcw4
  clear hb4 c2 hr2 hcw
  by_cases hd : d < 2
  · go_wp2_with fail
    go_ret
    exact ⟨rfl, chain bb1 (Nat.le_refl _) c4⟩
  · have hd' : 2 ≤ d := by omega
    clear hd
    go_wp2_with fail
    obtain ⟨d1, hd1e, hd11⟩ : ∃ d1 : Nat, d = d1 + 1 ∧ 1 ≤ d1 := ⟨d - 1, by omega, by omega⟩
    subst hd1e
    have e1 : (((d1 + 1 : Nat) : Int) - 1) = (d1 : Int) := by omega
    have e2 : IntKind.i64.wrap (((d1 + 1 : Nat) : Int) - 1) = (d1 : Int) := by rw [e1]; exact IntWalk.i64_in _ (by omega)
    obtain ⟨lo, Hlo, hlo1, hlo2⟩ : ∃ lo : Nat, Hid (1 + (xc : Int) % (d1 : Int) = (lo : Int)) ∧ 1 ≤ lo ∧ lo ≤ d1 :=
      ⟨1 + xc % d1, Lib.hid (by simp), by omega, by have := Nat.mod_lt xc (show 0 < d1 by omega); omega⟩
    have E2 := Lib.hid e2
    clear e1 e2
    go_quiet (fail)
    have e3 : wrap64 (1 + (xc : Int) % (d1 : Int)) = (lo : Int) := by
      rw [Hlo.out]; exact IntWalk.wrap64_in _ (by omega)
    rw [e3]
    clear e3
    have c5 := below_drewN c4 nq
    have hr5 := hr4.drewN nq
    have hcw5 : (w4.drewN nq).cell? (x.add k) = some (.int .i64 ((d1 + 1 : Nat) : Int)) := hcw4
    generalize w4.drewN nq = W at c5 hr5 hcw5 ⊢
    clear c4 hr4 hcw4 ax41 ax42 ax43 ax1 E2
    obtain ⟨yy, Hyy, hyy1, hyy2⟩ : ∃ yy : Nat, Hid (d1 + 1 = yy + lo) ∧ 1 ≤ yy ∧ yy ≤ 64 := ⟨d1 + 1 - lo, Lib.hid (by omega), by omega, by omega⟩
    obtain ⟨dd, Hdd⟩ : ∃ dd : Nat, Hid (d1 + 1 = dd) := ⟨_, Lib.hid rfl⟩
    rw [Hdd.out] at hcw5
    have i8 : IntKind.i64.wrap ((dd : Int) - (lo : Int)) = (yy : Int) := by
      rw [← Hdd.out, Hyy.out, show (((yy + lo : Nat) : Int) - (lo : Int)) = (yy : Int) from by omega]; exact (IntWalk.i64_in (yy : Int) (by omega))
    have hkc : k + 1 ≤ c := by omega
    have hc62 : c ≤ 9223372036854775807 := by unfold maxLen at hcc; omega
    have i1 : (0 : Int) ≤ (k : Int) := by omega
    have i2 : (k : Int) ≤ (c : Int) := by omega
    have i2' : (k : Int) ≤ (k : Int) + 1 := by omega
    have i3 : IntKind.i64.wrap ((k : Int) + 1) = (k : Int) + 1 := IntWalk.i64_in _ (by omega)
    have i4 : (0 : Int) ≤ (k : Int) + 1 := by omega
    have i5 : (k : Int) + 1 ≤ (L.length : Int) := by omega
    have i6 : ((k : Int) + 1).toNat = k + 1 := by omega
    have i7 : (k : Int) < (L.length : Int) := by omega
    have hxW : x.block < W.heap.size := by have := c5.size; omega
    have hrdW : Rd .i64 W (some x) L := hrd.below c5 (Nat.le_refl _)
    have HRW := Lib.hid hrdW
    have ht1 : (L.take k).length = k := by rw [List.length_take]; omega
    have ht2 : (L.drop (k + 1)).length = L.length - (k + 1) := by rw [List.length_drop]
    have HT1 := Lib.hid ht1
    have HT2 := Lib.hid ht2
    have HCC := Lib.hid hcc
    clear hrdW ht1 ht2 hcc hc62
    obtain ⟨j0, hi, hz0, hz1, hz2⟩ := info_parts info_int
    have hcase : (c = k + 1 ∧ L.length = k + 1) ∨ (¬ c = k + 1 ∧ L.length = k + 1) ∨ (¬ c = k + 1 ∧ ¬ L.length = k + 1) := by omega
    rcases hcase with ⟨hck, hlk⟩ | ⟨hck, hlk⟩ | ⟨hck, hlk⟩
    all_goals
      have HLK := Lib.hid hlk
      clear hlk
      try subst hck
    all_goals go_wp2_with fail
    all_goals
      go_region_held3 (fun w' => w'.cell? (x.add k) = some (.int .i64 (dd : Int)) ∧ Below W.heap.size W w')
        (first | exact ⟨hcw5, below_drew (Below.refl _ _)⟩ | exact cutK_alloc hxW (by assumption) _ | exact cutK_app hxW (by assumption) (by assumption) | go_keep)
        (first
          | (refine step_app _ (by rfl) (.const (.slice none 0 0)) (.tmp 71) 22 (by rfl) W.heap.size 3 j0 (.int .i64 0) 8 Try.underlying22 hi hz0 hz1 hz2 rfl .i64 (.slice none 0 0) [] (by rfl) (Own.nil ..) x k _ (L.take k) (by rfl) HT1.out.symm ((cutS (by assumption) HRW.out).take k) (by rw [HT1.out]; unfold maxLen; simp; omega) (by rw [HT1.out]; simp; omega) (by simp) ?_; intro v1 w1' ho1 hbb1 hf1)
          | (refine step_app _ (by rfl) (.tmp 72) (.tmp 80) 22 (by rfl) W.heap.size 3 j0 (.int .i64 0) 8 Try.underlying22 hi hz0 hz1 hz2 rfl .i64 v1 ([] ++ L.take k) (by rfl) (by first | exact ho1 | exact ho1.alloc _) _ 2 2 [(yy : Int), (lo : Int)] (by rfl) rfl (by first | exact Src.lit [(yy : Int), (lo : Int)] rfl | exact (srcDrew (Src.lit [(yy : Int), (lo : Int)] rfl)).below (.inr (by simp)) (hf1 rfl)) (by simp only [List.nil_append, HT1.out]; unfold maxLen; simp; omega) (by simp only [List.nil_append, HT1.out]; simp; omega) (cutZ (by assumption)) ?_; intro v2 w2' ho2 hbb2 hf2)
          | (refine step_app _ (by rfl) (.tmp 81) (.tmp 85) 22 (by rfl) W.heap.size 3 j0 (.int .i64 0) 8 Try.underlying22 hi hz0 hz1 hz2 rfl .i64 v2 ([] ++ L.take k ++ [(yy : Int), (lo : Int)]) (by rfl) ho2 _ _ _ (L.drop (k + 1)) (by rfl) (by rw [HT2.out]; try (have := HLK.out; omega)) (by first | exact Src.void (by rw [HT2.out]; have := HLK.out; omega) | exact (cutS (by assumption) HRW.out).drop (k + 1)) (by rw [HT2.out]; simp only [List.nil_append, List.length_append, HT1.out]; unfold maxLen; simp; omega) (by rw [HT2.out]; simp only [List.nil_append, List.length_append, HT1.out]; simp; omega) (cutZ (by assumption)) ?_; intro v3 w3' ho3 hbb3 hf3))
    all_goals
      rename_i hHeld
      have bW := hHeld.2
      rw [List.nil_append] at ho3
      have hC : Own 3 .i64 W.heap.size w3' v3 (cutL L k yy lo) := ho3
      obtain ⟨a', c', rfl⟩ := hC.shape
      have hr6 := hr5.below bW hr5.lt.2
      have c6 := chain c5 (Nat.le_refl _) bW
      clear hHeld ho1 ho2 ho3 hbb1 hbb2 hbb3 hf1 hf2 hf3 hr5 hcw5 i1 i2 i3 i4 i5 i6 i7 i8
      have hCl : (cutL L k yy lo).length = L.length + 1 := cutL_length hk _ _
      have hel : el L k = (yy : Int) + (lo : Int) := by rw [(goes_wd (goes_of HG.out) hk).1, HD.out, Hyy.out]; simp
      have hCg : goesB t (cutL L k yy lo) = true := goesB_true (cutL_goes (goes_of HG.out) hk (by omega) (by omega) hel)
      have HEL := Lib.hid hel
      have HCL := Lib.hid hCl
      have HCG := Lib.hid hCg
      clear hel hCl hCg
      go_wp2_with fail
      refine (Split_ok m t a' c' (cutL L k yy lo) _ (Rd.of_own hC) HCG.out Hlt.out).mono ?_; rintro e w7 ⟨gb, rfl, hrb, hb7⟩
      have c7 := chain c6 (Nat.le_refl _) hb7
      have hr7 := hr6.below hb7 hr6.lt.2
      have hgb := hrb.lt.2
      rw [HCL.out]
      clear hb7 c6 hr6 hC bW
      go_wp2_with fail
      obtain ⟨cr1, cr2⟩ := cutL_rst hk (x := (yy : Int)) (y := (lo : Int)) (by omega) (by omega) HEL.out
      have hq0 := hrb.cell (j := k) (by rw [partsL_length, HCL.out]; omega)
      have hq1 := hrb.cell (j := k + 1) (by rw [partsL_length, HCL.out]; omega)
      rw [partsL_el _ _ _ (by rw [HCL.out]; omega), cr1, cutL_wd hk, if_neg (by omega), if_pos rfl, Int.toNat_natCast, Int.toNat_natCast] at hq0
      rw [partsL_el _ _ _ (by rw [HCL.out]; omega), cutL_rst_hi hk _ _ _ (by omega), cutL_wd hk, if_neg (by omega), if_neg (by omega), if_pos rfl, Int.toNat_natCast, show k + 1 + 1 - 1 = k + 1 from by omega] at hq1
      obtain ⟨p1, HP1, hp1⟩ : ∃ p1 : Nat, Hid (part m (lo + rst L (k + 1)) yy = p1) ∧ p1 < 18446744073709551616 := ⟨_, Lib.hid rfl, Nat.lt_of_le_of_lt (part_le _ _ _) hm64⟩
      obtain ⟨p2, HP2, hp2⟩ : ∃ p2 : Nat, Hid (part m (rst L (k + 1)) lo = p2) ∧ p2 < 18446744073709551616 := ⟨_, Lib.hid rfl, Nat.lt_of_le_of_lt (part_le _ _ _) hm64⟩
      rw [HP1.out] at hq0
      rw [HP2.out] at hq1
      have hyl : yy + lo ≤ 64 := by rw [← Hyy.out]; omega
      have hpl : p1 * 2 ^ lo < 18446744073709551616 := by
        have h1 : p1 * 2 ^ lo < 2 ^ yy * 2 ^ lo := Nat.mul_lt_mul_of_pos_right (by rw [← HP1.out]; exact part_lt _ _ _) (Nat.pow_pos (by decide))
        rw [← Nat.pow_add] at h1
        exact Nat.lt_of_lt_of_le h1 (show 2 ^ (yy + lo) ≤ 2 ^ 64 from Nat.pow_le_pow_right (by decide) hyl)
      obtain ⟨zN, HZN⟩ : ∃ zN : Nat, Hid (p1 * 2 ^ lo ||| p2 = zN) := ⟨_, Lib.hid rfl⟩
      have hzz : bits .or .u64 (IntKind.u64.wrap ((p1 : Int) * 2 ^ lo)) (p2 : Int) = (zN : Int) := by
        rw [show (p1 : Int) * 2 ^ lo = ((p1 * 2 ^ lo : Nat) : Int) from by simp, show IntKind.u64.wrap ((p1 * 2 ^ lo : Nat) : Int) = ((p1 * 2 ^ lo : Nat) : Int) from by rw [IntKind.wrap_u64]; omega, bits_or_u64_nat _ _ hpl hp2, HZN.out]
      have hlo63 : lo ≤ 63 := by omega
      have hcp := cut_parts m hk (x := (yy : Int)) (y := (lo : Int)) (by omega) (by omega) HEL.out (zN : Int) (by rw [Int.toNat_natCast, Int.toNat_natCast, HP1.out, HP2.out, HZN.out])
      have HCP := Lib.hid hcp
      have hsb : Src .u64 w7 ⟨gb, 0, none⟩ (partsL m (cutL L k yy lo)) := Src.of_rd (Rd.of_row hrb)
      have HSB := Lib.hid hsb
      have hbl : (partsL m (cutL L k yy lo)).length = L.length + 1 := by rw [partsL_length, HCL.out]
      have ht3 : ((partsL m (cutL L k yy lo)).take k).length = k := by rw [List.length_take, hbl]; omega
      have ht4 : ((partsL m (cutL L k yy lo)).drop (k + 2)).length = L.length - (k + 1) := by rw [List.length_drop, hbl]; omega
      have HT3 := Lib.hid ht3
      have HT4 := Lib.hid ht4
      obtain ⟨NN, HNN⟩ : ∃ NN, Hid (L.length + 1 = NN) := ⟨_, Lib.hid rfl⟩
      rw [HNN.out]
      have hNN : k + 2 ≤ NN ∧ NN ≤ 65 := by have := HNN.out; omega
      clear cr1 cr2 hcp hsb hbl ht3 ht4 hpl hp1 hp2 hyl hrb HM1
      obtain ⟨j7, hi', hz0', hz1', hz2'⟩ := info_parts info_u64
      have i1 : (0 : Int) ≤ (k : Int) := by omega
      have i2 : (k : Int) ≤ (NN : Int) := by omega
      have i3 : (k : Int) < (NN : Int) := by omega
      have i4 : IntKind.i64.wrap ((k : Int) + 1) = (k : Int) + 1 := IntWalk.i64_in _ (by omega)
      have i5 : (0 : Int) ≤ (k : Int) + 1 := by omega
      have i6 : (k : Int) + 1 < (NN : Int) := by omega
      have i7 : ((k : Int) + 1).toNat = k + 1 := by omega
      have i8 : IntKind.i64.wrap ((k : Int) + 2) = (k : Int) + 2 := IntWalk.i64_in _ (by omega)
      have i9 : (0 : Int) ≤ (k : Int) + 2 := by omega
      have i10 : (k : Int) + 2 ≤ (NN : Int) := by omega
      have i11 : ((k : Int) + 2).toNat = k + 2 := by omega
      have i12 : (k : Int) ≤ (k : Int) + 2 := by omega
      have i13 : (k : Int) < (k : Int) + 2 := by omega
      have i14 : (k : Int) + 1 < (k : Int) + 2 := by omega
      have hNk : NN = k + 2 ∨ ¬ NN = k + 2 := by omega
      rcases hNk with hNk | hNk
      all_goals first
        | (exfalso; have h1 := HLK.out; have h2 := HNN.out; omega)
        | skip
      all_goals try subst hNk
    all_goals
      go_region_held3 (fun w' => w'.cell? ⟨gb, k, none⟩ = some (.int .u64 (p1 : Int)) ∧ w'.cell? ⟨gb, k + 1, none⟩ = some (.int .u64 (p2 : Int)) ∧ Below w7.heap.size w7 w')
        (first | exact ⟨hq0, hq1, below_drew (Below.refl _ _)⟩ | exact cutV_alloc hgb (by assumption) _ | exact cutV_app hgb (by assumption) (by assumption) | go_keep)
        (first
          | (refine step_app _ (by rfl) (.const (.slice none 0 0)) (.tmp 106) 35 (by rfl) w7.heap.size 23 j7 (.int .u64 0) 8 Try.underlying35 hi' hz0' hz1' hz2' rfl .u64 (.slice none 0 0) [] (by rfl) (Own.nil ..) ⟨gb, 0, none⟩ k _ ((partsL m (cutL L k yy lo)).take k) (by rfl) HT3.out.symm ((cutV hgb (by assumption) HSB.out).take k) (by rw [HT3.out]; unfold maxLen; simp; omega) (by rw [HT3.out]; simp; omega) (cutY (by assumption)) ?_; intro v4 w4' ho4 hbb4 hf4)
          | (refine step_app _ (by rfl) (.tmp 107) (.tmp 120) 35 (by rfl) w7.heap.size 23 j7 (.int .u64 0) 8 Try.underlying35 hi' hz0' hz1' hz2' rfl .u64 v4 ([] ++ (partsL m (cutL L k yy lo)).take k) (by rfl) (by first | exact ho4 | exact ho4.alloc _) _ 1 1 [(zN : Int)] (by rfl) rfl (by first | exact Src.lit [(zN : Int)] rfl | exact (srcDrew (Src.lit [(zN : Int)] rfl)).below (.inr (by simp)) (hf4 rfl)) (by simp only [List.nil_append, HT3.out]; unfold maxLen; simp; omega) (by simp only [List.nil_append, HT3.out]; simp; omega) (cutY (by assumption)) ?_; intro v5 w5' ho5 hbb5 hf5)
          | (refine step_app _ (by rfl) (.tmp 121) (.tmp 125) 35 (by rfl) w7.heap.size 23 j7 (.int .u64 0) 8 Try.underlying35 hi' hz0' hz1' hz2' rfl .u64 v5 ([] ++ (partsL m (cutL L k yy lo)).take k ++ [(zN : Int)]) (by rfl) ho5 _ _ _ ((partsL m (cutL L k yy lo)).drop (k + 2)) (by rfl) (by rw [HT4.out]; have := HNN.out; omega) (by first | exact Src.void (by rw [HT4.out]; have := HNN.out; omega) | exact srcAt ((cutV hgb (by assumption) HSB.out).drop (k + 2))) (by rw [HT4.out]; simp only [List.nil_append, List.length_append, HT3.out]; unfold maxLen; simp; omega) (by rw [HT4.out]; simp only [List.nil_append, List.length_append, HT3.out]; simp; omega) (cutY (by assumption)) ?_; intro v6 w6' ho6 hbb6 hf6))
    all_goals
      rename_i hHeld2
      have b8 := hHeld2.2.2
      rw [List.nil_append, HCP.out] at ho6
      obtain ⟨a9, c9, rfl⟩ := ho6.shape
      have hpm := partsL_length m L
      have hE := equal_same a9 (some ⟨g2, 0, none⟩) c9 L.length (partsL m L) w6' (by rw [hpm]; unfold maxLen; omega) (Rd.of_own ho6) (Rd.of_row (hr7.below b8 hr7.lt.2))
      rw [hpm] at hE
      have HE := Lib.hid hE
      rw [hpm]
      have c8 := chain c7 (Nat.le_refl _) b8
      clear hE hpm ho4 ho5 ho6 hbb4 hbb5 hbb6 hf4 hf5 hf6 hHeld2 b8 hq0 hq1 hzz i1 i2 i3 i4 i5 i6 i7 i8 i9 i10 i11 i12 i13 i14
      go_wp2_with fail
      refine HE.out.mono ?_; rintro e w10 ⟨rfl, hb10⟩
      go_wp2_with fail
      go_ret
      exact ⟨rfl, chain bb1 (Nat.le_refl _) (chain c8 (Nat.le_refl _) hb10)⟩

end Go.Proofs.Ytkalflhepnbppaa
