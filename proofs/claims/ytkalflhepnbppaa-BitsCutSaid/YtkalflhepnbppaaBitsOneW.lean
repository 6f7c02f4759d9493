/- Layer 3's law BitsOne. -/
import Derived.Test.YtkalflhepnbppaaBitsJ
import Derived.Test.YtkalflhepnbppaaOneP
import Derived.Test.YtkalflhepnbppaaArr3
import Derived.Test.YtkalflhepnbppaaBitsBackW
import Derived.Test.YtkalflhepnbppaaBitsLayW
namespace Go.Proofs.Ytkalflhepnbppaa
open Go.ChangeShapes Go.WideShapes Go.ChangeAt Go.RowKit
set_option linter.unusedVariables false

/-- The array that came in, as the call has boxed it. -/
def Arr (w w1 : World) (x y : Nat) : Prop := w1.cell? ⟨w.heap.size, 1, none⟩ = some (.int .u8 x) ∧ w1.cell? ⟨w.heap.size, 2, none⟩ = some (.int .u8 y) ∧ w.heap.size < w1.heap.size
theorem arr_cells {w w1 : World} {v : Value} {x y : Nat} {t : TypeId} (h : Below (w.alloc (.cells #[v, .int .u8 x, .int .u8 y] t)).heap.size (w.alloc (.cells #[v, .int .u8 x, .int .u8 y] t)) w1) : Arr w w1 x y := by
  have hs := h.size
  simp at hs
  refine ⟨(h.cell (by simp)).trans ?_, (h.cell (by simp)).trans ?_, by omega⟩
  all_goals
    rw [cell_of_row _ _ _ _ _ (0, 0) (heap_alloc_new w _)]
    rfl
theorem Arr.below {w w1 w2 : World} {x y : Nat} (h : Arr w w1 x y) (hb : Below w1.heap.size w1 w2) : Arr w w2 x y :=
  ⟨(hb.cell h.2.2).trans h.1, (hb.cell h.2.2).trans h.2.1, Nat.lt_of_lt_of_le h.2.2 hb.size⟩

theorem oneS_keep {w1 w2 w3 : World} {f e p g : Nat} {L : List Int} (hb : Below w2.heap.size w2 w3) (h0 : w2.cell? ⟨p, 0, none⟩ = some (.int .i64 f)) (h1 : w2.cell? ⟨p, 1, none⟩ = some (.int .i64 e)) (h2 : p < w2.heap.size) (h3 : FRow g w2 g L L.length) (h4 : Below w1.heap.size w1 w2) :
    w3.cell? ⟨p, 0, none⟩ = some (.int .i64 f) ∧ w3.cell? ⟨p, 1, none⟩ = some (.int .i64 e) ∧ p < w3.heap.size ∧ FRow g w3 g L L.length ∧ Below w1.heap.size w1 w3 :=
  ⟨(hb.cell h2).trans h0, (hb.cell h2).trans h1, Nat.lt_of_lt_of_le h2 hb.size, h3.below hb h3.lt.2, chain h4 (Nat.le_refl _) hb⟩

set_option maxRecDepth 100000 in
set_option maxHeartbeats 2000000 in
theorem BitsOne_walk (a0 : Int) (a1 : Option Addr) (len1 cap1 : Nat) (z1 : List Int) (x2a x2b x2c : Int) (w : World) (w0 : (Lit.int .u64 a0).wf = true) (w1 : IsRow .i64 w a1 len1 cap1 z1) (w2a : (Lit.int .u8 x2a).wf = true) (w2b : (Lit.int .u8 x2b).wf = true) (w2c : (Lit.int .u8 x2c).wf = true) :
    Calls Try.prog 6 #[.int .u64 a0, .slice a1 len1 cap1, .agg #[.int .u8 x2a, .int .u8 x2b, .int .u8 x2c]] w fun e w' => e = .returned (.bool true) ∧ Below w.heap.size w w' := by
  obtain ⟨l, rfl, hl, hc, hrd, hwf⟩ := w1.rd
  obtain ⟨u1, u2⟩ := bounds_u64 w0
  obtain ⟨n, rfl⟩ := Int.eq_ofNat_of_zero_le u1
  have hn : n < 18446744073709551616 := by omega
  have h8a : 0 ≤ x2a ∧ x2a ≤ 255 := by simpa [Lit.wf, IntKind.min, IntKind.max, IntKind.bits, IntKind.signed] using w2a
  have h8b : 0 ≤ x2b ∧ x2b ≤ 255 := by simpa [Lit.wf, IntKind.min, IntKind.max, IntKind.bits, IntKind.signed] using w2b
  have h8c : 0 ≤ x2c ∧ x2c ≤ 255 := by simpa [Lit.wf, IntKind.min, IntKind.max, IntKind.bits, IntKind.signed] using w2c
  obtain ⟨xb, rfl⟩ := Int.eq_ofNat_of_zero_le h8b.1
  obtain ⟨xc, rfl⟩ := Int.eq_ofNat_of_zero_le h8c.1
  have hxb : xb ≤ 255 := by omega
  have hxc : xc ≤ 255 := by omega
  have HW := Lib.hid wakes_any
  have hb0 := (Below.refl w.heap.size w).alloc (Nat.le_refl _) (.cells #[.int .u8 x2a, .int .u8 xb, .int .u8 xc] 51)
  have C := Lib.hid (whole_any x2a 0 h8a a1 cap1 l (w.alloc (.cells #[.int .u8 x2a, .int .u8 xb, .int .u8 xc] 51)) hl hc (hrd.alloc _) hwf)
  clear hrd hwf hc hl w1 w0 w2a w2b w2c h8b h8c
  go_enter Try.func6, Try.ntmps6
  go_wp2_with fail
  refine (C.out).mono ?_; rintro e w1 ⟨t, b, c, L, rfl, hg, hL, hcc, hrd, hb1⟩
  have HG := Lib.hid hg
  have G := goes_of hg
  obtain ⟨t1, t2⟩ := G.total
  obtain ⟨l1, l2⟩ := G.len
  have hM := fun d (h : 0 ≤ d ∧ d ≤ 64) w => refMask_any d (wf_i64 (by omega) (by omega)) w
  have HM := Lib.hid hM
  have hM1 := fun w => hM t (by omega) w
  have HM1 := Lib.hid hM1
  have ax1 := arr_cells hb1
  have hgw : w.heap.size < w1.heap.size := ax1.2.2
  have bb1 := chain hb0 (by simp) hb1
  clear hM hM1 hg G hb0 hb1 C
  go_wp2_with ((with_reducible refine (HM1.out _).mono ?_); rintro e w' ⟨rfl, rfl⟩)
  rw [mask_and hn ⟨by omega, t2⟩]
  obtain ⟨m, Hm, hm64⟩ : ∃ m : Nat, Hid (n % 2 ^ t.toNat = m) ∧ m < 18446744073709551616 := ⟨_, Lib.hid rfl, Nat.lt_of_le_of_lt (Nat.mod_le _ _) hn⟩
  have Hlt : Hid (m < 2 ^ t.toNat) := Lib.hid (by rw [← Hm.out]; exact Nat.mod_lt _ (Nat.pow_pos (by decide)))
  rw [Hm.out]
  refine (Split_ok m t b c L _ hrd HG.out Hlt.out).mono ?_; rintro e w2 ⟨g2, rfl, hr2, c2⟩
  go_wp2_with fail
  refine (Lay_ok t b c L _ (hrd.below c2 (Nat.le_refl _)) HG.out).mono ?_; rintro e w3 ⟨rfl, hf3, hb3⟩
  have c3 := chain c2 (Nat.le_refl _) hb3
  have hr3 := hr2.below hb3 hr2.lt.2
  have hgg : g2 < w2.heap.size := hr2.lt.2
  have hg0 : w1.heap.size ≤ g2 := hr2.lt.1
  clear hb3 c2 hr2
  obtain ⟨g3, Hg3⟩ : ∃ g3, Hid (w2.heap.size = g3) := ⟨_, Lib.hid rfl⟩
  rw [Hg3.out] at hf3 hgg ⊢
  go_wp2_with fail
  refine (HW.out _).mono ?_; rintro e w4 ⟨rfl, hb4⟩
  have c4 := chain c3 (Nat.le_refl _) hb4
  have hr4 := hr3.below hb4 hr3.lt.2
  have hf4 := hf3.below hb4 hf3.lt.2
  obtain ⟨ax41, ax42, ax43⟩ := ax1.below c4
  have hrd4 := hrd.below c4 (Nat.le_refl _)
  clear hb4 c3 hr3 hf3
  go_wp2_with fail
  obtain ⟨i, Hi, hi⟩ : ∃ i : Nat, Hid ((xb : Int) % (L.length : Int) = (i : Int)) ∧ i < L.length :=
    ⟨xb % L.length, Lib.hid (by simp), Nat.mod_lt _ (by omega)⟩
  rw [Hi.out]
  obtain ⟨x, rfl, hx, hcw⟩ := hrd4.at_ hi
  obtain ⟨d, HD, hd1, hd2⟩ : ∃ d : Nat, Hid (wd L i = d) ∧ 1 ≤ d ∧ d ≤ 64 := ⟨_, Lib.hid rfl, (goes_wd (goes_of HG.out) hi).2⟩
  rw [(goes_wd (goes_of HG.out) hi).1, HD.out] at hcw
  have hcp := hr4.cell (j := i) (by rw [partsL_length]; exact hi)
  rw [partsL_el _ _ _ hi, HD.out] at hcp
  have hff := hr4.frozen i
  obtain ⟨q, HQ, hq⟩ : ∃ q : Nat, Hid (part m (rst L (i + 1)) d = q) ∧ q < 18446744073709551616 := ⟨_, Lib.hid rfl, Nat.lt_of_le_of_lt (part_le _ _ _) hm64⟩
  rw [HQ.out] at hcp
  have hMd := fun w => (HM.out d ⟨by omega, by omega⟩ w).mono (fun e w' (h : _ ∧ w = w') => (⟨h.1, h.2.symm⟩ : e = .returned (.int .u64 (maskV d)) ∧ w' = w))
  have HMd := Lib.hid hMd
  clear hMd
  refine wp_region_still_tail 15 (by kernel_rfl) (by kernel_rfl) ?_
  simp only [List.take_succ_cons, List.take_zero, List.drop_succ_cons, List.drop_zero]
  repeat still_step
  still_call (HMd.out _)
  repeat still_step
  refine wpStill_nil ?_
  change wpList _ _ _ _ _ w4.drew
  go_wp2_with fail
  obtain ⟨y, HY, hy1, hy2⟩ : ∃ y : Nat, Hid (xc % 2 ^ d = y) ∧ y ≤ 255 ∧ y < 18446744073709551616 :=
    ⟨_, Lib.hid rfl, Nat.le_trans (Nat.mod_le _ _) hxc, Nat.lt_of_le_of_lt (Nat.mod_le _ _) (by omega)⟩
  have HYd : Hid (y < 2 ^ d) := Lib.hid (by rw [← HY.out]; exact Nat.mod_lt _ (Nat.pow_pos (by decide)))
  rw [u64_and_mask (by omega) hd2, HY.out, bits_xor_u64_nat q y hq hy2]
  obtain ⟨m', Hm', HP'⟩ : ∃ m' : Nat, Hid (m ^^^ y * 2 ^ rst L (i + 1) = m') ∧ Hid (partsL m' L = (partsL m L).set i ((q ^^^ y : Nat) : Int)) :=
    ⟨_, Lib.hid rfl, Lib.hid (by rw [parts_turn m y hi (by rw [HD.out]; exact HYd.out), HD.out, HQ.out])⟩
  have Hlt' : Hid (m' < 2 ^ t.toNat) := Lib.hid (by rw [← Hm'.out]; exact xor_lt (goes_of HG.out) hi Hlt.out (by rw [HD.out]; exact HYd.out))
  have hm64' := low64 t2 Hlt'.out
  have c5 : Below w1.heap.size w1 (w4.setCell ⟨g2, i, none⟩ (.int .u64 ((q ^^^ y : Nat) : Int))).drew := below_drew (c4.setCell hg0 _)
  have hr5 : Row 23 .u64 w1.heap.size (w4.setCell ⟨g2, i, none⟩ (.int .u64 ((q ^^^ y : Nat) : Int))).drew g2 L.length (partsL m' L) := by
    rw [HP'.out]; exact (hr4.set _ _).drew
  have hf5 : FRow g3 (w4.setCell ⟨g2, i, none⟩ (.int .u64 ((q ^^^ y : Nat) : Int))).drew g3 L L.length := (hf4.setOther (show g3 ≠ g2 by omega) _).block rfl
  generalize (w4.setCell ⟨g2, i, none⟩ (.int .u64 ((q ^^^ y : Nat) : Int))).drew = w5 at c5 hr5 hf5 ⊢
  clear c4 hr4 hf4 ax41 ax42 ax43 hrd4 hcp hff hcw
  have hpl := partsL_length m' L
  have hJ := Join_any t (some ⟨g2, 0, none⟩) (some x) L.length c (partsL m' L) L w5 (by rw [hpl]; unfold maxLen; omega) (by unfold maxLen; omega) (Rd.of_row hr5) (hrd.below c5 (Nat.le_refl _)) (U64s.parts hm64')
  rw [join_back HG.out Hlt'.out, hpl] at hJ
  have HJ := Lib.hid hJ
  clear hJ hpl
  refine (HJ.out).mono ?_; rintro e w6 ⟨rfl, hb6⟩
  have c6 := chain c5 (Nat.le_refl _) hb6
  have hf6 := hf5.below hb6 hf5.lt.2
  obtain ⟨ax1, ax2, ax3⟩ := ax1.below c6
  have hrd6 := hrd.below c6 (Nat.le_refl _)
  obtain ⟨x', hxx, _, hcw⟩ := hrd6.at_ hi
  obtain rfl : x = x' := by simpa using hxx
  rw [(goes_wd (goes_of HG.out) hi).1, HD.out] at hcw
  obtain ⟨fc0, fc1⟩ := hf6.cells hi
  obtain ⟨r, HR, hr⟩ : ∃ r : Nat, Hid (rst L (i + 1) = r) ∧ r ≤ 63 := ⟨_, Lib.hid rfl, (goes_rst_lt (goes_of HG.out) hi).2.1⟩
  rw [HR.out] at fc0
  clear hb6 c5 hr5 hf5 hxx fc1 HJ
  go_wp2_with fail
  have hMd2 := fun w => HM.out d ⟨by omega, by omega⟩ w
  have HMd2 := Lib.hid hMd2
  clear hMd2
  go_quiet ((go_at_call 19; exact quiet_left (HMd2.out _)))
  have eX : bits .xor .u64 (m' : Int) (m : Int) = ((y * 2 ^ r : Nat) : Int) := by
    rw [bits_xor_u64_nat m' m hm64' hm64, ← Hm'.out, HR.out, xor_back]
  have hyr : y * 2 ^ r < 18446744073709551616 := by
    have h1 : y * 2 ^ r < 2 ^ d * 2 ^ r := Nat.mul_lt_mul_of_pos_right HYd.out (Nat.pow_pos (by decide))
    rw [← Nat.pow_add] at h1
    have h2 := (goes_rst_lt (goes_of HG.out) hi).1
    rw [HR.out, HD.out] at h2
    exact Nat.lt_of_lt_of_le h1 (show 2 ^ (d + r) ≤ 2 ^ 64 from Nat.pow_le_pow_right (by decide) (by omega))
  have eS : IntKind.u64.wrap ((y : Int) * 2 ^ r) = ((y * 2 ^ r : Nat) : Int) := by
    rw [show (y : Int) * 2 ^ r = ((y * 2 ^ r : Nat) : Int) from by simp, IntKind.wrap_u64]; omega
  rw [eX, u64_and_mask (by omega) hd2, HY.out, eS, bne_self_eq_false]
  clear eX eS hyr
  have c6' := below_drewN c6 nq
  have hf6' := hf6.drewN nq
  generalize w6.drewN nq = w7 at c6' hf6' ⊢
  clear c6 hf6 ax1 ax2 ax3 hrd6 hcw fc0
  go_wp2_with fail
  go_loopw [119] (fun i' wr => ∃ k : Nat, k ≤ L.length ∧ i' = .int .i64 k ∧ FRow g3 wr g3 L L.length ∧ Below w1.heap.size w1 wr) (fun i' _ => L.length - (intOf i').toNat)
  case atStart => exact ⟨0, by omega, rfl, hf6', c6'⟩
  case round =>
    obtain ⟨k, hk, rfl, hf, hb⟩ := hrel
    by_cases hlt : k < L.length
    · obtain ⟨c0, c1⟩ := hf.cells hlt
      obtain ⟨f, HF, hf63⟩ : ∃ f : Nat, Hid (rst L (k + 1) = f) ∧ f ≤ 63 := ⟨_, Lib.hid rfl, (goes_rst_lt (goes_of HG.out) hlt).2.1⟩
      obtain ⟨e, HE, he1, he2⟩ : ∃ e : Nat, Hid (wd L k = e) ∧ 1 ≤ e ∧ e ≤ 64 := ⟨_, Lib.hid rfl, (goes_wd (goes_of HG.out) hlt).2⟩
      rw [HF.out] at c0
      rw [(goes_wd (goes_of HG.out) hlt).1, HE.out] at c1
      have hfW := hf.alloc (.cells #[.int .i64 f, .int .i64 e] 30)
      have hbW := hb.alloc hb.size (.cells #[.int .i64 f, .int .i64 e] 30)
      obtain ⟨s0, s1, s2⟩ := field_cells (v0 := .int .i64 f) (v1 := .int .i64 e) (t := 30) (Below.refl (wr.alloc (.cells #[.int .i64 f, .int .i64 e] 30)).heap.size (wr.alloc (.cells #[.int .i64 f, .int .i64 e] 30)))
      by_cases hki : k = i
      · have hd : ((k : Int) != (i : Int)) = false := by rw [hki]; simp
        have HKI := Lib.hid hki
        clear hki
        go_wp2_with fail
        go_quiet (fail)
        have hfW' := hfW.drewN nq
        have hbW' := below_drewN hbW nq
        clear hfW hbW s0 s1 s2 hf hb c0 c1
        go_wp2_with fail
        go_roundw
        case rel => exact ⟨k + 1, by omega, by go_num, hfW', hbW'⟩
        case measure => simp [intOf]; omega
      · have hd : ((k : Int) != (i : Int)) = true := by rw [bne_iff_ne]; omega
        have eP : part m' f e = part m f e := by
          have h1 := HP'.out
          have h2 : el (partsL m' L) k = el (partsL m L) k := by
            rw [h1]; unfold el; rw [List.getElem?_set_ne (by omega)]
          rw [partsL_el _ _ _ hlt, partsL_el _ _ _ hlt, HF.out, HE.out] at h2
          exact_mod_cast h2
        have HGa := Lib.hid (fun w => Get_in m f e hm64 hf63 he1 he2 w)
        have hGb := fun w => Get_in m' f e hm64' hf63 he1 he2 w
        rw [eP] at hGb
        have HGb := Lib.hid hGb
        clear eP hGb
        clear hki
        go_wp2_with fail
        generalize wr.alloc (.cells #[.int .i64 f, .int .i64 e] 30) = W at s0 s1 s2 hfW hbW ⊢
        generalize wr.heap.size = p at s0 s1 s2 ⊢
        clear c0 c1 hf hb
        go_region_held3 (fun w' => w'.cell? ⟨p, 0, none⟩ = some (.int .i64 f) ∧ w'.cell? ⟨p, 1, none⟩ = some (.int .i64 e) ∧ p < w'.heap.size ∧ FRow g3 w' g3 L L.length ∧ Below w1.heap.size w1 w')
          (first | exact ⟨s0, s1, s2, hfW.block rfl, below_drew hbW⟩ | (go_split_ands; exact oneS_keep (by assumption) (by assumption) (by assumption) (by assumption) (by assumption) (by assumption)) | go_keep)
          (first | ((with_reducible refine (HGa.out _).mono ?_); rintro e4 w4 ⟨rfl, hb4⟩) | ((with_reducible refine (HGb.out _).mono ?_); rintro e4 w4 ⟨rfl, hb4⟩))
        rename_i hHeld
        have hf5 := hHeld.2.2.2.1
        have hbe := hHeld.2.2.2.2
        clear hHeld s0 s1 s2 hfW hbW
        go_wp2_with fail
        refine ⟨⟨_, _, _, _, _, _, _, _, _, _, _, _, _, _, _, _, _, _, _, _, _, ⟨k + 1, by omega, ?_, hf5, hbe⟩, rfl⟩, ?_⟩
        · go_num
        · show L.length - (intOf (.int .i64 ((k : Int) + 1))).toNat < L.length - (intOf (.int .i64 (k : Int))).toNat
          simp [intOf]; omega
    · obtain rfl : k = L.length := by omega
      go_wp2_with fail
      go_ret
      exact ⟨rfl, chain bb1 (Nat.le_refl _) hb⟩

end Go.Proofs.Ytkalflhepnbppaa
