/- Contracts of the document's own answers of layer 1: Mul. -/
import Derived.Test.YtoengahfkfmfeaaRefB
set_option linter.unusedVariables false
set_option linter.unusedSimpArgs false
namespace Go.Proofs.Ytoengahfkfmfeaa
open Go.ChangeShapes Go.WideShapes Go.ChangeAt Go.RowKit

/-- What holds of the moved number, the sum and the other number's bits after i places. -/
def MulInv (w wr : World) (a b : Int) (i gx cx gs cs gy : Nat) (lx ls : List Int) : Prop :=
  Row 3 .i64 w.heap.size wr gx cx lx ∧ Row 3 .i64 w.heap.size wr gs cs ls ∧ Row 3 .i64 w.heap.size wr gy 64 (bitsL b) ∧ Below w.heap.size w wr ∧
  allBits lx ∧ allBits ls ∧ val lx = a * 2 ^ i ∧ val ls = a * val ((bitsL b).take i) ∧ lx.length = 64 + i ∧ ls.length ≤ 64 + i

theorem MulInv.keep {w wr w' : World} {a b : Int} {i gx cx gs cs gy : Nat} {lx ls : List Int} (h : MulInv w wr a b i gx cx gs cs gy lx ls) {B : Nat} (hb : Below B wr w') (hB : B = wr.heap.size) :
    MulInv w w' a b i gx cx gs cs gy lx ls := by
  subst hB
  obtain ⟨h1, h2, h3, h4, h5⟩ := h
  exact ⟨h1.below hb h1.lt.2, h2.below hb h2.lt.2, h3.below hb h3.lt.2, h4.trans (hb.mono h4.size), h5⟩

/-- The number moved up by one place. -/
theorem MulInv.up {w wr w' : World} {a b : Int} {i gx cx gs cs gy : Nat} {lx ls : List Int} (h : MulInv w wr a b i gx cx gs cs gy lx ls) (gn cn : Nat) (hi : i < 64)
    (hr : Row 3 .i64 w.heap.size w' gn cn (0 :: lx)) (hb : Below wr.heap.size wr w') (ls' : List Int) (gs' cs' : Nat) (hs : Row 3 .i64 w.heap.size wr gs' cs' ls') (hls : allBits ls')
    (hv : val ls' = a * val ((bitsL b).take (i + 1))) (hl : ls'.length ≤ 64 + (i + 1)) :
    MulInv w w' a b (i + 1) gn cn gs' cs' gy (0 :: lx) ls' := by
  obtain ⟨h1, h2, h3, h4, h5, h6, h7, h8, h9, h10⟩ := h
  refine ⟨hr, hs.below hb hs.lt.2, h3.below hb h3.lt.2, h4.trans (hb.mono h4.size), ?_, hls, ?_, hv, ?_, hl⟩
  · intro j
    cases j with
    | zero => exact .inl rfl
    | succ j => simpa using h5 j
  · simp only [val, h7, Int.pow_succ, mul2]; omega
  · simp only [List.length_cons]; omega

theorem take_el {l : List Int} {k : Nat} (h : k < l.length) : l.take (k + 1) = l.take k ++ [el l k] := by
  rw [List.take_succ_eq_append_getElem h]
  simp [el, h]

set_option maxRecDepth 100000 in
theorem refMul_any (a b : Int) (ha : W64 a) (hb : W64 b) (w : World) :
    Calls Try.prog 48 #[.int .u64 a, .int .u64 b] w fun e w' => e = pairOf (mulR a b) ∧ Below w.heap.size w w' := by
  obtain ⟨i0, hi, hz0, hz1, hz2⟩ := info_parts info_int
  go_enter Try.func48, Try.ntmps48
  go_wp2_with fail
  refine (refBits_any a ha _).mono ?_; rintro e w1 ⟨rfl, r1, b1⟩
  go_wp2_with fail
  refine (refBits_any b hb _).mono ?_; rintro e w2 ⟨rfl, r2, b2⟩
  go_wp2_with fail
  have r0 : MulInv w (w2.alloc (.cells #[] 3)) a b 0 w.heap.size 64 w2.heap.size 0 w1.heap.size (bitsL a) [] := by
    refine ⟨((r1.below b2 r1.lt.2).alloc _), World.ownsRow_lit w2 #[] 0 (Nat.le_trans b1.size b2.size) (by unfold maxLen; omega) rfl, ((r2.base b1.size).alloc _), (b1.trans (b2.mono b1.size)).alloc (Nat.le_trans b1.size b2.size) _,
      bitsL_bits a, fun j => .inl rfl, by rw [val_bitsL a ha]; simp, by simp [val], bitsL_length a, by simp⟩
  generalize w1.heap.size = gy at r0
  generalize w2.alloc (.cells #[] 3) = w2' at r0
  generalize w2.heap.size = gs0 at r0
  clear r1 r2 b1 b2
  go_loopw [6, 8, 9] (fun x s i wr => ∃ (i' gx cx gs cs : Nat) (lx ls : List Int), i' ≤ 64 ∧ i = .int .i64 i' ∧ x = .slice (some ⟨gx, 0, none⟩) lx.length cx ∧ s = .slice (some ⟨gs, 0, none⟩) ls.length cs ∧ MulInv w wr a b i' gx cx gs cs gy lx ls) (fun _ _ i _ => 64 - (intOf i).toNat)
  case atStart => exact ⟨0, _, _, _, _, _, _, by omega, rfl, by rw [bitsL_length], rfl, r0⟩
  case round =>
    obtain ⟨i, gx, cx, gs, cs, lx, ls, hi64, rfl, rfl, rfl, hinv⟩ := hrel
    obtain ⟨hx, hs, hy, hbel, hbx, hbs, hvx, hvs, hlx, hls⟩ := id hinv
    have HVX := Lib.hid hvx
    have HVS := Lib.hid hvs
    have HLX := Lib.hid hlx
    have hlx' : lx.length ≤ 128 := by omega
    have hsize := hbel.size
    clear hvx hvs hlx r0
    by_cases hlt' : i < 64
    · have hcy := hy.cell (j := i) (by rw [bitsL_length]; exact hlt')
      have hbit := bitsL_bits b i
      rw [el_of] at hbit
      have l1 : 0 ≤ el (bitsL b) i ∧ el (bitsL b) i ≤ 1 := by omega
      by_cases hone : 1 ≤ el (bitsL b) i
      · have HB : Hid (el (bitsL b) i = 1) := Lib.hid (by omega)
        clear hbit
        have c := refPlus_any _ _ gs cs gx cx ls lx wr hs hx hbs hbx (by omega) (by omega)
        have C := Lib.hid c
        clear c
        go_wp2_with fail
        refine C.out.mono ?_
        rintro e w3 ⟨o, rfl, ho, bo, vo, r3, b3⟩
        have hlo : o.length ≤ 64 + (i + 1) := by have := HLX.out; omega
        have HO := Lib.hid ho
        have HVO : Hid (val o = a * val ((bitsL b).take (i + 1))) := Lib.hid (by rw [vo, HVS.out, HVX.out, val_take_succ, el_of, HB.out, Int.mul_add]; simp)
        have hinv3 := hinv.keep b3 rfl
        have ho3 := r3.base hsize
        obtain ⟨hx, hs', hy', hbel', _⟩ := id hinv3
        have hsize := hbel'.size
        clear ho vo C r3 hs hbs
        obtain ⟨wo, rfl⟩ : ∃ wo : World, wo = w3 := ⟨_, rfl⟩
        go_wp2_with fail
        have r0' : Row 3 .i64 wo.heap.size (wo.alloc (.cells #[.int .i64 0] 3)) wo.heap.size 1 (0 :: lx.take 0) :=
          World.ownsRow_lit wo #[.int .i64 0] 1 (Nat.le_refl _) (by unfold maxLen; omega) rfl
        go_wp2_with fail
        go_loopw [10, 11] (fun nx k wr => ∃ (k' gn cn : Nat), k' ≤ lx.length ∧ k = .int .i64 k' ∧ nx = .slice (some ⟨gn, 0, none⟩) (k' + 1) cn ∧ Row 3 .i64 wo.heap.size wr gn cn (0 :: lx.take k') ∧ Below wo.heap.size wo wr) (fun _ k _ => lx.length - (intOf k).toNat)
        case atStart => exact ⟨0, _, _, by omega, rfl, rfl, r0', (Below.refl _ _).alloc (Nat.le_refl _) _⟩
        case round =>
          obtain ⟨k, gn, cn, hk, rfl, rfl, hn, hbn⟩ := hrel
          by_cases hlt : k < lx.length
          · have hcx := (hx.below hbn hx.lt.2).cell (j := k) hlt
            have hlen : (k + 1 : Nat) = (0 :: lx.take k).length := by rw [List.length_cons, List.length_take]; omega
            have HL := Lib.hid hlen
            have hnl := hn.lt
            have hnz := hbn.size
            clear hlen
            go_wp2_with (at_builtin; refine wpList_append_own _ rfl _ _ 78 rfl wo.heap.size 3 i0 (.int .i64 0) 1 8 Try.underlying78 hi hz0 hz1 hz2 rfl (by decide) _ (k + 1) ((0 :: lx.take k).map (Value.int .i64)) rfl (by rw [HL.out]; exact hn.alloc _) ⟨_, 0, none⟩ 1 1 [.int .i64 (el lx k)] rfl rfl ?c1 ?c2 ?c3 ?c4 ?c5 ?_)
            case c1 => exact cell_one_new _ _ _
            case c2 => simp [Value.oneCell']
            case c3 => unfold maxLen; omega
            case c4 => omega
            case c5 => simp; omega
            intro v' w4 hown hgrow _
            obtain ⟨g', c', hv, hr'⟩ := Row.of_append (k := .i64) (l := 0 :: lx.take (k + 1)) hown (by rw [List.length_cons, List.length_take]; omega) (by omega) (by rw [take_el hlt]; simp)
            have hb' : Below wo.heap.size wo w4 := (hbn.alloc hbn.size _).grown hgrow (by simp; have := hbn.size; omega) (by rintro j hj; simp only [Value.ownBlock, Option.some.injEq] at hj; omega)
            clear hown hgrow
            have hv' : v' = .slice (some ⟨g', 0, none⟩) (k + 1 + 1) c' := by rw [hv, List.length_cons, List.length_take, show min (k + 1) lx.length = k + 1 from by omega]
            clear hv
            subst hv'
            go_wp2
            go_roundw
            case rel => exact ⟨k + 1, g', c', by omega, by go_num, rfl, hr', hb'⟩
            case measure => simp [intOf]; omega
          · obtain rfl : k = lx.length := by omega
            rw [List.take_length] at hn
            go_wp2
            go_roundw
            case rel =>
              exact ⟨i + 1, gn, cn, _, o.length, 0 :: lx, o, by omega, by go_num, rfl, rfl, hinv3.up gn cn hlt' (hn.base hsize) hbn o _ o.length ho3 bo HVO.out hlo⟩
            case measure => simp [intOf]; omega

      · have HB : Hid (el (bitsL b) i = 0) := Lib.hid (by omega)
        clear hbit
        obtain ⟨wo, rfl⟩ : ∃ wo : World, wo = wr := ⟨_, rfl⟩
        go_wp2_with fail
        have r0' : Row 3 .i64 wo.heap.size (wo.alloc (.cells #[.int .i64 0] 3)) wo.heap.size 1 (0 :: lx.take 0) :=
          World.ownsRow_lit wo #[.int .i64 0] 1 (Nat.le_refl _) (by unfold maxLen; omega) rfl
        go_wp2_with fail
        go_loopw [10, 11] (fun nx k wr => ∃ (k' gn cn : Nat), k' ≤ lx.length ∧ k = .int .i64 k' ∧ nx = .slice (some ⟨gn, 0, none⟩) (k' + 1) cn ∧ Row 3 .i64 wo.heap.size wr gn cn (0 :: lx.take k') ∧ Below wo.heap.size wo wr) (fun _ k _ => lx.length - (intOf k).toNat)
        case atStart => exact ⟨0, _, _, by omega, rfl, rfl, r0', (Below.refl _ _).alloc (Nat.le_refl _) _⟩
        case round =>
          obtain ⟨k, gn, cn, hk, rfl, rfl, hn, hbn⟩ := hrel
          by_cases hlt : k < lx.length
          · have hcx := (hx.below hbn hx.lt.2).cell (j := k) hlt
            have hlen : (k + 1 : Nat) = (0 :: lx.take k).length := by rw [List.length_cons, List.length_take]; omega
            have HL := Lib.hid hlen
            have hnl := hn.lt
            have hnz := hbn.size
            clear hlen
            go_wp2_with (at_builtin; refine wpList_append_own _ rfl _ _ 78 rfl wo.heap.size 3 i0 (.int .i64 0) 1 8 Try.underlying78 hi hz0 hz1 hz2 rfl (by decide) _ (k + 1) ((0 :: lx.take k).map (Value.int .i64)) rfl (by rw [HL.out]; exact hn.alloc _) ⟨_, 0, none⟩ 1 1 [.int .i64 (el lx k)] rfl rfl ?c1 ?c2 ?c3 ?c4 ?c5 ?_)
            case c1 => exact cell_one_new _ _ _
            case c2 => simp [Value.oneCell']
            case c3 => unfold maxLen; omega
            case c4 => omega
            case c5 => simp; omega
            intro v' w4 hown hgrow _
            obtain ⟨g', c', hv, hr'⟩ := Row.of_append (k := .i64) (l := 0 :: lx.take (k + 1)) hown (by rw [List.length_cons, List.length_take]; omega) (by omega) (by rw [take_el hlt]; simp)
            have hb' : Below wo.heap.size wo w4 := (hbn.alloc hbn.size _).grown hgrow (by simp; have := hbn.size; omega) (by rintro j hj; simp only [Value.ownBlock, Option.some.injEq] at hj; omega)
            clear hown hgrow
            have hv' : v' = .slice (some ⟨g', 0, none⟩) (k + 1 + 1) c' := by rw [hv, List.length_cons, List.length_take, show min (k + 1) lx.length = k + 1 from by omega]
            clear hv
            subst hv'
            go_wp2
            go_roundw
            case rel => exact ⟨k + 1, g', c', by omega, by go_num, rfl, hr', hb'⟩
            case measure => simp [intOf]; omega
          · obtain rfl : k = lx.length := by omega
            rw [List.take_length] at hn
            go_wp2
            go_roundw
            case rel =>
              exact ⟨i + 1, gn, cn, gs, cs, 0 :: lx, ls, by omega, by go_num, rfl, rfl, hinv.up gn cn hlt' (hn.base hsize) hbn ls gs cs hs hbs (by rw [HVS.out, val_take_succ, el_of, HB.out]; simp) (by omega)⟩
            case measure => simp [intOf]; omega
    · obtain rfl : i = 64 := by omega
      clear HVX
      have hfin : val ls = a * b := by rw [HVS.out, List.take_of_length_le (by rw [bitsL_length]; omega), val_bitsL b hb]
      have HF := Lib.hid hfin
      clear hfin HVS
      go_wp2_with fail
      refine (refNumber_any _ _ _ ls wr hs hbs (by omega)).mono ?_; rintro e w4 ⟨rfl, rfl⟩
      go_wp2_with fail
      go_ret2
      exact ⟨ret_same (by unfold numR mulR; rw [HF.out]), hbel⟩

end Go.Proofs.Ytoengahfkfmfeaa
