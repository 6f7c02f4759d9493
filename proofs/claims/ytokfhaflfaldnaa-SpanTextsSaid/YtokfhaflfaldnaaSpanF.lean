/- Contracts of layer 5: the bytes of a span, by package span and by the document. -/
import Derived.Test.YtokfhaflfaldnaaSpanE
namespace Go.Proofs.Ytokfhaflfaldnaa
open Go.ChangeShapes Go.WideShapes Go.ChangeAt Go.RowKit
set_option linter.unusedVariables false
attribute [local go_sem ↓] Go.wp_at_zero Go.wp_at_succ

/-- The bytes of a span of an input. -/
def textV (a l : Int) (s : ByteArray) : ByteArray := if gdB a l s.size = true then s.extract a.toNat (a + l).toNat else ⟨#[]⟩
theorem text_yes {a l : Int} {s : ByteArray} (h : Gd a l s.size) : textV a l s = s.extract a.toNat (a + l).toNat := by unfold textV; rw [if_pos (gd_yes h)]
theorem text_no {a l : Int} {s : ByteArray} (h : ¬ Gd a l s.size) : textV a l s = ⟨#[]⟩ := by unfold textV; rw [if_neg (by rw [gd_no h]; decide)]
theorem text_nat {x y : Nat} {s : ByteArray} (h : x + y ≤ s.size) : textV x y s = s.extract x (x + y) := by
  rw [text_yes (by unfold Gd; omega)]
  rfl
theorem extract_list (x y : Nat) (s : ByteArray) : s.extract x (x + y) = ⟨((s.data.toList.drop x).take y).toArray⟩ := by
  apply ByteArray.ext
  rw [ByteArray.data_extract]
  apply Array.ext'
  rw [Array.toList_extract, List.extract_eq_take_drop]
  congr 1
  omega

theorem retS {x y : ByteArray} (h : x = y) : Ending.returned (.string x) = .returned (.string y) := by rw [h]

/-- One span in its own block. -/
theorem one_keep {w0 w1 w2 : World} {p : Nat} {a l : Int} (hb : Below w1.heap.size w1 w2) (h1 : w1.cell? ⟨p, 0, none⟩ = some (.int .i64 a)) (h2 : w1.cell? ⟨p, 1, none⟩ = some (.int .i64 l)) (h5 : p < w1.heap.size) (h6 : Below w0.heap.size w0 w1) :
    w2.cell? ⟨p, 0, none⟩ = some (.int .i64 a) ∧ w2.cell? ⟨p, 1, none⟩ = some (.int .i64 l) ∧ p < w2.heap.size ∧ Below w0.heap.size w0 w2 :=
  ⟨(hb.cell (show p < _ from h5)).trans h1, (hb.cell (show p < _ from h5)).trans h2, Nat.lt_of_lt_of_le h5 hb.size, chain h6 (Nat.le_refl _) hb⟩

theorem Text_no (a l : Int) (s : ByteArray) (ha : I64 a) (hl : I64 l) (hs : s.size ≤ 140737488355328) (h : ¬ Gd a l s.size) (w : World) :
    Calls Try.prog 12 #[.agg #[.int .i64 a, .int .i64 l], .string s] w fun e w' => e = .returned (.string (textV a l s)) ∧ Below w.heap.size w w' := by
  have hG := fun w => Good_any a l s.size ha hl (by unfold I64; omega) w
  rw [gd_no h] at hG
  rw [text_no h]
  have HG := Lib.hid hG
  clear hG h
  go_enter Try.func12, Try.ntmps12
  go_wp2_with fail
  refine (HG.out _).mono ?_; rintro e w1 ⟨rfl, b1⟩
  go_wp2_with fail
  go_ret
  exact ⟨rfl, chain (below_box _ _) (Nat.le_refl _) b1⟩

theorem Text_in (x y : Nat) (s : ByteArray) (hs : s.size ≤ 140737488355328) (h : x + y ≤ s.size) (w : World) :
    Calls Try.prog 12 #[.agg #[.int .i64 x, .int .i64 y], .string s] w fun e w' => e = .returned (.string (textV x y s)) ∧ Below w.heap.size w w' := by
  have hG := fun w => Good_any x y s.size (by unfold I64; omega) (by unfold I64; omega) (by unfold I64; omega) w
  rw [gd_yes (by unfold Gd; omega)] at hG
  have hE := fun w => End_any x y (by unfold I64; omega) (by unfold I64; omega) w
  rw [end_yes (by unfold Gd; omega)] at hE
  rw [text_nat h]
  have HG := Lib.hid hG
  have HE := Lib.hid hE
  clear hG hE
  go_enter Try.func12, Try.ntmps12
  go_wp2_with fail
  refine (HG.out _).mono ?_; rintro e w1 ⟨rfl, b1⟩
  obtain ⟨c0, c1, c2⟩ := box_cells b1
  have bb := chain (below_box _ _) (Nat.le_refl _) b1
  have i1 : (0 : Int) ≤ (x : Int) := by omega
  have i2 : (x : Int) ≤ (x : Int) + (y : Int) := by omega
  have i3 : (x : Int) + (y : Int) ≤ (s.size : Int) := by omega
  go_wp2_with fail
  go_region_held3 (fun w' => w'.cell? ⟨w.heap.size, 0, none⟩ = some (.int .i64 x) ∧ w'.cell? ⟨w.heap.size, 1, none⟩ = some (.int .i64 y) ∧ w.heap.size < w'.heap.size ∧ Below w.heap.size w w')
    (first | exact ⟨c0, c1, c2, below_drew bb⟩ | (go_split_ands; exact one_keep (by assumption) (by assumption) (by assumption) (by assumption) (by assumption)) | go_keep)
    (first | ((with_reducible refine (HE.out _).mono ?_); rintro e w4 ⟨rfl, b4⟩))
  rename_i hHeld
  have s6 := hHeld.2.2.2
  clear hHeld
  go_wp2_with fail
  go_ret
  exact ⟨retS (by rw [show ((x : Int) + (y : Int)).toNat = x + y from by omega]), s6⟩

theorem Text_any (a l : Int) (s : ByteArray) (ha : I64 a) (hl : I64 l) (hs : s.size ≤ 140737488355328) (w : World) :
    Calls Try.prog 12 #[.agg #[.int .i64 a, .int .i64 l], .string s] w fun e w' => e = .returned (.string (textV a l s)) ∧ Below w.heap.size w w' := by
  by_cases h : Gd a l s.size
  · obtain ⟨x, rfl⟩ := Int.eq_ofNat_of_zero_le h.1
    obtain ⟨y, rfl⟩ := Int.eq_ofNat_of_zero_le h.2.1
    exact Text_in x y s hs (by have := h.2.2; omega) w
  · exact Text_no a l s ha hl hs h w

theorem info_u8 : (Try.prog.info? 5).map (fun i => (i.zero, i.size, i.bytes)) = some (some (.int .u8 0), 1, 1) := by kernel_rfl
theorem byteAt (s : ByteArray) {k : Nat} (h : k < s.size) : s.data.toList[k]? = some s[k] := by
  rw [List.getElem?_eq_getElem (by simpa using h)]; rfl
theorem dropTake_succ (l : List UInt8) (x k : Nat) (b : UInt8) (h : l[x + k]? = some b) : (l.drop x).take (k + 1) = (l.drop x).take k ++ [b] := by
  rw [List.take_add_one, List.getElem?_drop, h]
  rfl

theorem refText_no (a l : Int) (s : ByteArray) (ha : I64 a) (hl : I64 l) (hs : s.size ≤ 140737488355328) (h : ¬ Gd a l s.size) (w : World) :
    Calls Try.prog 13 #[.int .i64 a, .int .i64 l, .string s] w fun e w' => e = .returned (.string (textV a l s)) ∧ Below w.heap.size w w' := by
  have hG := fun w => refGood_any a l s.size ha hl (by unfold I64; omega) w
  rw [gd_no h] at hG
  rw [text_no h]
  have HG := Lib.hid hG
  clear hG h
  go_enter Try.func13, Try.ntmps13
  go_wp2_with fail
  refine (HG.out _).mono ?_; rintro e w1 ⟨rfl, rfl⟩
  go_wp2_with fail
  go_ret
  exact ⟨rfl, Below.refl _ _⟩

theorem refText_in (x y : Nat) (s : ByteArray) (hs : s.size ≤ 140737488355328) (h : x + y ≤ s.size) (w : World) :
    Calls Try.prog 13 #[.int .i64 x, .int .i64 y, .string s] w fun e w' => e = .returned (.string (textV x y s)) ∧ Below w.heap.size w w' := by
  have hG := fun w => refGood_any x y s.size (by unfold I64; omega) (by unfold I64; omega) (by unfold I64; omega) w
  rw [gd_yes (by unfold Gd; omega)] at hG
  rw [text_nat h, extract_list]
  have HG := Lib.hid hG
  clear hG
  obtain ⟨i0, hi, hz0, hz1, hz2⟩ := info_parts info_u8
  go_enter Try.func13, Try.ntmps13
  go_wp2_with fail
  refine (HG.out _).mono ?_; rintro e w1 ⟨rfl, rfl⟩
  go_wp2_with fail
  go_loopw [8, 9] (fun u i wr => ∃ (k : Nat) (v : Value), k ≤ y ∧ v = u ∧ i = .int .i64 ((x : Int) + k) ∧ Own 5 .u8 w.heap.size wr v (bytesI ((s.data.toList.drop x).take k)) ∧ Below w.heap.size w wr) (fun _ i _ => ((x : Int) + y - intOf i).toNat)
  case atStart => exact ⟨0, _, by omega, rfl, by simp, Own.nil .., Below.refl _ _⟩
  case round =>
    obtain ⟨k, u, hk, rfl, rfl, hown, hb⟩ := hrel
    have hlen : (bytesI ((s.data.toList.drop x).take k)).length ≤ k := by rw [bytesI_length, List.length_take]; omega
    by_cases hlt : k < y
    · have h1 : (bytesI ((s.data.toList.drop x).take k)).length + 1 ≤ maxLen := by unfold maxLen; omega
      have h2 : ((bytesI ((s.data.toList.drop x).take k)).length + 1) * 1 ≤ 140737488355328 := by omega
      have h3 := hb.size
      have H := Lib.hid hown
      clear hown hlen
      have i1 : (0 : Int) ≤ (x : Int) + k := by omega
      have i2 : (x : Int) + k < s.size := by omega
      have i3 : ((x : Int) + k).toNat = x + k := by omega
      have hps : x + k < s.size := by omega
      go_wp2_with (at_builtin; refine append_own1 rfl _ _ 54 rfl w.heap.size 5 i0 (.int .u8 0) 1 Try.underlying54 hi hz0 hz1 hz2 rfl .u8 u _ _ rfl H.out _ rfl h1 h2 h3 ?_; intro v' w1 hown1 hb1)
      go_roundw
      case rel =>
        refine ⟨k + 1, _, by omega, rfl, by simp only [Value.int.injEq, true_and]; omega, ?_, hb.trans hb1⟩
        rw [dropTake_succ _ _ _ s[x + k] (byteAt s hps), bytesI_append]
        exact hown1
      case measure => simp [intOf]; omega
    · obtain rfl : k = y := by omega
      have ht := text_own Try.underlying54 Try.underlying5 Try.underlying9 wr _ _ _ hown
      have HT := Lib.hid ht
      clear ht hlen
      go_wp2_with (simp only [HT.out])
      go_ret
      exact ⟨rfl, hb⟩

theorem refText_any (a l : Int) (s : ByteArray) (ha : I64 a) (hl : I64 l) (hs : s.size ≤ 140737488355328) (w : World) :
    Calls Try.prog 13 #[.int .i64 a, .int .i64 l, .string s] w fun e w' => e = .returned (.string (textV a l s)) ∧ Below w.heap.size w w' := by
  by_cases h : Gd a l s.size
  · obtain ⟨x, rfl⟩ := Int.eq_ofNat_of_zero_le h.1
    obtain ⟨y, rfl⟩ := Int.eq_ofNat_of_zero_le h.2.1
    exact refText_in x y s hs (by have := h.2.2; omega) w
  · exact refText_no a l s ha hl hs h w

end Go.Proofs.Ytokfhaflfaldnaa
