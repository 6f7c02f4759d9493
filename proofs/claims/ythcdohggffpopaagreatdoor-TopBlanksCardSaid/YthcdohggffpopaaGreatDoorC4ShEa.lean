/- Layer 8: slices.Equal, at the rows that a File has. -/
import Derived.Test.YthcdohggffpopaaGreatDoorC4ShE
import Derived.BigQuiet
namespace Go.Proofs.YthcdohggffpopaaGreatDoor
open Go.Lib (hid)
open Go.ChangeShapes Go.WideShapes Go.ChangeAt Go.RowKit
theorem SlR.lenA {α : Type} {size : Nat} {rep : World → List Value → α → Prop} {w : World} {v : Value} {l : List α} (h : SlR size rep w v l) : l.length < 9223372036854775808 := by
  obtain ⟨a, c, -, h2, h3, -⟩ := h
  unfold maxLen at h3
  omega
theorem drewN8 {B : Nat} {a w : World} (h : Below B a w) (n : Nat) : Below B a (w.drewN n) := h.trans ⟨rfl, rfl, rfl, Nat.le_refl _, fun _ _ => rfl⟩
theorem bs_inj8 {a b : List UInt8} (h : (bs a).toList = (bs b).toList) : a = b := by
  rw [ByteArray.toList_eq, ByteArray.toList_eq, bs_list, bs_list] at h
  exact h
theorem take_snoc8 {α : Type} {l m : List α} {i : Nat} {x y : α} (h : l.take i = m.take i) (hx : l[i]? = some x) (hy : m[i]? = some y) (e : x = y) : l.take (i + 1) = m.take (i + 1) := by
  subst e
  rw [List.take_add_one, List.take_add_one, hx, hy, h]
theorem ne_at8 {α : Type} {l m : List α} {i : Nat} {x y : α} (hx : l[i]? = some x) (hy : m[i]? = some y) (e : x ≠ y) : l ≠ m := by
  rintro rfl
  rw [hx] at hy
  exact e (Option.some.inj hy)
theorem eq_take8 {α : Type} {l m : List α} (n : Nat) (h : l.take n = m.take n) (h1 : l.length = n) (h2 : m.length = n) : l = m := by
  rw [List.take_of_length_le (by omega), List.take_of_length_le (by omega)] at h
  exact h
set_option maxHeartbeats 2000000 in
set_option maxRecDepth 100000 in
theorem sleq_I {W0 w : World} (hb : Below W0.heap.size W0 w) {v1 v2 : Value} {l m : List (Int)} (h1 : SlR 1 InC W0 v1 l) (h2 : SlR 1 InC W0 v2 m) :
    Calls Tryz.prog 129 #[v1, v2] w fun e w' => e = .returned (.bool (decide (l = m))) ∧ Below w.heap.size w w' := by
  have hn1 := h1.lenA
  have HB := hid hb
  obtain ⟨a1, c1, rfl, -⟩ := h1.shape
  obtain ⟨a2, c2, rfl, -⟩ := h2.shape
  have H1 := hid h1
  have H2 := hid h2
  have HW := hid (Below.refl w.heap.size w)
  clear hb h1 h2
  by_cases hl : l.length = m.length
  · have hlI : ((l.length : Int) != (m.length : Int)) = false := by simp [hl]
    go_enter Tryz.func129, Tryz.ntmps129
    go_wp2_with fail
    clear hlI
    go_loopw [13, 5] (fun s13 s5 wr => ∃ i : Nat, s13 = .int .i64 (i : Int) ∧ i ≤ l.length ∧ l.take i = m.take i ∧ Below w.heap.size w wr) (fun s13 _ _ => l.length - (match s13 with | .int _ i => i.toNat | _ => 0))
    case atStart => exact ⟨0, rfl, Nat.zero_le _, by simp, HW.out⟩
    case round =>
      obtain ⟨i, rfl, hi, htk, hwr⟩ := hrel
      by_cases hlt : i < l.length
      · have hltI : (i : Int) < (l.length : Int) := by omega
        have hltM : (i : Int) < (m.length : Int) := by omega
        have hw1 : IntKind.i64.wrap ((i : Int) + 1) = (i : Int) + 1 := IntWalk.i64_in _ (by omega)
        obtain ⟨x, hx⟩ : ∃ x, l[i]? = some x := ⟨l[i], List.getElem?_eq_getElem hlt⟩
        obtain ⟨y, hy⟩ : ∃ y, m[i]? = some y := ⟨m[i]'(by omega), List.getElem?_eq_getElem (by omega)⟩
        obtain ⟨k1, rfl, hk1, q0⟩ := in_at H1.out hx
        obtain ⟨k2, rfl, hk2, r0⟩ := in_at H2.out hy
        have hb2 := HB.out.trans (hwr.mono HB.out.size)
        have q0 := (hb2.cell (p := ⟨k1, i, none⟩) hk1).trans q0
        have r0 := (hb2.cell (p := ⟨k2, i, none⟩) hk2).trans r0
        have HR := hid hwr
        have HT := hid htk
        have HX := hid hx
        have HY := hid hy
        clear hb2 hk1 hk2 hwr htk hx hy
        by_cases he : x = y
        · subst he
          skip
          go_wp2_with fail
          go_quiet (fail)
          go_wp2_with fail
          go_roundw
          case rel => exact ⟨i + 1, by go_num, by omega, take_snoc8 HT.out HX.out HY.out rfl, drewN8 HR.out _⟩
          case measure => simp; omega
        · have hd : decide (l = m) = false := decide_eq_false (ne_at8 HX.out HY.out he)
          have HD := hid hd
          clear hd
          have hx : (x != y) = true := by simp [he]
          go_wp2_with fail
          go_quiet (fail)
          go_wp2_with fail
          go_ret
          exact ⟨by rw [HD.out]; rfl, drewN8 HR.out _⟩
      · have hi2 : i = l.length := by omega
        subst hi2
        have he : l = m := eq_take8 _ htk rfl hl.symm
        have HR := hid hwr
        clear hwr htk
        have HD := hid (decide_eq_true he)
        clear he
        go_wp2_with fail
        go_ret
        exact ⟨by rw [HD.out]; rfl, HR.out⟩
  · have hlI : ((l.length : Int) != (m.length : Int)) = true := by simp; omega
    have he : decide (l = m) = false := decide_eq_false (fun e => hl (by rw [e]))
    rw [he]
    clear he hl
    go_enter Tryz.func129, Tryz.ntmps129
    go_wp2_with fail
    go_ret
    exact ⟨rfl, HW.out⟩
set_option maxHeartbeats 2000000 in
set_option maxRecDepth 100000 in
theorem sleq_N {W0 w : World} (hb : Below W0.heap.size W0 w) {v1 v2 : Value} {l m : List (Nat)} (h1 : SlR 1 IntC W0 v1 l) (h2 : SlR 1 IntC W0 v2 m) :
    Calls Tryz.prog 129 #[v1, v2] w fun e w' => e = .returned (.bool (decide (l = m))) ∧ Below w.heap.size w w' := by
  have hn1 := h1.lenA
  have HB := hid hb
  obtain ⟨a1, c1, rfl, -⟩ := h1.shape
  obtain ⟨a2, c2, rfl, -⟩ := h2.shape
  have H1 := hid h1
  have H2 := hid h2
  have HW := hid (Below.refl w.heap.size w)
  clear hb h1 h2
  by_cases hl : l.length = m.length
  · have hlI : ((l.length : Int) != (m.length : Int)) = false := by simp [hl]
    go_enter Tryz.func129, Tryz.ntmps129
    go_wp2_with fail
    clear hlI
    go_loopw [13, 5] (fun s13 s5 wr => ∃ i : Nat, s13 = .int .i64 (i : Int) ∧ i ≤ l.length ∧ l.take i = m.take i ∧ Below w.heap.size w wr) (fun s13 _ _ => l.length - (match s13 with | .int _ i => i.toNat | _ => 0))
    case atStart => exact ⟨0, rfl, Nat.zero_le _, by simp, HW.out⟩
    case round =>
      obtain ⟨i, rfl, hi, htk, hwr⟩ := hrel
      by_cases hlt : i < l.length
      · have hltI : (i : Int) < (l.length : Int) := by omega
        have hltM : (i : Int) < (m.length : Int) := by omega
        have hw1 : IntKind.i64.wrap ((i : Int) + 1) = (i : Int) + 1 := IntWalk.i64_in _ (by omega)
        obtain ⟨x, hx⟩ : ∃ x, l[i]? = some x := ⟨l[i], List.getElem?_eq_getElem hlt⟩
        obtain ⟨y, hy⟩ : ∃ y, m[i]? = some y := ⟨m[i]'(by omega), List.getElem?_eq_getElem (by omega)⟩
        obtain ⟨k1, rfl, hk1, q0⟩ := ints_at H1.out hx
        obtain ⟨k2, rfl, hk2, r0⟩ := ints_at H2.out hy
        have hb2 := HB.out.trans (hwr.mono HB.out.size)
        have q0 := (hb2.cell (p := ⟨k1, i, none⟩) hk1).trans q0
        have r0 := (hb2.cell (p := ⟨k2, i, none⟩) hk2).trans r0
        have HR := hid hwr
        have HT := hid htk
        have HX := hid hx
        have HY := hid hy
        clear hb2 hk1 hk2 hwr htk hx hy
        by_cases he : x = y
        · subst he
          skip
          go_wp2_with fail
          go_quiet (fail)
          go_wp2_with fail
          go_roundw
          case rel => exact ⟨i + 1, by go_num, by omega, take_snoc8 HT.out HX.out HY.out rfl, drewN8 HR.out _⟩
          case measure => simp; omega
        · have hd : decide (l = m) = false := decide_eq_false (ne_at8 HX.out HY.out he)
          have HD := hid hd
          clear hd
          have hx : ((x : Int) != (y : Int)) = true := bne_iff_ne.2 (by omega)
          go_wp2_with fail
          go_quiet (fail)
          go_wp2_with fail
          go_ret
          exact ⟨by rw [HD.out]; rfl, drewN8 HR.out _⟩
      · have hi2 : i = l.length := by omega
        subst hi2
        have he : l = m := eq_take8 _ htk rfl hl.symm
        have HR := hid hwr
        clear hwr htk
        have HD := hid (decide_eq_true he)
        clear he
        go_wp2_with fail
        go_ret
        exact ⟨by rw [HD.out]; rfl, HR.out⟩
  · have hlI : ((l.length : Int) != (m.length : Int)) = true := by simp; omega
    have he : decide (l = m) = false := decide_eq_false (fun e => hl (by rw [e]))
    rw [he]
    clear he hl
    go_enter Tryz.func129, Tryz.ntmps129
    go_wp2_with fail
    go_ret
    exact ⟨rfl, HW.out⟩
set_option maxHeartbeats 2000000 in
set_option maxRecDepth 100000 in
theorem sleq_S {W0 w : World} (hb : Below W0.heap.size W0 w) {v1 v2 : Value} {l m : List (List UInt8)} (h1 : SlR 1 StrC W0 v1 l) (h2 : SlR 1 StrC W0 v2 m) :
    Calls Tryz.prog 126 #[v1, v2] w fun e w' => e = .returned (.bool (decide (l = m))) ∧ Below w.heap.size w w' := by
  have hn1 := h1.lenA
  have HB := hid hb
  obtain ⟨a1, c1, rfl, -⟩ := h1.shape
  obtain ⟨a2, c2, rfl, -⟩ := h2.shape
  have H1 := hid h1
  have H2 := hid h2
  have HW := hid (Below.refl w.heap.size w)
  clear hb h1 h2
  by_cases hl : l.length = m.length
  · have hlI : ((l.length : Int) != (m.length : Int)) = false := by simp [hl]
    go_enter Tryz.func126, Tryz.ntmps126
    go_wp2_with fail
    clear hlI
    go_loopw [13, 5] (fun s13 s5 wr => ∃ i : Nat, s13 = .int .i64 (i : Int) ∧ i ≤ l.length ∧ l.take i = m.take i ∧ Below w.heap.size w wr) (fun s13 _ _ => l.length - (match s13 with | .int _ i => i.toNat | _ => 0))
    case atStart => exact ⟨0, rfl, Nat.zero_le _, by simp, HW.out⟩
    case round =>
      obtain ⟨i, rfl, hi, htk, hwr⟩ := hrel
      by_cases hlt : i < l.length
      · have hltI : (i : Int) < (l.length : Int) := by omega
        have hltM : (i : Int) < (m.length : Int) := by omega
        have hw1 : IntKind.i64.wrap ((i : Int) + 1) = (i : Int) + 1 := IntWalk.i64_in _ (by omega)
        obtain ⟨x, hx⟩ : ∃ x, l[i]? = some x := ⟨l[i], List.getElem?_eq_getElem hlt⟩
        obtain ⟨y, hy⟩ : ∃ y, m[i]? = some y := ⟨m[i]'(by omega), List.getElem?_eq_getElem (by omega)⟩
        obtain ⟨k1, rfl, hk1, q0⟩ := strs_at H1.out hx
        obtain ⟨k2, rfl, hk2, r0⟩ := strs_at H2.out hy
        have hb2 := HB.out.trans (hwr.mono HB.out.size)
        have q0 := (hb2.cell (p := ⟨k1, i, none⟩) hk1).trans q0
        have r0 := (hb2.cell (p := ⟨k2, i, none⟩) hk2).trans r0
        have HR := hid hwr
        have HT := hid htk
        have HX := hid hx
        have HY := hid hy
        clear hb2 hk1 hk2 hwr htk hx hy
        by_cases he : x = y
        · subst he
          have hx : ((bs x).toList == (bs x).toList) = true := by simp
          go_wp2_with fail
          go_quiet (fail)
          go_wp2_with fail
          go_roundw
          case rel => exact ⟨i + 1, by go_num, by omega, take_snoc8 HT.out HX.out HY.out rfl, drewN8 HR.out _⟩
          case measure => simp; omega
        · have hd : decide (l = m) = false := decide_eq_false (ne_at8 HX.out HY.out he)
          have HD := hid hd
          clear hd
          have hx : ((bs x).toList == (bs y).toList) = false := by rw [ByteArray.toList_eq, ByteArray.toList_eq, bs_list, bs_list]; exact beq_eq_false_iff_ne.2 he
          go_wp2_with fail
          go_quiet (fail)
          go_wp2_with fail
          go_ret
          exact ⟨by rw [HD.out]; rfl, drewN8 HR.out _⟩
      · have hi2 : i = l.length := by omega
        subst hi2
        have he : l = m := eq_take8 _ htk rfl hl.symm
        have HR := hid hwr
        clear hwr htk
        have HD := hid (decide_eq_true he)
        clear he
        go_wp2_with fail
        go_ret
        exact ⟨by rw [HD.out]; rfl, HR.out⟩
  · have hlI : ((l.length : Int) != (m.length : Int)) = true := by simp; omega
    have he : decide (l = m) = false := decide_eq_false (fun e => hl (by rw [e]))
    rw [he]
    clear he hl
    go_enter Tryz.func126, Tryz.ntmps126
    go_wp2_with fail
    go_ret
    exact ⟨rfl, HW.out⟩
set_option maxHeartbeats 2000000 in
set_option maxRecDepth 100000 in
theorem sleq_C {W0 w : World} (hb : Below W0.heap.size W0 w) {v1 v2 : Value} {l m : List (Nat × Nat)} (h1 : SlR 2 CaC W0 v1 l) (h2 : SlR 2 CaC W0 v2 m) :
    Calls Tryz.prog 130 #[v1, v2] w fun e w' => e = .returned (.bool (decide (l = m))) ∧ Below w.heap.size w w' := by
  have hn1 := h1.lenA
  have HB := hid hb
  obtain ⟨a1, c1, rfl, -⟩ := h1.shape
  obtain ⟨a2, c2, rfl, -⟩ := h2.shape
  have H1 := hid h1
  have H2 := hid h2
  have HW := hid (Below.refl w.heap.size w)
  clear hb h1 h2
  by_cases hl : l.length = m.length
  · have hlI : ((l.length : Int) != (m.length : Int)) = false := by simp [hl]
    go_enter Tryz.func130, Tryz.ntmps130
    go_wp2_with fail
    clear hlI
    go_loopw [13, 5] (fun s13 s5 wr => ∃ i : Nat, s13 = .int .i64 (i : Int) ∧ i ≤ l.length ∧ l.take i = m.take i ∧ Below w.heap.size w wr) (fun s13 _ _ => l.length - (match s13 with | .int _ i => i.toNat | _ => 0))
    case atStart => exact ⟨0, rfl, Nat.zero_le _, by simp, HW.out⟩
    case round =>
      obtain ⟨i, rfl, hi, htk, hwr⟩ := hrel
      by_cases hlt : i < l.length
      · have hltI : (i : Int) < (l.length : Int) := by omega
        have hltM : (i : Int) < (m.length : Int) := by omega
        have hw1 : IntKind.i64.wrap ((i : Int) + 1) = (i : Int) + 1 := IntWalk.i64_in _ (by omega)
        obtain ⟨x, hx⟩ : ∃ x, l[i]? = some x := ⟨l[i], List.getElem?_eq_getElem hlt⟩
        obtain ⟨y, hy⟩ : ∃ y, m[i]? = some y := ⟨m[i]'(by omega), List.getElem?_eq_getElem (by omega)⟩
        obtain ⟨k1, rfl, hk1, q0, q1⟩ := cas_at H1.out hx
        obtain ⟨k2, rfl, hk2, r0, r1⟩ := cas_at H2.out hy
        have hb2 := HB.out.trans (hwr.mono HB.out.size)
        have q0 := (hb2.cell (p := ⟨k1, i * 2, none⟩) hk1).trans q0
        have r0 := (hb2.cell (p := ⟨k2, i * 2, none⟩) hk2).trans r0
        have q1 := (hb2.cell (p := ⟨k1, i * 2 + 1, none⟩) hk1).trans q1
        have r1 := (hb2.cell (p := ⟨k2, i * 2 + 1, none⟩) hk2).trans r1
        have HR := hid hwr
        have HT := hid htk
        have HX := hid hx
        have HY := hid hy
        clear hb2 hk1 hk2 hwr htk hx hy
        by_cases he : x = y
        · subst he
          skip
          go_wp2_with fail
          go_quiet (fail)
          go_wp2_with fail
          go_roundw
          case rel => exact ⟨i + 1, by go_num, by omega, take_snoc8 HT.out HX.out HY.out rfl, drewN8 HR.out _⟩
          case measure => simp; omega
        · have hd : decide (l = m) = false := decide_eq_false (ne_at8 HX.out HY.out he)
          have HD := hid hd
          clear hd
          by_cases h1 : x.1 = y.1
          · have h2 : ¬ x.2 = y.2 := fun e => he (Prod.ext h1 e)
            have g1 : (x.1 : Int) = (y.1 : Int) := by rw [h1]
            have g2 : ¬ (x.2 : Int) = (y.2 : Int) := by omega
            go_wp2_with fail
            go_quiet (fail)
            go_wp2_with fail
            go_ret
            exact ⟨by rw [HD.out]; rfl, drewN8 HR.out _⟩
          · have g1 : ¬ (x.1 : Int) = (y.1 : Int) := by omega
            go_wp2_with fail
            go_quiet (fail)
            go_wp2_with fail
            go_ret
            exact ⟨by rw [HD.out]; rfl, drewN8 HR.out _⟩
      · have hi2 : i = l.length := by omega
        subst hi2
        have he : l = m := eq_take8 _ htk rfl hl.symm
        have HR := hid hwr
        clear hwr htk
        have HD := hid (decide_eq_true he)
        clear he
        go_wp2_with fail
        go_ret
        exact ⟨by rw [HD.out]; rfl, HR.out⟩
  · have hlI : ((l.length : Int) != (m.length : Int)) = true := by simp; omega
    have he : decide (l = m) = false := decide_eq_false (fun e => hl (by rw [e]))
    rw [he]
    clear he hl
    go_enter Tryz.func130, Tryz.ntmps130
    go_wp2_with fail
    go_ret
    exact ⟨rfl, HW.out⟩
set_option maxHeartbeats 2000000 in
set_option maxRecDepth 100000 in
theorem sleq_U {W0 w : World} (hb : Below W0.heap.size W0 w) {v1 v2 : Value} {l m : List (List UInt8 × Nat)} (h1 : SlR 2 SuC W0 v1 l) (h2 : SlR 2 SuC W0 v2 m) :
    Calls Tryz.prog 170 #[v1, v2] w fun e w' => e = .returned (.bool (decide (l = m))) ∧ Below w.heap.size w w' := by
  have hn1 := h1.lenA
  have HB := hid hb
  obtain ⟨a1, c1, rfl, -⟩ := h1.shape
  obtain ⟨a2, c2, rfl, -⟩ := h2.shape
  have H1 := hid h1
  have H2 := hid h2
  have HW := hid (Below.refl w.heap.size w)
  clear hb h1 h2
  by_cases hl : l.length = m.length
  · have hlI : ((l.length : Int) != (m.length : Int)) = false := by simp [hl]
    go_enter Tryz.func170, Tryz.ntmps170
    go_wp2_with fail
    clear hlI
    go_loopw [13, 5] (fun s13 s5 wr => ∃ i : Nat, s13 = .int .i64 (i : Int) ∧ i ≤ l.length ∧ l.take i = m.take i ∧ Below w.heap.size w wr) (fun s13 _ _ => l.length - (match s13 with | .int _ i => i.toNat | _ => 0))
    case atStart => exact ⟨0, rfl, Nat.zero_le _, by simp, HW.out⟩
    case round =>
      obtain ⟨i, rfl, hi, htk, hwr⟩ := hrel
      by_cases hlt : i < l.length
      · have hltI : (i : Int) < (l.length : Int) := by omega
        have hltM : (i : Int) < (m.length : Int) := by omega
        have hw1 : IntKind.i64.wrap ((i : Int) + 1) = (i : Int) + 1 := IntWalk.i64_in _ (by omega)
        obtain ⟨x, hx⟩ : ∃ x, l[i]? = some x := ⟨l[i], List.getElem?_eq_getElem hlt⟩
        obtain ⟨y, hy⟩ : ∃ y, m[i]? = some y := ⟨m[i]'(by omega), List.getElem?_eq_getElem (by omega)⟩
        obtain ⟨k1, rfl, hk1, q0, q1⟩ := subs_at H1.out hx
        obtain ⟨k2, rfl, hk2, r0, r1⟩ := subs_at H2.out hy
        have hb2 := HB.out.trans (hwr.mono HB.out.size)
        have q0 := (hb2.cell (p := ⟨k1, i * 2, none⟩) hk1).trans q0
        have r0 := (hb2.cell (p := ⟨k2, i * 2, none⟩) hk2).trans r0
        have q1 := (hb2.cell (p := ⟨k1, i * 2 + 1, none⟩) hk1).trans q1
        have r1 := (hb2.cell (p := ⟨k2, i * 2 + 1, none⟩) hk2).trans r1
        have HR := hid hwr
        have HT := hid htk
        have HX := hid hx
        have HY := hid hy
        clear hb2 hk1 hk2 hwr htk hx hy
        by_cases he : x = y
        · subst he
          skip
          go_wp2_with fail
          go_quiet (fail)
          go_wp2_with fail
          go_roundw
          case rel => exact ⟨i + 1, by go_num, by omega, take_snoc8 HT.out HX.out HY.out rfl, drewN8 HR.out _⟩
          case measure => simp; omega
        · have hd : decide (l = m) = false := decide_eq_false (ne_at8 HX.out HY.out he)
          have HD := hid hd
          clear hd
          by_cases h1 : x.1 = y.1
          · have h2 : ¬ x.2 = y.2 := fun e => he (Prod.ext h1 e)
            have g1 : (bs x.1).toList = (bs y.1).toList := by rw [h1]
            have g2 : ¬ (x.2 : Int) = (y.2 : Int) := by omega
            go_wp2_with fail
            go_quiet (fail)
            go_wp2_with fail
            go_ret
            exact ⟨by rw [HD.out]; rfl, drewN8 HR.out _⟩
          · have g1 : ¬ (bs x.1).toList = (bs y.1).toList := fun e => h1 (bs_inj8 e)
            go_wp2_with fail
            go_quiet (fail)
            go_wp2_with fail
            go_ret
            exact ⟨by rw [HD.out]; rfl, drewN8 HR.out _⟩
      · have hi2 : i = l.length := by omega
        subst hi2
        have he : l = m := eq_take8 _ htk rfl hl.symm
        have HR := hid hwr
        clear hwr htk
        have HD := hid (decide_eq_true he)
        clear he
        go_wp2_with fail
        go_ret
        exact ⟨by rw [HD.out]; rfl, HR.out⟩
  · have hlI : ((l.length : Int) != (m.length : Int)) = true := by simp; omega
    have he : decide (l = m) = false := decide_eq_false (fun e => hl (by rw [e]))
    rw [he]
    clear he hl
    go_enter Tryz.func170, Tryz.ntmps170
    go_wp2_with fail
    go_ret
    exact ⟨rfl, HW.out⟩
set_option maxHeartbeats 2000000 in
set_option maxRecDepth 100000 in
theorem sleq_K {W0 w : World} (hb : Below W0.heap.size W0 w) {v1 v2 : Value} {l m : List (List UInt8 × Nat)} (h1 : SlR 2 CoC W0 v1 l) (h2 : SlR 2 CoC W0 v2 m) :
    Calls Tryz.prog 80 #[v1, v2] w fun e w' => e = .returned (.bool (decide (l = m))) ∧ Below w.heap.size w w' := by
  have hn1 := h1.lenA
  have HB := hid hb
  obtain ⟨a1, c1, rfl, -⟩ := h1.shape
  obtain ⟨a2, c2, rfl, -⟩ := h2.shape
  have H1 := hid h1
  have H2 := hid h2
  have HW := hid (Below.refl w.heap.size w)
  clear hb h1 h2
  by_cases hl : l.length = m.length
  · have hlI : ((l.length : Int) != (m.length : Int)) = false := by simp [hl]
    go_enter Tryz.func80, Tryz.ntmps80
    go_wp2_with fail
    clear hlI
    go_loopw [13, 5] (fun s13 s5 wr => ∃ i : Nat, s13 = .int .i64 (i : Int) ∧ i ≤ l.length ∧ l.take i = m.take i ∧ Below w.heap.size w wr) (fun s13 _ _ => l.length - (match s13 with | .int _ i => i.toNat | _ => 0))
    case atStart => exact ⟨0, rfl, Nat.zero_le _, by simp, HW.out⟩
    case round =>
      obtain ⟨i, rfl, hi, htk, hwr⟩ := hrel
      by_cases hlt : i < l.length
      · have hltI : (i : Int) < (l.length : Int) := by omega
        have hltM : (i : Int) < (m.length : Int) := by omega
        have hw1 : IntKind.i64.wrap ((i : Int) + 1) = (i : Int) + 1 := IntWalk.i64_in _ (by omega)
        obtain ⟨x, hx⟩ : ∃ x, l[i]? = some x := ⟨l[i], List.getElem?_eq_getElem hlt⟩
        obtain ⟨y, hy⟩ : ∃ y, m[i]? = some y := ⟨m[i]'(by omega), List.getElem?_eq_getElem (by omega)⟩
        obtain ⟨k1, rfl, hk1, q0, q1⟩ := cos_at H1.out hx
        obtain ⟨k2, rfl, hk2, r0, r1⟩ := cos_at H2.out hy
        have hb2 := HB.out.trans (hwr.mono HB.out.size)
        have q0 := (hb2.cell (p := ⟨k1, i * 2, none⟩) hk1).trans q0
        have r0 := (hb2.cell (p := ⟨k2, i * 2, none⟩) hk2).trans r0
        have q1 := (hb2.cell (p := ⟨k1, i * 2 + 1, none⟩) hk1).trans q1
        have r1 := (hb2.cell (p := ⟨k2, i * 2 + 1, none⟩) hk2).trans r1
        have HR := hid hwr
        have HT := hid htk
        have HX := hid hx
        have HY := hid hy
        clear hb2 hk1 hk2 hwr htk hx hy
        by_cases he : x = y
        · subst he
          skip
          go_wp2_with fail
          go_quiet (fail)
          go_wp2_with fail
          go_roundw
          case rel => exact ⟨i + 1, by go_num, by omega, take_snoc8 HT.out HX.out HY.out rfl, drewN8 HR.out _⟩
          case measure => simp; omega
        · have hd : decide (l = m) = false := decide_eq_false (ne_at8 HX.out HY.out he)
          have HD := hid hd
          clear hd
          by_cases h1 : x.1 = y.1
          · have h2 : ¬ x.2 = y.2 := fun e => he (Prod.ext h1 e)
            have g1 : (bs x.1).toList = (bs y.1).toList := by rw [h1]
            have g2 : ¬ (x.2 : Int) = (y.2 : Int) := by omega
            go_wp2_with fail
            go_quiet (fail)
            go_wp2_with fail
            go_ret
            exact ⟨by rw [HD.out]; rfl, drewN8 HR.out _⟩
          · have g1 : ¬ (bs x.1).toList = (bs y.1).toList := fun e => h1 (bs_inj8 e)
            go_wp2_with fail
            go_quiet (fail)
            go_wp2_with fail
            go_ret
            exact ⟨by rw [HD.out]; rfl, drewN8 HR.out _⟩
      · have hi2 : i = l.length := by omega
        subst hi2
        have he : l = m := eq_take8 _ htk rfl hl.symm
        have HR := hid hwr
        clear hwr htk
        have HD := hid (decide_eq_true he)
        clear he
        go_wp2_with fail
        go_ret
        exact ⟨by rw [HD.out]; rfl, HR.out⟩
  · have hlI : ((l.length : Int) != (m.length : Int)) = true := by simp; omega
    have he : decide (l = m) = false := decide_eq_false (fun e => hl (by rw [e]))
    rw [he]
    clear he hl
    go_enter Tryz.func80, Tryz.ntmps80
    go_wp2_with fail
    go_ret
    exact ⟨rfl, HW.out⟩
end Go.Proofs.YthcdohggffpopaaGreatDoor
