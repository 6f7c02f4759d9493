/- Contracts of layer 3: the fields of widths. -/
import Derived.Test.YtkalflhepnbppaaBitsC
namespace Go.Proofs.Ytkalflhepnbppaa
open Go.ChangeShapes Go.WideShapes Go.ChangeAt Go.RowKit
set_option linter.unusedVariables false

theorem info_field : (Try.prog.info? 30).map (fun i => (i.zero, i.size, i.bytes)) = some (some (.agg #[.int .i64 0, .int .i64 0]), 2, 16) := by kernel_rfl

/-- The cells of the fields: those below place k filled. -/
def fcells (l : List Int) (k : Nat) : List Value := (List.range (l.length * 2)).map fun j => if j < k * 2 then (if j % 2 = 0 then .int .i64 (rst l (j / 2 + 1) : Nat) else .int .i64 (el l (j / 2))) else .int .i64 0

/-- The slice of fields at block g. -/
def FRow (B : Nat) (w : World) (g : Nat) (l : List Int) (k : Nat) : Prop :=
  w.ownsRow B 30 2 (.slice (some ⟨g, 0, none⟩) l.length l.length) l.length (fcells l k)

theorem fcells_made (l : List Int) : (madeCells (Value.agg #[Value.int IntKind.i64 0, Value.int IntKind.i64 0]).cells (l.length * 2)).toList = fcells l 0 := by
  apply List.ext_getElem (by simp [madeCells, fcells])
  intro j h1 h2
  simp [madeCells, fcells, Value.cells]
  rcases Nat.mod_two_eq_zero_or_one j with e | e <;> simp [e]
theorem fcells_length (l : List Int) (k : Nat) : (fcells l k).length = l.length * 2 := by simp [fcells]
theorem fcell0 {B g : Nat} {w : World} {l : List Int} {k j : Nat} (h : FRow B w g l k) (hj : j < l.length) : w.cell? ⟨g, j * 2, none⟩ = some (.int .i64 (if j < k then (rst l (j + 1) : Nat) else 0)) := by
  rw [h.cellAt (j * 2) (by omega)]
  unfold fcells
  rw [List.getElem?_map, List.getElem?_range (by omega)]
  simp only [Option.map_some, Nat.mul_mod_left, if_true, Nat.mul_div_cancel j (show 0 < 2 from by decide)]
  by_cases e : j < k
  · rw [if_pos (by omega), if_pos e]
  · rw [if_neg (by omega), if_neg e]
theorem fcell1 {B g : Nat} {w : World} {l : List Int} {k j : Nat} (h : FRow B w g l k) (hj : j < l.length) : w.cell? ⟨g, j * 2 + 1, none⟩ = some (.int .i64 (if j < k then el l j else 0)) := by
  rw [h.cellAt (j * 2 + 1) (by omega)]
  unfold fcells
  rw [List.getElem?_map, List.getElem?_range (by omega)]
  have e1 : (j * 2 + 1) % 2 = 1 := by omega
  have e2 : (j * 2 + 1) / 2 = j := by omega
  simp only [Option.map_some, e1, e2]
  by_cases e : j < k
  · rw [if_pos (by omega), if_pos e]; rfl
  · rw [if_neg (by omega), if_neg e]
theorem fcells_succ (l : List Int) (k : Nat) (hk : k < l.length) : fcells l (k + 1) = ((fcells l k).set (k * 2) (.int .i64 (rst l (k + 1) : Nat))).set (k * 2 + 1) (.int .i64 (el l k)) := by
  apply List.ext_getElem (by simp [fcells])
  intro j h1 h2
  rw [List.getElem_set, List.getElem_set]
  simp only [fcells, List.getElem_map, List.getElem_range]
  by_cases e1 : k * 2 + 1 = j
  · subst e1
    rw [if_pos (by omega), if_pos rfl, if_neg (by omega), show (k * 2 + 1) / 2 = k from by omega]
  · rw [if_neg e1]
    by_cases e2 : k * 2 = j
    · subst e2
      rw [if_pos (by omega), if_pos rfl, if_pos (by omega), show k * 2 / 2 = k from by omega]
    · rw [if_neg e2]
      by_cases e3 : j < k * 2
      · rw [if_pos e3, if_pos (by omega)]
      · rw [if_neg e3, if_neg (by omega)]
theorem FRow.set {B g : Nat} {w : World} {l : List Int} {k : Nat} (h : FRow B w g l k) (hk : k < l.length) : FRow B ((w.setCell ⟨g, k * 2, none⟩ (.int .i64 (rst l (k + 1) : Nat))).setCell ⟨g, k * 2 + 1, none⟩ (.int .i64 (el l k))) g l (k + 1) := by
  have h1 := (World.ownsRow.stored h (k * 2) (.int .i64 (rst l (k + 1) : Nat))).1
  have h2 := (World.ownsRow.stored h1 (k * 2 + 1) (.int .i64 (el l k))).1
  unfold FRow
  rw [fcells_succ l k hk]
  exact h2

theorem Lay_no (t : Int) (a : Option Addr) (cap : Nat) (l : List Int) (w : World) (hl : l.length ≤ maxLen) (h : Rd .i64 w a l) (hg : goesB t l = false) :
    Calls Try.prog 8 #[.int .i64 t, .slice a l.length cap] w fun e w' => e = .returned (.tuple #[.slice none 0 0, .int .i64 2]) ∧ w = w' := by
  have c := fit_any t a cap l w hl h
  rw [hg] at c
  have C := Lib.hid c
  clear c
  have HG := Lib.hid hg
  clear hg
  go_enter Try.func8, Try.ntmps8
  go_wp2_with (refine C.out.mono ?_; rintro e w' ⟨rfl, rfl⟩)
  go_ret2
  exact ⟨rfl, rfl⟩

set_option maxHeartbeats 400000 in
theorem Lay_ok (t : Int) (a : Option Addr) (cap : Nat) (l : List Int) (w : World) (h : Rd .i64 w a l) (hg : goesB t l = true) :
    Calls Try.prog 8 #[.int .i64 t, .slice a l.length cap] w fun e w' => e = .returned (.tuple #[.slice (some ⟨w.heap.size, 0, none⟩) l.length l.length, .int .i64 0]) ∧ FRow w.heap.size w' w.heap.size l l.length ∧ Below w.heap.size w w' := by
  have G := goes_of hg
  obtain ⟨g1, g2⟩ := G.len
  obtain ⟨t1, t2⟩ := G.total
  have c := fit_any t a cap l w (by unfold maxLen; omega) h
  rw [hg] at c
  have C := Lib.hid c
  have HG := Lib.hid G
  have H := Lib.hid h
  clear c hg G h
  obtain ⟨i0, hi, hz0, hz1, hz2⟩ := info_parts info_field
  go_enter Try.func8, Try.ntmps8
  go_wp2_with (first | (refine C.out.mono ?_; rintro e w' ⟨rfl, rfl⟩) | (at_make; refine wpList_make_full _ rfl _ _ 24 rfl w.heap.size 30 i0 _ 2 Try.underlying24 hi hz0 hz1 _ _ _ _ l.length rfl rfl rfl rfl (by rw [hz2]; omega) (by unfold maxLen; omega) (Nat.le_refl _) ?_; intro w0 hown0 hgrow0))
  have hr0 : FRow w.heap.size w0 w.heap.size l 0 := by
    have e : (madeCells (Value.agg #[Value.int IntKind.i64 0, Value.int IntKind.i64 0]).cells (l.length * 2)).toList = fcells l 0 := fcells_made l
    unfold FRow
    rw [← e]
    exact hown0
  have hb0 : Below w.heap.size w w0 := (Below.refl _ _).grown hgrow0 (Nat.le_refl _) (by simp)
  clear hown0 hgrow0 hi hz0 hz1 hz2
  go_loopw [7, 20] (fun r i wr => ∃ (k s : Nat), k ≤ l.length ∧ i = .int .i64 k ∧ r = .int .i64 s ∧ s ≤ 64 ∧ Hid (s = rst l k) ∧ FRow w.heap.size wr w.heap.size l k ∧ Below w.heap.size w wr) (fun _ i _ => l.length - (intOf i).toNat)
  case atStart => exact ⟨0, t.toNat, by omega, rfl, by rw [show ((t.toNat : Nat) : Int) = t from by omega], by omega, Lib.hid (goes_rst_zero HG.out).symm, hr0, hb0⟩
  case round =>
    obtain ⟨k, s, hk, rfl, rfl, hs, HS, hr, hb⟩ := hrel
    by_cases hlt : k < l.length
    · obtain ⟨x, rfl, hx, hc0⟩ := H.out.at_ hlt
      have hc : wr.cell? (x.add k) = some (.int .i64 (el l k)) := by rw [← hc0]; exact hb.cell (by rw [block_add]; exact hx)
      obtain ⟨y, HY, hy1, hy2⟩ : ∃ y, Hid (y = wd l k) ∧ 1 ≤ y ∧ y ≤ s := ⟨_, Lib.hid rfl, (goes_wd HG.out hlt).2.1, by rw [HS.out, rst_step hlt]; omega⟩
      rw [(goes_wd HG.out hlt).1, ← HY.out] at hc
      clear hc0
      have f0 := hr.frozenAt (k * 2)
      have f1 := hr.frozenAt (k * 2 + 1)
      have c0 := fcell0 hr hlt
      have c1 := fcell1 hr hlt
      go_wp2
      go_roundw
      case rel =>
        have e1 : ((s : Int) - (y : Int)) = ((s - y : Nat) : Int) := by omega
        have e2 : s - y = rst l (k + 1) := by rw [HS.out, HY.out, rst_step hlt]; omega
        refine ⟨k + 1, s - y, by omega, by go_num, by rw [e1], by omega, Lib.hid e2, ?_, (hb.setCell (Nat.le_refl _) _).setCell (Nat.le_refl _) _⟩
        rw [e1, e2, HY.out, ← (goes_wd HG.out hlt).1]
        exact hr.set hlt
      case measure => simp [intOf]; omega
    · obtain rfl : k = l.length := by omega
      go_wp2
      go_ret2
      exact ⟨rfl, hr, hb⟩

end Go.Proofs.Ytkalflhepnbppaa
