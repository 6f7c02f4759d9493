/- Contracts of layer 3: a number split; package bits. -/
import Derived.Test.YtkalflhepnbppaaBitsD
namespace Go.Proofs.Ytkalflhepnbppaa
open Go.ChangeShapes Go.WideShapes Go.ChangeAt Go.RowKit
set_option linter.unusedVariables false

theorem info_u64 : (Try.prog.info? 23).map (fun i => (i.zero, i.size, i.bytes)) = some (some (.int .u64 0), 1, 8) := by kernel_rfl

section
variable {B B' g k : Nat} {w w' : World} {l : List Int}
theorem FRow.block (h : FRow B w g l k) (hb : w'.heap[g]? = w.heap[g]?) : FRow B w' g l k := by
  obtain ⟨h1, h2⟩ := h
  refine ⟨h1, ?_⟩
  rcases h2 with h2 | ⟨g', cap', cur, hv, hg, hh, r⟩
  · exact Or.inl h2
  · refine Or.inr ⟨g', cap', cur, hv, hg, ?_, r⟩
    simp only [Value.slice.injEq, Option.some.injEq, Addr.mk.injEq, and_true, true_and] at hv
    rw [← hv.1, hb, hv.1]
    exact hh
theorem FRow.lt (h : FRow B w g l k) : B ≤ g ∧ g < w.heap.size := World.ownsRow.lt h g rfl
theorem FRow.below (h : FRow B w g l k) (hb : Below B' w w') (hg : g < B') : FRow B w' g l k := h.block (hb.block g hg)
theorem FRow.setOther (h : FRow B w g l k) {a : Addr} (ha : g ≠ a.block) (u : Value) : FRow B (w.setCell a u) g l k := h.block (Below.heap_setCell _ _ _ _ ha)
theorem FRow.alloc (h : FRow B w g l k) (o : Obj) : FRow B (w.alloc o) g l k := h.block (Below.heap_alloc _ _ _ h.lt.2)
theorem FRow.drewN (h : FRow B w g l k) (n : Nat) : FRow B (w.drewN n) g l k := h.block rfl
/-- A field's two cells. -/
theorem FRow.cells (h : FRow B w g l l.length) {j : Nat} (hj : j < l.length) : w.cell? ⟨g, j * 2, none⟩ = some (.int .i64 (rst l (j + 1) : Nat)) ∧ w.cell? ⟨g, j * 2 + 1, none⟩ = some (.int .i64 (el l j)) := by
  have h0 := fcell0 h hj
  have h1 := fcell1 h hj
  rw [if_pos hj] at h0 h1
  exact ⟨h0, h1⟩
end

set_option maxHeartbeats 1000000 in
theorem Split_ok (n : Nat) (t : Int) (a : Option Addr) (cap : Nat) (l : List Int) (w : World) (h : Rd .i64 w a l) (hg : goesB t l = true) (hn : n < 2 ^ t.toNat) :
    Calls Try.prog 14 #[.int .u64 n, .int .i64 t, .slice a l.length cap] w fun e w' => ∃ g, e = .returned (.tuple #[.slice (some ⟨g, 0, none⟩) l.length l.length, .int .i64 0]) ∧ Row 23 .u64 w.heap.size w' g l.length (partsL n l) ∧ Below w.heap.size w w' := by
  have G := goes_of hg
  obtain ⟨g1, g2⟩ := G.len
  obtain ⟨t1, t2⟩ := G.total
  have hn64 : n < 18446744073709551616 := Nat.lt_of_lt_of_le hn (show 2 ^ t.toNat ≤ 2 ^ 64 from Nat.pow_le_pow_right (by decide) (by omega))
  have C := Lib.hid (Lay_ok t a cap l w h hg)
  have hF : ∀ w, Calls Try.prog 23 #[.int .u64 n, .int .i64 t] w fun e w' => e = .returned (.bool true) ∧ w = w' := fun w => by
    have c := Fits_any n t ⟨by omega, by omega⟩ (wf_i64 (by omega) (by omega)) w
    rw [show decide ((n : Int) ≤ maskV t) = true from by
      rw [decide_eq_true_iff]
      unfold maskV
      rw [show min t.toNat 64 = t.toNat from by omega]
      have : (2 : Int) ^ t.toNat = ((2 ^ t.toNat : Nat) : Int) := by simp
      omega] at c
    exact c
  have HF := Lib.hid hF
  have hP := fun b d w => Get_any n b d hn64 w
  have HP := Lib.hid hP
  have HG := Lib.hid G
  have HN := Lib.hid hn
  clear h hg hF hP G hn
  obtain ⟨i0, hi, hz0, hz1, hz2⟩ := info_parts info_u64
  go_enter Try.func14, Try.ntmps14
  go_wp2_with fail
  refine C.out.mono ?_; rintro e w1 ⟨rfl, hfr, hb1⟩
  have hw1 := hfr.lt.2
  go_wp2_with (first | ((with_reducible refine (HF.out _).mono ?_); rintro e w' ⟨rfl, rfl⟩) | (at_make; refine wpList_make_full _ rfl _ _ 35 rfl w.heap.size 23 i0 (.int .u64 0) 1 Try.underlying35 hi hz0 hz1 _ _ _ _ l.length rfl rfl rfl rfl (by rw [hz2]; omega) (by unfold maxLen; omega) hb1.size ?_; intro w2 hown2 hgrow2))
  have hr0 : Row 23 .u64 w.heap.size w2 w1.heap.size l.length (partsTo n l 0) := by
    refine Row.of_own hown2 (partsTo_length n l 0).symm ?_
    rw [partsTo_zero]
    simp only [Value.cells, Nat.mul_one, toList_madeCells_one, List.map_replicate]
  have hb2 : Below w.heap.size w w2 := hb1.grown hgrow2 hb1.size (by simp)
  have hf2 : FRow w.heap.size w2 w.heap.size l l.length := hfr.block (hgrow2.block _ hw1 (by simp))
  clear hown2 hgrow2 hi hz0 hz1 hz2
  go_wp2_with fail
  obtain ⟨g2, hg2, hg2'⟩ : ∃ g2, Hid (g2 = w1.heap.size) ∧ w.heap.size < g2 := ⟨_, Lib.hid rfl, hw1⟩
  rw [← hg2.out] at hr0 ⊢
  go_loopw [31] (fun i wr => ∃ k : Nat, k ≤ l.length ∧ i = .int .i64 k ∧ FRow w.heap.size wr w.heap.size l l.length ∧ Row 23 .u64 w.heap.size wr g2 l.length (partsTo n l k) ∧ Below w.heap.size w wr) (fun i _ => l.length - (intOf i).toNat)
  case atStart => exact ⟨0, by omega, rfl, hf2, hr0, hb2⟩
  case round =>
    obtain ⟨k, hk, rfl, hf, hr, hb⟩ := hrel
    by_cases hlt : k < l.length
    · obtain ⟨c0, c1⟩ := hf.cells hlt
      obtain ⟨b, HB⟩ : ∃ b : Nat, Hid (b = rst l (k + 1)) := ⟨_, Lib.hid rfl⟩
      obtain ⟨d, HD⟩ : ∃ d : Int, Hid (d = el l k) := ⟨_, Lib.hid rfl⟩
      rw [← HB.out] at c0
      rw [← HD.out] at c1
      go_wp2_with fail
      refine (HP.out _ _ _).mono ?_; rintro e w3 ⟨rfl, hb3⟩
      have hf3 := (hf.alloc (.cells #[.int .i64 b, .int .i64 d] 30)).below hb3 (by have := hf.lt.2; simp; try omega)
      have hr3 := (hr.alloc (.cells #[.int .i64 b, .int .i64 d] 30)).below hb3 (by have := hr.lt.2; simp; try omega)
      have hbb := chain (hb.alloc hb.size (.cells #[.int .i64 b, .int .i64 d] 30)) (by have := hb.size; simp; try omega) hb3
      clear hb3 hf hr hb
      obtain ⟨v, HV⟩ : ∃ v : Nat, Hid (v = partV n b d) := ⟨_, Lib.hid rfl⟩
      rw [← HV.out]
      have cc := hr3.cell (j := k) (by rw [partsTo_length]; exact hlt)
      have ff := hr3.frozen k
      go_wp2_with fail
      go_roundw
      case rel =>
        refine ⟨k + 1, by omega, by go_num, hf3.setOther (by simp; try omega) _, ?_, hbb.setCell (by simp; try omega) _⟩
        have e : (v : Int) = (part n (rst l (k + 1)) (wd l k) : Nat) := by
          obtain ⟨q1, q2, q3⟩ := goes_wd HG.out hlt
          rw [HV.out, HB.out, HD.out, q1, partV_in (goes_rst_lt HG.out hlt).2.1 q2 q3]
        rw [partsTo_succ, ← e]
        exact hr3.set k _
      case measure => simp [intOf]; omega
    · obtain rfl : k = l.length := by omega
      go_wp2
      go_ret2
      rw [partsTo_all] at hr
      exact ⟨g2, rfl, hr, hb⟩

/-- What a split returns: the parts, and an error's number. -/
noncomputable def splitR (n : Nat) (t : Int) (l : List Int) : List Int × Int := if goesB t l = true then (if n < 2 ^ t.toNat then (partsL n l, 0) else ([], 5)) else ([], 2)
def SplitPost (r : List Int × Int) (w : World) (e : Ending) (w' : World) : Prop :=
  ∃ (a : Option Addr) (c : Nat), e = .returned (.tuple #[.slice a r.1.length c, .int .i64 r.2]) ∧ Rd .u64 w' a r.1 ∧ Below w.heap.size w w'
theorem SplitPost.void {r : List Int × Int} {x : Int} {w w' : World} (h : r = ([], x)) (hb : Below w.heap.size w w') : SplitPost r w (.returned (.tuple #[.slice none 0 0, .int .i64 x])) w' := by
  subst h; exact ⟨none, 0, rfl, Rd.nil _ _ _, hb⟩

theorem Split_far (n : Nat) (t : Int) (a : Option Addr) (cap : Nat) (l : List Int) (w : World) (h : Rd .i64 w a l) (hg : goesB t l = true) (hn : 2 ^ t.toNat ≤ n) (hn64 : n < 18446744073709551616) :
    Calls Try.prog 14 #[.int .u64 n, .int .i64 t, .slice a l.length cap] w (SplitPost (splitR n t l) w) := by
  have hr : splitR n t l = ([], 5) := by unfold splitR; rw [if_pos hg, if_neg (by omega)]
  have G := goes_of hg
  obtain ⟨t1, t2⟩ := G.total
  have C := Lib.hid (Lay_ok t a cap l w h hg)
  have hF : ∀ w, Calls Try.prog 23 #[.int .u64 n, .int .i64 t] w fun e w' => e = .returned (.bool false) ∧ w = w' := fun w => by
    have c := Fits_any n t ⟨by omega, by omega⟩ (wf_i64 (by omega) (by omega)) w
    rw [show decide ((n : Int) ≤ maskV t) = false from by
      rw [decide_eq_false_iff_not]
      unfold maskV
      rw [show min t.toNat 64 = t.toNat from by omega]
      have : (2 : Int) ^ t.toNat = ((2 ^ t.toNat : Nat) : Int) := by simp
      omega] at c
    exact c
  have HF := Lib.hid hF
  have HR := Lib.hid hr
  clear h hg hF G hn hr
  go_enter Try.func14, Try.ntmps14
  go_wp2_with fail
  refine C.out.mono ?_; rintro e w1 ⟨rfl, hfr, hb1⟩
  go_wp2_with ((with_reducible refine (HF.out _).mono ?_); rintro e w' ⟨rfl, rfl⟩)
  go_ret2
  exact SplitPost.void HR.out hb1

theorem Split_no (n : Nat) (t : Int) (a : Option Addr) (cap : Nat) (l : List Int) (w : World) (h : Rd .i64 w a l) (hl : l.length ≤ maxLen) (hg : goesB t l = false) :
    Calls Try.prog 14 #[.int .u64 n, .int .i64 t, .slice a l.length cap] w (SplitPost (splitR n t l) w) := by
  have hr : splitR n t l = ([], 2) := by unfold splitR; rw [if_neg (by rw [hg]; decide)]
  have C := Lib.hid (Lay_no t a cap l w hl h hg)
  have HR := Lib.hid hr
  clear h hg hr
  go_enter Try.func14, Try.ntmps14
  go_wp2_with (refine C.out.mono ?_; rintro e w1 ⟨rfl, rfl⟩)
  go_ret2
  exact SplitPost.void HR.out (Below.refl _ _)

/-- A number split, package bits. -/
theorem Split_any (n : Nat) (t : Int) (a : Option Addr) (cap : Nat) (l : List Int) (w : World) (h : Rd .i64 w a l) (hl : l.length ≤ maxLen) (hn64 : n < 18446744073709551616) :
    Calls Try.prog 14 #[.int .u64 n, .int .i64 t, .slice a l.length cap] w (SplitPost (splitR n t l) w) := by
  by_cases hg : goesB t l = true
  · by_cases hn : n < 2 ^ t.toNat
    · refine (Split_ok n t a cap l w h hg hn).mono ?_
      rintro e w' ⟨g, rfl, hr, hb⟩
      have e1 : splitR n t l = (partsL n l, 0) := by unfold splitR; rw [if_pos hg, if_pos hn]
      rw [e1]
      exact ⟨_, l.length, by rw [partsL_length], Rd.of_row hr, hb⟩
    · exact Split_far n t a cap l w h hg (by omega) hn64
  · exact Split_no n t a cap l w h hl (by simpa using hg)

end Go.Proofs.Ytkalflhepnbppaa
