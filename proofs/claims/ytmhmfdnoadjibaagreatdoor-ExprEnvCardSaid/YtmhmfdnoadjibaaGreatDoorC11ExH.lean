/- Layer 10: the document's Get; Consts. -/
import Derived.Test.YtmhmfdnoadjibaaGreatDoorC11ExL
set_option linter.unusedVariables false
set_option linter.unusedSimpArgs false
namespace Go.Proofs.YtmhmfdnoadjibaaGreatDoor
open Go.Lib (hid)
open Go.ChangeShapes Go.WideShapes Go.ChangeAt Go.RowKit
theorem EnvD.lookD {B : Nat} {w : World} {v : Value} {e : EnvL} (h : EnvD B w v e) : ∃ a c, v = .slice a e.length c ∧ ∀ (i : Nat) x, e[i]? = some x → ∃ k, a = some ⟨k, 0, none⟩ ∧ k < w.heap.size ∧ w.cell? ⟨k, i * 2, none⟩ = some (.string ⟨x.1.toArray⟩) ∧ w.cell? ⟨k, i * 2 + 1, none⟩ = some (.int .u64 x.2) := by
 have h' := h
 rcases id h.2 with ⟨rfl, h0⟩ | ⟨g, cap, cur, rfl, _⟩
 ·obtain rfl : e = [] := List.eq_nil_of_length_eq_zero h0
  exact ⟨none, 0, rfl, fun i x hx => by simp at hx⟩
 ·refine ⟨_, _, rfl, fun i x hx => ⟨g, rfl, (World.ownsRow.lt h' g rfl).2, ?_, ?_⟩⟩
  ·have hi := (List.getElem?_eq_some_iff.1 hx).1
   rw [World.ownsRow.cellAt h' _ (by omega)]; exact (flat_get e hx).1
  ·have hi := (List.getElem?_eq_some_iff.1 hx).1
   rw [World.ownsRow.cellAt h' _ (by omega)]; exact (flat_get e hx).2
theorem getE_step (e : EnvL) {i : Nat} {x : List UInt8 × Int} (h : e[i]? = some x) (s : List UInt8) : getE (e.take (i + 1)) s = if x.1 = s then some x.2 else getE (e.take i) s := by
 rw [List.take_add_one, h]
 exact getE_snoc _ _ _
set_option maxHeartbeats 4000000 in
set_option maxRecDepth 100000 in
theorem dGet_any (B : Nat) (v : Value) (e : EnvL) (s : List UInt8) (w : World) (h : EnvD B w v e) (hl : e.length < 1000000) :
  Calls Tryz.prog 28 #[v, .string ⟨s.toArray⟩] w fun q w' => q = .returned (.tuple #[.int .u64 ((getE e s).getD 0), .bool (getE e s).isSome]) ∧ Below w.heap.size w w' := by
 obtain ⟨a, c, rfl, hc⟩ := h.lookD
 have HC := hid hc
 clear hc h
 go_enter Tryz.func28, Tryz.ntmps28
 go_wp2_with fail
 go_loopw [6, 7, 8] (fun s6 s7 s8 wr => ∃ i : Nat, s8 = .int .i64 i ∧ i ≤ e.length ∧ s6 = .int .u64 ((getE (e.take i) s).getD 0) ∧ s7 = .bool (getE (e.take i) s).isSome ∧ wr = w) (fun s6 s7 s8 _ => e.length - (intOf s8).toNat)
 case atStart => exact ⟨0, rfl, Nat.zero_le _, rfl, rfl, rfl⟩
 case round =>
  obtain ⟨i, rfl, hi, rfl, rfl, rfl⟩ := hrel
  by_cases hil : i < e.length
  ·obtain ⟨x, hx⟩ : ∃ x, e[i]? = some x := ⟨_, List.getElem?_eq_getElem hil⟩
   obtain ⟨k, rfl, kl, k0, k1⟩ := HC.out i x hx
   have hst := getE_step e hx s
   have hil' : (i : Int) < (e.length : Int) := by omega
   by_cases hxs : x.1 = s
   ·have hb : (x.1 == s) = true := by simp [hxs]
    rw [if_pos hxs] at hst
    have HST := hid hst
    have HX := hid hxs
    clear hst hxs
    go_wp2_with fail
    exact ⟨⟨i + 1, by go_num, by omega, by rw [HST.out]; rfl, by rw [HST.out]; rfl, trivial⟩, by simp [intOf]; omega⟩
   ·have hb : (x.1 == s) = false := by simp [hxs]
    rw [if_neg hxs] at hst
    have HST := hid hst
    clear hst hxs
    go_wp2_with fail
    exact ⟨⟨i + 1, by go_num, by omega, by rw [HST.out], by rw [HST.out], trivial⟩, by simp [intOf]; omega⟩
  ·obtain rfl : i = e.length := by omega
   have hil' : ¬ ((e.length : Int) < (e.length : Int)) := by omega
   rw [List.take_length]
   go_wp2_with fail
   go_ret2
   exact ⟨rfl, Below.refl _ _⟩
theorem lit_cells {w : World} {H : Nat} {T : TypeId} {c0 c1 : Value} (h : w.heap[H]? = some (.cells #[c0, c1] T (0, 0))) : ∀ j u, [c0, c1][j]? = some u → w.cell? ((⟨H, 0, none⟩ : Addr).add j) = some u := by
 intro j u hu
 rw [show (⟨H, 0, none⟩ : Addr).add j = ⟨H, j, none⟩ from by unfold Addr.add; split <;> simp_all, cell_of_row _ _ _ _ _ (0, 0) h]
 simpa using hu
theorem ex_info_const : (Tryz.prog.info? 46).map (fun i => (i.zero, i.size, i.bytes)) = some (some (.agg #[.string ⟨#[]⟩, .int .u64 0]), 2, 24) := by kernel_rfl
def ConF (B : Nat) (w : World) (v : Value) (e : EnvL) : Prop := w.ownsRow B 46 2 v e.length (e.flatMap vaC)
theorem rowVar {B : Nat} {E : TypeId} {w : World} {v : Value} {e : EnvL} (h : w.ownsRow B E 2 v e.length (e.flatMap vaC)) : ∃ a c, v = .slice a e.length c ∧ ∀ (i : Nat) x, e[i]? = some x → ∃ k, a = some ⟨k, 0, none⟩ ∧ k < w.heap.size ∧ w.cell? ⟨k, i * 2, none⟩ = some (.string ⟨x.1.toArray⟩) ∧ w.cell? ⟨k, i * 2 + 1, none⟩ = some (.int .u64 x.2) := by
 have h' := h
 rcases id h.2 with ⟨rfl, h0⟩ | ⟨g, cap, cur, rfl, _⟩
 ·obtain rfl : e = [] := List.eq_nil_of_length_eq_zero h0
  exact ⟨none, 0, rfl, fun i x hx => by simp at hx⟩
 ·refine ⟨_, _, rfl, fun i x hx => ⟨g, rfl, (World.ownsRow.lt h' g rfl).2, ?_, ?_⟩⟩
  ·have hi := (List.getElem?_eq_some_iff.1 hx).1
   rw [World.ownsRow.cellAt h' _ (by omega)]; exact (flat_get e hx).1
  ·have hi := (List.getElem?_eq_some_iff.1 hx).1
   rw [World.ownsRow.cellAt h' _ (by omega)]; exact (flat_get e hx).2
set_option maxHeartbeats 4000000 in
set_option maxRecDepth 100000 in
theorem Consts_nil (w : World) : Calls Tryz.prog 30 #[.pointer none] w fun q w' => q = .returned (.slice none 0 0) ∧ Below w.heap.size w w' := by
 go_enter Tryz.func30, Tryz.ntmps30
 go_wp2_with fail
 go_ret
 exact ⟨rfl, Below.refl _ _⟩
set_option maxHeartbeats 4000000 in
set_option maxRecDepth 100000 in
theorem Consts_any (B g : Nat) (v : Value) (e : EnvL) (w : World) (hg : g < w.heap.size) (hc : w.cell? ⟨g, 0, none⟩ = some v) (h : ConF B w v e) (hl : e.length < 1000000) :
  Calls Tryz.prog 30 #[.pointer (some ⟨g, 0, none⟩)] w fun q w' => ∃ v', q = .returned v' ∧ EnvO w.heap.size w' v' e ∧ Below w.heap.size w w' := by
 obtain ⟨a, c, rfl, hcs⟩ := rowVar h
 have HC := hid hcs
 clear hcs h
 obtain ⟨i0, hi, hz0, hz1, hz2⟩ := info_parts ex_info_var
 go_enter Tryz.func30, Tryz.ntmps30
 go_wp2_with fail
 go_loopw [3, 13] (fun s3 s13 wr => ∃ i : Nat, s13 = .int .i64 i ∧ i ≤ e.length ∧ EnvO w.heap.size wr s3 (e.take i) ∧ Below w.heap.size w wr) (fun s3 s13 _ => e.length - (intOf s13).toNat)
 case atStart => exact ⟨0, rfl, Nat.zero_le _, World.ownsRow_nil w _ _ _, Below.refl _ _⟩
 case round =>
  obtain ⟨i, rfl, hie, hO, hB⟩ := hrel
  by_cases hil : i < e.length
  ·obtain ⟨x, hx⟩ : ∃ x, e[i]? = some x := ⟨_, List.getElem?_eq_getElem hil⟩
   obtain ⟨k, rfl, kl, k0, k1⟩ := HC.out i x hx
   replace k0 := (hB.cell (p := ⟨k, _, none⟩) kl).trans k0
   replace k1 := (hB.cell (p := ⟨k, _, none⟩) kl).trans k1
   have hil' : (i : Int) < (e.length : Int) := by omega
   have hqi : (e.take i).length = i := by rw [List.length_take]; omega
   unfold EnvO at hO
   rw [hqi] at hO
   obtain ⟨va, vc, rfl⟩ := ownsRow_shape hO
   have HO := hid hO
   have HB := hid hB
   have HQ := hid hqi
   have hn1 : i + 1 ≤ maxLen := by unfold maxLen; omega
   have hn2 : (i + 1) * 24 ≤ 140737488355328 := by omega
   have hone : ∀ u ∈ [Value.string ⟨x.1.toArray⟩, .int .u64 x.2], u.oneCell' = true := by intro u hu; simp at hu; rcases hu with rfl | rfl <;> rfl
   clear hO hB hqi
   have hnw := heap_snd wr (.cells #[.string ⟨x.1.toArray⟩, .int .u64 x.2] 46) (.cells #[.string ⟨x.1.toArray⟩, .int .u64 x.2] 85)
   have hb2 := ((Below.refl wr.heap.size wr).alloc (Nat.le_refl _) (.cells #[.string ⟨x.1.toArray⟩, .int .u64 x.2] 46)).alloc (by simp) (.cells #[.string ⟨x.1.toArray⟩, .int .u64 x.2] 85)
   have HNW := hid hnw
   have HB2 := hid (HB.out.trans (hb2.mono HB.out.size))
   have HO2 := hid (ownsRow_below HO.out hb2)
   clear hnw hb2
   go_wp2_with (at_builtin; refine wpList_append_own_at _ rfl _ _ _ rfl w.heap.size 85 i0 _ 2 24 Tryz.underlying69 hi hz0 hz1 hz2 rfl (by decide) (.slice va i vc) i ((e.take i).flatMap vaC) rfl HO2.out ⟨wr.heap.size + 1, 0, none⟩ 1 1 [.string ⟨x.1.toArray⟩, .int .u64 x.2] rfl rfl (lit_cells HNW.out) hone hn1 hn2 HB2.out.size ?_; intro v1 w1 hown1 hgrow1 _ _; obtain ⟨a1, c1, rfl⟩ := ownsRow_shape hown1)
   refine ⟨⟨i + 1, by go_num, by omega, env_snoc HQ.out hx hown1, HB2.out.grown hgrow1 HB2.out.size (fun g hg => (World.ownsRow.lt HO2.out g hg).1)⟩, by simp [intOf]; omega⟩
  ·obtain rfl : i = e.length := by omega
   have hil' : ¬ ((e.length : Int) < (e.length : Int)) := by omega
   rw [List.take_length] at hO
   obtain ⟨va, vc, rfl⟩ := ownsRow_shape hO
   have HO := hid hO
   have HB := hid hB
   clear hO hB
   go_wp2_with fail
   go_ret
   exact ⟨_, rfl, HO.out, HB.out⟩
end Go.Proofs.YtmhmfdnoadjibaaGreatDoor
