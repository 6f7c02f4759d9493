/- Layer 11: the law's ranges and numbers. -/
import Derived.Test.YtoengahfkfmfeaaBdI
set_option linter.unusedVariables false
set_option linter.unusedSimpArgs false
namespace Go.Proofs.Ytoengahfkfmfeaa
open Go.ChangeShapes Go.WideShapes Go.ChangeAt Go.RowKit

/-- A name, a range, a number, as the law takes them. -/
abbrev VarL := List (List UInt8 × (Int × Int × Int))
def rOf (x : List UInt8 × (Int × Int × Int)) : List UInt8 × (Int × Int) := (x.1, (x.2.1, x.2.2.1))
def eOf (x : List UInt8 × (Int × Int × Int)) : List UInt8 × Int := (x.1, max x.2.1 (min x.2.2.2 x.2.2.1))
/-- A slice of them that came in. -/
def ArgW (w : World) (a : Option Addr) (c : Nat) (l : VarL) : Prop :=
  l.length ≤ c ∧ c ≤ maxLen ∧ ∀ (i : Nat) x, l[i]? = some x → (W64 x.2.1 ∧ W64 x.2.2.1 ∧ W64 x.2.2.2) ∧ ∃ p : Addr, a = some p ∧ p.block < w.heap.size ∧ w.cell? (p.add (i * 4)) = some (.string ⟨x.1.toArray⟩) ∧ w.cell? ((p.add (i * 4)).add 1) = some (.int .u64 x.2.1) ∧ w.cell? ((p.add (i * 4)).add 2) = some (.int .u64 x.2.2.1) ∧ w.cell? ((p.add (i * 4)).add 3) = some (.int .u64 x.2.2.2)
theorem ArgW.below {w w' : World} {a : Option Addr} {c : Nat} {l : VarL} (h : ArgW w a c l) (hb : Below w.heap.size w w') : ArgW w' a c l := by
  obtain ⟨h1, h2, h3⟩ := h
  refine ⟨h1, h2, fun i x hx => ?_⟩
  obtain ⟨q0, p, q1, q2, q3, q4, q5, q6⟩ := h3 i x hx
  exact ⟨q0, p, q1, Nat.lt_of_lt_of_le q2 hb.size, (hb.cell (by rw [addr_block]; exact q2)).trans q3, (hb.cell (by rw [addr_block, addr_block]; exact q2)).trans q4, (hb.cell (by rw [addr_block, addr_block]; exact q2)).trans q5, (hb.cell (by rw [addr_block, addr_block]; exact q2)).trans q6⟩
theorem ex_info_var : (Try.prog.info? 61).map (fun i => (i.zero, i.size, i.bytes)) = some (some (.agg #[.string ⟨#[]⟩, .int .u64 0]), 2, 24) := by kernel_rfl
def vaC (x : List UInt8 × Int) : List Value := [.string ⟨x.1.toArray⟩, .int .u64 x.2]
theorem flat_len (e : EnvL) : (e.flatMap vaC).length = e.length * 2 := by
  induction e with
  | nil => rfl
  | cons x e ih => rw [List.flatMap_cons, List.length_append, ih]; simp [vaC]; omega
theorem flat_get (e : EnvL) {i : Nat} {x : List UInt8 × Int} (h : e[i]? = some x) : (e.flatMap vaC)[i * 2]? = some (.string ⟨x.1.toArray⟩) ∧ (e.flatMap vaC)[i * 2 + 1]? = some (.int .u64 x.2) := by
  induction e generalizing i with
  | nil => simp at h
  | cons y e ih =>
    rw [List.flatMap_cons]
    cases i with
    | zero => simp at h; subst h; simp [vaC]
    | succ i =>
      have := ih (i := i) (by simpa using h)
      rw [show (i + 1) * 2 = 2 + i * 2 from by omega, show 2 + i * 2 + 1 = 2 + (i * 2 + 1) from by omega, List.getElem?_append_right (by simp [vaC]), List.getElem?_append_right (by simp [vaC])]
      simpa [vaC] using this
/-- The slice v, nil or made by the call, holds the environment e. -/
def EnvO (B : Nat) (w : World) (v : Value) (e : EnvL) : Prop := w.ownsRow B 61 2 v e.length (e.flatMap vaC)
theorem EnvO.at {B : Nat} {w : World} {v : Value} {e : EnvL} (h : EnvO B w v e) (hl : e.length < 4611686018427387904) : EnvAt w.heap.size w v e := by
  have h' := h
  rcases id h.2 with ⟨rfl, h0⟩ | ⟨g, cap, cur, rfl, _⟩
  · obtain rfl : e = [] := List.eq_nil_of_length_eq_zero h0
    exact ⟨none, 0, rfl, by simp, fun i x hx => by simp at hx⟩
  · refine ⟨_, _, rfl, hl, fun i x hx => ⟨g, rfl, (World.ownsRow.lt h' g rfl).2, ?_, ?_⟩⟩
    · have hi := (List.getElem?_eq_some_iff.1 hx).1
      rw [World.ownsRow.cellAt h' _ (by omega)]; exact (flat_get e hx).1
    · have hi := (List.getElem?_eq_some_iff.1 hx).1
      rw [World.ownsRow.cellAt h' _ (by omega)]; exact (flat_get e hx).2
theorem ex_info_rvar : (Try.prog.info? 63).map (fun i => (i.zero, i.size, i.bytes)) = some (some (.agg #[.string ⟨#[]⟩, .int .u64 0, .int .u64 0]), 3, 32) := by kernel_rfl
theorem ex_info_dvar : (Try.prog.info? 86).map (fun i => (i.zero, i.size, i.bytes)) = some (some (.agg #[.string ⟨#[]⟩, .int .u64 0, .int .u64 0]), 3, 32) := by kernel_rfl
def rvC (x : List UInt8 × (Int × Int)) : List Value := [.string ⟨x.1.toArray⟩, .int .u64 x.2.1, .int .u64 x.2.2]
theorem flatR_len (e : RngL) : (e.flatMap rvC).length = e.length * 3 := by
  induction e with
  | nil => rfl
  | cons x e ih => rw [List.flatMap_cons, List.length_append, ih]; simp [rvC]; omega
theorem flatR_get (e : RngL) {i : Nat} {x : List UInt8 × (Int × Int)} (h : e[i]? = some x) : (e.flatMap rvC)[i * 3]? = some (.string ⟨x.1.toArray⟩) ∧ (e.flatMap rvC)[i * 3 + 1]? = some (.int .u64 x.2.1) ∧ (e.flatMap rvC)[i * 3 + 2]? = some (.int .u64 x.2.2) := by
  induction e generalizing i with
  | nil => simp at h
  | cons y e ih =>
    rw [List.flatMap_cons]
    cases i with
    | zero => simp at h; subst h; simp [rvC]
    | succ i =>
      have := ih (i := i) (by simpa using h)
      rw [show (i + 1) * 3 = 3 + i * 3 from by omega, show 3 + i * 3 + 1 = 3 + (i * 3 + 1) from by omega, show 3 + i * 3 + 2 = 3 + (i * 3 + 2) from by omega, List.getElem?_append_right (by simp [rvC]), List.getElem?_append_right (by simp [rvC]), List.getElem?_append_right (by simp [rvC])]
      simpa [rvC] using this
/-- The slice v, nil or made by the call, holds the ranges R. -/
def RngO (B : Nat) (w : World) (v : Value) (R : RngL) : Prop := w.ownsRow B 63 3 v R.length (R.flatMap rvC)
theorem RngO.at {B : Nat} {w : World} {v : Value} {R : RngL} (h : RngO B w v R) (hl : R.length < 4611686018427387904) : RngAt w.heap.size w v R := by
  have h' := h
  rcases id h.2 with ⟨rfl, h0⟩ | ⟨g, cap, cur, rfl, _⟩
  · obtain rfl : R = [] := List.eq_nil_of_length_eq_zero h0
    exact ⟨none, 0, rfl, by simp, fun i x hx => by simp at hx⟩
  · refine ⟨_, _, rfl, hl, fun i x hx => ⟨g, rfl, (World.ownsRow.lt h' g rfl).2, ?_, ?_, ?_⟩⟩
    · have hi := (List.getElem?_eq_some_iff.1 hx).1
      rw [World.ownsRow.cellAt h' _ (by omega)]; exact (flatR_get R hx).1
    · have hi := (List.getElem?_eq_some_iff.1 hx).1
      rw [World.ownsRow.cellAt h' _ (by omega)]; exact (flatR_get R hx).2.1
    · have hi := (List.getElem?_eq_some_iff.1 hx).1
      rw [World.ownsRow.cellAt h' _ (by omega)]; exact (flatR_get R hx).2.2
theorem rngO_snoc {B : Nat} {w : World} {v : Value} {l : VarL} {i : Nat} {x : List UInt8 × (Int × Int × Int)} (hq : (l.take i).length = i) (hx : l[i]? = some x) (h : w.ownsRow B 63 3 v (i + 1) (((l.take i).map rOf).flatMap rvC ++ [.string ⟨x.1.toArray⟩, .int .u64 x.2.1, .int .u64 x.2.2.1])) : RngO B w v ((l.take (i + 1)).map rOf) := by
  unfold RngO
  rw [List.take_add_one, hx, Option.toList_some, List.map_append, List.flatMap_append, List.length_append, List.length_map, hq]
  exact h
theorem envO_snoc {B : Nat} {w : World} {v : Value} {l : VarL} {i : Nat} {x : List UInt8 × (Int × Int × Int)} (hq : (l.take i).length = i) (hx : l[i]? = some x) (h : w.ownsRow B 61 2 v (i + 1) (((l.take i).map eOf).flatMap vaC ++ [.string ⟨x.1.toArray⟩, .int .u64 (max x.2.1 (min x.2.2.2 x.2.2.1))])) : EnvO B w v ((l.take (i + 1)).map eOf) := by
  unfold EnvO
  rw [List.take_add_one, hx, Option.toList_some, List.map_append, List.flatMap_append, List.length_append, List.length_map, hq]
  exact h
/-- A block of four cells. -/
def Four (w : World) (g : Nat) (T : TypeId) (c0 c1 c2 c3 : Value) : Prop := w.heap[g]? = some (.cells #[c0, c1, c2, c3] T (0, 0))
theorem Four.cells {w : World} {g : Nat} {T : TypeId} {c0 c1 c2 c3 : Value} (h : Four w g T c0 c1 c2 c3) : w.cell? ⟨g, 0, none⟩ = some c0 ∧ w.cell? ⟨g, 1, none⟩ = some c1 ∧ w.cell? ⟨g, 2, none⟩ = some c2 ∧ w.cell? ⟨g, 3, none⟩ = some c3 := by
  unfold Four at h
  refine ⟨?_, ?_, ?_, ?_⟩ <;> (rw [cell_of_row _ _ _ _ _ (0, 0) h]; rfl)
theorem Four.lt {w : World} {g : Nat} {T : TypeId} {c0 c1 c2 c3 : Value} (h : Four w g T c0 c1 c2 c3) : g < w.heap.size := (Array.getElem?_eq_some_iff.1 h).1
set_option maxHeartbeats 4000000 in
set_option maxRecDepth 100000 in
theorem vars_any (a : Option Addr) (c : Nat) (l : VarL) (w : World) (h : ArgW w a c l) :
    Calls Try.prog 19 #[.slice a l.length c] w fun q w' => ∃ v1 v2 v3, q = .returned (.tuple #[v1, v2, v3]) ∧ RngO w.heap.size w' v1 ((l.take 20).map rOf) ∧ EnvO w.heap.size w' v3 ((l.take 20).map eOf) ∧ Below w.heap.size w w' := by
  obtain ⟨i0, hi, hz0, hz1, hz2⟩ := info_parts ex_info_rvar
  obtain ⟨j0, hj, hy0, hy1, hy2⟩ := info_parts ex_info_dvar
  obtain ⟨k0, hk, hx0, hx1, hx2⟩ := info_parts ex_info_var
  have hlc := h.1
  have hcm := h.2.1
  have H := Lib.hid h
  clear h
  replace hcm : c ≤ 9223372036854775807 := by unfold maxLen at hcm; omega
  obtain ⟨m, hm⟩ : ∃ m : Nat, (l.take 20).length = m := ⟨_, rfl⟩
  have hm2 : m = min 20 l.length := by rw [← hm, List.length_take]
  have hmin : min (l.length : Int) 20 = (m : Int) := by omega
  have hmax : max (m : Int) 0 = (m : Int) := by omega
  have hm20 : (m : Int) ≤ 20 := by omega
  have hml : (m : Int) ≤ (l.length : Int) := by omega
  have HM := Lib.hid hm
  have HM2 := Lib.hid hm2
  clear hm hm2
  go_enter Try.func19, Try.ntmps19
  go_wp2_with fail
  go_loopw [5, 6, 7, 16] (fun s5 s6 s7 s16 wr => ∃ (i : Nat) (zs : List Value), s16 = .int .i64 i ∧ i ≤ m ∧ RngO w.heap.size wr s5 ((l.take i).map rOf) ∧ wr.ownsRow w.heap.size 86 3 s6 i zs ∧ EnvO w.heap.size wr s7 ((l.take i).map eOf) ∧ Below w.heap.size w wr) (fun s5 s6 s7 s16 _ => m - (intOf s16).toNat)
  case atStart => exact ⟨0, [], rfl, Nat.zero_le _, World.ownsRow_nil w _ _ _, World.ownsRow_nil w _ _ _, World.ownsRow_nil w _ _ _, Below.refl _ _⟩
  case round =>
    obtain ⟨i, zs, rfl, him, hO, hD, hE, hB⟩ := hrel
    have hqi : (l.take i).length = i := by rw [List.length_take]; have := HM2.out; omega
    unfold RngO at hO
    unfold EnvO at hE
    rw [List.length_map, hqi] at hO hE
    obtain ⟨va, vc, rfl⟩ := ownsRow_shape hO
    obtain ⟨ua, uc, rfl⟩ := ownsRow_shape hD
    obtain ⟨ta, tc, rfl⟩ := ownsRow_shape hE
    by_cases hi2 : i < m
    · obtain ⟨x, hx⟩ : ∃ x, l[i]? = some x := ⟨_, List.getElem?_eq_getElem (by have := HM2.out; omega)⟩
      obtain ⟨q0, p, rfl, q2, e0, e1, e2, e3⟩ := H.out.2.2 i x hx
      replace e0 := (hB.cell (by rw [addr_block]; exact q2)).trans e0
      replace e1 : wr.cell? ⟨(p.add (i * 4)).block, (p.add (i * 4)).off + 1, none⟩ = some (.int .u64 x.2.1) := (hB.cell (p := (p.add (i * 4)).add 1) (by rw [addr_block, addr_block]; exact q2)).trans e1
      replace e2 : wr.cell? ⟨(p.add (i * 4)).block, (p.add (i * 4)).off + 2, none⟩ = some (.int .u64 x.2.2.1) := (hB.cell (p := (p.add (i * 4)).add 2) (by rw [addr_block, addr_block]; exact q2)).trans e2
      replace e3 : wr.cell? ⟨(p.add (i * 4)).block, (p.add (i * 4)).off + 3, none⟩ = some (.int .u64 x.2.2.2) := (hB.cell (p := (p.add (i * 4)).add 3) (by rw [addr_block, addr_block]; exact q2)).trans e3
      have hi2' : (i : Int) < (m : Int) := by omega
      have hil : (i : Int) < (l.length : Int) := by omega
      have HX := Lib.hid hx
      have HQ := Lib.hid hqi
      have hF5 : Four (wr.alloc (.cells #[.string ⟨x.1.toArray⟩, .int .u64 x.2.1, .int .u64 x.2.2.1, .int .u64 x.2.2.2] 48)) wr.heap.size 48 (.string ⟨x.1.toArray⟩) (.int .u64 x.2.1) (.int .u64 x.2.2.1) (.int .u64 x.2.2.2) := World.alloc_heap_new _ _
      have HR5 := Lib.hid (World.ownsRow.alloc hO (.cells #[.string ⟨x.1.toArray⟩, .int .u64 x.2.1, .int .u64 x.2.2.1, .int .u64 x.2.2.2] 48))
      have HD5 := Lib.hid (World.ownsRow.alloc hD (.cells #[.string ⟨x.1.toArray⟩, .int .u64 x.2.1, .int .u64 x.2.2.1, .int .u64 x.2.2.2] 48))
      have HE5 := Lib.hid (World.ownsRow.alloc hE (.cells #[.string ⟨x.1.toArray⟩, .int .u64 x.2.1, .int .u64 x.2.2.1, .int .u64 x.2.2.2] 48))
      have HB5 := Lib.hid (hB.alloc hB.size (.cells #[.string ⟨x.1.toArray⟩, .int .u64 x.2.1, .int .u64 x.2.2.1, .int .u64 x.2.2.2] 48))
      have lo := World.ownsRow.lt hO
      have ld := World.ownsRow.lt hD
      have le := World.ownsRow.lt hE
      clear hO hD hE hqi hx q2
      obtain ⟨S, hS⟩ : ∃ S : ByteArray, ⟨x.1.toArray⟩ = S := ⟨_, rfl⟩
      have HS := Lib.hid hS
      rw [hS] at e0 hF5 HR5 HD5 HE5 HB5
      clear hS
      go_upto_region 7 with fail
      generalize wr.alloc (.cells #[.string S, .int .u64 x.2.1, .int .u64 x.2.2.1, .int .u64 x.2.2.2] 48) = W at *
      obtain ⟨b0, b1, b2, b3⟩ := hF5.cells
      have HF5 := Lib.hid hF5
      have hsW := HB5.out.size
      have hn1 : i + 1 ≤ maxLen := by unfold maxLen; omega
      have hn3 : (i + 1) * 32 ≤ 140737488355328 := by omega
      have hn2 : (i + 1) * 24 ≤ 140737488355328 := by omega
      have hone3 : ∀ (u v : Int), ∀ z ∈ [Value.string S, .int .u64 u, .int .u64 v], z.oneCell' = true := by intro u v z hz; simp at hz; rcases hz with rfl | rfl | rfl <;> rfl
      have hone2 : ∀ (u : Int), ∀ z ∈ [Value.string S, .int .u64 u], z.oneCell' = true := by intro u z hz; simp at hz; rcases hz with rfl | rfl <;> rfl
      clear e0 e1 e2 e3 hF5
      go_upto_region 8 with (at_builtin; refine list_row rfl _ _ 49 rfl w.heap.size 63 i0 _ 3 32 Try.underlying49 hi hz0 hz1 hz2 rfl (by decide) (.slice va i vc) i (((l.take i).map rOf).flatMap rvC) rfl (World.ownsRow.alloc HR5.out _) _ _ [.string S, .int .u64 x.2.1, .int .u64 x.2.2.1] rfl rfl (World.alloc_heap_new _ _) (hone3 _ _) hn1 hn3 (by simp; omega) ?_; intro v1 w1 hown1 hgrow1; obtain ⟨a1, c1, rfl⟩ := ownsRow_shape hown1)
      have HF6 : Hid (Four w1 wr.heap.size 48 (.string S) (.int .u64 x.2.1) (.int .u64 x.2.2.1) (.int .u64 x.2.2.2)) := Lib.hid ((hgrow1.block wr.heap.size (by have := HF5.out.lt; simp; omega) (fun q => by have := (lo _ q.symm).2; omega)).trans ((Below.heap_alloc _ _ _ HF5.out.lt).trans HF5.out))
      have HD6 := Lib.hid (World.ownsRow.kept (World.ownsRow.alloc HD5.out (.cells #[.string S, .int .u64 x.2.1, .int .u64 x.2.2.1] 63)) hgrow1 (own_ne HD5.out HR5.out (by decide)))
      have HE6 := Lib.hid (World.ownsRow.kept (World.ownsRow.alloc HE5.out (.cells #[.string S, .int .u64 x.2.1, .int .u64 x.2.2.1] 63)) hgrow1 (own_ne HE5.out HR5.out (by decide)))
      have HB6 := Lib.hid (Below.grown (HB5.out.alloc hsW (.cells #[.string S, .int .u64 x.2.1, .int .u64 x.2.2.1] 63)) hgrow1 (by simp; omega) (fun g hg => (lo g hg).1))
      have HR6 := Lib.hid hown1
      clear b0 b1 b2 b3 HF5 HR5 HD5 HE5 HB5 hown1 hgrow1
      obtain ⟨b0, b1, b2, b3⟩ := HF6.out.cells
      have hsW6 := HB6.out.size
      go_upto_region 9 with (at_builtin; refine list_row rfl _ _ 50 rfl w.heap.size 86 j0 _ 3 32 Try.underlying50 hj hy0 hy1 hy2 rfl (by decide) (.slice ua i uc) i zs rfl (World.ownsRow.alloc HD6.out _) _ _ [.string S, .int .u64 x.2.1, .int .u64 x.2.2.1] rfl rfl (World.alloc_heap_new _ _) (hone3 _ _) hn1 hn3 (by simp; omega) ?_; intro v2 w2 hown2 hgrow2; obtain ⟨a2, c2, rfl⟩ := ownsRow_shape hown2)
      have HF7 : Hid (Four w2 wr.heap.size 48 (.string S) (.int .u64 x.2.1) (.int .u64 x.2.2.1) (.int .u64 x.2.2.2)) := Lib.hid ((hgrow2.block wr.heap.size (by have := HF6.out.lt; simp; omega) (fun q => by have := (ld _ q.symm).2; omega)).trans ((Below.heap_alloc _ _ _ HF6.out.lt).trans HF6.out))
      have HR7 := Lib.hid (World.ownsRow.kept (World.ownsRow.alloc HR6.out (.cells #[.string S, .int .u64 x.2.1, .int .u64 x.2.2.1] 86)) hgrow2 (own_ne HR6.out HD6.out (by decide)))
      have HE7 := Lib.hid (World.ownsRow.kept (World.ownsRow.alloc HE6.out (.cells #[.string S, .int .u64 x.2.1, .int .u64 x.2.2.1] 86)) hgrow2 (own_ne HE6.out HD6.out (by decide)))
      have HB7 := Lib.hid (Below.grown (HB6.out.alloc hsW6 (.cells #[.string S, .int .u64 x.2.1, .int .u64 x.2.2.1] 86)) hgrow2 (by simp; omega) (fun g hg => (ld g hg).1))
      have HD7 := Lib.hid hown2
      clear b0 b1 b2 b3 HF6 HR6 HD6 HE6 HB6 hown2 hgrow2
      obtain ⟨b0, b1, b2, b3⟩ := HF7.out.cells
      have hsW7 := HB7.out.size
      go_wp2_with (at_builtin; refine list_row rfl _ _ 52 rfl w.heap.size 61 k0 _ 2 24 Try.underlying52 hk hx0 hx1 hx2 rfl (by decide) (.slice ta i tc) i (((l.take i).map eOf).flatMap vaC) rfl (World.ownsRow.alloc HE7.out _) _ _ [.string S, .int .u64 (max x.2.1 (min x.2.2.2 x.2.2.1))] rfl rfl (World.alloc_heap_new _ _) (hone2 _) hn1 hn2 (by simp; omega) ?_; intro v3 w3 hown3 hgrow3; obtain ⟨a3, c3, rfl⟩ := ownsRow_shape hown3)
      have hR8 := World.ownsRow.kept (World.ownsRow.alloc HR7.out (.cells #[.string S, .int .u64 (max x.2.1 (min x.2.2.2 x.2.2.1))] 61)) hgrow3 (own_ne HR7.out HE7.out (by decide))
      have hD8 := World.ownsRow.kept (World.ownsRow.alloc HD7.out (.cells #[.string S, .int .u64 (max x.2.1 (min x.2.2.2 x.2.2.1))] 61)) hgrow3 (own_ne HD7.out HE7.out (by decide))
      have hB8 := Below.grown (HB7.out.alloc hsW7 (.cells #[.string S, .int .u64 (max x.2.1 (min x.2.2.2 x.2.2.1))] 61)) hgrow3 (by simp; omega) (fun g hg => (le g hg).1)
      refine ⟨⟨i + 1, _, by go_num, hi2, rngO_snoc HQ.out HX.out ?_, hD8, envO_snoc HQ.out HX.out ?_, hB8⟩, by simp [intOf]; omega⟩
      · rw [HS.out]; exact hR8
      · rw [HS.out]; exact hown3
    · obtain rfl : i = m := by omega
      have e1 : l.take i = l.take 20 := by
        have := HM2.out
        rcases Nat.le_total 20 l.length with h1 | h1
        · rw [show i = 20 from by omega]
        · rw [show i = l.length from by omega, List.take_length, List.take_of_length_le h1]
      have hO' : RngO w.heap.size wr (.slice va i vc) ((l.take 20).map rOf) := by rw [← e1]; unfold RngO; rw [List.length_map, hqi]; exact hO
      have hE' : EnvO w.heap.size wr (.slice ta i tc) ((l.take 20).map eOf) := by rw [← e1]; unfold EnvO; rw [List.length_map, hqi]; exact hE
      have HO := Lib.hid hO'
      have HE := Lib.hid hE'
      have HB := Lib.hid hB
      clear hO hD hE hB e1 hO' hE' hqi
      have hi2' : ¬ ((i : Int) < (i : Int)) := by omega
      go_wp2_with fail
      refine bodyPost_ret (v := .tuple #[.slice va i vc, .slice ua i uc, .slice ta i tc]) (by simp [results, Try.results19, go_sem]) rfl ⟨_, _, _, rfl, (by have := HO.out; rwa [List.map_take] at this), (by have := HE.out; rwa [List.map_take] at this), HB.out⟩
end Go.Proofs.Ytoengahfkfmfeaa
