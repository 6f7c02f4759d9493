/- Layer 11: slices of the law's structs, as they come in. -/
import Derived.Test.YtoengahfkfmfeaaBdJ
import Derived.Deep.SlicePairs
import Derived.ChangeSlices
set_option linter.unusedVariables false
set_option linter.unusedSimpArgs false
namespace Go.Proofs.Ytoengahfkfmfeaa
open Go.ChangeShapes Go.WideShapes Go.ChangeAt Go.RowKit

theorem w64_of {n : Int} (h : (Lit.int .u64 n).wf = true) : W64 n := by
  have : 0 ≤ n ∧ n ≤ 18446744073709551615 := by simpa [Lit.wf, IntKind.min, IntKind.max, IntKind.signed, IntKind.bits] using h
  unfold W64; omega
section
variable {H : Type} {enc : TypeId × Value → H} {w : World} {base : Nat} {spare : Nat → Bool} {held : Bool} {a : Option Addr} {len cap : Nat} {d : DataW H} {p : List MemPlace}
set_option maxRecDepth 100000 in
theorem open_lvars (h : DataW.Trod enc Try.prog w base spare held 42 (.slice a len cap) d p) : ∃ l : VarL, l.length = len ∧ ArgW w a cap l := by
  obtain ⟨fuel, hf⟩ := h
  rcases Go.Deep.open_slice Try.underlying42 hf with ⟨hcs, -⟩ | ⟨x, ln, c, m, n, D, Pl, hcs, hb, hl, hm, hmm, hx, hi⟩
  · simp [Value.cells] at hcs
    obtain ⟨rfl, rfl, rfl⟩ := hcs
    exact ⟨[], rfl, by simp, by simp, fun i x hx => by simp at hx⟩
  · simp [Value.cells] at hcs
    obtain ⟨rfl, rfl, rfl⟩ := hcs
    have hle : len ≤ m := by rw [hmm]; split <;> omega
    have ce : Try.prog.cellsOf 48 = 4 := by kernel_rfl
    have each : ∀ i, i < len → ∃ y : List UInt8 × (Int × Int × Int), (W64 y.2.1 ∧ W64 y.2.2.1 ∧ W64 y.2.2.2) ∧ x.block < w.heap.size ∧ w.cell? (x.add (i * 4)) = some (.string ⟨y.1.toArray⟩) ∧ w.cell? ((x.add (i * 4)).add 1) = some (.int .u64 y.2.1) ∧
        w.cell? ((x.add (i * 4)).add 2) = some (.int .u64 y.2.2.1) ∧ w.cell? ((x.add (i * 4)).add 3) = some (.int .u64 y.2.2.2) := fun i hlt => by
      obtain ⟨cs, h1, h2⟩ := hi i (by omega)
      rw [ce] at h1
      obtain ⟨_, hlen, hcell⟩ := World.cells?_some h1
      obtain ⟨xs, k, hk, hxy, _, hxl, hf⟩ := DataW.trod_struct Try.underlying48 h2
      match xs, hxl, cs, hlen with
      | [y0, y1, y2, y3], _, [v0, v1, v2, v3], _ =>
        have g0 : DataW.trod enc Try.prog w base spare held k 9 [v0] = some y0 := hf 0 _ rfl
        have g1 : DataW.trod enc Try.prog w base spare held k 22 [v1] = some y1 := hf 1 _ rfl
        have g2 : DataW.trod enc Try.prog w base spare held k 22 [v2] = some y2 := hf 2 _ rfl
        have g3 : DataW.trod enc Try.prog w base spare held k 22 [v3] = some y3 := hf 3 _ rfl
        have e0 := hcell 0 (by omega)
        have e1 := hcell 1 (by omega)
        have e2 := hcell 2 (by omega)
        have e3 := hcell 3 (by omega)
        obtain ⟨z0, q0, -, -⟩ := DataW.trod_string Try.underlying9 g0
        obtain ⟨z1, q1, -, hz1⟩ := DataW.trod_int Try.underlying22 g1
        obtain ⟨z2, q2, -, hz2⟩ := DataW.trod_int Try.underlying22 g2
        obtain ⟨z3, q3, -, hz3⟩ := DataW.trod_int Try.underlying22 g3
        simp at q0 q1 q2 q3
        subst q0 q1 q2 q3
        have hbl := World.block_lt_of_cell? w _ e1
        rw [addr_block, addr_block] at hbl
        exact ⟨(z0.data.toList, z1, z2, z3), ⟨w64_of hz1, w64_of hz2, w64_of hz3⟩, hbl, e0, e1, e2, e3⟩
    obtain ⟨f, hf'⟩ := Go.Deep.choose_lt each
    refine ⟨(List.range len).map f, by simp, by simpa using hl, hm, fun i y hy => ?_⟩
    have hlt : i < len := by have := (List.getElem?_eq_some_iff.1 hy).1; simpa using this
    obtain rfl : f i = y := by simpa [List.getElem?_map, List.getElem?_range hlt] using hy
    obtain ⟨q0, r0, r1, r2, r3, r4⟩ := hf' i hlt
    exact ⟨q0, x, rfl, r0, r1, r2, r3, r4⟩
set_option maxRecDepth 100000 in
theorem open_exprs (h : DataW.Trod enc Try.prog w base spare held 41 (.slice a len cap) d p) : ∃ l : List XE, l.length = len ∧ ArgX w a cap l := by
  obtain ⟨fuel, hf⟩ := h
  rcases Go.Deep.open_slice Try.underlying41 hf with ⟨hcs, -⟩ | ⟨x, ln, c, m, n, D, Pl, hcs, hb, hl, hm, hmm, hx, hi⟩
  · simp [Value.cells] at hcs
    obtain ⟨rfl, rfl, rfl⟩ := hcs
    exact ⟨[], rfl, by simp, by simp, fun i x hx => by simp at hx⟩
  · simp [Value.cells] at hcs
    obtain ⟨rfl, rfl, rfl⟩ := hcs
    have hle : len ≤ m := by rw [hmm]; split <;> omega
    have ce : Try.prog.cellsOf 80 = 5 := by kernel_rfl
    have each : ∀ i, i < len → ∃ y : XE, W64 y.n ∧ ∃ (ka : Option Addr) (kc : Nat), x.block < w.heap.size ∧ w.cell? (x.add (i * 5)) = some (.int .i64 y.k) ∧ w.cell? ((x.add (i * 5)).add 1) = some (.string (bs y.op)) ∧
        w.cell? ((x.add (i * 5)).add 2) = some (.int .u64 y.n) ∧ w.cell? ((x.add (i * 5)).add 3) = some (.string (bs y.s)) ∧ w.cell? ((x.add (i * 5)).add 4) = some (.slice ka y.kids.length kc) ∧ y.kids.length ≤ kc ∧ kc ≤ maxLen ∧
        ∀ (j : Nat) z, y.kids[j]? = some z → (∃ q : Addr, ka = some q ∧ q.block < w.heap.size ∧ w.cell? (q.add j) = some (.int .i64 z)) ∧ -9223372036854775808 ≤ z ∧ z ≤ 9223372036854775807 := fun i hlt => by
      obtain ⟨cs, h1, h2⟩ := hi i (by omega)
      rw [ce] at h1
      obtain ⟨_, hlen, hcell⟩ := World.cells?_some h1
      obtain ⟨xs, k, hk, hxy, _, hxl, hf⟩ := DataW.trod_struct Try.underlying80 h2
      match xs, hxl, cs, hlen with
      | [y0, y1, y2, y3, y4], _, [v0, v1, v2, v3, v4], _ =>
        have g0 : DataW.trod enc Try.prog w base spare held k 3 [v0] = some y0 := hf 0 _ rfl
        have g1 : DataW.trod enc Try.prog w base spare held k 9 [v1] = some y1 := hf 1 _ rfl
        have g2 : DataW.trod enc Try.prog w base spare held k 22 [v2] = some y2 := hf 2 _ rfl
        have g3 : DataW.trod enc Try.prog w base spare held k 9 [v3] = some y3 := hf 3 _ rfl
        have g4 : DataW.trod enc Try.prog w base spare held k 78 [v4] = some y4 := hf 4 _ rfl
        have e0 := hcell 0 (by omega)
        have e1 := hcell 1 (by omega)
        have e2 := hcell 2 (by omega)
        have e3 := hcell 3 (by omega)
        have e4 := hcell 4 (by omega)
        obtain ⟨z0, q0, -, -⟩ := DataW.trod_int Try.underlying3 g0
        obtain ⟨z1, q1, -, -⟩ := DataW.trod_string Try.underlying9 g1
        obtain ⟨z2, q2, -, hz2⟩ := DataW.trod_int Try.underlying22 g2
        obtain ⟨z3, q3, -, -⟩ := DataW.trod_string Try.underlying9 g3
        simp at q0 q1 q2 q3
        subst q0 q1 q2 q3
        have hbl := World.block_lt_of_cell? w _ e1
        rw [addr_block, addr_block] at hbl
        rcases open_ints Try.underlying78 Try.underlying3 (by kernel_rfl) g4 with ⟨hcs, _⟩ | ⟨r, l, c, zs, hcs, _, hl', hm', hz, _, hcell', hwz⟩
        · simp at hcs
          subst hcs
          exact ⟨⟨z0, z1.data.toList, z2, z3.data.toList, []⟩, w64_of hz2, none, 0, hbl, e0, e1, e2, e3, e4, Nat.le_refl _, by simp [maxLen], fun j z hj => by simp at hj⟩
        · simp at hcs
          subst hcs
          have hzl : l ≤ zs.length := by rw [hz]; split <;> omega
          have htl : (zs.take l).length = l := by rw [List.length_take]; omega
          refine ⟨⟨z0, z1.data.toList, z2, z3.data.toList, zs.take l⟩, w64_of hz2, some r, c, hbl, e0, e1, e2, e3, by rw [htl]; exact e4, by rw [htl]; exact hl', hm', fun j z hj => ?_⟩
          have hjl : j < l := by have h9 : j < (zs.take l).length := (List.getElem?_eq_some_iff.1 hj).1; omega
          rw [List.getElem?_take_of_lt hjl] at hj
          have hc := hcell' j (by omega)
          have hzj : zs.getD j 0 = z := by rw [List.getD_eq_getElem?_getD, hj]; rfl
          rw [hzj] at hc
          have hbr := World.block_lt_of_cell? w _ hc
          rw [addr_block] at hbr
          have hw := hwz z (List.mem_of_getElem? hj)
          exact ⟨⟨r, rfl, hbr, hc⟩, by simpa [Lit.wf, IntKind.min, IntKind.max, IntKind.signed, IntKind.bits] using hw⟩
    haveI : Inhabited XE := ⟨⟨0, [], 0, [], []⟩⟩
    obtain ⟨f, hf'⟩ := Go.Deep.choose_lt each
    refine ⟨(List.range len).map f, by simp, by simpa using hl, hm, fun i y hy => ?_⟩
    have hlt : i < len := by have := (List.getElem?_eq_some_iff.1 hy).1; simpa using this
    obtain rfl : f i = y := by simpa [List.getElem?_map, List.getElem?_range hlt] using hy
    obtain ⟨q0, ka, kc, r0, r1, r2, r3, r4, r5, r6, r7, r8⟩ := hf' i hlt
    exact ⟨q0, x, ka, kc, rfl, r0, r1, r2, r3, r4, r5, r6, r7, r8⟩
end
end Go.Proofs.Ytoengahfkfmfeaa
