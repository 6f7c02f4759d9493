/- Layer 10: the law's files. · Layer 10: slices of the law's structs, as they come in. -/
import Derived.Test.YtomimkgaelkaoaaGreatDoorC12ExL
import Derived.Deep.SlicePairs
import Derived.ChangeSlices
set_option linter.unusedVariables false
set_option linter.unusedSimpArgs false
namespace Go.Proofs.YtomimkgaelkaoaaGreatDoor
open Go.ChangeShapes Go.WideShapes Go.ChangeAt Go.RowKit
def ExRow (B : Nat) (w0 w : World) (v : Value) (xs : List XE) : Prop :=
 ∃ css : List (List Value), w.ownsRow B 40 5 v xs.length css.flatten ∧ css.length = xs.length ∧ (∀ c ∈ css, c.length = 5) ∧ ∀ (j : Nat) c x, css[j]? = some c → xs[j]? = some x → ∃ kv, c = [.int .i64 x.k, .string (bs x.op), .int .u64 x.n, .string (bs x.s), kv] ∧ KidR w0 kv x.kids
theorem ExRow.at {B : Nat} {w0 w : World} {v : Value} {xs : List XE} (h : ExRow B w0 w v xs) (hb : Below w0.heap.size w0 w) (hl : xs.length < 1000000000000) : ExsAt w v xs := by
 obtain ⟨css, h1, h2, h3, h4⟩ := h
 have h' := h1
 rcases id h1.2 with ⟨rfl, h0⟩ | ⟨g, cap, cur, rfl, _⟩
 ·have : xs = [] := List.eq_nil_of_length_eq_zero h0
  subst this
  exact ⟨none, 0, rfl, hl, fun i x hx => by simp at hx⟩
 ·refine ⟨_, _, rfl, hl, fun i x hx => ?_⟩
  have hi := (List.getElem?_eq_some_iff.1 hx).1
  have hc : css[i]? = some (css[i]'(by omega)) := List.getElem?_eq_getElem (by omega)
  obtain ⟨kv, e, hk⟩ := h4 i _ x hc hx
  have cell : ∀ j, j < 5 → w.cell? ⟨g, i * 5 + j, none⟩ = (css[i]'(by omega))[j]? := fun j hj => by
   rw [World.ownsRow.cellAt h' _ (by omega), flat_at 5 css h3 i j hj, hc]; rfl
  refine ⟨g, kv, rfl, (World.ownsRow.lt h' g rfl).2, ?_, ?_, ?_, ?_, ?_, hk.below hb⟩
  ·have := cell 0 (by decide); rw [e] at this; exact this
  ·have := cell 1 (by decide); rw [e] at this; exact this
  ·have := cell 2 (by decide); rw [e] at this; exact this
  ·have := cell 3 (by decide); rw [e] at this; exact this
  ·have := cell 4 (by decide); rw [e] at this; exact this
theorem ExRow.snoc {B : Nat} {w0 w : World} {v : Value} {xs : List XE} {css : List (List Value)} {x : XE} {kv : Value} (h : w.ownsRow B 40 5 v (xs.length + 1) (css.flatten ++ [.int .i64 x.k, .string (bs x.op), .int .u64 x.n, .string (bs x.s), kv]))
  (h2 : css.length = xs.length) (h3 : ∀ c ∈ css, c.length = 5) (h4 : ∀ (j : Nat) c x, css[j]? = some c → xs[j]? = some x → ∃ kv, c = [.int .i64 x.k, .string (bs x.op), .int .u64 x.n, .string (bs x.s), kv] ∧ KidR w0 kv x.kids) (hk : KidR w0 kv x.kids) : ExRow B w0 w v (xs ++ [x]) := by
 refine ⟨css ++ [[.int .i64 x.k, .string (bs x.op), .int .u64 x.n, .string (bs x.s), kv]], by rw [List.length_append, List.flatten_append]; simpa using h, by simp [h2], fun c hc => ?_, fun j c y hc hy => ?_⟩
 ·rcases List.mem_append.1 hc with hc | hc
  ·exact h3 c hc
  ·simp at hc; subst hc; rfl
 ·by_cases hj : j < xs.length
  ·rw [List.getElem?_append_left (by omega)] at hc
   rw [List.getElem?_append_left hj] at hy
   exact h4 j c y hc hy
  ·have hj2 : j = xs.length := by have := (List.getElem?_eq_some_iff.1 hy).1; simp at this; omega
   subst hj2
   rw [List.getElem?_append_right (by omega), h2] at hc
   rw [List.getElem?_append_right (by omega)] at hy
   simp at hc hy
   subst hc hy
   exact ⟨kv, rfl, hk⟩
def FiveS (b : Nat) (c0 c1 c2 c3 c4 : Value) (w : World) : Prop := w.cell? ⟨b, 0, none⟩ = some c0 ∧ w.cell? ⟨b, 1, none⟩ = some c1 ∧ w.cell? ⟨b, 2, none⟩ = some c2 ∧ w.cell? ⟨b, 3, none⟩ = some c3 ∧ w.cell? ⟨b, 4, none⟩ = some c4
section
variable {b : Nat} {c0 c1 c2 c3 c4 : Value} {w w' : World}
theorem FiveS.lt (h : FiveS b c0 c1 c2 c3 c4 w) : b < w.heap.size := World.block_lt_of_cell? w _ h.1
end
end Go.Proofs.YtomimkgaelkaoaaGreatDoor
namespace Go.Proofs.YtomimkgaelkaoaaGreatDoor
open Go.ChangeShapes Go.WideShapes Go.ChangeAt Go.RowKit
theorem w64_of {n : Int} (h : (Lit.int .u64 n).wf = true) : W64 n := by
 have : 0 ≤ n ∧ n ≤ 18446744073709551615 := by simpa [Lit.wf, IntKind.min, IntKind.max, IntKind.signed, IntKind.bits] using h
 unfold W64; omega
section
variable {H : Type} {enc : TypeId × Value → H} {w : World} {base : Nat} {spare : Nat → Bool} {held : Bool} {a : Option Addr} {len cap : Nat} {d : DataW H} {p : List MemPlace}
theorem open_vars (h : DataW.Trod enc Tryz.prog w base spare held 58 (.slice a len cap) d p) : ∃ l : EnvL, l.length = len ∧ ArgV w a cap l := by
 obtain ⟨fuel, hf⟩ := h
 rcases Go.Deep.open_slice_pairs Tryz.underlying58 Tryz.underlying163 (by kernel_rfl) rfl rfl (by kernel_rfl) (by kernel_rfl) hf with ⟨hcs, -⟩ | ⟨x, ln, c, m, n, V0, V1, D0, D1, P0, P1, hcs, hb, hl, hm, hmm, hx, hi⟩
 ·simp [Value.cells] at hcs
  obtain ⟨rfl, rfl, rfl⟩ := hcs
  exact ⟨[], rfl, by simp, by simp, fun i x hx => by simp at hx⟩
 ·simp [Value.cells] at hcs
  obtain ⟨rfl, rfl, rfl⟩ := hcs
  have hle : len ≤ m := by rw [hmm]; split <;> omega
  have each : ∀ i, i < len → ∃ q : List UInt8 × Int, W64 q.2 ∧ w.cell? (x.add (i * 2)) = some (.string ⟨q.1.toArray⟩) ∧ w.cell? (x.add (i * 2 + 1)) = some (.int .u64 q.2) := fun i hlt => by
   obtain ⟨c0, c1, t0, t1⟩ := hi i (by omega)
   obtain ⟨s, e0, -, -⟩ := DataW.trod_string Tryz.underlying9 t0
   obtain ⟨z, e1, -, hz⟩ := DataW.trod_int Tryz.underlying37 t1
   simp at e0 e1
   rw [e0] at c0
   rw [e1] at c1
   exact ⟨(s.data.toList, z), w64_of hz, c0, c1⟩
  obtain ⟨f, hf'⟩ := Go.Deep.choose_lt each
  refine ⟨(List.range len).map f, by simp, by simpa using hl, hm, fun i y hy => ?_⟩
  have hlt : i < len := by have := (List.getElem?_eq_some_iff.1 hy).1; simpa using this
  obtain rfl : f i = y := by simpa [List.getElem?_map, List.getElem?_range hlt] using hy
  obtain ⟨q0, q1, q2⟩ := hf' i hlt
  have hbl := World.block_lt_of_cell? w _ q1
  rw [addr_block] at hbl
  exact ⟨q0, x, rfl, hbl, q1, q2⟩
end
end Go.Proofs.YtomimkgaelkaoaaGreatDoor
