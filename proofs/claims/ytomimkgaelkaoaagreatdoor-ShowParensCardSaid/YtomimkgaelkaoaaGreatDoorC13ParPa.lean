/- Layer 6, the mathematics of the laws: two texts with a comment between. No program. · Layer 6, the mathematics of the law on lines; what is left of the strings' words. No program. · Layer 7: the program's Parse. -/
import Derived.Test.YtomimkgaelkaoaaGreatDoorC13LexQ
import Derived.Test.YtomimkgaelkaoaaGreatDoorC13LexK
import Derived.Test.YtomimkgaelkaoaaGreatDoorC13ParRd
import Derived.Test.YtomimkgaelkaoaaGreatDoorC13ParTok
set_option linter.unusedVariables false
set_option linter.unusedSimpArgs false
namespace Go.Proofs.YtomimkgaelkaoaaGreatDoor
open Go.Lib (hid)
def shP (L : Nat) (p : Ps) : Ps := (p.1 + L, p.2)
def shT (L : Nat) (t : Tok) : Tok := ⟨t.tk, shP L t.p⟩
def LR.sh (L : Nat) : LR → LR
 | .ok l => .ok (l.map (shT L))
 | .bad p e => .bad (shP L p) e
theorem stp_sh (L : Nat) (p : Ps) (c : UInt8) : stp (shP L p) c = shP L (stp p c) := by
 unfold stp shP
 split
 ·simp only [Prod.mk.injEq, and_true]; omega
 ·rfl
theorem posL_sh (L : Nat) : ∀ (l : List UInt8) (p : Ps), posL (shP L p) l = shP L (posL p l)
 | [], p => rfl
 | c :: r, p => by
  show posL (stp (shP L p) c) r = _
  rw [stp_sh, posL_sh L r]
  rfl
theorem LR.sh_cons (L : Nat) (x : Tok) (r : LR) : (r.cons x).sh L = (r.sh L).cons (shT L x) := by cases r <;> rfl
theorem lexG_sh (L : Nat) : ∀ (n : Nat) (b : Bool) (p : Ps) (l : List UInt8), l.length ≤ n → lexG b (shP L p) l = (lexG b p l).sh L := by
 intro n
 induction n with
 | zero =>
  intro b p l hl
  obtain rfl : l = [] := List.eq_nil_of_length_eq_zero (by omega)
  rw [lexG_nil, lexG_nil]
  rfl
 | succ n ih =>
  intro b p l hl
  rw [lexG_eq b (shP L p), lexG_eq b p, posL_sh]
  by_cases he : (firstL (skipM b l)).2 ≠ 0
  ·rw [if_pos he, if_pos he]; rfl
  ·rw [if_neg he, if_neg he]
   by_cases h3 : (firstL (skipM b l)).1.k = 3
   ·rw [if_pos h3, if_pos h3]; rfl
   ·rw [if_neg h3, if_neg h3, LR.sh_cons, posL_sh]
    have hne : skipM b l ≠ [] := fun e => h3 (by rw [e]; rfl)
    have hd := drop_lt (by simpa using he) hne
    have hs := skipM_len b l
    rw [ih _ _ _ (by omega)]
    rfl
end Go.Proofs.YtomimkgaelkaoaaGreatDoor
namespace Go.Proofs.YtomimkgaelkaoaaGreatDoor
open Go.Lib (hid)
theorem lexG_at : ∀ (n : Nat) (b : Bool) (p : Ps) (l : List UInt8), l.length ≤ n →
  (∀ ts, lexG b p l = .ok ts → ∀ t ∈ ts, t.p.1 ≤ p.1 + l.length) ∧ ∀ q e, lexG b p l = .bad q e → q.1 ≤ p.1 + l.length ∧ e ≠ 0 := by
 intro n
 induction n with
 | zero =>
  intro b p l hl
  obtain rfl : l = [] := List.eq_nil_of_length_eq_zero (by omega)
  rw [lexG_nil]
  refine ⟨?_, fun q e h => by cases h⟩
  rintro ts h t ht
  cases h
  obtain rfl : t = ⟨tkEnd, p⟩ := by simpa using ht
  exact Nat.le_add_right _ _
 | succ n ih =>
  intro b p l hl
  have hs := skipM_len b l
  have hpos := (posL_le (l.take (l.length - (skipM b l).length)) p).1
  rw [List.length_take] at hpos
  rw [lexG_eq b p]
  by_cases he : (firstL (skipM b l)).2 ≠ 0
  ·rw [if_pos he]
   refine ⟨fun ts h => (by cases h), ?_⟩
   rintro q e h
   cases h
   exact ⟨by omega, he⟩
  ·rw [if_neg he]
   by_cases h3 : (firstL (skipM b l)).1.k = 3
   ·rw [if_pos h3]
    refine ⟨?_, fun q e h => by cases h⟩
    rintro ts h t ht
    cases h
    obtain rfl := List.mem_singleton.1 ht
    show (posL p _).1 ≤ _
    omega
   ·rw [if_neg h3]
    have hne : skipM b l ≠ [] := fun e => h3 (by rw [e]; rfl)
    have he0 : (firstL (skipM b l)).2 = 0 := by simpa using he
    have hd := drop_lt he0 hne
    obtain ⟨o1, o2, o3⟩ := firstL_ok he0 hne
    have hp := o3.length_le
    have hpos2 := (posL_le (firstL (skipM b l)).1.t (posL p (l.take (l.length - (skipM b l).length)))).1
    obtain ⟨i1, i2⟩ := ih false (posL (posL p (l.take (l.length - (skipM b l).length))) (firstL (skipM b l)).1.t) ((skipM b l).drop (firstL (skipM b l)).1.t.length) (by omega)
    rw [List.length_drop] at i1 i2
    generalize lexG false (posL (posL p (l.take (l.length - (skipM b l).length))) (firstL (skipM b l)).1.t) ((skipM b l).drop (firstL (skipM b l)).1.t.length) = R at i1 i2
    cases R with
    | ok u =>
     refine ⟨?_, fun q e h => by cases h⟩
     rintro ts h t ht
     cases h
     rcases List.mem_cons.1 ht with rfl | ht
     ·show (posL p _).1 ≤ _
      omega
     ·have := i1 u rfl t ht
      omega
    | bad q e =>
     refine ⟨fun ts h => (by cases h), ?_⟩
     rintro q' e' h
     cases h
     have := i2 q e rfl
     exact ⟨by omega, this.2⟩
theorem lexL_bad_at {s : List UInt8} {q : Ps} {e : Nat} (h : lexL s = .bad q e) : q.1 ≤ 1 + s.length ∧ e ≠ 0 := by
 unfold lexL at h
 split at h
 ·cases h; exact ⟨by simp, by decide⟩
 ·exact (lexG_at _ false (1, 1) s (Nat.le_refl _)).2 q e h
end Go.Proofs.YtomimkgaelkaoaaGreatDoor
namespace Go.Proofs.YtomimkgaelkaoaaGreatDoor
open Go.Lib (hid)
open Go.ChangeShapes Go.WideShapes Go.ChangeAt Go.RowKit
structure Bx (H : Nat) (w : World) (v0 v1 v2 v3 : Value) : Prop where
 h0 : w.heap[H]? = some (.cells #[v0] 23 (0, 0))
 h1 : w.heap[H + 1]? = some (.cells #[v1, v2] 25 (0, 0))
 h2 : w.heap[H + 1 + 1]? = some (.cells #[v3] 26 (0, 0))
section
variable {H : Nat} {w w' : World} {v0 v1 v2 v3 : Value}
theorem Bx.cells (h : Bx H w v0 v1 v2 v3) : (w.cell? ⟨H, 0, none⟩ = some v0 ∧ w.cell? ⟨H + 1, 0, none⟩ = some v1 ∧ w.cell? ⟨H + 1, 1, none⟩ = some v2 ∧ w.cell? ⟨H + 1 + 1, 0, none⟩ = some v3) ∧
  (∀ j, w.frozen? ⟨H, j, none⟩ = false) ∧ (∀ j, w.frozen? ⟨H + 1, j, none⟩ = false) ∧ (∀ j, w.frozen? ⟨H + 1 + 1, j, none⟩ = false) ∧ H + 1 + 1 < w.heap.size := by
 refine ⟨⟨?_, ?_, ?_, ?_⟩, fun j => by simp [World.frozen?, h.h0], fun j => by simp [World.frozen?, h.h1], fun j => by simp [World.frozen?, h.h2], (Array.getElem?_eq_some_iff.1 h.h2).1⟩
 ·rw [cell_of_row _ _ _ _ _ (0, 0) h.h0]; rfl
 ·rw [cell_of_row _ _ _ _ _ (0, 0) h.h1]; rfl
 ·rw [cell_of_row _ _ _ _ _ (0, 0) h.h1]; rfl
 ·rw [cell_of_row _ _ _ _ _ (0, 0) h.h2]; rfl
theorem Bx.keep (h : Bx H w v0 v1 v2 v3) (hb : Below w.heap.size w w') : Bx H w' v0 v1 v2 v3 := by
 obtain ⟨h0, h1, h2⟩ := h
 exact ⟨(hb.block _ (Array.getElem?_eq_some_iff.1 h0).1).trans h0, (hb.block _ (Array.getElem?_eq_some_iff.1 h1).1).trans h1, (hb.block _ (Array.getElem?_eq_some_iff.1 h2).1).trans h2⟩
theorem Bx.same (h : Bx H w v0 v1 v2 v3) (e0 : w'.heap[H]? = w.heap[H]?) (e1 : w'.heap[H + 1]? = w.heap[H + 1]?) (e2 : w'.heap[H + 1 + 1]? = w.heap[H + 1 + 1]?) : Bx H w' v0 v1 v2 v3 := ⟨e0.trans h.h0, e1.trans h.h1, e2.trans h.h2⟩
theorem Bx.set (h : Bx H w v0 v1 v2 v3) (u0 u1 u2 u3 : Value) : Bx H ((((w.setCell ⟨H, 0, none⟩ u0).setCell ⟨H + 1, 0, none⟩ u1).setCell ⟨H + 1, 1, none⟩ u2).setCell ⟨H + 1 + 1, 0, none⟩ u3) u0 u1 u2 u3 := by
 have n1 : H ≠ H + 1 := by omega
 have n2 : H ≠ H + 1 + 1 := by omega
 have n3 : H + 1 ≠ H + 1 + 1 := by omega
 have a0 := cell_set_row h.h0 (j := 0) (by simp) u0
 have a1 : (w.setCell ⟨H, 0, none⟩ u0).heap[H + 1]? = _ := (Below.heap_setCell _ _ _ _ n1.symm).trans h.h1
 have a2 : (w.setCell ⟨H, 0, none⟩ u0).heap[H + 1 + 1]? = _ := (Below.heap_setCell _ _ _ _ n2.symm).trans h.h2
 generalize w.setCell ⟨H, 0, none⟩ u0 = w1 at a0 a1 a2 ⊢
 have b1 := cell_set_row a1 (j := 0) (by simp) u1
 have b0 : (w1.setCell ⟨H + 1, 0, none⟩ u1).heap[H]? = _ := (Below.heap_setCell _ _ _ _ n1).trans a0
 have b2 : (w1.setCell ⟨H + 1, 0, none⟩ u1).heap[H + 1 + 1]? = _ := (Below.heap_setCell _ _ _ _ n3.symm).trans a2
 generalize w1.setCell ⟨H + 1, 0, none⟩ u1 = w2 at b0 b1 b2 ⊢
 have c1 := cell_set_row b1 (j := 1) (by simp) u2
 have c0 : (w2.setCell ⟨H + 1, 1, none⟩ u2).heap[H]? = _ := (Below.heap_setCell _ _ _ _ n1).trans b0
 have c2 : (w2.setCell ⟨H + 1, 1, none⟩ u2).heap[H + 1 + 1]? = _ := (Below.heap_setCell _ _ _ _ n3.symm).trans b2
 generalize w2.setCell ⟨H + 1, 1, none⟩ u2 = w3 at c0 c1 c2 ⊢
 have d2 := cell_set_row c2 (j := 0) (by simp) u3
 have d0 : (w3.setCell ⟨H + 1 + 1, 0, none⟩ u3).heap[H]? = _ := (Below.heap_setCell _ _ _ _ n2).trans c0
 have d1 : (w3.setCell ⟨H + 1 + 1, 0, none⟩ u3).heap[H + 1]? = _ := (Below.heap_setCell _ _ _ _ n3).trans c1
 exact ⟨d0, d1, d2⟩
theorem Bx.set3 (h : Bx H w v0 v1 v2 v3) (u1 u2 u3 : Value) : Bx H (((w.setCell ⟨H + 1, 0, none⟩ u1).setCell ⟨H + 1, 1, none⟩ u2).setCell ⟨H + 1 + 1, 0, none⟩ u3) v0 u1 u2 u3 := by
 have n1 : H ≠ H + 1 := by omega
 have n2 : H ≠ H + 1 + 1 := by omega
 have n3 : H + 1 ≠ H + 1 + 1 := by omega
 have b1 := cell_set_row h.h1 (j := 0) (by simp) u1
 have b0 : (w.setCell ⟨H + 1, 0, none⟩ u1).heap[H]? = _ := (Below.heap_setCell _ _ _ _ n1).trans h.h0
 have b2 : (w.setCell ⟨H + 1, 0, none⟩ u1).heap[H + 1 + 1]? = _ := (Below.heap_setCell _ _ _ _ n3.symm).trans h.h2
 generalize w.setCell ⟨H + 1, 0, none⟩ u1 = w2 at b0 b1 b2 ⊢
 have c1 := cell_set_row b1 (j := 1) (by simp) u2
 have c0 : (w2.setCell ⟨H + 1, 1, none⟩ u2).heap[H]? = _ := (Below.heap_setCell _ _ _ _ n1).trans b0
 have c2 : (w2.setCell ⟨H + 1, 1, none⟩ u2).heap[H + 1 + 1]? = _ := (Below.heap_setCell _ _ _ _ n3.symm).trans b2
 generalize w2.setCell ⟨H + 1, 1, none⟩ u2 = w3 at c0 c1 c2 ⊢
 have d2 := cell_set_row c2 (j := 0) (by simp) u3
 have d0 : (w3.setCell ⟨H + 1 + 1, 0, none⟩ u3).heap[H]? = _ := (Below.heap_setCell _ _ _ _ n2).trans c0
 have d1 : (w3.setCell ⟨H + 1 + 1, 0, none⟩ u3).heap[H + 1]? = _ := (Below.heap_setCell _ _ _ _ n3).trans c1
 exact ⟨d0, d1, d2⟩
theorem below_set3 {B : Nat} {w0 : World} (h : Below B w0 w) (hB : B ≤ H) (u1 u2 u3 : Value) : Below B w0 (((w.setCell ⟨H + 1, 0, none⟩ u1).setCell ⟨H + 1, 1, none⟩ u2).setCell ⟨H + 1 + 1, 0, none⟩ u3) :=
 Below.setCell (Below.setCell (Below.setCell h (by simp; omega) _) (by simp; omega) _) (by simp; omega) _
theorem below_set4 {B : Nat} {w0 : World} (h : Below B w0 w) (hB : B ≤ H) (u0 u1 u2 u3 : Value) : Below B w0 ((((w.setCell ⟨H, 0, none⟩ u0).setCell ⟨H + 1, 0, none⟩ u1).setCell ⟨H + 1, 1, none⟩ u2).setCell ⟨H + 1 + 1, 0, none⟩ u3) :=
 below_set3 (Below.setCell h (by simp; omega) _) hB u1 u2 u3
theorem Bx.new (w : World) (u0 u1 u2 u3 : Value) : Bx w.heap.size (((w.alloc (.cells #[u0] 23)).alloc (.cells #[u1, u2] 25)).alloc (.cells #[u3] 26)) u0 u1 u2 u3 := by
 have s1 : (w.alloc (.cells #[u0] 23)).heap.size = w.heap.size + 1 := by simp
 have s2 : ((w.alloc (.cells #[u0] 23)).alloc (.cells #[u1, u2] 25)).heap.size = w.heap.size + 1 + 1 := by simp
 refine ⟨?_, ?_, ?_⟩
 ·rw [Below.heap_alloc _ _ _ (by omega), Below.heap_alloc _ _ _ (by omega)]; exact heap_alloc_new w _
 ·rw [Below.heap_alloc _ _ _ (by omega), ← s1]; exact heap_alloc_new _ _
 ·rw [← s2]; exact heap_alloc_new _ _
end
theorem fault_cells (w : World) (x y er : Int) : (w.alloc (.cells #[.int .i64 x, .int .i64 y, .int .i64 er] 101)).cell? ⟨w.heap.size, 0, none⟩ = some (.int .i64 x) ∧ (w.alloc (.cells #[.int .i64 x, .int .i64 y, .int .i64 er] 101)).cell? ⟨w.heap.size, 1, none⟩ = some (.int .i64 y) ∧ (w.alloc (.cells #[.int .i64 x, .int .i64 y, .int .i64 er] 101)).cell? ⟨w.heap.size, 2, none⟩ = some (.int .i64 er) := by
 refine ⟨?_, ?_, ?_⟩
 all_goals
  rw [cell_of_row _ _ _ _ _ (0, 0) (heap_alloc_new w _)]
  rfl
theorem run_fault (v : Value) (w : World) : (Instr.typeAssert (.iface 101 v) 20 101 true).run Tryz.prog w = .ok (.tuple #[v, .bool true]) w := by
 simp [Instr.typeAssert, run_underlying Tryz.underlying101]
set_option maxHeartbeats 1000000 in
set_option maxRecDepth 100000 in
theorem catch_panics (H : Nat) (w : World) (v0 v1 v2 v3 : Value) (x y er : Int) (h : Bx H w v0 v1 v2 v3) :
  CallsD Tryz.prog 34 #[.pointer (some ⟨H, 0, none⟩), .pointer (some ⟨H + 1, 0, none⟩), .pointer (some ⟨H + 1 + 1, 0, none⟩)] (.panicking [{ v := .iface 101 (.agg #[.int .i64 x, .int .i64 y, .int .i64 er]), recovered := false }]) w fun e u' w' =>
   e = .returned (.tuple #[]) ∧ u' = .panicking [{ v := .iface 101 (.agg #[.int .i64 x, .int .i64 y, .int .i64 er]), recovered := true }] ∧ Bx H w' (.pointer none) (.int .i64 x) (.int .i64 y) (.int .i64 er) ∧ Below H w w' := by
 obtain ⟨⟨c0, c1, c2, c3⟩, f0, f1, f2, hz⟩ := h.cells
 have H3 := hid h
 clear h
 refine callsD_of_wpS Tryz.func34 rfl fun c₀ cs hu => ?_
 apply wpS_seq
 apply wpS_region
 simp [wpOpsS, go_sem, recoverD, hu, Tryz.ntmps34, Exit.thenS]
 rw [show (#[.pointer (some ⟨H, 0, none⟩), .pointer (some ⟨H + 1, 0, none⟩), .pointer (some ⟨H + 1 + 1, 0, none⟩)] ++ (Array.replicate 13 undef).setIfInBounds 3 (.iface 101 (.agg #[.int .i64 x, .int .i64 y, .int .i64 er])) : Array Value) = #[.pointer (some ⟨H, 0, none⟩), .pointer (some ⟨H + 1, 0, none⟩), .pointer (some ⟨H + 1 + 1, 0, none⟩), undef, undef, undef, (.iface 101 (.agg #[.int .i64 x, .int .i64 y, .int .i64 er])), undef, undef, undef, undef, undef, undef, undef, undef, undef] from rfl]
 refine wpS_of_wp ?_
 have hf := fun v w => run_fault v w
 go_wp2_with fail
 have B1 := hid (H3.out.keep (below_box w (.cells #[.int .i64 x, .int .i64 y, .int .i64 er] 101)))
 have hb := hid (below_box w (.cells #[.int .i64 x, .int .i64 y, .int .i64 er] 101))
 obtain ⟨q0, q1, q2⟩ := fault_cells w x y er
 clear c0 c1 c2 c3 f0 f1 f2
 obtain ⟨⟨c0, c1, c2, c3⟩, f0, f1, f2, hz2⟩ := B1.out.cells
 have hzz : H ≤ w.heap.size := by omega
 generalize w.alloc (.cells #[.int .i64 x, .int .i64 y, .int .i64 er] 101) = W at B1 hb q0 q1 q2 c0 c1 c2 c3 f0 f1 f2 hz2 ⊢
 go_region
 all_goals go_wp2_with fail
 all_goals exact ⟨rfl, _, rfl, .tuple #[], by simp [results, Tryz.results34, go_sem], rfl, rfl, (B1.out.set _ _ _ _).keep (Below.refl _ _).drew, (Below.setCell (Below.setCell (Below.setCell (Below.setCell (hb.out.mono hzz) (Nat.le_refl _) _) (by simp) _) (by simp) _) (show H ≤ H + 1 + 1 by omega) _).drew⟩
theorem catch_idle (a0 a1 a2 : Value) (w : World) :
  CallsD Tryz.prog 34 #[a0, a1, a2] .returning w fun e u' w' => e = .returned (.tuple #[]) ∧ u' = .returning ∧ w' = w := by
 refine callsD_of_wpS Tryz.func34 rfl fun c₀ cs hu => ?_
 apply wpS_seq
 apply wpS_region
 simp [wpOpsS, go_sem, recoverD, hu, Tryz.ntmps34, Exit.thenS]
 refine wpS_of_wp ?_
 go_wp2
 exact ⟨rfl, _, by rw [← hu], .tuple #[], by simp [results, Tryz.results34, go_sem], rfl, rfl, rfl⟩
theorem KEnv.low {w w' : World} (h : KEnv (fun b => b < w.heap.size) w) (hb : Below w.heap.size w w') : KEnv (fun b => b < w'.heap.size) w' := h.stay fun b h => ⟨hb.block b h, Nat.lt_of_lt_of_le h hb.size⟩
theorem out_new {w : World} {v a5 : Value} {b : Nat} (hb : b < w.heap.size) : Out layP w.heap.size (w.alloc (.cells #[v, .slice none 0 0, .slice none 0 0, .slice none 0 0, .slice none 0 0, a5] 103)) b := by
 refine ⟨by simp; omega, by omega, fun j hj u hu => ?_⟩
 rw [cell_of_row _ _ _ _ _ (0, 0) (heap_alloc_new w _)] at hu
 have hj : j = 1 ∨ j = 2 ∨ j = 3 ∨ j = 4 := by simpa [layP] using hj
 have : u = .slice none 0 0 := by
  rcases hj with rfl | rfl | rfl | rfl <;> simpa using hu.symm
 rw [this]
 intro e; cases e
theorem PInv.start {X : Nat → Prop} {B0 B : Nat} {w : World} {v : Value} {ts : List Tok} (hX : ∀ k, X k → B0 ≤ k ∧ k < B) (hB : B ≤ w.heap.size) (hE : KEnv (fun b => b < B0) w) (hB0 : B0 ≤ w.heap.size) (hT : Toks 185 B w v ts) (hw : WF ts) (hn : ts.length ≤ 16385) :
  PInv X w.heap.size (3 * ts.length) (w.alloc (.cells #[v, .slice none 0 0, .slice none 0 0, .slice none 0 0, .slice none 0 0, .int .i64 0] 103)) ts 0 (putF [] []) := by
 obtain ⟨a, c, hv, hc1, hc2⟩ : ∃ a c, v = .slice a ts.length c ∧ ts.length ≤ c ∧ c ≤ maxLen := by
  rcases id hT.2 with ⟨h1, h2⟩ | ⟨g, cap, cur, hv, hg, hh, q1, q2, _⟩
  ·exact absurd (List.eq_nil_of_length_eq_zero h2) hw.ne
  ·exact ⟨_, _, hv, q1, q2⟩
 subst hv
 have hold : ∀ b, b < w.heap.size → (w.alloc (.cells #[.slice a ts.length c, .slice none 0 0, .slice none 0 0, .slice none 0 0, .slice none 0 0, .int .i64 0] 103)).heap[b]? = w.heap[b]? := fun b hb => Below.heap_alloc _ _ _ hb
 have hp : ∀ b, b < w.heap.size → ¬ X b → Pub X layP w.heap.size (w.alloc (.cells #[.slice a ts.length c, .slice none 0 0, .slice none 0 0, .slice none 0 0, .slice none 0 0, .int .i64 0] 103)) b := fun b hb hx => ⟨out_new hb, hx⟩
 have hnX : ∀ b, b < B0 → ¬ X b := fun b hb hx => by have := (hX b hx).1; omega
 obtain ⟨⟨t1, f1, k1, k2⟩, ⟨t2, f2, k3, k4⟩⟩ := hE
 refine ⟨hw, ⟨⟨t1, f1, (hold _ (by omega)).trans k1, hp _ (by omega) (hnX _ k2)⟩, ⟨t2, f2, (hold _ (by omega)).trans k3, hp _ (by omega) (hnX _ k4)⟩⟩, ⟨a, c, _, _, _, _, heap_alloc_new w _, hc1, hc2, ?_, ⟨RowR.nil _ _ _ _ _, RowR.nil _ _ _ _ _, RowR.nil _ _ _ _ _, RowR.nil _ _ _ _ _⟩⟩, by omega, ?_, by omega, by simp [putF], by simp [putF, putSs], fun k hk => out_new (by have := (hX k hk).2; omega)⟩
 ·intro i t ht
  obtain ⟨g, rfl, hg, c0, c1, c2, c3, c4⟩ := hT.rd i t ht
  have hgB := (hT.lt g rfl).1
  have q : ∀ (o : Nat) v, w.cell? ⟨g, o, none⟩ = some v → (w.alloc (.cells #[.slice (some ⟨g, 0, none⟩) ts.length c, .slice none 0 0, .slice none 0 0, .slice none 0 0, .slice none 0 0, .int .i64 0] 103)).cell? ⟨g, o, none⟩ = some v := fun o v e => (World.cell?_of_block (a := ⟨g, o, none⟩) (hold g hg)).trans e
  rw [← Nat.zero_add (i * 5)] at c0 c1 c2 c3 c4
  exact ⟨g, 0, rfl, hp g hg (fun hx => by have := (hX g hx).2; omega), q _ _ c0, q _ _ c1, q _ _ c2, q _ _ c3, q _ _ c4⟩
 ·simp [putF, putSs, gm0]
def ParsePost (r : FR) (e : Ending) (w' : World) : Prop :=
 match r with
 | .ok f => (∃ g, e = .returned (.tuple #[.pointer (some ⟨g, 1, none⟩), .agg #[.int .i64 0, .int .i64 0], .int .i64 0]) ∧ FileR g w' f) ∧ f.g.xs.length + f.g.ts.length ≤ 60000 ∧ f.cs.length ≤ 64 ∧ f.ss.length ≤ 64
 | .bad p x => e = .returned (.tuple #[.pointer none, .agg #[.int .i64 (p.1 : Nat), .int .i64 (p.2 : Nat)], .int .i64 (x : Nat)]) ∧ x ≠ 0
theorem good_const (l : List Tok) : Good 5 l (constP l) := Good.mono (s := 1 + (1 + (1 + (1 + (1 + 0))))) ((good_need _ _ (by decide)).bind fun _ _ _ => (good_name _).bind fun _ _ _ => (good_need _ _ (by decide)).bind fun _ _ _ => (good_num _).bind fun _ _ _ => (good_need _ _ (by decide)).bind fun _ _ _ => .ok _ _) (by omega)
theorem good_fileL : ∀ (n : Nat) (cs : List (List UInt8 × Nat)) (ss : List SA) (l : List Tok), Good 0 l (fileL n cs ss l)
 | 0, _, _, l => by rw [fileL]; exact .bad _ _ (by decide)
 | n + 1, cs, ss, l => by
  rw [fileL]
  split
  ·exact .ok _ _
  split
  ·refine Good.mono (s := 0 + (5 + 0)) ((good_room _ _).bind fun _ l1 h1 => ?_) (by omega)
   obtain ⟨rfl, _⟩ := room_same h1
   exact (good_const _).bind fun _ _ _ => good_fileL n _ _ _
  split
  ·refine Good.mono (s := 0 + (3 + 0)) ((good_room _ _).bind fun _ l1 h1 => ?_) (by omega)
   obtain ⟨rfl, _⟩ := room_same h1
   exact (good_struct n _).bind fun _ _ _ => good_fileL n _ _ _
  ·exact .bad _ _ (by decide)
set_option maxHeartbeats 4000000 in
set_option maxRecDepth 100000 in
theorem Parse_any (s : ByteArray) (w : World) (hE : Env w) (hK : KEnv (fun b => b < w.heap.size) w) :
  Calls Tryz.prog 10 #[.string s] w fun e w' => ParsePost (parseL s.data.toList) e w' ∧ Below w.heap.size w w' := by
 have hmf : ∀ (fn : Fn) (first cap : Array Value) (w : World), (Instr.makeFunc fn first cap).run Tryz.prog w = .ok (.func fn first cap) w := fun _ _ _ _ => rfl
 have hB0 : Below w.heap.size w (((w.alloc (.cells #[.pointer none] 23)).alloc (.cells #[.int .i64 0, .int .i64 0] 25)).alloc (.cells #[.int .i64 0] 26)) := ((below_box _ _).alloc (by simp) _).alloc (by simp; omega) _
 have BX := hid (Bx.new w (.pointer none) (.int .i64 0) (.int .i64 0) (.int .i64 0))
 have CL := hid (Lex_any s _ (hE.below hB0))
 have HB0 := hid hB0
 have HK := hid hK
 clear hE hK hB0
 cases hl : lexL s.data.toList with
 | bad p x =>
  obtain ⟨-, hx0⟩ := lexL_bad_at hl
  rw [hl] at CL
  have CL := hid (CL.out.mono (R' := fun e w' => ∃ a c, e = .returned (.tuple #[.slice a 0 c, .agg #[.int .i64 (p.1 : Nat), .int .i64 (p.2 : Nat)], .int .i64 (x : Nat)]) ∧ Below _ _ w') fun e w' ⟨v, e1, e2, e3⟩ => by
   obtain ⟨a, c, rfl⟩ := e2.shape
   exact ⟨a, c, e1, e3⟩)
  have hR : parseL s.data.toList = .bad p x := by unfold parseL; rw [hl]
  rw [hR]
  have HP := hid hx0
  have hx : ((x : Int) != 0) = true := by simp; omega
  obtain ⟨p1, p2⟩ := p
  clear hR hl hx0
  go_enter_defers Tryz.func10, Tryz.ntmps10
  go_wp2_with (go_at_call 33; refine CL.out.mono ?_; rintro e w1 ⟨a, c, rfl, hb⟩; have BX1 := hid (BX.out.keep hb); obtain ⟨⟨c0, c1, c2, c3⟩, f0, f1, f2, hz⟩ := BX1.out.cells; have hb1 := hid (HB0.out.trans (hb.mono HB0.out.size)))
  have B1 := hid (BX1.out.set3 (.int .i64 (p1 : Nat)) (.int .i64 (p2 : Nat)) (.int .i64 (x : Nat)))
  have L1 := hid (below_set3 hb1.out (Nat.le_refl _) (.int .i64 (p1 : Nat)) (.int .i64 (p2 : Nat)) (.int .i64 (x : Nat)))
  clear c0 c1 c2 c3 f0 f1 f2 hz hb
  obtain ⟨⟨c0, c1, c2, c3⟩, f0, f1, f2, hz⟩ := B1.out.cells
  generalize (((w1.setCell ⟨w.heap.size + 1, 0, none⟩ (.int .i64 (p1 : Nat))).setCell ⟨w.heap.size + 1, 1, none⟩ (.int .i64 (p2 : Nat))).setCell ⟨w.heap.size + 1 + 1, 0, none⟩ (.int .i64 (x : Nat))) = W1 at B1 L1 c0 c1 c2 c3 f0 f1 f2 hz ⊢
  go_region
  all_goals go_wp2_with fail
  all_goals
   have B2 := (B1.out.set (.pointer none) (.int .i64 (p1 : Nat)) (.int .i64 (p2 : Nat)) (.int .i64 (x : Nat))).keep ((Below.refl _ _).drew)
   obtain ⟨⟨d0, d1, d2, d3⟩, g0, g1, g2, -⟩ := B2.cells
   refine ⟨.tuple #[.pointer none, .agg #[.int .i64 (p1 : Nat), .int .i64 (p2 : Nat)], .int .i64 (x : Nat)], by simp [results, Tryz.results10, go_sem, d0, d1, d2, d3], ⟨rfl, HP.out⟩, (below_set4 L1.out (Nat.le_refl _) _ _ _ _).drew⟩
 | ok ts =>
  have hw := hid (lexL_wf hl)
  have hn := hid (lexL_all hl).1
  rw [hl] at CL
  have CL := hid (CL.out.mono (R' := fun e w' => ∃ a c, e = .returned (.tuple #[.slice a ts.length c, .agg #[.int .i64 0, .int .i64 0], .int .i64 0]) ∧ Toks 185 _ w' (.slice a ts.length c) ts ∧ Below _ _ w') fun e w' ⟨v, e1, e2, e3⟩ => by
   obtain ⟨a, c, rfl⟩ := e2.shape
   exact ⟨a, c, e1, e2, e3⟩)
  have hR : parseL s.data.toList = match fileL (fuel ts) [] [] ts with | .ok a _ => .ok (putF a.1 a.2) | .bad l e => .bad (hd l).p e := by unfold parseL; rw [hl]; rfl
  obtain ⟨R, hRR⟩ : ∃ R, R = parseL s.data.toList := ⟨_, rfl⟩
  rw [← hRR]
  have HR := hid (hRR.trans hR)
  clear hR hl hRR
  go_enter_defers Tryz.func10, Tryz.ntmps10
  go_wp2_with (go_at_call 33; refine CL.out.mono ?_; rintro e w1 ⟨a, c, rfl, hT, hb⟩; have T1 := hid hT; have BX1 := hid (BX.out.keep hb); obtain ⟨⟨c0, c1, c2, c3⟩, f0, f1, f2, hz⟩ := BX1.out.cells; have hb1 := hid (HB0.out.trans (hb.mono HB0.out.size)); clear hT hb)
  have B1 := hid (BX1.out.set3 (.int .i64 0) (.int .i64 0) (.int .i64 0))
  have L1 := hid (below_set3 hb1.out (Nat.le_refl _) (.int .i64 0) (.int .i64 0) (.int .i64 0))
  have T2 : Toks 185 (w.heap.size + 3) (((w1.setCell ⟨w.heap.size + 1, 0, none⟩ (.int .i64 0)).setCell ⟨w.heap.size + 1, 1, none⟩ (.int .i64 0)).setCell ⟨w.heap.size + 1 + 1, 0, none⟩ (.int .i64 0)) (.slice a ts.length c) ts := by
   have hT : Toks 185 (w.heap.size + 3) w1 (.slice a ts.length c) ts := T1.out.base (by simp)
   exact ((hT.low (by simp) _).low (by simp) _).low (by simp) _
  have hsz : (((w1.setCell ⟨w.heap.size + 1, 0, none⟩ (.int .i64 0)).setCell ⟨w.heap.size + 1, 1, none⟩ (.int .i64 0)).setCell ⟨w.heap.size + 1 + 1, 0, none⟩ (.int .i64 0)).heap.size = w1.heap.size := by simp [World.setCell]
  clear c0 c1 c2 c3 f0 f1 f2 hz
  generalize (((w1.setCell ⟨w.heap.size + 1, 0, none⟩ (.int .i64 0)).setCell ⟨w.heap.size + 1, 1, none⟩ (.int .i64 0)).setCell ⟨w.heap.size + 1 + 1, 0, none⟩ (.int .i64 0)) = W1 at B1 L1 T2 hsz ⊢
  rw [← hsz]
  have hz := B1.out.cells.2.2.2.2
  have hI : PInv (fun k => w.heap.size ≤ k ∧ k < w.heap.size + 3) W1.heap.size (3 * ts.length) (W1.alloc (.cells #[.slice a ts.length c, .slice none 0 0, .slice none 0 0, .slice none 0 0, .slice none 0 0, .int .i64 0] 103)) ts 0 (putF [] []) :=
   PInv.start (B0 := w.heap.size) (B := w.heap.size + 3) (fun k h => h) (by omega) (HK.out.stay fun b h => ⟨L1.out.block b h, h⟩) (by omega) T2 hw.out hn.out
  have hnew : ∀ k, k < W1.heap.size → Out layP W1.heap.size (W1.alloc (.cells #[.slice a ts.length c, .slice none 0 0, .slice none 0 0, .slice none 0 0, .slice none 0 0, .int .i64 0] 103)) k := fun k hk => out_new hk
  have hold : ∀ k, k < W1.heap.size → (W1.alloc (.cells #[.slice a ts.length c, .slice none 0 0, .slice none 0 0, .slice none 0 0, .slice none 0 0, .int .i64 0] 103)).heap[k]? = W1.heap[k]? := fun k hk => Below.heap_alloc _ _ _ hk
  have CF := file_any (fuel ts) _ hI (by unfold fuel; omega)
  clear hI
  have hb2 : Below W1.heap.size W1 (W1.alloc (.cells #[.slice a ts.length c, .slice none 0 0, .slice none 0 0, .slice none 0 0, .slice none 0 0, .int .i64 0] 103)) := below_box _ _
  generalize W1.alloc (.cells #[.slice a ts.length c, .slice none 0 0, .slice none 0 0, .slice none 0 0, .slice none 0 0, .int .i64 0] 103) = W2 at CF hnew hold hb2 ⊢
  have hX0 : (fun k => w.heap.size ≤ k ∧ k < w.heap.size + 3) w.heap.size := ⟨Nat.le_refl _, by omega⟩
  have hX1 : (fun k => w.heap.size ≤ k ∧ k < w.heap.size + 3) (w.heap.size + 1) := ⟨by omega, by omega⟩
  have hX2 : (fun k => w.heap.size ≤ k ∧ k < w.heap.size + 3) (w.heap.size + 1 + 1) := ⟨by omega, by omega⟩
  refine CF.mono ?_
  intro e w3 hpost
  obtain ⟨hp, hS⟩ := hpost
  have L3 := hid ((L1.out.trans (hb2.mono L1.out.size)).trans (⟨hS.os, hS.tape, hS.output, hS.size, fun k hk => (hS.stay k (hnew k (Nat.lt_of_lt_of_le hk L1.out.size))).1⟩ : Below w.heap.size W2 w3))
  have hkk : ∀ k, k < W1.heap.size → w3.heap[k]? = W1.heap[k]? := fun k hk => ((hS.stay k (hnew k hk)).1).trans (hold k hk)
  have B3 := hid (B1.out.same (hkk _ (by omega)) (hkk _ (by omega)) (hkk _ (by omega)))
  clear hkk hS hold hnew hb2 CF
  obtain ⟨⟨c0, c1, c2, c3⟩, f0, f1, f2, hz3⟩ := B3.out.cells
  cases hf : fileL (fuel ts) [] [] ts with
  | ok r l =>
   rw [hf] at hp
   obtain ⟨rfl, hI⟩ := hp
   have HI := hid hI
   have HQ := hid (show R = .ok (putF r.1 r.2) by rw [HR.out, hf])
   clear hI hf
   go_wp2_with fail
   refine leaves_cons (f := 34) (args := #[.pointer (some ⟨w.heap.size, 0, none⟩), .pointer (some ⟨w.heap.size + 1, 0, none⟩), .pointer (some ⟨w.heap.size + 1 + 1, 0, none⟩)]) (by simp) (by simp [go_sem]) ?_
   refine (catch_idle _ _ _ _).mono ?_
   rintro e u' w'' ⟨rfl, rfl, rfl⟩
   have HI2 := HI.out
   rw [hsz] at HI2
   have B4 := B3.out.set (.pointer (some ⟨w1.heap.size, 1, none⟩)) (.int .i64 0) (.int .i64 0) (.int .i64 0)
   obtain ⟨⟨d0, d1, d2, d3⟩, g0, g1, g2, -⟩ := B4.cells
   have hI4 := (((HI2.local hX0 0 (.pointer (some ⟨w1.heap.size, 1, none⟩))).local hX1 0 (.int .i64 0)).local hX1 1 (.int .i64 0)).local hX2 0 (.int .i64 0)
   refine ⟨.tuple #[.pointer (some ⟨w1.heap.size, 1, none⟩), .agg #[.int .i64 0, .int .i64 0], .int .i64 0], by simp [results, Tryz.results10, go_sem, d0, d1, d2, d3], ?_, below_set4 L3.out (Nat.le_refl _) _ _ _ _⟩
   rw [HQ.out]
   exact ⟨⟨_, rfl, hI4.file⟩, by have := HI2.pot; have := HI2.top; omega, HI2.lc, HI2.ls⟩
  | bad l x =>
   rw [hf] at hp
   have hx0 : x ≠ 0 := by
    have := good_fileL (fuel ts) [] [] ts hw.out
    rw [hf] at this
    exact this.2.2
   have HQ := hid (show R = .bad (hd l).p x by rw [HR.out, hf])
   subst hp
   clear hf
   go_wp2_with fail
   refine leaves_cons (f := 34) (args := #[.pointer (some ⟨w.heap.size, 0, none⟩), .pointer (some ⟨w.heap.size + 1, 0, none⟩), .pointer (some ⟨w.heap.size + 1 + 1, 0, none⟩)]) (by simp) (by simp [go_sem]) ?_
   refine (catch_panics w.heap.size w3 _ _ _ _ _ _ _ B3.out).mono ?_
   rintro e u' w'' ⟨rfl, rfl, hB, hL⟩
   obtain ⟨⟨d0, d1, d2, d3⟩, g0, g1, g2, -⟩ := hB.cells
   refine ⟨.tuple #[.pointer none, .agg #[.int .i64 ((hd l).p.1 : Nat), .int .i64 ((hd l).p.2 : Nat)], .int .i64 (x : Nat)], by simp [results, Tryz.results10, go_sem, d0, d1, d2, d3], ?_, L3.out.trans hL⟩
   rw [HQ.out]
   exact ⟨rfl, hx0⟩
end Go.Proofs.YtomimkgaelkaoaaGreatDoor
