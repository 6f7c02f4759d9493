/- Layer 10: the number of a name (Get), by slices.Backward. -/
import Derived.RangeFuncNested
import Derived.RangeFuncBound
import Derived.RangeFuncCalls
import Derived.RangeFuncLeaves
import Derived.RangeFuncBox
import Derived.Shelf.Abstract
import Derived.WalkKit
import Derived.OwnWalkIn
import Derived.TacticsInMore
import Derived.LoopNIn
import Derived.LoopIn
import Derived.Test.YtoengahfkfmfeaaExP
import Derived.Test.YtoengahfkfmfeaaChecked
set_option linter.unusedVariables false
set_option linter.unusedSimpArgs false
namespace Go.Proofs.Ytoengahfkfmfeaa
open Go.RowKit Go.Shelf
attribute [local go_sem] Oper.semAt_some

theorem getE_snoc (e : EnvL) (x : List UInt8 × Int) (s : List UInt8) : getE (e ++ [x]) s = if x.1 = s then some x.2 else getE e s := by
  unfold getE
  rw [List.reverse_append]
  show (List.find? _ (x :: e.reverse)).map _ = _
  rw [List.find?_cons]
  by_cases h : x.1 = s <;> simp [h]
/-- What comes backward, k rounds being over. -/
def backK (e : EnvL) (k : Nat) : List (Int × (List UInt8 × Int)) := (List.range k).map fun j => (((e.length - 1 - j : Nat) : Int), e[e.length - 1 - j]?.getD ([], 0))
theorem backK_succ (e : EnvL) (k : Nat) : backK e (k + 1) = backK e k ++ [(((e.length - 1 - k : Nat) : Int), e[e.length - 1 - k]?.getD ([], 0))] := by simp [backK, List.range_succ]
theorem backK_length (e : EnvL) (k : Nat) : (backK e k).length = k := by simp [backK]
/-- The slice v holds the environment e, in a block below n. -/
def EnvAt (n : Nat) (w : World) (v : Value) (e : EnvL) : Prop :=
  ∃ a c, v = .slice a e.length c ∧ e.length < 4611686018427387904 ∧ ∀ (i : Nat) x, e[i]? = some x → ∃ k, a = some ⟨k, 0, none⟩ ∧ k < n ∧ w.cell? ⟨k, i * 2, none⟩ = some (.string ⟨x.1.toArray⟩) ∧ w.cell? ⟨k, i * 2 + 1, none⟩ = some (.int .u64 x.2)
theorem EnvAt.below {n : Nat} {w w' : World} {v : Value} {e : EnvL} (h : EnvAt n w v e) (hb : Below n w w') : EnvAt n w' v e := by
  obtain ⟨a, c, h1, h2, h3⟩ := h
  refine ⟨a, c, h1, h2, fun i x hx => ?_⟩
  obtain ⟨k, k1, k2, k3, k4⟩ := h3 i x hx
  exact ⟨k, k1, k2, (hb.cell (p := ⟨k, _, none⟩) k2).trans k3, (hb.cell (p := ⟨k, _, none⟩) k2).trans k4⟩
abbrev encV (x : Int × (List UInt8 × Int)) : Array Value := #[.int .i64 x.1, .agg #[.string ⟨x.2.1.toArray⟩, .int .u64 x.2.2]]

set_option maxRecDepth 100000 in
set_option maxHeartbeats 2000000 in
theorem back1_in (F : Fence) (n : Nat) (hf : F.fn 79) (hro : F.round = none) (hn : 1 ≤ n) (l Bs n₀ : Nat) (sv : Value) (e : EnvL) (J Jx : List (Int × (List UInt8 × Int)) → World → Prop)
    (hY : ∀ pre x W, J pre W → pre.length < e.length → YieldAt F (n - 1) Try.prog l (encV x) W fun q W' =>
      (q = .returned (.bool true) ∧ J (pre ++ [x]) W' ∧ Below n₀ W W') ∨ (q = .returned (.bool false) ∧ Jx (pre ++ [x]) W'))
    (W : World) (hBn : Bs < n₀) (hBs : W.cell? ⟨Bs, 0, none⟩ = some sv) (hE : EnvAt n₀ W sv e) (h0 : J [] W) :
    CallsIn F n Try.prog 79 #[.func (.yield l) #[] #[], .pointer (some ⟨Bs, 0, none⟩)] W fun q W' => (∃ v, q = .returned v) ∧
      ((∃ ys, ys = backK e e.length ∧ J ys W') ∨ (∃ pre, (∃ k, k ≤ e.length ∧ pre = backK e k) ∧ Jx pre W')) := by
  obtain ⟨a, c, rfl, hlen, hcs⟩ := hE
  refine callsIn_of_wp Try.func79 rfl hf ?_ hro
  simp only [Try.ntmps79, List.size_toArray, List.length_cons, List.length_nil, Nat.reduceAdd, Nat.reduceSub, Array.replicate_succ, Array.replicate_zero, List.push_toArray, List.append_toArray, List.nil_append, List.cons_append]
  have hw0 : wrap64 ((e.length : Int) - 1) = (e.length : Int) - 1 := by unfold wrap64; omega
  gi_wp2
  gi_loopw [3] (fun i wr => ∃ k : Nat, k ≤ e.length ∧ i = .int .i64 ((e.length : Int) - 1 - k) ∧ J (backK e k) wr ∧ Below n₀ W wr)
    (fun i _ => (intOf i + 1).toNat)
  case atStart => exact ⟨0, Nat.zero_le _, by simp, h0, Below.refl _ _⟩
  case round =>
    obtain ⟨k, hk, rfl, hJs, hnx⟩ := hrel
    by_cases hlt : k < e.length
    · obtain ⟨x, hx⟩ : ∃ x, e[e.length - 1 - k]? = some x := ⟨_, List.getElem?_eq_getElem (by omega)⟩
      obtain ⟨b, rfl, hb, c0, c1⟩ := hcs _ _ hx
      have d0 := (hnx.cell (p := ⟨b, _, none⟩) hb).trans c0
      have d1 := (hnx.cell (p := ⟨b, _, none⟩) hb).trans c1
      have hBs' := (hnx.cell (p := ⟨Bs, 0, none⟩) hBn).trans hBs
      obtain ⟨fn, tmps, assign, body, hy, hR⟩ := hY _ (((e.length - 1 - k : Nat) : Int), x) wr hJs (by rw [backK_length]; exact hlt)
      simp only [encV] at hy
      have hm : (e.length : Int) - 1 - k = ((e.length - 1 - k : Nat) : Int) := by omega
      have hw1 : wrap64 (((e.length - 1 - k : Nat) : Int) - 1) = (e.length : Int) - 1 - (k + 1 : Nat) := by unfold wrap64; omega
      have hml : e.length - 1 - k < e.length := by omega
      rw [hm]
      have hbk : backK e (k + 1) = backK e k ++ [(((e.length - 1 - k : Nat) : Int), x)] := by rw [backK_succ, hx]; rfl
      generalize e.length - 1 - k = m at *
      gi_wp2
      refine hR.mono ?_
      rintro q W3 (⟨rfl, hJ3, hk3⟩ | ⟨rfl, hJx3⟩)
      · gi_wp2
        go_roundw
        case rel => exact ⟨k + 1, by omega, by congr 1; omega, by rw [hbk]; exact hJ3, hnx.trans hk3⟩
        case measure => simp only [intOf]; omega
      · gi_wp2
        refine bodyPost_ret (results_none rfl _ _ _) rfl ?_
        exact ⟨⟨_, rfl⟩, .inr ⟨_, ⟨k + 1, by omega, hbk.symm⟩, hJx3⟩⟩
    · obtain rfl : k = e.length := by omega
      gi_wp2
      go_end0
      exact ⟨⟨_, rfl⟩, .inl ⟨_, rfl, hJs⟩⟩

set_option maxHeartbeats 1000000 in
theorem back_in (F : Fence) (n : Nat) (hf : F.fn 67) (hro : F.round = none) (v : Value) (w : World) (hv : ∃ a l c, v = .slice a l c) :
    CallsIn F n Try.prog 67 #[v] w fun q w' => q = .returned (.func (.func 79) #[] #[.pointer (some ⟨w.heap.size, 0, none⟩)]) ∧ w' = w.alloc (.cells #[v] 52) := by
  obtain ⟨a, l, c, rfl⟩ := hv
  refine callsIn_of_wp Try.func67 rfl hf ?_ hro
  simp only [Try.ntmps67, List.size_toArray, List.length_cons, List.length_nil, Nat.reduceAdd, Nat.reduceSub, Array.replicate_succ, Array.replicate_zero, List.push_toArray, List.append_toArray, List.nil_append, List.cons_append]
  gi_wp2
  go_ret
  exact ⟨rfl, rfl⟩
theorem back_stops (F : Fence) (n : Nat) (hf : F.fn 79) (hro : F.round = none) (hn : 1 ≤ n) (Bs n₀ : Nat) (sv : Value) (e : EnvL) (w : World) (hBs : Bs < n₀) (hn₀ : n₀ ≤ w.heap.size)
    (hc : w.cell? ⟨Bs, 0, none⟩ = some sv) (hI : EnvAt n₀ w sv e) :
    SeqStopsK F n Try.prog 79 #[.pointer (some ⟨Bs, 0, none⟩)] encV (Below n₀) (fun ys => ys = backK e e.length) (fun pre => ∃ k, k ≤ e.length ∧ pre = backK e k) e.length w := fun l J Jx W hW _ _ hY h0 =>
  back1_in F n hf hro hn l Bs n₀ sv e J Jx hY W hBs ((hW.cell (p := ⟨Bs, 0, none⟩) (show Bs < w.heap.size by omega)).trans hc) (hI.below (hW.mono hn₀)) h0
end Go.Proofs.Ytoengahfkfmfeaa
