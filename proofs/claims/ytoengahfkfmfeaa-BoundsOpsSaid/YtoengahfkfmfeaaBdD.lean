/- Layer 11: the range of a name (named), by slices.Backward. -/
import Derived.Stop.RegionWithIn
import Derived.Test.YtoengahfkfmfeaaBdC
import Derived.Test.YtoengahfkfmfeaaBdQ
set_option linter.unusedVariables false
set_option linter.unusedSimpArgs false
namespace Go.Proofs.Ytoengahfkfmfeaa
open Go.RowKit Go.Shelf
attribute [local go_sem] Oper.semAt_some

theorem getB_snoc (e : RngL) (x : List UInt8 × (Int × Int)) (s : List UInt8) : getB (e ++ [x]) s = if x.1 = s then some x.2 else getB e s := by
  unfold getB
  rw [List.reverse_append]
  show (List.find? _ (x :: e.reverse)).map _ = _
  rw [List.find?_cons]
  by_cases h : x.1 = s <;> simp [h]
/-- What comes backward, k rounds being over. -/
def backB (e : RngL) (k : Nat) : List (Int × (List UInt8 × (Int × Int))) := (List.range k).map fun j => (((e.length - 1 - j : Nat) : Int), e[e.length - 1 - j]?.getD ([], (0, 0)))
theorem backB_succ (e : RngL) (k : Nat) : backB e (k + 1) = backB e k ++ [(((e.length - 1 - k : Nat) : Int), e[e.length - 1 - k]?.getD ([], (0, 0)))] := by simp [backB, List.range_succ]
theorem backB_length (e : RngL) (k : Nat) : (backB e k).length = k := by simp [backB]
/-- The slice v holds the environment e, in a block below n. -/
def RngAt (n : Nat) (w : World) (v : Value) (e : RngL) : Prop :=
  ∃ a c, v = .slice a e.length c ∧ e.length < 4611686018427387904 ∧ ∀ (i : Nat) x, e[i]? = some x → ∃ k, a = some ⟨k, 0, none⟩ ∧ k < n ∧ w.cell? ⟨k, i * 3, none⟩ = some (.string ⟨x.1.toArray⟩) ∧ w.cell? ⟨k, i * 3 + 1, none⟩ = some (.int .u64 x.2.1) ∧ w.cell? ⟨k, i * 3 + 2, none⟩ = some (.int .u64 x.2.2)
theorem RngAt.below {n : Nat} {w w' : World} {v : Value} {e : RngL} (h : RngAt n w v e) (hb : Below n w w') : RngAt n w' v e := by
  obtain ⟨a, c, h1, h2, h3⟩ := h
  refine ⟨a, c, h1, h2, fun i x hx => ?_⟩
  obtain ⟨k, k1, k2, k3, k4, k5⟩ := h3 i x hx
  exact ⟨k, k1, k2, (hb.cell (p := ⟨k, _, none⟩) k2).trans k3, (hb.cell (p := ⟨k, _, none⟩) k2).trans k4, (hb.cell (p := ⟨k, _, none⟩) k2).trans k5⟩
abbrev encR (x : Int × (List UInt8 × (Int × Int))) : Array Value := #[.int .i64 x.1, .agg #[.string ⟨x.2.1.toArray⟩, .int .u64 x.2.2.1, .int .u64 x.2.2.2]]

set_option maxRecDepth 100000 in
set_option maxHeartbeats 2000000 in
theorem backb1_in (F : Fence) (n : Nat) (hf : F.fn 78) (hro : F.round = none) (hn : 1 ≤ n) (l Bs n₀ : Nat) (sv : Value) (e : RngL) (J Jx : List (Int × (List UInt8 × (Int × Int))) → World → Prop)
    (hY : ∀ pre x W, J pre W → pre.length < e.length → YieldAt F (n - 1) Try.prog l (encR x) W fun q W' =>
      (q = .returned (.bool true) ∧ J (pre ++ [x]) W' ∧ Below n₀ W W') ∨ (q = .returned (.bool false) ∧ Jx (pre ++ [x]) W'))
    (W : World) (hBn : Bs < n₀) (hBs : W.cell? ⟨Bs, 0, none⟩ = some sv) (hE : RngAt n₀ W sv e) (h0 : J [] W) :
    CallsIn F n Try.prog 78 #[.func (.yield l) #[] #[], .pointer (some ⟨Bs, 0, none⟩)] W fun q W' => (∃ v, q = .returned v) ∧
      ((∃ ys, ys = backB e e.length ∧ J ys W') ∨ (∃ pre, (∃ k, k ≤ e.length ∧ pre = backB e k) ∧ Jx pre W')) := by
  obtain ⟨a, c, rfl, hlen, hcs⟩ := hE
  refine callsIn_of_wp Try.func78 rfl hf ?_ hro
  simp only [Try.ntmps78, List.size_toArray, List.length_cons, List.length_nil, Nat.reduceAdd, Nat.reduceSub, Array.replicate_succ, Array.replicate_zero, List.push_toArray, List.append_toArray, List.nil_append, List.cons_append]
  have hw0 : wrap64 ((e.length : Int) - 1) = (e.length : Int) - 1 := by unfold wrap64; omega
  gi_wp2
  gi_loopw [3] (fun i wr => ∃ k : Nat, k ≤ e.length ∧ i = .int .i64 ((e.length : Int) - 1 - k) ∧ J (backB e k) wr ∧ Below n₀ W wr)
    (fun i _ => (intOf i + 1).toNat)
  case atStart => exact ⟨0, Nat.zero_le _, by simp, h0, Below.refl _ _⟩
  case round =>
    obtain ⟨k, hk, rfl, hJs, hnx⟩ := hrel
    by_cases hlt : k < e.length
    · obtain ⟨x, hx⟩ : ∃ x, e[e.length - 1 - k]? = some x := ⟨_, List.getElem?_eq_getElem (by omega)⟩
      obtain ⟨b, rfl, hb, c0, c1, c2⟩ := hcs _ _ hx
      have d0 := (hnx.cell (p := ⟨b, _, none⟩) hb).trans c0
      have d1 := (hnx.cell (p := ⟨b, _, none⟩) hb).trans c1
      have d2 := (hnx.cell (p := ⟨b, _, none⟩) hb).trans c2
      have hBs' := (hnx.cell (p := ⟨Bs, 0, none⟩) hBn).trans hBs
      obtain ⟨fn, tmps, assign, body, hy, hR⟩ := hY _ (((e.length - 1 - k : Nat) : Int), x) wr hJs (by rw [backB_length]; exact hlt)
      simp only [encR] at hy
      have hm : (e.length : Int) - 1 - k = ((e.length - 1 - k : Nat) : Int) := by omega
      have hw1 : wrap64 (((e.length - 1 - k : Nat) : Int) - 1) = (e.length : Int) - 1 - (k + 1 : Nat) := by unfold wrap64; omega
      have hml : e.length - 1 - k < e.length := by omega
      rw [hm]
      have hbk : backB e (k + 1) = backB e k ++ [(((e.length - 1 - k : Nat) : Int), x)] := by rw [backB_succ, hx]; rfl
      generalize e.length - 1 - k = m at *
      gi_wp2
      refine hR.mono ?_
      rintro q W3 (⟨rfl, hJ3, hk3⟩ | ⟨rfl, hJx3⟩)
      · gi_wp2
        go_roundw
        case rel => exact ⟨k + 1, by omega, by congr 1; omega, by rw [hbk]; exact hJ3, hnx.trans hk3⟩
        case measure => simp only [intOf]; omega
      · gi_wp2
        refine bodyPost_ret (results_none rfl _ _ _) rfl ?_
        exact ⟨⟨_, rfl⟩, .inr ⟨_, ⟨k + 1, by omega, hbk.symm⟩, hJx3⟩⟩
    · obtain rfl : k = e.length := by omega
      gi_wp2
      go_end0
      exact ⟨⟨_, rfl⟩, .inl ⟨_, rfl, hJs⟩⟩

set_option maxHeartbeats 1000000 in
theorem backb_in (F : Fence) (n : Nat) (hf : F.fn 66) (hro : F.round = none) (v : Value) (w : World) (hv : ∃ a l c, v = .slice a l c) :
    CallsIn F n Try.prog 66 #[v] w fun q w' => q = .returned (.func (.func 78) #[] #[.pointer (some ⟨w.heap.size, 0, none⟩)]) ∧ w' = w.alloc (.cells #[v] 49) := by
  obtain ⟨a, l, c, rfl⟩ := hv
  refine callsIn_of_wp Try.func66 rfl hf ?_ hro
  simp only [Try.ntmps66, List.size_toArray, List.length_cons, List.length_nil, Nat.reduceAdd, Nat.reduceSub, Array.replicate_succ, Array.replicate_zero, List.push_toArray, List.append_toArray, List.nil_append, List.cons_append]
  gi_wp2
  go_ret
  exact ⟨rfl, rfl⟩
theorem backb_stops (F : Fence) (n : Nat) (hf : F.fn 78) (hro : F.round = none) (hn : 1 ≤ n) (Bs n₀ : Nat) (sv : Value) (e : RngL) (w : World) (hBs : Bs < n₀) (hn₀ : n₀ ≤ w.heap.size)
    (hc : w.cell? ⟨Bs, 0, none⟩ = some sv) (hI : RngAt n₀ w sv e) :
    SeqStopsK F n Try.prog 78 #[.pointer (some ⟨Bs, 0, none⟩)] encR (Below n₀) (fun ys => ys = backB e e.length) (fun pre => ∃ k, k ≤ e.length ∧ pre = backB e k) e.length w := fun l J Jx W hW _ _ hY h0 =>
  backb1_in F n hf hro hn l Bs n₀ sv e J Jx hY W hBs ((hW.cell (p := ⟨Bs, 0, none⟩) (show Bs < w.heap.size by omega)).trans hc) (hI.below (hW.mono hn₀)) h0
theorem getB_append (a b : RngL) (s : List UInt8) : getB (a ++ b) s = (getB b s).or (getB a s) := by
  induction b using rev_ind with
  | h0 => rw [List.append_nil]; rfl
  | hs b x ih =>
    rw [← List.append_assoc, getB_snoc, getB_snoc, ih]
    split <;> rfl
theorem getB_none {e : RngL} {s : List UInt8} (h : ∀ x ∈ e, x.1 ≠ s) : getB e s = none := by
  induction e using rev_ind with
  | h0 => rfl
  | hs e x ih =>
    rw [getB_snoc, if_neg (h x (by simp))]
    exact ih fun y hy => h y (by simp [hy])
theorem getB_back {e : RngL} {s : List UInt8} {k : Nat} {x : List UInt8 × (Int × Int)} (hk : k < e.length) (hx : e[e.length - 1 - k]? = some x) (hs : x.1 = s) (h : ∀ p ∈ backB e k, p.2.1 ≠ s) : getB e s = some x.2 := by
  have e1 : e = (e.take (e.length - 1 - k) ++ [x]) ++ e.drop (e.length - 1 - k + 1) := by
    obtain ⟨h1, h2⟩ := List.getElem?_eq_some_iff.1 hx
    rw [← h2, ← List.take_succ_eq_append_getElem h1, List.take_append_drop]
  rw [e1, getB_append, getB_snoc, if_pos hs, getB_none]
  · rfl
  · intro y hy
    obtain ⟨j, hj⟩ := List.mem_iff_getElem?.1 hy
    rw [List.getElem?_drop] at hj
    have hl := (List.getElem?_eq_some_iff.1 hj).1
    have := h ((((e.length - 1 - (e.length - 1 - (e.length - 1 - k + 1 + j)) : Nat) : Int)), y) (by
      unfold backB
      refine List.mem_map.2 ⟨e.length - 1 - (e.length - 1 - k + 1 + j), by rw [List.mem_range]; omega, ?_⟩
      rw [show e.length - 1 - (e.length - 1 - (e.length - 1 - k + 1 + j)) = e.length - 1 - k + 1 + j from by omega, hj]
      rfl)
    exact this
theorem getB_all {e : RngL} {s : List UInt8} (h : ∀ p ∈ backB e e.length, p.2.1 ≠ s) : getB e s = none := getB_none fun y hy => by
  obtain ⟨j, hj⟩ := List.mem_iff_getElem?.1 hy
  have hl := (List.getElem?_eq_some_iff.1 hj).1
  refine h (((e.length - 1 - (e.length - 1 - j) : Nat) : Int), y) ?_
  unfold backB
  refine List.mem_map.2 ⟨e.length - 1 - j, by rw [List.mem_range]; omega, ?_⟩
  rw [show e.length - 1 - (e.length - 1 - j) = j from by omega, hj]
  rfl
end Go.Proofs.Ytoengahfkfmfeaa
