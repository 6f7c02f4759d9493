/- Layer 10, mathematics: the parts of an expression, gone through by a list; then their values, the lesser places first. No program. · Layer 10: the two maps of Eval: places seen, and what places come to. · Layer 10: the operands of an expression; its value by theirs. -/
import Derived.Test.YtomimkgaelkaoaaGreatDoorC12ExP
import Derived.Maps.OwnSet
import Derived.WalkKit
import Derived.OwnWalk
import Derived.WalkSmall
import Derived.Test.YtomimkgaelkaoaaGreatDoorChecked
import Derived.Test.YtomimkgaelkaoaaGreatDoorC12ExB
import Derived.Test.YtomimkgaelkaoaaGreatDoorC12WordC
import Derived.Test.YtomimkgaelkaoaaGreatDoorC12LexA
import Derived.BigQuiet
import Derived.Deep.CutBlock
import Derived.StillTailTactics
set_option linter.unusedVariables false
set_option linter.unusedSimpArgs false
namespace Go.Proofs.YtomimkgaelkaoaaGreatDoor
open Go.Lib (hid)
theorem nodup_le : ∀ (n : Nat) (l : List Int), l.Nodup → (∀ y ∈ l, 0 ≤ y ∧ y < n) → l.length ≤ n
 | 0, l, _, h => by
  cases l with
  | nil => exact Nat.le_refl _
  | cons a l => have := h a (by simp); omega
 | n + 1, l, hd, h => by
  have h1 := nodup_le n (l.filter fun y => decide (y ≠ (n : Int))) (hd.filter _) (fun y hy => by
   rw [List.mem_filter, decide_eq_true_eq] at hy
   have := h y hy.1
   omega)
  have h2 : l.length ≤ (l.filter fun y => decide (y ≠ (n : Int))).length + 1 := by
   clear h h1
   induction l with
   | nil => simp
   | cons a l ih =>
    rw [List.nodup_cons] at hd
    by_cases ha : a = (n : Int)
    ·have : l.filter (fun y => decide (y ≠ (n : Int))) = l := List.filter_eq_self.2 fun y hy => by
      rw [decide_eq_true_eq]; rintro rfl; exact hd.1 (ha ▸ hy)
     rw [List.filter_cons_of_neg (by simp [ha]), this]
     simp
    ·rw [List.filter_cons_of_pos (by simp [ha])]
     have := ih hd.2
     simp only [List.length_cons]; omega
  omega
structure Pt (xs : List XE) (t : Int) (i : Nat) (l : List Int) : Prop where
 hd : l[0]? = some t
 nd : l.Nodup
 le : ∀ y ∈ l, 0 ≤ y ∧ y ≤ t
 ok : ∀ e, (vat (allX xs e) t).2 ≠ 2 → ∀ y ∈ l, (vat (allX xs e) y).2 ≠ 2
 done : ∀ j, j < i → ∀ y, l[j]? = some y → ∃ x ks, xs[y.toNat]? = some x ∧ opsX x = some ks ∧ ∀ k ∈ ks, 0 ≤ k ∧ k < y ∧ k ∈ l
theorem Pt.start {xs : List XE} {t : Int} (h0 : 0 ≤ t) : Pt xs t 0 [t] :=
 ⟨rfl, by simp, fun y hy => by simp at hy; omega, fun e h y hy => by simp at hy; subst hy; exact h, fun j hj => absurd hj (Nat.not_lt_zero _)⟩
theorem Pt.len {xs : List XE} {t : Int} {i : Nat} {l : List Int} (h : Pt xs t i l) : l.length ≤ t.toNat + 1 :=
 nodup_le _ l h.nd fun y hy => by have := h.le y hy; omega
theorem Pt.mem {xs : List XE} {t : Int} {i : Nat} {l : List Int} (h : Pt xs t i l) : t ∈ l := List.mem_of_getElem? h.hd
theorem Pt.step {xs : List XE} {t : Int} {i : Nat} {l : List Int} (h : Pt xs t i l) {y : Int} {x : XE} {ks : List Int} (hy : l[i]? = some y) (hx : xs[y.toNat]? = some x) (ho : opsX x = some ks) (hk : ∀ k ∈ ks, 0 ≤ k ∧ k < y ∧ k ∈ l) : Pt xs t (i + 1) l :=
 ⟨h.hd, h.nd, h.le, h.ok, fun j hj z hz => by
  rcases Nat.lt_succ_iff_lt_or_eq.1 hj with h1 | rfl
  ·exact h.done j h1 z hz
  ·rw [hy] at hz; cases hz
   exact ⟨x, ks, hx, ho, hk⟩⟩
theorem Pt.add {xs : List XE} {t : Int} {i : Nat} {l : List Int} (h : Pt xs t i l) {y : Int} {x : XE} {ks : List Int} (hy : l[i]? = some y) (hx : xs[y.toNat]? = some x) (ho : opsX x = some ks) {k : Int} (hk : k ∈ ks) (h0 : 0 ≤ k) (hky : k < y) (hn : k ∉ l) : Pt xs t i (l ++ [k]) := by
 have hym : y ∈ l := List.mem_of_getElem? hy
 have hyl := h.le y hym
 refine ⟨?_, ?_, ?_, ?_, ?_⟩
 ·rw [List.getElem?_append_left (by have := (List.getElem?_eq_some_iff.1 hy).1; omega)]; exact h.hd
 ·rw [List.nodup_append]
  exact ⟨h.nd, by simp, fun a ha b hb e => by simp at hb; subst hb; subst e; exact hn ha⟩
 ·intro z hz
  rcases List.mem_append.1 hz with hz | hz
  ·exact h.le z hz
  ·simp at hz; omega
 ·intro e he z hz
  rcases List.mem_append.1 hz with hz | hz
  ·exact h.ok e he z hz
  ·simp at hz; subst hz
   have h1 := h.ok e he y hym
   have e1 : y = ((y.toNat : Nat) : Int) := by omega
   rw [e1] at h1
   obtain ⟨ks', ho', hk'⟩ := (ok_iff e hx).1 h1
   rw [ho] at ho'; cases ho'
   exact (hk' z hk).2.2
 ·intro j hj z hz
  have hjl : j < l.length := by have := (List.getElem?_eq_some_iff.1 hy).1; omega
  rw [List.getElem?_append_left hjl] at hz
  obtain ⟨x', ks', a1, a2, a3⟩ := h.done j hj z hz
  exact ⟨x', ks', a1, a2, fun q hq => ⟨(a3 q hq).1, (a3 q hq).2.1, List.mem_append_left _ (a3 q hq).2.2⟩⟩
theorem Pt.bad {xs : List XE} {t : Int} {i : Nat} {l : List Int} (h : Pt xs t i l) {y : Int} (hy : l[i]? = some y) (hb : ∀ x ks, xs[y.toNat]? = some x → opsX x = some ks → ∃ k ∈ ks, ¬ (0 ≤ k ∧ k < y)) (e : EnvL) : evalL xs t e = (0, 2) := by
 have hym : y ∈ l := List.mem_of_getElem? hy
 have h0 := (h.le y hym).1
 have ht := (h.le t h.mem).1
 have e1 : y = ((y.toNat : Nat) : Int) := by omega
 have e2 : t = ((t.toNat : Nat) : Int) := by omega
 unfold evalL
 rw [e2]
 refine val_no e fun hok => ?_
 rw [← e2] at hok
 have h1 := h.ok e hok y hym
 cases hx : xs[y.toNat]? with
 | none =>
  apply h1
  have : (xs.length : Int) ≤ y := by have := List.getElem?_eq_none_iff.1 hx; omega
  rw [show vat (allX xs e) y = evalL xs y e from rfl, val_out e (.inr this)]
 | some x =>
  rw [e1] at h1
  obtain ⟨ks, ho, hk⟩ := (ok_iff e hx).1 h1
  obtain ⟨k, hk1, hk2⟩ := hb x ks hx ho
  have := hk k hk1
  exact hk2 ⟨this.1, by omega⟩
theorem Pt.all {xs : List XE} {t : Int} {l : List Int} (h : Pt xs t l.length l) (e : EnvL) : ∀ (n : Nat) (y : Int), y ∈ l → y < n → (vat (allX xs e) y).2 ≠ 2
 | 0, y, hy, hn => by have := h.le y hy; omega
 | n + 1, y, hy, hn => by
  obtain ⟨j, hj⟩ := List.mem_iff_getElem?.1 hy
  obtain ⟨x, ks, hx, ho, hk⟩ := h.done j (List.getElem?_eq_some_iff.1 hj).1 y hj
  have h0 := (h.le y hy).1
  have e1 : y = ((y.toNat : Nat) : Int) := by omega
  rw [e1]
  refine (ok_iff e hx).2 ⟨ks, ho, fun k hk' => ?_⟩
  obtain ⟨b1, b2, b3⟩ := hk k hk'
  exact ⟨b1, by omega, h.all e n k b3 (by omega)⟩
structure Parts (xs : List XE) (t : Int) (l : List Int) : Prop where
 mem : t ∈ l
 len : l.length ≤ t.toNat + 1
 all : ∀ j y, l[j]? = some y → 0 ≤ y ∧ y ≤ t ∧ ∃ x ks, xs[y.toNat]? = some x ∧ opsX x = some ks ∧ ∀ k ∈ ks, 0 ≤ k ∧ k < y ∧ k ∈ l.take j
 ok : ∀ e y, y ∈ l → (vat (allX xs e) y).2 ≠ 2
theorem Pt.parts {xs : List XE} {t : Int} {l : List Int} (h : Pt xs t l.length l) : Parts xs t (l.mergeSort fun x y => decide (x ≤ y)) := by
 have hp : (l.mergeSort fun x y => decide (x ≤ y)).Perm l := List.mergeSort_perm _ _
 have hs : (l.mergeSort fun x y => decide (x ≤ y)).Pairwise fun a b => a ≤ b := by
  have := List.pairwise_mergeSort (le := fun (x y : Int) => decide (x ≤ y)) (fun a b c h1 h2 => by rw [decide_eq_true_eq] at *; omega) (fun a b => by rw [Bool.or_eq_true, decide_eq_true_eq, decide_eq_true_eq]; omega) l
  exact this.imp fun h => of_decide_eq_true h
 refine ⟨hp.mem_iff.2 h.mem, by rw [hp.length_eq]; exact h.len, fun j y hj => ?_, fun e y hy => h.all e (y.toNat + 1) y (hp.mem_iff.1 hy) (by omega)⟩
 have hy : y ∈ l := hp.mem_iff.1 (List.mem_of_getElem? hj)
 obtain ⟨i, hi⟩ := List.mem_iff_getElem?.1 hy
 obtain ⟨x, ks, hx, ho, hk⟩ := h.done i (List.getElem?_eq_some_iff.1 hi).1 y hi
 refine ⟨(h.le y hy).1, (h.le y hy).2, x, ks, hx, ho, fun k hk' => ?_⟩
 obtain ⟨b1, b2, b3⟩ := hk k hk'
 refine ⟨b1, b2, ?_⟩
 obtain ⟨q, hq⟩ := List.mem_iff_getElem?.1 (hp.mem_iff.2 b3)
 have hqj : q < j := by
  rcases Nat.lt_trichotomy q j with h1 | rfl | h1
  ·exact h1
  ·rw [hq] at hj; cases hj; omega
  ·have hql := (List.getElem?_eq_some_iff.1 hq)
   have hjl := (List.getElem?_eq_some_iff.1 hj)
   have := List.pairwise_iff_getElem.1 hs j q hjl.1 hql.1 h1
   rw [hjl.2, hql.2] at this
   omega
 refine List.mem_of_getElem? (i := q) ?_
 rw [List.getElem?_take_of_lt hqj]; exact hq
end Go.Proofs.YtomimkgaelkaoaaGreatDoor
namespace Go.Proofs.YtomimkgaelkaoaaGreatDoor
open Go.Lib (hid)
open Go.RowKit Go.ChangeShapes Go.WideShapes
theorem keyI {k : Int} (h : -9223372036854775808 ≤ k ∧ k ≤ 9223372036854775807) : keyOf Tryz.prog 3 (.int .i64 k) = some (.int .i64 k) :=
 Maps.keyOf_int_mk Tryz.underlying3 (by simp [Lit.wf, IntKind.min, IntKind.max, IntKind.signed, IntKind.bits]; omega)
theorem keyedI : Maps.Keyed Tryz.prog 3 := Maps.int_keyed Tryz.underlying3
theorem isKeyI (k : Int) : WideAt.IsKeyLit (Lit.int .i64 k) := by simp [WideAt.IsKeyLit]
theorem litI_ne {j k : Int} (h : j ≠ k) : Lit.int .i64 j ≠ Lit.int .i64 k := fun e => h (by cases e; rfl)
def SetM (w : World) (b n : Nat) (S : Int → Bool) : Prop :=
 ∃ D : DataW Unit, w.ownsMap Tryz.prog 3 unitElem b n D ∧ ∀ k, Maps.has D (.int .i64 k) = S k
theorem SetM.lt {w : World} {b n : Nat} {S : Int → Bool} (h : SetM w b n S) : b < w.heap.size := by obtain ⟨D, h1, _⟩ := h; exact h1.lt
theorem SetM.kept {w w' : World} {row : Option Nat} {b n : Nat} {S : Int → Bool} (h : SetM w b n S) (hg : w.grownBy w' row) (hne : some b ≠ row) : SetM w' b n S := by
 obtain ⟨D, h1, h2⟩ := h; exact ⟨D, h1.kept hg hne, h2⟩
theorem SetM.below {w w' : World} {B b n : Nat} {S : Int → Bool} (h : SetM w b n S) (hb : Below B w w') (hB : b < B) : SetM w' b n S := by
 obtain ⟨D, ⟨es, clock, q1, q2⟩, h2⟩ := h
 exact ⟨D, ⟨es, clock, (hb.block b hB).trans q1, q2⟩, h2⟩
theorem SetM.made (w : World) : SetM (w.alloc (.map #[] 0)) w.heap.size 0 (fun _ => false) :=
 ⟨_, World.ownsMap_made w _ _ _, fun k => by simp [Maps.has]⟩
theorem SetM.look {w : World} {b n : Nat} {S : Int → Bool} (h : SetM w b n S) {k : Int} (hk : -9223372036854775808 ≤ k ∧ k ≤ 9223372036854775807) :
  (Instr.lookup 232 (.map (some b)) (.int .i64 k) true).run Tryz.prog w = .ok (.tuple #[.agg #[], .bool (S k)]) w := by
 obtain ⟨D, h1, h2⟩ := h
 obtain ⟨v, ps, q1, q2⟩ := h1.look_ok keyedI Tryz.underlying232 (Tryz.zeroValue199 w) unitElem_mk (keyI hk)
 obtain ⟨rfl, _⟩ := unitElem_inv q2
 rw [q1, h2]
theorem SetM.put {w : World} {b n : Nat} {S : Int → Bool} (h : SetM w b n S) (hn : n < maxLen) {k : Int} (hk : -9223372036854775808 ≤ k ∧ k ≤ 9223372036854775807) :
  ∃ w', (Instr.mapUpdate 232 (.map (some b)) (.int .i64 k) (.agg #[])).run Tryz.prog w = .ok () w' ∧ SetM w' b (n + 1) (fun j => S j || decide (j = k)) ∧ w.grownBy w' (some b) := by
 obtain ⟨D, h1, h2⟩ := h
 obtain ⟨w', q1, q2, q3⟩ := h1.update keyedI Tryz.underlying232 hn (keyI hk) unitElem_mk
 refine ⟨w', q1, ⟨_, q2, fun j => ?_⟩, q3⟩
 by_cases e : j = k
 ·subst e; rw [Maps.has_put_same h1.isMap (isKeyI j)]; simp
 ·rw [Maps.has_put_other (litI_ne e), h2]; simp [e]
def outElem (v : Value) : Option (DataW Unit × List MemPlace) :=
 match v with
 | .agg cs => (match cs.toList with
  | [.int .u64 n, .int .i64 e] => some (.agg [.lit (.int .u64 n), .lit (.int .i64 e)], [])
  | _ => none)
 | _ => none
def outD (x : Int × Int) : DataW Unit := .agg [.lit (.int .u64 x.1), .lit (.int .i64 x.2)]
def outV (x : Int × Int) : Value := .agg #[.int .u64 x.1, .int .i64 x.2]
theorem outElem_mk (x : Int × Int) : outElem (outV x) = some (outD x, []) := rfl
theorem outElem_inv {v : Value} {x : Int × Int} {ps : List MemPlace} (h : outElem v = some (outD x, ps)) : v = outV x := by
 unfold outElem at h
 split at h
 ·rename_i cs
  split at h
  ·rename_i n e hc
   have : cs = #[.int .u64 n, .int .i64 e] := by
    have := congrArg List.toArray hc
    simpa using this
   subst this
   simp [outD] at h
   obtain ⟨⟨rfl, rfl⟩, _⟩ := h
   rfl
  ·cases h
 ·cases h
def ValM (w : World) (b n : Nat) (G : Int → Int × Int) : Prop :=
 ∃ D : DataW Unit, w.ownsMap Tryz.prog 3 outElem b n D ∧ ∀ k, D.atKey (.int .i64 k) (outD (0, 0)) = outD (G k)
theorem ValM.lt {w : World} {b n : Nat} {S : Int → Int × Int} (h : ValM w b n S) : b < w.heap.size := by obtain ⟨D, h1, _⟩ := h; exact h1.lt
theorem ValM.below {w w' : World} {B b n : Nat} {S : Int → Int × Int} (h : ValM w b n S) (hb : Below B w w') (hB : b < B) : ValM w' b n S := by
 obtain ⟨D, ⟨es, clock, q1, q2⟩, h2⟩ := h
 exact ⟨D, ⟨es, clock, (hb.block b hB).trans q1, q2⟩, h2⟩
theorem ValM.made (w : World) : ValM (w.alloc (.map #[] 0)) w.heap.size 0 (fun _ => (0, 0)) :=
 ⟨_, World.ownsMap_made w _ _ _, fun k => by simp [DataW.atKey]⟩
theorem ValM.look {w : World} {b n : Nat} {S : Int → Int × Int} (h : ValM w b n S) {k : Int} (hk : -9223372036854775808 ≤ k ∧ k ≤ 9223372036854775807) :
  (Instr.lookup 167 (.map (some b)) (.int .i64 k) false).run Tryz.prog w = .ok (.agg #[.int .u64 (S k).1, .int .i64 (S k).2]) w := by
 obtain ⟨D, h1, h2⟩ := h
 obtain ⟨v, ps, q1, q2⟩ := h1.lookup keyedI Tryz.underlying167 (Tryz.zeroValue169 w) (outElem_mk (0, 0)) (keyI hk)
 rw [h2] at q2
 rw [q1, outElem_inv q2]
 rfl
theorem ValM.put {w : World} {b n : Nat} {S : Int → Int × Int} (h : ValM w b n S) (hn : n < maxLen) {k : Int} (hk : -9223372036854775808 ≤ k ∧ k ≤ 9223372036854775807) (x : Int × Int) :
  ∃ w', (Instr.mapUpdate 167 (.map (some b)) (.int .i64 k) (.agg #[.int .u64 x.1, .int .i64 x.2])).run Tryz.prog w = .ok () w' ∧ ValM w' b (n + 1) (fun j => if j = k then x else S j) ∧ w.grownBy w' (some b) := by
 obtain ⟨D, h1, h2⟩ := h
 obtain ⟨w', q1, q2, q3⟩ := h1.update keyedI Tryz.underlying167 hn (keyI hk) (outElem_mk x)
 refine ⟨w', q1, ⟨_, q2, fun j => ?_⟩, q3⟩
 by_cases e : j = k
 ·subst e; rw [Maps.atKey_put_same h1.isMap (isKeyI j)]; simp
 ·rw [Maps.atKey_put_other (litI_ne e), h2]; simp [e]
end Go.Proofs.YtomimkgaelkaoaaGreatDoor
namespace Go.Proofs.YtomimkgaelkaoaaGreatDoor
open Go.Lib (hid)
open Go.ChangeShapes Go.WideShapes Go.ChangeAt Go.RowKit
def KidR (w : World) (v : Value) (l : List Int) : Prop :=
 ∃ a c, v = .slice a l.length c ∧ l.length < 4611686018427387904 ∧ ∀ (j : Nat) x, l[j]? = some x → (∃ p : Addr, a = some p ∧ p.block < w.heap.size ∧ w.cell? (p.add j) = some (.int .i64 x)) ∧ -9223372036854775808 ≤ x ∧ x ≤ 9223372036854775807
theorem addr_block (x : Addr) (n : Nat) : (x.add n).block = x.block := by unfold Addr.add; split <;> rfl
theorem KidR.below {w w' : World} {v : Value} {l : List Int} (h : KidR w v l) (hb : Below w.heap.size w w') : KidR w' v l := by
 obtain ⟨a, c, h1, h2, h3⟩ := h
 refine ⟨a, c, h1, h2, fun j x hx => ?_⟩
 obtain ⟨⟨p, p1, p2, p3⟩, p4⟩ := h3 j x hx
 exact ⟨⟨p, p1, Nat.lt_of_lt_of_le p2 hb.size, (hb.cell (by rw [addr_block]; exact p2)).trans p3⟩, p4⟩
theorem bdrewN {B : Nat} {a w : World} (h : Below B a w) (n : Nat) : Below B a (w.drewN n) := ⟨h.os, h.tape, h.output, h.size, h.block⟩
def ExC (w : World) (c : List Value) (x : XE) : Prop := ∃ kv, c = [.int .i64 x.k, .string (bs x.op), .int .u64 x.n, .string (bs x.s), kv] ∧ KidR w kv x.kids
def OpsPost (x : XE) (kv : Value) (e : Ending) : Prop := e = .returned (.tuple #[if x.k = 2 ∨ x.k = 3 then kv else .slice none 0 0, .bool (opsX x).isSome])
theorem opsPost {x : XE} {kv v : Value} {b : Bool} (hv : (if x.k = 2 ∨ x.k = 3 then kv else .slice none 0 0) = v) (hb : (opsX x).isSome = b) : OpsPost x kv (.returned (.tuple #[v, .bool b])) := by
 unfold OpsPost; rw [hv, hb]
theorem isSome1 {op : List UInt8} {n : Int} {s : List UInt8} (l : List Int) : (opsX ⟨2, op, n, s, l⟩).isSome = ((l.length : Int) == 1) := by
 unfold opsX
 by_cases h : l.length = 1
 ·simp [h]
 ·have : ¬ (l.length : Int) = 1 := by omega
  simp [h, this]
theorem isSome2 {op : List UInt8} {n : Int} {s : List UInt8} (l : List Int) : (opsX ⟨3, op, n, s, l⟩).isSome = ((l.length : Int) == 2) := by
 unfold opsX
 by_cases h : l.length = 2
 ·simp [h]
 ·have : ¬ (l.length : Int) = 2 := by omega
  simp [h, this]
set_option maxHeartbeats 2000000 in
theorem operands_any (x : XE) (kv : Value) (w : World) (hk : KidR w kv x.kids) :
  Calls Tryz.prog 108 #[.agg #[.int .i64 x.k, .string (bs x.op), .int .u64 x.n, .string (bs x.s), kv]] w fun e w' => OpsPost x kv e ∧ Below w.heap.size w w' := by
 obtain ⟨a, c, rfl, hl, -⟩ := hk
 have hb : Below w.heap.size w (w.alloc (.cells #[.int .i64 x.k, .string (bs x.op), .int .u64 x.n, .string (bs x.s), .slice a x.kids.length c] 40)) := (Below.refl _ _).alloc (Nat.le_refl _) _
 have E : ∀ v b, (if x.k = 2 ∨ x.k = 3 then .slice a x.kids.length c else .slice none 0 0) = v → (opsX x).isSome = b → OpsPost x (.slice a x.kids.length c) (.returned (.tuple #[v, .bool b])) := fun v b h1 h2 => opsPost h1 h2
 have HE := hid E
 have HB := hid hb
 clear E hb
 obtain ⟨k, op, n, s, kids⟩ := x
 simp only at hl HE HB ⊢
 generalize hP : OpsPost _ _ = P at HE ⊢
 clear hP
 generalize bs op = O at HB ⊢
 generalize bs s = T at HB ⊢
 go_enter Tryz.func108, Tryz.ntmps108
 by_cases h0 : k = 0
 ·subst h0
  go_wp2_with fail
  go_ret2
  exact ⟨HE.out _ _ rfl rfl, HB.out⟩
 by_cases h1 : k = 1
 ·subst h1
  go_wp2_with fail
  go_ret2
  exact ⟨HE.out _ _ rfl rfl, HB.out⟩
 by_cases h2 : k = 2
 ·subst h2
  go_wp2_with fail
  go_quiet (fail)
  go_wp2_with fail
  go_ret2
  exact ⟨HE.out _ _ rfl (isSome1 kids), bdrewN HB.out _⟩
 by_cases h3 : k = 3
 ·subst h3
  go_wp2_with fail
  go_quiet (fail)
  go_wp2_with fail
  go_ret2
  exact ⟨HE.out _ _ rfl (isSome2 kids), bdrewN HB.out _⟩
 go_wp2_with fail
 go_ret2
 exact ⟨HE.out _ _ (by simp [h2, h3]) (by simp [opsX, h0, h1, h2, h3]), HB.out⟩
theorem kids1 {x : XE} (h : (opsX x).isSome = true) (hk : x.k = 2) : ∃ k0, x.kids = [k0] := by
 unfold opsX at h
 rw [hk] at h
 simp at h
 match x.kids, h with
 | [k0], _ => exact ⟨k0, rfl⟩
theorem kids2 {x : XE} (h : (opsX x).isSome = true) (hk : x.k = 3) : ∃ k0 k1, x.kids = [k0, k1] := by
 unfold opsX at h
 rw [hk] at h
 simp at h
 match x.kids, h with
 | [k0, k1], _ => exact ⟨k0, k1, rfl⟩
def EvPost (x : XE) (e : EnvL) (G : Int → Int × Int) (q : Ending) : Prop := q = .returned (.agg #[.int .u64 (evX x e G).1, .int .i64 (evX x e G).2])
theorem evPost {x : XE} {e : EnvL} {G : Int → Int × Int} {u v : Int} (h : evX x e G = (u, v)) : EvPost x e G (.returned (.agg #[.int .u64 u, .int .i64 v])) := by unfold EvPost; rw [h]
theorem Duo.set0 {W : World} {B : Nat} {t : TypeId} {u v : Value} (h : Duo W B t u v) (u' : Value) : Duo (W.setCell ⟨B, 0, none⟩ u') B t u' v := by
 unfold Duo at h ⊢
 obtain ⟨hlt, hk⟩ := Array.getElem?_eq_some_iff.1 h
 show (W.heap.modify B _)[B]? = _
 rw [Array.getElem?_eq_getElem (by rw [Array.size_modify]; exact hlt), Array.getElem_modify_self, hk]
 rfl
theorem Duo.set1 {W : World} {B : Nat} {t : TypeId} {u v : Value} (h : Duo W B t u v) (v' : Value) : Duo (W.setCell ⟨B, 1, none⟩ v') B t u v' := by
 unfold Duo at h ⊢
 obtain ⟨hlt, hk⟩ := Array.getElem?_eq_some_iff.1 h
 show (W.heap.modify B _)[B]? = _
 rw [Array.getElem?_eq_getElem (by rw [Array.size_modify]; exact hlt), Array.getElem_modify_self, hk]
 rfl
theorem Duo.set2 {W : World} {B : Nat} {t : TypeId} {u v : Value} (h : Duo W B t u v) (u' v' : Value) : Duo ((W.setCell ⟨B, 0, none⟩ u').setCell ⟨B, 1, none⟩ v') B t u' v' := (h.set0 u').set1 v'
theorem Duo.f {W : World} {B : Nat} {t : TypeId} {u v : Value} (h : Duo W B t u v) (j : Nat) : W.frozen? ⟨B, j, none⟩ = false := by simp [World.frozen?, show W.heap[B]? = _ from h]
theorem Duo.below {W W' : World} {B C : Nat} {t : TypeId} {u v : Value} (h : Duo W B t u v) (hb : Below C W W') (hC : B < C) : Duo W' B t u v := (hb.block B hC).trans h
theorem bset2 {w W : World} {B : Nat} (h : Below B w W) {g : Nat} (hg : B ≤ g) (u v : Value) : Below B w ((W.setCell ⟨g, 0, none⟩ u).setCell ⟨g, 1, none⟩ v) := (h.setCell (p := ⟨g, 0, none⟩) hg _).setCell (p := ⟨g, 1, none⟩) hg _
theorem run_out0 (x y : Value) (W : World) : (Instr.field 169 (.agg #[x, y]) 0).run Tryz.prog W = .ok x W := by
 simp [Instr.field, run_underlying Tryz.underlying169, asAgg, go_sem]
theorem run_out1 (x y : Value) (W : World) : (Instr.field 169 (.agg #[x, y]) 1).run Tryz.prog W = .ok y W := by
 simp [Instr.field, run_underlying Tryz.underlying169, asAgg, go_sem]
theorem kid_at {w : World} {a : Option Addr} {n c : Nat} {l : List Int} (h : KidR w (.slice a n c) l) {j : Nat} {x : Int} (hx : l[j]? = some x) : ∃ p : Addr, a = some p ∧ w.cell? (p.add j) = some (.int .i64 x) ∧ -9223372036854775808 ≤ x ∧ x ≤ 9223372036854775807 := by
 obtain ⟨a', c', h1, h2, h3⟩ := h
 simp only [Value.slice.injEq] at h1
 obtain ⟨rfl, rfl, rfl⟩ := h1
 obtain ⟨⟨p, p1, p2, p3⟩, p4⟩ := h3 j x hx
 exact ⟨p, p1, p3, p4⟩
theorem kid_len {w : World} {a : Option Addr} {n c : Nat} {l : List Int} (h : KidR w (.slice a n c) l) : n = l.length := by
 obtain ⟨a', c', h1, h2, h3⟩ := h
 simp only [Value.slice.injEq] at h1
 exact h1.2.1
set_option maxHeartbeats 4000000 in
set_option maxRecDepth 100000 in
theorem evaluate_any (x : XE) (kv : Value) (e : EnvL) (sv : Value) (b n : Nat) (G : Int → Int × Int) (w : World) (hk : KidR w kv x.kids) (he : EnvAt w.heap.size w sv e) (hm : ValM w b n G) (ho : (opsX x).isSome = true) (hG : ∀ k ∈ x.kids, W64 (G k).1) :
  Calls Tryz.prog 68 #[.agg #[.int .i64 x.k, .string (bs x.op), .int .u64 x.n, .string (bs x.s), kv], sv, .map (some b)] w fun q w' => EvPost x e G q ∧ Below w.heap.size w w' := by
 have E : ∀ u v, evX x e G = (u, v) → EvPost x e G (.returned (.agg #[.int .u64 u, .int .i64 v])) := fun u v h => evPost h
 have HE := hid E
 clear E
 generalize hP : EvPost _ _ _ = P at HE ⊢
 clear hP
 have hv : ∃ a l c, sv = .slice a l c := by obtain ⟨a, c, rfl, _⟩ := he; exact ⟨_, _, _, rfl⟩
 have hkv : ∃ a l c, kv = .slice a l c := by obtain ⟨a, c, rfl, _⟩ := hk; exact ⟨_, _, _, rfl⟩
 have H1 := hid fun h => kids1 (x := x) ho h
 have H2 := hid fun h => kids2 (x := x) ho h
 have H3 := hid (show x.k = 0 ∨ x.k = 1 ∨ x.k = 2 ∨ x.k = 3 from by
  by_cases a : x.k = 0 ∨ x.k = 1
  ·omega
  by_cases b : x.k = 2
  ·omega
  by_cases c : x.k = 3
  ·omega
  unfold opsX at ho
  simp [a, b, c] at ho)
 have HG := hid hG
 have CG := hid fun (w' : World) (h : EnvAt w'.heap.size w' sv e) => Get_any sv e x.s w' h
 have CO := hid fun (u v : Int) (hu : W64 u) (hv : W64 v) (w' : World) => Op_any (bs x.op) u v hu hv w'
 obtain ⟨O, hO⟩ : ∃ O, bs x.op = O := ⟨_, rfl⟩
 obtain ⟨S, hS⟩ : ∃ S, bs x.s = S := ⟨_, rfl⟩
 rw [show (⟨x.s.toArray⟩ : ByteArray) = S from hS] at CG
 rw [show (bs x.op).toList = x.op from by rw [ByteArray.toList_eq]; rfl, hO] at CO
 rw [hO, hS]
 clear hO hS
 have hb1 : Below w.heap.size w ((w.alloc (.cells #[.int .i64 x.k, .string O, .int .u64 x.n, .string S, kv] 40)).alloc (.cells #[.int .u64 0, .int .i64 0] 169)) := ((Below.refl _ _).alloc (Nat.le_refl _) _).alloc (by simp) _
 have K1 := hid (hk.below hb1)
 have V1 := hid (hm.below hb1 hm.lt)
 have E1 := hid (he.below hb1)
 have HB := hid hb1
 clear hk hm he ho hG hb1
 obtain ⟨sa, sl, sc, rfl⟩ := hv
 obtain ⟨ka, kl, kc, rfl⟩ := hkv
 obtain ⟨k, op, m, s, kids⟩ := x
 simp only at HE K1 V1 E1 HB H1 H2 H3 HG CG CO ⊢
 have D2 := hid (show Duo ((w.alloc (.cells #[.int .i64 k, .string O, .int .u64 m, .string S, .slice ka kl kc] 40)).alloc (.cells #[.int .u64 0, .int .i64 0] 169)) (w.heap.size + 1) 169 (.int .u64 0) (.int .i64 0) from by
  have := World.alloc_heap_new (w.alloc (.cells #[.int .i64 k, .string O, .int .u64 m, .string S, .slice ka kl kc] 40)) (.cells #[.int .u64 0, .int .i64 0] 169)
  rwa [World.size_alloc] at this)
 have B5 := (Below.heap_alloc (w.alloc (.cells #[.int .i64 k, .string O, .int .u64 m, .string S, .slice ka kl kc] 40)) (.cells #[.int .u64 0, .int .i64 0] 169) w.heap.size (by simp)).trans (World.alloc_heap_new w _)
 have hsz : ((w.alloc (.cells #[.int .i64 k, .string O, .int .u64 m, .string S, .slice ka kl kc] 40)).alloc (.cells #[.int .u64 0, .int .i64 0] 169)).heap.size = w.heap.size + 2 := by simp
 go_enter Tryz.func68, Tryz.ntmps68
 go_upto_region 1 with fail
 generalize (w.alloc (.cells #[.int .i64 k, .string O, .int .u64 m, .string S, .slice ka kl kc] 40)).alloc (.cells #[.int .u64 0, .int .i64 0] 169) = W at *
 have B5h := hid B5
 have c0 : W.cell? ⟨w.heap.size, 0, none⟩ = some (.int .i64 k) := by simp [World.cell?, B5]
 have c1 : W.cell? ⟨w.heap.size, 1, none⟩ = some (.string O) := by simp [World.cell?, B5]
 have c2 : W.cell? ⟨w.heap.size, 2, none⟩ = some (.int .u64 m) := by simp [World.cell?, B5]
 have c3 : W.cell? ⟨w.heap.size, 3, none⟩ = some (.string S) := by simp [World.cell?, B5]
 have c4 : W.cell? ⟨w.heap.size, 4, none⟩ = some (.slice ka kl kc) := by simp [World.cell?, B5]
 have d0 := D2.out.c0
 have d1 := D2.out.c1
 have f0 := D2.out.f 0
 have f1 := D2.out.f 1
 clear B5
 by_cases h0 : k = 0
 ·subst h0
  go_wp2_with fail
  have q := D2.out.set2 (.int .u64 m) (.int .i64 0)
  refine bodyPost_ret (v := .agg #[.int .u64 m, .int .i64 0]) (by simp [results, Tryz.results68, go_sem, q.c0, q.c1]) rfl ⟨HE.out _ _ rfl, bset2 HB.out (Nat.le_succ _) _ _⟩
 by_cases h1 : k = 1
 ·subst h1
  have EW : EnvAt W.heap.size W (.slice sa sl sc) e := by
   obtain ⟨a, c, q1, q2, q3⟩ := E1.out
   exact ⟨a, c, q1, q2, fun i x hx => by obtain ⟨k, k1, k2, k3⟩ := q3 i x hx; exact ⟨k, k1, by omega, k3⟩⟩
  have CC := hid (CG.out W EW)
  clear EW
  cases hg : getE e s with
  | none =>
   rw [hg] at CC
   go_wp2_with (go_at_call 27; refine CC.out.mono ?_; rintro q w2 ⟨rfl, hb2⟩; have q0 := D2.out.below hb2 (by omega); have d0 := q0.c0; have d1 := q0.c1; have f0 := q0.f 0; have f1 := q0.f 1; have Q0 := hid q0; have HB2 := hid (HB.out.trans (hb2.mono (by omega))); clear q0 hb2)
   have q := Q0.out.set2 (.int .u64 0) (.int .i64 11)
   refine bodyPost_ret (v := .agg #[.int .u64 0, .int .i64 11]) (by simp [results, Tryz.results68, go_sem, q.c0, q.c1]) rfl ⟨HE.out _ _ (by unfold evX; simp [hg]), bset2 HB2.out (Nat.le_succ _) _ _⟩
  | some u =>
   rw [hg] at CC
   go_wp2_with (go_at_call 27; refine CC.out.mono ?_; rintro q w2 ⟨rfl, hb2⟩; have q0 := D2.out.below hb2 (by omega); have d0 := q0.c0; have d1 := q0.c1; have f0 := q0.f 0; have f1 := q0.f 1; have Q0 := hid q0; have HB2 := hid (HB.out.trans (hb2.mono (by omega))); clear q0 hb2)
   have q := Q0.out.set2 (.int .u64 u) (.int .i64 0)
   refine bodyPost_ret (v := .agg #[.int .u64 u, .int .i64 0]) (by simp [results, Tryz.results68, go_sem, q.c0, q.c1]) rfl ⟨HE.out _ _ (by unfold evX; simp [hg]), bset2 HB2.out (Nat.le_succ _) _ _⟩
 have ro0 := run_out0
 have ro1 := run_out1
 by_cases h2 : k = 2
 ·subst h2
  obtain ⟨k0, rfl⟩ := H1.out rfl
  obtain ⟨p, rfl, ck, r1, r2⟩ := kid_at K1.out (j := 0) rfl
  obtain rfl := kid_len K1.out
  rw [show p.add 0 = p from rfl] at ck
  have LK := V1.out.look ⟨r1, r2⟩
  by_cases hE : (G k0).2 = 0
  ·go_wp2_with fail
   refine wp_loop_rounds 2 ?_
   rw [rounds_succ]
   go_wp2_with fail
   rw [rounds_succ]
   go_wp2_with (go_at_call 110; refine (Truth_any _ _).mono ?_; rintro q w2 ⟨rfl, rfl⟩)
   have q := D2.out.set2 (.int .u64 (truthV ((G k0).1 == 0))) (.int .i64 0)
   refine bodyPost_ret (v := .agg #[.int .u64 (truthV ((G k0).1 == 0)), .int .i64 0]) (by simp [results, Tryz.results68, go_sem, q.c0, q.c1]) rfl ⟨HE.out _ _ (by unfold evX; simp [hE]; rfl), bset2 HB.out (Nat.le_succ _) _ _⟩
  ·go_wp2_with fail
   refine wp_loop_rounds 2 ?_
   rw [rounds_succ]
   go_wp2_with fail
   have q := D2.out.set2 (.int .u64 (G k0).1) (.int .i64 (G k0).2)
   refine bodyPost_ret (v := .agg #[.int .u64 (G k0).1, .int .i64 (G k0).2]) (by simp [results, Tryz.results68, go_sem, q.c0, q.c1]) rfl ⟨HE.out _ _ (by unfold evX; simp [hE]), bset2 HB.out (Nat.le_succ _) _ _⟩
 by_cases h3 : k = 3
 ·subst h3
  obtain ⟨k0, k1, rfl⟩ := H2.out rfl
  obtain ⟨p, rfl, ck, r1, r2⟩ := kid_at K1.out (j := 0) rfl
  obtain ⟨p', hp', ck1, r3, r4⟩ := kid_at K1.out (j := 1) rfl
  cases hp'
  obtain rfl := kid_len K1.out
  rw [show p.add 0 = p from rfl] at ck
  rw [show p.add 1 = ⟨p.block, p.off + 1, none⟩ from rfl] at ck1
  have LK := V1.out.look ⟨r1, r2⟩
  have LJ := V1.out.look ⟨r3, r4⟩
  by_cases hE : (G k0).2 = 0
  ·by_cases hF : (G k1).2 = 0
   ·have CP : Hid (∀ w', Calls Tryz.prog 111 #[.string O, .int .u64 (G k0).1, .int .u64 (G k1).1] w' fun q w'' => q = .returned (.tuple #[.int .u64 (opR op (G k0).1 (G k1).1).1, .int .i64 (opR op (G k0).1 (G k1).1).2]) ∧ w' = w'') := hid fun w' => CO.out _ _ (HG.out k0 (by simp)) (HG.out k1 (by simp)) w'
    go_wp2_with fail
    refine wp_loop_rounds 3 ?_
    rw [rounds_succ]
    go_wp2_with fail
    rw [rounds_succ]
    go_wp2_with fail
    rw [rounds_succ]
    go_wp2_with fail
    have LE : ∀ n, (Instr.lookup 167 (.map (some b)) (.int .i64 k1) false).run Tryz.prog (W.drewN n) = .ok (.agg #[.int .u64 (G k1).1, .int .i64 (G k1).2]) (W.drewN n) := fun i => (show ValM (W.drewN i) b n G from V1.out).look (k := k1) ⟨r3, r4⟩
    refine wp_region_quiet_lit (by kernel_rfl) (by kernel_rfl) ?_
    iterate 10 (with_reducible refine wpQuiet_step (fun K hK => ?_); go_simp; with_reducible refine hK _ ?_; clear hK K)
    with_reducible refine wpQuiet_step (fun K hK => ?_)
    go_simp
    refine ⟨_, fun a => (CP.out _).mono (fun q w'' h => ⟨h.1, a, h.2.symm⟩), hK _ ?_⟩
    clear hK K
    iterate 5 (with_reducible refine wpQuiet_step (fun K hK => ?_); go_simp; with_reducible refine hK _ ?_; clear hK K)
    refine wpQuiet_nil ?_
    intro _ hw'
    obtain ⟨nq, hw''⟩ := hw'
    subst hw''
    go_wp2_with fail
    have q := (show Duo (W.drewN nq) _ _ _ _ from D2.out).set2 (.int .u64 (opR op (G k0).1 (G k1).1).1) (.int .i64 (opR op (G k0).1 (G k1).1).2)
    refine bodyPost_ret (v := .agg #[.int .u64 (opR op (G k0).1 (G k1).1).1, .int .i64 (opR op (G k0).1 (G k1).1).2]) (by simp [results, Tryz.results68, go_sem, q.c0, q.c1]) rfl ⟨HE.out _ _ (by unfold evX; simp [hE, hF]), bset2 (bdrewN HB.out nq) (Nat.le_succ _) _ _⟩
   ·go_wp2_with fail
    refine wp_loop_rounds 3 ?_
    rw [rounds_succ]
    go_wp2_with fail
    rw [rounds_succ]
    go_wp2_with fail
    have q := D2.out.set2 (.int .u64 (G k1).1) (.int .i64 (G k1).2)
    refine bodyPost_ret (v := .agg #[.int .u64 (G k1).1, .int .i64 (G k1).2]) (by simp [results, Tryz.results68, go_sem, q.c0, q.c1]) rfl ⟨HE.out _ _ (by unfold evX; simp [hE, hF]), bset2 HB.out (Nat.le_succ _) _ _⟩
  ·go_wp2_with fail
   refine wp_loop_rounds 3 ?_
   rw [rounds_succ]
   go_wp2_with fail
   have q := D2.out.set2 (.int .u64 (G k0).1) (.int .i64 (G k0).2)
   refine bodyPost_ret (v := .agg #[.int .u64 (G k0).1, .int .i64 (G k0).2]) (by simp [results, Tryz.results68, go_sem, q.c0, q.c1]) rfl ⟨HE.out _ _ (by unfold evX; simp [hE]), bset2 HB.out (Nat.le_succ _) _ _⟩
 exact absurd (H3.out) (by simp [h0, h1, h2, h3])
end Go.Proofs.YtomimkgaelkaoaaGreatDoor
