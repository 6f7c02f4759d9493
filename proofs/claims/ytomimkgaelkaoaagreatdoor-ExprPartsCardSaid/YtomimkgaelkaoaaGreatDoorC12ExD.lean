/- Slices of integers that a call has made: what they hold, and what is kept. No program. · Slices of integers that a call has made by append, nil let in; 'append' of one element, and 'string(b)' of bytes. No program. · Layer 10: the parts of an expression. -/
import Derived.WalkKit
import Derived.OwnWalk
import Derived.Below
import Derived.ProofKit
import Derived.WalkSmall
import Derived.Laws.IdiomStrings
import Derived.Maps.AppendAt
import Derived.Test.YtomimkgaelkaoaaGreatDoorC12ExC
import Derived.Test.YtomimkgaelkaoaaGreatDoorC12Shelf3
import Derived.Sort.OwnSortedInts
import Derived.Deep.RegionWith
import Derived.WalkSpells
set_option linter.unusedVariables false
set_option linter.unusedSimpArgs false
namespace Go.Proofs.YtomimkgaelkaoaaGreatDoor
open Go.Lib (hid)
open Go.RowKit
def Row (E : TypeId) (k : IntKind) (B : Nat) (w : World) (g cap : Nat) (l : List Int) : Prop :=
 w.ownsRow B E 1 (.slice (some ⟨g, 0, none⟩) l.length cap) l.length (l.map (Value.int k))
def el (l : List Int) (j : Nat) : Int := l[j]?.getD 0
section
variable {E : TypeId} {k : IntKind} {B : Nat} {w w' : World} {g cap : Nat} {l : List Int}
theorem Row.cell (h : Row E k B w g cap l) {j : Nat} (hj : j < l.length) : w.cell? ⟨g, j, none⟩ = some (.int k (el l j)) := by
 rw [World.ownsRow.cellAt h j (by omega)]
 simp [hj, el]
theorem Row.frozen (h : Row E k B w g cap l) (j : Nat) : w.frozen? ⟨g, j, none⟩ = false := World.ownsRow.frozenAt h j
theorem Row.lt (h : Row E k B w g cap l) : B ≤ g ∧ g < w.heap.size := World.ownsRow.lt h g rfl
theorem Row.block (h : Row E k B w g cap l) (hb : w'.heap[g]? = w.heap[g]?) : Row E k B w' g cap l := by
 obtain ⟨h1, h2⟩ := h
 refine ⟨h1, ?_⟩
 rcases h2 with h2 | ⟨g', cap', cur, hv, hg, hh, r⟩
 ·exact Or.inl h2
 ·refine Or.inr ⟨g', cap', cur, hv, hg, ?_, r⟩
  simp only [Value.slice.injEq, Option.some.injEq, Addr.mk.injEq, and_true, true_and] at hv
  rw [← hv.1, hb, hv.1]
  exact hh
theorem Row.below {B' : Nat} (h : Row E k B w g cap l) (hb : Below B' w w') (hg : g < B') : Row E k B w' g cap l := h.block (hb.block g hg)
theorem Row.base {B' : Nat} (h : Row E k B w g cap l) (hb : B' ≤ B) : Row E k B' w g cap l := by
 obtain ⟨h1, h2⟩ := h
 refine ⟨h1, ?_⟩
 rcases h2 with h2 | ⟨g', cap', cur, hv, hg, r⟩
 ·exact Or.inl h2
 ·exact Or.inr ⟨g', cap', cur, hv, by omega, r⟩
end
end Go.Proofs.YtomimkgaelkaoaaGreatDoor
namespace Go.Proofs.YtomimkgaelkaoaaGreatDoor
open Go.Lib (hid)
open Go.RowKit
def Own (E : TypeId) (k : IntKind) (B : Nat) (w : World) (v : Value) (l : List Int) : Prop := w.ownsRow B E 1 v l.length (l.map (Value.int k))
section
variable {E : TypeId} {k : IntKind} {B : Nat} {w w' : World} {v : Value} {l : List Int}
theorem Own.nil (E : TypeId) (k : IntKind) (B : Nat) (w : World) : Own E k B w (.slice none 0 0) [] := World.ownsRow_nil w B E 1
theorem Own.lt (h : Own E k B w v l) : ∀ g, v.ownBlock = some g → B ≤ g ∧ g < w.heap.size := World.ownsRow.lt h
theorem Own.form (h : Own E k B w v l) : (v = .slice none 0 0 ∧ l = []) ∨ ∃ g cap, v = .slice (some ⟨g, 0, none⟩) l.length cap ∧ Row E k B w g cap l := by
 rcases id h.2 with ⟨h1, h2⟩ | ⟨g, cap, cur, hv, r⟩
 ·exact .inl ⟨h1, List.eq_nil_of_length_eq_zero h2⟩
 ·subst hv
  exact .inr ⟨g, cap, rfl, h⟩
theorem Own.block (h : Own E k B w v l) (hb : ∀ g, v.ownBlock = some g → w'.heap[g]? = w.heap[g]?) : Own E k B w' v l := by
 rcases h.form with ⟨rfl, rfl⟩ | ⟨g, cap, rfl, hr⟩
 ·exact Own.nil ..
 ·exact hr.block (hb g rfl)
theorem Own.below {B' : Nat} (h : Own E k B w v l) (hb : Below B' w w') (hg : w.heap.size ≤ B') : Own E k B w' v l :=
 h.block fun g hv => hb.block g (by have := (h.lt g hv).2; omega)
theorem Own.alloc (h : Own E k B w v l) (o : Obj) : Own E k B (w.alloc o) v l := World.ownsRow.alloc h o
theorem Own.base {B' : Nat} (h : Own E k B w v l) (hb : B' ≤ B) : Own E k B' w v l := by
 rcases h.form with ⟨rfl, rfl⟩ | ⟨g, cap, rfl, hr⟩
 ·exact Own.nil ..
 ·exact hr.base hb
theorem Own.of {n : Nat} {xs : List Value} (h : w.ownsRow B E 1 v n xs) (hn : n = l.length) (hx : xs = l.map (Value.int k)) : Own E k B w v l := by
 subst hn hx
 exact h
theorem Own.shape (h : Own E k B w v l) : ∃ a c, v = .slice a l.length c := by
 rcases h.form with ⟨rfl, rfl⟩ | ⟨g, cap, rfl, hr⟩
 ·exact ⟨_, _, rfl⟩
 ·exact ⟨_, _, rfl⟩
end
end Go.Proofs.YtomimkgaelkaoaaGreatDoor
namespace Go.Proofs.YtomimkgaelkaoaaGreatDoor
open Go.Lib (hid)
open Go.ChangeShapes Go.WideShapes Go.ChangeAt Go.RowKit
theorem ex_info_int : (Tryz.prog.info? 3).map (fun i => (i.zero, i.size, i.bytes)) = some (some (.int .i64 0), 1, 8) := by kernel_rfl
theorem append_int {P : Program} {w : World} {ops : Array Oper} {rest : List Oper} {o : Oper} {a : Act} {Q : Exit → Act → World → Prop} (hgd : o.guard = none) (s x : Operand) (t : TypeId)
  (ho : o.op = .call { callee := .builtin .append, args := #[s, x], argTypes := #[t, t] })
  (B : Nat) (e : TypeId) (i : TypeInfo) (z : Value) (bytes : Nat) (ht : P.underlying t = some (.slice e)) (hi : P.info? e = some i) (hz : i.zero = some z)
  (hsize : i.size = 1) (hby : i.bytes = bytes) (hzs : z.cells.size = 1)
  (kk : IntKind) (v : Value) (l : List Int) (u : Int) (hs : a.eval s = v) (hown : Own e kk B w v l) (c : Nat) (hx : a.eval x = .slice (some ⟨w.heap.size, 0, none⟩) 1 c)
  (h63 : l.length + 1 ≤ maxLen) (hbytes : (l.length + 1) * bytes ≤ 140737488355328) (hbase : B ≤ w.heap.size)
  (h : ∀ v' w', Own e kk B w' v' (l ++ [u]) → Below B w w' → (∀ g, g < w.heap.size → v.ownBlock ≠ some g → w'.heap[g]? = w.heap[g]?) → wpList P ops Q rest (a.put o.dst v') w') : wpList P ops Q (o :: rest) a (w.alloc (.cells #[.int kk u] e)) :=
 wpList_append_own (w.alloc (.cells #[.int kk u] e)) hgd s x t ho B e i z 1 bytes ht hi hz hsize hby hzs (by decide) v l.length (l.map (Value.int kk)) hs (hown.alloc _)
  ⟨w.heap.size, 0, none⟩ 1 c [.int kk u] hx rfl (cell_one_new _ _ _) (by simp [Value.oneCell']) h63 hbytes (by simp; omega)
  fun v' w' h1 h2 _ => h v' w' (Own.of h1 (by simp) (by simp)) (((Below.refl B w).alloc hbase _).grown h2 (by simp; omega) (fun g hg => (hown.lt g hg).1))
   fun g hg hne => (h2.block g (by simp; omega) (fun e => hne e.symm)).trans (Below.heap_alloc _ _ _ hg)
def ExsAt (w : World) (v : Value) (xs : List XE) : Prop :=
 ∃ a c, v = .slice a xs.length c ∧ xs.length < 1000000000000 ∧ ∀ (i : Nat) x, xs[i]? = some x → ∃ k kv, a = some ⟨k, 0, none⟩ ∧ k < w.heap.size ∧ w.cell? ⟨k, i * 5, none⟩ = some (.int .i64 x.k) ∧ w.cell? ⟨k, i * 5 + 1, none⟩ = some (.string (bs x.op)) ∧
  w.cell? ⟨k, i * 5 + 2, none⟩ = some (.int .u64 x.n) ∧ w.cell? ⟨k, i * 5 + 3, none⟩ = some (.string (bs x.s)) ∧ w.cell? ⟨k, i * 5 + 4, none⟩ = some kv ∧ KidR w kv x.kids
theorem ExsAt.below {w w' : World} {v : Value} {xs : List XE} (h : ExsAt w v xs) (hb : Below w.heap.size w w') : ExsAt w' v xs := by
 obtain ⟨a, c, h1, h2, h3⟩ := h
 refine ⟨a, c, h1, h2, fun i x hx => ?_⟩
 obtain ⟨k, kv, q1, q2, c0, c1, c2, c3, c4, q3⟩ := h3 i x hx
 exact ⟨k, kv, q1, Nat.lt_of_lt_of_le q2 hb.size, (hb.cell (p := ⟨k, _, none⟩) q2).trans c0, (hb.cell (p := ⟨k, _, none⟩) q2).trans c1, (hb.cell (p := ⟨k, _, none⟩) q2).trans c2, (hb.cell (p := ⟨k, _, none⟩) q2).trans c3, (hb.cell (p := ⟨k, _, none⟩) q2).trans c4, q3.below hb⟩
def FileX (w : World) (g o : Nat) (xs : List XE) : Prop := ∃ v, g < w.heap.size ∧ w.cell? ⟨g, o + 2, none⟩ = some v ∧ ExsAt w v xs
theorem FileX.below {w w' : World} {g o : Nat} {xs : List XE} (h : FileX w g o xs) (hb : Below w.heap.size w w') : FileX w' g o xs := by
 obtain ⟨v, h1, h2, h3⟩ := h
 exact ⟨v, Nat.lt_of_lt_of_le h1 hb.size, (hb.cell (p := ⟨g, _, none⟩) h1).trans h2, h3.below hb⟩
theorem FileX.look {w : World} {g o : Nat} {xs : List XE} (h : FileX w g o xs) : ∃ a c, w.cell? ⟨g, o + 2, none⟩ = some (.slice a xs.length c) ∧ ExsAt w (.slice a xs.length c) xs := by
 obtain ⟨v, h1, h2, h3⟩ := h
 obtain ⟨a, c, rfl, h4⟩ := id h3
 exact ⟨a, c, h2, h3⟩
theorem ExsAt.at {w : World} {a : Option Addr} {n c : Nat} {xs : List XE} (h : ExsAt w (.slice a n c) xs) {i : Nat} {x : XE} (hx : xs[i]? = some x) : ∃ k kv, a = some ⟨k, 0, none⟩ ∧ k < w.heap.size ∧ w.cell? ⟨k, i * 5, none⟩ = some (.int .i64 x.k) ∧ w.cell? ⟨k, i * 5 + 1, none⟩ = some (.string (bs x.op)) ∧
  w.cell? ⟨k, i * 5 + 2, none⟩ = some (.int .u64 x.n) ∧ w.cell? ⟨k, i * 5 + 3, none⟩ = some (.string (bs x.s)) ∧ w.cell? ⟨k, i * 5 + 4, none⟩ = some kv ∧ KidR w kv x.kids := by
 obtain ⟨a', c', h1, h2, h3⟩ := h
 simp only [Value.slice.injEq] at h1
 obtain ⟨rfl, rfl, rfl⟩ := h1
 exact h3 i x hx
def ksX (x : XE) : List Int := if x.k = 2 ∨ x.k = 3 then x.kids else []
theorem opsX_ks {x : XE} (h : (opsX x).isSome = true) : opsX x = some (ksX x) := by
 unfold opsX ksX at *
 split at h
 ·rw [if_pos (by assumption), if_neg (by omega)]
 ·split at h
  ·split at h
   ·rw [if_neg (by assumption), if_pos (by assumption), if_pos (by assumption), if_pos (by omega)]
   ·cases h
  ·split at h
   ·split at h
    ·rw [if_neg (by assumption), if_neg (by assumption), if_pos (by assumption), if_pos (by assumption), if_pos (by omega)]
    ·cases h
   ·cases h
theorem ks_kid {w : World} {x : XE} {fv : Value} (h : KidR w fv x.kids) : ∃ a c, (if x.k = 2 ∨ x.k = 3 then fv else .slice none 0 0) = .slice a (ksX x).length c ∧ KidR w (.slice a (ksX x).length c) (ksX x) := by
 unfold ksX
 split
 ·obtain ⟨a, c, rfl, h2, h3⟩ := h
  exact ⟨a, c, rfl, a, c, rfl, h2, h3⟩
 ·exact ⟨none, 0, rfl, none, 0, rfl, by simp, fun j x hx => by simp at hx⟩
def PartsPost (xs : List XE) (t : Int) (e : Ending) (w' : World) : Prop :=
 (∃ l v, e = .returned (.tuple #[v, .bool true]) ∧ Parts xs t l ∧ KidR w' v l) ∨ (e = .returned (.tuple #[.slice none 0 0, .bool false]) ∧ ∀ en, evalL xs t en = (0, 2))
theorem SetM.mono {w : World} {b n m : Nat} {S : Int → Bool} (h : SetM w b n S) (hn : n ≤ m) : SetM w b m S := by
 obtain ⟨D, h1, h2⟩ := h; exact ⟨D, h1.mono hn, h2⟩
theorem SetM.eq {w : World} {b n : Nat} {S T : Int → Bool} (h : SetM w b n S) (e : ∀ k, S k = T k) : SetM w b n T := by rw [← funext e]; exact h
theorem SetM.ne {w : World} {b n B : Nat} {S : Int → Bool} {E : TypeId} {k : IntKind} {v : Value} {l : List Int} (h : SetM w b n S) (ho : Own E k B w v l) : v.ownBlock ≠ some b := by
 obtain ⟨D, ⟨es, clock, q1, _⟩, _⟩ := h
 rcases id ho.2 with ⟨rfl, _⟩ | ⟨g, cap, cur, rfl, _, hg, _⟩
 ·simp [Value.ownBlock]
 ·intro e
  simp [Value.ownBlock] at e
  subst e
  rw [q1] at hg
  cases hg
theorem SetM.set {w w' : World} {b n : Nat} {S : Int → Bool} (h : SetM w b n S) (e : w'.heap[b]? = w.heap[b]?) : SetM w' b n S := by
 obtain ⟨D, ⟨es, clock, q1, q2⟩, h2⟩ := h
 exact ⟨D, ⟨es, clock, e.trans q1, q2⟩, h2⟩
theorem Pt.weak {xs : List XE} {t : Int} {i : Nat} {l : List Int} (h : Pt xs t i l) (hi : l.length ≤ i) : Pt xs t l.length l :=
 ⟨h.hd, h.nd, h.le, h.ok, fun k hk => h.done k (by omega)⟩
theorem sort_any (B g c : Nat) (l : List Int) (w : World) (h : Row 3 .i64 B w g c l) (hl : l.length < 4611686018427387904) (hB : B ≤ w.heap.size) (hr : ∀ y ∈ l, -9223372036854775808 ≤ y ∧ y ≤ 9223372036854775807) :
  Calls Tryz.prog 109 #[.slice (some ⟨g, 0, none⟩) l.length c] w fun e w' => e = .returned (.tuple #[]) ∧ KidR w' (.slice (some ⟨g, 0, none⟩) l.length c) (l.mergeSort fun x y => decide (x ≤ y)) ∧ Below B w w' := by
 have hH : Go.Sort.Holds (Value.int .i64) w g 0 l.toArray := fun j hj => by
  have hj' : j < l.length := by simpa using hj
  have := h.cell hj'
  rw [Nat.zero_add]
  refine ⟨?_, h.frozen j⟩
  rw [this]
  simp [el, hj']
 refine (Tryz.slices_Sort_int g 0 c l w hH h.lt.2 hl).mono ?_
 rintro e w' ⟨rfl, n, os, rfl⟩
 have hs : (l.mergeSort fun x y => decide (x ≤ y)).length = l.length := List.length_mergeSort ..
 refine ⟨rfl, ⟨_, _, by rw [hs], by rw [hs]; exact hl, fun j x hx => ?_⟩, (Below.refl B w).grown (grownBy_sortedI _) hB fun k hk => by cases hk; exact h.lt.1⟩
 have hj := (List.getElem?_eq_some_iff.1 hx).1
 have h2 : Go.Sort.Holds (Value.int .i64) (Go.Sort.grow (Go.Sort.putRow (Value.int .i64) (Go.Sort.ahead w n) g 0 (l.mergeSort fun x y => decide (x ≤ y)).toArray) os) g 0 (l.mergeSort fun x y => decide (x ≤ y)).toArray :=
  Go.Sort.holds_grow _ _ _ _ _ _ (by simp [Go.Sort.putRow, Go.Sort.mapBlock, Go.Sort.ahead]; exact h.lt.2) (Go.Sort.holds_putRow _ _ _ _ _ _ (Go.Sort.holds_ahead _ _ n _ _ _ hH) (by simp [hs]))
 have h3 := (h2 j (by simpa using hj)).1
 rw [Nat.zero_add] at h3
 refine ⟨⟨_, rfl, ?_, ?_⟩, hr x ((List.mergeSort_perm _ _).mem_iff.1 (List.mem_of_getElem? hx))⟩
 ·have := h.lt.2
  simp [Go.Sort.grow, Go.Sort.putRow, Go.Sort.mapBlock, Go.Sort.ahead]
  omega
 ·rw [show (⟨g, 0, none⟩ : Addr).add j = ⟨g, j, none⟩ from by unfold Addr.add; split <;> simp_all, h3]
  have : (l.mergeSort fun x y => decide (x ≤ y)).toArray[j]! = x := by
   simp [hx]
  rw [this]
set_option maxHeartbeats 4000000 in
set_option maxRecDepth 100000 in
theorem parts_any (g o : Nat) (xs : List XE) (t : Int) (w : World) (hF : FileX w g o xs) (ht : -9223372036854775808 ≤ t ∧ t ≤ 9223372036854775807) :
  Calls Tryz.prog 67 #[.pointer (some ⟨g, o, none⟩), .int .i64 t] w fun e w' => PartsPost xs t e w' ∧ Below w.heap.size w w' := by
 have hlen : xs.length < 1000000000000 := by obtain ⟨v, h1, h2, a, c, h3, h4, h5⟩ := hF; exact h4
 obtain ⟨fa, fc, cf, hX⟩ := hF.look
 have hmm := @run_makeMap Tryz.prog
 obtain ⟨i0, hi, hz0, hz1, hz2⟩ := info_parts ex_info_int
 have HX := hid hX
 have HF := hid hF
 clear hX hF
 by_cases hneg : t < 0
 ·go_enter Tryz.func67, Tryz.ntmps67
  go_wp2_with fail
  go_ret2
  exact ⟨.inr ⟨rfl, fun en => val_out en (.inl hneg)⟩, Below.refl _ _⟩
 by_cases hbig : (xs.length : Int) ≤ t
 ·go_enter Tryz.func67, Tryz.ntmps67
  go_wp2_with fail
  go_ret2
  exact ⟨.inr ⟨rfl, fun en => val_out en (.inr hbig)⟩, Below.refl _ _⟩
 go_enter Tryz.func67, Tryz.ntmps67
 have O1 := hid (show Own 3 .i64 w.heap.size ((w.alloc (.cells #[.int .i64 t] 3)).alloc (.map #[] 0)) (.slice (some ⟨w.heap.size, 0, none⟩) 1 1) [t] from (World.ownsRow_lit w #[.int .i64 t] 1 (Nat.le_refl _) (by unfold maxLen; omega) rfl).alloc _)
 have M1 := hid (show SetM ((w.alloc (.cells #[.int .i64 t] 3)).alloc (.map #[] 0)) (w.heap.size + 1) 0 (fun _ => false) from by
  have := SetM.made (w.alloc (.cells #[.int .i64 t] 3))
  rwa [World.size_alloc] at this)
 have B1 := hid (show Below w.heap.size w ((w.alloc (.cells #[.int .i64 t] 3)).alloc (.map #[] 0)) from ((Below.refl _ _).alloc (Nat.le_refl _) _).alloc (by simp) _)
 go_wp2_with fail
 generalize (w.alloc (.cells #[.int .i64 t] 3)).alloc (.map #[] 0) = W1 at O1 M1 B1 ⊢
 go_loopw [6, 8] (fun s6 s8 wr => ∃ (i : Nat) (l : List Int), s8 = .int .i64 i ∧ Own 3 .i64 w.heap.size wr s6 l ∧ SetM wr (w.heap.size + 1) l.length (fun k => decide (k ∈ l ∧ k ≠ t)) ∧ Pt xs t i l ∧ Below w.heap.size w wr) (fun s6 s8 _ => t.toNat + 1 - (intOf s8).toNat)
 case atStart => exact ⟨0, [t], rfl, O1.out, (M1.out.mono (Nat.zero_le _)).eq fun k => by simp, Pt.start hneg, B1.out⟩
 case round =>
  clear O1 M1 B1
  obtain ⟨i, l, rfl, hO, hM, hP, hB⟩ := hrel
  obtain ⟨la, lc, rfl⟩ := hO.shape
  by_cases hil : i < l.length
  ·obtain ⟨y, hy⟩ : ∃ y, l[i]? = some y := ⟨_, List.getElem?_eq_getElem hil⟩
   obtain ⟨hy0, hyt⟩ := hP.le y (List.mem_of_getElem? hy)
   obtain ⟨m, rfl⟩ : ∃ m : Nat, y = (m : Int) := ⟨y.toNat, by omega⟩
   obtain ⟨x, hx⟩ : ∃ x, xs[m]? = some x := ⟨_, List.getElem?_eq_getElem (by omega)⟩
   have hlen2 := hP.len
   obtain ⟨fk, fv, rfl, fkl, x0, x1, x2, x3, x4, xk⟩ := HX.out.at hx
   replace x0 := (hB.cell (p := ⟨fk, _, none⟩) fkl).trans x0
   replace x1 := (hB.cell (p := ⟨fk, _, none⟩) fkl).trans x1
   replace x2 := (hB.cell (p := ⟨fk, _, none⟩) fkl).trans x2
   replace x3 := (hB.cell (p := ⟨fk, _, none⟩) fkl).trans x3
   replace x4 := (hB.cell (p := ⟨fk, _, none⟩) fkl).trans x4
   have cf' := (hB.cell (p := ⟨g, o + 2, none⟩) (show g < w.heap.size from by obtain ⟨v, h1, _⟩ := HF.out; exact h1)).trans cf
   rcases hO.form with ⟨_, rfl⟩ | ⟨gl, cl, e1, hR⟩
   ·exact absurd hil (by simp)
   simp only [Value.slice.injEq, true_and] at e1
   obtain ⟨rfl, rfl⟩ := e1
   have cl := hR.cell hil
   rw [show el l i = (m : Int) from by unfold el; rw [hy]; rfl] at cl
   obtain ⟨qa, qc, hq, hqk⟩ := ks_kid xk
   obtain ⟨OKb, hOK⟩ : ∃ b, (opsX x).isSome = b := ⟨_, rfl⟩
   have OP : Hid (∀ (w' : World), KidR w' fv x.kids → Calls Tryz.prog 108 #[.agg #[.int .i64 x.k, .string (bs x.op), .int .u64 x.n, .string (bs x.s), fv]] w' fun e w'' => e = .returned (.tuple #[.slice qa (ksX x).length qc, .bool OKb]) ∧ Below w'.heap.size w' w'') := hid fun w' h => by
    have := operands_any x fv w' h
    unfold OpsPost at this
    rw [hq, hOK] at this
    exact this
   have QK := hid hqk
   clear hq hqk
   have hmx : m < xs.length := (List.getElem?_eq_some_iff.1 hx).1
   have hil' : (i : Int) < (l.length : Int) := by omega
   have hmx' : (m : Int) < (xs.length : Int) := by omega
   have XK := hid (xk.below hB)
   have HP := hid hP
   have HM := hid hM
   have HO := hid hO
   have HB := hid hB
   have HR := hid hR
   have HY := hid hy
   have HX2 := hid hx
   clear xk hP hM hO hB hR hy hx
   cases OKb with
   | false =>
    go_wp2_with fail
    go_region_with (go_at_call 108; refine (OP.out _ ?_).mono ?_; exact XK.out; rintro q w2 ⟨rfl, hb2⟩; have HB2 := hid hb2; clear hb2)
    all_goals
     go_wp2_with fail
     go_ret2
     exact ⟨.inr ⟨rfl, fun en => HP.out.bad HY.out (fun x' ks h1 h2 => by
      rw [show ((m : Int)).toNat = m from rfl, HX2.out] at h1
      cases h1
      rw [h2] at hOK
      cases hOK) en⟩, HB.out.drew.trans (HB2.out.mono HB.out.size)⟩
   | true =>
    have hks := hid (opsX_ks hOK)
    go_wp2_with fail
    go_region_with (go_at_call 108; refine (OP.out _ ?_).mono ?_; exact XK.out; rintro q w2 ⟨rfl, hb2⟩; have HB2 := hid hb2; clear hb2)
    all_goals
     have HB3 := hid (HB.out.drew.trans (HB2.out.mono HB.out.size))
     have HM3 := hid ((show SetM wr.drew _ _ _ from HM.out).below HB2.out HM.out.lt)
     have HO3 := hid ((show Own 3 .i64 w.heap.size wr.drew _ _ from HO.out).below HB2.out (Nat.le_refl _))
     have HB4 := hid HB2.out.size
     have hqn : (ksX x).length < 4611686018427387904 := by obtain ⟨a, c, h1, h2, h3⟩ := QK.out; exact h2
     clear HB HM HO HR HB2 XK OP x0 x1 x2 x3 x4 cf' cl hOK
     go_wp2_with fail
     go_loopw [6, 53] (fun s6 s53 w3 => ∃ (j : Nat) (l2 : List Int), s53 = .int .i64 j ∧ j ≤ (ksX x).length ∧ Own 3 .i64 w.heap.size w3 s6 l2 ∧ SetM w3 (w.heap.size + 1) l2.length (fun k => decide (k ∈ l2 ∧ k ≠ t)) ∧ Pt xs t i l2 ∧ l2[i]? = some (m : Int) ∧ (∀ k ∈ (ksX x).take j, 0 ≤ k ∧ k < (m : Int) ∧ k ∈ l2) ∧ Below w.heap.size w w3) (fun s6 s53 _ => (ksX x).length - (intOf s53).toNat)
     case atStart => exact ⟨0, l, rfl, Nat.zero_le _, HO3.out, HM3.out, HP.out, HY.out, by simp, HB3.out⟩
     case round =>
      clear HO3 HM3 HP HY HB3 HB4
      obtain ⟨j, l2, rfl, hj, hO2, hM2, hP2, hy2, hkk, hB2⟩ := hrel
      obtain ⟨la2, lc2, rfl⟩ := hO2.shape
      have hil2 : i < l2.length := (List.getElem?_eq_some_iff.1 hy2).1
      have hln := hP2.len
      by_cases hjk : j < (ksX x).length
      ·obtain ⟨k, hk⟩ : ∃ k, (ksX x)[j]? = some k := ⟨_, List.getElem?_eq_getElem hjk⟩
       obtain ⟨p, rfl, ck, r1, r2⟩ := kid_at QK.out hk
       have ck2 := (hB2.cell (World.block_lt_of_cell? w _ ck)).trans ck
       have hkm := List.mem_of_getElem? hk
       rcases hO2.form with ⟨_, rfl⟩ | ⟨g2, c2, e2, hR2⟩
       ·exact absurd hil2 (by simp)
       simp only [Value.slice.injEq, true_and] at e2
       obtain ⟨rfl, rfl⟩ := e2
       have cl2 := hR2.cell hil2
       rw [show el l2 i = (m : Int) from by unfold el; rw [hy2]; rfl] at cl2
       have hil2' : (i : Int) < (l2.length : Int) := by omega
       have hjk' : (j : Int) < ((ksX x).length : Int) := by omega
       have HB2 := hid hB2
       have HBAD := hid fun (hn : ¬ (0 ≤ k ∧ k < (m : Int))) (en : EnvL) => hP2.bad hy2 (fun x' ks' h1 h2 => by
        rw [show ((m : Int)).toNat = m from rfl, HX2.out] at h1
        cases h1
        rw [hks.out] at h2
        cases h2
        exact ⟨k, hkm, hn⟩) en
       by_cases hk0 : k < 0
       ·clear hkk hP2 hy2 hO2 hM2 hR2 hB2
        go_wp2_with fail
        go_ret2
        exact ⟨.inr ⟨rfl, HBAD.out (by omega)⟩, HB2.out⟩
       by_cases hkb : (m : Int) ≤ k
       ·clear hkk hP2 hy2 hO2 hM2 hR2 hB2
        go_wp2_with fail
        go_ret2
        exact ⟨.inr ⟨rfl, HBAD.out (by omega)⟩, HB2.out⟩
       have hM3 : SetM (wr.alloc (.cells #[] 199)) (w.heap.size + 1) l2.length (fun k => decide (k ∈ l2 ∧ k ≠ t)) := hM2.kept (World.grownBy_alloc wr _ none) (by simp)
       have LK := hM2.look ⟨r1, r2⟩
       have hkt : k ≠ t := by omega
       by_cases hkl : k ∈ l2
       ·have hd : decide (k ∈ l2 ∧ k ≠ t) = true := by simp [hkl, hkt]
        have HKK := hid hkk
        have HP2 := hid hP2
        have HY2 := hid hy2
        have HO4 := hid (hO2.alloc (.cells #[] 199))
        have HM4 := hid hM3
        rw [hd] at LK
        clear hkk hP2 hy2 hO2 hM2 hR2 hB2 hM3 hd
        go_wp2_with fail
        refine ⟨⟨j + 1, l2, by go_num, by omega, HO4.out, HM4.out, HP2.out, HY2.out, fun z hz => ?_, HB2.out.alloc HB2.out.size _⟩, by simp [intOf]; go_num⟩
        rw [List.take_add_one, hk] at hz
        rcases List.mem_append.1 hz with hz | hz
        ·exact HKK.out z hz
        ·simp at hz; subst hz; exact ⟨by omega, by omega, hkl⟩
       ·have hd : decide (k ∈ l2 ∧ k ≠ t) = false := by simp [hkl]
        obtain ⟨w4, hrun, hS4, hg4⟩ := hM3.put (by unfold maxLen; omega) ⟨r1, r2⟩
        have hne := hM2.ne hO2
        have hO4 : Own 3 .i64 w.heap.size w4 (.slice (some ⟨g2, 0, none⟩) l2.length lc2) l2 := World.ownsRow.kept (hO2.alloc (.cells #[] 199)) hg4 (.inr (fun e => hne e))
        have hB4 : Below w.heap.size w w4 := (hB2.alloc hB2.size (.cells #[] 199)).grown hg4 (by have := hB2.size; simp; omega) (fun z hz => by cases hz; omega)
        have h63 : l2.length + 1 ≤ maxLen := by unfold maxLen; omega
        have hby : (l2.length + 1) * 8 ≤ 140737488355328 := by omega
        have HPA := hid (hP2.add hy2 HX2.out hks.out hkm (by omega) (by omega) hkl)
        have HY2 := hid (show (l2 ++ [k])[i]? = some (m : Int) from by rw [List.getElem?_append_left hil2]; exact hy2)
        have HKK := hid hkk
        have HO4 := hid hO4
        have HS4 := hid hS4
        have HB4 := hid hB4
        have hmb := hM3.lt
        have HNE := hid hne
        have HMB := hid (show w.heap.size + 1 < w4.heap.size from Nat.lt_of_lt_of_le hmb hg4.size)
        rw [hd] at LK
        clear hkk hP2 hy2 hO2 hM2 hR2 hB2 hM3 hd hO4 hS4 hB4 hne hg4 hmb
        go_wp2_with (at_builtin; refine append_int rfl _ _ 38 rfl w.heap.size 3 i0 (.int .i64 0) 8 Tryz.underlying38 hi hz0 hz1 hz2 rfl .i64 (.slice (some ⟨g2, 0, none⟩) l2.length lc2) _ _ rfl HO4.out _ rfl h63 hby HB4.out.size ?_; intro v' w5 hO5 hB5 hk5)
        refine ⟨⟨j + 1, l2 ++ [k], by go_num, by omega, hO5, ?_, HPA.out, HY2.out, fun z hz => ?_, HB4.out.trans hB5⟩, by simp [intOf]; go_num⟩
        ·rw [List.length_append]
         refine (HS4.out.set (hk5 _ HMB.out HNE.out)).eq fun z => ?_
         by_cases hzk : z = k <;> simp [hzk, hkt]
        ·rw [List.take_add_one, hk] at hz
         rcases List.mem_append.1 hz with hz | hz
         ·have := HKK.out z hz; exact ⟨this.1, this.2.1, List.mem_append_left _ this.2.2⟩
         ·simp at hz; subst hz; exact ⟨by omega, by omega, by simp⟩
      ·obtain rfl : j = (ksX x).length := by omega
       rw [List.take_length] at hkk
       have hst := hP2.step hy2 HX2.out hks.out hkk
       have hjk' : ¬ (((ksX x).length : Int) < ((ksX x).length : Int)) := by omega
       have HS := hid hst
       have HO4 := hid hO2
       have HM4 := hid hM2
       have HB4 := hid hB2
       clear hst hO2 hM2 hB2 hkk hP2 hy2
       go_wp2_with fail
       go_roundw
       case rel => exact ⟨i + 1, l2, by go_num, HO4.out, HM4.out, HS.out, HB4.out⟩
       case measure => simp [intOf]; omega
  ·have hP' := hP.weak (by omega)
   have hr : ∀ z ∈ l, -9223372036854775808 ≤ z ∧ z ≤ 9223372036854775807 := fun z hz => by have := hP.le z hz; omega
   have hl := hP.len
   rcases hO.form with ⟨_, rfl⟩ | ⟨gl, cl, e1, hR⟩
   ·exact absurd hP.mem (by simp)
   simp only [Value.slice.injEq, true_and] at e1
   obtain ⟨rfl, rfl⟩ := e1
   have CS := hid (sort_any w.heap.size gl lc l wr hR (by omega) hB.size hr)
   have HP := hid hP'.parts
   have HB := hid hB
   clear hP hP' hr hR hO hM hB
   have hil' : ¬ ((i : Int) < (l.length : Int)) := by omega
   go_wp2_with (go_at_call 109; refine CS.out.mono ?_; rintro q w2 ⟨rfl, hk2, hb2⟩)
   go_ret2
   exact ⟨.inl ⟨_, _, rfl, HP.out, hk2⟩, HB.out.trans hb2⟩
end Go.Proofs.YtomimkgaelkaoaaGreatDoor
