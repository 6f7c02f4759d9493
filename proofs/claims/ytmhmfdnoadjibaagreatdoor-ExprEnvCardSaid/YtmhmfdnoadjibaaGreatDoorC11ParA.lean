/- Layer 7: the program's parser in memory; its first methods. -/
import Derived.Test.YtmhmfdnoadjibaaGreatDoorC11PMem
import Derived.Recover
import Derived.Defers
set_option linter.unusedVariables false
set_option linter.unusedSimpArgs false
namespace Go.Proofs.YtmhmfdnoadjibaaGreatDoor
open Go.Lib (hid)
open Go.ChangeShapes Go.WideShapes Go.ChangeAt Go.RowKit
theorem beq_bs (t u : List UInt8) : ((bs t).toList == (bs u).toList) = decide (t = u) := by rw [ByteArray.toList_eq, ByteArray.toList_eq, bs_list, bs_list, Bool.eq_iff_iff, beq_iff_eq, decide_eq_true_eq]
theorem beq_l (t u : List UInt8) : ((bs t).toList == u) = decide (t = u) := by rw [ByteArray.toList_eq, bs_list, Bool.eq_iff_iff, beq_iff_eq, decide_eq_true_eq]
theorem beq_nat (a b : Nat) : ((a : Int) == (b : Int)) = decide (a = b) := by rw [Bool.eq_iff_iff, beq_iff_eq, decide_eq_true_eq]; omega
theorem retBe {x y : Bool} (h : x = y) : Ending.returned (.bool x) = .returned (.bool y) := by rw [h]
theorem retSt {x y : ByteArray} (h : x = y) : Ending.returned (.string x) = .returned (.string y) := by rw [h]
def layP : Lay := ⟨[1, 2, 3, 4], [1, 2], by decide, 103, 46, 110, 40, 44, 129, 131, 198⟩
def TkA (P : Nat → Prop) (w : World) (a : Option Addr) (l : List Tok) : Prop := ∀ (i : Nat) t, l[i]? = some t → ∃ k o, a = some ⟨k, o, none⟩ ∧ P k ∧
 w.cell? ⟨k, o + i * 5, none⟩ = some (.int .i64 t.tk.k) ∧ w.cell? ⟨k, o + i * 5 + 1, none⟩ = some (.string (bs t.tk.t)) ∧ w.cell? ⟨k, o + i * 5 + 2, none⟩ = some (.int .u64 t.tk.n) ∧
 w.cell? ⟨k, o + i * 5 + 3, none⟩ = some (.int .i64 t.p.1) ∧ w.cell? ⟨k, o + i * 5 + 4, none⟩ = some (.int .i64 t.p.2)
theorem TkA.stay {P P' : Nat → Prop} {w w' : World} {a : Option Addr} {l : List Tok} (h : TkA P w a l) (hs : Stay P P' w w') : TkA P' w' a l := by
 intro i t ht
 obtain ⟨k, o, h0, h1, c0, c1, c2, c3, c4⟩ := h i t ht
 have q : ∀ (o : Nat) v, w.cell? ⟨k, o, none⟩ = some v → w'.cell? ⟨k, o, none⟩ = some v := fun o v e => (World.cell?_of_block (a := ⟨k, o, none⟩) (hs k h1).1).trans e
 exact ⟨k, o, h0, (hs k h1).2, q _ _ c0, q _ _ c1, q _ _ c2, q _ _ c3, q _ _ c4⟩
theorem TkA.tail {P : Nat → Prop} {w : World} {k o : Nat} {l : List Tok} (h : TkA P w (some ⟨k, o, none⟩) l) : TkA P w (some ⟨k, o + 5, none⟩) l.tail := by
 intro i t ht
 have ht' : l[i + 1]? = some t := by
  cases l with
  | nil => simp at ht
  | cons a r => simpa using ht
 obtain ⟨k', o', h0, h1, c0, c1, c2, c3, c4⟩ := h (i + 1) t ht'
 simp only [Option.some.injEq, Addr.mk.injEq, and_true] at h0
 obtain ⟨rfl, rfl⟩ := h0
 have e : o + (i + 1) * 5 = o + 5 + i * 5 := by omega
 rw [e] at c0 c1 c2 c3 c4
 exact ⟨_, _, rfl, h1, c0, c1, c2, c3, c4⟩
def kwA : Array Value := (kwL.map fun k => Value.string (bs k)).toArray
def szA : Array Value := #[.int .i64 1, .int .i64 2, .int .i64 3, .int .i64 4, .int .i64 8]
structure KEnv (P : Nat → Prop) (w : World) : Prop where
 kw : ∃ t fr, w.heap[0]? = some (.cells kwA t fr) ∧ P 0
 sz : ∃ t fr, w.heap[1]? = some (.cells szA t fr) ∧ P 1
theorem KEnv.stay {P P' : Nat → Prop} {w w' : World} (h : KEnv P w) (hs : Stay P P' w w') : KEnv P' w' := by
 obtain ⟨⟨t, fr, h1, h2⟩, ⟨t', fr', h3, h4⟩⟩ := h
 exact ⟨⟨t, fr, (hs _ h2).1.trans h1, (hs _ h2).2⟩, ⟨t', fr', (hs _ h4).1.trans h3, (hs _ h4).2⟩⟩
structure PInv (X : Nat → Prop) (g b : Nat) (w : World) (l : List Tok) (d : Nat) (f : FM) : Prop where
 wf : WF l
 env : KEnv (Pub X layP g w) w
 mem : ∃ a c vc vs vx vt, w.heap[g]? = some (.cells #[.slice a l.length c, vc, vs, vx, vt, .int .i64 (d : Int)] 103 (0, 0)) ∧ l.length ≤ c ∧ c ≤ maxLen ∧ TkA (Pub X layP g w) w a l ∧ FRep layP (Pub X layP g w) w vc vs vx vt f
 dep : d ≤ 32
 pot : f.g.xs.length + f.g.ts.length + 3 * l.length ≤ b
 top : b ≤ 60000
 lc : f.cs.length ≤ 64
 ls : f.ss.length ≤ 64
 priv : ∀ k, X k → Out layP g w k
section
variable {X : Nat → Prop} {g b : Nat} {w w' : World} {l : List Tok} {d : Nat} {f : FM}
theorem PInv.lt (h : PInv X g b w l d f) : g < w.heap.size := by
 obtain ⟨a, c, vc, vs, vx, vt, hh, _⟩ := h.mem
 exact (Array.getElem?_eq_some_iff.1 hh).1
theorem PInv.below (h : PInv X g b w l d f) (hb : Below w.heap.size w w') : PInv X g b w' l d f := by
 have hs0 := (St.below (L := layP) h.lt hb)
 have hs := hs0.pub X
 obtain ⟨a, c, vc, vs, vx, vt, hh, h1, h2, h3, h4⟩ := h.mem
 exact ⟨h.wf, h.env.stay hs, ⟨a, c, vc, vs, vx, vt, (hb.block g h.lt).trans hh, h1, h2, h3.stay hs,
  ⟨h4.c.stay Crep.kept hs fun k hk => hb.block k (h4.c.lt k hk), h4.s.stay (Srep.kept _) hs fun k hk => hb.block k (h4.s.lt k hk), h4.x.stay Xrep.kept hs fun k hk => hb.block k (h4.x.lt k hk), h4.t.stay (Trep.kept _) hs fun k hk => hb.block k (h4.t.lt k hk)⟩⟩, h.dep, h.pot, h.top, h.lc, h.ls, fun k hk => (hs0.stay k (h.priv k hk)).2⟩
theorem PInv.mono {b' : Nat} (h : PInv X g b w l d f) (hb : b ≤ b') (ht : b' ≤ 60000) : PInv X g b' w l d f := ⟨h.wf, h.env, h.mem, h.dep, Nat.le_trans h.pot hb, ht, h.lc, h.ls, h.priv⟩
theorem PInv.look (h : PInv X g b w l d f) : ∃ k o c, w.cell? ⟨g, 0, none⟩ = some (.slice (some ⟨k, o, none⟩) l.length c) ∧ w.cell? ⟨g, 5, none⟩ = some (.int .i64 (d : Int)) ∧ (∀ j, w.frozen? ⟨g, j, none⟩ = false) ∧ k < w.heap.size ∧ l.length ≤ c ∧ c ≤ maxLen ∧
  w.cell? ⟨k, o, none⟩ = some (.int .i64 (hd l).tk.k) ∧ w.cell? ⟨k, o + 1, none⟩ = some (.string (bs (hd l).tk.t)) ∧ w.cell? ⟨k, o + 2, none⟩ = some (.int .u64 (hd l).tk.n) ∧
  w.cell? ⟨k, o + 3, none⟩ = some (.int .i64 (hd l).p.1) ∧ w.cell? ⟨k, o + 4, none⟩ = some (.int .i64 (hd l).p.2) := by
 obtain ⟨a, c, vc, vs, vx, vt, hh, h1, h2, h3, h4⟩ := h.mem
 obtain ⟨k, o, rfl, h5, c0, c1, c2, c3, c4⟩ := h3 0 _ h.wf.hd
 rw [Nat.zero_mul, Nat.add_zero] at c0 c1 c2 c3 c4
 refine ⟨k, o, c, ?_, ?_, fun j => ?_, h5.1.lt, h1, h2, c0, c1, c2, c3, c4⟩
 ·rw [cell_of_row _ _ _ _ _ (0, 0) hh]; rfl
 ·rw [cell_of_row _ _ _ _ _ (0, 0) hh]; rfl
 ·simp [World.frozen?, hh]
theorem cell_set_row {w : World} {g : Nat} {cur : Array Value} {t : TypeId} {j : Nat} (h : w.heap[g]? = some (.cells cur t (0, 0))) (hj : j < cur.size) (v : Value) :
  (w.setCell ⟨g, j, none⟩ v).heap[g]? = some (.cells (cur.set j v hj) t (0, 0)) := by
 simp only [World.setCell, Array.getElem?_modify, if_pos, h, Option.map_some]
 simp [Array.setIfInBounds, hj]
theorem PInv.read (h : PInv X g b w l d f) (ht : WF l.tail) {k o c : Nat} (hc : w.cell? ⟨g, 0, none⟩ = some (.slice (some ⟨k, o, none⟩) l.length c)) :
  PInv X g (b - 3) (w.setCell ⟨g, 0, none⟩ (.slice (some ⟨k, o + 5, none⟩) (l.length - 1) (c - 1))) l.tail d f ∧ St layP g w (w.setCell ⟨g, 0, none⟩ (.slice (some ⟨k, o + 5, none⟩) (l.length - 1) (c - 1))) := by
 have hs : St layP g w (w.setCell ⟨g, 0, none⟩ (.slice (some ⟨k, o + 5, none⟩) (l.length - 1) (c - 1))) := (St.refl _ _ _).own (by decide) _
 refine ⟨?_, hs⟩
 obtain ⟨a, c', vc, vs, vx, vt, hh, h1, h2, h3, h4⟩ := h.mem
 rw [cell_of_row _ _ _ _ _ (0, 0) hh] at hc
 simp only [List.getElem?_toArray, List.getElem?_cons_zero, Option.some.injEq, Value.slice.injEq, true_and] at hc
 obtain ⟨rfl, rfl⟩ := hc
 have hp := h.wf.pos
 have ho : ∀ i, i ≠ g → (w.setCell ⟨g, 0, none⟩ (.slice (some ⟨k, o + 5, none⟩) (l.length - 1) (c' - 1))).heap[i]? = w.heap[i]? := fun i hi => Below.heap_setCell _ _ _ _ hi
 refine ⟨ht, h.env.stay (hs.pub X), ⟨some ⟨k, o + 5, none⟩, c' - 1, vc, vs, vx, vt, ?_, ?_, by omega, h3.tail.stay (hs.pub X),
  ⟨h4.c.stay Crep.kept (hs.pub X) fun i hi => ho i fun e => h4.c.off hh (by decide) (e ▸ hi), h4.s.stay (Srep.kept _) (hs.pub X) fun i hi => ho i fun e => h4.s.off hh (by decide) (e ▸ hi), h4.x.stay Xrep.kept (hs.pub X) fun i hi => ho i fun e => h4.x.off hh (by decide) (e ▸ hi), h4.t.stay (Trep.kept _) (hs.pub X) fun i hi => ho i fun e => h4.t.off hh (by decide) (e ▸ hi)⟩⟩, h.dep, ?_, ?_, h.lc, h.ls, fun k hk => (hs.stay k (h.priv k hk)).2⟩
 ·rw [cell_set_row hh (by simp), List.length_tail]; rfl
 ·rw [List.length_tail]; omega
 ·have := h.pot; rw [List.length_tail]; omega
 ·have := h.top; omega
theorem PInv.deep (h : PInv X g b w l d f) (d' : Nat) (hd : d' ≤ 32) : PInv X g b (w.setCell ⟨g, 5, none⟩ (.int .i64 (d' : Int))) l d' f ∧ St layP g w (w.setCell ⟨g, 5, none⟩ (.int .i64 (d' : Int))) := by
 have hs : St layP g w (w.setCell ⟨g, 5, none⟩ (.int .i64 (d' : Int))) := (St.refl _ _ _).own (by decide) _
 refine ⟨?_, hs⟩
 obtain ⟨a, c', vc, vs, vx, vt, hh, h1, h2, h3, h4⟩ := h.mem
 have ho : ∀ i, i ≠ g → (w.setCell ⟨g, 5, none⟩ (.int .i64 (d' : Int))).heap[i]? = w.heap[i]? := fun i hi => Below.heap_setCell _ _ _ _ hi
 refine ⟨h.wf, h.env.stay (hs.pub X), ⟨a, c', vc, vs, vx, vt, ?_, h1, h2, h3.stay (hs.pub X),
  ⟨h4.c.stay Crep.kept (hs.pub X) fun i hi => ho i fun e => h4.c.off hh (by decide) (e ▸ hi), h4.s.stay (Srep.kept _) (hs.pub X) fun i hi => ho i fun e => h4.s.off hh (by decide) (e ▸ hi), h4.x.stay Xrep.kept (hs.pub X) fun i hi => ho i fun e => h4.x.off hh (by decide) (e ▸ hi), h4.t.stay (Trep.kept _) (hs.pub X) fun i hi => ho i fun e => h4.t.off hh (by decide) (e ▸ hi)⟩⟩, hd, h.pot, h.top, h.lc, h.ls, fun k hk => (hs.stay k (h.priv k hk)).2⟩
 rw [cell_set_row hh (by simp)]; rfl
end
def flt (l : List Tok) (e : Nat) : List PanicEntry := [{ v := .iface 101 (.agg #[.int .i64 (hd l).p.1, .int .i64 (hd l).p.2, .int .i64 (e : Int)]), recovered := false }]
set_option maxHeartbeats 1000000 in
theorem fail_any {X : Nat → Prop} {g b : Nat} {l : List Tok} {d : Nat} {f : FM} (e : Nat) (w : World) (h : PInv X g b w l d f) :
  Calls Tryz.prog 79 #[.pointer (some ⟨g, 0, none⟩), .int .i64 (e : Int)] w fun e' w' => e' = .panicked (flt l e) ∧ w = w' := by
 have hl := h.wf.pos
 obtain ⟨k, o, c, h0, h5, hf, hkl, hc, hm, c0, c1, c2, c3, c4⟩ := h.look
 unfold maxLen at hm
 go_enter Tryz.func79, Tryz.ntmps79
 go_wp2
 exact ⟨rfl, rfl, rfl⟩
theorem expect_any {X : Nat → Prop} {g b : Nat} {l : List Tok} {d : Nat} {f : FM} (q : Bool) (w : World) (h : PInv X g b w l d f) :
  Calls Tryz.prog 127 #[.pointer (some ⟨g, 0, none⟩), .bool q] w fun e' w' => e' = (if q = true then .returned (.tuple #[]) else .panicked (flt l 4)) ∧ w = w' := by
 have C := hid (fail_any 4 w h)
 cases q
 ·go_enter Tryz.func127, Tryz.ntmps127
  go_wp2_with (go_at_call 79; refine C.out.mono ?_; rintro e w' ⟨rfl, rfl⟩)
  exact ⟨rfl, rfl, rfl⟩
 ·go_enter Tryz.func127, Tryz.ntmps127
  go_wp2_with fail
  go_end0
  exact ⟨rfl, rfl⟩
theorem room_any {X : Nat → Prop} {g b : Nat} {l : List Tok} {d : Nat} {f : FM} (k : Nat) (hk : k ≤ 64) (w : World) (h : PInv X g b w l d f) :
  Calls Tryz.prog 76 #[.pointer (some ⟨g, 0, none⟩), .int .i64 (k : Int), .int .i64 64] w fun e' w' => e' = (if 64 ≤ k then .panicked (flt l 10) else .returned (.tuple #[])) ∧ w = w' := by
 have C := hid (fail_any 10 w h)
 by_cases h64 : 64 ≤ k
 ·obtain rfl : k = 64 := by omega
  go_enter Tryz.func76, Tryz.ntmps76
  go_wp2_with (go_at_call 79; refine C.out.mono ?_; rintro e w' ⟨rfl, rfl⟩)
  exact ⟨rfl, rfl, rfl⟩
 ·have hb : ((k : Int) == 64) = false := by rw [beq_eq_false_iff_ne]; omega
  rw [if_neg h64]
  go_enter Tryz.func76, Tryz.ntmps76
  go_wp2_with fail
  go_end0
  exact ⟨rfl, rfl⟩
set_option maxHeartbeats 1000000 in
theorem read_any {X : Nat → Prop} {g b : Nat} {l : List Tok} {d : Nat} {f : FM} (w : World) (h : PInv X g b w l d f) (ht : WF l.tail) :
  Calls Tryz.prog 178 #[.pointer (some ⟨g, 0, none⟩)] w fun e' w' => e' = .returned (.agg #[.int .i64 (hd l).tk.k, .string (bs (hd l).tk.t), .int .u64 (hd l).tk.n, .int .i64 (hd l).p.1, .int .i64 (hd l).p.2]) ∧ PInv X g (b - 3) w' l.tail d f ∧ St layP g w w' := by
 have hg := h.lt
 have hl := h.wf.pos
 have hl2 := ht.pos
 rw [List.length_tail] at hl2
 obtain ⟨k, o, c, h0, h5, hf, hkl, hc, hm, c0, c1, c2, c3, c4⟩ := h.look
 have H := hid h
 have HT := hid ht
 clear h ht
 unfold maxLen at hm
 go_enter Tryz.func178, Tryz.ntmps178
 go_wp2
 obtain ⟨h1, s1⟩ := H.out.read HT.out h0
 refine bodyPost_ret (v := .agg #[.int .i64 (hd l).tk.k, .string (bs (hd l).tk.t), .int .u64 (hd l).tk.n, .int .i64 (hd l).p.1, .int .i64 (hd l).p.2]) (by simp [results, Tryz.results178, go_sem]) rfl ⟨rfl, ?_, ?_⟩
 ·exact (h1.below (below_box _ _)).below (below_box _ _)
 ·exact (s1.alloc h1.lt _).alloc (by simpa using Nat.lt_succ_of_lt hg) _
theorem atText_any {X : Nat → Prop} {g b : Nat} {l : List Tok} {d : Nat} {f : FM} (t : List UInt8) (w : World) (h : PInv X g b w l d f) :
  Calls Tryz.prog 75 #[.pointer (some ⟨g, 0, none⟩), .string (bs t)] w fun e' w' => e' = .returned (.bool (isT t l)) ∧ w = w' := by
 have hl := h.wf.pos
 obtain ⟨k, o, c, h0, h5, hf, hkl, hc, hm, c0, c1, c2, c3, c4⟩ := h.look
 unfold maxLen at hm
 go_enter Tryz.func75, Tryz.ntmps75
 go_wp2
 go_ret
 exact ⟨retBe (beq_bs _ _), rfl⟩
theorem atNumber_any {X : Nat → Prop} {g b : Nat} {l : List Tok} {d : Nat} {f : FM} (w : World) (h : PInv X g b w l d f) :
  Calls Tryz.prog 179 #[.pointer (some ⟨g, 0, none⟩)] w fun e' w' => e' = .returned (.bool (isNum l)) ∧ w = w' := by
 have hl := h.wf.pos
 obtain ⟨k, o, c, h0, h5, hf, hkl, hc, hm, c0, c1, c2, c3, c4⟩ := h.look
 unfold maxLen at hm
 go_enter Tryz.func179, Tryz.ntmps179
 go_wp2
 go_ret
 exact ⟨retBe (beq_nat _ 1), rfl⟩
end Go.Proofs.YtmhmfdnoadjibaaGreatDoor
