/- Layer 8: the printer's builder, which lies inside the printer's own block. · Layer 8: numbers in decimals: the library's FormatUint and Itoa. -/
import Derived.Test.YtomimkgaelkaoaaGreatDoorC13ShV
import Derived.Test.YtomimkgaelkaoaaGreatDoorC13ParRd
import Derived.Lib.Builder
import Derived.Lib.AppendStr
import Derived.Lib.UnsafeStr
import Derived.Shelf.Strings.Builder1
import Derived.Test.YtomimkgaelkaoaaGreatDoorC13Shelf2
import Derived.Lib.AppendIntMem
set_option linter.unusedVariables false
set_option linter.unusedSimpArgs false
namespace Go.Proofs.YtomimkgaelkaoaaGreatDoor
open Go.Lib (hid)
open Go.ChangeShapes Go.WideShapes Go.ChangeAt Go.RowKit
structure Pr (B g : Nat) (f : Value) (l : List UInt8) (w : World) : Prop where
 lo : B ≤ g
 mem : ∃ p v, (p = Value.pointer none ∨ p = Value.pointer (some ⟨g, 1, none⟩)) ∧ w.heap[g]? = some (.cells #[f, p, v] 206 (0, 0)) ∧ w.ownsRow B 5 1 v l.length (Lib.byteCells l) ∧ v.ownBlock ≠ some g
theorem Pr.lt {B g : Nat} {f : Value} {l : List UInt8} {w : World} (h : Pr B g f l w) : g < w.heap.size := by
 obtain ⟨_, p, v, _, h, _⟩ := h
 exact (Array.getElem?_eq_some_iff.1 h).1
theorem Pr.keep {B g : Nat} {f : Value} {l : List UInt8} {w w' : World} (h : Pr B g f l w) (hb : Below w.heap.size w w') : Pr B g f l w' := by
 have hg := h.lt
 obtain ⟨h0, p, v, h1, h2, h3, h4⟩ := h
 exact ⟨h0, p, v, h1, (hb.block g hg).trans h2, ownsRow_same h3 fun i hi => hb.block i (World.ownsRow.lt h3 i hi).2, h4⟩
structure Fr (B g : Nat) (w w' : World) : Prop where
 below : Below B w w'
 keep : ∀ (k : Nat) (cs : Array Value) (T : TypeId) (fr : Nat × Nat), w.heap[k]? = some (.cells cs T fr) → k ≠ g → T ≠ 5 → w'.heap[k]? = some (.cells cs T fr)
theorem Fr.refl (B g : Nat) (w : World) : Fr B g w w := ⟨Below.refl B w, fun _ _ _ _ h _ _ => h⟩
theorem Fr.trans {B g : Nat} {w w1 w2 : World} (h : Fr B g w w1) (k : Fr B g w1 w2) : Fr B g w w2 := ⟨h.below.trans k.below, fun i cs T fr e h1 h2 => k.keep i cs T fr (h.keep i cs T fr e h1 h2) h1 h2⟩
theorem Fr.of {B g : Nat} {w w' : World} (h : Below w.heap.size w w') (hB : B ≤ w.heap.size) : Fr B g w w' := ⟨h.mono hB, fun k cs T fr e _ _ => (h.block k (Array.getElem?_eq_some_iff.1 e).1).trans e⟩
theorem Fr.set {B g : Nat} {w : World} (hB : B ≤ g) (o : Nat) (v : Value) : Fr B g w (w.setCell ⟨g, o, none⟩ v) := ⟨(Below.refl B w).setCell (p := ⟨g, o, none⟩) hB _, fun k cs T fr e h1 _ => (Below.heap_setCell _ _ _ _ h1).trans e⟩
theorem info_builder : (Tryz.prog.info? 204).map (fun i => i.size) = some 2 := by kernel_rfl
theorem lies_builder : liesAt Tryz.prog Tryz.prog.depth 206 (3 / Tryz.prog.cellsOf 206) 1 204 1 = true := by kernel_rfl
theorem info_u8 : (Tryz.prog.info? 5).map (fun i => (i.zero, i.size, i.bytes)) = some (some (.int .u8 0), 1, 1) := by kernel_rfl
set_option maxHeartbeats 1000000 in
set_option maxRecDepth 100000 in
theorem cc_used (g : Nat) (w : World) (h0 : w.cell? ⟨g, 1, none⟩ = some (.pointer (some ⟨g, 1, none⟩))) :
  Calls Tryz.prog 184 #[.pointer (some ⟨g, 1, none⟩)] w fun e w' => e = .returned (.tuple #[]) ∧ w = w' := by
 obtain ⟨j, hj, _⟩ := Option.map_eq_some_iff.1 info_builder
 go_enter Tryz.func184, Tryz.ntmps184
 go_wp2
 rw [Lib.run_neq_ptr_same _ _ Tryz.underlying201 hj]
 go_wp2
 go_end0
 exact ⟨rfl, rfl⟩
set_option maxHeartbeats 1000000 in
set_option maxRecDepth 100000 in
theorem cc_fresh (g : Nat) (w : World) (h0 : w.cell? ⟨g, 1, none⟩ = some (.pointer none)) (hsh : w.shape? g = some (206, 3)) (hfz : w.frozen? ⟨g, 1, none⟩ = false) :
  Calls Tryz.prog 184 #[.pointer (some ⟨g, 1, none⟩)] w fun e w' => e = .returned (.tuple #[]) ∧ w.setCell ⟨g, 1, none⟩ (.pointer (some ⟨g, 1, none⟩)) = w' := by
 obtain ⟨j, hj, hjs⟩ := Option.map_eq_some_iff.1 info_builder
 go_enter Tryz.func184, Tryz.ntmps184
 go_wp2
 rw [Lib.run_to_unsafe _ ⟨g, 1, none⟩ Tryz.underlying201 Tryz.underlying331 hj (by rw [hjs]; decide) hsh (by show 1 < 3; decide)]
 simp only [Result.andThen]
 rw [Oper.upon_value]
 go_wp2
 rw [run_callFunc_extern Tryz.func242 (by kernel_rfl) (by kernel_rfl) (by kernel_rfl) (e := Extern.AbiNoEscape.same) (by kernel_rfl)]
 rw [Lib.run_noEscape]
 simp only [Result.andThen]
 rw [Oper.upon_value]
 go_wp2
 rw [Lib.run_from_unsafe _ ⟨g, 1, none⟩ Tryz.underlying331 Tryz.underlying201 hj hsh lies_builder]
 simp only [Result.andThen]
 rw [Oper.upon_value]
 go_wp2
 go_end0
 exact ⟨rfl, rfl⟩
theorem Pr.cells {B g : Nat} {f : Value} {l : List UInt8} {w : World} (h : Pr B g f l w) : ∃ p v, (p = Value.pointer none ∨ p = Value.pointer (some ⟨g, 1, none⟩)) ∧ w.cell? ⟨g, 0, none⟩ = some f ∧ w.cell? ⟨g, 1, none⟩ = some p ∧ w.cell? ⟨g, 2, none⟩ = some v ∧ (∀ j, w.frozen? ⟨g, j, none⟩ = false) ∧ w.shape? g = some (206, 3) ∧ w.ownsRow B 5 1 v l.length (Lib.byteCells l) ∧ v.ownBlock ≠ some g ∧ w.heap[g]? = some (.cells #[f, p, v] 206 (0, 0)) := by
 obtain ⟨_, p, v, h1, h2, h3, h4⟩ := h
 refine ⟨p, v, h1, ?_, ?_, ?_, fun j => by simp [World.frozen?, h2], by simp [World.shape?, h2], h3, h4, h2⟩
 all_goals
  rw [cell_of_row _ _ _ _ _ (0, 0) h2]
  rfl
def PrU (B g : Nat) (f : Value) (l : List UInt8) (w : World) : Prop := B ≤ g ∧ ∃ v, w.heap[g]? = some (.cells #[f, .pointer (some ⟨g, 1, none⟩), v] 206 (0, 0)) ∧ w.ownsRow B 5 1 v l.length (Lib.byteCells l) ∧ v.ownBlock ≠ some g
theorem copyCheck_any {B g : Nat} {f : Value} {l : List UInt8} (w : World) (h : Pr B g f l w) :
  Calls Tryz.prog 184 #[.pointer (some ⟨g, 1, none⟩)] w fun e w' => e = .returned (.tuple #[]) ∧ PrU B g f l w' ∧ Fr B g w w' := by
 have hlo := h.lo
 obtain ⟨p, v, hp, c0, c1, c2, hf, hs, hr, hne, hh⟩ := h.cells
 rcases hp with rfl | rfl
 ·refine (cc_fresh g w c1 hs (hf 1)).mono ?_
  rintro e w' ⟨rfl, rfl⟩
  refine ⟨rfl, ⟨hlo, v, cell_set_row hh (j := 1) (by simp) _, ownsRow_same hr fun i hi => Below.heap_setCell _ _ _ _ fun e => hne (by rw [hi, e]), hne⟩, Fr.set hlo _ _⟩
 ·refine (cc_used g w c1).mono ?_
  rintro e w' ⟨rfl, rfl⟩
  exact ⟨rfl, ⟨hlo, v, hh, hr, hne⟩, Fr.refl B g w⟩
set_option maxHeartbeats 1000000 in
set_option maxRecDepth 100000 in
theorem Len_any {B g : Nat} {f : Value} {l : List UInt8} (w : World) (h : Pr B g f l w) :
  Calls Tryz.prog 131 #[.pointer (some ⟨g, 1, none⟩)] w fun e w' => e = .returned (.int .i64 (l.length : Int)) ∧ w = w' := by
 obtain ⟨p, v, hp, c0, c1, c2, hf, hs, hr, hne, hh⟩ := h.cells
 obtain ⟨ao, cap, rfl⟩ := ownsRow_shape hr
 clear hh hr hs hp
 go_enter Tryz.func131, Tryz.ntmps131
 go_wp2
 go_ret
 exact ⟨rfl, rfl⟩
theorem strCells_bs (l : List UInt8) : Lib.strCells (bs l) = Lib.byteCells l := by
 simp [Lib.strCells, Lib.byteCells, bs]
set_option maxHeartbeats 2000000 in
set_option maxRecDepth 100000 in
theorem WriteString_any {B g : Nat} {f : Value} {l : List UInt8} (s : List UInt8) (w : World) (h : Pr B g f l w) (hlen : l.length + s.length ≤ 140737488355328) :
  Calls Tryz.prog 132 #[.pointer (some ⟨g, 1, none⟩), .string (bs s)] w fun e w' => (∃ v1 v2, e = .returned (.tuple #[v1, v2])) ∧ Pr B g f (l ++ s) w' ∧ Fr B g w w' := by
 obtain ⟨i0, hi, hz0, hz1, hz2⟩ := info_parts info_u8
 have hlo := h.lo
 have hlt := h.lt
 have C := hid (copyCheck_any w h)
 have hss : (bs s).size = s.length := by simp [bs, ByteArray.size]
 clear h
 go_enter Tryz.func132, Tryz.ntmps132
 go_wp2_with (go_at_call 184; refine C.out.mono ?_)
 rintro e w1 ⟨rfl, ⟨-, v, hbk, hown, hne⟩, hb1⟩
 have c1 : w1.cell? ⟨g, 1, none⟩ = some (.pointer (some ⟨g, 1, none⟩)) := by rw [cell_of_row _ _ _ _ _ (0, 0) hbk]; rfl
 have c2 : w1.cell? ⟨g, 2, none⟩ = some v := by rw [cell_of_row _ _ _ _ _ (0, 0) hbk]; rfl
 have hlt1 : g < w1.heap.size := (Array.getElem?_eq_some_iff.1 hbk).1
 go_wp2_with (at_builtin; (refine Lib.wpList_append_own_string _ rfl _ _ 202 9 rfl B 5 i0 Tryz.underlying202 Tryz.underlying9 hi hz0 hz1 hz2 _ _ _ rfl hown (bs s) rfl ?c3 ?c4 ?c5 ?_))
 case c3 => rw [hss]; unfold maxLen; omega
 case c4 => rw [hss]; omega
 case c5 => omega
 intro v' w2 hown' hgrow _
 have hb2 : w2.heap[g]? = some (.cells #[f, .pointer (some ⟨g, 1, none⟩), v] 206 (0, 0)) := by
  rw [hgrow.block g hlt1 (fun e => hne e.symm)]
  exact hbk
 skip
 have hown2 := hid hown'
 obtain ⟨ao, cap, rfl⟩ := ownsRow_shape hown'
 have d1 : w2.cell? ⟨g, 1, none⟩ = some (.pointer (some ⟨g, 1, none⟩)) := by rw [cell_of_row _ _ _ _ _ (0, 0) hb2]; rfl
 have d2 : w2.cell? ⟨g, 2, none⟩ = some v := by rw [cell_of_row _ _ _ _ _ (0, 0) hb2]; rfl
 have f2 : ∀ j, w2.frozen? ⟨g, j, none⟩ = false := fun j => by simp [World.frozen?, hb2]
 have HB2 := hid hb2
 clear hown' hb2
 go_wp2
 go_ret2
 have hne' := ownsRow_off hown2.out HB2.out (by decide)
 have hset := cell_set_row HB2.out (j := 2) (by simp) (Value.slice ao (l.length + s.length) cap)
 refine ⟨⟨_, _, rfl⟩, ⟨hlo, _, _, .inr rfl, hset, ?_, ?_⟩, ?_⟩
 ·have h9 := hown2.out
  rw [strCells_bs] at h9
  rw [List.length_append]
  rw [show Lib.byteCells (l ++ s) = Lib.byteCells l ++ Lib.byteCells s by simp [Lib.byteCells]]
  exact ownsRow_same h9 fun i hi => Below.heap_setCell _ _ _ _ fun e => hne' (by rw [hi]; exact congrArg some e)
 ·exact hne'
 ·refine (hb1.trans ⟨(Below.refl B w1).grown hgrow (by omega) (fun k hk => (hown.lt k hk).1), fun k cs T fr e _ h2 => ?_⟩).trans (Fr.set hlo _ _)
  exact (hgrow.block k (Array.getElem?_eq_some_iff.1 e).1 fun e2 => ownsRow_off hown e (fun e3 => h2 e3.symm) e2.symm).trans e
set_option maxHeartbeats 2000000 in
set_option maxRecDepth 100000 in
theorem String_any {B g : Nat} {f : Value} {l : List UInt8} (w : World) (h : Pr B g f l w) (h0 : l ≠ []) :
  Calls Tryz.prog 86 #[.pointer (some ⟨g, 1, none⟩)] w fun e w' => e = .returned (.string (bs l)) ∧ Below B w w' := by
 obtain ⟨p, v, hp, c0, c1, c2, hf, hs, hown, hne, hh⟩ := h.cells
 have hl0 : l.length ≠ 0 := by simpa using h0
 obtain ⟨k, cap, cur, rfl, hbg, hg, hnc, hcm, hcs, htake⟩ : ∃ k cap cur, v = .slice (some ⟨k, 0, none⟩) l.length cap ∧ B ≤ k ∧ w.heap[k]? = some (.cells cur 5 (0, 0)) ∧ l.length ≤ cap ∧ cap ≤ maxLen ∧ cur.size = cap * 1 ∧ cur.toList.take (l.length * 1) = Lib.byteCells l := by
  rcases hown.2 with ⟨_, hz⟩ | ⟨g, cap, cur, hv, r⟩
  ·exact absurd hz hl0
  ·exact ⟨g, cap, cur, hv, r⟩
 have c2' : w.drew.cell? ⟨g, 2, none⟩ = some (.slice (some ⟨k, 0, none⟩) l.length cap) := c2
 have hSD : (Builtin.unsafeSliceData_ #[202] 253 #[.slice (some ⟨k, 0, none⟩) l.length cap]).run Tryz.prog w.drew = .ok (.pointer (some ⟨k, 0, none⟩)) w.drew :=
  Lib.run_unsafeSliceData_row _ _ _ _ _ _ (by omega)
 have hUS : (Builtin.unsafeString_ #[253, 3] 9 #[.pointer (some ⟨k, 0, none⟩), .int .i64 l.length]).run Tryz.prog w.drew = .ok (.string (bs l)) (w.drew.freeze ⟨k, 0, none⟩ l.length) := by
  refine Lib.run_unsafeString_row w.drew 253 3 9 5 Tryz.underlying253 (by kernel_rfl) k cur.size (by have hg' : w.drew.heap[k]? = some (.cells cur 5 (0, 0)) := hg; simp [World.shape?, hg']) l h0 (by omega) (by unfold maxLen at hcm; omega) ?_
  intro j x hx
  have := hown.cells (g := k) rfl j (.int .u8 x.toNat) (by simp [Lib.byteCells, hx])
  exact this
 have HF := hid (Lib.below_freeze (Below.drew (Below.refl B w)) (p := ⟨k, 0, none⟩) hbg l.length)
 clear h hp c0 c1 hs hown hne hh hg hnc hcm hcs htake h0 hl0 c2
 have mixed : Tryz.prog.follows Departure.mixedOrders = true := by kernel_rfl
 go_enter Tryz.func86, Tryz.ntmps86
 go_wp2
 go_region_o
 all_goals (go_wp2; go_ret; exact ⟨rfl, HF.out⟩)
end Go.Proofs.YtomimkgaelkaoaaGreatDoor
namespace Go.Proofs.YtomimkgaelkaoaaGreatDoor
open Go.Lib (hid)
open Go.ChangeShapes Go.WideShapes Go.ChangeAt Go.RowKit
def NEnv (w : World) : Prop := Lib.TabIs Tryz.prog w "internal/strconv.uint64pow10" .u64 Lib.pow10Tab
theorem NEnv.below {w w' : World} (h : NEnv w) (hb : Below w.heap.size w w') : NEnv w' := by
 unfold NEnv Lib.TabIs World.var? at *
 cases hg : Tryz.prog.globalNamed "internal/strconv.uint64pow10" with
 | none => simp [hg] at h
 | some g =>
  rw [hg] at h
  simp only [Option.bind_some] at h ⊢
  cases hh : w.heap[g]? with
  | none => rw [hh] at h; simp at h
  | some o =>
   rw [(hb.block g (Array.getElem?_eq_some_iff.1 hh).1).trans hh]
   rw [hh] at h
   exact h
theorem decD_dig : ∀ (f n : Nat), n < 10 ^ (f + 1) → decD (f + 1) n = Lib.decDigits n
 | 0, n, h => by
  have hn : n < 10 := by omega
  rw [decD, if_pos hn, Lib.decDigits_one hn]
 | f + 1, n, h => by
  rw [decD, Lib.decDigits]
  by_cases hn : n < 10
  ·rw [if_pos hn, dif_pos hn]
  ·rw [if_neg hn, dif_neg hn, decD_dig f (n / 10) (by rw [Nat.pow_succ] at h; omega)]
theorem decL_dig {n : Nat} (h : n < 18446744073709551616) : Lib.decDigits n = decL n := (decD_dig 19 n (by omega)).symm
theorem below_grow8 {w : World} (k : Nat) (os : Array Obj) : Below w.heap.size w (Sort.grow (w.drewN k) os) := by
 have h : Below w.heap.size w (w.drewN k) := below_drewN _ _ _
 exact ⟨h.os, h.tape, h.output, by show w.heap.size ≤ (w.heap ++ os).size; simp, fun g hg => Lib.heap_grow_old w k os g hg⟩
theorem below_fmt (w : World) (dk : Array UInt8) (k : Nat) : Below w.heap.size w ((Sort.putRow (fun b : UInt8 => Value.int .u8 (b.toNat : Int)) (w.alloc (.cells Lib.zeros24 333)) w.heap.size 0 dk).drewN k) := by
 obtain ⟨os, e⟩ := Lib.fin_at w (.cells Lib.zeros24 333) dk k 0
 rw [e]
 exact below_grow8 k os
theorem cv_num (w : World) (u k v' : Nat) (dk : Array UInt8) (hF : Lib.FmtInv (Lib.nDigits u) u 0 v' dk) (hH : Sort.Holds (fun b : UInt8 => Value.int .u8 (b.toNat : Int)) (w.alloc (.cells Lib.zeros24 333)) w.heap.size 0 (Array.replicate (Lib.nDigits u) 0)) :
  (convert 202 9 (.slice (some ⟨w.heap.size, 0, none⟩) (Lib.nDigits u) 24)).run Tryz.prog ((Sort.putRow (fun b : UInt8 => Value.int .u8 (b.toNat : Int)) (w.alloc (.cells Lib.zeros24 333)) w.heap.size 0 dk).drewN k) = .ok (.string (bs (Lib.decDigits u))) ((Sort.putRow (fun b : UInt8 => Value.int .u8 (b.toNat : Int)) (w.alloc (.cells Lib.zeros24 333)) w.heap.size 0 dk).drewN k) := by
 have h := run_convert_bytes_back (P := Tryz.prog) ((Sort.putRow (fun b : UInt8 => Value.int .u8 (b.toNat : Int)) (w.alloc (.cells Lib.zeros24 333)) w.heap.size 0 dk).drewN k) 202 9 5 ⟨w.heap.size, 0, none⟩ 24 (Lib.decDigits u) Tryz.underlying202 Tryz.underlying5 Tryz.underlying9 (fun j hj => by
  rw [Lib.row_is_numeral hF j hj, Lib.add_plain, World.cell?_drewN]
  exact Sort.cell?_putRow (fun b : UInt8 => Value.int .u8 (b.toNat : Int)) _ w.heap.size 0 _ dk hH (by rw [hF.size, Array.size_replicate]) j (by rw [hF.size]; rw [Lib.decDigits_length] at hj; exact hj))
 rw [Lib.decDigits_length] at h
 exact h
set_option maxRecDepth 100000 in
set_option maxHeartbeats 4000000 in
theorem FormatUint_in (u : Nat) (hu64 : u < 18446744073709551616) (w : World) (hE : NEnv w) :
  Calls Tryz.prog 185 #[.int .u64 (u : Int), .int .i64 10] w fun e w' => e = .returned (.string (bs (decL u))) ∧ Below w.heap.size w w' := by
 have mixed : Tryz.prog.follows Departure.mixedOrders = true := by kernel_rfl
 have e283 : ∀ args w, (callFunc 243 args).run Tryz.prog w = .ok (.enter 243 args) w := enters_of Tryz.func243 (by kernel_rfl) rfl
 have e284 : ∀ args w, (callFunc 244 args).run Tryz.prog w = .ok (.enter 244 args) w := enters_of Tryz.func244 (by kernel_rfl) rfl
 have e285 : ∀ args w, (callFunc 245 args).run Tryz.prog w = .ok (.enter 245 args) w := enters_of Tryz.func245 (by kernel_rfl) rfl
 rw [← decL_dig hu64]
 by_cases hs : u < 100
 ·have hlt : ((u : Int) < 100) := by omega
  have C := hid (Tryz.internal_strconv_small u hs)
  go_enter Tryz.func185, Tryz.ntmps185
  go_wp2_with (go_at_call 243; go_must (refine (C.out _).mono ?_; rintro e w' ⟨rfl, rfl⟩))
  go_ret
  exact ⟨rfl, Below.refl _ _⟩
 ·have hu1 : 1 ≤ u := by omega
  have hlt : ¬ ((u : Int) < 100) := by omega
  have hnd20 : Lib.nDigits u ≤ 20 := by have := Lib.numDigits_eq u hu1 hu64; split at this <;> omega
  have hal : Tryz.prog.arrayLen 333 = 24 := by simp [Program.arrayLen, Tryz.underlying333]
  have hsl : ∀ W, (Instr.sliceAt 333 (.pointer (some ⟨w.heap.size, 0, none⟩)) none (some (.int .i64 (Lib.nDigits u : Int))) none).run Tryz.prog W = .ok (.slice (some ⟨w.heap.size, 0, none⟩) (Lib.nDigits u) 24) W := fun W => by
   rw [run_sliceAt_array_h W 333 ⟨w.heap.size, 0, none⟩ (by simp [Program.arrayLen, Program.elem, Tryz.underlying333]) .i64 (Lib.nDigits u : Int) (by omega) (by rw [hal]; omega)]
   go_simp
  have hH0 := Lib.holds_zero0 w 333 (Lib.nDigits u) (by omega)
  have hfmt := Tryz.internal_strconv_formatBase10 w.heap.size 0 24 u (Array.replicate (Lib.nDigits u) 0) (w.alloc (.cells Lib.zeros24 333)) hH0 (by rw [Array.size_replicate]; exact Lib.lt_pow_nDigits u) hu64 (by rw [Array.size_replicate]; omega)
  rw [Array.size_replicate] at hfmt
  have HH0 := hid hH0
  have HF := hid hfmt
  have HN := hid fun w hE => Tryz.internal_strconv_numDigits u hu1 hu64 w hE
  have hE1 := hid (Lib.tabIs_alloc hE (.cells Lib.zeros24 333))
  clear hH0 hal hfmt hE
  go_enter Tryz.func185, Tryz.ntmps185
  go_wp2_with (first | (go_at_call 244; go_must (refine (HN.out _ hE1.out).mono ?_; rintro e w' ⟨rfl, rfl⟩)) | (go_at_call 245; go_must (refine HF.out.mono ?_; rintro e w' ⟨rfl, k, v', dk, rfl, hF⟩; have hcv := cv_num w u k v' dk hF HH0.out; clear hF)))
  go_ret
  exact ⟨rfl, below_fmt w dk k⟩
set_option maxRecDepth 100000 in
theorem FormatUint_any (u : Nat) (hu64 : u < 18446744073709551616) (w : World) (hE : NEnv w) :
  Calls Tryz.prog 133 #[.int .u64 (u : Int), .int .i64 10] w fun e w' => e = .returned (.string (bs (decL u))) ∧ Below w.heap.size w w' := by
 have C := hid (FormatUint_in u hu64 w hE)
 clear hE
 go_enter Tryz.func133, Tryz.ntmps133
 go_wp2_with (go_at_call 185; go_must (refine C.out.mono ?_; rintro e w' ⟨rfl, hb⟩))
 go_ret
 exact ⟨rfl, hb⟩
theorem Itoa_any (n : Nat) (hn : n < 9223372036854775808) (w : World) (hE : NEnv w) :
  Calls Tryz.prog 186 #[.int .i64 (n : Int)] w fun e w' => e = .returned (.string (bs (decL n))) ∧ Below w.heap.size w w' := by
 refine (Tryz.strconv_Itoa (n : Int) (by omega) (by omega) w hE).mono ?_
 rintro e w' ⟨rfl, k, os, rfl⟩
 rw [Lib.itoa_nonneg, decL_dig (by omega)]
 exact ⟨rfl, below_grow8 k os⟩
end Go.Proofs.YtomimkgaelkaoaaGreatDoor
