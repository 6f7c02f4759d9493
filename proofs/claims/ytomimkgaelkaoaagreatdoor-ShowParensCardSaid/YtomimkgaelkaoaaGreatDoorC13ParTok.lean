/- Contracts of layer 6: signs and tokens, by the document. · Contracts of layer 6: the first token, by the document. · Contracts of layer 6: the document's Lex. · Contracts of layer 6: Lex of the program. · Slices of strings that a call has made by append, nil let in. · Contracts of layer 6: joining, by the program and by the document. · Layer 6, the mathematics of the laws: so many letters, so many digits. No program. · Layer 6, the mathematics of the laws: how texts are joined. No program. · Layer 6, the mathematics of the law on joining: what is joined is read as these tokens again. No program. · Layer 7: the lexer's tokens are such as the parser expects. -/
import Derived.Test.YtomimkgaelkaoaaGreatDoorC13LexC
import Derived.Deep.CutBlock
import Derived.Test.YtomimkgaelkaoaaGreatDoorC13Toks
import Derived.Below
import Derived.Test.YtomimkgaelkaoaaGreatDoorC13LexK
import Derived.Deep.DeepCutAuto
import Derived.Deep.DeepMust
import Derived.Deep.RegionHeld3
import Derived.Deep.DrawnRows
import Derived.Lib.Join
import Derived.Test.YtomimkgaelkaoaaGreatDoorC13LexQ
import Derived.Test.YtomimkgaelkaoaaGreatDoorC13ParC
set_option linter.unusedVariables false
set_option linter.unusedSimpArgs false
namespace Go.Proofs.YtomimkgaelkaoaaGreatDoor
open Go.Lib (hid)
open Go.ChangeShapes Go.WideShapes Go.ChangeAt Go.RowKit
end Go.Proofs.YtomimkgaelkaoaaGreatDoor
namespace Go.Proofs.YtomimkgaelkaoaaGreatDoor
open Go.Lib (hid)
open Go.ChangeShapes Go.WideShapes Go.ChangeAt Go.RowKit
end Go.Proofs.YtomimkgaelkaoaaGreatDoor
namespace Go.Proofs.YtomimkgaelkaoaaGreatDoor
open Go.Lib (hid)
open Go.ChangeShapes Go.WideShapes Go.ChangeAt Go.RowKit
def LR.toks : LR → List Tok
 | .ok l => l
 | .bad _ _ => []
def LR.pos : LR → Ps
 | .ok _ => (0, 0)
 | .bad p _ => p
def LR.err : LR → Nat
 | .ok _ => 0
 | .bad _ e => e
theorem lexInfo_parts {P : Program} {t : TypeId} {z : Option Value} {n m : Nat} (h : (P.info? t).map (fun i => (i.zero, i.size, i.bytes)) = some (z, n, m)) : ∃ i, P.info? t = some i ∧ i.zero = z ∧ i.size = n ∧ i.bytes = m := by
 obtain ⟨i, h1, h2⟩ := Option.map_eq_some_iff.1 h
 simp only [Prod.mk.injEq] at h2
 exact ⟨i, h1, h2.1, h2.2.1, h2.2.2⟩
theorem res2_alloc {w w' : World} {v0 v1 : Value} (h0 : w'.cell? ⟨w.heap.size, 0, none⟩ = some v0) (h1 : w'.cell? ⟨w.heap.size, 1, none⟩ = some v1) (hz : w.heap.size < w'.heap.size) (T : Obj) (u0 : Value) :
  (w'.alloc T).cell? ⟨w.heap.size, 0, none⟩ = some v0 ∧ ((w'.setCell ⟨w.heap.size, 0, none⟩ u0).alloc T).cell? ⟨w.heap.size, 1, none⟩ = some v1 := by
 refine ⟨(World.cell?_alloc_lt _ _ _ hz).trans h0, (World.cell?_alloc_lt _ _ _ (by simpa using hz)).trans ?_⟩
 exact (World.cell?_setCell_other _ _ _ _ (by simp)).trans h1
theorem res2_set {w w' : World} {v0 v1 : Value} (h0 : w'.cell? ⟨w.heap.size, 0, none⟩ = some v0) (h1 : w'.cell? ⟨w.heap.size, 1, none⟩ = some v1) (hz : w.heap.size < w'.heap.size) (T : Obj) (u0 u1 : Value) :
  (((w'.setCell ⟨w.heap.size, 0, none⟩ u0).setCell ⟨w.heap.size, 1, none⟩ u1).alloc T).cell? ⟨w.heap.size, 0, none⟩ = some u0 ∧ (((w'.setCell ⟨w.heap.size, 0, none⟩ u0).setCell ⟨w.heap.size, 1, none⟩ u1).alloc T).cell? ⟨w.heap.size, 1, none⟩ = some u1 := by
 have hz' : w.heap.size < ((w'.setCell ⟨w.heap.size, 0, none⟩ u0).setCell ⟨w.heap.size, 1, none⟩ u1).heap.size := by simpa using hz
 refine ⟨(World.cell?_alloc_lt _ _ _ hz').trans ?_, (World.cell?_alloc_lt _ _ _ hz').trans ?_⟩
 ·exact (World.cell?_setCell_other _ _ _ _ (by simp)).trans (World.cell?_setCell_same _ _ _ h0)
 ·exact World.cell?_setCell_same _ _ _ ((World.cell?_setCell_other _ _ _ _ (by simp)).trans h1)
end Go.Proofs.YtomimkgaelkaoaaGreatDoor
namespace Go.Proofs.YtomimkgaelkaoaaGreatDoor
open Go.Lib (hid)
open Go.ChangeShapes Go.WideShapes Go.ChangeAt Go.RowKit
def At (p : Nat) (x y : Int) (w : World) : Prop := w.heap[p]? = some (.cells #[.int .i64 x, .int .i64 y] 25 (0, 0))
section
variable {p : Nat} {x y : Int} {w w' : World}
theorem At.lt (h : At p x y w) : p < w.heap.size := (Array.getElem?_eq_some_iff.1 h).1
theorem At.cells (h : At p x y w) : w.cell? ⟨p, 0, none⟩ = some (.int .i64 x) ∧ w.cell? ⟨p, 1, none⟩ = some (.int .i64 y) ∧ w.frozen? ⟨p, 0, none⟩ = false ∧ w.frozen? ⟨p, 1, none⟩ = false ∧ p < w.heap.size := by
 have h' : w.heap[p]? = some (.cells #[.int .i64 x, .int .i64 y] 25 (0, 0)) := h
 refine ⟨?_, ?_, ?_, ?_, h.lt⟩
 ·rw [cell_of_row _ _ _ _ _ (0, 0) h]; rfl
 ·rw [cell_of_row _ _ _ _ _ (0, 0) h]; rfl
 ·simp [World.frozen?, h']
 ·simp [World.frozen?, h']
theorem At.keep (h : At p x y w) (hb : Below w.heap.size w w') : At p x y w' := (hb.block p h.lt).trans h
theorem At.alloc (h : At p x y w) (o : Obj) : At p x y (w.alloc o) := (Below.heap_alloc _ _ _ h.lt).trans h
theorem At.far (h : At p x y w) {a : Addr} (ha : a.block ≠ p) (u : Value) : At p x y (w.setCell a u) := (Below.heap_setCell _ _ _ _ (fun e => ha e.symm)).trans h
theorem At.calloc (h : At p x y w) : (∀ T, (w.alloc T).cell? ⟨p, 0, none⟩ = some (.int .i64 x)) ∧ (∀ T, (w.alloc T).cell? ⟨p, 1, none⟩ = some (.int .i64 y)) :=
 ⟨fun T => (h.alloc T).cells.1, fun T => (h.alloc T).cells.2.1⟩
theorem At.new (w : World) (x y : Int) : At w.heap.size x y (w.alloc (.cells #[.int .i64 x, .int .i64 y] 25)) := heap_alloc_new w _
end
theorem heap_set_same {w : World} {p i : Nat} {cs : Array Value} {t : TypeId} {fr : Nat × Nat} (h : w.heap[p]? = some (.cells cs t fr)) (u : Value) :
  (w.setCell ⟨p, i, none⟩ u).heap[p]? = some (.cells (cs.setIfInBounds i u) t fr) := by
 unfold World.setCell
 simp only [Option.isSome_none, Bool.false_eq_true, if_false]
 rw [Array.getElem?_modify, if_pos rfl, h]
 rfl
theorem At.set {p : Nat} {x y : Int} {w : World} (h : At p x y w) (x' y' : Int) : At p x' y' ((w.setCell ⟨p, 0, none⟩ (.int .i64 x')).setCell ⟨p, 1, none⟩ (.int .i64 y')) :=
 heap_set_same (heap_set_same h _) _
theorem undrew {w w1 : World} (h : Below w.drew.heap.size w.drew w1) : Below w.heap.size w w1 := ⟨h.os, h.tape, h.output, h.size, h.block⟩
theorem At.app {p : Nat} {x y : Int} {w3 w4 : World} {v : Value} {T : Obj} (h : At p x y w3) (hp : ∀ g, v.ownBlock = some g → p < g)
  (hk : ∀ g, g < (w3.alloc T).heap.size → v.ownBlock ≠ some g → w4.heap[g]? = (w3.alloc T).heap[g]?) : At p x y w4 :=
 (hk p (Nat.lt_of_lt_of_le h.lt (below_box w3 T).size) (fun e => Nat.lt_irrefl _ (hp p e))).trans (h.alloc T)
theorem cell_of_heap {w : World} {g : Nat} {c0 c1 c2 c3 c4 : Value} {e : TypeId} (h : w.heap[g]? = some (.cells #[c0, c1, c2, c3, c4] e (0, 0))) :
  w.cell? ⟨g, 0, none⟩ = some c0 ∧ w.cell? ⟨g, 1, none⟩ = some c1 ∧ g < w.heap.size :=
 ⟨by rw [cell_of_row _ _ _ _ _ (0, 0) h]; rfl, by rw [cell_of_row _ _ _ _ _ (0, 0) h]; rfl, (Array.getElem?_eq_some_iff.1 h).1⟩
theorem far_cell {w3 w5 : World} {p : Nat} {u : Value} (hp : p < w3.heap.size) (h : w5.cell? ⟨w3.heap.size, 1, none⟩ = some u) :
  ∀ u0 u1, ((w5.setCell ⟨p, 0, none⟩ u0).setCell ⟨p, 1, none⟩ u1).cell? ⟨w3.heap.size, 1, none⟩ = some u := fun u0 u1 =>
 (World.cell?_setCell_other _ _ _ _ (fun e => by simp only [Addr.mk.injEq] at e; omega)).trans ((World.cell?_setCell_other _ _ _ _ (fun e => by simp only [Addr.mk.injEq] at e; omega)).trans h)
theorem info_ptok : (Tryz.prog.info? 185).map (fun i => (i.zero, i.size, i.bytes)) = some (some (.agg #[.int .i64 0, .string ⟨#[]⟩, .int .u64 0, .int .i64 0, .int .i64 0]), 5, 48) := by kernel_rfl
theorem skip_len (t : List UInt8) : (skipM false t).length ≤ t.length := skipM_len false t
set_option maxHeartbeats 4000000 in
set_option maxRecDepth 100000 in
theorem Lex_any (s : ByteArray) (w : World) (hE : Env w) :
  Calls Tryz.prog 33 #[.string s] w fun e w' => ∃ v, e = .returned (.tuple #[v, .agg #[.int .i64 (lexL s.data.toList).pos.1, .int .i64 (lexL s.data.toList).pos.2], .int .i64 (lexL s.data.toList).err]) ∧ Toks 185 w.heap.size w' v (lexL s.data.toList).toks ∧ Below w.heap.size w w' := by
 by_cases hbig : 16384 < s.size
 ·have e : lexL s.data.toList = .bad (1, 1) 7 := by unfold lexL; rw [if_pos (by rw [← size_list]; exact hbig)]
  have E := hid e
  clear e hE
  go_enter Tryz.func33, Tryz.ntmps33
  go_wp2_with fail
  go_region
  all_goals go_wp2_with fail
  all_goals
   refine bodyPost_ret (v := .tuple #[.slice none 0 0, .agg #[.int .i64 1, .int .i64 1], .int .i64 7]) (by simp [results, Tryz.results33, go_sem]) rfl ⟨.slice none 0 0, ?_, ?_, ?_⟩
   ·rw [E.out]; rfl
   ·rw [E.out]; exact Toks.nil _ _ _
   ·exact Below.drew ((below_box _ _).alloc (below_box _ _).size _)
 ·have e : lexL s.data.toList = lexG false (1, 1) s.data.toList := by unfold lexL; rw [if_neg (by rw [← size_list]; exact hbig)]
  obtain ⟨R, hR⟩ : ∃ R, R = lexL s.data.toList := ⟨_, rfl⟩
  have HR : Hid (R = lexG false (1, 1) s.data.toList) := hid (by rw [hR, e])
  rw [← hR]
  clear hR e
  have HE := hid hE
  obtain ⟨i0, hi, hz0, hz1, hz2⟩ := lexInfo_parts info_ptok
  clear hE
  go_enter Tryz.func33, Tryz.ntmps33
  go_wp2_with fail
  have hA1 : At (w.heap.size + 1) 1 1 ((w.alloc (.cells #[.int .i64 0, .int .i64 0] 25)).alloc (.cells #[.int .i64 1, .int .i64 1] 25)) := by
   have := At.new (w.alloc (.cells #[.int .i64 0, .int .i64 0] 25)) 1 1
   simpa using this
  have hA0 : At w.heap.size 0 0 ((w.alloc (.cells #[.int .i64 0, .int .i64 0] 25)).alloc (.cells #[.int .i64 1, .int .i64 1] 25)) := (At.new w 0 0).alloc _
  have hB0 : Below w.heap.size w ((w.alloc (.cells #[.int .i64 0, .int .i64 0] 25)).alloc (.cells #[.int .i64 1, .int .i64 1] 25)) := (below_box _ _).alloc (below_box _ _).size _
  generalize (w.alloc (.cells #[.int .i64 0, .int .i64 0] 25)).alloc (.cells #[.int .i64 1, .int .i64 1] 25) = W0 at hA1 hA0 hB0 ⊢
  go_loopw [0, 6] (fun s0 s6 wr => ∃ (t : ByteArray) (x y : Nat) (acc : List Tok) (v : Value), s0 = .string t ∧ v = s6 ∧ t.size ≤ s.size ∧ x + t.size ≤ s.size + 1 ∧ y + t.size ≤ s.size + 1 ∧ acc.length + t.size ≤ s.size ∧ Toks 185 (w.heap.size + 2) wr v acc ∧ At w.heap.size 0 0 wr ∧ At (w.heap.size + 1) x y wr ∧ Below w.heap.size w wr ∧ Hid (R = LR.app acc (lexG false (x, y) t.data.toList))) (fun s0 _ _ => match s0 with | .string t => t.size | _ => 0)
  case atStart => exact ⟨s, 1, 1, [], _, rfl, rfl, by omega, by omega, by omega, by simp, Toks.nil _ _ _, hA0, hA1, hB0, hid (by rw [HR.out, LR.app_nil])⟩
  case round =>
   obtain ⟨t, x, y, acc, v, rfl, rfl, ht, hx, hy, ha, hT, hA0, hA1, hb, H⟩ := hrel
   obtain ⟨r, hr⟩ : ∃ r, r = bs (skipM false t.data.toList) := ⟨_, rfl⟩
   have hrl : r.data.toList = skipM false t.data.toList := by rw [hr]; rfl
   have hrs : r.size ≤ t.size := by rw [size_list, hrl, size_list]; exact skip_len _
   have cs := fun w hE => skip_any t (by omega) w hE
   rw [← hr] at cs
   obtain ⟨n, hn⟩ : ∃ n, t.size = r.size + n := ⟨t.size - r.size, by omega⟩
   have hsub : (t.size : Int) - (r.size : Int) = (n : Int) := by omega
   have hex : (t.extract 0 n).data.toList = t.data.toList.take (t.data.toList.length - (skipM false t.data.toList).length) := by
    rw [extract_bs, bs_list, List.drop_zero, ← hrl, ← size_list, ← size_list]
    congr 1
    omega
   have hexs : (t.extract 0 n).size = n := by rw [size_list, hex, List.length_take, ← hrl, ← size_list, ← size_list]; omega
   have hle1 := posL_le (t.extract 0 n).data.toList (x, y)
   rw [← size_list, hexs] at hle1
   have cb1 := fun w => behind_any (x, y) (t.extract 0 n) (by simp only; omega) (by simp only; omega) (by omega) w
   obtain ⟨⟨x1, y1⟩, hp1⟩ : ∃ p1, posL (x, y) (t.extract 0 n).data.toList = p1 := ⟨_, rfl⟩
   have hle2 := hle1
   rw [hp1] at cb1 hle2
   simp only at cb1 hle2
   have hle3 := fun (tt : List UInt8) => posL_le tt (x1, y1)
   have cf := fun w hE => first_any r (by omega) w hE
   have hgx := lexG_eq false (x, y) t.data.toList
   rw [← hex, hp1, ← hrl] at hgx
   have hok := fun h h2 => firstL_ok (l := r.data.toList) h h2
   have hend := fun h h3 => firstL_three (l := r.data.toList) h h3
   obtain ⟨q, hq⟩ : ∃ q, firstL r.data.toList = q := ⟨_, rfl⟩
   rw [hq] at cf hgx hok hend
   have hnil : r.data.toList = [] → q = (tkEnd, 0) := fun h => by rw [← hq, h]; rfl
   obtain ⟨⟨kk, tt, nn⟩, e⟩ := q
   simp only [tkP] at cf hgx hok hend hnil
   have CS := hid cs
   have CB := hid cb1
   have CF := hid cf
   have HG := hid hgx
   have HOK := hid hok
   have HEND := hid hend
   have HNIL := hid hnil
   have HT := hid hT
   have HA0 := hid hA0
   have HA1 := hid hA1
   have HB := hid hb
   have HL3 := hid hle3
   have HRL := hid hrl
   obtain ⟨l1, l2⟩ := hle2
   have i1 : (n : Int) ≤ t.size := by omega
   have HNN := hid hn
   clear hn
   clear cs cb1 cf hgx hok hend hnil hT hA0 hA1 hb hle3 hle1 hr hrl hex hexs hp1 hq HR hB0
   go_upto_region 6 with (go_at_call 72; refine (CS.out _ (HE.out.below HB.out)).mono ?_; rintro e' w1 ⟨rfl, hb1⟩)
   have A1 := hid (HA1.out.keep hb1)
   have A0 := hid (HA0.out.keep hb1)
   have T1 := hid (HT.out.below hb1 (Nat.le_refl _))
   have B1 := hid (chain HB.out (Nat.le_refl _) hb1)
   clear hb1
   go_cut [7] (fun s7 wx => s7 = .string r ∧ Toks 185 (w.heap.size + 2) wx v acc ∧ At w.heap.size 0 0 wx ∧ At (w.heap.size + 1) x1 y1 wx ∧ Below w.heap.size w wx)
   case first =>
    obtain ⟨c0, c1, f0, f1, z0⟩ := A1.out.cells
    have HW : IntKind.i64.wrap (n : Int) = (n : Int) := IntWalk.i64_in _ (by omega)
    go_region_with (go_at_call 73; go_must (refine (CB.out _).mono ?_; rintro e' w2 ⟨rfl, hb2⟩; have B2 := undrew hb2; obtain ⟨c2, c3, f2, f3, z2⟩ := (A1.out.keep B2).cells))
    go_wp2_with fail
    go_meet
    exact ⟨rfl, ((T1.out.below B2 (Nat.le_refl _)).low (by simp) _).low (by simp) _, ((A0.out.keep B2).far (by simp) _).far (by simp) _, (A1.out.keep B2).set _ _, Below.setCell (Below.setCell (chain B1.out (Nat.le_refl _) B2) (by simp) _) (by simp) _⟩
   case rest =>
    obtain ⟨rfl, hT2, hA02, hA12, hB2⟩ := hcut
    have T2 := hid hT2
    have A02 := hid hA02
    have A12 := hid hA12
    have B2 := hid hB2
    clear hT2 hA02 hA12 hB2 CS CB T1 A0 A1 B1 HT HA0 HA1 HB
    by_cases he : e = 0
    ·subst he
     have hez : (((0 : Nat) : Int) != 0) = false := by decide
     have cb2 := fun h w => behind_any (x1, y1) (bs tt) (by simp only; omega) (by simp only; omega) h w
     have h3 : ((kk : Int) == 3) = decide (kk = 3) := by rw [Bool.eq_iff_iff, beq_iff_eq, decide_eq_true_eq]; omega
     by_cases hk3 : kk = 3
     ·have HR : Hid (R = .ok (acc ++ [⟨⟨kk, tt, nn⟩, (x1, y1)⟩])) := hid (by rw [H.out, HG.out, if_neg (by decide), if_pos hk3]; rfl)
      rw [decide_eq_true hk3] at h3
      clear HOK HEND HNIL HG H HL3 cb2 hk3
      go_wp2_with (first | (go_at_call 74; refine (CF.out _ (HE.out.below B2.out)).mono ?_; rintro e' w3 ⟨rfl, hb3⟩; have A13 := hid (A12.out.keep hb3); have A03 := hid (A02.out.keep hb3); obtain ⟨c0, c1, f0, f1, z0⟩ := A13.out.cells; obtain ⟨c0a, c1a⟩ := A13.out.calloc; have B3 := hid (chain B2.out (Nat.le_refl _) hb3); have T3 := hid (T2.out.below hb3 (Nat.le_refl _))) | (at_builtin; go_must (refine append_tok rfl _ _ 97 rfl (w.heap.size + 2) 185 i0 _ 48 Tryz.underlying97 hi hz0 hz1 hz2 rfl v acc ⟨⟨kk, tt, nn⟩, (x1, y1)⟩ _ _ _ _ _ rfl rfl (T3.out.alloc _) (w3.heap.size + 1) (by simp) _ rfl (by unfold maxLen; omega) (by omega) (by simp; omega) ?_; intro v' w4 hT4 hb4 hk4; have hh4 := hid (tok_heap (fun g hg => (T3.out.lt g hg).2) hk4); have A04 := hid (A03.out.app (v := v) (fun g hg => Nat.lt_of_lt_of_le (by omega) (T3.out.lt g hg).1) hk4); have A14 := hid (A13.out.app (v := v) (fun g hg => Nat.lt_of_lt_of_le (by omega) (T3.out.lt g hg).1) hk4); have B4 := hid ((B3.out.alloc B3.out.size _).trans (hb4.mono (by omega))); have T4 := hid hT4; obtain ⟨q0, q1, q2⟩ := cell_of_heap hh4.out; obtain ⟨d0, d1, g0, g1, z1⟩ := A04.out.cells; clear c0 c1 f0 f1 z0 c0a c1a hk4 hT4 hb4; obtain ⟨c0, c1, f0, f1, z0⟩ := A14.out.cells)))
      refine bodyPost_ret (v := .tuple #[v', .agg #[.int .i64 0, .int .i64 0], .int .i64 0]) (by simp [results, Tryz.results33, go_sem, d0, d1]) rfl ⟨v', by rw [HR.out]; rfl, ?_, Below.setCell (Below.setCell B4.out (Nat.le_refl _) _) (Nat.le_refl _) _⟩
      rw [HR.out]
      exact ((T4.out.low (by simp) _).low (by simp) _).base (by omega)
     ·have hrn : r.data.toList ≠ [] := fun h => hk3 (by have := HNIL.out h; simp only [tkEnd, Prod.mk.injEq, Tk.mk.injEq] at this; exact this.1.1)
      obtain ⟨o1, o2, o3⟩ := HOK.out rfl hrn
      have hpl := o3.length_le
      have htl : tt.length ≠ 0 := by simpa using o2
      rw [← size_list] at hpl
      have hle4 := HL3.out tt
      obtain ⟨⟨x2, y2⟩, hp2⟩ : ∃ p2, posL (x1, y1) tt = p2 := ⟨_, rfl⟩
      have HS : Hid (R = LR.app (acc ++ [⟨⟨kk, tt, nn⟩, (x1, y1)⟩]) (lexG false (x2, y2) (r.data.toList.drop tt.length))) := hid (by
       rw [H.out, HG.out, if_neg (by decide), if_neg hk3, LR.app_cons, hp2])
      have hb2s : (bs tt).size = tt.length := rfl
      have cb3 := cb2
      rw [hb2s] at cb3
      rw [bs_list, hp2] at cb3
      rw [hp2] at hle4
      simp only at cb3 hle4
      obtain ⟨l3, l4⟩ := hle4
      have hrl : (r.extract tt.length r.size).data.toList = r.data.toList.drop tt.length := by rw [extract_bs, bs_list, List.take_of_length_le (by simp)]
      have hrz : (r.extract tt.length r.size).size = r.size - tt.length := by rw [size_list, hrl, List.length_drop, ← size_list]
      have HRL2 := hid hrl
      have HRZ := hid hrz
      have HN2 := HNN.out
      generalize hm : tt.length = m at HS hb2s cb3 l3 l4 HRL2 HRZ hpl htl
      have CB := hid (cb3 (by omega))
      rw [decide_eq_false hk3] at h3
      have i4 : (m : Int) ≤ r.size := by omega
      have HM := hid hm
      have HNN := hid HN2
      clear HOK HEND HNIL HG H HL3 cb2 cb3 hk3 hrn o1 o2 o3 hp2 hrl hrz hm HN2
      go_wp2_with (first | (go_at_call 74; refine (CF.out _ (HE.out.below B2.out)).mono ?_; rintro e' w3 ⟨rfl, hb3⟩; have A13 := hid (A12.out.keep hb3); have A03 := hid (A02.out.keep hb3); obtain ⟨c0, c1, f0, f1, z0⟩ := A13.out.cells; obtain ⟨c0a, c1a⟩ := A13.out.calloc; have B3 := hid (chain B2.out (Nat.le_refl _) hb3); have T3 := hid (T2.out.below hb3 (Nat.le_refl _))) | (at_builtin; go_must (refine append_tok rfl _ _ 97 rfl (w.heap.size + 2) 185 i0 _ 48 Tryz.underlying97 hi hz0 hz1 hz2 rfl v acc ⟨⟨kk, tt, nn⟩, (x1, y1)⟩ _ _ _ _ _ rfl rfl (T3.out.alloc _) (w3.heap.size + 1) (by simp) _ rfl (by unfold maxLen; omega) (by omega) (by simp; omega) ?_; intro v' w4 hT4 hb4 hk4; have hh4 := hid (tok_heap (fun g hg => (T3.out.lt g hg).2) hk4); have A04 := hid (A03.out.app (v := v) (fun g hg => Nat.lt_of_lt_of_le (by omega) (T3.out.lt g hg).1) hk4); have A14 := hid (A13.out.app (v := v) (fun g hg => Nat.lt_of_lt_of_le (by omega) (T3.out.lt g hg).1) hk4); have B4 := hid ((B3.out.alloc B3.out.size _).trans (hb4.mono (by omega))); have T4 := hid hT4; obtain ⟨q0, q1, q2⟩ := cell_of_heap hh4.out; obtain ⟨d0, d1, g0, g1, z1⟩ := A04.out.cells; clear c0 c1 f0 f1 z0 c0a c1a hk4 hT4 hb4; obtain ⟨c0, c1, f0, f1, z0⟩ := A14.out.cells)) | (go_at_call 73; go_must (refine (CB.out _).mono ?_; rintro e' w5 ⟨rfl, hb5⟩; have A05 := hid (A04.out.keep hb5); have A15 := hid (A14.out.keep hb5); have T5 := hid (T4.out.below hb5 (Nat.le_refl _)); have B5 := hid (chain B4.out (Nat.le_refl _) hb5); have hh5 := hid ((hb5.block w3.heap.size q2).trans hh4.out); clear c0 c1 f0 f1 z0 d0 d1 g0 g1 z1 q0 q1 q2 hb5; obtain ⟨c0, c1, f0, f1, z0⟩ := A15.out.cells; obtain ⟨q0, q1, q2⟩ := cell_of_heap hh5.out; have q3 := far_cell (A13.out.lt) q1)))
      have z9 := HRZ.out
      have z8 := HNN.out
      refine ⟨⟨r.extract m r.size, x2, y2, _, v', rfl, rfl, by omega, by omega, by omega, by rw [List.length_append, List.length_singleton]; omega, (T5.out.low (by simp) _).low (by simp) _, (A05.out.far (by simp) _).far (by simp) _, A15.out.set _ _, Below.setCell (Below.setCell B5.out (by simp) _) (by simp) _, hid (by rw [HRL2.out]; exact HS.out)⟩, ?_⟩
      show (r.extract m r.size).size < t.size
      omega
    ·have HR : Hid (R = .bad (x1, y1) e) := hid (by rw [H.out, HG.out, if_pos he]; rfl)
     have hez : ((e : Int) != 0) = true := by simp; omega
     clear HOK HEND HNIL HG H HL3
     go_wp2_with (go_at_call 74; refine (CF.out _ (HE.out.below B2.out)).mono ?_; rintro e' w3 ⟨rfl, hb3⟩)
     have A13 := A12.out.keep hb3
     have A03 := A02.out.keep hb3
     obtain ⟨c0, c1, f0, f1, z0⟩ := A13.cells
     obtain ⟨d0, d1, g0, g1, z1⟩ := A03.cells
     obtain ⟨c0a, c1a⟩ := A13.calloc
     obtain ⟨d0a, d1a⟩ := A03.calloc
     have a6 := fun T u => (res2_alloc d0 d1 z1 T u).2
     have A7 := hid (fun T u0 u1 => res2_set d0 d1 z1 T u0 u1)
     have B3 := hid (chain B2.out (Nat.le_refl _) hb3)
     clear A13 A03 hb3
     go_region
     all_goals go_wp2_with fail
     all_goals
      obtain ⟨b0, b1⟩ := A7.out (.cells #[.int .i64 kk, .string (bs tt), .int .u64 nn, .int .i64 0, .int .i64 0] 185) (.int .i64 x1) (.int .i64 y1)
      refine bodyPost_ret (v := .tuple #[.slice none 0 0, .agg #[.int .i64 x1, .int .i64 y1], .int .i64 e]) (by simp [results, Tryz.results33, go_sem, b0, b1]) rfl ⟨.slice none 0 0, by rw [HR.out]; rfl, by rw [HR.out]; exact Toks.nil _ _ _, ?_⟩
      have q : Below w.heap.size w ((w3.setCell ⟨w.heap.size, 0, none⟩ (.int .i64 x1)).setCell ⟨w.heap.size, 1, none⟩ (.int .i64 y1)) := Below.setCell (Below.setCell B3.out (Nat.le_refl _) _) (Nat.le_refl _) _
      exact (q.alloc q.size _).drew
end Go.Proofs.YtomimkgaelkaoaaGreatDoor
namespace Go.Proofs.YtomimkgaelkaoaaGreatDoor
open Go.Lib (hid)
open Go.ChangeShapes Go.WideShapes Go.ChangeAt Go.RowKit
def Texts (E : TypeId) (B : Nat) (w : World) (v : Value) (l : List ByteArray) : Prop := w.ownsRow B E 1 v l.length (l.map Value.string)
section
variable {E : TypeId} {B : Nat} {w w' : World} {v : Value} {l : List ByteArray}
end
end Go.Proofs.YtomimkgaelkaoaaGreatDoor
namespace Go.Proofs.YtomimkgaelkaoaaGreatDoor
open Go.Lib (hid)
open Go.ChangeShapes Go.WideShapes Go.ChangeAt Go.RowKit
end Go.Proofs.YtomimkgaelkaoaaGreatDoor
namespace Go.Proofs.YtomimkgaelkaoaaGreatDoor
open Go.Lib (hid)
theorem isW_bare {c : UInt8} (h : isW c = true) : isB c = false ∧ c ≠ 47 := by
 constructor
 ·apply Classical.byContradiction
  intro hb
  have hm : c ∈ ([32, 9, 10, 13] : List UInt8) := List.contains_iff_mem.1 (by simpa only [isB, Bool.not_eq_false] using hb)
  simp only [List.mem_cons, List.mem_nil_iff, or_false] at hm
  rcases hm with rfl | rfl | rfl | rfl <;> exact absurd h (by decide)
 ·rintro rfl
  exact absurd h (by decide)
end Go.Proofs.YtomimkgaelkaoaaGreatDoor
namespace Go.Proofs.YtomimkgaelkaoaaGreatDoor
open Go.Lib (hid)
end Go.Proofs.YtomimkgaelkaoaaGreatDoor
namespace Go.Proofs.YtomimkgaelkaoaaGreatDoor
open Go.Lib (hid)
def GoodV (V : Tk) : Prop := V.k ≠ 3 ∧ ∀ rest, (rest = [] ∨ ∃ r, rest = 32 :: r) → firstL (V.t ++ rest) = (V, 0) ∧ Bare (V.t ++ rest)
theorem run_rest {R rest : List UInt8} (hR : ∀ x ∈ R, isW x = true) (h : rest = [] ∨ ∃ r, rest = 32 :: r) : runL (R ++ rest) = R := by
 unfold runL
 rw [List.takeWhile_append_of_pos hR]
 rcases h with rfl | ⟨r, rfl⟩
 ·simp
 ·rw [List.takeWhile_cons, if_neg (by decide), List.append_nil]
theorem wnL_t {r : List UInt8} (h : (wnL r).2 = 0) : (wnL r).1.t = r := (wnL_cases r h).1
theorem good_run {R : List UInt8} (h1 : R ≠ []) (h2 : ∀ x ∈ R, isW x = true) (h3 : (wnL R).2 = 0) : GoodV (wnL R).1 := by
 refine ⟨(wnL_cases R h3).2, fun rest hr => ?_⟩
 rw [wnL_t h3]
 constructor
 ·have hne : R ++ rest ≠ [] := by simp [h1]
  unfold firstL
  rw [if_neg hne, run_rest h2 hr, if_pos h1]
  exact Prod.ext rfl h3
 ·cases R with
  | nil => exact absurd rfl h1
  | cons c r =>
   have := isW_bare (h2 c List.mem_cons_self)
   exact bare_cons this.1 fun e => this.2 e.1
theorem sign_rest (g : List UInt8) (hg : g ∈ sgs) (rest : List UInt8) (h : rest = [] ∨ ∃ r, rest = 32 :: r) : signL (g ++ rest) = g ∧ runL (g ++ rest) = [] ∧ Bare (g ++ rest) := by
 simp only [sgs, List.mem_cons, List.mem_nil_iff, or_false] at hg
 rcases h with rfl | ⟨r, rfl⟩
 ·rcases hg with rfl | rfl | rfl | rfl | rfl | rfl | rfl | rfl | rfl | rfl | rfl | rfl | rfl | rfl | rfl | rfl | rfl | rfl | rfl | rfl | rfl | rfl | rfl | rfl | rfl | rfl | rfl | rfl | rfl <;> exact ⟨rfl, rfl, rfl⟩
 ·rcases hg with rfl | rfl | rfl | rfl | rfl | rfl | rfl | rfl | rfl | rfl | rfl | rfl | rfl | rfl | rfl | rfl | rfl | rfl | rfl | rfl | rfl | rfl | rfl | rfl | rfl | rfl | rfl | rfl | rfl <;> exact ⟨rfl, rfl, rfl⟩
theorem good_sign {g : List UInt8} (hg : g ∈ sgs) (h1 : g ≠ []) : GoodV ⟨2, g, 0⟩ := by
 refine ⟨(by decide : (2 : Nat) ≠ 3), fun rest hr => ?_⟩
 obtain ⟨e1, e2, e3⟩ := sign_rest g hg rest hr
 refine ⟨?_, e3⟩
 unfold firstL
 rw [if_neg (by simp [h1]), e2, if_neg (fun e => e rfl), e1, if_neg h1]
theorem good_first {l : List UInt8} (hl : l ≠ []) (h : (firstL l).2 = 0) : GoodV (firstL l).1 := by
 unfold firstL at h ⊢
 rw [if_neg hl] at h ⊢
 by_cases hr : runL l ≠ []
 ·rw [if_pos hr] at h ⊢
  exact good_run hr (fun x hx => by have := List.all_takeWhile (p := isW) (l := l); exact List.all_eq_true.1 this x hx) h
 ·rw [if_neg hr] at h ⊢
  by_cases hs : signL l = []
  ·rw [if_pos hs] at h; simp at h
  ·rw [if_neg hs]
   rcases signF_mem sgs l with e | ⟨e, _⟩
   ·exact absurd e hs
   ·exact good_sign e hs
theorem lexG_good : ∀ (n : Nat) (b : Bool) (p : Ps) (l : List UInt8) (ts : List Tok), l.length ≤ n → lexG b p l = .ok ts → ∃ Vs, ts.map (·.tk) = Vs ++ [tkEnd] ∧ ∀ V ∈ Vs, GoodV V := by
 intro n
 induction n with
 | zero =>
  intro b p l ts hl h
  obtain rfl : l = [] := List.eq_nil_of_length_eq_zero (by omega)
  rw [lexG_nil] at h
  cases h
  exact ⟨[], rfl, by simp⟩
 | succ n ih =>
  intro b p l ts hl h
  rw [lexG_eq] at h
  by_cases he : (firstL (skipM b l)).2 ≠ 0
  ·rw [if_pos he] at h; cases h
  ·rw [if_neg he] at h
   have he0 : (firstL (skipM b l)).2 = 0 := by simpa using he
   by_cases h3 : (firstL (skipM b l)).1.k = 3
   ·rw [if_pos h3] at h
    have := firstL_three he0 h3
    rw [this] at h
    cases h
    exact ⟨[], rfl, by simp⟩
   ·rw [if_neg h3] at h
    have hne : skipM b l ≠ [] := fun e => h3 (by rw [e]; rfl)
    have hd := drop_lt he0 hne
    have hs := skipM_len b l
    obtain ⟨u, hu, rfl⟩ := LR.cons_ok h
    obtain ⟨Vs, i1, i2⟩ := ih _ _ _ u (by omega) hu
    refine ⟨(firstL (skipM b l)).1 :: Vs, by rw [List.map_cons, i1]; rfl, ?_⟩
    intro V hV
    rcases List.mem_cons.1 hV with rfl | hV
    ·exact good_first hne he0
    ·exact i2 V hV
end Go.Proofs.YtomimkgaelkaoaaGreatDoor
namespace Go.Proofs.YtomimkgaelkaoaaGreatDoor
open Go.Lib (hid)
theorem kw_head : ∀ t ∈ kwL, isW (t.headD 0) = true ∧ isD (t.headD 0) = false := by decide
theorem int_head : ∀ x ∈ intsL, isW (x.1.headD 0) = true ∧ isD (x.1.headD 0) = false := by decide
theorem op_head : ∀ x ∈ opsL, isW (x.1.headD 0) = false := by decide
theorem kw_none {t : List UInt8} (h : isW (t.headD 0) = false ∨ isD (t.headD 0) = true) : isKw t = false := by
 have h1 : kwL.contains t = false := by
  rw [← Bool.not_eq_true, List.contains_iff_mem]
  intro hm
  obtain ⟨a, b⟩ := kw_head t hm
  rcases h with h | h
  ·rw [a] at h; cases h
  ·rw [b] at h; cases h
 have h2 : intW t = none := by
  unfold intW
  rw [Option.map_eq_none_iff, List.find?_eq_none]
  intro x hx e
  obtain ⟨a, b⟩ := int_head x hx
  rw [eq_of_beq e] at a b
  rcases h with h | h
  ·rw [a] at h; cases h
  ·rw [b] at h; cases h
 unfold isKw
 rw [h1, h2]; rfl
theorem tok_ok {V : Tk} {p : Ps} (h : GoodV V) : TokOK ⟨V, p⟩ := by
 obtain ⟨h3, hf⟩ := h
 have h1 := (hf [] (.inl rfl)).1
 rw [List.append_nil] at h1
 have hne : V.t ≠ [] := by
  intro e
  rw [e, firstL_nil] at h1
  simp only [Prod.mk.injEq, and_true] at h1
  rw [← h1] at h3
  exact h3 rfl
 unfold firstL at h1
 rw [if_neg hne] at h1
 split at h1
 ·rename_i hr
  have ht : (wnL (runL V.t)).1.t = runL V.t := (wnL_cases _ (by rw [h1])).1
  rw [h1] at ht
  have hW : isW (V.t.headD 0) = true := by
   have : ∀ l : List UInt8, runL l ≠ [] → isW (l.headD 0) = true := by
    intro l hl
    cases l with
    | nil => exact absurd rfl hl
    | cons c r =>
     unfold runL at hl
     rw [List.takeWhile_cons] at hl
     split at hl
     ·assumption
     ·exact absurd rfl hl
   exact this _ hr
  rw [← ht] at h1
  unfold wnL at h1
  split at h1
  ·rename_i hD
   split at h1
   ·simp only [Prod.mk.injEq, and_true] at h1
    have hk : V.k = 1 := by rw [← h1]
    exact ⟨by show V.k ≤ 2; omega, hne, fun _ => kw_none (.inr hD), fun _ => level_none fun x hx e => (by have := op_head x hx; rw [← (e : V.t = x.1), hW] at this; cases this), fun e => by have e : V.k = 0 := e; omega⟩
   ·simp only [Prod.mk.injEq] at h1
    rename_i hn
    exact absurd h1.2 hn
  ·split at h1
   ·simp only [Prod.mk.injEq] at h1
    omega
   ·simp only [Prod.mk.injEq, and_true] at h1
    have hk : V.k = 0 := by rw [← h1]
    exact ⟨by show V.k ≤ 2; omega, hne, fun e => absurd hk e, fun _ => level_none fun x hx e => (by have := op_head x hx; rw [← (e : V.t = x.1), hW] at this; cases this), fun _ e => by rw [(e : V.t = [125])] at hW; exact absurd hW (by decide)⟩
 ·rename_i hr
  have hW : isW (V.t.headD 0) = false := by
   have : ∀ l : List UInt8, l ≠ [] → ¬ runL l ≠ [] → isW (l.headD 0) = false := by
    intro l hl hr
    cases l with
    | nil => exact absurd rfl hl
    | cons c r =>
     unfold runL at hr
     rw [List.takeWhile_cons] at hr
     split at hr
     ·simp at hr
     ·rename_i hh; simpa using hh
   exact this _ hne hr
  split at h1
  ·simp only [Prod.mk.injEq] at h1; omega
  ·simp only [Prod.mk.injEq, and_true] at h1
   have hk : V.k = 2 := by rw [← h1]
   exact ⟨by show V.k ≤ 2; omega, hne, fun _ => kw_none (.inl hW), fun e => absurd hk e, fun e => by have e : V.k = 0 := e; omega⟩
theorem lexG_wf {b : Bool} {p : Ps} {s : List UInt8} {ts : List Tok} (h : lexG b p s = .ok ts) : WF ts := by
 obtain ⟨Vs, h1, h2⟩ := lexG_good s.length b p s ts (Nat.le_refl _) h
 obtain ⟨i, r, rfl, hi, hr⟩ := List.map_eq_append_iff.1 h1
 obtain ⟨e, r', rfl, he, hr'⟩ := List.map_eq_cons_iff.1 hr
 rw [List.map_eq_nil_iff] at hr'
 subst hr'
 refine ⟨i, e, rfl, he, fun t ht => ?_⟩
 have : t.tk ∈ Vs := by rw [← hi]; exact List.mem_map_of_mem ht
 exact tok_ok (V := t.tk) (p := t.p) (h2 _ this)
theorem lexL_wf {s : List UInt8} {ts : List Tok} (h : lexL s = .ok ts) : WF ts := by
 unfold lexL at h
 split at h
 ·cases h
 ·exact lexG_wf h
end Go.Proofs.YtomimkgaelkaoaaGreatDoor
