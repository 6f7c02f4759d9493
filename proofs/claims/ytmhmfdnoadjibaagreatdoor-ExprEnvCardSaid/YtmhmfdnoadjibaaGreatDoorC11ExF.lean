/- Layer 10: Eval. · Layer 10: an environment with one entry more (With), by slices.Concat. -/
import Derived.Test.YtmhmfdnoadjibaaGreatDoorC11ExD
import Derived.Lib.AppendZerosOnto
import Derived.Lib.Walk
import Derived.Lib.SliceRun
import Derived.Deep.Upon
import Derived.Lib.SlFresh
set_option linter.unusedVariables false
set_option linter.unusedSimpArgs false
namespace Go.Proofs.YtmhmfdnoadjibaaGreatDoor
open Go.Lib (hid)
open Go.ChangeShapes Go.WideShapes Go.ChangeAt Go.RowKit
theorem getE_mem {e : EnvL} {s : List UInt8} {n : Int} (h : getE e s = some n) : ∃ v ∈ e, v.2 = n := by
 unfold getE at h
 obtain ⟨v, h1, h2⟩ := Option.map_eq_some_iff.1 h
 exact ⟨v, by have := List.mem_of_find?_eq_some h1; simpa using this, h2⟩
theorem evX_w {x : XE} {e : EnvL} {v : Int → Int × Int} (hx : W64 x.n) (he : ∀ u ∈ e, W64 u.2) (hv : ∀ k, W64 (v k).1) : W64 (evX x e v).1 := by
 unfold evX
 split
 ·exact hx
 split
 ·split
  ·exact ⟨by decide, by decide⟩
  ·rename_i n hn
   obtain ⟨u, h1, rfl⟩ := getE_mem hn
   exact he u h1
 split
 ·exact hv _
 split
 ·exact (truth_ok _).1
 split
 ·exact hv _
 ·exact (op_ok _ (hv _) (hv _)).1
theorem vat_w {V : List (Int × Int)} (h : ∀ p ∈ V, W64 p.1) (k : Int) : W64 (vat V k).1 := by
 unfold vat
 split
 ·rw [List.getD_eq_getElem?_getD]
  cases hk : V[k.toNat]? with
  | none => exact ⟨by decide, by decide⟩
  | some p => exact h p (List.mem_of_getElem? hk)
 ·exact ⟨by decide, by decide⟩
theorem allX_w {e : EnvL} (he : ∀ u ∈ e, W64 u.2) {xs : List XE} (hx : ∀ x ∈ xs, W64 x.n) : ∀ p ∈ allX xs e, W64 p.1 := by
 induction xs using rev_ind with
 | h0 => intro p hp; exact absurd hp (by simp [allX])
 | hs xs x ih =>
  have ih := ih fun y hy => hx y (by simp [hy])
  intro p hp
  rw [allX_snoc] at hp
  rcases List.mem_append.1 hp with hp | hp
  ·exact ih p hp
  ·simp at hp
   subst hp
   unfold oneX
   split
   ·exact ⟨by decide, by decide⟩
   ·split
    ·exact evX_w (hx x (by simp)) he (vat_w ih)
    ·exact ⟨by decide, by decide⟩
theorem EnvAt.mono {n m : Nat} {w : World} {v : Value} {e : EnvL} (h : EnvAt n w v e) (hm : n ≤ m) : EnvAt m w v e := by
 obtain ⟨a, c, h1, h2, h3⟩ := h
 exact ⟨a, c, h1, h2, fun i x hx => by obtain ⟨k, k1, k2, k3⟩ := h3 i x hx; exact ⟨k, k1, by omega, k3⟩⟩
theorem ValM.eq {w : World} {b n : Nat} {S T : Int → Int × Int} (h : ValM w b n S) (e : ∀ k, S k = T k) : ValM w b n T := by rw [← funext e]; exact h
def EvalPost (xs : List XE) (t : Int) (en : EnvL) (q : Ending) : Prop := q = .returned (.tuple #[.int .u64 (evalL xs t en).1, .int .i64 (evalL xs t en).2])
def upG (V : List (Int × Int)) (l : List Int) (j : Nat) (k : Int) : Int × Int := if k ∈ l.take j then vat V k else (0, 0)
set_option maxHeartbeats 4000000 in
set_option maxRecDepth 100000 in
theorem Eval_any (g o : Nat) (xs : List XE) (t : Int) (sv : Value) (e : EnvL) (w : World) (hF : FileX w g o xs) (ht : -9223372036854775808 ≤ t ∧ t ≤ 9223372036854775807) (hE : EnvAt w.heap.size w sv e) (hx : ∀ x ∈ xs, W64 x.n) (he : ∀ u ∈ e, W64 u.2) :
  Calls Tryz.prog 25 #[.pointer (some ⟨g, o, none⟩), .int .i64 t, sv] w fun q w' => EvalPost xs t e q ∧ Below w.heap.size w w' := by
 have hlen : xs.length < 1000000000000 := by obtain ⟨v, h1, h2, a, c, h3, h4, h5⟩ := hF; exact h4
 obtain ⟨fa, fc, cf, hX⟩ := hF.look
 have hg : g < w.heap.size := by obtain ⟨v, h1, _⟩ := hF; exact h1
 have hmm := @run_makeMap Tryz.prog
 have CP := hid (parts_any g o xs t w hF ht)
 have HX := hid hX
 have HE := hid hE
 have HW := hid (vat_w (allX_w he hx))
 have hv : ∃ a l c, sv = .slice a l c := by obtain ⟨a, c, rfl, _⟩ := hE; exact ⟨_, _, _, rfl⟩
 obtain ⟨sa, sl, sc, rfl⟩ := hv
 have PO : Hid (∀ q, q = (.returned (.tuple #[.int .u64 (evalL xs t e).1, .int .i64 (evalL xs t e).2]) : Ending) → EvalPost xs t e q) := hid fun q h => h
 generalize hPP : EvalPost xs t e = PP at PO ⊢
 clear hPP hX hF hE
 go_enter Tryz.func25, Tryz.ntmps25
 go_wp2_with (go_at_call 67; refine CP.out.mono ?_; rintro q w1 ⟨⟨l, v, rfl, hP, a, c, rfl, hl, hK⟩ | ⟨rfl, hno⟩, hb⟩; rotate_left; (have HNO := hid hno; have HB := hid hb; clear hno hb); rotate_left; (have HP := hid hP; have HK := hid (show KidR w1 (.slice a l.length c) l from ⟨a, c, rfl, hl, hK⟩); have HB := hid hb; clear hP hK hb))
 ·have M1 := hid (ValM.made w1)
  have B1 := hid ((Below.refl w1.heap.size w1).alloc (Nat.le_refl _) (.map #[] 0))
  generalize w1.alloc (.map #[] 0) = W1 at M1 B1 ⊢
  go_loopw [26] (fun s26 wr => ∃ (j : Nat), s26 = .int .i64 j ∧ j ≤ l.length ∧ ValM wr w1.heap.size j (upG (allX xs e) l j) ∧ Below w1.heap.size w1 wr) (fun s26 _ => l.length - (intOf s26).toNat)
  case atStart => exact ⟨0, rfl, Nat.zero_le _, by
   obtain ⟨D, h1, h2⟩ := M1.out
   exact ⟨D, h1, fun k => by rw [h2]; simp [upG]⟩, B1.out⟩
  case round =>
   clear M1 B1
   obtain ⟨j, rfl, hj, hM, hB⟩ := hrel
   have hBw := HB.out.trans (hB.mono HB.out.size)
   by_cases hjl : j < l.length
   ·obtain ⟨y, hy⟩ : ∃ y, l[j]? = some y := ⟨_, List.getElem?_eq_getElem hjl⟩
    obtain ⟨hy0, hyt, x, ks, hx', ho, hkk⟩ := HP.out.all j y hy
    obtain ⟨m, rfl⟩ : ∃ m : Nat, y = (m : Int) := ⟨y.toNat, by omega⟩
    rw [show ((m : Int)).toNat = m from rfl] at hx'
    obtain ⟨fk, fv, rfl, fkl, x0, x1, x2, x3, x4, xk⟩ := HX.out.at hx'
    replace x0 := (hBw.cell (p := ⟨fk, _, none⟩) fkl).trans x0
    replace x1 := (hBw.cell (p := ⟨fk, _, none⟩) fkl).trans x1
    replace x2 := (hBw.cell (p := ⟨fk, _, none⟩) fkl).trans x2
    replace x3 := (hBw.cell (p := ⟨fk, _, none⟩) fkl).trans x3
    replace x4 := (hBw.cell (p := ⟨fk, _, none⟩) fkl).trans x4
    have cf' := (hBw.cell (p := ⟨g, o + 2, none⟩) hg).trans cf
    obtain ⟨p, rfl, ck, r1, r2⟩ := kid_at HK.out hy
    have ck2 := (hB.cell (World.block_lt_of_cell? w1 _ ck)).trans ck
    have hG : ∀ k, W64 (upG (allX xs e) l j k).1 := fun k => by
     unfold upG
     split
     ·exact HW.out k
     ·exact ⟨by decide, by decide⟩
    have hval : evX x e (upG (allX xs e) l j) = vat (allX xs e) m := by
     rw [val_eq e hx' (HP.out.ok e _ (List.mem_of_getElem? hy))]
     exact evX_congr ho fun k hk => by unfold upG; rw [if_pos (hkk k hk).2.2]
    have CE := hid (evaluate_any x fv e (.slice sa sl sc) w1.heap.size j (upG (allX xs e) l j) wr (xk.below (hBw.mono (Nat.le_refl _))) ((HE.out.below hBw).mono hBw.size) hM (by rw [ho]; rfl) fun k _ => hG k)
    have CE2 : Hid (Calls Tryz.prog 68 #[.agg #[.int .i64 x.k, .string (bs x.op), .int .u64 x.n, .string (bs x.s), fv], .slice sa sl sc, .map (some w1.heap.size)] wr fun q w' => q = .returned (.agg #[.int .u64 (vat (allX xs e) m).1, .int .i64 (vat (allX xs e) m).2]) ∧ Below wr.heap.size wr w') := hid (by
     have := CE.out
     unfold EvPost at this
     rw [hval] at this
     exact this)
    have hmx : (m : Int) < (xs.length : Int) := by have := (List.getElem?_eq_some_iff.1 hx').1; omega
    have hjl' : (j : Int) < (l.length : Int) := by omega
    have HY := hid hy
    have HM := hid hM
    have HBB := hid hB
    clear hy hM hB hBw hval CE hG hkk ho xk
    generalize hvv : vat (allX xs e) m = vv at CE2
    go_wp2_with (go_at_call 68; refine CE2.out.mono ?_; rintro q w3 ⟨rfl, hb3⟩; obtain ⟨w4, hrun, hS4, hg4⟩ := (HM.out.below hb3 HM.out.lt).put (by unfold maxLen; omega) ⟨r1, r2⟩ vv; have HB4 := hid ((HBB.out.trans (hb3.mono HBB.out.size)).grown hg4 (Nat.le_trans HBB.out.size hb3.size) (fun z hz => by cases hz; exact Nat.le_refl _)); have HS4 := hid hS4; clear hb3 hS4 hg4)
    refine ⟨⟨j + 1, by go_num, by omega, HS4.out.eq fun k => ?_, HB4.out⟩, by simp [intOf]; omega⟩
    unfold upG
    rw [List.take_add_one, HY.out]
    by_cases hkm : k = (m : Int)
    ·subst hkm
     simp [hvv]
    ·simp [hkm]
   ·obtain rfl : j = l.length := by omega
    have hv1 : upG (allX xs e) l l.length t = evalL xs t e := by unfold upG; rw [List.take_length, if_pos HP.out.mem]; rfl
    have LE : ∀ n, (Instr.lookup 167 (.map (some w1.heap.size)) (.int .i64 t) false).run Tryz.prog (wr.drewN n) = .ok (.agg #[.int .u64 (evalL xs t e).1, .int .i64 (evalL xs t e).2]) (wr.drewN n) := fun n => by
     have := (show ValM (wr.drewN n) _ _ _ from hM).look ht
     rw [hv1] at this
     exact this
    have ro0 := run_out0
    have ro1 := run_out1
    have hjl' : ¬ ((l.length : Int) < (l.length : Int)) := by omega
    have HBW := hid hBw
    clear hM hB hBw hv1
    generalize evalL xs t e = ev at LE PO
    go_wp2_with fail
    go_quiet (fail)
    go_wp2_with fail
    go_ret2
    exact ⟨PO.out _ rfl, bdrewN HBW.out _⟩
 ·go_ret2
  exact ⟨PO.out _ (by rw [HNO.out e]; rfl), HB.out⟩
end Go.Proofs.YtmhmfdnoadjibaaGreatDoor
namespace Go.Proofs.YtmhmfdnoadjibaaGreatDoor
open Go.Lib (hid)
open Go.ChangeShapes Go.WideShapes Go.ChangeAt Go.RowKit
theorem ex_info_var : (Tryz.prog.info? 85).map (fun i => (i.zero, i.size, i.bytes)) = some (some (.agg #[.string ⟨#[]⟩, .int .u64 0]), 2, 24) := by kernel_rfl
def vaC (x : List UInt8 × Int) : List Value := [.string ⟨x.1.toArray⟩, .int .u64 x.2]
theorem flat_len (e : EnvL) : (e.flatMap vaC).length = e.length * 2 := by
 induction e with
 | nil => rfl
 | cons x e ih => rw [List.flatMap_cons, List.length_append, ih]; simp [vaC]; omega
theorem flat_get (e : EnvL) {i : Nat} {x : List UInt8 × Int} (h : e[i]? = some x) : (e.flatMap vaC)[i * 2]? = some (.string ⟨x.1.toArray⟩) ∧ (e.flatMap vaC)[i * 2 + 1]? = some (.int .u64 x.2) := by
 induction e generalizing i with
 | nil => simp at h
 | cons y e ih =>
  rw [List.flatMap_cons]
  cases i with
  | zero => simp at h; subst h; simp [vaC]
  | succ i =>
   have := ih (i := i) (by simpa using h)
   rw [show (i + 1) * 2 = 2 + i * 2 from by omega, show 2 + i * 2 + 1 = 2 + (i * 2 + 1) from by omega, List.getElem?_append_right (by simp [vaC]), List.getElem?_append_right (by simp [vaC])]
   simpa [vaC] using this
def EnvO (B : Nat) (w : World) (v : Value) (e : EnvL) : Prop := w.ownsRow B 85 2 v e.length (e.flatMap vaC)
theorem EnvO.at {B : Nat} {w : World} {v : Value} {e : EnvL} (h : EnvO B w v e) (hl : e.length < 4611686018427387904) : EnvAt w.heap.size w v e := by
 have h' := h
 rcases id h.2 with ⟨rfl, h0⟩ | ⟨g, cap, cur, rfl, _⟩
 ·obtain rfl : e = [] := List.eq_nil_of_length_eq_zero h0
  exact ⟨none, 0, rfl, by simp, fun i x hx => by simp at hx⟩
 ·refine ⟨_, _, rfl, hl, fun i x hx => ⟨g, rfl, (World.ownsRow.lt h' g rfl).2, ?_, ?_⟩⟩
  ·have hi := (List.getElem?_eq_some_iff.1 hx).1
   rw [World.ownsRow.cellAt h' _ (by omega)]; exact (flat_get e hx).1
  ·have hi := (List.getElem?_eq_some_iff.1 hx).1
   rw [World.ownsRow.cellAt h' _ (by omega)]; exact (flat_get e hx).2
theorem EnvAt.cells {n : Nat} {w : World} {k : Nat} {l c : Nat} {e : EnvL} (h : EnvAt n w (.slice (some ⟨k, 0, none⟩) l c) e) : ∀ j u, (e.flatMap vaC)[j]? = some u → w.cell? ((⟨k, 0, none⟩ : Addr).add j) = some u := by
 intro j u hu
 obtain ⟨a, c', h1, h2, h3⟩ := h
 simp only [Value.slice.injEq] at h1
 have hj := (List.getElem?_eq_some_iff.1 hu).1
 rw [flat_len] at hj
 obtain ⟨x, hx⟩ : ∃ x, e[j / 2]? = some x := ⟨_, List.getElem?_eq_getElem (by omega)⟩
 obtain ⟨k', q1, q2, q3, q4⟩ := h3 _ x hx
 rw [← h1.1] at q1
 simp only [Option.some.injEq, Addr.mk.injEq, and_true] at q1
 subst q1
 have hf := flat_get e hx
 rw [show (⟨k, 0, none⟩ : Addr).add j = ⟨k, j, none⟩ from by unfold Addr.add; split <;> simp_all]
 rcases Nat.mod_two_eq_zero_or_one j with hm | hm
 ·rw [show j / 2 * 2 = j from by omega] at q3 hf
  rw [q3, ← hf.1, hu]
 ·rw [show j / 2 * 2 + 1 = j from by omega] at q4 hf
  rw [q4, ← hf.2, hu]
theorem flat_one (e : EnvL) : ∀ u ∈ e.flatMap vaC, u.oneCell' = true := by
 intro u hu
 obtain ⟨x, _, hx⟩ := List.mem_flatMap.1 hu
 simp [vaC] at hx
 rcases hx with rfl | rfl <;> rfl
set_option maxHeartbeats 2000000 in
set_option maxRecDepth 100000 in
theorem Grow_any (n : Nat) (h0 : 0 < n) (hn : n ≤ 1000000) (w : World) :
  Calls Tryz.prog 114 #[.slice none 0 0, .int .i64 n] w fun e w' => ∃ v, e = .returned v ∧ (∃ G, v = .slice (some ⟨w.heap.size, 0, none⟩) 0 G) ∧ EnvO w.heap.size w' v [] ∧ Below w.heap.size w w' := by
 obtain ⟨i0, hi0, hz0, hz1, hz2⟩ := info_parts ex_info_var
 obtain ⟨G, hG⟩ : ∃ G, G = grownCap w (0 + n) 0 85 := ⟨_, rfl⟩
 have hGn : 0 + n ≤ grownCap w (0 + n) 0 85 := grownCap_ge w _ _ _
 have hG63 : grownCap w (0 + n) 0 85 ≤ maxLen := grownCap_le_maxLen w (0 + n) 0 85 (by unfold maxLen; omega)
 have hrz : ∀ ty, (Builtin.append_ #[69, 3] ty #[.slice none 0 0, .int .i64 n]).run Tryz.prog w =
   .ok (.slice (some ⟨w.heap.size, 0, none⟩) (0 + n) (grownCap w (0 + n) 0 85)) (w.drew.alloc (.cells (([] : List Value).toArray ++ Builtin.zeroCells (Value.agg #[.string ⟨#[]⟩, .int .u64 0]).cells n ++ Builtin.zeroCells (Value.agg #[.string ⟨#[]⟩, .int .u64 0]).cells (grownCap w (0 + n) 0 85 - (0 + n))) 85)) := fun ty =>
  Lib.run_append_grow_zeros w 69 3 ty 85 i0 _ .i64 .i64 Tryz.underlying69 Tryz.underlying3 hi0 hz0 none 0 0 [] (run_firstCells_none w.drew i0.size 0 0 0) n h0 (by omega) (by omega) (by omega) (by rw [hz2]; omega)
   (growslice_fits (by omega) (by rw [hz2]; omega))
 have hsize : (([] : List Value).toArray ++ Builtin.zeroCells (Value.agg #[.string ⟨#[]⟩, .int .u64 0]).cells n ++ Builtin.zeroCells (Value.agg #[.string ⟨#[]⟩, .int .u64 0]).cells (grownCap w (0 + n) 0 85 - (0 + n))).size = G * 2 := by
  simp only [Array.size_append, size_zeroCells, show (Value.agg #[.string ⟨#[]⟩, .int .u64 0]).cells.size = 2 from rfl, List.size_toArray, List.length_nil]
  omega
 rw [← hG] at hrz hGn hG63 hsize
 have hown : EnvO w.heap.size (w.drew.alloc (.cells (([] : List Value).toArray ++ Builtin.zeroCells (Value.agg #[.string ⟨#[]⟩, .int .u64 0]).cells n ++ Builtin.zeroCells (Value.agg #[.string ⟨#[]⟩, .int .u64 0]).cells (G - (0 + n))) 85)) (.slice (some ⟨w.heap.size, 0, none⟩) 0 G) [] :=
  World.ownsRow_made w.drew _ G (Nat.le_refl _) hG63 hsize
 have hb : Below w.heap.size w (w.drew.alloc (.cells (([] : List Value).toArray ++ Builtin.zeroCells (Value.agg #[.string ⟨#[]⟩, .int .u64 0]).cells n ++ Builtin.zeroCells (Value.agg #[.string ⟨#[]⟩, .int .u64 0]).cells (G - (0 + n))) 85)) := (Below.refl _ _).drew.alloc (Nat.le_refl _) _
 have HO := hid hown
 have HB := hid hb
 clear hown hb hG hsize
 generalize (w.drew.alloc (.cells (([] : List Value).toArray ++ Builtin.zeroCells (Value.agg #[.string ⟨#[]⟩, .int .u64 0]).cells n ++ Builtin.zeroCells (Value.agg #[.string ⟨#[]⟩, .int .u64 0]).cells (G - (0 + n))) 85)) = W at hrz HO HB
 go_enter Tryz.func114, Tryz.ntmps114
 go_wp2_with (at_builtin; refine Lib.wpList_append_run _ rfl _ _ _ _ rfl _ _ rfl rfl _ _ (hrz _) ?_)
 go_ret
 exact ⟨_, rfl, ⟨G, rfl⟩, HO.out, HB.out⟩
theorem EnvAt.src {n : Nat} {w : World} {ad : Addr} {l c : Nat} {e : EnvL} (h : EnvAt n w (.slice (some ad) l c) e) : ∀ j u, (e.flatMap vaC)[j]? = some u → w.cell? (ad.add j) = some u := by
 cases e with
 | nil => intro j u hu; simp at hu
 | cons x e =>
  obtain ⟨a, c', h1, h2, h3⟩ := id h
  obtain ⟨k', q1, _⟩ := h3 0 x rfl
  simp only [Value.slice.injEq] at h1
  rw [← h1.1] at q1
  simp only [Option.some.injEq] at q1
  subst q1
  exact h.cells
theorem append_env {w : World} {ops : Array Oper} {rest : List Oper} {o : Oper} {a : Act} {Q : Exit → Act → World → Prop} (hgd : o.guard = none) (s x : Operand)
  (ho : o.op = .call { callee := .builtin .append, args := #[s, x], argTypes := #[69, 69] })
  (B : Nat) (v : Value) (e : EnvL) (hs : a.eval s = v) (hown : EnvO B w v e) (u : Value) (e2 : EnvL) (hx : a.eval x = u) (n : Nat) (hu : EnvAt n w u e2)
  (hl : e.length + e2.length ≤ 1000000) (hbase : B ≤ w.heap.size)
  (h : ∀ v' w', EnvO B w' v' (e ++ e2) → Below B w w' → (∀ g, g < w.heap.size → v.ownBlock ≠ some g → w'.heap[g]? = w.heap[g]?) → wpList Tryz.prog ops Q rest (a.put o.dst v') w') : wpList Tryz.prog ops Q (o :: rest) a w := by
 obtain ⟨i0, hi, hz0, hz1, hz2⟩ := info_parts ex_info_var
 obtain ⟨ua, uc, rfl, _, _⟩ := id hu
 cases ua with
 | none =>
  obtain rfl : e2 = [] := by
   cases e2 with
   | nil => rfl
   | cons y e2 =>
    obtain ⟨a', c', h1, h2, h3⟩ := hu
    obtain ⟨k', q1, _⟩ := h3 0 y rfl
    simp only [Value.slice.injEq] at h1
    rw [← h1.1] at q1
    cases q1
  obtain ⟨va, vl, vc, rfl, hvc⟩ : ∃ va vl vc, v = .slice va vl vc ∧ vl ≤ vc := by
   rcases id hown.2 with ⟨rfl, _⟩ | ⟨g, cap, cur, rfl, _, _, hle, _⟩
   ·exact ⟨_, _, _, rfl, Nat.le_refl _⟩
   ·exact ⟨_, _, _, rfl, hle⟩
  refine Lib.wpList_append_run_sl w hgd s x _ ho _ _ hs hx (Go.run_append_nothing w _ _ o.type 85 i0 Tryz.underlying69 hi va vl vc hvc _ (Go.Src.ofNil _ Tryz.underlying69 uc)) (h _ _ (by rw [List.append_nil]; exact hown) (Below.refl _ _) fun g _ _ => rfl)
 | some ad =>
  refine wpList_append_own_at w hgd s x _ ho B 85 i0 _ 2 24 Tryz.underlying69 hi hz0 hz1 hz2 rfl (by decide) v e.length (e.flatMap vaC) hs hown ad e2.length uc (e2.flatMap vaC) hx (flat_len e2) hu.src (flat_one e2) (by unfold maxLen; omega) (by omega) hbase ?_
  intro v' w' h1 h2 _ _
  refine h v' w' (by unfold EnvO; rw [List.length_append, List.flatMap_append]; exact h1) ((Below.refl B w).grown h2 hbase fun g hg => (World.ownsRow.lt hown g hg).1) fun g hg hne => h2.block g hg fun e => hne e.symm
end Go.Proofs.YtmhmfdnoadjibaaGreatDoor
