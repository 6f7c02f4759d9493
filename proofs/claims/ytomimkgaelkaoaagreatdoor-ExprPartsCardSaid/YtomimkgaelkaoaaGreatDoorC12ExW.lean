/- Layer 10: Eval. · Layer 10: an environment with one entry more (With), by slices.Concat. · Layer 10: Concat of two environments; With. · Layer 10: wakes. -/
import Derived.Test.YtomimkgaelkaoaaGreatDoorC12ExD
import Derived.Lib.AppendZerosOnto
import Derived.Lib.Walk
import Derived.Lib.SliceRun
import Derived.Deep.Upon
import Derived.Lib.SlFresh
import Derived.Test.YtomimkgaelkaoaaGreatDoorC12ExXm
import Derived.Test.YtomimkgaelkaoaaGreatDoorC12ParPa
set_option linter.unusedVariables false
set_option linter.unusedSimpArgs false
namespace Go.Proofs.YtomimkgaelkaoaaGreatDoor
open Go.Lib (hid)
open Go.ChangeShapes Go.WideShapes Go.ChangeAt Go.RowKit
theorem getE_mem {e : EnvL} {s : List UInt8} {n : Int} (h : getE e s = some n) : ∃ v ∈ e, v.2 = n := by
 unfold getE at h
 obtain ⟨v, h1, h2⟩ := Option.map_eq_some_iff.1 h
 exact ⟨v, by have := List.mem_of_find?_eq_some h1; simpa using this, h2⟩
theorem evX_w {x : XE} {e : EnvL} {v : Int → Int × Int} (hx : W64 x.n) (he : ∀ u ∈ e, W64 u.2) (hv : ∀ k, W64 (v k).1) : W64 (evX x e v).1 := by
 unfold evX
 split
 ·exact hx
 split
 ·split
  ·exact ⟨by decide, by decide⟩
  ·rename_i n hn
   obtain ⟨u, h1, rfl⟩ := getE_mem hn
   exact he u h1
 split
 ·exact hv _
 split
 ·exact (truth_ok _).1
 split
 ·exact hv _
 ·exact (op_ok _ (hv _) (hv _)).1
theorem vat_w {V : List (Int × Int)} (h : ∀ p ∈ V, W64 p.1) (k : Int) : W64 (vat V k).1 := by
 unfold vat
 split
 ·rw [List.getD_eq_getElem?_getD]
  cases hk : V[k.toNat]? with
  | none => exact ⟨by decide, by decide⟩
  | some p => exact h p (List.mem_of_getElem? hk)
 ·exact ⟨by decide, by decide⟩
theorem allX_w {e : EnvL} (he : ∀ u ∈ e, W64 u.2) {xs : List XE} (hx : ∀ x ∈ xs, W64 x.n) : ∀ p ∈ allX xs e, W64 p.1 := by
 induction xs using rev_ind with
 | h0 => intro p hp; exact absurd hp (by simp [allX])
 | hs xs x ih =>
  have ih := ih fun y hy => hx y (by simp [hy])
  intro p hp
  rw [allX_snoc] at hp
  rcases List.mem_append.1 hp with hp | hp
  ·exact ih p hp
  ·simp at hp
   subst hp
   unfold oneX
   split
   ·exact ⟨by decide, by decide⟩
   ·split
    ·exact evX_w (hx x (by simp)) he (vat_w ih)
    ·exact ⟨by decide, by decide⟩
theorem EnvAt.mono {n m : Nat} {w : World} {v : Value} {e : EnvL} (h : EnvAt n w v e) (hm : n ≤ m) : EnvAt m w v e := by
 obtain ⟨a, c, h1, h2, h3⟩ := h
 exact ⟨a, c, h1, h2, fun i x hx => by obtain ⟨k, k1, k2, k3⟩ := h3 i x hx; exact ⟨k, k1, by omega, k3⟩⟩
theorem ValM.eq {w : World} {b n : Nat} {S T : Int → Int × Int} (h : ValM w b n S) (e : ∀ k, S k = T k) : ValM w b n T := by rw [← funext e]; exact h
def EvalPost (xs : List XE) (t : Int) (en : EnvL) (q : Ending) : Prop := q = .returned (.tuple #[.int .u64 (evalL xs t en).1, .int .i64 (evalL xs t en).2])
def upG (V : List (Int × Int)) (l : List Int) (j : Nat) (k : Int) : Int × Int := if k ∈ l.take j then vat V k else (0, 0)
set_option maxHeartbeats 4000000 in
set_option maxRecDepth 100000 in
theorem Eval_any (g o : Nat) (xs : List XE) (t : Int) (sv : Value) (e : EnvL) (w : World) (hF : FileX w g o xs) (ht : -9223372036854775808 ≤ t ∧ t ≤ 9223372036854775807) (hE : EnvAt w.heap.size w sv e) (hx : ∀ x ∈ xs, W64 x.n) (he : ∀ u ∈ e, W64 u.2) :
  Calls Tryz.prog 25 #[.pointer (some ⟨g, o, none⟩), .int .i64 t, sv] w fun q w' => EvalPost xs t e q ∧ Below w.heap.size w w' := by
 have hlen : xs.length < 1000000000000 := by obtain ⟨v, h1, h2, a, c, h3, h4, h5⟩ := hF; exact h4
 obtain ⟨fa, fc, cf, hX⟩ := hF.look
 have hg : g < w.heap.size := by obtain ⟨v, h1, _⟩ := hF; exact h1
 have hmm := @run_makeMap Tryz.prog
 have CP := hid (parts_any g o xs t w hF ht)
 have HX := hid hX
 have HE := hid hE
 have HW := hid (vat_w (allX_w he hx))
 have hv : ∃ a l c, sv = .slice a l c := by obtain ⟨a, c, rfl, _⟩ := hE; exact ⟨_, _, _, rfl⟩
 obtain ⟨sa, sl, sc, rfl⟩ := hv
 have PO : Hid (∀ q, q = (.returned (.tuple #[.int .u64 (evalL xs t e).1, .int .i64 (evalL xs t e).2]) : Ending) → EvalPost xs t e q) := hid fun q h => h
 generalize hPP : EvalPost xs t e = PP at PO ⊢
 clear hPP hX hF hE
 go_enter Tryz.func25, Tryz.ntmps25
 go_wp2_with (go_at_call 67; refine CP.out.mono ?_; rintro q w1 ⟨⟨l, v, rfl, hP, a, c, rfl, hl, hK⟩ | ⟨rfl, hno⟩, hb⟩; rotate_left; (have HNO := hid hno; have HB := hid hb; clear hno hb); rotate_left; (have HP := hid hP; have HK := hid (show KidR w1 (.slice a l.length c) l from ⟨a, c, rfl, hl, hK⟩); have HB := hid hb; clear hP hK hb))
 ·have M1 := hid (ValM.made w1)
  have B1 := hid ((Below.refl w1.heap.size w1).alloc (Nat.le_refl _) (.map #[] 0))
  generalize w1.alloc (.map #[] 0) = W1 at M1 B1 ⊢
  go_loopw [26] (fun s26 wr => ∃ (j : Nat), s26 = .int .i64 j ∧ j ≤ l.length ∧ ValM wr w1.heap.size j (upG (allX xs e) l j) ∧ Below w1.heap.size w1 wr) (fun s26 _ => l.length - (intOf s26).toNat)
  case atStart => exact ⟨0, rfl, Nat.zero_le _, by
   obtain ⟨D, h1, h2⟩ := M1.out
   exact ⟨D, h1, fun k => by rw [h2]; simp [upG]⟩, B1.out⟩
  case round =>
   clear M1 B1
   obtain ⟨j, rfl, hj, hM, hB⟩ := hrel
   have hBw := HB.out.trans (hB.mono HB.out.size)
   by_cases hjl : j < l.length
   ·obtain ⟨y, hy⟩ : ∃ y, l[j]? = some y := ⟨_, List.getElem?_eq_getElem hjl⟩
    obtain ⟨hy0, hyt, x, ks, hx', ho, hkk⟩ := HP.out.all j y hy
    obtain ⟨m, rfl⟩ : ∃ m : Nat, y = (m : Int) := ⟨y.toNat, by omega⟩
    rw [show ((m : Int)).toNat = m from rfl] at hx'
    obtain ⟨fk, fv, rfl, fkl, x0, x1, x2, x3, x4, xk⟩ := HX.out.at hx'
    replace x0 := (hBw.cell (p := ⟨fk, _, none⟩) fkl).trans x0
    replace x1 := (hBw.cell (p := ⟨fk, _, none⟩) fkl).trans x1
    replace x2 := (hBw.cell (p := ⟨fk, _, none⟩) fkl).trans x2
    replace x3 := (hBw.cell (p := ⟨fk, _, none⟩) fkl).trans x3
    replace x4 := (hBw.cell (p := ⟨fk, _, none⟩) fkl).trans x4
    have cf' := (hBw.cell (p := ⟨g, o + 2, none⟩) hg).trans cf
    obtain ⟨p, rfl, ck, r1, r2⟩ := kid_at HK.out hy
    have ck2 := (hB.cell (World.block_lt_of_cell? w1 _ ck)).trans ck
    have hG : ∀ k, W64 (upG (allX xs e) l j k).1 := fun k => by
     unfold upG
     split
     ·exact HW.out k
     ·exact ⟨by decide, by decide⟩
    have hval : evX x e (upG (allX xs e) l j) = vat (allX xs e) m := by
     rw [val_eq e hx' (HP.out.ok e _ (List.mem_of_getElem? hy))]
     exact evX_congr ho fun k hk => by unfold upG; rw [if_pos (hkk k hk).2.2]
    have CE := hid (evaluate_any x fv e (.slice sa sl sc) w1.heap.size j (upG (allX xs e) l j) wr (xk.below (hBw.mono (Nat.le_refl _))) ((HE.out.below hBw).mono hBw.size) hM (by rw [ho]; rfl) fun k _ => hG k)
    have CE2 : Hid (Calls Tryz.prog 68 #[.agg #[.int .i64 x.k, .string (bs x.op), .int .u64 x.n, .string (bs x.s), fv], .slice sa sl sc, .map (some w1.heap.size)] wr fun q w' => q = .returned (.agg #[.int .u64 (vat (allX xs e) m).1, .int .i64 (vat (allX xs e) m).2]) ∧ Below wr.heap.size wr w') := hid (by
     have := CE.out
     unfold EvPost at this
     rw [hval] at this
     exact this)
    have hmx : (m : Int) < (xs.length : Int) := by have := (List.getElem?_eq_some_iff.1 hx').1; omega
    have hjl' : (j : Int) < (l.length : Int) := by omega
    have HY := hid hy
    have HM := hid hM
    have HBB := hid hB
    clear hy hM hB hBw hval CE hG hkk ho xk
    generalize hvv : vat (allX xs e) m = vv at CE2
    go_wp2_with (go_at_call 68; refine CE2.out.mono ?_; rintro q w3 ⟨rfl, hb3⟩; obtain ⟨w4, hrun, hS4, hg4⟩ := (HM.out.below hb3 HM.out.lt).put (by unfold maxLen; omega) ⟨r1, r2⟩ vv; have HB4 := hid ((HBB.out.trans (hb3.mono HBB.out.size)).grown hg4 (Nat.le_trans HBB.out.size hb3.size) (fun z hz => by cases hz; exact Nat.le_refl _)); have HS4 := hid hS4; clear hb3 hS4 hg4)
    refine ⟨⟨j + 1, by go_num, by omega, HS4.out.eq fun k => ?_, HB4.out⟩, by simp [intOf]; omega⟩
    unfold upG
    rw [List.take_add_one, HY.out]
    by_cases hkm : k = (m : Int)
    ·subst hkm
     simp [hvv]
    ·simp [hkm]
   ·obtain rfl : j = l.length := by omega
    have hv1 : upG (allX xs e) l l.length t = evalL xs t e := by unfold upG; rw [List.take_length, if_pos HP.out.mem]; rfl
    have LE : ∀ n, (Instr.lookup 167 (.map (some w1.heap.size)) (.int .i64 t) false).run Tryz.prog (wr.drewN n) = .ok (.agg #[.int .u64 (evalL xs t e).1, .int .i64 (evalL xs t e).2]) (wr.drewN n) := fun n => by
     have := (show ValM (wr.drewN n) _ _ _ from hM).look ht
     rw [hv1] at this
     exact this
    have ro0 := run_out0
    have ro1 := run_out1
    have hjl' : ¬ ((l.length : Int) < (l.length : Int)) := by omega
    have HBW := hid hBw
    clear hM hB hBw hv1
    generalize evalL xs t e = ev at LE PO
    go_wp2_with fail
    go_quiet (fail)
    go_wp2_with fail
    go_ret2
    exact ⟨PO.out _ rfl, bdrewN HBW.out _⟩
 ·go_ret2
  exact ⟨PO.out _ (by rw [HNO.out e]; rfl), HB.out⟩
end Go.Proofs.YtomimkgaelkaoaaGreatDoor
namespace Go.Proofs.YtomimkgaelkaoaaGreatDoor
open Go.Lib (hid)
open Go.ChangeShapes Go.WideShapes Go.ChangeAt Go.RowKit
theorem ex_info_var : (Tryz.prog.info? 85).map (fun i => (i.zero, i.size, i.bytes)) = some (some (.agg #[.string ⟨#[]⟩, .int .u64 0]), 2, 24) := by kernel_rfl
def vaC (x : List UInt8 × Int) : List Value := [.string ⟨x.1.toArray⟩, .int .u64 x.2]
theorem flat_get (e : EnvL) {i : Nat} {x : List UInt8 × Int} (h : e[i]? = some x) : (e.flatMap vaC)[i * 2]? = some (.string ⟨x.1.toArray⟩) ∧ (e.flatMap vaC)[i * 2 + 1]? = some (.int .u64 x.2) := by
 induction e generalizing i with
 | nil => simp at h
 | cons y e ih =>
  rw [List.flatMap_cons]
  cases i with
  | zero => simp at h; subst h; simp [vaC]
  | succ i =>
   have := ih (i := i) (by simpa using h)
   rw [show (i + 1) * 2 = 2 + i * 2 from by omega, show 2 + i * 2 + 1 = 2 + (i * 2 + 1) from by omega, List.getElem?_append_right (by simp [vaC]), List.getElem?_append_right (by simp [vaC])]
   simpa [vaC] using this
def EnvO (B : Nat) (w : World) (v : Value) (e : EnvL) : Prop := w.ownsRow B 85 2 v e.length (e.flatMap vaC)
theorem EnvO.at {B : Nat} {w : World} {v : Value} {e : EnvL} (h : EnvO B w v e) (hl : e.length < 4611686018427387904) : EnvAt w.heap.size w v e := by
 have h' := h
 rcases id h.2 with ⟨rfl, h0⟩ | ⟨g, cap, cur, rfl, _⟩
 ·obtain rfl : e = [] := List.eq_nil_of_length_eq_zero h0
  exact ⟨none, 0, rfl, by simp, fun i x hx => by simp at hx⟩
 ·refine ⟨_, _, rfl, hl, fun i x hx => ⟨g, rfl, (World.ownsRow.lt h' g rfl).2, ?_, ?_⟩⟩
  ·have hi := (List.getElem?_eq_some_iff.1 hx).1
   rw [World.ownsRow.cellAt h' _ (by omega)]; exact (flat_get e hx).1
  ·have hi := (List.getElem?_eq_some_iff.1 hx).1
   rw [World.ownsRow.cellAt h' _ (by omega)]; exact (flat_get e hx).2
end Go.Proofs.YtomimkgaelkaoaaGreatDoor
namespace Go.Proofs.YtomimkgaelkaoaaGreatDoor
open Go.Lib (hid)
open Go.ChangeShapes Go.WideShapes Go.ChangeAt Go.RowKit
theorem EnvO.below {B : Nat} {w w' : World} {v : Value} {e : EnvL} (h : EnvO B w v e) (hb : Below w.heap.size w w') : EnvO B w' v e := by
 have hl := World.ownsRow.lt h
 obtain ⟨h1, h2⟩ := h
 refine ⟨h1, ?_⟩
 rcases h2 with h2 | ⟨g', cap', cur, rfl, hg, hh, r⟩
 ·exact Or.inl h2
 ·exact Or.inr ⟨g', cap', cur, rfl, hg, (hb.block g' (hl g' rfl).2).trans hh, r⟩
theorem EnvO.shape {B : Nat} {w : World} {v : Value} {e : EnvL} (h : EnvO B w v e) : ∃ a c, v = .slice a e.length c := by
 rcases id h.2 with ⟨rfl, h0⟩ | ⟨g, cap, cur, rfl, _⟩
 ·exact ⟨none, 0, by rw [h0]⟩
 ·exact ⟨_, _, rfl⟩
end Go.Proofs.YtomimkgaelkaoaaGreatDoor
namespace Go.Proofs.YtomimkgaelkaoaaGreatDoor
open Go.Lib (hid)
open Go.ChangeShapes Go.WideShapes Go.ChangeAt Go.RowKit
theorem ints_kid {w : World} {v : Value} {l : List Nat} (h : SlR 1 IntC w v l) (hl : l.length < 4611686018427387904) (hk : ∀ k ∈ l, k < 9223372036854775808) : KidR w v (l.map fun (k : Nat) => (k : Int)) := by
 obtain ⟨a, c, rfl, h2, h3, h4⟩ := h
 refine ⟨a, c, by rw [List.length_map], by rw [List.length_map]; exact hl, fun j x hx => ?_⟩
 rw [List.getElem?_map] at hx
 obtain ⟨y, hy, rfl⟩ := Option.map_eq_some_iff.1 hx
 obtain ⟨k, cs, e, hk1, hl1, hc, hr⟩ := h4 j y hy
 have := hk y (List.mem_of_getElem? hy)
 refine ⟨⟨_, e, hk1, ?_⟩, by omega, by omega⟩
 rw [show (⟨k, 0, none⟩ : Addr).add j = ⟨k, j, none⟩ from by unfold Addr.add; split <;> simp_all]
 have := hc 0 (by decide)
 rw [Nat.mul_one, Nat.add_zero] at this
 rw [this, show cs = [.int .i64 (y : Int)] from hr]
 rfl
theorem FileR.fx {g : Nat} {w : World} {f : FM} (h : FileR g w f) (hl : f.g.xs.length < 1000000000000) (hk : ∀ x ∈ f.g.xs, x.kids.length < 4611686018427387904 ∧ ∀ k ∈ x.kids, k < 9223372036854775808) : FileX w g 1 (f.g.xs.map XM.xe) := by
 obtain ⟨ac, cc, bs', cs, ax, cx, at', ct, e1, e2, e3, e4, h1, h2, h3, h4, hg⟩ := h.look
 refine ⟨_, hg, e3, ax, cx, by rw [List.length_map], by rw [List.length_map]; exact hl, fun i x hx => ?_⟩
 rw [List.getElem?_map] at hx
 obtain ⟨y, hy, rfl⟩ := Option.map_eq_some_iff.1 hx
 obtain ⟨k, kv, q1, q2, c0, c1, c2, c3, c4, q3⟩ := xs_at h3 hy
 have := hk y (List.mem_of_getElem? hy)
 exact ⟨k, kv, q1, q2, c0, c1, c2, c3, c4, ints_kid q3 this.1 this.2⟩
def wakeE : List UInt8 := [115, 116, 114, 117, 99, 116, 32, 83, 32, 123, 32, 97, 58, 32, 98, 121, 116, 101, 115, 91, 110, 32, 42, 32, 40, 110, 32, 45, 32, 49, 41, 93, 59, 32, 125]
def wakeG : FM := ⟨[], [⟨[83], [], [⟨[97], 0, 0, [], [], -1, 0, false, []⟩]⟩], ⟨[⟨1, [], 0, [110], []⟩, ⟨1, [], 0, [110], []⟩, ⟨0, [], 1, [], []⟩, ⟨3, [45], 0, [], [1, 2]⟩, ⟨3, [42], 0, [], [0, 3]⟩], [⟨1, 0, false, [], [], 4, -1, []⟩]⟩⟩
theorem wakeEL : parseL wakeE = .ok wakeG := by decide +kernel
def wakeX : List XE := wakeG.g.xs.map XM.xe
theorem wakeV1 : evalL wakeX 4 [([110], 3)] = (6, 0) := by decide +kernel
theorem wakeV2 : evalL wakeX 4 [([110], 3), ([110], 0)] = (0, 5) := by decide +kernel
theorem wakeW : ∀ x ∈ wakeX, W64 x.n := by
 intro x hx
 have h : x.n = 0 ∨ x.n = 1 := by
  simp [wakeX, wakeG, XM.xe] at hx
  rcases hx with rfl | rfl | rfl | rfl | rfl <;> simp
 unfold W64
 omega
set_option maxHeartbeats 2000000 in
set_option maxRecDepth 100000 in
theorem Eval_nil (t : Int) (a : Option Addr) (l c : Nat) (w : World) :
  Calls Tryz.prog 25 #[.pointer none, .int .i64 t, .slice a l c] w fun e w' => e = .returned (.tuple #[.int .u64 0, .int .i64 1]) ∧ Below w.heap.size w w' := by
 go_enter Tryz.func25, Tryz.ntmps25
 go_wp2_with fail
 go_ret2
 exact ⟨rfl, Below.refl _ _⟩
theorem wakeKids : ∀ x ∈ wakeG.g.xs, x.kids.length < 4611686018427387904 ∧ ∀ k ∈ x.kids, k < 9223372036854775808 := by
 intro x hx
 simp [wakeG] at hx
 rcases hx with rfl | rfl | rfl | rfl | rfl <;> simp
set_option maxHeartbeats 4000000 in
set_option maxRecDepth 100000 in
theorem of_wake (w : World) (hE : Env w) (hK : KEnv (fun b => b < w.heap.size) w) :
  Calls Tryz.prog 31 #[.string ⟨#[110, 32, 42, 32, 40, 110, 32, 45, 32, 49, 41]⟩] w fun e w' => ∃ g, e = .returned (.tuple #[.pointer (some ⟨g, 1, none⟩), .int .i64 4]) ∧ FileX w' g 1 wakeX ∧ Below w.heap.size w w' := by
 have CP := hid (show Calls Tryz.prog 10 #[.string ⟨wakeE.toArray⟩] w fun e w' => ParsePost (.ok wakeG) e w' ∧ Below w.heap.size w w' from by
  have := Parse_any ⟨wakeE.toArray⟩ w hE hK
  rw [show parseL (ByteArray.mk wakeE.toArray).data.toList = .ok wakeG from wakeEL] at this
  exact this)
 clear hE hK
 go_enter Tryz.func31, Tryz.ntmps31
 go_wp2_with (go_at_call 10; refine CP.out.mono ?_; rintro e w1 ⟨⟨⟨g, rfl, hF⟩, -⟩, hb⟩; have B := hid (chain hb (Nat.le_refl _) ((Below.refl w1.heap.size w1).alloc (Nat.le_refl _) (.cells #[.int .i64 0, .int .i64 0] 25))); have F := hid (hF.below ((Below.refl w1.heap.size w1).alloc (Nat.le_refl _) (.cells #[.int .i64 0, .int .i64 0] 25))); obtain ⟨ac, cc, bs', cs, ax, cx, at', ct, e1, e2, e3, e4, h1, h2, h3, h4, hg⟩ := F.out.look; obtain ⟨kt, av, cv, rfl, tk, t0, t1, t2, t3, t4, t5, t6⟩ := ts_at h4 (i := 0) (x := ⟨1, 0, false, [], [], 4, -1, []⟩) rfl; rw [show wakeG.g.ts.length = 1 from rfl] at e4; replace t5 : (w1.alloc (.cells #[.int .i64 0, .int .i64 0] 25)).cell? ⟨kt, 5, none⟩ = some (.int .i64 4) := t5; clear hF hb h1 h2 h3 h4 t0 t1 t2 t3 t4 t6)
 generalize w1.alloc (.cells #[.int .i64 0, .int .i64 0] 25) = W at *
 go_quiet (fail)
 go_wp2_with fail
 go_ret2
 exact ⟨g, rfl, (F.out.fx (by decide) wakeKids).below (bdrewN (Below.refl _ W) _), bdrewN B.out _⟩
set_option maxHeartbeats 4000000 in
set_option maxRecDepth 100000 in
theorem wakes_ex (w : World) (hE : Env w) (hK : KEnv (fun b => b < w.heap.size) w) :
  Calls Tryz.prog 23 #[] w fun e w' => e = .returned (.bool true) ∧ Below w.heap.size w w' := by
 have CO := hid (of_wake w hE hK)
 clear hE hK
 go_enter Tryz.func23, Tryz.ntmps23
 go_upto_region 2 with (go_at_call 31; refine CO.out.mono ?_; rintro e w1 ⟨g, rfl, hF, hb⟩; have F1 := hid hF; have B1 := hid hb; clear hF hb)
 have n1 := World.alloc_heap_new w1 (.cells #[.string ⟨#[110]⟩, .int .u64 3] 85)
 have b1 := (Below.refl w1.heap.size w1).alloc (Nat.le_refl _) (.cells #[.string ⟨#[110]⟩, .int .u64 3] 85)
 have s1 : (w1.alloc (.cells #[.string ⟨#[110]⟩, .int .u64 3] 85)).heap.size = w1.heap.size + 1 := by simp
 have CE := hid (Eval_any g 1 wakeX 4 (.slice (some ⟨w1.heap.size, 0, none⟩) 1 1) [([110], 3)] _ (F1.out.below b1) (by omega)
  ⟨_, _, rfl, by simp, fun i x hx => by
   cases i with
   | succ i => simp at hx
   | zero => simp at hx; subst hx; exact ⟨w1.heap.size, rfl, by omega, (show Duo _ _ _ _ _ from n1).c0, (show Duo _ _ _ _ _ from n1).c1⟩⟩ wakeW (by intro u hu; simp at hu; subst hu; exact ⟨by decide, by decide⟩))
 have B2 := hid (B1.out.trans (b1.mono B1.out.size))
 unfold EvalPost at CE
 rw [wakeV1] at CE
 clear n1 b1
 go_upto_region 3 with (go_at_call 25; refine CE.out.mono ?_; rintro e w2 ⟨rfl, hb⟩; have B3 := hid (B2.out.trans (hb.mono B2.out.size)); have B13 := hid (((Below.refl w1.heap.size w1).alloc (Nat.le_refl _) (.cells #[.string ⟨#[110]⟩, .int .u64 3] 85)).trans (hb.mono (by omega))); clear hb)
 have n2 := World.alloc_heap_new w2 (.cells #[.string ⟨#[110]⟩, .int .u64 3, .string ⟨#[110]⟩, .int .u64 0] 85)
 have b2 := (Below.refl w2.heap.size w2).alloc (Nat.le_refl _) (.cells #[.string ⟨#[110]⟩, .int .u64 3, .string ⟨#[110]⟩, .int .u64 0] 85)
 have s2 : (w2.alloc (.cells #[.string ⟨#[110]⟩, .int .u64 3, .string ⟨#[110]⟩, .int .u64 0] 85)).heap.size = w2.heap.size + 1 := by simp
 have CF := hid (Eval_any g 1 wakeX 4 (.slice (some ⟨w2.heap.size, 0, none⟩) 2 2) [([110], 3), ([110], 0)] _ ((F1.out.below B13.out).below b2) (by omega)
  ⟨_, _, rfl, by simp, fun i x hx => by
   match i, hx with
   | 0, hx => simp at hx; subst hx; exact ⟨w2.heap.size, rfl, by omega, by rw [cell_of_row _ _ _ _ _ (0, 0) n2]; rfl, by rw [cell_of_row _ _ _ _ _ (0, 0) n2]; rfl⟩
   | 1, hx => simp at hx; subst hx; exact ⟨w2.heap.size, rfl, by omega, by rw [cell_of_row _ _ _ _ _ (0, 0) n2]; rfl, by rw [cell_of_row _ _ _ _ _ (0, 0) n2]; rfl⟩
   | i + 2, hx => simp at hx⟩ wakeW (by intro u hu; simp at hu; rcases hu with rfl | rfl <;> exact ⟨by decide, by decide⟩))
 have B4 := hid (B3.out.trans (b2.mono B3.out.size))
 unfold EvalPost at CF
 rw [wakeV2] at CF
 clear n2 b2
 go_upto_region 4 with (go_at_call 25; refine CF.out.mono ?_; rintro e w3 ⟨rfl, hb⟩; have B5 := hid (B4.out.trans (hb.mono B4.out.size)); clear hb)
 have CN := hid (Eval_nil 0 none 0 0 w3)
 go_wp2_with (go_at_call 25; refine CN.out.mono ?_; rintro e w4 ⟨rfl, hb⟩; have B6 := hid (B5.out.trans (hb.mono B5.out.size)); clear hb)
 go_ret
 exact ⟨rfl, B6.out⟩
end Go.Proofs.YtomimkgaelkaoaaGreatDoor
