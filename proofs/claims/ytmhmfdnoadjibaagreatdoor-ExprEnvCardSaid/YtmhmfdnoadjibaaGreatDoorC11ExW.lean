/- Layer 10: Concat of two environments; With. · Layer 10: wakes. -/
import Derived.Test.YtmhmfdnoadjibaaGreatDoorC11ExF
import Derived.Test.YtmhmfdnoadjibaaGreatDoorC11ParPa
set_option linter.unusedVariables false
set_option linter.unusedSimpArgs false
namespace Go.Proofs.YtmhmfdnoadjibaaGreatDoor
open Go.Lib (hid)
open Go.ChangeShapes Go.WideShapes Go.ChangeAt Go.RowKit
set_option maxHeartbeats 4000000 in
set_option maxRecDepth 100000 in
theorem Concat_any (b : Nat) (v1 v2 : Value) (e1 e2 : EnvL) (w : World) (c1 : w.cell? ⟨b, 0, none⟩ = some v1) (c2 : w.cell? ⟨b, 1, none⟩ = some v2) (h1 : EnvAt w.heap.size w v1 e1) (h2 : EnvAt w.heap.size w v2 e2) (h0 : 0 < e1.length + e2.length) (hl : e1.length + e2.length ≤ 1000000) :
  Calls Tryz.prog 71 #[.slice (some ⟨b, 0, none⟩) 2 2] w fun q w' => ∃ v, q = .returned v ∧ EnvO w.heap.size w' v (e1 ++ e2) ∧ Below w.heap.size w w' := by
 obtain ⟨a1, k1, rfl, -, -⟩ := id h1
 obtain ⟨a2, k2, rfl, -, -⟩ := id h2
 have CG := hid (Grow_any (e1.length + e2.length) h0 hl w)
 rw [Int.natCast_add] at CG
 have hb := World.block_lt_of_cell? w _ c1
 have H1 := hid h1
 have H2 := hid h2
 have b1 : (e1.length : Int) ≤ 1000000 := by omega
 have b2 : (e1.length : Int) + (e2.length : Int) ≤ 1000000 := by omega
 have b3 : ¬ ((e1.length : Int) < 0) := by omega
 have b4 : ¬ ((e1.length : Int) + (e2.length : Int) < 0) := by omega
 clear h1 h2
 go_enter Tryz.func71, Tryz.ntmps71
 go_wp2_with fail
 refine wp_loop_rounds 3 ?_
 rw [rounds_succ]
 go_wp2_with fail
 rw [rounds_succ]
 go_wp2_with fail
 rw [rounds_succ]
 go_wp2_with (go_at_call 114; refine CG.out.mono ?_; rintro q w1 ⟨v, rfl, ⟨G, rfl⟩, hO, hB⟩; have d1 := (hB.cell (p := ⟨b, 0, none⟩) hb).trans c1; have d2 := (hB.cell (p := ⟨b, 1, none⟩) hb).trans c2; have HO := hid hO; have HB := hid hB; clear hO hB)
 refine wp_loop_rounds 3 ?_
 rw [rounds_succ]
 go_wp2_with (at_builtin; refine append_env rfl _ _ rfl w.heap.size _ [] rfl HO.out _ e1 rfl w.heap.size (H1.out.below HB.out) (by simp only [List.length_nil]; omega) HB.out.size ?_; intro v' w2 hO2 hB2 hk2; rw [List.nil_append] at hO2; obtain ⟨va, vl, vc, rfl⟩ : ∃ va vl vc, v' = .slice va vl vc := (by rcases id hO2.2 with ⟨rfl, _⟩ | ⟨g, cap, cur, rfl, _⟩ <;> exact ⟨_, _, _, rfl⟩); have HO2 := hid hO2; have HB2 := hid hB2; have d3 := (hB2.cell (p := ⟨b, 1, none⟩) hb).trans d2; clear hO2 hB2 hk2)
 rw [rounds_succ]
 go_wp2_with (at_builtin; refine append_env rfl _ _ rfl w.heap.size _ e1 rfl HO2.out _ e2 rfl w.heap.size (H2.out.below (HB.out.trans HB2.out)) (by omega) (Nat.le_trans HB.out.size HB2.out.size) ?_; intro v' w3 hO3 hB3 hk3; obtain ⟨va, vl, vc, rfl⟩ : ∃ va vl vc, v' = .slice va vl vc := (by rcases id hO3.2 with ⟨rfl, _⟩ | ⟨g, cap, cur, rfl, _⟩ <;> exact ⟨_, _, _, rfl⟩); have HO3 := hid hO3; have HB3 := hid hB3; clear hO3 hB3 hk3)
 rw [rounds_succ]
 go_wp2_with fail
 go_ret
 exact ⟨_, rfl, HO3.out, (HB.out.trans HB2.out).trans HB3.out⟩
theorem envO_base {B B' : Nat} {w : World} {v : Value} {e : EnvL} (h : EnvO B w v e) (hb : B' ≤ B) : EnvO B' w v e := by
 obtain ⟨h1, h2⟩ := h
 refine ⟨h1, ?_⟩
 rcases h2 with h2 | ⟨g', cap', cur, hv, hg, r⟩
 ·exact Or.inl h2
 ·exact Or.inr ⟨g', cap', cur, hv, by omega, r⟩
theorem EnvO.below {B : Nat} {w w' : World} {v : Value} {e : EnvL} (h : EnvO B w v e) (hb : Below w.heap.size w w') : EnvO B w' v e := by
 have hl := World.ownsRow.lt h
 obtain ⟨h1, h2⟩ := h
 refine ⟨h1, ?_⟩
 rcases h2 with h2 | ⟨g', cap', cur, rfl, hg, hh, r⟩
 ·exact Or.inl h2
 ·exact Or.inr ⟨g', cap', cur, rfl, hg, (hb.block g' (hl g' rfl).2).trans hh, r⟩
theorem EnvO.shape {B : Nat} {w : World} {v : Value} {e : EnvL} (h : EnvO B w v e) : ∃ a c, v = .slice a e.length c := by
 rcases id h.2 with ⟨rfl, h0⟩ | ⟨g, cap, cur, rfl, _⟩
 ·exact ⟨none, 0, by rw [h0]⟩
 ·exact ⟨_, _, rfl⟩
set_option maxHeartbeats 4000000 in
set_option maxRecDepth 100000 in
theorem With_any (sv : Value) (e : EnvL) (s : List UInt8) (n : Int) (w : World) (hE : EnvAt w.heap.size w sv e) (hl : e.length < 1000000) :
  Calls Tryz.prog 29 #[sv, .string ⟨s.toArray⟩, .int .u64 n] w fun q w' => ∃ v, q = .returned v ∧ EnvO w.heap.size w' v (e ++ [(s, n)]) ∧ Below w.heap.size w w' := by
 obtain ⟨sa, sc, rfl, -, -⟩ := id hE
 have hb1 : Below w.heap.size w (w.alloc (.cells #[.string ⟨s.toArray⟩, .int .u64 n] 85)) := (Below.refl _ _).alloc (Nat.le_refl _) _
 have hb2 := hb1.alloc (by simp) (.cells #[.slice sa e.length sc, .slice (some ⟨w.heap.size, 0, none⟩) 1 1] 69)
 have hsz : ((w.alloc (.cells #[.string ⟨s.toArray⟩, .int .u64 n] 85)).alloc (.cells #[.slice sa e.length sc, .slice (some ⟨w.heap.size, 0, none⟩) 1 1] 69)).heap.size = w.heap.size + 2 := by simp
 have n1 := World.alloc_heap_new w (.cells #[.string ⟨s.toArray⟩, .int .u64 n] 85)
 have n2 := World.alloc_heap_new (w.alloc (.cells #[.string ⟨s.toArray⟩, .int .u64 n] 85)) (.cells #[.slice sa e.length sc, .slice (some ⟨w.heap.size, 0, none⟩) 1 1] 69)
 rw [World.size_alloc] at n2
 have n3 := (Below.heap_alloc (w.alloc (.cells #[.string ⟨s.toArray⟩, .int .u64 n] 85)) (.cells #[.slice sa e.length sc, .slice (some ⟨w.heap.size, 0, none⟩) 1 1] 69) w.heap.size (by simp)).trans n1
 have CC := hid (Concat_any (w.heap.size + 1) (.slice sa e.length sc) (.slice (some ⟨w.heap.size, 0, none⟩) 1 1) e [(s, n)] _ (show Duo _ _ _ _ _ from n2).c0 (show Duo _ _ _ _ _ from n2).c1 ((hE.below hb2).mono hb2.size)
  ⟨_, _, rfl, by simp, fun i x hx => by
   cases i with
   | succ i => simp at hx
   | zero => simp at hx; subst hx; exact ⟨w.heap.size, rfl, by omega, (show Duo _ _ _ _ _ from n3).c0, (show Duo _ _ _ _ _ from n3).c1⟩⟩ (by simp) (by simp; omega))
 have HB := hid hb2
 clear hb1 n1 n2 n3 hE
 go_enter Tryz.func29, Tryz.ntmps29
 go_wp2_with (go_at_call 71; refine CC.out.mono ?_; rintro q w1 ⟨v, rfl, hO, hB⟩; have HO := hid hO; have HB1 := hid hB; obtain ⟨va, vl, vc, rfl⟩ : ∃ va vl vc, v = .slice va vl vc := (by rcases id hO.2 with ⟨rfl, _⟩ | ⟨g, cap, cur, rfl, _⟩ <;> exact ⟨_, _, _, rfl⟩); clear hO hB)
 go_ret
 exact ⟨_, rfl, envO_base HO.out HB.out.size, HB.out.trans (HB1.out.mono HB.out.size)⟩
end Go.Proofs.YtmhmfdnoadjibaaGreatDoor
namespace Go.Proofs.YtmhmfdnoadjibaaGreatDoor
open Go.Lib (hid)
open Go.ChangeShapes Go.WideShapes Go.ChangeAt Go.RowKit
def XM.xe (x : XM) : XE := ⟨x.k, x.op, x.n, x.s, x.kids.map fun (k : Nat) => (k : Int)⟩
theorem ints_kid {w : World} {v : Value} {l : List Nat} (h : SlR 1 IntC w v l) (hl : l.length < 4611686018427387904) (hk : ∀ k ∈ l, k < 9223372036854775808) : KidR w v (l.map fun (k : Nat) => (k : Int)) := by
 obtain ⟨a, c, rfl, h2, h3, h4⟩ := h
 refine ⟨a, c, by rw [List.length_map], by rw [List.length_map]; exact hl, fun j x hx => ?_⟩
 rw [List.getElem?_map] at hx
 obtain ⟨y, hy, rfl⟩ := Option.map_eq_some_iff.1 hx
 obtain ⟨k, cs, e, hk1, hl1, hc, hr⟩ := h4 j y hy
 have := hk y (List.mem_of_getElem? hy)
 refine ⟨⟨_, e, hk1, ?_⟩, by omega, by omega⟩
 rw [show (⟨k, 0, none⟩ : Addr).add j = ⟨k, j, none⟩ from by unfold Addr.add; split <;> simp_all]
 have := hc 0 (by decide)
 rw [Nat.mul_one, Nat.add_zero] at this
 rw [this, show cs = [.int .i64 (y : Int)] from hr]
 rfl
theorem FileR.fx {g : Nat} {w : World} {f : FM} (h : FileR g w f) (hl : f.g.xs.length < 1000000000000) (hk : ∀ x ∈ f.g.xs, x.kids.length < 4611686018427387904 ∧ ∀ k ∈ x.kids, k < 9223372036854775808) : FileX w g 1 (f.g.xs.map XM.xe) := by
 obtain ⟨ac, cc, bs', cs, ax, cx, at', ct, e1, e2, e3, e4, h1, h2, h3, h4, hg⟩ := h.look
 refine ⟨_, hg, e3, ax, cx, by rw [List.length_map], by rw [List.length_map]; exact hl, fun i x hx => ?_⟩
 rw [List.getElem?_map] at hx
 obtain ⟨y, hy, rfl⟩ := Option.map_eq_some_iff.1 hx
 obtain ⟨k, kv, q1, q2, c0, c1, c2, c3, c4, q3⟩ := xs_at h3 hy
 have := hk y (List.mem_of_getElem? hy)
 exact ⟨k, kv, q1, q2, c0, c1, c2, c3, c4, ints_kid q3 this.1 this.2⟩
def wakeE : List UInt8 := [115, 116, 114, 117, 99, 116, 32, 83, 32, 123, 32, 97, 58, 32, 98, 121, 116, 101, 115, 91, 110, 32, 42, 32, 40, 110, 32, 45, 32, 49, 41, 93, 59, 32, 125]
def wakeG : FM := ⟨[], [⟨[83], [], [⟨[97], 0, 0, [], [], -1, 0, false, []⟩]⟩], ⟨[⟨1, [], 0, [110], []⟩, ⟨1, [], 0, [110], []⟩, ⟨0, [], 1, [], []⟩, ⟨3, [45], 0, [], [1, 2]⟩, ⟨3, [42], 0, [], [0, 3]⟩], [⟨1, 0, false, [], [], 4, -1, []⟩]⟩⟩
theorem wakeEL : parseL wakeE = .ok wakeG := by decide +kernel
def wakeX : List XE := wakeG.g.xs.map XM.xe
theorem wakeV1 : evalL wakeX 4 [([110], 3)] = (6, 0) := by decide +kernel
theorem wakeV2 : evalL wakeX 4 [([110], 3), ([110], 0)] = (0, 5) := by decide +kernel
theorem wakeW : ∀ x ∈ wakeX, W64 x.n := by
 intro x hx
 have h : x.n = 0 ∨ x.n = 1 := by
  simp [wakeX, wakeG, XM.xe] at hx
  rcases hx with rfl | rfl | rfl | rfl | rfl <;> simp
 unfold W64
 omega
set_option maxHeartbeats 2000000 in
set_option maxRecDepth 100000 in
theorem Eval_nil (t : Int) (a : Option Addr) (l c : Nat) (w : World) :
  Calls Tryz.prog 25 #[.pointer none, .int .i64 t, .slice a l c] w fun e w' => e = .returned (.tuple #[.int .u64 0, .int .i64 1]) ∧ Below w.heap.size w w' := by
 go_enter Tryz.func25, Tryz.ntmps25
 go_wp2_with fail
 go_ret2
 exact ⟨rfl, Below.refl _ _⟩
theorem wakeKids : ∀ x ∈ wakeG.g.xs, x.kids.length < 4611686018427387904 ∧ ∀ k ∈ x.kids, k < 9223372036854775808 := by
 intro x hx
 simp [wakeG] at hx
 rcases hx with rfl | rfl | rfl | rfl | rfl <;> simp
set_option maxHeartbeats 4000000 in
set_option maxRecDepth 100000 in
theorem of_wake (w : World) (hE : Env w) (hK : KEnv (fun b => b < w.heap.size) w) :
  Calls Tryz.prog 31 #[.string ⟨#[110, 32, 42, 32, 40, 110, 32, 45, 32, 49, 41]⟩] w fun e w' => ∃ g, e = .returned (.tuple #[.pointer (some ⟨g, 1, none⟩), .int .i64 4]) ∧ FileX w' g 1 wakeX ∧ Below w.heap.size w w' := by
 have CP := hid (show Calls Tryz.prog 10 #[.string ⟨wakeE.toArray⟩] w fun e w' => ParsePost (.ok wakeG) e w' ∧ Below w.heap.size w w' from by
  have := Parse_any ⟨wakeE.toArray⟩ w hE hK
  rw [show parseL (ByteArray.mk wakeE.toArray).data.toList = .ok wakeG from wakeEL] at this
  exact this)
 clear hE hK
 go_enter Tryz.func31, Tryz.ntmps31
 go_wp2_with (go_at_call 10; refine CP.out.mono ?_; rintro e w1 ⟨⟨⟨g, rfl, hF⟩, -⟩, hb⟩; have B := hid (chain hb (Nat.le_refl _) ((Below.refl w1.heap.size w1).alloc (Nat.le_refl _) (.cells #[.int .i64 0, .int .i64 0] 25))); have F := hid (hF.below ((Below.refl w1.heap.size w1).alloc (Nat.le_refl _) (.cells #[.int .i64 0, .int .i64 0] 25))); obtain ⟨ac, cc, bs', cs, ax, cx, at', ct, e1, e2, e3, e4, h1, h2, h3, h4, hg⟩ := F.out.look; obtain ⟨kt, av, cv, rfl, tk, t0, t1, t2, t3, t4, t5, t6⟩ := ts_at h4 (i := 0) (x := ⟨1, 0, false, [], [], 4, -1, []⟩) rfl; rw [show wakeG.g.ts.length = 1 from rfl] at e4; replace t5 : (w1.alloc (.cells #[.int .i64 0, .int .i64 0] 25)).cell? ⟨kt, 5, none⟩ = some (.int .i64 4) := t5; clear hF hb h1 h2 h3 h4 t0 t1 t2 t3 t4 t6)
 generalize w1.alloc (.cells #[.int .i64 0, .int .i64 0] 25) = W at *
 go_quiet (fail)
 go_wp2_with fail
 go_ret2
 exact ⟨g, rfl, (F.out.fx (by decide) wakeKids).below (bdrewN (Below.refl _ W) _), bdrewN B.out _⟩
set_option maxHeartbeats 4000000 in
set_option maxRecDepth 100000 in
theorem wakes_ex (w : World) (hE : Env w) (hK : KEnv (fun b => b < w.heap.size) w) :
  Calls Tryz.prog 23 #[] w fun e w' => e = .returned (.bool true) ∧ Below w.heap.size w w' := by
 have CO := hid (of_wake w hE hK)
 clear hE hK
 go_enter Tryz.func23, Tryz.ntmps23
 go_upto_region 2 with (go_at_call 31; refine CO.out.mono ?_; rintro e w1 ⟨g, rfl, hF, hb⟩; have F1 := hid hF; have B1 := hid hb; clear hF hb)
 have n1 := World.alloc_heap_new w1 (.cells #[.string ⟨#[110]⟩, .int .u64 3] 85)
 have b1 := (Below.refl w1.heap.size w1).alloc (Nat.le_refl _) (.cells #[.string ⟨#[110]⟩, .int .u64 3] 85)
 have s1 : (w1.alloc (.cells #[.string ⟨#[110]⟩, .int .u64 3] 85)).heap.size = w1.heap.size + 1 := by simp
 have CE := hid (Eval_any g 1 wakeX 4 (.slice (some ⟨w1.heap.size, 0, none⟩) 1 1) [([110], 3)] _ (F1.out.below b1) (by omega)
  ⟨_, _, rfl, by simp, fun i x hx => by
   cases i with
   | succ i => simp at hx
   | zero => simp at hx; subst hx; exact ⟨w1.heap.size, rfl, by omega, (show Duo _ _ _ _ _ from n1).c0, (show Duo _ _ _ _ _ from n1).c1⟩⟩ wakeW (by intro u hu; simp at hu; subst hu; exact ⟨by decide, by decide⟩))
 have B2 := hid (B1.out.trans (b1.mono B1.out.size))
 unfold EvalPost at CE
 rw [wakeV1] at CE
 clear n1 b1
 go_upto_region 3 with (go_at_call 25; refine CE.out.mono ?_; rintro e w2 ⟨rfl, hb⟩; have B3 := hid (B2.out.trans (hb.mono B2.out.size)); have B13 := hid (((Below.refl w1.heap.size w1).alloc (Nat.le_refl _) (.cells #[.string ⟨#[110]⟩, .int .u64 3] 85)).trans (hb.mono (by omega))); clear hb)
 have n2 := World.alloc_heap_new w2 (.cells #[.string ⟨#[110]⟩, .int .u64 3, .string ⟨#[110]⟩, .int .u64 0] 85)
 have b2 := (Below.refl w2.heap.size w2).alloc (Nat.le_refl _) (.cells #[.string ⟨#[110]⟩, .int .u64 3, .string ⟨#[110]⟩, .int .u64 0] 85)
 have s2 : (w2.alloc (.cells #[.string ⟨#[110]⟩, .int .u64 3, .string ⟨#[110]⟩, .int .u64 0] 85)).heap.size = w2.heap.size + 1 := by simp
 have CF := hid (Eval_any g 1 wakeX 4 (.slice (some ⟨w2.heap.size, 0, none⟩) 2 2) [([110], 3), ([110], 0)] _ ((F1.out.below B13.out).below b2) (by omega)
  ⟨_, _, rfl, by simp, fun i x hx => by
   match i, hx with
   | 0, hx => simp at hx; subst hx; exact ⟨w2.heap.size, rfl, by omega, by rw [cell_of_row _ _ _ _ _ (0, 0) n2]; rfl, by rw [cell_of_row _ _ _ _ _ (0, 0) n2]; rfl⟩
   | 1, hx => simp at hx; subst hx; exact ⟨w2.heap.size, rfl, by omega, by rw [cell_of_row _ _ _ _ _ (0, 0) n2]; rfl, by rw [cell_of_row _ _ _ _ _ (0, 0) n2]; rfl⟩
   | i + 2, hx => simp at hx⟩ wakeW (by intro u hu; simp at hu; rcases hu with rfl | rfl <;> exact ⟨by decide, by decide⟩))
 have B4 := hid (B3.out.trans (b2.mono B3.out.size))
 unfold EvalPost at CF
 rw [wakeV2] at CF
 clear n2 b2
 go_upto_region 4 with (go_at_call 25; refine CF.out.mono ?_; rintro e w3 ⟨rfl, hb⟩; have B5 := hid (B4.out.trans (hb.mono B4.out.size)); clear hb)
 have CN := hid (Eval_nil 0 none 0 0 w3)
 go_wp2_with (go_at_call 25; refine CN.out.mono ?_; rintro e w4 ⟨rfl, hb⟩; have B6 := hid (B5.out.trans (hb.mono B5.out.size)); clear hb)
 go_ret
 exact ⟨rfl, B6.out⟩
end Go.Proofs.YtmhmfdnoadjibaaGreatDoor
