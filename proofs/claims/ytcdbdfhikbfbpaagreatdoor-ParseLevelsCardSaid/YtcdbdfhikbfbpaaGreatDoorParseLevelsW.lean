/- The walk of the law ParseLevels. -/
import Derived.Test.YtcdbdfhikbfbpaaGreatDoorParWk
import Derived.Deep.QuietTactic
import Derived.Deep.RegionWith
import Derived.Laws.IdiomStrings
namespace Go.Proofs.YtcdbdfhikbfbpaaGreatDoor
open Go.ChangeShapes Go.WideShapes Go.ChangeAt Go.RowKit
set_option linter.unusedVariables false

def opRow : Array Value := ((List.range 17).map fun i => Value.string (bs (opA i))).toArray
theorem op_cells (w : World) {i : Nat} (hi : i < 17) : (w.alloc (.cells opRow 9)).cell? ⟨w.heap.size, i, none⟩ = some (.string (bs (opA i))) := by
  rw [cell_of_row _ _ _ _ _ (0, 0) (heap_alloc_new w _)]
  unfold opRow
  rw [List.getElem?_toArray, List.getElem?_map, List.getElem?_range hi]; rfl
theorem op_len : ∀ i < 17, (opA i).length ≤ 2 := by decide
theorem lev_kids (a b : List UInt8) : ∀ (j : Nat) (x : XM), (levX a b)[j]? = some x → ∀ c ∈ x.kids, c < 4 := by
  intro j x hx
  have hm := List.mem_of_getElem? hx
  unfold levX at hm
  split at hm
  all_goals
    simp only [List.mem_cons, List.mem_nil_iff, or_false] at hm
    rcases hm with rfl | rfl | rfl | rfl | rfl <;> simp
theorem lev_len (a b : List UInt8) : (levX a b).length = 5 := by unfold levX; split <;> rfl
set_option maxHeartbeats 4000000 in
set_option maxRecDepth 100000 in
theorem ParseLevels_walk (n m : Int) (w : World) (n0 : 0 ≤ n) (n1 : n ≤ 255) (m0 : 0 ≤ m) (m1 : m ≤ 255) (hE : Env w) (hK : KEnv (fun b => b < w.heap.size) w) :
    Calls Tryz.prog 8 #[.int .u8 n, .int .u8 m] w fun e w' => e = .returned (.bool true) ∧ Below w.heap.size w w' := by
  obtain ⟨I, hI⟩ : ∃ I : Nat, n % 17 = I := ⟨(n % 17).toNat, by omega⟩
  obtain ⟨J, hJ⟩ : ∃ J : Nat, m % 17 = J := ⟨(m % 17).toNat, by omega⟩
  have hi : I < 17 := by omega
  have hw1 : IntKind.i64.wrap n = n := IntWalk.i64_in _ (by omega)
  have hw2 : IntKind.i64.wrap m = m := IntWalk.i64_in _ (by omega)
  have ht1 : n.tmod 17 = (I : Int) := by rw [Int.tmod_eq_emod_of_nonneg (by omega)]; exact hI
  have ht2 : m.tmod 17 = (J : Int) := by rw [Int.tmod_eq_emod_of_nonneg (by omega)]; exact hJ
  have hj : J < 17 := by omega
  have hi2 : (I : Int) < 17 := by omega
  have hj2 : (J : Int) < 17 := by omega
  have cI := op_cells w hi
  have cJ := op_cells w hj
  have hL := levL I hi J hj
  have za : (bs (opA I)).size ≤ 2 := op_len I hi
  have zb : (bs (opA J)).size ≤ 2 := op_len J hj
  generalize opA I = a at cI hL za
  generalize opA J = b at cJ hL zb
  obtain ⟨X, hX⟩ : ∃ X, (⟨#[115, 116, 114, 117, 99, 116, 32, 83, 32, 123, 32, 97, 58, 32, 98, 121, 116, 101, 115, 91, 120, 32]⟩ : ByteArray) ++ bs a ++ ⟨#[32, 121, 32]⟩ ++ bs b ++ ⟨#[32, 122, 93, 59, 32, 125]⟩ = X := ⟨_, rfl⟩
  have CP := Lib.hid fun w hE hK => (Parse_any X w hE hK).mono (R' := fun e w' => (∃ g, e = .returned (.tuple #[.pointer (some ⟨g, 1, none⟩), .agg #[.int .i64 0, .int .i64 0], .int .i64 0]) ∧ FileR g w' (levF a b)) ∧ Below w.heap.size w w') fun e w' ⟨h1, h2⟩ => by
    rw [show X.data.toList = levT1 ++ a ++ levT2 ++ b ++ levT3 by rw [← hX, append_list, append_list, append_list, append_list]; rfl, hL] at h1
    exact ⟨h1.1, h2⟩
  have HE := Lib.hid hE
  have HK := Lib.hid hK
  have HW := Lib.hid fun w hE hK => wakes_any w hE hK
  have hB0 := below_box w (.cells opRow 9)
  clear hE hK hL hI hJ
  go_enter Tryz.func8, Tryz.ntmps8
  go_wp2_with fail
  change Code.wp _ _ _ _ (w.alloc (.cells opRow 9))
  generalize w.alloc (.cells opRow 9) = W at cI cJ hB0 ⊢
  generalize w.heap.size = g0 at cI cJ ⊢
  go_quiet (fail)
  all_goals go_wp2_with (first | (go_at_call 10; refine (CP.out _ (HE.out.below (hB0.trans (below_drewN _ _ _))) (HK.out.low (hB0.trans (below_drewN _ _ _)))).mono ?_; rintro e w1 ⟨⟨g, rfl, hF⟩, hb⟩; have F1 := Lib.hid (hF.below (below_box w1 (.cells #[.int .i64 0, .int .i64 0] 24))); have B1 := Lib.hid (chain (chain (hB0.trans (below_drewN _ _ _)) (Nat.le_refl _) hb) (Nat.le_refl _) (below_box w1 (.cells #[.int .i64 0, .int .i64 0] 24))); clear hF hb) | (go_at_call 12; refine (HW.out _ (HE.out.below B1.out) (HK.out.low B1.out)).mono ?_; rintro e w3 ⟨rfl, hb3⟩; have F3 := Lib.hid (F1.out.below hb3); have B3 := Lib.hid (chain B1.out (Nat.le_refl _) hb3); obtain ⟨ac, cc, as', cs, ax, cx, at', ct, e1, e2, e3, e4, h1, h2, h3, h4, hg⟩ := F3.out.look; rw [show (levF a b).g.xs.length = 5 from lev_len a b] at e3 h3; rw [show (levF a b).g.ts.length = 1 from rfl] at e4 h4; obtain ⟨kt, av, cv, rfl, -, -, -, -, -, -, t5, -⟩ := ts_at h4 (i := 0) (x := ⟨1, 0, false, [], [], 4, -1, []⟩) rfl; obtain ⟨top, ht⟩ : ∃ top, (levX a b)[4]? = some top := ⟨_, List.getElem?_eq_getElem (by rw [lev_len]; omega)⟩; obtain ⟨kx, kv, rfl, hkx, x0, x1, x2, x3, x4, hkv⟩ := xs_at h3 (i := 4) ht; obtain ⟨ka, kc, rfl, -⟩ := hkv.shape; have y3 := (World.cell?_alloc_lt (w := w3) (a := ⟨g, 3, none⟩) (.cells #[.int .i64 top.k, .string (bs top.op), .int .u64 top.n, .string (bs top.s), .slice ka top.kids.length kc] 68) hg).trans e3; clear hb3))
  have hT : (w3.alloc (.cells #[.int .i64 top.k, .string (bs top.op), .int .u64 top.n, .string (bs top.s), .slice ka top.kids.length kc] 68)).heap[w3.heap.size]? = some (.cells #[.int .i64 top.k, .string (bs top.op), .int .u64 top.n, .string (bs top.s), .slice ka top.kids.length kc] 68 (0, 0)) := heap_alloc_new w3 _
  have hbx := below_box w3 (.cells #[.int .i64 top.k, .string (bs top.op), .int .u64 top.n, .string (bs top.s), .slice ka top.kids.length kc] 68)
  have F4 := Lib.hid (F3.out.below hbx)
  have B4 := Lib.hid (chain B3.out (Nat.le_refl _) hbx)
  have S4 := Lib.hid (h3.below XrC.kept hbx)
  have S5 := Lib.hid (hkv.below IntC.kept hbx)
  clear e1 e2 e3 e4 t5 x0 x1 x2 x3 x4 y3 h1 h2 h3 h4 hkv hkx hg hbx F1 F3 B1 B3
  generalize w3.alloc (.cells #[.int .i64 top.k, .string (bs top.op), .int .u64 top.n, .string (bs top.s), .slice ka top.kids.length kc] 68) = W4 at hT F4 B4 S4 S5 ⊢
  generalize w3.heap.size = t at hT ⊢
  have HT := Lib.hid hT
  have Ht := Lib.hid ht
  have kk := lev_kids a b
  have KK := Lib.hid kk
  clear hT ht kk
  go_loopw [94] (fun s94 wr => ∃ j : Nat, s94 = .int .i64 j ∧ j ≤ 5 ∧ Below W4.heap.size W4 wr) (fun s94 _ => 5 - (intOf s94).toNat)
  case atStart => exact ⟨0, rfl, by omega, Below.refl _ _⟩
  case round =>
    obtain ⟨j, rfl, hj5, hbj⟩ := hrel
    by_cases hlt : j < 5
    · obtain ⟨x, hx⟩ : ∃ x, (levX a b)[j]? = some x := ⟨_, List.getElem?_eq_getElem (by rw [lev_len]; exact hlt)⟩
      obtain ⟨_, kv, e0, hkx, x0, x1, x2, x3, x4, hkv⟩ := xs_at (S4.out.below XrC.kept hbj) hx
      cases e0
      have hc4 := KK.out j x hx
      obtain ⟨ka2, kc2, rfl, hl1, hl2⟩ := hkv.shape
      unfold maxLen at hl2
      have S6 := Lib.hid (hkv.below IntC.kept (below_box wr (.cells #[.int .i64 x.k, .string (bs x.op), .int .u64 x.n, .string (bs x.s), .slice ka2 x.kids.length kc2] 68)))
      have B6 := Lib.hid (chain hbj (Nat.le_refl _) (below_box wr (.cells #[.int .i64 x.k, .string (bs x.op), .int .u64 x.n, .string (bs x.s), .slice ka2 x.kids.length kc2] 68)))
      have HC := Lib.hid hc4
      have hdj : decide ((j : Int) < 5) = true := by simp; omega
      clear hx hkv hbj hc4
      go_wp2_with fail
      generalize wr.alloc (.cells #[.int .i64 x.k, .string (bs x.op), .int .u64 x.n, .string (bs x.s), .slice ka2 x.kids.length kc2] 68) = W6 at S6 B6 ⊢
      clear x0 x1 x2 x3 x4 hkx
      go_loopw [101] (fun s101 wr' => ∃ i : Nat, s101 = .int .i64 i ∧ i ≤ x.kids.length ∧ wr' = W6) (fun s101 _ => x.kids.length - (intOf s101).toNat)
      case atStart => exact ⟨0, rfl, by omega, rfl⟩
      case round =>
        obtain ⟨i, rfl, hi, rfl⟩ := hrel
        by_cases hil : i < x.kids.length
        · obtain ⟨c, hc⟩ : ∃ c, x.kids[i]? = some c := ⟨_, List.getElem?_eq_getElem hil⟩
          obtain ⟨kk, rfl, hkk, k0⟩ := ints_at S6.out hc
          have hc1 : (c : Int) < 4 := by have := HC.out c (List.mem_of_getElem? hc); omega
          clear hc
          go_wp2_with fail
          go_roundw
          case rel => exact ⟨i + 1, by go_num, by omega, trivial⟩
          case measure => simp [intOf]; omega
        · obtain rfl : i = x.kids.length := by omega
          go_wp2_with fail
          go_roundw
          case rel => exact ⟨j + 1, by go_num, by omega, B6.out⟩
          case measure => simp [intOf]; omega
    · obtain rfl : j = 5 := by omega
      have hz0 : IntKind.i64.wrap 0 = 0 := IntWalk.i64_in _ (by omega)
      have hz1 : IntKind.i64.wrap 1 = 1 := IntWalk.i64_in _ (by omega)
      have LA := Lib.hid fun w => Level_any a w
      have LB := Lib.hid fun w => Level_any b w
      by_cases hlv : levelL a < levelL b
      · have hlv2 : (levelL a : Int) < levelL b := by omega
        have hX : levX a b = [⟨1, [], 0, [120], []⟩, ⟨1, [], 0, [121], []⟩, ⟨1, [], 0, [122], []⟩, ⟨3, b, 0, [], [1, 2]⟩, ⟨3, a, 0, [], [0, 3]⟩] := by unfold levX; rw [if_pos hlv]
        have ht := Ht.out
        rw [hX] at ht
        simp only [List.getElem?_cons_succ, List.getElem?_cons_zero, Option.some.injEq] at ht
        subst ht
        have hF := F4.out.below hbj
        obtain ⟨ac, cc, as', cs', ax, cx', at', ct, e1, e2, e3, e4, h1, h2, h3, h4, hg⟩ := hF.look
        rw [show (levF a b).g.xs.length = 5 from lev_len a b] at e3 h3
        have h3' := h3
        rw [show (levF a b).g.xs = _ from hX] at h3
        obtain ⟨kz, kv, rfl, hkx, o0, o1, -, -, o4, -⟩ := xs_at h3 (i := 3) rfl
        obtain ⟨_, kv2, e0, -, p0, -⟩ := xs_at h3 (i := 0) rfl
        cases e0
        have hkd := S5.out.below IntC.kept hbj
        obtain ⟨kk, rfl, hkk, d0⟩ := ints_at hkd (i := 0) rfl
        obtain ⟨_, e0, -, d1⟩ := ints_at hkd (i := 1) rfl
        cases e0
        have hTT := (hbj.block t (Array.getElem?_eq_some_iff.1 HT.out).1).trans HT.out
        have q0 : wr.cell? ⟨t, 0, none⟩ = some (.int .i64 3) := by rw [cell_of_row _ _ _ _ _ (0, 0) hTT]; rfl
        have q1 : wr.cell? ⟨t, 1, none⟩ = some (.string (bs a)) := by rw [cell_of_row _ _ _ _ _ (0, 0) hTT]; rfl
        have q4 : wr.cell? ⟨t, 4, none⟩ = some (.slice (some ⟨kk, 0, none⟩) 2 kc) := by rw [cell_of_row _ _ _ _ _ (0, 0) hTT]; rfl
        have d0 : wr.cell? ⟨kk, 0, none⟩ = some (.int .i64 0) := d0
        have d1 : wr.cell? ⟨kk, 1, none⟩ = some (.int .i64 3) := d1
        have o1 : wr.cell? ⟨kz, 16, none⟩ = some (.string (bs b)) := o1
        have p0 : wr.cell? ⟨kz, 0, none⟩ = some (.int .i64 1) := p0
        have qa := fun t => beq_bs a t
        have qb := fun t => beq_bs b t
        have BB := Lib.hid (chain B4.out (Nat.le_refl _) hbj)
        clear hbj hF h1 h2 h3 h3' h4 hkd hTT e1 e2 e4 S4 S5 F4 B4 HT Ht KK
        go_wp2_with (go_at_call 18; first | (with_reducible refine (LA.out _).mono ?_; rintro e w8 ⟨rfl, rfl⟩) | (with_reducible refine (LB.out _).mono ?_; rintro e w8 ⟨rfl, rfl⟩))
        go_quiet (fail)
        all_goals go_wp2_with fail
        all_goals go_ret
        all_goals exact ⟨rfl, chain BB.out (Nat.le_refl _) (below_drewN _ _ _)⟩
      · have hlv2 : ¬ (levelL a : Int) < levelL b := by omega
        have hX : levX a b = [⟨1, [], 0, [120], []⟩, ⟨1, [], 0, [121], []⟩, ⟨3, a, 0, [], [0, 1]⟩, ⟨1, [], 0, [122], []⟩, ⟨3, b, 0, [], [2, 3]⟩] := by unfold levX; rw [if_neg hlv]
        have ht := Ht.out
        rw [hX] at ht
        simp only [List.getElem?_cons_succ, List.getElem?_cons_zero, Option.some.injEq] at ht
        subst ht
        have hF := F4.out.below hbj
        obtain ⟨ac, cc, as', cs', ax, cx', at', ct, e1, e2, e3, e4, h1, h2, h3, h4, hg⟩ := hF.look
        rw [show (levF a b).g.xs.length = 5 from lev_len a b] at e3 h3
        have h3' := h3
        rw [show (levF a b).g.xs = _ from hX] at h3
        obtain ⟨kz, kv, rfl, hkx, o0, o1, -, -, o4, -⟩ := xs_at h3 (i := 2) rfl
        obtain ⟨_, kv2, e0, -, p0, -⟩ := xs_at h3 (i := 3) rfl
        cases e0
        have hkd := S5.out.below IntC.kept hbj
        obtain ⟨kk, rfl, hkk, d0⟩ := ints_at hkd (i := 0) rfl
        obtain ⟨_, e0, -, d1⟩ := ints_at hkd (i := 1) rfl
        cases e0
        have hTT := (hbj.block t (Array.getElem?_eq_some_iff.1 HT.out).1).trans HT.out
        have q0 : wr.cell? ⟨t, 0, none⟩ = some (.int .i64 3) := by rw [cell_of_row _ _ _ _ _ (0, 0) hTT]; rfl
        have q1 : wr.cell? ⟨t, 1, none⟩ = some (.string (bs b)) := by rw [cell_of_row _ _ _ _ _ (0, 0) hTT]; rfl
        have q4 : wr.cell? ⟨t, 4, none⟩ = some (.slice (some ⟨kk, 0, none⟩) 2 kc) := by rw [cell_of_row _ _ _ _ _ (0, 0) hTT]; rfl
        have d0 : wr.cell? ⟨kk, 0, none⟩ = some (.int .i64 2) := d0
        have d1 : wr.cell? ⟨kk, 1, none⟩ = some (.int .i64 3) := d1
        have o1 : wr.cell? ⟨kz, 11, none⟩ = some (.string (bs a)) := o1
        have p0 : wr.cell? ⟨kz, 15, none⟩ = some (.int .i64 1) := p0
        have qa := fun t => beq_bs a t
        have qb := fun t => beq_bs b t
        have BB := Lib.hid (chain B4.out (Nat.le_refl _) hbj)
        clear hbj hF h1 h2 h3 h3' h4 hkd hTT e1 e2 e4 S4 S5 F4 B4 HT Ht KK
        go_wp2_with (go_at_call 18; first | (with_reducible refine (LA.out _).mono ?_; rintro e w8 ⟨rfl, rfl⟩) | (with_reducible refine (LB.out _).mono ?_; rintro e w8 ⟨rfl, rfl⟩))
        go_quiet (fail)
        all_goals go_wp2_with fail
        all_goals go_ret
        all_goals exact ⟨rfl, chain BB.out (Nat.le_refl _) (below_drewN _ _ _)⟩
end Go.Proofs.YtcdbdfhikbfbpaaGreatDoor
