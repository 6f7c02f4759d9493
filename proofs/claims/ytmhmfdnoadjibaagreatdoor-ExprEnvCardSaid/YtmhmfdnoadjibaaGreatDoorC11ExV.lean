/- Layer 10: the walk of the law ExprEnv. -/
import Derived.Test.YtmhmfdnoadjibaaGreatDoorC11ExO
import Derived.Test.YtmhmfdnoadjibaaGreatDoorC11ExH
set_option linter.unusedVariables false
set_option linter.unusedSimpArgs false
namespace Go.Proofs.YtmhmfdnoadjibaaGreatDoor
open Go.Lib (hid)
open Go.ChangeShapes Go.WideShapes Go.ChangeAt Go.RowKit
def FileC (w : World) (g : Nat) (v : Value) : Prop := w.heap[g]? = some (.cells #[v, .slice none 0 0, .slice none 0 0, .slice none 0 0] 35 (0, 0))
theorem FileC.cells {w : World} {g : Nat} {v : Value} (h : FileC w g v) : w.cell? ⟨g, 0, none⟩ = some v ∧ ∀ j, w.frozen? ⟨g, j, none⟩ = false := by
 unfold FileC at h
 refine ⟨?_, fun j => by simp [World.frozen?, h]⟩
 rw [cell_of_row _ _ _ _ _ (0, 0) h]; rfl
theorem FileC.set {w : World} {g : Nat} {v : Value} (h : FileC w g v) (u : Value) : FileC (w.setCell ⟨g, 0, none⟩ u) g u := cell_set_row h (by simp) _
theorem FileC.ne {w : World} {g B : Nat} {u v : Value} {e : TypeId} {s n : Nat} {xs : List Value} (h : FileC w g u) (h' : w.ownsRow B e s v n xs) (hne : e ≠ 35) : v.ownBlock ≠ some g := by
 rcases h'.2 with ⟨rfl, _⟩ | ⟨g', cap', cur', rfl, _, hg', _⟩
 ·simp [Value.ownBlock]
 ·intro q
  simp [Value.ownBlock] at q
  subst q
  rw [show w.heap[_]? = _ from h] at hg'
  cases hg'
  exact hne rfl
def TwoS (b : Nat) (c0 c1 : Value) (w : World) : Prop := w.cell? ⟨b, 0, none⟩ = some c0 ∧ w.cell? ⟨b, 1, none⟩ = some c1
section
variable {b : Nat} {c0 c1 : Value} {w w' : World}
theorem TwoS.same (h : TwoS b c0 c1 w) (e : w'.heap[b]? = w.heap[b]?) : TwoS b c0 c1 w' :=
 ⟨(World.cell?_of_block (a := ⟨b, 0, none⟩) e).trans h.1, (World.cell?_of_block (a := ⟨b, 1, none⟩) e).trans h.2⟩
theorem TwoS.lt (h : TwoS b c0 c1 w) : b < w.heap.size := World.block_lt_of_cell? w _ h.1
theorem TwoS.alloc (h : TwoS b c0 c1 w) (o : Obj) : TwoS b c0 c1 (w.alloc o) := h.same (Below.heap_alloc _ _ _ h.lt)
theorem TwoS.grown {row : Option Nat} (h : TwoS b c0 c1 w) (hg : w.grownBy w' row) (hne : row ≠ some b) : TwoS b c0 c1 w' := h.same (hg.block b h.lt (fun e => hne e.symm))
theorem TwoS.set (h : TwoS b c0 c1 w) {g j : Nat} (hne : g ≠ b) (u : Value) : TwoS b c0 c1 (w.setCell ⟨g, j, none⟩ u) := h.same (Below.heap_setCell _ _ _ _ (fun e => hne e.symm))
end
theorem bs_app (a b : List UInt8) : bs a ++ bs b = bs (a ++ b) := by
 apply ByteArray.ext
 apply Array.ext'
 rw [ByteArray.data_append, Array.toList_append]
 rfl
theorem getE_same (en : EnvL) (S : List UInt8) (n : Int) : getE (en ++ [(S, n)]) S = some n := by rw [getE_app]; simp [getE]
theorem getE_other (en : EnvL) (S T : List UInt8) (n : Int) (h : T ≠ S) : getE (en ++ [(T, n)]) S = getE en S := by rw [getE_app, getE_off (e := [(T, n)]) (fun u hu => by simp at hu; subst hu; exact h), Option.none_or]
set_option maxHeartbeats 4000000 in
set_option maxRecDepth 100000 in
theorem ExprEnv_walk (a2 : Option Addr) (c2 : Nat) (e : EnvL) (s : ByteArray) (n : Int) (w : World) (hV : ArgV w a2 c2 e) (hs : s.size ≤ reachBytes) (hn0 : 0 ≤ n) (hn1 : n ≤ 18446744073709551615) (hE : Env w) (hK : KEnv (fun b => b < w.heap.size) w) :
  Calls Tryz.prog 7 #[.slice a2 e.length c2, .string s, .int .u64 n] w fun q w' => q = .returned (.bool true) ∧ Below w.heap.size w w' := by
 obtain ⟨i0, hi, hz0, hz1, hz2⟩ := info_parts ex_info_const
 have hen : (e.take 20).length ≤ 20 := by rw [List.length_take]; omega
 have CV := hid (envs_any a2 c2 e w hV)
 have HW := hid fun w' (hb : Below w.heap.size w w') => wakes_ex w' (hE.below hb) (hK.low hb)
 obtain ⟨en, heq⟩ : ∃ en, e.take 20 = en := ⟨_, rfl⟩
 rw [heq] at hen CV
 obtain ⟨S, rfl⟩ : ∃ S : List UInt8, s = ⟨S.toArray⟩ := ⟨s.data.toList, rfl⟩
 have hss : (⟨S.toArray⟩ : ByteArray).size = S.length := by simp [ByteArray.size]
 rw [hss] at hs
 have hs' : (S.length : Int) ≤ 140737488355328 := by unfold reachBytes at hs; omega
 have HEN := hid hen
 have HSS := hid hss
 have hn20 : (en.length : Int) ≤ 20 := by omega
 obtain ⟨x0, hx0⟩ : ∃ x, (getE en S).getD 0 = x := ⟨_, rfl⟩
 obtain ⟨b0, hb0⟩ : ∃ b, (getE en S).isSome = b := ⟨_, rfl⟩
 have HX0 := hid hx0
 have HB0 := hid hb0
 clear hV hE hK heq hen hs hss hx0 hb0
 go_enter Tryz.func7, Tryz.ntmps7
 go_upto_region 2 with (go_at_call 24; refine CV.out.mono ?_; rintro q w2 ⟨v1, v3, rfl, hO, hD, hb2⟩; obtain ⟨va, vc, rfl⟩ := hO.shape; have HO := hid hO; have HD := hid hD; have HB2 := hid hb2; have CG := hid (Get_any _ en S w2 (hO.at (by have := HEN.out; omega))); rw [HX0.out, HB0.out] at CG; clear hO hD hb2 CV)
 go_upto_region 3 with (go_at_call 27; refine CG.out.mono ?_; rintro q w3 ⟨rfl, hb3⟩; have HO3 := hid (HO.out.below hb3); have HD3 : Hid (EnvD w.heap.size w3 v3 en) := hid (ownsRow_below HD.out hb3); have HB3 := hid (HB2.out.trans (hb3.mono HB2.out.size)); have CD := hid (dGet_any _ v3 en S w3 HD3.out (by have := HEN.out; omega)); rw [HX0.out, HB0.out] at CD; clear hb3 CG HO HD HB2)
 go_upto_region 4 with (go_at_call 28; refine CD.out.mono ?_; rintro q w4 ⟨rfl, hb4⟩; have HO4 := hid (HO3.out.below hb4); have HB4 := hid (HB3.out.trans (hb4.mono HB3.out.size)); have CW := hid (With_any _ en S n w4 (HO4.out.at (by have := HEN.out; omega)) (by have := HEN.out; omega)); clear hb4 CD HO3 HD3 HB3)
 go_upto_region 5 with (first
  | (go_at_call 29; go_must (refine CW.out.mono ?_; rintro q w5 ⟨v5, rfl, hO5, hb5⟩; obtain ⟨ja, jc, rfl⟩ := hO5.shape; have HO5 := hid (HO4.out.below hb5); have HB5 := hid (HB4.out.trans (hb5.mono HB4.out.size)); have he5 : EnvAt w5.heap.size w5 (.slice ja (en.length + 1) jc) (en ++ [(S, n)]) := (by have h := hO5.at (by simp; have := HEN.out; omega); rw [List.length_append] at h; exact h); have CG2 := hid (Get_any (.slice ja (en.length + 1) jc) (en ++ [(S, n)]) S w5 he5); rw [getE_same] at CG2; clear he5; clear hO5 hb5 CW HO4 HB4))
  | (go_at_call 27; go_must (refine CG2.out.mono ?_; rintro q w6 ⟨rfl, hb6⟩; have HO6 := hid (HO5.out.below hb6); have HB6 := hid (HB5.out.trans (hb6.mono HB5.out.size)); clear hb6 CG2 HO5 HB5)))
 have HF0 := hid (show FileC _ w6.heap.size (.slice none 0 0) from World.alloc_heap_new w6 (.cells #[.slice none 0 0, .slice none 0 0, .slice none 0 0, .slice none 0 0] 35))
 have HQ0 := hid ((Below.refl w6.heap.size w6).alloc (Nat.le_refl _) (.cells #[.slice none 0 0, .slice none 0 0, .slice none 0 0, .slice none 0 0] 35))
 go_upto_region 7 with fail
 generalize w6.alloc (.cells #[.slice none 0 0, .slice none 0 0, .slice none 0 0, .slice none 0 0] 35) = W0 at HF0 HQ0 ⊢
 go_loopw [52] (fun s52 wr => ∃ (i : Nat) (v : Value), s52 = .int .i64 i ∧ i ≤ en.length ∧ FileC wr w6.heap.size v ∧ ConF w6.heap.size wr v (en.take i) ∧ Below w6.heap.size w6 wr) (fun s52 _ => en.length - (intOf s52).toNat)
 case atStart => exact ⟨0, _, rfl, Nat.zero_le _, HF0.out, World.ownsRow_nil _ _ _ _, HQ0.out⟩
 case round =>
  clear HF0 HQ0
  obtain ⟨i, v, rfl, hin, hF, hC, hB⟩ := hrel
  have hqi : (en.take i).length = i := by rw [List.length_take]; omega
  unfold ConF at hC
  rw [hqi] at hC
  obtain ⟨ca, cc, rfl⟩ := ownsRow_shape hC
  by_cases hi2 : i < en.length
  ·have hi2' : (i : Int) < (en.length : Int) := by omega
   obtain ⟨x, hx⟩ : ∃ x, en[i]? = some x := ⟨_, List.getElem?_eq_getElem (by omega)⟩
   obtain ⟨kb, rfl, hkb, k0, k1⟩ := ((HO6.out.below hB).at (by omega)).at hx
   have HF := hid hF
   have HC := hid hC
   have HB := hid hB
   have HQ := hid hqi
   have HX := hid hx
   have hx0 := World.alloc_heap_new wr (.cells #[.string ⟨x.1.toArray⟩, .int .u64 x.2] 85)
   have hB5 := (Below.refl wr.heap.size wr).alloc (Nat.le_refl _) (.cells #[.string ⟨x.1.toArray⟩, .int .u64 x.2] 85)
   have hwr := hB.size
   clear hF hC hB hqi hx
   go_upto_region 9 with fail
   have HF5 := hid (show FileC _ _ _ from (hB5.block w6.heap.size (Array.getElem?_eq_some_iff.1 HF.out).1).trans HF.out)
   have HC5 := hid (ownsRow_below HC.out hB5)
   have HB5 := hid (HB.out.trans (hB5.mono HB.out.size))
   have hsz : (wr.alloc (.cells #[.string ⟨x.1.toArray⟩, .int .u64 x.2] 85)).heap.size = wr.heap.size + 1 := by simp
   clear hB5
   generalize wr.alloc (.cells #[.string ⟨x.1.toArray⟩, .int .u64 x.2] 85) = W6 at *
   have b0' := (show Duo _ _ _ _ _ from hx0).c0
   have b1' := (show Duo _ _ _ _ _ from hx0).c1
   obtain ⟨fc, ff⟩ := HF5.out.cells
   have ff2 := ff 0
   have la := World.ownsRow.lt HC.out
   have hn1 : i + 1 ≤ maxLen := by unfold maxLen; omega
   have hn2 : (i + 1) * 24 ≤ 140737488355328 := by omega
   have hone : ∀ u ∈ [Value.string ⟨x.1.toArray⟩, .int .u64 x.2], u.oneCell' = true := by intro u hu; simp at hu; rcases hu with rfl | rfl <;> rfl
   have hne := HF5.out.ne HC5.out (by decide)
   have hfb : w6.heap.size ≠ wr.heap.size := by have := (Array.getElem?_eq_some_iff.1 HF.out).1; omega
   have hwf : w6.heap.size < W6.heap.size := by have := (Array.getElem?_eq_some_iff.1 HF.out).1; omega
   have hvb : (Value.slice ca i cc).ownBlock ≠ some wr.heap.size := fun e => Nat.lt_irrefl _ (la _ e).2
   have fcA : (W6.alloc (.cells #[.string ⟨x.1.toArray⟩, .int .u64 x.2] 46)).cell? ⟨w6.heap.size, 0, none⟩ = some (.slice ca i cc) := by rw [World.cell?_alloc_lt _ _ _ hwf]; exact fc
   clear ff hx0
   refine wp_region_noPanic ?_
   refine wp_region_held_drew (S := TwoS wr.heap.size (.string ⟨x.1.toArray⟩) (.int .u64 x.2)) (by kernel_rfl) ⟨b0', b1'⟩ (fun hHeld => ?_)
   refine wpAnyH_take (i := 0) (oi := ?oi1) (v := (.pointer (some ⟨w6.heap.size, 0, none⟩))) ?hi1 (by kernel_rfl) (by kernel_rfl) (by kernel_rfl) (fun _ _ _ h => h) ?hy1 (by assumption) ?rest1
   case hi1 => (simp only [List.getElem?_toArray, List.getElem?_cons_succ, List.getElem?_cons_zero]; rfl)
   case hy1 => exact Or.inl ⟨by rfl, fun w' hS => by go_simp⟩
   try simp only [Act.put, List.setIfInBounds_toArray, List.set_cons_zero, List.set_cons_succ]
   refine wpAnyH_take (i := 1) (oi := ?oi2) (v := (.pointer (some ⟨w6.heap.size, 0, none⟩))) ?hi2 (by kernel_rfl) (by kernel_rfl) (by kernel_rfl) (fun _ _ _ h => h) ?hy2 (by assumption) ?rest2
   case hi2 => (simp only [List.getElem?_toArray, List.getElem?_cons_succ, List.getElem?_cons_zero]; rfl)
   case hy2 => exact Or.inl ⟨by rfl, fun w' hS => by go_simp⟩
   try simp only [Act.put, List.setIfInBounds_toArray, List.set_cons_zero, List.set_cons_succ]
   refine wpAnyH_take (i := 2) (oi := ?oi3) (v := (.pointer (some ⟨w6.heap.size, 0, none⟩))) ?hi3 (by kernel_rfl) (by kernel_rfl) (by kernel_rfl) (fun _ _ _ h => h) ?hy3 (by assumption) ?rest3
   case hi3 => (simp only [List.getElem?_toArray, List.getElem?_cons_succ, List.getElem?_cons_zero]; rfl)
   case hy3 => exact Or.inl ⟨by rfl, fun w' hS => by go_simp⟩
   try simp only [Act.put, List.setIfInBounds_toArray, List.set_cons_zero, List.set_cons_succ]
   refine wpAnyH_take (i := 3) (oi := ?oi4) (v := (.pointer (some ⟨w6.heap.size, 0, none⟩))) ?hi4 (by kernel_rfl) (by kernel_rfl) (by kernel_rfl) (fun _ _ _ h => h) ?hy4 (by assumption) ?rest4
   case hi4 => (simp only [List.getElem?_toArray, List.getElem?_cons_succ, List.getElem?_cons_zero]; rfl)
   case hy4 => exact Or.inl ⟨by rfl, fun w' hS => by go_simp⟩
   try simp only [Act.put, List.setIfInBounds_toArray, List.set_cons_zero, List.set_cons_succ]
   refine wpAnyH_take (i := 5) (oi := ?oi5) (v := (.agg #[.string ⟨x.1.toArray⟩, .int .u64 x.2])) ?hi5 (by kernel_rfl) (by kernel_rfl) (by kernel_rfl) (fun _ _ _ h => h) ?hy5 (by assumption) ?rest5
   case hi5 => (simp only [List.getElem?_toArray, List.getElem?_cons_succ, List.getElem?_cons_zero]; rfl)
   case hy5 => exact Or.inl ⟨by rfl, fun w' hS => by have hp := hS.1; have hq := hS.2; go_simp⟩
   try simp only [Act.put, List.setIfInBounds_toArray, List.set_cons_zero, List.set_cons_succ]
   refine wpAnyH_ready (rs := [4, 6]) (by kernel_rfl) (by simp) ?_
   refine AllReadyH.cons (o := ?oo6_0) ?hi6_0 (fun K hK => ?_) (AllReadyH.cons (o := ?oo6_1) ?hi6_1 (fun K hK => ?_) AllReadyH.nil)
   case hi6_0 => (simp only [List.getElem?_toArray, List.getElem?_cons_succ, List.getElem?_cons_zero]; rfl)
   case hi6_1 => (simp only [List.getElem?_toArray, List.getElem?_cons_succ, List.getElem?_cons_zero]; rfl)
   ·
    go_simp
    refine hK.out _ _ (by assumption) (fun hHeld => ?_)
    clear hK K
    try simp only [Act.put, List.setIfInBounds_toArray, List.set_cons_zero, List.set_cons_succ]
    refine wpAnyH_ready (rs := [6]) (by kernel_rfl) (by simp) ?_
    refine AllReadyH.cons (o := ?oo7_0) ?hi7_0 (fun K hK => ?_) AllReadyH.nil
    case hi7_0 => (simp only [List.getElem?_toArray, List.getElem?_cons_succ, List.getElem?_cons_zero]; rfl)
    go_simp
    refine hK.out _ _ (TwoS.alloc (by assumption) _) (fun hHeld => ?_)
    clear hK K
    try simp only [Act.put, List.setIfInBounds_toArray, List.set_cons_zero, List.set_cons_succ]
    refine wpAnyH_ready (rs := [7]) (by kernel_rfl) (by simp) ?_
    refine AllReadyH.cons (o := ?oo8_0) ?hi8_0 (fun K hK => ?_) AllReadyH.nil
    case hi8_0 => (simp only [List.getElem?_toArray, List.getElem?_cons_succ, List.getElem?_cons_zero]; rfl)
    refine step_row _ (by rfl) (.tmp 60) (.tmp 62) 30 (by rfl) w6.heap.size 46 i0 _ 2 24 Tryz.underlying30 hi hz0 hz1 hz2 rfl (by decide) (.slice ca i cc) i ((en.take i).flatMap vaC) (by rfl) (by exact World.ownsRow.alloc HC5.out _) _ _ [.string ⟨x.1.toArray⟩, .int .u64 x.2] (by rfl) rfl (by first | (rw [← hsz]; exact World.alloc_heap_new _ _) | exact World.alloc_heap_new _ _) hone hn1 hn2 (by simp; omega) ?_
    intro v1 w1 hown1 hgrow1
    obtain ⟨a1, c1, rfl⟩ := ownsRow_shape hown1
    have fb1 : FileC w1 w6.heap.size (.slice ca i cc) := (hgrow1.block w6.heap.size (by simp; omega) (fun q => hne q.symm)).trans ((Below.heap_alloc _ _ _ hwf).trans HF5.out)
    obtain ⟨gc, gf⟩ := fb1.cells
    have gf2 := gf 0
    clear gf
    refine hK.out _ _ (TwoS.grown hHeld hgrow1 hvb) (fun hHeld => ?_)
    clear hK K
    try simp only [Act.put, List.setIfInBounds_toArray, List.set_cons_zero, List.set_cons_succ]
    refine wpAnyH_take (i := 8) (oi := ?oi9) (v := (.pointer (some ⟨w6.heap.size, 0, none⟩))) ?hi9 (by kernel_rfl) (by kernel_rfl) (by kernel_rfl) (fun _ _ _ h => h) ?hy9 (by assumption) ?rest9
    case hi9 => (simp only [List.getElem?_toArray, List.getElem?_cons_succ, List.getElem?_cons_zero]; rfl)
    case hy9 => exact Or.inl ⟨by rfl, fun w' hS => by go_simp⟩
    try simp only [Act.put, List.setIfInBounds_toArray, List.set_cons_zero, List.set_cons_succ]
    refine wpAnyH_take (i := 9) (oi := ?oi10) (v := (.pointer (some ⟨w6.heap.size, 0, none⟩))) ?hi10 (by kernel_rfl) (by kernel_rfl) (by kernel_rfl) (fun _ _ _ h => h) ?hy10 (by assumption) ?rest10
    case hi10 => (simp only [List.getElem?_toArray, List.getElem?_cons_succ, List.getElem?_cons_zero]; rfl)
    case hy10 => exact Or.inl ⟨by rfl, fun w' hS => by go_simp⟩
    try simp only [Act.put, List.setIfInBounds_toArray, List.set_cons_zero, List.set_cons_succ]
    refine wpAnyH_ready (rs := [10]) (by kernel_rfl) (by simp) ?_
    refine AllReadyH.cons (o := ?oo11_0) ?hi11_0 (fun K hK => ?_) AllReadyH.nil
    case hi11_0 => (simp only [List.getElem?_toArray, List.getElem?_cons_succ, List.getElem?_cons_zero]; rfl)
    go_simp
    refine hK.out _ _ (TwoS.set (by assumption) hfb _) (fun hHeld => ?_)
    clear hK K
    try simp only [Act.put, List.setIfInBounds_toArray, List.set_cons_zero, List.set_cons_succ]
    refine wpAnyH_done (by kernel_rfl) ?_ _
    refine NoPanic.normal ?_
    have HF7 := hid (fb1.set (.slice a1 (i + 1) c1))
    have HC7 := hid (ownsRow_setCell_other hown1 (a := ⟨w6.heap.size, 0, none⟩) (fb1.ne hown1 (by decide)) (.slice a1 (i + 1) c1))
    have HB7 := hid ((Below.grown ((HB5.out.alloc (Nat.le_of_lt hwf) _).drew) hgrow1 (by simp; omega) (fun g hg => (la g hg).1)).setCell (p := ⟨w6.heap.size, 0, none⟩) (Nat.le_refl _) (.slice a1 (i + 1) c1))
    clear hown1 hgrow1 fb1 gc gf2 fcA ff2 fc hne
    go_wp2_with fail
    refine ⟨⟨i + 1, _, by go_num, hi2, HF7.out, ?_, HB7.out⟩, by simp [intOf]; omega⟩
    unfold ConF
    have h := HC7.out
    rw [flat_take en HX.out, List.length_append, HQ.out, List.flatMap_append]
    exact h
   ·
    go_simp
    refine hK.out _ _ (TwoS.alloc (by assumption) _) (fun hHeld => ?_)
    clear hK K
    try simp only [Act.put, List.setIfInBounds_toArray, List.set_cons_zero, List.set_cons_succ]
    refine wpAnyH_ready (rs := [4]) (by kernel_rfl) (by simp) ?_
    refine AllReadyH.cons (o := ?oo12_0) ?hi12_0 (fun K hK => ?_) AllReadyH.nil
    case hi12_0 => (simp only [List.getElem?_toArray, List.getElem?_cons_succ, List.getElem?_cons_zero]; rfl)
    go_simp
    refine hK.out _ _ (by assumption) (fun hHeld => ?_)
    clear hK K
    try simp only [Act.put, List.setIfInBounds_toArray, List.set_cons_zero, List.set_cons_succ]
    refine wpAnyH_ready (rs := [7]) (by kernel_rfl) (by simp) ?_
    refine AllReadyH.cons (o := ?oo13_0) ?hi13_0 (fun K hK => ?_) AllReadyH.nil
    case hi13_0 => (simp only [List.getElem?_toArray, List.getElem?_cons_succ, List.getElem?_cons_zero]; rfl)
    refine step_row _ (by rfl) (.tmp 60) (.tmp 62) 30 (by rfl) w6.heap.size 46 i0 _ 2 24 Tryz.underlying30 hi hz0 hz1 hz2 rfl (by decide) (.slice ca i cc) i ((en.take i).flatMap vaC) (by rfl) (by exact World.ownsRow.alloc HC5.out _) _ _ [.string ⟨x.1.toArray⟩, .int .u64 x.2] (by rfl) rfl (by first | (rw [← hsz]; exact World.alloc_heap_new _ _) | exact World.alloc_heap_new _ _) hone hn1 hn2 (by simp; omega) ?_
    intro v1 w1 hown1 hgrow1
    obtain ⟨a1, c1, rfl⟩ := ownsRow_shape hown1
    have fb1 : FileC w1 w6.heap.size (.slice ca i cc) := (hgrow1.block w6.heap.size (by simp; omega) (fun q => hne q.symm)).trans ((Below.heap_alloc _ _ _ hwf).trans HF5.out)
    obtain ⟨gc, gf⟩ := fb1.cells
    have gf2 := gf 0
    clear gf
    refine hK.out _ _ (TwoS.grown hHeld hgrow1 hvb) (fun hHeld => ?_)
    clear hK K
    try simp only [Act.put, List.setIfInBounds_toArray, List.set_cons_zero, List.set_cons_succ]
    refine wpAnyH_take (i := 8) (oi := ?oi14) (v := (.pointer (some ⟨w6.heap.size, 0, none⟩))) ?hi14 (by kernel_rfl) (by kernel_rfl) (by kernel_rfl) (fun _ _ _ h => h) ?hy14 (by assumption) ?rest14
    case hi14 => (simp only [List.getElem?_toArray, List.getElem?_cons_succ, List.getElem?_cons_zero]; rfl)
    case hy14 => exact Or.inl ⟨by rfl, fun w' hS => by go_simp⟩
    try simp only [Act.put, List.setIfInBounds_toArray, List.set_cons_zero, List.set_cons_succ]
    refine wpAnyH_take (i := 9) (oi := ?oi15) (v := (.pointer (some ⟨w6.heap.size, 0, none⟩))) ?hi15 (by kernel_rfl) (by kernel_rfl) (by kernel_rfl) (fun _ _ _ h => h) ?hy15 (by assumption) ?rest15
    case hi15 => (simp only [List.getElem?_toArray, List.getElem?_cons_succ, List.getElem?_cons_zero]; rfl)
    case hy15 => exact Or.inl ⟨by rfl, fun w' hS => by go_simp⟩
    try simp only [Act.put, List.setIfInBounds_toArray, List.set_cons_zero, List.set_cons_succ]
    refine wpAnyH_ready (rs := [10]) (by kernel_rfl) (by simp) ?_
    refine AllReadyH.cons (o := ?oo16_0) ?hi16_0 (fun K hK => ?_) AllReadyH.nil
    case hi16_0 => (simp only [List.getElem?_toArray, List.getElem?_cons_succ, List.getElem?_cons_zero]; rfl)
    go_simp
    refine hK.out _ _ (TwoS.set (by assumption) hfb _) (fun hHeld => ?_)
    clear hK K
    try simp only [Act.put, List.setIfInBounds_toArray, List.set_cons_zero, List.set_cons_succ]
    refine wpAnyH_done (by kernel_rfl) ?_ _
    refine NoPanic.normal ?_
    have HF7 := hid (fb1.set (.slice a1 (i + 1) c1))
    have HC7 := hid (ownsRow_setCell_other hown1 (a := ⟨w6.heap.size, 0, none⟩) (fb1.ne hown1 (by decide)) (.slice a1 (i + 1) c1))
    have HB7 := hid ((Below.grown ((HB5.out.alloc (Nat.le_of_lt hwf) _).drew) hgrow1 (by simp; omega) (fun g hg => (la g hg).1)).setCell (p := ⟨w6.heap.size, 0, none⟩) (Nat.le_refl _) (.slice a1 (i + 1) c1))
    clear hown1 hgrow1 fb1 gc gf2 fcA ff2 fc hne
    go_wp2_with fail
    refine ⟨⟨i + 1, _, by go_num, hi2, HF7.out, ?_, HB7.out⟩, by simp [intOf]; omega⟩
    unfold ConF
    have h := HC7.out
    rw [flat_take en HX.out, List.length_append, HQ.out, List.flatMap_append]
    exact h
  ·obtain rfl : i = en.length := by omega
   rw [List.take_length] at hC hqi
   have HO7 := hid (HO6.out.below hB)
   have HB7 := hid (HB6.out.trans (hB.mono HB6.out.size))
   have CC := hid (Consts_any w6.heap.size w6.heap.size _ en wr (Array.getElem?_eq_some_iff.1 hF).1 hF.cells.1 hC (by omega))
   have hi2' : ¬ ((en.length : Int) < (en.length : Int)) := by omega
   have nea : ¬ (en.length : Int) ≠ (en.length : Int) := by simp
   clear hF hC hB hqi HO6 HB6
   go_upto_region 12 with (go_at_call 30; go_must (refine CC.out.mono ?_; rintro q w8 ⟨v8, rfl, hO8, hb8⟩; obtain ⟨ka, kc, rfl⟩ := hO8.shape; have HO8 := hid (HO7.out.below hb8); have HB8 := hid (HB7.out.trans (hb8.mono HB7.out.size)); have HP8 := hid hO8; clear hO8 hb8 CC HO7 HB7))
   go_upto_region 15 with (go_at_call 30; go_must (refine (Consts_nil _).mono ?_; rintro q w9 ⟨rfl, hb9⟩; have HO9 := hid (HO8.out.below hb9); have HP9 := hid (HP8.out.below hb9); have HB9 := hid (HB8.out.trans (hb9.mono HB8.out.size)); clear hb9 HO8 HP8 HB8))
   clear nea
   go_loopw [81] (fun s81 wq => ∃ (i : Nat), s81 = .int .i64 i ∧ i ≤ en.length ∧ Below w9.heap.size w9 wq) (fun s81 _ => en.length - (intOf s81).toNat)
   case atStart => exact ⟨0, rfl, Nat.zero_le _, Below.refl _ _⟩
   case round =>
    obtain ⟨i, rfl, hin, hbq⟩ := hrel
    by_cases hi2 : i < en.length
    ·have hi2' : (i : Int) < (en.length : Int) := by omega
     obtain ⟨x, hx⟩ : ∃ x, en[i]? = some x := ⟨_, List.getElem?_eq_getElem (by omega)⟩
     obtain ⟨k1, rfl, hk1, p0, p1⟩ := ((HO9.out.below hbq).at (by omega)).at hx
     obtain ⟨k2, rfl, hk2, q0, q1⟩ := ((HP9.out.below hbq).at (by omega)).at hx
     have HBq := hid hbq
     clear hbq hx
     go_upto_region 17 with fail
     go_quiet (fail)
     go_wp2_with fail
     go_roundw
     case rel => exact ⟨i + 1, by go_num, by omega, bdrewN HBq.out _⟩
     case measure => simp [intOf]; omega
    ·obtain rfl : i = en.length := by omega
     have hi2' : ¬ ((en.length : Int) < (en.length : Int)) := by omega
     have HB10 := hid (HB9.out.trans (hbq.mono HB9.out.size))
     have HO10 := hid (HO9.out.below hbq)
     clear hbq HB9 HO9 HP9
     have hcat : (⟨S.toArray⟩ : ByteArray) ++ ⟨#[95]⟩ = ⟨(S ++ [95]).toArray⟩ := bs_app S [95]
     have hov : ¬ 9223372036854775807 < (⟨S.toArray⟩ : ByteArray).size + 1 := by rw [HSS.out]; omega
     have hov2 : ¬ 9223372036854775807 < S.length + 1 := by omega
     have CW3 := hid (With_any _ en (S ++ [95]) n wr (HO10.out.at (by have := HEN.out; omega)) (by have := HEN.out; omega))
     have hlen1 : (en.length : Int) + 1 ≤ 21 := by omega
     go_upto_region 21 with (first
      | (go_at_call 29; go_must (refine CW3.out.mono ?_; rintro q w11 ⟨v11, rfl, hO11, hb11⟩; obtain ⟨la, lc, rfl⟩ := hO11.shape; have HO11 := hid (HO10.out.below hb11); have HB11 := hid (HB10.out.trans (hb11.mono HB10.out.size)); have he11 : EnvAt w11.heap.size w11 (.slice la (en.length + 1) lc) (en ++ [(S ++ [95], n)]) := (by have h := hO11.at (by simp; have := HEN.out; omega); rw [List.length_append] at h; exact h); have CG3 := hid (Get_any (.slice la (en.length + 1) lc) (en ++ [(S ++ [95], n)]) S w11 he11); rw [getE_other en S (S ++ [95]) n (by simp), HX0.out, HB0.out] at CG3; clear he11 hO11 hb11 CW3))
      | (go_at_call 27; go_must (refine CG3.out.mono ?_; rintro q w12 ⟨rfl, hb12⟩; have HO12 := hid (HO11.out.below hb12); have HB12 := hid (HB11.out.trans (hb12.mono HB11.out.size)); clear hb12 CG3)))
     have CW4 := hid fun w' (hb : Below w12.heap.size w12 w') => With_any (.slice va en.length vc) en S n w' ((HO12.out.below hb).at (by have := HEN.out; omega)) (by have := HEN.out; omega)
     clear hcat hov hov2
     go_wp2_with (first
      | (go_at_call 23; go_must (refine (HW.out _ HB12.out).mono ?_; rintro q w13 ⟨rfl, hb13⟩; have CW5 := hid (CW4.out w13 hb13); have HB13 := hid (HB12.out.trans (hb13.mono HB12.out.size)); clear hb13 CW4))
      | (go_at_call 29; go_must (refine CW5.out.mono ?_; rintro q w14 ⟨v14, rfl, hO14, hb14⟩; obtain ⟨la2, lc2, rfl⟩ := hO14.shape; have HB14 := hid (HB13.out.trans (hb14.mono HB13.out.size)); clear hO14 hb14 CW5)))
     go_ret
     exact ⟨rfl, HB14.out⟩
end Go.Proofs.YtmhmfdnoadjibaaGreatDoor
