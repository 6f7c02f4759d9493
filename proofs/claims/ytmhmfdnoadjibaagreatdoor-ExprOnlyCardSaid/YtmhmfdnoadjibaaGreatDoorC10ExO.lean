/- Layer 10: the walk of the law ExprOnly. -/
import Derived.Test.YtmhmfdnoadjibaaGreatDoorC10ExN
import Derived.Test.YtmhmfdnoadjibaaGreatDoorC10ExW
import Derived.Test.YtmhmfdnoadjibaaGreatDoorC10ExR
set_option linter.unusedVariables false
set_option linter.unusedSimpArgs false
namespace Go.Proofs.YtmhmfdnoadjibaaGreatDoor
open Go.Lib (hid)
open Go.ChangeShapes Go.WideShapes Go.ChangeAt Go.RowKit
theorem getE_app (a b : EnvL) (s : List UInt8) : getE (a ++ b) s = (getE b s).or (getE a s) := by
 unfold getE
 rw [List.reverse_append, List.find?_append]
 cases List.find? (fun x => decide (x.1 = s)) b.reverse <;> simp
theorem getE_off {e : EnvL} {s : List UInt8} (h : ∀ u ∈ e, u.1 ≠ s) : getE e s = none := by
 unfold getE
 rw [List.find?_eq_none.2 fun u hu => by simpa using h u (by simpa using hu)]; rfl
theorem getE_no {e : EnvL} {s : List UInt8} (h : getE e s = none) : ∀ u ∈ e, u.1 ≠ s := by
 unfold getE at h
 rw [Option.map_eq_none_iff, List.find?_eq_none] at h
 intro u hu
 simpa using h u (by simpa using hu)
def zqo : List UInt8 := [122, 113, 95, 111, 116, 104, 101, 114]
def zql : List UInt8 := [122, 113, 95, 108, 97, 115, 116]
def MoreE (a E : EnvL) (i : Nat) : Prop := E.length = 2 * i ∧ (∀ u ∈ E, W64 u.2) ∧ ∀ u ∈ E, u.1 = zqo ∨ ∃ v ∈ a, v.1 = u.1
theorem more_get {a E : EnvL} {i : Nat} (h : MoreE a E i) {s : List UInt8} (h1 : s ≠ zqo) (h2 : s ≠ zql) : getE ((E ++ a) ++ [(zql, 7)]) s = getE a s := by
 rw [getE_app, getE_off (e := [(zql, 7)]) (fun u hu => by simp at hu; subst hu; exact fun e => h2 e.symm), Option.none_or, getE_app]
 cases hg : getE a s with
 | some n => rfl
 | none =>
  rw [Option.none_or]
  refine getE_off fun u hu he => ?_
  rcases h.2.2 u hu with e | ⟨v, hv, e⟩
  ·exact h1 (he.symm.trans e)
  ·exact getE_no hg v hv (e.trans he)
theorem MoreE.two {a E : EnvL} {i : Nat} (h : MoreE a E i) {x : List UInt8 × Int} (hx : x ∈ a) (hi : i < 1000) : MoreE a ((E ++ [(zqo, (i : Int))]) ++ [(x.1, 99)]) (i + 1) := by
 refine ⟨by simp [h.1]; omega, fun u hu => ?_, fun u hu => ?_⟩
 ·simp at hu
  rcases hu with hu | rfl | rfl
  ·exact h.2.1 u hu
  ·unfold W64; simp; omega
  ·unfold W64; simp
 ·simp at hu
  rcases hu with hu | rfl | rfl
  ·exact h.2.2 u hu
  ·exact .inl rfl
  ·exact .inr ⟨x, hx, rfl⟩
theorem EnvAt.at {n : Nat} {w : World} {a : Option Addr} {m c : Nat} {e : EnvL} (h : EnvAt n w (.slice a m c) e) {i : Nat} {x : List UInt8 × Int} (hx : e[i]? = some x) : ∃ k, a = some ⟨k, 0, none⟩ ∧ k < n ∧ w.cell? ⟨k, i * 2, none⟩ = some (.string ⟨x.1.toArray⟩) ∧ w.cell? ⟨k, i * 2 + 1, none⟩ = some (.int .u64 x.2) := by
 obtain ⟨a', c', h1, _, h3⟩ := h
 simp only [Value.slice.injEq] at h1
 obtain ⟨rfl, rfl, rfl⟩ := h1
 exact h3 i x hx
theorem emptyO (w : World) : EnvO w.heap.size (w.alloc (.cells #[] 85)) (.slice (some ⟨w.heap.size, 0, none⟩) 0 0) [] :=
 ⟨by simp [maxLen], .inr ⟨w.heap.size, 0, #[], rfl, Nat.le_refl _, World.alloc_heap_new _ _, by simp, by simp⟩⟩
set_option maxHeartbeats 4000000 in
set_option maxRecDepth 100000 in
theorem ExprOnly_walk (a : Option Addr) (c : Nat) (l : List XE) (t : Int) (a2 : Option Addr) (c2 : Nat) (e : EnvL) (w : World) (hX : ArgX w a c l) (ht0 : -9223372036854775808 ≤ t) (ht1 : t ≤ 9223372036854775807) (hV : ArgV w a2 c2 e) (hE : Env w) (hK : KEnv (fun b => b < w.heap.size) w) :
  Calls Tryz.prog 9 #[.slice a l.length c, .int .i64 t, .slice a2 e.length c2] w fun q w' => q = .returned (.bool true) ∧ Below w.heap.size w w' := by
 have ht := And.intro ht0 ht1
 have hlc := hX.1
 have hcm := hX.2.1
 have hll : (l.length : Int) ≤ 9223372036854775807 := by unfold maxLen at hcm; omega
 have hxs : ∀ x ∈ (l.take 60).map cutK, W64 x.n := fun x hx => by
  obtain ⟨y, hy, rfl⟩ := List.mem_map.1 hx
  obtain ⟨i, hi⟩ := List.getElem?_of_mem (List.mem_of_mem_take hy)
  exact (hX.2.2 i y hi).1
 have hes : ∀ u ∈ e.take 20, W64 u.2 := fun u hu => by
  obtain ⟨i, hi⟩ := List.getElem?_of_mem (List.mem_of_mem_take hu)
  exact (hV.2.2 i u hi).1
 have hen : (e.take 20).length ≤ 20 := by rw [List.length_take]; omega
 have hxn : ((l.take 60).map cutK).length ≤ 60 := by rw [List.length_map, List.length_take]; omega
 have CF := hid (files_any a c l w hX)
 have CV := hid fun w' (hb : Below w.heap.size w w') => envs_any a2 c2 e w' (hV.below hb)
 have HW := hid fun w' (hb : Below w.heap.size w w') => wakes_ex w' (hE.below hb) (hK.low hb)
 obtain ⟨xs, hxq⟩ : ∃ xs, (l.take 60).map cutK = xs := ⟨_, rfl⟩
 obtain ⟨en, heq⟩ : ∃ en, e.take 20 = en := ⟨_, rfl⟩
 rw [hxq] at hxs hxn CF
 rw [heq] at hes hen CV
 obtain ⟨D, hD⟩ : ∃ D : Int, IntKind.i64.wrap ((l.length : Int) + 1) = D := ⟨_, rfl⟩
 have hD0 : ¬ D = 0 ∧ (0 < D ∨ D = -9223372036854775808) ∧ D ≤ 9223372036854775807 := by
  rw [← hD]
  by_cases hh : (l.length : Int) = 9223372036854775807
  ·rw [hh]; decide
  ·rw [show IntKind.i64.wrap ((l.length : Int) + 1) = wrap64 ((l.length : Int) + 1) from IntWalk.i64_left _, IntWalk.wrap64_in _ (by omega)]; omega
 obtain ⟨k, hk⟩ : ∃ k : Int, max 0 t % D = k := ⟨_, rfl⟩
 have hk2 : -9223372036854775808 ≤ k ∧ k ≤ 9223372036854775807 := by
  rw [← hk]
  have h2 := Int.emod_nonneg (max 0 t) hD0.1
  rcases hD0.2.1 with h | h
  ·have h1 := Int.emod_lt_of_pos (max 0 t) h
   omega
  ·rw [h, show (-9223372036854775808 : Int) = -(9223372036854775808) from rfl, Int.emod_neg]; omega
 have hl1 := hD0.1
 have HEN := hid hen
 have HXN := hid hxn
 have HXS := hid hxs
 have HES := hid hes
 have HK2 := hid hk2
 clear ht0 ht1 hX hV hE hK hxs hes hxq heq hen hxn hk2 hlc hcm
 go_enter Tryz.func9, Tryz.ntmps9
 go_upto_region 2 with (go_at_call 32; refine CF.out.mono ?_; rintro q w1 ⟨g, v2, rfl, hF, hb1⟩; have HF := hid hF; have HB1 := hid hb1; have CV1 := hid (CV.out w1 hb1); clear hF hb1 CF CV)
 go_upto_region 3 with (go_at_call 24; refine CV1.out.mono ?_; rintro q w2 ⟨v1, v3, rfl, hO, -, hb2⟩; have HF2 := hid (HF.out.below hb2); obtain ⟨va, vc, rfl⟩ := hO.shape; have HO := hid (envO_base hO HB1.out.size); have HB2 := hid (HB1.out.trans (hb2.mono HB1.out.size)); have CE := hid (Eval_any g 0 xs k _ en w2 HF2.out HK2.out (hO.at (by have := HEN.out; omega)) HXS.out HES.out); clear hO hb2 CV1 HF)
 go_upto_region 4 with fail
 go_upto_region 5 with (go_at_call 25; refine CE.out.mono ?_; rintro q w3 ⟨rfl, hb3⟩; have HF3 := hid (HF2.out.below hb3); have HO3 := hid (HO.out.below hb3); have HB3 := hid (HB2.out.trans (hb3.mono HB2.out.size)); clear hb3 CE HF2 HO HB1 HB2)
 obtain ⟨gn, hgn⟩ : ∃ n, (evalL xs k en).1 = n := ⟨_, rfl⟩
 obtain ⟨ge, hge⟩ : ∃ n, (evalL xs k en).2 = n := ⟨_, rfl⟩
 rw [hgn, hge]
 have HGN := hid hgn
 have HGE := hid hge
 clear hgn hge hk hD hD0 hl1 hll
 go_upto_region 6 with fail
 have HO0 := hid (emptyO w3)
 have HB0 := hid ((Below.refl w3.heap.size w3).alloc (Nat.le_refl _) (.cells #[] 85))
 have hn20 : (en.length : Int) ≤ 20 := by have := HEN.out; omega
 generalize w3.alloc (.cells #[] 85) = W0 at HO0 HB0 ⊢
 go_upto_region 7 with fail
 go_loopw [14, 46] (fun s14 s46 wr => ∃ (i : Nat) (E : EnvL), s46 = .int .i64 i ∧ i ≤ en.length ∧ EnvO w3.heap.size wr s14 E ∧ MoreE en E i ∧ Below w3.heap.size w3 wr) (fun s14 s46 _ => en.length - (intOf s46).toNat)
 case atStart => exact ⟨0, [], rfl, Nat.zero_le _, HO0.out, ⟨rfl, by simp, by simp⟩, HB0.out⟩
 case round =>
  clear HO0 HB0
  obtain ⟨i, E, rfl, hin, hO, hM, hB⟩ := hrel
  obtain ⟨ea, ec, rfl⟩ := hO.shape
  by_cases hi2 : i < en.length
  ·have hi2' : (i : Int) < (en.length : Int) := by omega
   have hel : E.length = 2 * i := hM.1
   have CW1 := hid (With_any _ E [122, 113, 95, 111, 116, 104, 101, 114] (i : Int) wr (hO.at (by omega)) (by omega))
   have HM := hid hM
   have HB := hid hB
   have hwi : IntKind.u64.wrap (i : Int) = (i : Int) := by rw [IntKind.wrap_u64]; omega
   obtain ⟨j, hj⟩ : ∃ j : Nat, (en.length : Int) - 1 - (i : Int) = (j : Int) := ⟨en.length - 1 - i, by omega⟩
   have hjl : (j : Int) < (en.length : Int) := by omega
   obtain ⟨x, hx⟩ : ∃ x, en[j]? = some x := ⟨_, List.getElem?_eq_getElem (by omega)⟩
   have HEL := hid hel
   have HX := hid hx
   clear hO hM hB hel hx
   go_upto_region 9 with fail
   go_upto_region 10 with (go_at_call 29; refine CW1.out.mono ?_; rintro q w5 ⟨v5, rfl, hO5, hb5⟩; obtain ⟨fa, fc, rfl⟩ := hO5.shape; have HO5 := hid (envO_base hO5 HB.out.size); have HB5 := hid (HB.out.trans (hb5.mono HB.out.size)); clear hO5 hb5 CW1 HB)
   have HE5 := hid (show EnvO w3.heap.size w5 (.slice fa (E.length + 1) fc) (E ++ [(zqo, (i : Int))]) by have h := HO5.out; rw [List.length_append] at h; exact h)
   have CW2 := hid (With_any (.slice fa (E.length + 1) fc) (E ++ [(zqo, (i : Int))]) x.1 99 w5 (HE5.out.at (by simp; have := HEL.out; omega)) (by simp; have := HEL.out; omega))
   obtain ⟨kb, rfl, -, d0, -⟩ := ((HO3.out.below HB5.out).at (by omega)).at HX.out
   clear HO5
   go_wp2_with (go_at_call 29; refine CW2.out.mono ?_; rintro q w6 ⟨v6, rfl, hO6, hb6⟩; have HO6 := hid (envO_base hO6 HB5.out.size); have HB6 := hid (HB5.out.trans (hb6.mono HB5.out.size)); clear hO6 hb6 CW2)
   go_roundw
   case rel => exact ⟨i + 1, _, by go_num, by omega, HO6.out, HM.out.two (List.mem_of_getElem? HX.out) (by omega), HB6.out⟩
   case measure => simp [intOf]; omega
  ·obtain rfl : i = en.length := by omega
   have hel : E.length = 2 * en.length := hM.1
   have HM := hid hM
   have HB := hid hB
   have HO := hid hO
   have HF4 := hid (HF3.out.below (hB.mono (Nat.le_refl _)))
   have HO4 := hid (HO3.out.below hB)
   have HEL := hid hel
   have hi2' : ¬ ((en.length : Int) < (en.length : Int)) := by omega
   clear hO hM hB hel
   go_upto_region 12 with fail
   go_upto_region 13 with (at_builtin; refine append_env rfl _ _ rfl w3.heap.size _ E rfl HO.out _ en rfl wr.heap.size (HO4.out.at (by omega)) (by have := HEL.out; omega) HB.out.size ?_; intro v' w7 hO7 hB7 hk7; obtain ⟨ga, gc, rfl⟩ := hO7.shape; have HO7 := hid hO7; have HB7 := hid hB7; clear hO7 hB7 hk7)
   have HB8 := hid (HB.out.trans HB7.out)
   have HF7 := hid (HF3.out.below HB8.out)
   have HE7 := hid (show EnvO w3.heap.size w7 (.slice ga (E.length + en.length) gc) (E ++ en) by have h := HO7.out; rw [List.length_append] at h; exact h)
   have CW := hid (With_any (.slice ga (E.length + en.length) gc) (E ++ en) [122, 113, 95, 108, 97, 115, 116] 7 w7 (HE7.out.at (by simp; have := HEL.out; omega)) (by simp; have := HEL.out; omega))
   have HW2 : Hid (∀ u ∈ (E ++ en) ++ [(zql, (7 : Int))], W64 u.2) := hid (fun u hu => by
    simp at hu
    rcases hu with hu | hu | rfl
    ·exact HM.out.2.1 u hu
    ·exact HES.out u hu
    ·unfold W64; simp)
   clear HO7 HF4 HO4 HB7 HO
   obtain ⟨G, hG⟩ : ∃ G, (E ++ en) ++ [(zql, (7 : Int))] = G := ⟨_, rfl⟩
   have hGl : G.length ≤ 1000 := by rw [← hG]; simp; have := HEL.out; omega
   rw [hG] at HW2
   rw [show (E ++ en) ++ [([122, 113, 95, 108, 97, 115, 116], (7 : Int))] = G from hG] at CW
   have HG := hid hG
   have HGL := hid hGl
   clear hG hGl
   go_upto_region 14 with (first
    | (go_at_call 29; refine CW.out.mono ?_; rintro q w8 ⟨v8, rfl, hO8, hb8⟩; obtain ⟨ja, jc, rfl⟩ := hO8.shape; have HB9 := hid (HB8.out.trans (hb8.mono HB8.out.size)); have HF8 := hid (HF7.out.below hb8); have CE2 := hid (Eval_any g 0 xs k _ G w8 HF8.out HK2.out (hO8.at (by have := HGL.out; omega)) HXS.out HW2.out); clear hO8 hb8 CW)
    | (go_at_call 25; refine CE2.out.mono ?_; rintro q w9 ⟨rfl, hb9⟩; have HB10 := hid (HB3.out.trans ((HB9.out.trans (hb9.mono HB9.out.size)).mono HB3.out.size)); have HF9 := hid (HF8.out.below hb9); clear hb9 CE2))
   clear HB8 HB9 HF7 HF8 HE7 HO3 HF3 HB3 HB HW2
   obtain ⟨hn, hhn⟩ : ∃ n, (evalL xs k G).1 = n := ⟨_, rfl⟩
   obtain ⟨he, hhe⟩ : ∃ n, (evalL xs k G).2 = n := ⟨_, rfl⟩
   rw [hhn, hhe]
   have HHN := hid hhn
   have HHE := hid hhe
   clear hhn hhe
   by_cases hg1 : ge = 11
   ·subst hg1
    go_wp2_with (go_at_call 23; refine (HW.out _ HB10.out).mono ?_; rintro q w11 ⟨rfl, hb11⟩; have HBE := hid (HB10.out.trans (hb11.mono HB10.out.size)); clear hb11)
    go_ret
    exact ⟨rfl, HBE.out⟩
   have hgb : (ge == 11) = false := by simpa using hg1
   by_cases hg2 : he = 11
   ·subst hg2
    go_wp2_with (go_at_call 23; refine (HW.out _ HB10.out).mono ?_; rintro q w11 ⟨rfl, hb11⟩; have HBE := hid (HB10.out.trans (hb11.mono HB10.out.size)); clear hb11)
    go_ret
    exact ⟨rfl, HBE.out⟩
   have hhb : (he == 11) = false := by simpa using hg2
   obtain ⟨xa, xc, hxc, hX9⟩ := HF9.out.look
   rw [Nat.zero_add] at hxc
   have HX9 := hid hX9
   have hx60 : (xs.length : Int) ≤ 60 := by have := HXN.out; omega
   clear hX9
   go_upto_region 17 with fail
   clear hgb hhb hg1 hg2 hxc
   go_loopw [88] (fun s88 wq => ∃ (i : Nat), s88 = .int .i64 i ∧ i ≤ xs.length ∧ (∀ j y, j < i → xs[j]? = some y → y.s ≠ zqo ∧ y.s ≠ zql) ∧ Below w9.heap.size w9 wq) (fun s88 _ => xs.length - (intOf s88).toNat)
   case atStart => exact ⟨0, rfl, Nat.zero_le _, fun j y h => absurd h (Nat.not_lt_zero _), Below.refl _ _⟩
   case round =>
    obtain ⟨i, rfl, hin, hno, hbq⟩ := hrel
    have HBQ := hid (HB10.out.trans (hbq.mono HB10.out.size))
    by_cases hi2 : i < xs.length
    ·have hi2' : (i : Int) < (xs.length : Int) := by omega
     obtain ⟨y, hy⟩ : ∃ y, xs[i]? = some y := ⟨_, List.getElem?_eq_getElem (by omega)⟩
     obtain ⟨kb, kv, rfl, hkb, k0, k1, k2, k3, k4, hkr⟩ := (HX9.out.below hbq).at hy
     obtain ⟨ka, kc, rfl, -, -⟩ := hkr
     have HNO := hid hno
     have HBq := hid hbq
     have HY := hid hy
     clear hno hbq hy
     obtain ⟨S, hS⟩ : ∃ S, bs y.s = S := ⟨_, rfl⟩
     obtain ⟨O, hO⟩ : ∃ O, bs y.op = O := ⟨_, rfl⟩
     rw [hS] at k3
     rw [hO] at k1
     have HS := hid hS
     clear hS hO
     have hx0 := World.alloc_heap_new wr (.cells #[.int .i64 y.k, .string O, .int .u64 y.n, .string S, .slice ka y.kids.length kc] 40)
     have HBW := hid (HBQ.out.alloc HBQ.out.size (.cells #[.int .i64 y.k, .string O, .int .u64 y.n, .string S, .slice ka y.kids.length kc] 40))
     have HBV := hid (HBq.out.alloc HBq.out.size (.cells #[.int .i64 y.k, .string O, .int .u64 y.n, .string S, .slice ka y.kids.length kc] 40))
     go_upto_region 19 with fail
     generalize wr.alloc (.cells #[.int .i64 y.k, .string O, .int .u64 y.n, .string S, .slice ka y.kids.length kc] 40) = W at *
     have hX5 : Five _ wr.heap.size _ _ _ _ _ _ := hx0
     obtain ⟨b0, b1, b2, b3, b4, -⟩ := hX5.cells
     clear hX5 hx0 k0 k1 k2 k3 k4
     by_cases q1 : S.toList = [122, 113, 95, 111, 116, 104, 101, 114]
     ·have q1b : (S.toList == [122, 113, 95, 111, 116, 104, 101, 114]) = true := by simpa using q1
      clear q1
      go_wp2_with (go_at_call 23; refine (HW.out _ HBW.out).mono ?_; rintro q w11 ⟨rfl, hb11⟩; have HBE := hid (HBW.out.trans (hb11.mono HBW.out.size)); clear hb11)
      go_ret
      exact ⟨rfl, HBE.out⟩
     have q1b : (S.toList == [122, 113, 95, 111, 116, 104, 101, 114]) = false := by simpa using q1
     by_cases q2 : S.toList = [122, 113, 95, 108, 97, 115, 116]
     ·have q2b : (S.toList == [122, 113, 95, 108, 97, 115, 116]) = true := by simpa using q2
      clear q2
      go_wp2_with (go_at_call 23; refine (HW.out _ HBW.out).mono ?_; rintro q w11 ⟨rfl, hb11⟩; have HBE := hid (HBW.out.trans (hb11.mono HBW.out.size)); clear hb11)
      go_ret
      exact ⟨rfl, HBE.out⟩
     have q2b : (S.toList == [122, 113, 95, 108, 97, 115, 116]) = false := by simpa using q2
     have HSL : Hid (S.toList = y.s) := hid (by rw [← HS.out, ByteArray.toList_eq]; exact bs_list _)
     have HQ1 := hid q1
     have HQ2 := hid q2
     go_wp2_with fail
     go_roundw
     case rel => exact ⟨i + 1, by go_num, by omega, fun j z hj hz => (by
      by_cases hji : j = i
      ·subst hji
       obtain rfl : y = z := by rw [HY.out] at hz; exact Option.some.inj hz
       exact ⟨fun e => HQ1.out (HSL.out.trans e), fun e => HQ2.out (HSL.out.trans e)⟩
      ·exact HNO.out j z (by omega) hz), HBV.out⟩
     case measure => simp [intOf]; omega
    ·obtain rfl : i = xs.length := by omega
     have e1 : evalL xs k G = evalL xs k en := by
      unfold evalL
      rw [← HG.out, all_only (b := en) fun y hy => ?_]
      obtain ⟨j, hj⟩ := List.getElem?_of_mem hy
      have h := hno j y (List.getElem?_eq_some_iff.1 hj).1 hj
      exact more_get HM.out h.1 h.2
     have e2 : hn = gn := by rw [← HHN.out, ← HGN.out, e1]
     have e3 : he = ge := by rw [← HHE.out, ← HGE.out, e1]
     subst e2 e3
     have hi2' : ¬ ((xs.length : Int) < (xs.length : Int)) := by omega
     clear hno hbq e1
     go_wp2_with (go_at_call 23; refine (HW.out _ HBQ.out).mono ?_; rintro q w11 ⟨rfl, hb11⟩; have HBE := hid (HBQ.out.trans (hb11.mono HBQ.out.size)); clear hb11)
     go_ret
     exact ⟨rfl, HBE.out⟩
end Go.Proofs.YtmhmfdnoadjibaaGreatDoor
