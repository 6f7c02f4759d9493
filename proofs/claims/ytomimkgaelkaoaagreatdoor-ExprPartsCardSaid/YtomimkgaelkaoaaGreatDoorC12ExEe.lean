/- Layer 8: what the lexer gives is as the round trip asks; the File that is parsed from the text of a parsed File. · Layer 8, the mathematics: the numbers of a File that was parsed. No program. · Layer 10 (for ExprParts): the expression of a text whose File holds nothing else. -/
import Derived.Test.YtomimkgaelkaoaaGreatDoorC12ShU
import Derived.Test.YtomimkgaelkaoaaGreatDoorC12ParTok
import Derived.Test.YtomimkgaelkaoaaGreatDoorC12ParLv
import Derived.Test.YtomimkgaelkaoaaGreatDoorC12ExDd
import Derived.Test.YtomimkgaelkaoaaGreatDoorC12ExW
set_option linter.unusedVariables false
set_option linter.unusedSimpArgs false
namespace Go.Proofs.YtomimkgaelkaoaaGreatDoor
open Go.Lib (hid)
theorem numB_lt (b : Nat) (p : UInt8 → Bool) (ds : List UInt8) : (numB b p ds).1 < 18446744073709551616 := by
 unfold numB
 split
 ·exact (by decide : 0 < 18446744073709551616)
 ·split
  ·exact (by decide : 0 < 18446744073709551616)
  ·show valA b 0 ds < _
   omega
theorem good_tkv {V : Tk} {p : Ps} (h : GoodV V) : TkV ⟨V, p⟩ := by
 obtain ⟨h1, -⟩ := h.2 [] (.inl rfl)
 rw [List.append_nil] at h1
 unfold firstL at h1
 by_cases h0 : V.t = []
 ·rw [if_pos h0] at h1
  have : V = tkEnd := (congrArg Prod.fst h1).symm
  exact absurd (by rw [this]; rfl) h.1
 ·rw [if_neg h0] at h1
  by_cases hr : runL V.t ≠ []
  ·rw [if_pos hr] at h1
   have he : (wnL (runL V.t)).2 = 0 := by rw [h1]
   have ht := (wnL_cases _ he).1
   rw [h1] at ht
   have ht : V.t = runL V.t := ht
   have hw : ∀ x ∈ V.t, isW x = true := by
    intro x hx
    rw [ht] at hx
    have := List.all_takeWhile (p := isW) (l := V.t)
    exact List.all_eq_true.1 this x hx
   rw [← ht] at h1
   unfold wnL at h1
   refine ⟨fun hk => ?_, fun hk => ?_⟩
   ·have hk : V.k = 0 := hk
    split at h1
    ·split at h1
     ·have := congrArg (fun q => q.1.k) h1
      simp only at this
      omega
     ·rename_i h5
      have := congrArg Prod.snd h1
      exact absurd this h5
    ·rename_i h4
     split at h1
     ·have := congrArg Prod.snd h1
      cases this
     ·rename_i h5
      exact ⟨h0, hw, by simpa using h4, by show V.t.length ≤ 32; omega⟩
   ·have hk : V.k = 1 := hk
    split at h1
    ·split at h1
     ·have : (numberL V.t).1 = V.n := congrArg (fun q => q.1.n) h1
      show V.n < _
      rw [← this]
      unfold numberL
      split
      ·exact numB_lt _ _ _
      ·exact numB_lt _ _ _
     ·rename_i h5
      have := congrArg Prod.snd h1
      exact absurd this h5
    ·split at h1
     ·have := congrArg Prod.snd h1
      cases this
     ·have : 0 = V.k := congrArg (fun q => q.1.k) h1
      omega
  ·rw [if_neg hr] at h1
   split at h1
   ·have := congrArg Prod.snd h1
    cases this
   ·have : 2 = V.k := congrArg (fun q => q.1.k) h1
    exact ⟨fun hk => by (have hk : V.k = 0 := hk); omega, fun hk => by (have hk : V.k = 1 := hk); omega⟩
theorem lexL_allV {s : List UInt8} {ts : List Tok} (h : lexL s = .ok ts) : AllV ts := by
 unfold lexL at h
 split at h
 ·cases h
 ·obtain ⟨Vs, h1, h2⟩ := lexG_good _ _ _ _ _ (Nat.le_refl _) h
  intro t ht
  have hm : t.tk ∈ Vs ++ [tkEnd] := by rw [← h1]; exact List.mem_map.2 ⟨t, ht, rfl⟩
  rcases List.mem_append.1 hm with hm | hm
  ·have := good_tkv (p := t.p) (h2 _ hm)
   exact this
  ·have e : t.tk = tkEnd := List.mem_singleton.1 hm
   exact ⟨fun hk => (by rw [e] at hk; cases hk), fun hk => (by rw [e] at hk; cases hk)⟩
theorem parse_tree {s : List UInt8} {f : FM} (h : parseL s = .ok f) : ∃ cs ss, f = putF cs ss ∧ (∀ c ∈ cs, VC c) ∧ (∀ x ∈ ss, PS x) ∧ cs.length ≤ 64 ∧ ss.length ≤ 64 := by
 unfold parseL at h
 cases hl : lexL s with
 | bad p e => rw [hl] at h; cases h
 | ok ts =>
  rw [hl] at h
  simp only at h
  cases hf : fileP ts with
  | bad l e => rw [hf] at h; cases h
  | ok a l =>
   rw [hf] at h
   simp only [FR.ok.injEq] at h
   obtain ⟨h1, h2, h3, h4⟩ := ok_file _ [] [] ts a l ⟨lexL_allV hl, lexL_wf hl⟩ (fun c hc => by cases hc) (fun c hc => by cases hc) (by simp) (by simp) hf
   exact ⟨a.1, a.2, h.symm, h1, h2, h3, h4⟩
end Go.Proofs.YtomimkgaelkaoaaGreatDoor
namespace Go.Proofs.YtomimkgaelkaoaaGreatDoor
open Go.Lib (hid)
def NX (g : GM) : Prop := (∀ x ∈ g.xs, x.n < 18446744073709551616) ∧ (∀ t ∈ g.ts, ∀ c ∈ t.cs, c.1 < 18446744073709551616)
theorem NX.addX {g : GM} (h : NX g) (x : XM) (hx : x.n < 18446744073709551616) : NX (g.addX x) := by
 refine ⟨fun y hy => ?_, h.2⟩
 rcases List.mem_append.1 hy with hy | hy
 ·exact h.1 y hy
 ·rw [List.mem_singleton.1 hy]; exact hx
theorem NX.addT {g : GM} (h : NX g) (t : TM) (ht : ∀ c ∈ t.cs, c.1 < 18446744073709551616) : NX (g.addT t) := by
 refine ⟨h.1, fun y hy => ?_⟩
 rcases List.mem_append.1 hy with hy | hy
 ·exact h.2 y hy
 ·rw [List.mem_singleton.1 hy]; exact ht
theorem putE_nx : ∀ (e : EA) (g : GM), VE e → NX g → NX (putE e g)
 | .num n, g, v, h => h.addX _ v
 | .name s, g, v, h => h.addX _ (show (0 : Nat) < 18446744073709551616 by decide)
 | .not a, g, v, h => (putE_nx a g v h).addX _ (show (0 : Nat) < 18446744073709551616 by decide)
 | .bin op a b, g, v, h => (putE_nx b _ v.2.2 (putE_nx a g v.2.1 h)).addX _ (show (0 : Nat) < 18446744073709551616 by decide)
theorem putEs_nx : ∀ (l : List EA) (s : GM × List Nat), (∀ e ∈ l, VE e) → NX s.1 → NX (l.foldl stepE s).1
 | [], s, _, h => h
 | e :: l, s, v, h => putEs_nx l _ (fun x hx => v x (List.mem_cons_of_mem _ hx)) (putE_nx e s.1 (v e (List.mem_cons_self)) h)
theorem putT_nx : ∀ (t : TA) (g : GM), VT t → NX g → NX (putT t g).1 ∧ ∀ c ∈ (putT t g).2, c.1 < 18446744073709551616
 | .int z li, g, v, h => ⟨h.addT _ (by simp), by simp [putT]⟩
 | .ref s es, g, v, h => ⟨(putEs_nx es (g, []) v.2.2 h).addT _ (by simp), by simp [putT]⟩
 | .idx k e, g, v, h => ⟨(putE_nx e g v h).addT _ (by simp), by simp [putT]⟩
 | .win k e t, g, v, h => ⟨(putT_nx t _ v.2 (putE_nx e g v.1 h)).1.addT _ (by simp), by simp [putT]⟩
 | .rest t, g, v, h => ⟨(putT_nx t g v h).1.addT _ (by simp), by simp [putT]⟩
 | .leaf k, g, v, h => ⟨h.addT _ (by simp), by simp [putT]⟩
 | .arr t e, g, v, h => ⟨(putE_nx e _ v.2 (putT_nx t g v.1 h).1).addT _ (by simp), by simp [putT]⟩
 | .sw e cs els, g, v, h => by
  have h1 := putE_nx e g v.1 h
  have h2 := putT_nx cs _ v.2.1 h1
  have h3 := putT_nx els _ v.2.2 h2.1
  exact ⟨h3.1.addT _ h2.2, by simp [putT]⟩
 | .nil, g, v, h => ⟨h, by simp [putT]⟩
 | .snoc cs n t, g, v, h => by
  have h1 := putT_nx cs g v.1 h
  have h2 := putT_nx t _ v.2.2 h1.1
  refine ⟨h2.1, fun c hc => ?_⟩
  rcases List.mem_append.1 hc with hc | hc
  ·exact h1.2 c hc
  ·rw [List.mem_singleton.1 hc]; exact v.2.1
theorem putI_nx (x : IA) (g : GM) (v : VI x) (h : NX g) : NX (putI x g).1 ∧ ∀ u ∈ (putI x g).2.subs, u.2 < 9223372036854775808 := by
 cases x with
 | field s t d wh =>
  have h1 := (putT_nx t g v.2.2.1 h).1
  refine ⟨?_, by simp [putI]⟩
  cases wh with
  | none => exact h1
  | some e => exact putE_nx e _ (v.2.2.2.2 e rfl) h1
 | pack z li subs => exact ⟨h, fun u hu => by have := (v.2 u hu).2.2; omega⟩
theorem putIs_nx : ∀ (l : List IA) (s : GM × List IM), (∀ x ∈ l, VI x) → NX s.1 → (∀ y ∈ s.2, ∀ u ∈ y.subs, u.2 < 9223372036854775808) → NX (l.foldl stepI s).1 ∧ ∀ y ∈ (l.foldl stepI s).2, ∀ u ∈ y.subs, u.2 < 9223372036854775808
 | [], s, _, h, k => ⟨h, k⟩
 | x :: l, s, v, h, k => by
  have h1 := putI_nx x s.1 (v x (List.mem_cons_self)) h
  refine putIs_nx l _ (fun y hy => v y (List.mem_cons_of_mem _ hy)) h1.1 fun y hy => ?_
  rcases List.mem_append.1 hy with hy | hy
  ·exact k y hy
  ·rw [List.mem_singleton.1 hy]; exact h1.2
theorem putSs_nx : ∀ (l : List SA) (s : GM × List SM), (∀ x ∈ l, VS x) → NX s.1 → (∀ m ∈ s.2, ∀ y ∈ m.is, ∀ u ∈ y.subs, u.2 < 9223372036854775808) → NX (l.foldl stepS s).1 ∧ ∀ m ∈ (l.foldl stepS s).2, ∀ y ∈ m.is, ∀ u ∈ y.subs, u.2 < 9223372036854775808
 | [], s, _, h, k => ⟨h, k⟩
 | x :: l, s, v, h, k => by
  have h1 := putIs_nx x.is (s.1, []) (v x (List.mem_cons_self)).2.2.2 h (by simp)
  refine putSs_nx l _ (fun y hy => v y (List.mem_cons_of_mem _ hy)) h1.1 fun m hm => ?_
  rcases List.mem_append.1 hm with hm | hm
  ·exact k m hm
  ·rw [List.mem_singleton.1 hm]; exact h1.2
structure NumOK (f : FM) : Prop where
 n : ∀ x ∈ f.g.xs, x.n < 18446744073709551616
 cn : ∀ t ∈ f.g.ts, ∀ c ∈ t.cs, c.1 < 18446744073709551616
 k : ∀ c ∈ f.cs, c.2 < 18446744073709551616
 b : ∀ s ∈ f.ss, ∀ x ∈ s.is, ∀ u ∈ x.subs, u.2 < 9223372036854775808
theorem parse_nums {s : List UInt8} {f : FM} (h : parseL s = .ok f) : NumOK f := by
 obtain ⟨cs, ss, rfl, vc, vs, -, -⟩ := parse_tree h
 have h1 := putSs_nx ss (gm0, []) (fun x hx => (vs x hx).1) ⟨by simp [gm0], by simp [gm0]⟩ (by simp)
 exact ⟨h1.1.1, h1.1.2, fun c hc => (vc c hc).2.2, h1.2⟩
end Go.Proofs.YtomimkgaelkaoaaGreatDoor
namespace Go.Proofs.YtomimkgaelkaoaaGreatDoor
open Go.Lib (hid)
open Go.ChangeShapes Go.WideShapes Go.ChangeAt Go.RowKit
theorem putE_grow (e : EA) (g : GM) : g.xs.length ≤ (putE e g).xs.length := by
 obtain ⟨ys, h, -⟩ := putE_ext e g
 rw [h, List.length_append]; omega
theorem putE_kids : ∀ (e : EA) (g : GM), ∀ x ∈ (putE e g).xs, x ∈ g.xs ∨ (x.kids.length ≤ 2 ∧ ∀ k ∈ x.kids, k < (putE e g).xs.length)
 | .num n, g, x, hx => by
  rcases List.mem_append.1 hx with hx | hx
  ·exact .inl hx
  ·rw [List.mem_singleton.1 hx]; exact .inr ⟨by simp, by simp⟩
 | .name s, g, x, hx => by
  rcases List.mem_append.1 hx with hx | hx
  ·exact .inl hx
  ·rw [List.mem_singleton.1 hx]; exact .inr ⟨by simp, by simp⟩
 | .not a, g, x, hx => by
  have h1 := putE_x a g
  have e : (putE (.not a) g).xs.length = (putE a g).xs.length + 1 := by simp [putE, GM.addX]
  rw [e]
  rcases List.mem_append.1 hx with hx | hx
  ·rcases putE_kids a g x hx with h | ⟨h2, h3⟩
   ·exact .inl h
   ·exact .inr ⟨h2, fun k hk => Nat.lt_succ_of_lt (h3 k hk)⟩
  ·rw [List.mem_singleton.1 hx]
   exact .inr ⟨by simp, fun k hk => by simp at hk; subst hk; omega⟩
 | .bin op a b, g, x, hx => by
  have h1 := putE_x a g
  have h2 := putE_x b (putE a g)
  have h3 := putE_grow b (putE a g)
  have e : (putE (.bin op a b) g).xs.length = (putE b (putE a g)).xs.length + 1 := by simp [putE, GM.addX]
  rw [e]
  rcases List.mem_append.1 hx with hx | hx
  ·rcases putE_kids b _ x hx with h | ⟨h4, h5⟩
   ·rcases putE_kids a g x h with h | ⟨h4, h5⟩
    ·exact .inl h
    ·exact .inr ⟨h4, fun k hk => by have := h5 k hk; omega⟩
   ·exact .inr ⟨h4, fun k hk => Nat.lt_succ_of_lt (h5 k hk)⟩
  ·rw [List.mem_singleton.1 hx]
   exact .inr ⟨by simp, fun k hk => by simp at hk; rcases hk with rfl | rfl <;> omega⟩
theorem one_kids (cs : List (List UInt8 × Nat)) (E : EA) (d : DA) : ∀ x ∈ (oneF cs E d).g.xs, x.kids.length ≤ 2 ∧ ∀ k ∈ x.kids, k < (oneF cs E d).g.xs.length := by
 intro x hx
 rcases putE_kids E gm0 x hx with h | h
 ·cases h
 ·exact h
theorem one_w64 {s : List UInt8} {f : FM} (h : parseL s = .ok f) : ∀ x ∈ f.g.xs.map XM.xe, W64 x.n := by
 intro x hx
 obtain ⟨y, hy, rfl⟩ := List.mem_map.1 hx
 have := (parse_nums h).n y hy
 show 0 ≤ (y.n : Int) ∧ (y.n : Int) ≤ 18446744073709551615
 omega
theorem one_fx {s : List UInt8} {f : FM} {g : Nat} {w : World} {x : Nat} (hl : f.g.xs.length + f.g.ts.length ≤ 60000) (hk : ∀ x ∈ f.g.xs, x.kids.length ≤ 2 ∧ ∀ k ∈ x.kids, k < f.g.xs.length) (h : FileR g w f) : FileX w g 1 (f.g.xs.map XM.xe) :=
 h.fx (by omega) fun x hx => ⟨by have := (hk x hx).1; omega, fun k h => by have := (hk x hx).2 k h; omega⟩
theorem text1_bytes (s : ByteArray) : (⟨#[115, 116, 114, 117, 99, 116, 32, 83, 32, 123, 32, 97, 58, 32, 98, 121, 116, 101, 115, 91]⟩ ++ s ++ ⟨#[93, 59, 32, 125]⟩ : ByteArray).data.toList = text1 s.data.toList := by
 simp [ByteArray.data_append, text1, headB]
def OfPost (f : FM) (x : Nat) (e : Ending) (w' : World) : Prop := ∃ g, e = .returned (.tuple #[.pointer (some ⟨g, 1, none⟩), .int .i64 x]) ∧ FileX w' g 1 (f.g.xs.map XM.xe)
set_option maxHeartbeats 4000000 in
set_option maxRecDepth 100000 in
theorem of_one (s : ByteArray) (hs : s.size ≤ 1000) {f : FM} {x : Nat} (hp : parseL (text1 s.data.toList) = .ok f) (ht : f.g.ts = [⟨1, 0, false, [], [], (x : Int), -1, []⟩]) (hk : ∀ x ∈ f.g.xs, x.kids.length ≤ 2 ∧ ∀ k ∈ x.kids, k < f.g.xs.length) (w : World) (hE : Env w) (hK : KEnv (fun b => b < w.heap.size) w) :
  Calls Tryz.prog 31 #[.string s] w fun e w' => OfPost f x e w' ∧ Below w.heap.size w w' := by
 have CP := hid (show Calls Tryz.prog 10 #[.string (⟨#[115, 116, 114, 117, 99, 116, 32, 83, 32, 123, 32, 97, 58, 32, 98, 121, 116, 101, 115, 91]⟩ ++ s ++ ⟨#[93, 59, 32, 125]⟩)] w fun e w' => ParsePost (.ok f) e w' ∧ Below w.heap.size w w' from by
  have := Parse_any (⟨#[115, 116, 114, 117, 99, 116, 32, 83, 32, 123, 32, 97, 58, 32, 98, 121, 116, 101, 115, 91]⟩ ++ s ++ ⟨#[93, 59, 32, 125]⟩) w hE hK
  rw [text1_bytes, hp] at this
  exact this)
 have HT := hid ht
 have HKI := hid hk
 have n1 : ¬ 9223372036854775807 < 20 + s.size := by omega
 have n2 : ¬ 9223372036854775807 < 20 + s.size + 4 := by omega
 clear hE hK ht hk hp
 go_enter Tryz.func31, Tryz.ntmps31
 go_wp2_with (go_at_call 10; refine CP.out.mono ?_; rintro e w1 ⟨⟨⟨g, rfl, hF⟩, hl, -, -⟩, hb⟩; have B := hid (chain hb (Nat.le_refl _) ((Below.refl w1.heap.size w1).alloc (Nat.le_refl _) (.cells #[.int .i64 0, .int .i64 0] 25))); have F := hid (hF.below ((Below.refl w1.heap.size w1).alloc (Nat.le_refl _) (.cells #[.int .i64 0, .int .i64 0] 25))); have HL := hid hl; obtain ⟨ac, cc, bs', cs, ax, cx, at', ct, e1, e2, e3, e4, h1, h2, h3, h4, hg⟩ := F.out.look; obtain ⟨kt, av, cv, rfl, tk, t0, t1, t2, t3, t4, t5, t6⟩ := ts_at h4 (i := 0) (x := ⟨1, 0, false, [], [], (x : Int), -1, []⟩) (by rw [HT.out]; rfl); rw [show f.g.ts.length = 1 from by rw [HT.out]; rfl] at e4; replace t5 : (w1.alloc (.cells #[.int .i64 0, .int .i64 0] 25)).cell? ⟨kt, 5, none⟩ = some (.int .i64 x) := t5; clear hF hb hl h1 h2 h3 h4 t0 t1 t2 t3 t4 t6)
 generalize w1.alloc (.cells #[.int .i64 0, .int .i64 0] 25) = W at *
 go_quiet (fail)
 go_wp2_with fail
 go_ret2
 exact ⟨⟨g, rfl, (one_fx (s := []) (x := 0) HL.out HKI.out F.out).below (bdrewN (Below.refl _ W) _)⟩, bdrewN B.out _⟩
end Go.Proofs.YtomimkgaelkaoaaGreatDoor
