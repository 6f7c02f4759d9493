/- Layer 8, the mathematics of the document's printer: each index of a put File holds a tree, and how long the texts are. No program. · TopNames, the mathematics: the names of a File are names of its tokens. No program. · Layer 8, the mathematics of the document's printer: the texts of all indexes as lists; how long the pieces of a File's text are. No program. · Layer 7: words, by the document. · Layer 8: the document's printer: digits; an integer's word. · TopNames: what the walk asks of the mathematics; the law's own copy of the tokens. · The walk of the law TopNames. -/
import Derived.Test.YthcdohggffpopaaGreatDoorC5ShL
import Derived.Test.YthcdohggffpopaaGreatDoorC5TnQ
import Derived.Test.YthcdohggffpopaaGreatDoorC5ParX
import Derived.Test.YthcdohggffpopaaGreatDoorC5LexM
import Derived.BigQuiet
import Derived.Deep.QuietTactic
import Derived.Test.YthcdohggffpopaaGreatDoorC5TbW
import Derived.StillTailTactics
set_option linter.unusedVariables false
set_option linter.unusedSimpArgs false
namespace Go.Proofs.YthcdohggffpopaaGreatDoor
open Go.Lib (hid)
def nodes : EA → Nat
 | .num _ => 1
 | .name _ => 1
 | .not a => nodes a + 1
 | .bin _ a b => nodes a + nodes b + 1
def nodesL (l : List EA) : Nat := (l.map nodes).sum
def nx : TA → Nat
 | .int _ _ => 0
 | .ref _ es => nodesL es
 | .idx _ e => nodes e
 | .win _ e t => nodes e + nx t
 | .rest t => nx t
 | .leaf _ => 0
 | .arr t e => nx t + nodes e
 | .sw e cs els => nodes e + nx cs + nx els
 | .nil => 0
 | .snoc cs _ t => nx cs + nx t
def nt : TA → Nat
 | .int _ _ => 1
 | .ref _ _ => 1
 | .idx _ _ => 1
 | .win _ _ t => nt t + 1
 | .rest t => nt t + 1
 | .leaf _ => 1
 | .arr t _ => nt t + 1
 | .sw _ cs els => nt cs + nt els + 1
 | .nil => 0
 | .snoc cs _ t => nt cs + nt t
theorem isNil_eq : ∀ {t : TA}, t.isNil = true → t = .nil
 | .nil, _ => rfl
structure Held (g : GM) : Prop where
 e : ∀ k, k < g.xs.length → ∃ e, AtE g.xs e k ∧ VE e ∧ nodes e ≤ g.xs.length
 t : ∀ k, k < g.ts.length → ∃ t, AtT g.xs g.ts t k [] ∧ OkT t false ∧ VT t ∧ nx t ≤ g.xs.length ∧ nt t ≤ g.ts.length
theorem Held.none : Held gm0 := ⟨fun k hk => absurd hk (Nat.not_lt_zero _), fun k hk => absurd hk (Nat.not_lt_zero _)⟩
theorem Held.addX {g : GM} (h : Held g) {x : XM} {e : EA} (h1 : AtE (g.addX x).xs e g.xs.length) (h2 : VE e) (h3 : nodes e ≤ g.xs.length + 1) : Held (g.addX x) := by
 have hl : (g.addX x).xs.length = g.xs.length + 1 := by simp [GM.addX]
 refine ⟨fun k hk => ?_, fun k hk => ?_⟩
 ·rw [hl] at hk ⊢
  by_cases hk2 : k < g.xs.length
  ·obtain ⟨e', q1, q2, q3⟩ := h.e k hk2
   exact ⟨e', (Grow.addX g x).e q1, q2, by omega⟩
  ·obtain rfl : k = g.xs.length := by omega
   exact ⟨e, h1, h2, h3⟩
 ·obtain ⟨t, q1, q2, q3, q4, q5⟩ := h.t k hk
  exact ⟨t, (Grow.addX g x).t q1, q2, q3, by omega, q5⟩
theorem Held.addT {g : GM} (h : Held g) {x : TM} {t : TA} (h1 : AtT (g.addT x).xs (g.addT x).ts t g.ts.length []) (o : OkT t false) (h2 : VT t) (h3 : nx t ≤ g.xs.length) (h4 : nt t ≤ g.ts.length + 1) : Held (g.addT x) := by
 have hl : (g.addT x).ts.length = g.ts.length + 1 := by simp [GM.addT]
 refine ⟨fun k hk => ?_, fun k hk => ?_⟩
 ·obtain ⟨e, q1, q2, q3⟩ := h.e k hk
  exact ⟨e, (Grow.addT g x).e q1, q2, q3⟩
 ·rw [hl] at hk ⊢
  by_cases hk2 : k < g.ts.length
  ·obtain ⟨t', q1, q2, q3, q4, q5⟩ := h.t k hk2
   exact ⟨t', (Grow.addT g x).t q1, q2, q3, q4, by omega⟩
  ·obtain rfl : k = g.ts.length := by omega
   exact ⟨t, h1, o, h2, h3, h4⟩
theorem addX_len (g : GM) (x : XM) : (g.addX x).xs.length = g.xs.length + 1 := by simp [GM.addX]
theorem addT_len (g : GM) (x : TM) : (g.addT x).ts.length = g.ts.length + 1 := by simp [GM.addT]
theorem addT_xs (g : GM) (x : TM) : (g.addT x).xs = g.xs := rfl
theorem putE_good : ∀ (e : EA) (g : GM), VE e → Held g → Held (putE e g) ∧ (putE e g).xs.length = g.xs.length + nodes e ∧ (putE e g).ts = g.ts
 | .num n, g, v, h => ⟨h.addX (e := .num n) (by have := addX_at g ⟨0, [], n, [], []⟩; rw [addX_x] at this; exact this) v (by simp [nodes]), addX_len _ _, rfl⟩
 | .name s, g, v, h => ⟨h.addX (e := .name s) (by have := addX_at g ⟨1, [], 0, s, []⟩; rw [addX_x] at this; exact this) v (by simp [nodes]), addX_len _ _, rfl⟩
 | .not a, g, v, h => by
  obtain ⟨h1, h2, h3⟩ := putE_good a g v h
  have h4 := (putE_at (.not a) g).2
  rw [putE, addX_x] at h4
  refine ⟨h1.addX h4 v (by simp only [nodes]; omega), ?_, h3⟩
  rw [putE, addX_len, h2]; simp only [nodes]; omega
 | .bin op a b, g, v, h => by
  obtain ⟨h1, h2, h3⟩ := putE_good a g v.2.1 h
  obtain ⟨k1, k2, k3⟩ := putE_good b (putE a g) v.2.2 h1
  have h4 := (putE_at (.bin op a b) g).2
  rw [putE, addX_x] at h4
  refine ⟨k1.addX h4 v (by simp only [nodes]; omega), ?_, k3.trans h3⟩
  rw [putE, addX_len, k2, h2]; simp only [nodes]; omega
theorem putEs_good : ∀ (l : List EA) (s : GM × List Nat), (∀ e ∈ l, VE e) → Held s.1 → Held (l.foldl stepE s).1 ∧ (l.foldl stepE s).1.xs.length = s.1.xs.length + nodesL l ∧ (l.foldl stepE s).1.ts = s.1.ts
 | [], s, _, h => ⟨h, rfl, rfl⟩
 | e :: l, s, v, h => by
  obtain ⟨h1, h2, h3⟩ := putE_good e s.1 (v e (by simp)) h
  obtain ⟨k1, k2, k3⟩ := putEs_good l (stepE s e) (fun x hx => v x (by simp [hx])) h1
  refine ⟨k1, ?_, k3.trans h3⟩
  rw [List.foldl_cons, k2]
  show (putE e s.1).xs.length + _ = _
  rw [h2]; simp only [nodesL, List.map_cons, List.sum_cons]; omega
theorem putT_good : ∀ (t : TA) (b : Bool) (g : GM), VT t → OkT t b → Held g → Held (putT t g).1 ∧ (putT t g).1.xs.length = g.xs.length + nx t ∧ (putT t g).1.ts.length = g.ts.length + nt t
 | .int z li, b, g, v, o, h => by
  obtain rfl : b = false := o
  have h4 := (putT_at (.int z li) g).2.1 rfl
  rw [putT, addT_t] at h4
  exact ⟨h.addT h4 rfl v (by simp [nx]) (by simp [nt]), rfl, addT_len _ _⟩
 | .ref s es, b, g, v, o, h => by
  obtain rfl : b = false := o
  obtain ⟨h1, h2, h3⟩ := putEs_good es (g, []) v.2.2 h
  have h4 := (putT_at (.ref s es) g).2.1 rfl
  rw [putT, addT_t] at h4
  have h2' : (putEs es g).1.xs.length = g.xs.length + nodesL es := h2
  have h3' : (putEs es g).1.ts = g.ts := h3
  refine ⟨Held.addT (g := (putEs es g).1) h1 h4 rfl v (by simp only [nx]; omega) (by simp only [nt]; omega), h2', ?_⟩
  rw [putT, addT_len, h3']; rfl
 | .idx k e, b, g, v, o, h => by
  obtain ⟨rfl, o2⟩ := o
  obtain ⟨h1, h2, h3⟩ := putE_good e g v h
  have h4 := (putT_at (.idx k e) g).2.1 ⟨rfl, o2⟩
  rw [putT, addT_t] at h4
  refine ⟨h1.addT h4 ⟨rfl, o2⟩ v (by simp only [nx]; omega) (by simp only [nt]; omega), h2, ?_⟩
  rw [putT, addT_len, h3]; rfl
 | .win k e t, b, g, v, o, h => by
  obtain ⟨rfl, o2⟩ := o
  obtain ⟨h1, h2, h3⟩ := putE_good e g v.1 h
  obtain ⟨k1, k2, k3⟩ := putT_good t false (putE e g) v.2 o2.2 h1
  have h4 := (putT_at (.win k e t) g).2.1 ⟨rfl, o2⟩
  rw [putT, addT_t] at h4
  rw [h3] at k3
  refine ⟨k1.addT h4 ⟨rfl, o2⟩ v (by simp only [nx]; omega) (by simp only [nt]; omega), ?_, ?_⟩
  ·rw [putT, addT_xs, k2, h2]; simp only [nx]; omega
  ·rw [putT, addT_len, k3]; simp only [nt]; omega
 | .rest t, b, g, v, o, h => by
  obtain ⟨rfl, o2⟩ := o
  obtain ⟨k1, k2, k3⟩ := putT_good t false g v o2 h
  have h4 := (putT_at (.rest t) g).2.1 ⟨rfl, o2⟩
  rw [putT, addT_t] at h4
  refine ⟨k1.addT h4 ⟨rfl, o2⟩ v (by simp only [nx]; omega) (by simp only [nt]; omega), ?_, ?_⟩
  ·rw [putT, addT_xs, k2]; rfl
  ·rw [putT, addT_len, k3]; simp only [nt]; omega
 | .leaf q, b, g, v, o, h => by
  obtain ⟨rfl, o2⟩ := o
  have h4 := (putT_at (.leaf q) g).2.1 ⟨rfl, o2⟩
  rw [putT, addT_t] at h4
  exact ⟨h.addT h4 ⟨rfl, o2⟩ v (by simp [nx]) (by simp [nt]), rfl, addT_len _ _⟩
 | .arr t e, b, g, v, o, h => by
  obtain ⟨rfl, o2⟩ := o
  obtain ⟨k1, k2, k3⟩ := putT_good t false g v.1 o2 h
  obtain ⟨h1, h2, h3⟩ := putE_good e (putT t g).1 v.2 k1
  have h4 := (putT_at (.arr t e) g).2.1 ⟨rfl, o2⟩
  rw [putT, addT_t] at h4
  have h5 : (putE e (putT t g).1).ts.length = g.ts.length + nt t := by rw [h3, k3]
  refine ⟨h1.addT h4 ⟨rfl, o2⟩ v (by simp only [nx]; omega) (by simp only [nt]; omega), ?_, ?_⟩
  ·rw [putT, addT_xs, h2, k2]; simp only [nx]; omega
  ·rw [putT, addT_len, h5]; simp only [nt]; omega
 | .sw e cs els, b, g, v, o, h => by
  obtain ⟨rfl, o2, o3⟩ := o
  obtain ⟨h1, h2, h3⟩ := putE_good e g v.1 h
  obtain ⟨k1, k2, k3⟩ := putT_good cs true (putE e g) v.2.1 o2 h1
  have key : Held (putT els (putT cs (putE e g)).1).1 ∧ (putT els (putT cs (putE e g)).1).1.xs.length = (putT cs (putE e g)).1.xs.length + nx els ∧ (putT els (putT cs (putE e g)).1).1.ts.length = (putT cs (putE e g)).1.ts.length + nt els := by
   cases hn : els.isNil
   ·exact putT_good els false (putT cs (putE e g)).1 v.2.2 (o3 hn) k1
   ·obtain rfl := isNil_eq hn
    exact ⟨k1, rfl, rfl⟩
  obtain ⟨l1, l2, l3⟩ := key
  have h4 := (putT_at (.sw e cs els) g).2.1 ⟨rfl, o2, o3⟩
  rw [putT, addT_t] at h4
  rw [h3] at k3
  refine ⟨l1.addT h4 ⟨rfl, o2, o3⟩ v (by simp only [nx]; omega) (by simp only [nt]; omega), ?_, ?_⟩
  ·rw [putT, addT_xs, l2, k2, h2]; simp only [nx]; omega
  ·rw [putT, addT_len, l3, k3]; simp only [nt]; omega
 | .nil, b, g, v, o, h => ⟨h, rfl, rfl⟩
 | .snoc cs n t, b, g, v, o, h => by
  obtain ⟨rfl, o2, o3⟩ := o
  obtain ⟨k1, k2, k3⟩ := putT_good cs true g v.1 o2 h
  obtain ⟨l1, l2, l3⟩ := putT_good t false (putT cs g).1 v.2.2 o3 k1
  refine ⟨l1, ?_, ?_⟩
  ·rw [putT]; show (putT t (putT cs g).1).1.xs.length = _; rw [l2, k2]; simp only [nx]; omega
  ·rw [putT]; show (putT t (putT cs g).1).1.ts.length = _; rw [l3, k3]; simp only [nt]; omega
theorem putI_good (x : IA) (g : GM) (v : VI x) (o : OkI x) (h : Held g) : Held (putI x g).1 := by
 cases x with
 | pack z li subs => exact h
 | field s t d wh =>
  obtain ⟨h1, -⟩ := putT_good t false g v.2.2.1 o.1 h
  cases wh with
  | none => exact h1
  | some e => exact (putE_good e _ (v.2.2.2.2 e rfl) h1).1
theorem putIs_good : ∀ (l : List IA) (s : GM × List IM), (∀ x ∈ l, VI x ∧ OkI x) → Held s.1 → Held (l.foldl stepI s).1
 | [], s, _, h => h
 | x :: l, s, v, h => putIs_good l (stepI s x) (fun y hy => v y (by simp [hy])) (putI_good x s.1 (v x (by simp)).1 (v x (by simp)).2 h)
theorem putSs_good : ∀ (l : List SA) (s : GM × List SM), (∀ x ∈ l, VS x ∧ OkS x) → Held s.1 → Held (l.foldl stepS s).1
 | [], s, _, h => h
 | x :: l, s, v, h => putSs_good l (stepS s x) (fun y hy => v y (by simp [hy])) (putIs_good x.is (s.1, []) (fun y hy => ⟨(v x (by simp)).1.2.2.2 y hy, (v x (by simp)).2 y hy⟩) h)
theorem putF_good (cs : List (List UInt8 × Nat)) (ss : List SA) (v : ∀ x ∈ ss, VS x ∧ OkS x) : Held (putF cs ss).g := putSs_good ss (gm0, []) v .none
end Go.Proofs.YthcdohggffpopaaGreatDoor
namespace Go.Proofs.YthcdohggffpopaaGreatDoor
open Go.Lib (hid)
def Bz (s : List UInt8) : Bool := nameB s && !isKw s && isKw (s ++ [122])
def rb (s : List UInt8) : List UInt8 := if Bz s = true then s ++ [95, 95] else s
def gb (t : Tok) : Tok := ⟨⟨t.tk.k, rb t.tk.t, t.tk.n⟩, t.p⟩
theorem Bz_of {s : List UInt8} (h : Bz s = true) : NameOK s ∧ isKw s = false ∧ isKw (s ++ [122]) = true := by
 unfold Bz at h
 simp only [Bool.and_eq_true, Bool.not_eq_true'] at h
 exact ⟨nameB_ok h.1.1, h.1.2, h.2⟩
theorem kw_plain : (∀ k ∈ kwL, k.contains 95 = false) ∧ ∀ x ∈ intsL, x.1.contains 95 = false := by decide
theorem bar_no_kw (s : List UInt8) : isKw (s ++ [95, 95]) = false := by
 have hc : (s ++ [95, 95]).contains 95 = true := List.contains_iff_mem.2 (by simp)
 unfold isKw
 rw [Bool.or_eq_false_iff]
 constructor
 ·cases h : kwL.contains (s ++ [95, 95]) with
  | false => rfl
  | true =>
   have := kw_plain.1 _ (List.contains_iff_mem.1 h)
   rw [hc] at this; cases this
 ·unfold intW
  have : intsL.find? (fun x => x.1 == s ++ [95, 95]) = none := by
   rw [List.find?_eq_none]
   intro x hx e
   have e : x.1 = s ++ [95, 95] := by simpa using e
   have := kw_plain.2 x hx
   rw [e, hc] at this; cases this
  rw [this]; rfl
theorem name_head_b {s : List UInt8} (h : NameOK s) : isW ((s ++ [95, 95]).headD 0) = true := by
 cases s with
 | nil => exact absurd rfl h.ne
 | cons c t => exact h.w c (by simp)
theorem rb_rn : Rn rb gb where
 k _ := rfl
 n _ := rfl
 t _ := rfl
 is s k hk := by
  unfold rb
  split
  ·rename_i h
   obtain ⟨h1, h2, h3⟩ := Bz_of h
   exact ⟨fun e => absurd e (ks_no (name_head_b h1) (bar_no_kw s) k hk), fun e => absurd e (ks_no (name_head h1) h2 k hk)⟩
  ·exact Iff.rfl
 kw s := by
  unfold rb
  split
  ·rename_i h
   rw [(Bz_of h).2.1, bar_no_kw]
  ·rfl
 iw s := by
  unfold rb
  split
  ·rename_i h
   rw [(kw_mem (Bz_of h).2.1).2, (kw_mem (bar_no_kw s)).2]
  ·rfl
 lv s := by
  unfold rb
  split
  ·rename_i h
   rw [level_zero (name_head (Bz_of h).1), level_zero (name_head_b (Bz_of h).1)]
  ·rfl
 op s hs := by
  unfold rb
  split
  ·rename_i h
   rw [level_zero (name_head (Bz_of h).1)] at hs
   omega
  ·rfl
 ty s := by
  unfold rb
  split
  ·rename_i h
   rw [ty_no (Bz_of h).2.1, ty_no (bar_no_kw s)]
  ·rfl
 nil := by decide
theorem rb_same {s : List UInt8} (h : rb s = s) : Bz s = false := by
 cases hb : Bz s with
 | false => rfl
 | true =>
  unfold rb at h
  rw [if_pos hb] at h
  have := congrArg List.length h
  simp at this
theorem map_fix {α : Type} {f : α → α} : ∀ {l : List α}, l.map f = l → ∀ x ∈ l, f x = x
 | [], _, x, hx => by cases hx
 | y :: l, h, x, hx => by
  rw [List.map_cons, List.cons.injEq] at h
  rcases List.mem_cons.1 hx with rfl | hx
  ·exact h.1
  ·exact map_fix h.2 x hx
theorem names_fixed {s : List UInt8} {ts : List Tok} {f : FM} (h : lexL s = .ok ts) (hp : parseL s = .ok f) (o : ∀ t ∈ ts, OkZ t) : (∀ x ∈ f.g.xs, Bz x.s = false) ∧ ∀ x ∈ f.ss, Bz x.s = false := by
 obtain ⟨i, e, rfl, he, hi⟩ := lexL_goodV h
 have hts : (i ++ [e]).map gb = i ++ [e] := by
  have hm : (i ++ [e]).map gb = (i ++ [e]).map id := by
   refine List.map_congr_left fun t ht => ?_
   have hb : Bz t.tk.t = false := by
    cases hb : Bz t.tk.t with
    | false => rfl
    | true =>
     obtain ⟨h1, h2, h3⟩ := Bz_of hb
     have hk : t.tk.k = 0 := by
      rcases List.mem_append.1 ht with ht | ht
      ·have hg := hi t ht
       have hc : isW (t.tk.t.headD 0) = true := name_head h1
       rcases kinds hg with hk | hk | hk
       ·exact hk
       ·have := num_digit hg hk
        rw [h1.d] at this; cases this
       ·have := sign_run hg hk
        have h5 := h1.ne
        cases hq : t.tk.t with
        | nil => exact absurd hq h5
        | cons c q =>
         rw [hq] at this hc
         unfold runL at this
         have hc : isW c = true := hc
         rw [List.takeWhile_cons, if_pos hc] at this
         cases this
      ·rw [List.mem_singleton.1 ht, he] at h1
       exact absurd rfl h1.ne
     have := (o t ht hk h2).2
     rw [h3] at this; cases this
   unfold gb rb
   rw [if_neg (by rw [hb]; decide)]; rfl
  rw [hm, List.map_id]
 unfold parseL at hp
 rw [h] at hp
 dsimp only at hp
 cases hf : fileP (i ++ [e]) with
 | bad l x => rw [hf] at hp; cases hp
 | ok a l =>
  rw [hf] at hp
  simp only [FR.ok.injEq] at hp
  have hq := file_mq rb_rn (fuel (i ++ [e])) [] [] (i ++ [e])
  rw [show fileL (fuel (i ++ [e])) [] [] (i ++ [e]) = .ok a l from hf, hts] at hq
  have hq : fileL (fuel (i ++ [e])) [] [] (i ++ [e]) = .ok (a.1.map (rP rb), a.2.map (rS rb)) (l.map gb) := hq
  rw [show fileL (fuel (i ++ [e])) [] [] (i ++ [e]) = .ok a l from hf] at hq
  simp only [PR.ok.injEq] at hq
  have hfx : rF rb f = f := by
   rw [← hp, ← putF_r (by decide)]
   have h1 := congrArg Prod.fst hq.1
   have h2 := congrArg Prod.snd hq.1
   simp only at h1 h2
   rw [← h1, ← h2]
  constructor
  ·intro x hx
   have h1 : (rF rb f).g.xs = f.g.xs := by rw [hfx]
   have := map_fix (f := rX rb) h1 x hx
   exact rb_same (congrArg XM.s this)
  ·intro x hx
   have h1 : (rF rb f).ss = f.ss := by rw [hfx]
   have := map_fix (f := rSm rb) h1 x hx
   exact rb_same (congrArg SM.s this)
theorem rz_name {s : List UInt8} (h : NameOK s) (hk : isKw s = false) (hb : Bz s = false) : rz s = s ++ [122] := by
 have hn : nameB s = true := by
  unfold nameB
  have h1 := h.d
  have h3 := h.len
  have h4 : s.all isW = true := List.all_eq_true.2 h.w
  simp only [Bool.and_eq_true, decide_eq_true_eq, Bool.not_eq_true']
  exact ⟨⟨⟨h.ne, h4⟩, h1⟩, h3⟩
 have hz : isKw (s ++ [122]) = false := by
  unfold Bz at hb
  rw [hn, hk] at hb
  simpa using hb
 unfold rz Cz
 rw [hn, hk, hz]; rfl
theorem sm_name : ∀ (l : List SA) (s : GM × List SM), (∀ x ∈ l, NameOK x.s ∧ isKw x.s = false) → (∀ y ∈ s.2, NameOK y.s ∧ isKw y.s = false) → ∀ y ∈ (l.foldl stepS s).2, NameOK y.s ∧ isKw y.s = false
 | [], s, _, h => h
 | x :: l, s, v, h => by
  refine sm_name l (stepS s x) (fun y hy => v y (by simp [hy])) fun y hy => ?_
  unfold stepS at hy
  rcases List.mem_append.1 hy with hy | hy
  ·exact h y hy
  ·rw [List.mem_singleton.1 hy]; exact v x (by simp)
theorem names_z {s : List UInt8} {ts : List Tok} {f : FM} (h : lexL s = .ok ts) (hp : parseL s = .ok f) (o : ∀ t ∈ ts, OkZ t) : (∀ x ∈ f.g.xs, x.k = 1 → rz x.s = x.s ++ [122]) ∧ ∀ x ∈ f.ss, rz x.s = x.s ++ [122] := by
 obtain ⟨h1, h2⟩ := names_fixed h hp o
 obtain ⟨cs, ss, rfl, vc, vs, -⟩ := parse_tree hp
 constructor
 ·intro x hx hk
  obtain ⟨k, hk2⟩ := List.getElem?_of_mem hx
  obtain ⟨e, a, v, -⟩ := (putF_good cs ss fun x hx => ⟨(vs x hx).1, (vs x hx).2.1⟩).e k (List.getElem?_eq_some_iff.1 hk2).1
  cases e with
  | num n =>
   have a : _ = _ := a
   rw [hk2] at a; cases a; cases hk
  | name q =>
   have a : _ = _ := a
   rw [hk2] at a; cases a
   exact rz_name v.1 v.2 (h1 _ hx)
  | not q =>
   obtain ⟨_, a, _⟩ := a
   rw [hk2] at a; cases a; cases hk
  | bin op p q =>
   obtain ⟨_, _, a, _⟩ := a
   rw [hk2] at a; cases a; cases hk
 ·intro x hx
  have := sm_name ss (gm0, []) (fun y hy => ⟨(vs y hy).1.1, (vs y hy).1.2.1⟩) (fun y hy => by cases hy) x hx
  exact rz_name this.1 this.2 (h2 x hx)
end Go.Proofs.YthcdohggffpopaaGreatDoor
namespace Go.Proofs.YthcdohggffpopaaGreatDoor
open Go.Lib (hid)
open Classical in
open Classical in
theorem All2.at {α β : Type} {R : α → β → Prop} {l : List α} {m : List β} (h : All2 R l m) : ∀ (i : Nat) b, m[i]? = some b → ∃ a, l[i]? = some a ∧ R a b := by
 induction h with
 | nil => intro i b hb; simp at hb
 | cons h1 _ ih =>
  intro i b hb
  cases i with
  | zero => rw [List.getElem?_cons_zero] at hb; cases hb; exact ⟨_, rfl, h1⟩
  | succ i => exact ih i b hb
end Go.Proofs.YthcdohggffpopaaGreatDoor
namespace Go.Proofs.YthcdohggffpopaaGreatDoor
open Go.Lib (hid)
open Go.ChangeShapes Go.WideShapes Go.ChangeAt Go.RowKit
end Go.Proofs.YthcdohggffpopaaGreatDoor
namespace Go.Proofs.YthcdohggffpopaaGreatDoor
open Go.Lib (hid)
open Go.ChangeShapes Go.WideShapes Go.ChangeAt Go.RowKit
theorem bs_app (a b : List UInt8) : bs a ++ bs b = bs (a ++ b) := by
 apply ByteArray.ext
 apply Array.ext'
 rw [ByteArray.data_append, Array.toList_append]
 rfl
end Go.Proofs.YthcdohggffpopaaGreatDoor
namespace Go.Proofs.YthcdohggffpopaaGreatDoor
open Go.Lib (hid)
open Go.ChangeShapes Go.WideShapes Go.ChangeAt Go.RowKit
def LZ (ts : List Tok) (k : Nat) : List Tok := (ts.take k).map lawz ++ ts.drop k
theorem LZ_zero (ts : List Tok) : LZ ts 0 = ts := by simp [LZ]
theorem LZ_all (ts : List Tok) : LZ ts ts.length = ts.map lawz := by simp [LZ]
theorem LZ_at {ts : List Tok} {k : Nat} {t : Tok} (h : ts[k]? = some t) : (LZ ts k)[k]? = some t := by
 have hk := (List.getElem?_eq_some_iff.1 h).1
 unfold LZ
 rw [List.getElem?_append_right (by rw [List.length_map, List.length_take]; omega), List.length_map, List.length_take, List.getElem?_drop, show k + (k - min k ts.length) = k by omega, h]
theorem LZ_succ {ts : List Tok} {k : Nat} {t : Tok} (h : ts[k]? = some t) : LZ ts (k + 1) = (LZ ts k).set k (lawz t) := by
 obtain ⟨hk, e⟩ := List.getElem?_eq_some_iff.1 h
 unfold LZ
 rw [List.take_add_one, h, List.drop_eq_getElem_cons hk, List.set_append_right _ _ (by rw [List.length_map, List.length_take]; omega), List.length_map, List.length_take, show k - min k ts.length = 0 by omega, List.set_cons_zero]
 simp
theorem LZ_same {ts : List Tok} {k : Nat} {t : Tok} (h : ts[k]? = some t) (e : lawz t = t) : LZ ts (k + 1) = LZ ts k := by
 rw [LZ_succ h, e]
 apply List.ext_getElem?
 intro i
 rw [List.getElem?_set]
 split
 ·rename_i hi
  subst hi
  split
  ·exact (LZ_at h).symm
  ·rename_i hn; exact (List.getElem?_eq_none (by omega)).symm
 ·rfl
theorem take_ok {P : Tok → Prop} {ts : List Tok} {k : Nat} {t : Tok} (h : ts[k]? = some t) (ho : ∀ u ∈ ts.take k, P u) (ht : P t) : ∀ u ∈ ts.take (k + 1), P u := by
 intro u hu
 rw [List.take_add_one, h] at hu
 rcases List.mem_append.1 hu with hu | hu
 ·exact ho u hu
 ·obtain rfl : u = t := by simpa using hu
  exact ht
theorem TkS.news {w : World} {g : Nat} {l : List Tok} (h : TkS w (some ⟨g, 0, none⟩) l) : ∀ j u, (l.flatMap tkC)[j]? = some u → w.cell? ((⟨g, 0, none⟩ : Addr).add j) = some u := by
 intro j u hj
 rw [show (⟨g, 0, none⟩ : Addr).add j = ⟨g, j, none⟩ from by unfold Addr.add; split <;> simp_all]
 obtain ⟨i, m, hm, rfl⟩ : ∃ i m, m < 5 ∧ j = i * 5 + m := ⟨j / 5, j % 5, Nat.mod_lt _ (by decide), by omega⟩
 rw [tkC_at l _ _ hm] at hj
 obtain ⟨t, ht, htj⟩ := Option.bind_eq_some_iff.1 hj
 obtain ⟨g2, e, hg, c0, c1, c2, c3, c4⟩ := h _ t ht
 cases e
 match m, hm, htj with
 | 0, _, e => cases e; exact c0
 | 1, _, e => cases e; exact c1
 | 2, _, e => cases e; exact c2
 | 3, _, e => cases e; exact c3
 | 4, _, e => cases e; exact c4
theorem tkC_one (l : List Tok) : ∀ u ∈ l.flatMap tkC, u.oneCell' = true := by
 intro u hu
 obtain ⟨t, -, hu⟩ := List.mem_flatMap.1 hu
 simp only [tkC, List.mem_cons, List.mem_nil_iff, or_false] at hu
 rcases hu with rfl | rfl | rfl | rfl | rfl <;> rfl
def MZ (w : World) (g : Nat) (l : List Tok) : Prop := (∀ j, w.frozen? ⟨g, j, none⟩ = false) ∧ g < w.heap.size ∧ TkS w (some ⟨g, 0, none⟩) l
theorem MZ.keep {w w' : World} {g : Nat} {l : List Tok} (h : MZ w g l) (hb : Below w.heap.size w w') : MZ w' g l := by
 obtain ⟨h1, h2, h3⟩ := h
 refine ⟨fun j => ?_, Nat.lt_of_lt_of_le h2 hb.size, h3.below hb⟩
 have := h1 j
 unfold World.frozen? at this ⊢
 rw [hb.block g h2]
 exact this
theorem MZ.set {w : World} {g : Nat} {l : List Tok} (h : MZ w g l) {k : Nat} {t : Tok} (hk : l[k]? = some t) (u : List UInt8) : MZ (w.setCell ⟨g, k * 5 + 1, none⟩ (.string (bs u))) g (l.set k ⟨⟨t.tk.k, u, t.tk.n⟩, t.p⟩) := by
 obtain ⟨h1, h2, h3⟩ := h
 refine ⟨fun i => by simp [h1 i], by simpa using h2, fun i x hx => ?_⟩
 have o : ∀ d, d ≠ k * 5 + 1 → (w.setCell ⟨g, k * 5 + 1, none⟩ (.string (bs u))).cell? ⟨g, d, none⟩ = w.cell? ⟨g, d, none⟩ := fun d hd => World.cell?_setCell_other _ _ _ _ (fun e => hd (by cases e; rfl))
 rw [List.getElem?_set] at hx
 split at hx
 ·rename_i e
  subst e
  split at hx
  ·cases hx
   obtain ⟨g2, e, hg, c0, c1, c2, c3, c4⟩ := h3 k t hk
   cases e
   exact ⟨_, rfl, by simpa using h2, (o _ (by omega)).trans c0, World.cell?_setCell_same _ _ _ c1, (o _ (by omega)).trans c2, (o _ (by omega)).trans c3, (o _ (by omega)).trans c4⟩
  ·cases hx
 ·obtain ⟨g2, e, hg, c0, c1, c2, c3, c4⟩ := h3 i x hx
  cases e
  exact ⟨_, rfl, by simpa using h2, (o _ (by omega)).trans c0, (o _ (by omega)).trans c1, (o _ (by omega)).trans c2, (o _ (by omega)).trans c3, (o _ (by omega)).trans c4⟩
theorem Toks.mz {E : TypeId} {B : Nat} {w : World} {v : Value} {l : List Tok} (h : Toks E B w v l) (hne : l ≠ []) : ∃ g c, v = .slice (some ⟨g, 0, none⟩) l.length c ∧ B ≤ g ∧ MZ w g l := by
 rcases h.form with ⟨_, e⟩ | ⟨g, cap, rfl⟩
 ·exact absurd e hne
 ·refine ⟨g, cap, rfl, (h.lt g rfl).1, fun j => World.ownsRow.frozenAt h j, (h.lt g rfl).2, h.rd⟩
theorem sl_bd {α : Type} {size : Nat} {rep : World → List Value → α → Prop} {w : World} {a : Option Addr} {n c : Nat} {l : List α} (h : SlR size rep w (.slice a n c) l) : n = l.length ∧ l.length ≤ c ∧ c ≤ 9223372036854775807 := by
 obtain ⟨a', c', e, h1, h2⟩ := h.shape
 simp only [Value.slice.injEq] at e
 obtain ⟨rfl, rfl, rfl⟩ := e
 unfold maxLen at h2
 exact ⟨rfl, h1, by omega⟩
theorem rz_add {s : List UInt8} (h : rz s = s ++ [122]) : s.length ≤ 32 := by
 unfold rz at h
 split at h
 ·rename_i hc
  have := (Cz_of hc).1.len
  omega
 ·have := congrArg List.length h
  simp at this
theorem names_all {s : List UInt8} {ts : List Tok} {f : FM} (hs : s.length ≤ 1500) (h : lexL s = .ok ts) (hp : parseL s = .ok f) (o : ∀ t ∈ ts, OkZ t) :
  ts.map lawz = ts.map gz ∧ (joinL (ts.map gz)).length ≤ 16384 ∧ ∃ f2 : FM, parseL (joinL (ts.map gz)) = .ok f2 ∧ f2.g.xs.length = f.g.xs.length ∧ f2.g.ts.length = f.g.ts.length ∧ f2.ss.length = f.ss.length ∧
   (∀ (i : Nat) (x : XM), f.g.xs[i]? = some x → ∃ y : XM, f2.g.xs[i]? = some y ∧ y.k = x.k ∧ y.op = x.op ∧ y.n = x.n ∧ (x.k = 1 → x.s.length ≤ 32 ∧ y.s = x.s ++ [122])) ∧
   ∀ (i : Nat) (x : SM), f.ss[i]? = some x → ∃ y : SM, f2.ss[i]? = some y ∧ x.s.length ≤ 32 ∧ y.s = x.s ++ [122] ∧ y.is.length = x.is.length := by
 obtain ⟨n1, n2, n3⟩ := names_parse hs h hp o
 obtain ⟨z1, z2⟩ := names_z h hp o
 refine ⟨n1, n2, _, n3, by simp [rF, rG], by simp [rF, rG], by simp [rF], ?_, ?_⟩
 ·intro i x hx
  refine ⟨rX rz x, by simp [rF, rG, hx], rfl, rfl, rfl, fun hk => ?_⟩
  have := z1 x (List.mem_of_getElem? hx) hk
  exact ⟨rz_add this, this⟩
 ·intro i x hx
  have := z2 x (List.mem_of_getElem? hx)
  exact ⟨rSm rz x, by simp [rF, hx], rz_add this, this, by simp [rSm]⟩
end Go.Proofs.YthcdohggffpopaaGreatDoor
namespace Go.Proofs.YthcdohggffpopaaGreatDoor
open Go.Lib (hid)
open Go.ChangeShapes Go.WideShapes Go.ChangeAt Go.RowKit
set_option maxHeartbeats 16000000 in
set_option maxRecDepth 100000 in
theorem TopNames_walk (s : ByteArray) (w : World) (ws : s.size ≤ maxLen) (hE : Env w) (hK : KEnv (fun b => b < w.heap.size) w) (hN : NEnv w) :
  Calls Tryz.prog 12 #[.string s] w fun e w' => e = .returned (.bool true) ∧ Below w.heap.size w w' := by
 have HW := hid fun w' (hb : Below w.heap.size w w') => wakes08_any w' (hE.below hb) (hK.low hb) (hN.below hb)
 have HEN := hid (fun w' (hb : Below w.heap.size w w') => (⟨hE.below hb, hK.low hb⟩ : Env w' ∧ KEnv (fun b => b < w'.heap.size) w'))
 obtain ⟨i0, hi, hz0, hz1, hz2⟩ := info_parts info_ptok
 have HI := hid (And.intro hi (And.intro hz0 (And.intro hz1 hz2)))
 clear hi hz0 hz1 hz2
 unfold maxLen at ws
 clear hE hK hN
 go_enter Tryz.func12, Tryz.ntmps12
 go_upto_region 2 with fail
 generalize hs1 : s.extract 0 (min ((s.size : Nat) : Int) 1500).toNat = s1
 have hz1 : s1.size ≤ 1500 := by rw [← hs1, ByteArray.size_extract]; omega
 have hz2 : s1.data.toList.length = s1.size := by simp
 have HZ2 := hid hz2
 clear hs1 hz2
 cases hp : parseL s1.data.toList with
 | bad p x =>
  have CL : ∃ (v : Value) (p1 p2 : Int) (y : Nat), Hid (Calls Tryz.prog 40 #[.string s1] w fun e w' => (∃ g n c, e = .returned (.tuple #[.slice g n c, .agg #[.int .i64 p1, .int .i64 p2], .int .i64 (y : Nat)])) ∧ Below w.heap.size w w') := by
   cases hl : lexL s1.data.toList with
   | bad q y =>
    have CL := Lex_any s1 w (HEN.out w (Below.refl _ _)).1
    rw [hl] at CL
    refine ⟨.bool true, q.1, q.2, y, hid (CL.mono ?_)⟩
    rintro e w' ⟨v, rfl, hT, hb⟩
    obtain ⟨g, c, rfl⟩ := ownsRow_shape hT
    exact ⟨⟨g, _, c, rfl⟩, hb⟩
   | ok ts =>
    refine ⟨.bool true, 0, 0, 0, hid ((Lex_ok hl s1 rfl w (HEN.out w (Below.refl _ _)).1).mono ?_)⟩
    rintro e w' ⟨⟨g, c, rfl, -⟩, hb⟩
    exact ⟨⟨g, _, c, rfl⟩, hb⟩
  obtain ⟨-, q1, q2, y, CL⟩ := CL
  have CP := hid fun w' (hb : Below w.heap.size w w') => (Parse_any s1 w' (HEN.out w' hb).1 (HEN.out w' hb).2).mono fun e w2 h => by
   rw [hp] at h
   exact (⟨⟨h.1.1, h.1.2⟩, h.2⟩ : (e = .returned (.tuple #[.pointer none, .agg #[.int .i64 (p.1 : Nat), .int .i64 (p.2 : Nat)], .int .i64 (x : Nat)]) ∧ x ≠ 0) ∧ Below w'.heap.size w' w2)
  clear hp HEN
  go_wp2_with fail
  refine CL.out.mono ?_
  rintro e w1 ⟨⟨gl, nl, cl, rfl⟩, hb⟩
  have HB1 := hid (hb.trans ((below_box w1 (.cells #[.int .i64 q1, .int .i64 q2] 24)).mono hb.size))
  clear hb CL
  go_wp2_with fail
  refine (CP.out _ HB1.out).mono ?_
  rintro e w2 ⟨⟨rfl, hx⟩, hb⟩
  have hxI : ((x : Int) != 0) = true := by simp; omega
  have HB2 := hid (HB1.out.trans ((hb.trans ((below_box w2 (.cells #[.int .i64 (p.1 : Nat), .int .i64 (p.2 : Nat)] 24)).mono hb.size)).mono HB1.out.size))
  clear hb CP hx
  go_wp2_with fail
  refine (HW.out _ HB2.out).mono ?_
  rintro e w3 ⟨rfl, hb⟩
  have HB3 := hid (HB2.out.trans (hb.mono HB2.out.size))
  clear hb
  by_cases hy : ((y : Int) != 0) = true
  ·go_wp2_with fail
   refine (HW.out _ HB3.out).mono ?_
   rintro e w4 ⟨rfl, hb⟩
   have HB4 := hid (HB3.out.trans (hb.mono HB3.out.size))
   clear hb
   go_wp2_with fail
   go_ret
   exact ⟨rfl, HB4.out⟩
  ·rw [Bool.not_eq_true] at hy
   go_wp2_with fail
   refine (HW.out _ HB3.out).mono ?_
   rintro e w4 ⟨rfl, hb⟩
   have HB4 := hid (HB3.out.trans (hb.mono HB3.out.size))
   clear hb
   go_wp2_with fail
   go_ret
   exact ⟨rfl, HB4.out⟩
 | ok f =>
  obtain ⟨ts, hl⟩ : ∃ ts, lexL s1.data.toList = .ok ts := by
   cases hl : lexL s1.data.toList with
   | ok ts => exact ⟨ts, rfl⟩
   | bad q y => unfold parseL at hp; rw [hl] at hp; cases hp
  have hne : ts ≠ [] := by
   obtain ⟨i, e, rfl, -⟩ := lexL_goodV hl
   simp
  have hr1 := (lexL_room hl).1
  rw [HZ2.out] at hr1
  have HN := hid (names_all (by rw [HZ2.out]; exact hz1) hl hp)
  have CL := hid (Lex_ok hl s1 rfl w (HEN.out w (Below.refl _ _)).1)
  have CP := hid fun w' (hb : Below w.heap.size w w') => Parse_ok hp s1 rfl w' (HEN.out w' hb).1 (HEN.out w' hb).2
  clear hl hp
  go_wp2_with fail
  refine CL.out.mono ?_
  rintro e w1 ⟨⟨gl, cl, rfl, hT, hc1, hc2⟩, hb⟩
  have HT1 := hid (hT.below (below_box w1 (.cells #[.int .i64 0, .int .i64 0] 24)))
  have HB1 := hid (hb.trans ((below_box w1 (.cells #[.int .i64 0, .int .i64 0] 24)).mono hb.size))
  clear hb CL hT
  go_wp2_with fail
  refine (CP.out _ HB1.out).mono ?_
  rintro e w2 ⟨⟨g1, rfl, hF, -⟩, hb⟩
  have HF2 := hid (hF.below (below_box w2 (.cells #[.int .i64 0, .int .i64 0] 24)))
  have HB2 := hid (HB1.out.trans ((hb.trans ((below_box w2 (.cells #[.int .i64 0, .int .i64 0] 24)).mono hb.size)).mono HB1.out.size))
  have HT2 := hid ((HT1.out.below hb).below (below_box w2 (.cells #[.int .i64 0, .int .i64 0] 24)))
  clear hb CP hF HT1
  go_wp2_with fail
  refine (HW.out _ HB2.out).mono ?_
  rintro e w3 ⟨rfl, hb⟩
  have HB3 := hid (HB2.out.trans (hb.mono HB2.out.size))
  have hT3 := HT2.out.below hb
  have HF3 := hid (HF2.out.below hb)
  clear hb HT2 HF2 HB2 HB1 HW
  obtain ⟨b0, rfl, hT3⟩ : ∃ b0, gl = some ⟨b0, 0, none⟩ ∧ TkS w3 (some ⟨b0, 0, none⟩) ts := by
   cases ts with
   | nil => exact absurd rfl hne
   | cons t r =>
    obtain ⟨b0, rfl, -⟩ := hT3 0 t rfl
    exact ⟨b0, rfl, hT3⟩
  have HT3 := hid hT3
  have HNE := hid hne
  clear hT3 hne
  go_wp2_with (at_builtin; refine wpList_append_own w3 rfl _ _ 98 rfl w3.heap.size 106 i0 _ 5 48 Tryz.underlying98 HI.out.1 HI.out.2.1 HI.out.2.2.1 HI.out.2.2.2 rfl (by decide) (.slice none 0 0) 0 [] rfl (World.ownsRow_nil _ _ _ _) ⟨b0, 0, none⟩ ts.length cl (ts.flatMap tkC) rfl (tkC_all ts) HT3.out.news (tkC_one ts) (by unfold maxLen; omega) (by omega) (Nat.le_refl _) ?_; intro v' w4 hT4 hg4 _; rw [Nat.zero_add, List.nil_append] at hT4; obtain ⟨gm, cm, rfl, hgm, hM⟩ := Toks.mz hT4 HNE.out; have HB4 := hid ((Below.refl _ w3).grown hg4 (Nat.le_refl _) (by simp [Value.ownBlock])); have HM4 := hid hM; clear hT4 hg4 hM)
  clear HI
  go_loopw [64] (fun s1 wr => ∃ k : Nat, s1 = .int .i64 k ∧ k ≤ ts.length ∧ MZ wr gm (LZ ts k) ∧ Below w3.heap.size w3 wr ∧ Hid (∀ t ∈ ts.take k, OkZ t)) (fun s1 _ => ts.length - (intOf s1).toNat)
  case atStart => exact ⟨0, rfl, Nat.zero_le _, by rw [LZ_zero]; exact HM4.out, HB4.out, hid (by simp)⟩
  case round =>
   obtain ⟨k, rfl, hk, hmr, hbr, HO⟩ := hrel
   have HM := hid hmr
   have HBR := hid hbr
   clear HM4 HB4
   by_cases hlk : k < ts.length
   ·obtain ⟨t, htk⟩ : ∃ t, ts[k]? = some t := ⟨_, List.getElem?_eq_getElem hlk⟩
    obtain ⟨gb, eb, hg, c0, c1, c2, c3, c4⟩ := (HT3.out.below hbr) k t htk
    obtain rfl : b0 = gb := by simpa using eb
    have HTK := hid htk
    clear eb hmr hbr htk
    obtain ⟨⟨kk, tt, nn⟩, ⟨px, py⟩⟩ := t
    simp only at c0 c1 c2 c3 c4
    have hkI : (k : Int) < (ts.length : Int) := by omega
    have HBX := hid (below_box wr (.cells #[.int .i64 kk, .string (bs tt), .int .u64 nn, .int .i64 px, .int .i64 py] 106))
    have HEK := hid (fun (t' : List UInt8) => Keyword_any t' (wr.alloc (.cells #[.int .i64 kk, .string (bs tt), .int .u64 nn, .int .i64 px, .int .i64 py] 106)) (HEN.out _ (HB3.out.trans ((HBR.out.trans (HBX.out.mono HBR.out.size)).mono HB3.out.size))).2)
    have HM7 := hid (HM.out.keep HBX.out)
    have HB7 := hid (HBR.out.trans (HBX.out.mono HBR.out.size))
    by_cases hk0 : kk = 0
    ·have hkb : ((kk : Int) == 0) = true := by simp [hk0]
     have HQ := hid hk0
     clear hk0
     cases hkw : isKw tt with
     | true =>
      have CK := hid (HEK.out tt)
      rw [hkw] at CK
      have HLS : Hid (lawz ⟨⟨kk, tt, nn⟩, (px, py)⟩ = ⟨⟨kk, tt, nn⟩, (px, py)⟩) := hid (by unfold lawz; rw [if_neg (by rintro ⟨-, h⟩; simp [hkw] at h)])
      have HOT : Hid (OkZ ⟨⟨kk, tt, nn⟩, (px, py)⟩) := hid (fun _ h => by simp [hkw] at h)
      clear hkw
      go_wp2_with (go_at_call 28; (with_reducible refine CK.out.mono ?_); rintro e w8 ⟨rfl, rfl⟩)
      go_roundw
      case rel => exact ⟨k + 1, by go_num, hlk, by rw [LZ_same HTK.out HLS.out]; exact HM7.out, HB7.out, hid (take_ok HTK.out HO.out HOT.out)⟩
      case measure => simp [intOf]; omega
     | false =>
      have CK := hid (HEK.out tt)
      rw [hkw] at CK
      have HKW := hid hkw
      clear hkw
      by_cases hlen : 32 ≤ (bs tt).size
      ·go_wp2_with (go_at_call 28; (with_reducible refine CK.out.mono ?_); rintro e w8 ⟨rfl, rfl⟩)
       go_ret
       exact ⟨rfl, HB3.out.trans (HB7.out.mono HB3.out.size)⟩
      ·have hnl : ¬ 9223372036854775807 < (bs tt).size + 1 := by omega
       have hap : bs tt ++ ⟨#[122]⟩ = bs (tt ++ [122]) := bs_app tt [122]
       cases hkz : isKw (tt ++ [122]) with
       | true =>
        have CK2 := hid (HEK.out (tt ++ [122]))
        rw [hkz] at CK2
        generalize tt ++ [122] = tz at CK2 hap
        clear hkz
        go_wp2_with (first | (go_at_call_of 28 tz; (with_reducible refine CK2.out.mono ?_); rintro e w8 ⟨rfl, rfl⟩) | (go_at_call 28; (with_reducible refine CK.out.mono ?_); rintro e w8 ⟨rfl, rfl⟩))
        go_ret
        exact ⟨rfl, HB3.out.trans (HB7.out.mono HB3.out.size)⟩
       | false =>
        have CK2 := hid (HEK.out (tt ++ [122]))
        rw [hkz] at CK2
        have HLS : Hid (lawz ⟨⟨kk, tt, nn⟩, (px, py)⟩ = ⟨⟨kk, tt ++ [122], nn⟩, (px, py)⟩) := hid (by unfold lawz; rw [if_pos ⟨HQ.out, HKW.out⟩])
        have HOT : Hid (OkZ ⟨⟨kk, tt, nn⟩, (px, py)⟩) := hid (fun _ _ => ⟨by rw [bs_size] at hlen; show tt.length < 32; omega, hkz⟩)
        have hmz := HM7.out.set (LZ_at HTK.out) (tt ++ [122])
        have hsucc := LZ_succ HTK.out
        rw [HLS.out] at hsucc
        rw [← hsucc] at hmz
        have HMZ := hid hmz
        obtain ⟨fz, hgl, hrd⟩ := HM7.out
        obtain ⟨gz', ez, -, -, d1, -⟩ := hrd k _ (LZ_at HTK.out)
        obtain rfl : gm = gz' := by simpa using ez
        have hB8 := hid (Below.setCell HB7.out (p := ⟨gm, k * 5 + 1, none⟩) hgm (.string (bs (tt ++ [122]))))
        generalize tt ++ [122] = tz at CK2 hap HMZ hB8
        clear hkz hmz hsucc hrd ez HLS
        go_wp2_with (first | (go_at_call_of 28 tz; (with_reducible refine CK2.out.mono ?_); rintro e w8 ⟨rfl, rfl⟩) | (go_at_call 28; (with_reducible refine CK.out.mono ?_); rintro e w8 ⟨rfl, rfl⟩))
        go_roundw
        case rel => exact ⟨k + 1, by go_num, hlk, HMZ.out, hB8.out, hid (take_ok HTK.out HO.out HOT.out)⟩
        case measure => simp [intOf]; omega
    ·have hkb : ((kk : Int) == 0) = false := by simp [hk0]
     have HLS : Hid (lawz ⟨⟨kk, tt, nn⟩, (px, py)⟩ = ⟨⟨kk, tt, nn⟩, (px, py)⟩) := hid (by unfold lawz; rw [if_neg (by rintro ⟨h, -⟩; exact hk0 h)])
     have HOT : Hid (OkZ ⟨⟨kk, tt, nn⟩, (px, py)⟩) := hid (fun h => absurd h hk0)
     clear hk0
     go_wp2_with fail
     go_roundw
     case rel => exact ⟨k + 1, by go_num, hlk, by rw [LZ_same HTK.out HLS.out]; exact HM7.out, HB7.out, hid (take_ok HTK.out HO.out HOT.out)⟩
     case measure => simp [intOf]; omega
   ·obtain rfl : k = ts.length := by omega
    have ho := HO.out
    rw [List.take_length] at ho
    obtain ⟨n1, n2, f2, n3, l1, l2, l3, hx2, hs2⟩ := HN.out ho
    rw [LZ_all, n1] at hmr
    have CJ := Join_any (some ⟨gm, 0, none⟩) cm (ts.map gz) wr hmr.2.2 (by rw [List.length_map]; omega) (by omega)
    rw [List.length_map] at CJ
    have CJ := hid CJ
    have CP2 := hid fun w' (hb : Below w.heap.size w w') => Parse_ok n3 (bs (joinL (ts.map gz))) (bs_data _) w' (HEN.out w' hb).1 (HEN.out w' hb).2
    have HX2 := hid hx2
    have HS2 := hid hs2
    have LL := hid (And.intro l1 (And.intro l2 l3))
    generalize joinL (ts.map gz) = J at CJ CP2
    clear HM ho n1 n2 n3 l1 l2 l3 hx2 hs2 hmr hbr HO HN HT3
    go_wp2_with fail
    refine CJ.out.mono ?_
    rintro e w8 ⟨rfl, hb⟩
    have HB8 := hid (HB3.out.trans ((HBR.out.trans (hb.mono HBR.out.size)).mono HB3.out.size))
    have HF8 := hid ((HF3.out.below HBR.out).below hb)
    have CP3 := hid (CP2.out _ HB8.out)
    clear hb CJ HBR HF3 CP2
    generalize bs J = bj at CP3 ⊢
    go_wp2_with fail
    refine CP3.out.mono ?_
    rintro e w9 ⟨⟨g2, rfl, hF, -⟩, hb⟩
    have hF9 := (HF8.out.below hb).below (below_box w9 (.cells #[.int .i64 0, .int .i64 0] 24))
    have hF9' := hF.below (below_box w9 (.cells #[.int .i64 0, .int .i64 0] 24))
    have HB9 := hid (HB8.out.trans ((hb.trans ((below_box w9 (.cells #[.int .i64 0, .int .i64 0] 24)).mono hb.size)).mono HB8.out.size))
    obtain ⟨W, hW⟩ : ∃ W, w9.alloc (.cells #[.int .i64 0, .int .i64 0] 24) = W := ⟨_, rfl⟩
    rw [hW] at hF9 hF9' HB9
    obtain ⟨a1, c1, a2, c2, a3, c3, a4, c4, d1, d2, d3, d4, k1, k2, k3, k4, hg1⟩ := hF9.look
    obtain ⟨a5, c5, a6, c6, a7, c7, a8, c8, d5, d6, d7, d8, k5, k6, k7, k8, hg2⟩ := hF9'.look
    rw [LL.out.1] at d7 k7
    rw [LL.out.2.1] at d8 k8
    rw [LL.out.2.2] at d6 k6
    obtain ⟨-, m3, m4⟩ := sl_bd k2
    obtain ⟨-, m5, m6⟩ := sl_bd k3
    obtain ⟨-, m7, m8⟩ := sl_bd k4
    have K2 := hid k2
    have K3 := hid k3
    have K6 := hid k6
    have K7 := hid k7
    have DD := hid (And.intro d2 (And.intro d3 (And.intro d6 d7)))
    clear hb hF hF9 hF9' k1 k2 k3 k4 k5 k6 k7 k8 d1 d5 HF8 HB8 CP3
    have HWQ := hid hW
    clear hW
    go_wp2_with fail
    rw [HWQ.out]
    go_quiet (fail)
    go_wp2_with fail
    clear d2 d3 d4 d6 d7 d8
    go_loopw [154] (fun s wr => ∃ i : Nat, s = .int .i64 i ∧ i ≤ f.g.xs.length ∧ Below W.heap.size W wr) (fun s _ => f.g.xs.length - (intOf s).toNat)
    case atStart => exact ⟨0, rfl, Nat.zero_le _, below_drewN _ _ _⟩
    case round =>
     obtain ⟨i, rfl, hi, hbr⟩ := hrel
     rename World => wr
     have HBR2 := hid hbr
     by_cases hlt : i < f.g.xs.length
     ·as_aux_lemma =>
       obtain ⟨x, hx⟩ : ∃ x, f.g.xs[i]? = some x := ⟨_, List.getElem?_eq_getElem hlt⟩
       obtain ⟨y, hy, hyk, hyo, hyn, hys⟩ := HX2.out i x hx
       obtain ⟨p, kv, hpa, hp, u0, u1, u2, u3, u4, hk⟩ := xs_at (K3.out.below XrC.kept hbr) hx
       obtain ⟨q, lv, hqa, hq, v0, v1, v2, v3, v4, hl⟩ := xs_at (K7.out.below XrC.kept hbr) hy
       obtain ⟨ka, kc, rfl, -⟩ := hk.shape
       obtain ⟨la, lc, rfl, -⟩ := hl.shape
       subst hpa hqa
       have HY : Hid (x.k = 1 → x.s.length ≤ 32 ∧ bs x.s ++ ⟨#[122]⟩ = bs y.s) := hid fun h => ⟨(hys h).1, by rw [(hys h).2]; exact bs_app x.s [122]⟩
       rw [hyk] at v0
       rw [hyo] at v1
       rw [hyn] at v2
       generalize bs y.s = Y3 at v3 HY
       have hI : (i : Int) < (f.g.xs.length : Int) := by omega
       have HL := hid hlt
       have y0 := (hbr.cell (p := ⟨g2, 3, none⟩) hg2).trans DD.out.2.2.2
       have hb7 : Below wr.heap.size wr (wr.alloc (.cells #[.int .i64 (x.k : Int), .string (bs x.op), .int .u64 (x.n : Int), .string (bs x.s), .slice ka x.kids.length kc] 87)) := (Below.refl _ _).alloc (Nat.le_refl _) _
       have hx7 := heap_alloc_new wr (.cells #[.int .i64 (x.k : Int), .string (bs x.op), .int .u64 (x.n : Int), .string (bs x.s), .slice ka x.kids.length kc] 87)
       have hz7 : (wr.alloc (.cells #[.int .i64 (x.k : Int), .string (bs x.op), .int .u64 (x.n : Int), .string (bs x.s), .slice ka x.kids.length kc] 87)).heap.size = wr.heap.size + 1 := by simp
       obtain ⟨W7, hW7⟩ : ∃ W7, wr.alloc (.cells #[.int .i64 (x.k : Int), .string (bs x.op), .int .u64 (x.n : Int), .string (bs x.s), .slice ka x.kids.length kc] 87) = W7 := ⟨_, rfl⟩
       rw [hW7] at hb7 hx7 hz7
       have hb8 : Below W7.heap.size W7 (W7.alloc (.cells #[.int .i64 (x.k : Int), .string (bs x.op), .int .u64 (x.n : Int), .string Y3, .slice la y.kids.length lc] 87)) := (Below.refl _ _).alloc (Nat.le_refl _) _
       have hx8 := heap_alloc_new W7 (.cells #[.int .i64 (x.k : Int), .string (bs x.op), .int .u64 (x.n : Int), .string Y3, .slice la y.kids.length lc] 87)
       obtain ⟨W8, hW8⟩ : ∃ W8, W7.alloc (.cells #[.int .i64 (x.k : Int), .string (bs x.op), .int .u64 (x.n : Int), .string Y3, .slice la y.kids.length lc] 87) = W8 := ⟨_, rfl⟩
       rw [hW8] at hb8 hx8
       have hx7' := (hb8.block wr.heap.size (by omega)).trans hx7
       have y1 := (hb7.cell (p := ⟨g2, 3, none⟩) (Nat.lt_of_lt_of_le hg2 hbr.size)).trans y0
       have v0 := (hb7.cell (p := ⟨q, i * 5, none⟩) hq).trans v0
       have v1 := (hb7.cell (p := ⟨q, i * 5 + 1, none⟩) hq).trans v1
       have v2 := (hb7.cell (p := ⟨q, i * 5 + 2, none⟩) hq).trans v2
       have v3 := (hb7.cell (p := ⟨q, i * 5 + 3, none⟩) hq).trans v3
       have v4 := (hb7.cell (p := ⟨q, i * 5 + 4, none⟩) hq).trans v4
       rw [hz7] at hx8
       obtain ⟨⟨g0, g1', g2', g3, g4⟩, gf, gl⟩ := cells5 hx7'
       obtain ⟨⟨h0, h1, h2, h3, h4⟩, hf, hl8⟩ := cells5 hx8
       have HB8 := hid (hbr.trans ((hb7.trans (hb8.mono hb7.size)).mono hbr.size))
       clear hbr hb7 hb8 hx7 hx8 hx7' hk hl hx hy hyk hyo hyn hys y0
       by_cases hk1 : x.k = 1
       ·have hkb : ((x.k : Int) == 1) = true := by simp [hk1]
        obtain ⟨h32, hap⟩ := HY.out hk1
        have hnl : ¬ 9223372036854775807 < (bs x.s).size + 1 := by rw [bs_size]; omega
        clear hk1 h32
        go_wp2_with fail
        go_roundw
        case rel => exact ⟨i + 1, by go_num, by have := HL.out; omega, HB8.out⟩
        case measure => have := HL.out; simp [intOf]; omega
       ·have hkb : ((x.k : Int) == 1) = false := by simp; omega
        clear hk1
        go_wp2_with fail
        go_roundw
        case rel => exact ⟨i + 1, by go_num, by have := HL.out; omega, HB8.out⟩
        case measure => have := HL.out; simp [intOf]; omega
     ·obtain rfl : i = f.g.xs.length := by omega
      have e2 := (hbr.cell (p := ⟨g1, 2, none⟩) hg1).trans DD.out.1
      clear hbr
      go_wp2_with fail
      go_loopw [204] (fun s wr => ∃ i : Nat, s = .int .i64 i ∧ i ≤ f.ss.length ∧ Below W.heap.size W wr) (fun s _ => f.ss.length - (intOf s).toNat)
      case atStart => exact ⟨0, rfl, Nat.zero_le _, HBR2.out⟩
      case round =>
       obtain ⟨i, rfl, hi, hbr⟩ := hrel
       rename World => wr
       have HBR3 := hid hbr
       clear e2
       by_cases hlt : i < f.ss.length
       ·as_aux_lemma =>
         obtain ⟨x, hx⟩ : ∃ x, f.ss[i]? = some x := ⟨_, List.getElem?_eq_getElem hlt⟩
         obtain ⟨y, hy, h32, hys, hyi⟩ := HS2.out i x hx
         obtain ⟨p, pv, iv, hpa, hp, u0, u1, u2, hi1, hc1⟩ := ss_at (K2.out.below SrC.kept hbr) hx
         obtain ⟨q, qv, jv, hqa, hq, v0, v1, v2, hi2, hc2⟩ := ss_at (K6.out.below SrC.kept hbr) hy
         obtain ⟨ka, kc, rfl, -⟩ := hi1.shape
         obtain ⟨la, lc, rfl, -⟩ := hi2.shape
         obtain ⟨ma, mc, rfl, -⟩ := hc1.shape
         obtain ⟨na, nc, rfl, -⟩ := hc2.shape
         subst hpa hqa
         rw [hyi] at v2
         have hap : bs x.s ++ ⟨#[122]⟩ = bs y.s := by rw [hys]; exact bs_app x.s [122]
         generalize bs y.s = Y0 at v0 hap
         have hnl : ¬ 9223372036854775807 < (bs x.s).size + 1 := by rw [bs_size]; omega
         have hI : (i : Int) < (f.ss.length : Int) := by omega
         have HL := hid hlt
         have y0 := (hbr.cell (p := ⟨g2, 2, none⟩) hg2).trans DD.out.2.2.1
         have hb7 : Below wr.heap.size wr (wr.alloc (.cells #[.string (bs x.s), .slice ka x.ps.length kc, .slice ma x.is.length mc] 55)) := (Below.refl _ _).alloc (Nat.le_refl _) _
         have hx7 := heap_alloc_new wr (.cells #[.string (bs x.s), .slice ka x.ps.length kc, .slice ma x.is.length mc] 55)
         obtain ⟨W7, hW7⟩ : ∃ W7, wr.alloc (.cells #[.string (bs x.s), .slice ka x.ps.length kc, .slice ma x.is.length mc] 55) = W7 := ⟨_, rfl⟩
         rw [hW7] at hb7 hx7
         have y1 := (hb7.cell (p := ⟨g2, 2, none⟩) (Nat.lt_of_lt_of_le hg2 hbr.size)).trans y0
         have v0 := (hb7.cell (p := ⟨q, i * 3, none⟩) hq).trans v0
         have v2 := (hb7.cell (p := ⟨q, i * 3 + 2, none⟩) hq).trans v2
         obtain ⟨⟨h0, h1, h2⟩, hf, hl8⟩ := cells3 hx7
         have HB7 := hid (hbr.trans (hb7.mono hbr.size))
         clear hbr hb7 hx7 hi1 hi2 hc1 hc2 hx hy hys hyi h32 y0 v1
         go_wp2_with fail
         go_quiet (fail)
         go_wp2_with fail
         go_roundw
         case rel => exact ⟨i + 1, by go_num, by have := HL.out; omega, HB7.out.trans (below_drewN _ _ _)⟩
         case measure => have := HL.out; simp [intOf]; omega
       ·go_wp2_with fail
        go_ret
        exact ⟨rfl, HB9.out.trans (HBR3.out.mono HB9.out.size)⟩
end Go.Proofs.YthcdohggffpopaaGreatDoor
