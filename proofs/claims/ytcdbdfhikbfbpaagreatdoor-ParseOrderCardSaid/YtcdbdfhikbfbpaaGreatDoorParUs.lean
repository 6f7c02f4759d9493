/- Layer 7, the mathematics: in the File of a tree each expression and each type is part of just one other, or of an item, and stands ahead of it; how many there are. No program. -/
import Derived.Test.YtcdbdfhikbfbpaaGreatDoorParseP
namespace Go.Proofs.YtcdbdfhikbfbpaaGreatDoor
set_option linter.unusedVariables false

/-! How much a part adds, wherever it is put. -/
def Inc (F : GM → GM) : Prop := ∃ a b, ∀ g, (F g).xs.length = g.xs.length + a ∧ (F g).ts.length = g.ts.length + b
theorem Inc.id : Inc fun g => g := ⟨0, 0, fun g => ⟨rfl, rfl⟩⟩
theorem Inc.comp {F G : GM → GM} (h : Inc F) (k : Inc G) : Inc fun g => G (F g) := by
  obtain ⟨a, b, h⟩ := h
  obtain ⟨c, d, k⟩ := k
  exact ⟨a + c, b + d, fun g => ⟨by rw [(k _).1, (h _).1]; omega, by rw [(k _).2, (h _).2]; omega⟩⟩
theorem Inc.x {F : GM → GM} {x : GM → XM} (h : Inc F) : Inc fun g => (F g).addX (x g) := by
  obtain ⟨a, b, h⟩ := h
  exact ⟨a + 1, b, fun g => ⟨by show ((F g).xs ++ [x g]).length = _; rw [List.length_append, (h g).1]; rfl, (h g).2⟩⟩
theorem Inc.t {F : GM → GM} {x : GM → TM} (h : Inc F) : Inc fun g => (F g).addT (x g) := by
  obtain ⟨a, b, h⟩ := h
  exact ⟨a, b + 1, fun g => ⟨(h g).1, by show ((F g).ts ++ [x g]).length = _; rw [List.length_append, (h g).2]; rfl⟩⟩
theorem inc_E : ∀ e, Inc (putE e)
  | .num n => .x .id
  | .name s => .x .id
  | .not a => .x (inc_E a)
  | .bin op a b => .x ((inc_E a).comp (inc_E b))
theorem inc_fold {α β : Type} (st : GM × List β → α → GM × List β) (F : α → GM → GM) (hst : ∀ s x, (st s x).1 = F x s.1) (hF : ∀ x, Inc (F x)) : ∀ l : List α, ∃ a b, ∀ g ks, ((l.foldl st (g, ks)).1).xs.length = g.xs.length + a ∧ ((l.foldl st (g, ks)).1).ts.length = g.ts.length + b
  | [] => ⟨0, 0, fun g ks => ⟨rfl, rfl⟩⟩
  | x :: r => by
    obtain ⟨a, b, h⟩ := inc_fold st F hst hF r
    obtain ⟨c, d, k⟩ := hF x
    refine ⟨c + a, d + b, fun g ks => ?_⟩
    have e : st (g, ks) x = (F x g, (st (g, ks) x).2) := Prod.ext (hst _ _) rfl
    rw [List.foldl_cons, e]
    exact ⟨by rw [(h _ _).1, (k _).1]; omega, by rw [(h _ _).2, (k _).2]; omega⟩
theorem inc_Es (l : List EA) : Inc fun g => (putEs l g).1 := by
  obtain ⟨a, b, h⟩ := inc_fold stepE putE (fun _ _ => rfl) inc_E l
  exact ⟨a, b, fun g => h g []⟩
theorem inc_T : ∀ t, Inc fun g => (putT t g).1
  | .int z li => .t .id
  | .ref s es => .t (inc_Es es)
  | .idx k e => .t (inc_E e)
  | .win k e t => .t ((inc_E e).comp (inc_T t))
  | .rest t => .t (inc_T t)
  | .leaf k => .t .id
  | .arr t e => .t ((inc_T t).comp (inc_E e))
  | .sw e cs els => .t (((inc_E e).comp (inc_T cs)).comp (inc_T els))
  | .nil => .id
  | .snoc cs n t => (inc_T cs).comp (inc_T t)
theorem inc_W : ∀ w, Inc (putW w)
  | none => .id
  | some e => inc_E e
theorem inc_I : ∀ x, Inc fun g => (putI x g).1
  | .field s t d wh => (inc_T t).comp (inc_W wh)
  | .pack z li subs => .id
theorem inc_Is (l : List IA) : Inc fun g => (putIs l g).1 := by
  obtain ⟨a, b, h⟩ := inc_fold stepI (fun x g => (putI x g).1) (fun _ _ => rfl) inc_I l
  exact ⟨a, b, fun g => h g []⟩
theorem putSs_fst : ∀ (l : List SA) (g : GM) (ks : List SM), (l.foldl stepS (g, ks)).1 = (l.foldl stepS (g, [])).1
  | [], g, ks => rfl
  | x :: r, g, ks => by
    rw [List.foldl_cons, List.foldl_cons]
    show (r.foldl stepS ((putS x g).1, ks ++ [_])).1 = (r.foldl stepS ((putS x g).1, [] ++ [_])).1
    rw [putSs_fst r, putSs_fst r (putS x g).1 ([] ++ _)]
/-- As many expressions and types as both have. -/
theorem putSs_join (ss us : List SA) : (putSs (ss ++ us) gm0).1.xs.length = (putSs ss gm0).1.xs.length + (putSs us gm0).1.xs.length ∧ (putSs (ss ++ us) gm0).1.ts.length = (putSs ss gm0).1.ts.length + (putSs us gm0).1.ts.length := by
  obtain ⟨a, b, h⟩ := inc_fold stepS (fun x g => (putS x g).1) (fun _ _ => rfl) (fun x => inc_Is x.is) us
  have h1 := h gm0 []
  have h2 := h (putSs ss gm0).1 (putSs ss gm0).2
  unfold putSs at h1 h2 ⊢
  rw [List.foldl_append]
  rw [h1.1, h1.2]
  exact ⟨by rw [h2.1]; simp [gm0], by rw [h2.2]; simp [gm0]⟩
theorem putSs_names : ∀ (l : List SA) (g : GM) (ks : List SM), (l.foldl stepS (g, ks)).2.map (·.s) = ks.map (·.s) ++ l.map (·.s)
  | [], g, ks => by simp
  | x :: r, g, ks => by
    rw [List.foldl_cons]
    show (r.foldl stepS ((putS x g).1, ks ++ [(putS x g).2])).2.map (·.s) = _
    rw [putSs_names r]
    simp [putS]

/-! What is part of what. -/
def ix (i : Int) : List Nat := if i < 0 then [] else [i.toNat]
def TM.ux (t : TM) : List Nat := ix t.e ++ t.args
def TM.ut (t : TM) : List Nat := ix t.i ++ t.cs.map (·.2)
def cX (g : GM) (k : Nat) : Nat := (g.xs.flatMap (·.kids)).count k + (g.ts.flatMap TM.ux).count k
def cT (g : GM) (k : Nat) : Nat := (g.ts.flatMap TM.ut).count k
def iR (a b k : Nat) : Nat := if a ≤ k ∧ k < b then 1 else 0
def i1 (a k : Nat) : Nat := if a = k then 1 else 0
theorem iR_step {a b k : Nat} (h : a ≤ b) : iR a (b + 1) k = iR a b k + i1 b k := by
  unfold iR i1; repeat' split
  all_goals omega
theorem iR_self (a k : Nat) : iR a a k = 0 := by unfold iR; rw [if_neg (by omega)]
theorem iR_join {a b c k : Nat} (h : a ≤ b) (h' : b ≤ c) : iR a c k = iR a b k + iR b c k := by
  unfold iR; repeat' split
  all_goals omega
theorem count_one (a k : Nat) : [a].count k = i1 a k := by
  unfold i1; rw [List.count_singleton]; simp only [beq_iff_eq]
theorem ix_nat (n : Nat) : ix (n : Int) = [n] := by unfold ix; rw [if_neg (by omega)]; simp
theorem ix_neg : ix (-1) = [] := rfl
theorem cX_addX (g : GM) (x : XM) (k : Nat) : cX (g.addX x) k = cX g k + x.kids.count k := by
  unfold cX GM.addX
  simp only [List.flatMap_append, List.count_append, List.flatMap_singleton]; omega
theorem cX_addT (g : GM) (x : TM) (k : Nat) : cX (g.addT x) k = cX g k + x.ux.count k := by
  unfold cX GM.addT
  simp only [List.flatMap_append, List.count_append, List.flatMap_singleton]; omega
theorem cT_addX (g : GM) (x : XM) (k : Nat) : cT (g.addX x) k = cT g k := rfl
theorem cT_addT (g : GM) (x : TM) (k : Nat) : cT (g.addT x) k = cT g k + x.ut.count k := by
  unfold cT GM.addT
  simp only [List.flatMap_append, List.count_append, List.flatMap_singleton]
/-- All stands ahead of what it is part of. -/
structure Ord (g : GM) : Prop where
  x : ∀ (i : Nat) x, g.xs[i]? = some x → ∀ k ∈ x.kids, k < i
  t : ∀ (i : Nat) t, g.ts[i]? = some t → -1 ≤ t.e ∧ -1 ≤ t.i ∧ t.i < i ∧ ∀ c ∈ t.cs, c.2 < i
theorem Ord.addX {g : GM} (h : Ord g) {x : XM} (hx : ∀ k ∈ x.kids, k < g.xs.length) : Ord (g.addX x) := by
  refine ⟨fun i y hy k hk => ?_, h.t⟩
  have hy : (g.xs ++ [x])[i]? = some y := hy
  by_cases hi : i < g.xs.length
  · rw [List.getElem?_append_left hi] at hy
    exact h.x i y hy k hk
  · rw [List.getElem?_append_right (by omega), List.getElem?_singleton] at hy
    split at hy
    · cases hy; have := hx k hk; omega
    · cases hy
theorem Ord.addT {g : GM} (h : Ord g) {x : TM} (he : -1 ≤ x.e) (h0 : -1 ≤ x.i) (h1 : x.i < g.ts.length) (h2 : ∀ c ∈ x.cs, c.2 < g.ts.length) : Ord (g.addT x) := by
  refine ⟨h.x, fun i y hy => ?_⟩
  have hy : (g.ts ++ [x])[i]? = some y := hy
  by_cases hi : i < g.ts.length
  · rw [List.getElem?_append_left hi] at hy
    exact h.t i y hy
  · rw [List.getElem?_append_right (by omega), List.getElem?_singleton] at hy
    split at hy
    · cases hy; exact ⟨he, h0, by omega, fun c hc => by have := h2 c hc; omega⟩
    · cases hy
/-- An expression has been put: all that is new is used once, but for the last. -/
structure UseE (g g' : GM) : Prop where
  ts : g'.ts = g.ts
  lt : g.xs.length < g'.xs.length
  c : ∀ k, cX g' k + i1 g'.x k = cX g k + iR g.xs.length g'.xs.length k
  o : Ord g → Ord g'
theorem x_addX (g : GM) (x : XM) : (g.addX x).x = g.xs.length ∧ (g.addX x).xs.length = g.xs.length + 1 := by simp [GM.x, GM.addX]
theorem t_addT (g : GM) (x : TM) : (g.addT x).t = g.ts.length ∧ (g.addT x).ts.length = g.ts.length + 1 := by simp [GM.t, GM.addT]
theorem use_E : ∀ (e : EA) (g : GM), UseE g (putE e g)
  | .num n, g => ⟨rfl, by rw [putE, (x_addX _ _).2]; omega, fun k => by rw [putE, (x_addX _ _).1, (x_addX _ _).2, cX_addX, iR_step (Nat.le_refl _), iR_self]; simp, fun h => h.addX (by simp)⟩
  | .name s, g => ⟨rfl, by rw [putE, (x_addX _ _).2]; omega, fun k => by rw [putE, (x_addX _ _).1, (x_addX _ _).2, cX_addX, iR_step (Nat.le_refl _), iR_self]; simp, fun h => h.addX (by simp)⟩
  | .not a, g => by
    obtain ⟨h1, h2, h3, h4⟩ := use_E a g
    rw [putE]
    refine ⟨h1, by rw [(x_addX _ _).2]; omega, fun k => ?_, fun h => (h4 h).addX fun k hk => ?_⟩
    · have := h3 k
      rw [(x_addX _ _).1, (x_addX _ _).2, cX_addX, iR_step (by omega), count_one]; omega
    · rw [List.mem_singleton.1 hk]; unfold GM.x; omega
  | .bin op a b, g => by
    obtain ⟨h1, h2, h3, h4⟩ := use_E a g
    obtain ⟨k1, k2, k3, k4⟩ := use_E b (putE a g)
    rw [putE]
    refine ⟨k1.trans h1, by rw [(x_addX _ _).2]; omega, fun k => ?_, fun h => (k4 (h4 h)).addX fun k hk => ?_⟩
    · have a1 := h3 k
      have a2 := k3 k
      have a3 := iR_join (k := k) (Nat.le_of_lt h2) (Nat.le_of_lt k2)
      rw [(x_addX _ _).1, (x_addX _ _).2, cX_addX, iR_step (by omega), List.count_cons, count_one]
      have a4 : (if ((putE a g).x == k) = true then 1 else 0) = i1 (putE a g).x k := by unfold i1; simp only [beq_iff_eq]
      rw [a4]; omega
    · simp only [List.mem_cons, List.mem_nil_iff, or_false] at hk
      rcases hk with rfl | rfl
      · unfold GM.x; omega
      · unfold GM.x; omega
theorem use_Es : ∀ (l : List EA) (g : GM) (ks : List Nat), ((l.foldl stepE (g, ks)).1).ts = g.ts ∧ g.xs.length ≤ ((l.foldl stepE (g, ks)).1).xs.length ∧
    (∀ k, cX (l.foldl stepE (g, ks)).1 k + (l.foldl stepE (g, ks)).2.count k = cX g k + ks.count k + iR g.xs.length ((l.foldl stepE (g, ks)).1).xs.length k) ∧ (Ord g → Ord (l.foldl stepE (g, ks)).1)
  | [], g, ks => ⟨rfl, Nat.le_refl _, fun k => by rw [List.foldl_nil, iR_self]; rfl, fun h => h⟩
  | e :: r, g, ks => by
    obtain ⟨h1, h2, h3, h4⟩ := use_E e g
    obtain ⟨k1, k2, k3, k4⟩ := use_Es r (putE e g) (ks ++ [(putE e g).x])
    rw [List.foldl_cons]
    refine ⟨k1.trans h1, by have : g.xs.length ≤ ((r.foldl stepE (putE e g, ks ++ [(putE e g).x])).1).xs.length := by omega
                            exact this, fun k => ?_, fun h => k4 (h4 h)⟩
    have a1 := h3 k
    have a2 := k3 k
    have a3 := iR_join (k := k) (Nat.le_of_lt h2) k2
    rw [List.count_append, count_one] at a2
    show cX (r.foldl stepE (putE e g, ks ++ [(putE e g).x])).1 k + (r.foldl stepE (putE e g, ks ++ [(putE e g).x])).2.count k = _ + iR _ ((r.foldl stepE (putE e g, ks ++ [(putE e g).x])).1).xs.length k
    omega
/-- Trees of types (true), lists of cases (false). -/
def wfK : TA → Bool → Prop
  | .int _ _, b => b = true
  | .ref _ _, b => b = true
  | .idx _ _, b => b = true
  | .win _ _ t, b => b = true ∧ wfK t true
  | .rest t, b => b = true ∧ wfK t true
  | .leaf _, b => b = true
  | .arr t _, b => b = true ∧ wfK t true
  | .sw _ cs els, b => b = true ∧ wfK cs false ∧ (els = .nil ∨ wfK els true)
  | .nil, b => b = false
  | .snoc cs _ t, b => b = false ∧ wfK cs false ∧ wfK t true
/-- A type, or cases, have been put. -/
structure UseT (b : Bool) (g g' : GM) (cs : List (Nat × Nat)) : Prop where
  lx : g.xs.length ≤ g'.xs.length
  lt : g.ts.length ≤ g'.ts.length
  cx : ∀ k, cX g' k = cX g k + iR g.xs.length g'.xs.length k
  ty : b = true → g.ts.length < g'.ts.length ∧ ∀ k, cT g' k + i1 g'.t k = cT g k + iR g.ts.length g'.ts.length k
  ca : b = false → (∀ c ∈ cs, c.2 < g'.ts.length) ∧ ∀ k, cT g' k + (cs.map (·.2)).count k = cT g k + iR g.ts.length g'.ts.length k
  o : Ord g → Ord g'
/-- A type that uses expressions of which all that is new is used, but for those that it names; and a type, or none. -/
theorem UseT.of {g g1 : GM} {x : TM} (hx : g.xs.length ≤ g1.xs.length) (ht : g.ts.length ≤ g1.ts.length) (c1 : ∀ k, cX g1 k + x.ux.count k = cX g k + iR g.xs.length g1.xs.length k)
    (c2 : ∀ k, cT g1 k + x.ut.count k = cT g k + iR g.ts.length g1.ts.length k) (he : -1 ≤ x.e) (h0 : -1 ≤ x.i) (h1 : x.i < g1.ts.length) (h2 : ∀ c ∈ x.cs, c.2 < g1.ts.length) (o : Ord g → Ord g1) (l : List (Nat × Nat)) : UseT true g (g1.addT x) l := by
  refine ⟨hx, by rw [(t_addT _ _).2]; omega, fun k => by rw [cX_addT, c1 k]; rfl, fun _ => ⟨by rw [(t_addT _ _).2]; omega, fun k => ?_⟩, (by intro h; cases h), fun h => (o h).addT he h0 h1 h2⟩
  rw [cT_addT, (t_addT _ _).1, (t_addT _ _).2, iR_step ht, ← Nat.add_assoc, ← c2 k]
theorem cT_ts {g g' : GM} (h : g'.ts = g.ts) (k : Nat) : cT g' k = cT g k := by unfold cT; rw [h]
theorem use_T : ∀ (t : TA) (b : Bool) (g : GM), wfK t b → UseT b g (putT t g).1 (putT t g).2
  | .int z li, b, g, h => by
    obtain rfl : b = true := h
    exact UseT.of (g1 := g) (Nat.le_refl _) (Nat.le_refl _) (fun k => by rw [iR_self]; simp [TM.ux, ix]) (fun k => by rw [iR_self]; simp [TM.ut, ix]) (by simp) (by simp) (by show (-1 : Int) < _; omega) (by simp) (fun h => h) _
  | .leaf k, b, g, h => by
    obtain rfl : b = true := h
    exact UseT.of (g1 := g) (Nat.le_refl _) (Nat.le_refl _) (fun k => by rw [iR_self]; simp [TM.ux, ix]) (fun k => by rw [iR_self]; simp [TM.ut, ix]) (by simp) (by simp) (by show (-1 : Int) < _; omega) (by simp) (fun h => h) _
  | .ref s es, b, g, h => by
    obtain rfl : b = true := h
    obtain ⟨k1, k2, k3, k4⟩ := use_Es es g []
    refine UseT.of (g1 := (putEs es g).1) k2 (by show _ ≤ ((es.foldl stepE (g, [])).1).ts.length; rw [k1]; exact Nat.le_refl _) (fun k => ?_) (fun k => ?_) (by simp) (by simp) (by show (-1 : Int) < _; omega) (by simp) k4 _
    · have := k3 k
      simp only [List.count_nil, Nat.add_zero] at this
      show _ + (([] : List Nat) ++ (putEs es g).2).count k = _
      exact this
    · have k1 : (putEs es g).1.ts = g.ts := k1
      rw [cT_ts k1]
      show _ + 0 = _ + iR _ _ k
      rw [k1, iR_self]
  | .idx k e, b, g, h => by
    obtain rfl : b = true := h
    obtain ⟨k1, k2, k3, k4⟩ := use_E e g
    refine UseT.of (g1 := putE e g) (Nat.le_of_lt k2) (by rw [k1]; exact Nat.le_refl _) (fun k => ?_) (fun k => ?_) (by simp) (by simp) (by show (-1 : Int) < _; omega) (by simp) k4 _
    · show _ + (ix ((putE e g).x : Nat) ++ []).count k = _
      rw [ix_nat, List.append_nil, count_one, k3]
    · rw [cT_ts k1]
      show _ + 0 = _ + iR _ _ k
      rw [k1, iR_self]
  | .win k e t, b, g, h => by
    obtain ⟨rfl, hw⟩ := h
    obtain ⟨k1, k2, k3, k4⟩ := use_E e g
    obtain ⟨l1, l2, l3, l4, -, l5⟩ := use_T t true (putE e g) hw
    obtain ⟨l6, l7⟩ := l4 rfl
    rw [k1] at l2 l6 l7
    refine UseT.of (g1 := (putT t (putE e g)).1) (by omega) l2 (fun k => ?_) (fun k => ?_) (by simp) (by simp) (by show ((GM.t _ : Nat) : Int) < _; unfold GM.t; omega) (by simp) (fun h => l5 (k4 h)) _
    · show _ + (ix ((putE e g).x : Nat) ++ []).count k = _
      rw [ix_nat, List.append_nil, count_one]
      have a1 := k3 k
      have a2 := l3 k
      have a3 := iR_join (k := k) (Nat.le_of_lt k2) l1
      omega
    · show _ + (ix (((putT t (putE e g)).1.t : Nat) : Int) ++ []).count k = _
      rw [ix_nat, List.append_nil, count_one, l7, cT_ts k1]
  | .rest t, b, g, h => by
    obtain ⟨rfl, hw⟩ := h
    obtain ⟨l1, l2, l3, l4, -, l5⟩ := use_T t true g hw
    obtain ⟨l6, l7⟩ := l4 rfl
    refine UseT.of (g1 := (putT t g).1) l1 l2 (fun k => ?_) (fun k => ?_) (by simp) (by simp) (by show ((GM.t _ : Nat) : Int) < _; unfold GM.t; omega) (by simp) l5 _
    · show _ + 0 = _; exact l3 k
    · show _ + (ix (((putT t g).1.t : Nat) : Int) ++ []).count k = _
      rw [ix_nat, List.append_nil, count_one, l7]
  | .arr t e, b, g, h => by
    obtain ⟨rfl, hw⟩ := h
    obtain ⟨l1, l2, l3, l4, -, l5⟩ := use_T t true g hw
    obtain ⟨l6, l7⟩ := l4 rfl
    obtain ⟨k1, k2, k3, k4⟩ := use_E e (putT t g).1
    refine UseT.of (g1 := putE e (putT t g).1) (by omega) (by rw [k1]; exact l2) (fun k => ?_) (fun k => ?_) (by simp) (by simp) (by show ((GM.t _ : Nat) : Int) < _; rw [k1]; unfold GM.t; omega) (by simp) (fun h => k4 (l5 h)) _
    · show _ + (ix ((putE e (putT t g).1).x : Nat) ++ []).count k = _
      rw [ix_nat, List.append_nil, count_one]
      have a1 := k3 k
      have a2 := l3 k
      have a3 := iR_join (k := k) l1 (Nat.le_of_lt k2)
      omega
    · show _ + (ix (((putT t g).1.t : Nat) : Int) ++ []).count k = _
      rw [ix_nat, List.append_nil, count_one, cT_ts k1, l7, k1]
  | .sw e cs els, b, g, h => by
    obtain ⟨rfl, hc, hel⟩ := h
    obtain ⟨k1, k2, k3, k4⟩ := use_E e g
    obtain ⟨l1, l2, l3, -, l4, l5⟩ := use_T cs false (putE e g) hc
    obtain ⟨l6, l7⟩ := l4 rfl
    rw [k1] at l2 l7
    rcases hel with rfl | hel
    · refine UseT.of (g1 := (putT cs (putE e g)).1) (by omega) l2 (fun k => ?_) (fun k => ?_) (by simp) (by simp [TA.isNil]) (by show (-1 : Int) < _; omega) l6 (fun h => l5 (k4 h)) _
      · show _ + (ix ((putE e g).x : Nat) ++ []).count k = _
        rw [ix_nat, List.append_nil, count_one]
        have a1 := k3 k
        have a2 := l3 k
        have a3 := iR_join (k := k) (Nat.le_of_lt k2) l1
        omega
      · show _ + (ix (-1) ++ (putT cs (putE e g)).2.map (·.2)).count k = _
        rw [ix_neg, List.nil_append, l7, cT_ts k1]
    · obtain ⟨m1, m2, m3, m4, -, m5⟩ := use_T els true (putT cs (putE e g)).1 hel
      obtain ⟨m6, m7⟩ := m4 rfl
      have hn : els.isNil = false := by
        cases els <;> first | rfl | (exact absurd hel (by simp [wfK]))
      rw [putT]
      simp only [hn, Bool.false_eq_true, if_false]
      refine UseT.of (g1 := (putT els (putT cs (putE e g)).1).1) (by omega) (by omega) (fun k => ?_) (fun k => ?_) (by simp) (by simp) (by show ((GM.t _ : Nat) : Int) < _; unfold GM.t; omega) (fun c hc => by have := l6 c hc; omega) (fun h => m5 (l5 (k4 h))) _
      · show _ + (ix ((putE e g).x : Nat) ++ []).count k = _
        rw [ix_nat, List.append_nil, count_one]
        have a1 := k3 k
        have a2 := l3 k
        have a5 := m3 k
        have a3 := iR_join (k := k) (Nat.le_of_lt k2) l1
        have a4 := iR_join (a := g.xs.length) (k := k) (by omega) m1
        omega
      · show _ + (ix (((putT els (putT cs (putE e g)).1).1.t : Nat) : Int) ++ (putT cs (putE e g)).2.map (·.2)).count k = _
        rw [ix_nat, List.count_append, count_one]
        have a1 := l7 k
        have a2 := m7 k
        have a3 := iR_join (k := k) l2 m2
        rw [cT_ts k1] at a1
        omega
  | .nil, b, g, h => by
    obtain rfl : b = false := h
    rw [putT]
    exact ⟨Nat.le_refl _, Nat.le_refl _, fun k => by rw [iR_self]; rfl, (by intro h; cases h), fun _ => ⟨by simp, fun k => by rw [iR_self]; rfl⟩, fun h => h⟩
  | .snoc cs n t, b, g, h => by
    obtain ⟨rfl, hc, ht⟩ := h
    obtain ⟨l1, l2, l3, -, l4, l5⟩ := use_T cs false g hc
    obtain ⟨l6, l7⟩ := l4 rfl
    obtain ⟨m1, m2, m3, m4, -, m5⟩ := use_T t true (putT cs g).1 ht
    obtain ⟨m6, m7⟩ := m4 rfl
    rw [putT]
    refine ⟨by show _ ≤ (putT t (putT cs g).1).1.xs.length; omega, by show _ ≤ (putT t (putT cs g).1).1.ts.length; omega, fun k => ?_, (by intro h; cases h), fun _ => ⟨fun c hc => ?_, fun k => ?_⟩, fun h => m5 (l5 h)⟩
    · have a1 := l3 k
      have a2 := m3 k
      have a3 := iR_join (k := k) l1 m1
      show cX (putT t (putT cs g).1).1 k = _ + iR _ (putT t (putT cs g).1).1.xs.length k
      omega
    · show c.2 < (putT t (putT cs g).1).1.ts.length
      rcases List.mem_append.1 hc with hc | hc
      · have := l6 c hc; omega
      · rw [List.mem_singleton.1 hc]; show GM.t _ < _; unfold GM.t; omega
    · have a1 := l7 k
      have a2 := m7 k
      have a3 := iR_join (k := k) l2 m2
      show cT (putT t (putT cs g).1).1 k + (((putT cs g).2 ++ [(n, (putT t (putT cs g).1).1.t)]).map (·.2)).count k = _ + iR _ (putT t (putT cs g).1).1.ts.length k
      rw [List.map_append, List.count_append]
      show _ + (_ + [(putT t (putT cs g).1).1.t].count k) = _
      rw [count_one]
      omega
/-! Items. -/
def IM.ux (x : IM) : List Nat := ix x.wh
def IM.ut (x : IM) : List Nat := ix x.t
def wfI : IA → Prop
  | .field _ t _ _ => wfK t true
  | .pack _ _ _ => True
structure UseI (g g' : GM) (ux ut : List Nat) : Prop where
  lx : g.xs.length ≤ g'.xs.length
  lt : g.ts.length ≤ g'.ts.length
  cx : ∀ k, cX g' k + ux.count k = cX g k + iR g.xs.length g'.xs.length k
  ct : ∀ k, cT g' k + ut.count k = cT g k + iR g.ts.length g'.ts.length k
  o : Ord g → Ord g'
theorem UseI.refl (g : GM) : UseI g g [] [] := ⟨Nat.le_refl _, Nat.le_refl _, fun k => by rw [iR_self]; rfl, fun k => by rw [iR_self]; rfl, fun h => h⟩
theorem UseI.trans {g g' g'' : GM} {a b c d : List Nat} (h : UseI g g' a b) (k : UseI g' g'' c d) : UseI g g'' (a ++ c) (b ++ d) := by
  refine ⟨Nat.le_trans h.lx k.lx, Nat.le_trans h.lt k.lt, fun i => ?_, fun i => ?_, fun i => k.o (h.o i)⟩
  · have a1 := h.cx i
    have a2 := k.cx i
    have a3 := iR_join (k := i) h.lx k.lx
    rw [List.count_append]; omega
  · have a1 := h.ct i
    have a2 := k.ct i
    have a3 := iR_join (k := i) h.lt k.lt
    rw [List.count_append]; omega
theorem use_I (x : IA) (g : GM) (h : wfI x) : UseI g (putI x g).1 (putI x g).2.ux (putI x g).2.ut := by
  cases x with
  | pack z li subs => exact UseI.refl g
  | field s t d wh =>
    obtain ⟨l1, l2, l3, l4, -, l5⟩ := use_T t true g h
    obtain ⟨l6, l7⟩ := l4 rfl
    cases wh with
    | none =>
      refine ⟨l1, l2, fun k => ?_, fun k => ?_, l5⟩
      · show _ + 0 = _; exact l3 k
      · show _ + (ix (((putT t g).1.t : Nat) : Int)).count k = _
        rw [ix_nat, count_one]; exact l7 k
    | some e =>
      obtain ⟨k1, k2, k3, k4⟩ := use_E e (putT t g).1
      refine ⟨by show _ ≤ (putE e (putT t g).1).xs.length; omega, by show _ ≤ (putE e (putT t g).1).ts.length; rw [k1]; exact l2, fun k => ?_, fun k => ?_, fun h => k4 (l5 h)⟩
      · show cX (putE e (putT t g).1) k + (ix (((putE e (putT t g).1).x : Nat) : Int)).count k = _ + iR _ (putE e (putT t g).1).xs.length k
        rw [ix_nat, count_one]
        have a1 := k3 k
        have a2 := l3 k
        have a3 := iR_join (k := k) l1 (Nat.le_of_lt k2)
        omega
      · show cT (putE e (putT t g).1) k + (ix (((putT t g).1.t : Nat) : Int)).count k = _ + iR _ (putE e (putT t g).1).ts.length k
        rw [ix_nat, count_one, cT_ts k1, k1]; exact l7 k
theorem use_Is : ∀ (l : List IA) (g : GM) (ks : List IM), (∀ x ∈ l, wfI x) → ∃ us, (l.foldl stepI (g, ks)).2 = ks ++ us ∧ UseI g (l.foldl stepI (g, ks)).1 (us.flatMap IM.ux) (us.flatMap IM.ut)
  | [], g, ks, h => ⟨[], by simp, UseI.refl g⟩
  | x :: r, g, ks, h => by
    obtain ⟨us, h1, h2⟩ := use_Is r (putI x g).1 (ks ++ [(putI x g).2]) fun y hy => h y (List.mem_cons_of_mem _ hy)
    refine ⟨(putI x g).2 :: us, ?_, ?_⟩
    · rw [List.foldl_cons]
      show (r.foldl stepI ((putI x g).1, ks ++ [(putI x g).2])).2 = _
      rw [h1]; simp
    · rw [List.foldl_cons, List.flatMap_cons, List.flatMap_cons]
      exact (use_I x g (h x List.mem_cons_self)).trans h2
def wfS (s : SA) : Prop := ∀ x ∈ s.is, wfI x
theorem use_S (s : SA) (g : GM) (h : wfS s) : UseI g (putS s g).1 ((putS s g).2.is.flatMap IM.ux) ((putS s g).2.is.flatMap IM.ut) := by
  obtain ⟨us, h1, h2⟩ := use_Is s.is g [] h
  rw [List.nil_append] at h1
  have : (putS s g).2.is = us := h1
  rw [this]; exact h2
theorem use_Ss : ∀ (l : List SA) (g : GM) (ks : List SM), (∀ x ∈ l, wfS x) → ∃ us, (l.foldl stepS (g, ks)).2 = ks ++ us ∧ UseI g (l.foldl stepS (g, ks)).1 (us.flatMap fun s => s.is.flatMap IM.ux) (us.flatMap fun s => s.is.flatMap IM.ut)
  | [], g, ks, h => ⟨[], by simp, UseI.refl g⟩
  | x :: r, g, ks, h => by
    obtain ⟨us, h1, h2⟩ := use_Ss r (putS x g).1 (ks ++ [(putS x g).2]) fun y hy => h y (List.mem_cons_of_mem _ hy)
    refine ⟨(putS x g).2 :: us, ?_, ?_⟩
    · rw [List.foldl_cons]
      show (r.foldl stepS ((putS x g).1, ks ++ [(putS x g).2])).2 = _
      rw [h1]; simp
    · rw [List.foldl_cons, List.flatMap_cons, List.flatMap_cons]
      exact (use_S x g (h x List.mem_cons_self)).trans h2
/-- In a File each expression and each type is part of just one other, or of an item, and stands ahead of it. -/
theorem use_F (cs : List (List UInt8 × Nat)) (ss : List SA) (h : ∀ x ∈ ss, wfS x) : Ord (putF cs ss).g ∧
    (∀ k, cX (putF cs ss).g k + ((putF cs ss).ss.flatMap fun s => s.is.flatMap IM.ux).count k = iR 0 (putF cs ss).g.xs.length k) ∧
    ∀ k, cT (putF cs ss).g k + ((putF cs ss).ss.flatMap fun s => s.is.flatMap IM.ut).count k = iR 0 (putF cs ss).g.ts.length k := by
  obtain ⟨us, h1, h2⟩ := use_Ss ss gm0 [] h
  rw [List.nil_append] at h1
  have e : (putF cs ss).ss = us := h1
  rw [e]
  have z1 : ∀ k, cX gm0 k = 0 := fun k => rfl
  have z2 : ∀ k, cT gm0 k = 0 := fun k => rfl
  refine ⟨h2.o ⟨fun i x hx => by simp [gm0] at hx, fun i x hx => by simp [gm0] at hx⟩, fun k => ?_, fun k => ?_⟩
  · have := h2.cx k; rw [z1, Nat.zero_add] at this; exact this
  · have := h2.ct k; rw [z2, Nat.zero_add] at this; exact this

/-! The parser makes such trees. -/
def PR.All {α : Type} (p : α → Prop) (r : PR α) : Prop := ∀ a l, r = .ok a l → p a
theorem all_bind {α β : Type} {p : β → Prop} {r : PR α} {f : α → List Tok → PR β} (h : ∀ a l, r = .ok a l → (f a l).All p) : (r.bind f).All p := by
  intro b l e
  cases r with
  | ok a l' => exact h a l' rfl b l e
  | bad l' e' => cases e
theorem all_ok {α : Type} {p : α → Prop} {a : α} {l : List Tok} (h : p a) : (PR.ok a l).All p := by intro b l' e; cases e; exact h
theorem all_bad {α : Type} {p : α → Prop} {l : List Tok} {e : Nat} : (PR.bad l e : PR α).All p := by intro b l' e; cases e
theorem elem_wf (n d : Nat) (l : List Tok) : (elemP n d l).All (wfK · true) := by
  unfold elemP
  refine all_bind fun t l1 h => ?_
  have ht : wfK t true := by
    have : (singleP n d l).All (wfK · true) := by
      unfold singleP
      split
      · exact all_ok rfl
      · split
        · exact all_bind fun es l1 _ => all_ok rfl
        · exact all_ok rfl
    exact this t l1 h
  split
  · exact all_bind fun e l2 _ => all_ok ⟨rfl, ht⟩
  · exact all_ok ht
theorem types_wf : ∀ n, (∀ d l, (typP n d l).All (wfK · true)) ∧ (∀ d l, (innerP n d l).All (wfK · true)) ∧ (∀ d l, (branchP n d l).All (wfK · true)) ∧
    (∀ d k cs l, wfK cs false → (casesL n d k cs l).All (wfK · false)) ∧ (∀ d l, (switchP n d l).All (wfK · true))
  | 0 => ⟨fun d l => by rw [typP]; exact all_bad, fun d l => by rw [innerP]; exact all_bad, fun d l => by rw [branchP]; exact all_bad, fun d k cs l _ => by rw [casesL]; exact all_bad, fun d l => by rw [switchP]; exact all_bad⟩
  | n + 1 => by
    obtain ⟨i1, i2, i3, i4, i5⟩ := types_wf n
    refine ⟨fun d l => ?_, fun d l => ?_, fun d l => ?_, fun d k cs l hcs => ?_, fun d l => ?_⟩
    · rw [typP]
      split
      · exact all_bad
      split
      · exact all_bind fun e l1 _ => all_ok rfl
      split
      · exact all_bind fun e l1 _ => all_ok rfl
      split
      · exact all_bind fun e l1 _ => all_ok rfl
      split
      · exact all_bind fun e l1 _ => all_bind fun t l2 h => all_ok ⟨rfl, i2 _ _ _ _ h⟩
      split
      · exact all_bind fun e l1 _ => all_bind fun t l2 h => all_ok ⟨rfl, i2 _ _ _ _ h⟩
      split
      · exact all_bind fun t l2 h => all_ok ⟨rfl, i2 _ _ _ _ h⟩
      split
      · exact all_ok rfl
      split
      · exact all_ok rfl
      split
      · exact i5 _ _
      · exact elem_wf _ _ _
    · rw [innerP]; exact all_bind fun _ l1 _ => i1 _ _
    · rw [branchP]; exact all_bind fun _ l1 _ => all_bind fun t l2 h => all_bind fun _ l3 _ => all_ok (i2 _ _ _ _ h)
    · rw [casesL]
      split
      · exact all_bind fun _ _ _ => all_bind fun v l1 _ => all_bind fun t l2 h => i4 _ _ _ _ ⟨rfl, hcs, i3 _ _ _ _ h⟩
      · exact all_ok hcs
    · rw [switchP]
      refine all_bind fun _ l1 _ => all_bind fun e l2 _ => all_bind fun _ l3 _ => all_bind fun _ l4 _ => all_bind fun cs l5 hc => ?_
      have hcs := i4 _ _ TA.nil _ rfl _ _ hc
      split
      · exact all_bind fun t l6 h => all_bind fun _ l7 _ => all_ok ⟨rfl, hcs, .inr (i3 _ _ _ _ h)⟩
      · exact all_bind fun _ l7 _ => all_ok ⟨rfl, hcs, .inl rfl⟩
theorem item_wf (n : Nat) (l : List Tok) : (itemP n l).All wfI := by
  unfold itemP
  split
  · unfold packP
    split
    · exact all_bad
    · exact all_bind fun _ _ _ => all_bind fun _ _ _ => all_bind fun _ _ _ => all_ok trivial
  · unfold fieldP
    exact all_bind fun s l1 _ => all_bind fun _ l2 _ => all_bind fun t l3 h => all_bind fun d l4 _ => all_bind fun w l5 _ => all_bind fun _ l6 _ => all_ok ((types_wf n).1 _ _ _ _ h)
theorem items_wf : ∀ (n : Nat) is l, (∀ x ∈ is, wfI x) → (itemsL n is l).All fun is => ∀ x ∈ is, wfI x
  | 0, is, l, h => by rw [itemsL]; exact all_bad
  | n + 1, is, l, h => by
    rw [itemsL]
    split
    · exact all_ok h
    · refine all_bind fun _ _ _ => all_bind fun _ _ _ => all_bind fun x l1 hx => items_wf n _ _ fun y hy => ?_
      rcases List.mem_append.1 hy with hy | hy
      · exact h y hy
      · rw [List.mem_singleton.1 hy]; exact item_wf _ _ _ _ hx
theorem struct_wf (n : Nat) (l : List Tok) : (structP n l).All wfS := by
  unfold structP
  exact all_bind fun _ l1 _ => all_bind fun s l2 _ => all_bind fun ps l3 _ => all_bind fun _ l4 _ => all_bind fun is l5 h => all_ok (items_wf n [] _ (by simp) _ _ h)
theorem file_wf : ∀ (n : Nat) cs ss l, (∀ x ∈ ss, wfS x) → (fileL n cs ss l).All fun a => ∀ x ∈ a.2, wfS x
  | 0, cs, ss, l, h => by rw [fileL]; exact all_bad
  | n + 1, cs, ss, l, h => by
    rw [fileL]
    split
    · exact all_ok h
    split
    · exact all_bind fun _ _ _ => all_bind fun c l1 _ => file_wf n _ _ _ h
    split
    · refine all_bind fun _ _ _ => all_bind fun x l1 hx => file_wf n _ _ _ fun y hy => ?_
      rcases List.mem_append.1 hy with hy | hy
      · exact h y hy
      · rw [List.mem_singleton.1 hy]; exact struct_wf _ _ _ _ hx
    · exact all_bad
end Go.Proofs.YtcdbdfhikbfbpaaGreatDoor
