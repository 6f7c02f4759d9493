/- Layer 7, the mathematics: what a parser makes of tokens ahead of the End, and of the same tokens ahead of others. No program. -/
import Derived.Test.YtcdbdfhikbfbpaaGreatDoorParseQ
namespace Go.Proofs.YtcdbdfhikbfbpaaGreatDoor
set_option linter.unusedVariables false

/-- r: the answer for x ahead of the End e; r': that for x ahead of t. cl: what follows is not looked at; s: so many are read. -/
def Sim {α : Type} (cl : Bool) (s : Nat) (e : Tok) (t x : List Tok) (r r' : PR α) : Prop :=
  r = .bad [e] 4 ∨ (cl = false ∧ s ≤ x.length ∧ ∃ a, r = .ok a [e]) ∨
  (x ≠ [] ∧ ((∃ a x', r = .ok a (x' ++ [e]) ∧ r' = .ok a (x' ++ t) ∧ x' <:+ x ∧ x'.length + s ≤ x.length ∧ (cl = true ∨ x' ≠ [])) ∨
    (∃ x' k, x' ≠ [] ∧ r = .bad (x' ++ [e]) k ∧ r' = .bad (x' ++ t) k)))
section
variable {e : Tok} {t x : List Tok}
theorem Sim.bind {α β : Type} {c1 c2 : Bool} {s1 s2 : Nat} {r r' : PR α} {f f' : α → List Tok → PR β} (h : Sim c1 s1 e t x r r')
    (k : ∀ a x', x' <:+ x → x'.length + s1 ≤ x.length → Sim c2 s2 e t x' (f a (x' ++ [e])) (f' a (x' ++ t))) : Sim c2 (s1 + s2) e t x (r.bind f) (r'.bind f') := by
  rcases h with rfl | ⟨_, hs, a, rfl⟩ | ⟨hx, ⟨a, x', rfl, rfl, h1, h2, h3⟩ | ⟨x', n, h1, rfl, rfl⟩⟩
  · exact .inl rfl
  · rw [PR.bind_ok]
    rcases k a [] (List.nil_suffix) (by simpa using hs) with h | ⟨h, h', b, hb⟩ | ⟨h, _⟩
    · exact .inl h
    · exact .inr (.inl ⟨h, by simp only [List.length_nil] at h'; omega, b, hb⟩)
    · exact absurd rfl h
  · rw [PR.bind_ok, PR.bind_ok]
    rcases k a x' h1 h2 with h | ⟨h, h', b, hb⟩ | ⟨h, ⟨b, x2, hb, hb', h4, h5, h6⟩ | ⟨x2, n, h4, hb, hb'⟩⟩
    · exact .inl h
    · exact .inr (.inl ⟨h, by omega, b, hb⟩)
    · exact .inr (.inr ⟨hx, .inl ⟨b, x2, hb, hb', h4.trans h1, by omega, h6⟩⟩)
    · exact .inr (.inr ⟨hx, .inr ⟨x2, n, h4, hb, hb'⟩⟩)
  · exact .inr (.inr ⟨hx, .inr ⟨x', n, h1, rfl, rfl⟩⟩)
theorem Sim.mono {α : Type} {c : Bool} {s s' : Nat} {r r' : PR α} (h : Sim c s e t x r r') (hs : s' ≤ s) : Sim c s' e t x r r' := by
  rcases h with h | ⟨h1, h2, h3⟩ | ⟨hx, ⟨a, x', h0, h1, h2, h3, h4⟩ | h⟩
  · exact .inl h
  · exact .inr (.inl ⟨h1, by omega, h3⟩)
  · exact .inr (.inr ⟨hx, .inl ⟨a, x', h0, h1, h2, by omega, h4⟩⟩)
  · exact .inr (.inr ⟨hx, .inr h⟩)
theorem Sim.weak {α : Type} {c : Bool} {s : Nat} {r r' : PR α} (h : Sim c s e t x r r') : Sim false s e t x r r' := by
  rcases h with h | ⟨h1, h2, h3⟩ | ⟨hx, ⟨a, x', h0, h1, h2, h3, h4⟩ | h⟩
  · exact .inl h
  · exact .inr (.inl ⟨rfl, h2, h3⟩)
  · by_cases hn : x' = []
    · subst hn
      exact .inr (.inl ⟨rfl, by simpa using h3, a, h0⟩)
    · exact .inr (.inr ⟨hx, .inl ⟨a, x', h0, h1, h2, h3, .inr hn⟩⟩)
  · exact .inr (.inr ⟨hx, .inr h⟩)
/-- One token, then the rest. -/
theorem Sim.step {α : Type} {c : Bool} {s : Nat} {y : Tok} {r r' : PR α} (h : Sim c s e t x r r') : Sim c (s + 1) e t (y :: x) r r' := by
  rcases h with h | ⟨h1, h2, h3⟩ | ⟨hx, ⟨a, x', h0, h1, h2, h3, h4⟩ | h⟩
  · exact .inl h
  · exact .inr (.inl ⟨h1, by simpa using h2, h3⟩)
  · exact .inr (.inr ⟨by simp, .inl ⟨a, x', h0, h1, h2.trans (List.suffix_cons _ _), by simp only [List.length_cons]; omega, h4⟩⟩)
  · exact .inr (.inr ⟨by simp, .inr h⟩)
theorem Sim.ok {α : Type} (a : α) : Sim false 0 e t x (.ok a (x ++ [e])) (.ok a (x ++ t)) := by
  by_cases hx : x = []
  · subst hx; exact .inr (.inl ⟨rfl, by simp, a, rfl⟩)
  · exact .inr (.inr ⟨hx, .inl ⟨a, x, rfl, rfl, List.suffix_refl _, by omega, .inr hx⟩⟩)
theorem Sim.one {α : Type} (a : α) (y : Tok) : Sim true 1 e t (y :: x) (.ok a (x ++ [e])) (.ok a (x ++ t)) :=
  .inr (.inr ⟨by simp, .inl ⟨a, x, rfl, rfl, List.suffix_cons _ _, by simp, .inl rfl⟩⟩)
/-- The last step of what looks at nothing behind. -/
theorem Sim.bindOk {α β : Type} {s : Nat} {r r' : PR α} (g : α → β) (h : Sim true s e t x r r') : Sim true s e t x (r.bind fun a l => .ok (g a) l) (r'.bind fun a l => .ok (g a) l) := by
  rcases h with rfl | ⟨h, _⟩ | ⟨hx, ⟨a, x', rfl, rfl, h1, h2, h3⟩ | ⟨x', n, h1, rfl, rfl⟩⟩
  · exact .inl rfl
  · cases h
  · exact .inr (.inr ⟨hx, .inl ⟨g a, x', rfl, rfl, h1, h2, .inl rfl⟩⟩)
  · exact .inr (.inr ⟨hx, .inr ⟨x', n, h1, rfl, rfl⟩⟩)
theorem Sim.bad {α : Type} (k s : Nat) (c : Bool) (hx : x ≠ []) : Sim c s e t x (.bad (x ++ [e]) k : PR α) (.bad (x ++ t) k) := .inr (.inr ⟨hx, .inr ⟨x, k, hx, rfl, rfl⟩⟩)
theorem Sim.bad4 {α : Type} (s : Nat) (c : Bool) : Sim c s e t x (.bad (x ++ [e]) 4 : PR α) (.bad (x ++ t) 4) := by
  by_cases hx : x = []
  · subst hx; exact .inl rfl
  · exact .bad _ _ _ hx
theorem hd_cons (y : Tok) (l : List Tok) : hd (y :: l) = y := rfl
theorem isT_cons (g : List UInt8) (y : Tok) (l : List Tok) : isT g (y :: l) = decide (y.tk.t = g) := rfl
theorem isT_end (he : e.tk = tkEnd) {g : List UInt8} (hg : g ≠ []) : isT g [e] = false := by
  rw [isT_cons, he, decide_eq_false_iff_not]
  exact fun h => hg h.symm
theorem isName_end (he : e.tk = tkEnd) : isName [e] = false := by
  unfold isName; rw [hd_cons, he]; rfl
theorem isNum_end (he : e.tk = tkEnd) : isNum [e] = false := by
  unfold isNum; rw [hd_cons, he]; rfl
theorem begE_end (he : e.tk = tkEnd) : begE [e] = false := by
  unfold begE
  rw [isT_end he (by decide), isT_end he (by decide), isName_end he, isNum_end he]; rfl
theorem begT_end (he : e.tk = tkEnd) : begT [e] = false := by
  unfold begT
  rw [isName_end he, hd_cons, he]; decide
theorem level_end (he : e.tk = tkEnd) : levelL (hd [e]).tk.t = 0 := by rw [hd_cons, he]; decide
/-- A test of the next token. -/
theorem Sim.isT {α : Type} {c : Bool} {s : Nat} (he : e.tk = tkEnd) {g : List UInt8} (hg : g ≠ []) {A A' B B' : PR α} (h1 : ∀ y x1, x = y :: x1 → y.tk.t = g → Sim c s e t x A A') (h2 : Sim c s e t x B B') :
    Sim c s e t x (if isT g (x ++ [e]) = true then A else B) (if isT g (x ++ t) = true then A' else B') := by
  cases x with
  | nil =>
    rw [List.nil_append, isT_end he hg, if_neg (by decide)]
    rcases h2 with h | h | ⟨h, _⟩
    · exact .inl h
    · exact .inr (.inl h)
    · exact absurd rfl h
  | cons y x1 =>
    rw [List.cons_append, List.cons_append, isT_cons, isT_cons]
    by_cases hy : y.tk.t = g
    · rw [decide_eq_true hy, if_pos rfl, if_pos rfl]; exact h1 y x1 rfl hy
    · rw [decide_eq_false hy, if_neg (by decide), if_neg (by decide)]; exact h2
theorem sim_need (he : e.tk = tkEnd) {g : List UInt8} (hg : g ≠ []) : Sim true 1 e t x (need g (x ++ [e])) (need g (x ++ t)) := by
  unfold need
  refine .isT he hg (fun y x1 hx _ => ?_) (.bad4 _ _)
  subst hx
  exact .one () y
theorem sim_name (he : e.tk = tkEnd) : Sim true 1 e t x (nameP (x ++ [e])) (nameP (x ++ t)) := by
  unfold nameP
  cases x with
  | nil => rw [List.nil_append, isName_end he, if_neg (by decide)]; exact .inl rfl
  | cons y x1 =>
    have h : isName ((y :: x1) ++ t) = isName ((y :: x1) ++ [e]) := rfl
    rw [h]
    split
    · exact .one _ y
    · exact .bad4 _ _
theorem sim_num (he : e.tk = tkEnd) : Sim true 1 e t x (numP (x ++ [e])) (numP (x ++ t)) := by
  unfold numP
  cases x with
  | nil => rw [List.nil_append, isNum_end he, if_neg (by decide)]; exact .inl rfl
  | cons y x1 =>
    have h : isNum ((y :: x1) ++ t) = isNum ((y :: x1) ++ [e]) := rfl
    rw [h]
    split
    · exact .one _ y
    · exact .bad4 _ _
theorem sim_expect {b b' : Bool} (h0 : x = [] → b = false) (h1 : x ≠ [] → b' = b) : Sim false 0 e t x (expectP b (x ++ [e])) (expectP b' (x ++ t)) := by
  unfold expectP
  by_cases hx : x = []
  · rw [h0 hx, if_neg (by decide), hx]; exact .inl rfl
  · rw [h1 hx]
    split
    · exact .ok ()
    · exact .bad4 _ _
theorem sim_room (k : Nat) (hx : x ≠ []) : Sim false 0 e t x (roomP k (x ++ [e])) (roomP k (x ++ t)) := by
  unfold roomP
  split
  · exact .bad _ _ _ hx
  · exact .ok ()
theorem sim_enter {b b' : Bool} (d : Nat) (h0 : x = [] → b = false) (h1 : x ≠ [] → b' = b) : Sim false 0 e t x (enterP b d (x ++ [e])) (enterP b' d (x ++ t)) := by
  unfold enterP
  by_cases hx : x = []
  · rw [h0 hx, if_pos rfl, hx]; exact .inl rfl
  · rw [h1 hx]
    split
    · exact .bad4 _ _
    split
    · exact .bad _ _ _ hx
    · exact .ok ()
theorem begE_same (hx : x ≠ []) : begE (x ++ t) = begE (x ++ [e]) := by
  cases x with
  | nil => exact absurd rfl hx
  | cons y x1 => rfl
theorem begT_same (hx : x ≠ []) : begT (x ++ t) = begT (x ++ [e]) := by
  cases x with
  | nil => exact absurd rfl hx
  | cons y x1 => rfl
theorem begE_nil (he : e.tk = tkEnd) (hx : x = []) : begE (x ++ [e]) = false := by rw [hx]; exact begE_end he
theorem begT_nil (he : e.tk = tkEnd) (hx : x = []) : begT (x ++ [e]) = false := by rw [hx]; exact begT_end he
theorem isName_nil (he : e.tk = tkEnd) (hx : x = []) : isName (x ++ [e]) = false := by rw [hx]; exact isName_end he
theorem isName_same (hx : x ≠ []) : isName (x ++ t) = isName (x ++ [e]) := by
  cases x with
  | nil => exact absurd rfl hx
  | cons y x1 => rfl
end
/-! Expressions. -/
theorem sim_exprs (e : Tok) (t : List Tok) (he : e.tk = tkEnd) : ∀ n,
    (∀ m d x, 8 * x.length + 1 ≤ n → 8 * x.length + 1 ≤ m → Sim true 1 e t x (unary n d (x ++ [e])) (unary m d (x ++ t))) ∧
    (∀ m v d x, 1 ≤ v → 8 * x.length + 2 ≤ n → 8 * x.length + 2 ≤ m → Sim false 1 e t x (bin n v d (x ++ [e])) (bin m v d (x ++ t))) ∧
    (∀ m v d a x, 1 ≤ v → 8 * x.length + 1 ≤ n → 8 * x.length + 1 ≤ m → Sim false 0 e t x (loopB n v d a (x ++ [e])) (loopB m v d a (x ++ t))) := by
  intro n
  induction n with
  | zero => exact ⟨fun _ _ _ h => by omega, fun _ _ _ _ _ h => by omega, fun _ _ _ _ _ _ h => by omega⟩
  | succ n ih =>
    obtain ⟨iu, ib, il⟩ := ih
    refine ⟨fun m d x h1 h2 => ?_, fun m v d x hv h1 h2 => ?_, fun m v d a x hv h1 h2 => ?_⟩
    · obtain ⟨m, rfl⟩ : ∃ k, m = k + 1 := ⟨m - 1, by omega⟩
      rw [unary, unary]
      refine .isT he (by decide) (fun y x1 hx _ => ?_) (.isT he (by decide) (fun y x1 hx _ => ?_) ?_)
      · subst hx
        simp only [List.length_cons] at h1 h2
        refine Sim.mono (s := 0 + 1 + 1) (Sim.step ((sim_enter d (begE_nil he) begE_same).bind fun _ x2 hs hl => Sim.bindOk _ (iu m (d + 1) x2 (by omega) (by omega)))) (by omega)
      · subst hx
        simp only [List.length_cons] at h1 h2
        refine Sim.mono (s := 0 + (1 + 1) + 1) (Sim.step ((sim_enter d (begE_nil he) begE_same).bind fun _ x2 hs hl => (ib m 1 (d + 1) x2 (by omega) (by omega) (by omega)).bind fun a x3 hs3 hl3 => Sim.bindOk (fun _ => a) (sim_need he (by decide)))) (by omega)
      · cases x with
        | nil => rw [List.nil_append, isNum_end he, isName_end he, if_neg (by decide), if_neg (by decide)]; exact .inl rfl
        | cons y x1 =>
          have h3 : isNum ((y :: x1) ++ t) = isNum ((y :: x1) ++ [e]) := rfl
          have h4 : isName ((y :: x1) ++ t) = isName ((y :: x1) ++ [e]) := rfl
          rw [h3, h4]
          split
          · exact .one _ y
          split
          · exact .one _ y
          · exact .bad4 _ _
    · obtain ⟨m, rfl⟩ : ∃ k, m = k + 1 := ⟨m - 1, by omega⟩
      rw [bin, bin]
      exact Sim.mono (s := 1 + 0) ((iu m d x (by omega) (by omega)).bind fun a x1 hs hl => il m v d a x1 hv (by omega) (by omega)) (by omega)
    · obtain ⟨m, rfl⟩ : ∃ k, m = k + 1 := ⟨m - 1, by omega⟩
      rw [loopB, loopB]
      cases x with
      | nil =>
        rw [List.nil_append, level_end he, if_neg (by omega)]
        exact .inr (.inl ⟨rfl, by simp, a, rfl⟩)
      | cons y x1 =>
        have h3 : hd ((y :: x1) ++ t) = hd ((y :: x1) ++ [e]) := rfl
        rw [h3]
        simp only [List.length_cons] at h1 h2
        split
        · rename_i hlv
          refine Sim.mono (s := (1 + 0) + 1) (Sim.step (Sim.bind (c1 := false) ?_ fun b x2 hs hl => ?_)) (by omega)
          · exact ib m _ d x1 (by omega) (by omega) (by omega)
          · exact il m v d _ x2 hv (by omega) (by omega)
        · exact .ok a
theorem sim_bin {e : Tok} {t : List Tok} (he : e.tk = tkEnd) {n m v d : Nat} {x : List Tok} (hv : 1 ≤ v) (h1 : 8 * x.length + 2 ≤ n) (h2 : 8 * x.length + 2 ≤ m) : Sim false 1 e t x (bin n v d (x ++ [e])) (bin m v d (x ++ t)) := (sim_exprs e t he n).2.1 m v d x hv h1 h2
theorem sim_idx {e : Tok} {t : List Tok} (he : e.tk = tkEnd) {n m d : Nat} {x : List Tok} (h1 : 8 * x.length + 2 ≤ n) (h2 : 8 * x.length + 2 ≤ m) : Sim true 3 e t x (idxP n d (x ++ [e])) (idxP m d (x ++ t)) := by
  unfold idxP
  exact Sim.mono (s := 1 + (1 + 1)) ((sim_need he (by decide)).bind fun _ x1 _ hl1 => (sim_bin he (by omega) (by omega) (by omega)).bind fun a x2 _ hl2 => Sim.bindOk (fun _ => a) (sim_need he (by decide))) (by omega)
theorem sim_argsL {e : Tok} {t : List Tok} (he : e.tk = tkEnd) : ∀ (n m : Nat) (es : List EA) (d : Nat) (x : List Tok), 8 * x.length + 1 ≤ n → 8 * x.length + 1 ≤ m → Sim false 0 e t x (argsL n es d (x ++ [e])) (argsL m es d (x ++ t))
  | 0, m, es, d, x, h1, h2 => by omega
  | n + 1, m, es, d, x, h1, h2 => by
    obtain ⟨m, rfl⟩ : ∃ k, m = k + 1 := ⟨m - 1, by omega⟩
    rw [argsL, argsL]
    refine .isT he (by decide) (fun y x1 hx _ => ?_) (.ok es)
    subst hx
    simp only [List.length_cons] at h1 h2
    refine Sim.mono (s := 0 + (0 + (1 + 0)) + 1) (Sim.step ?_) (by omega)
    by_cases hx1 : x1 = []
    · subst hx1
      have h0 : expectP (begE ([] ++ [e])) ([] ++ [e]) = .bad [e] 4 := by rw [List.nil_append, begE_end he]; rfl
      refine .inl ?_
      show (expectP (begE ([] ++ [e])) ([] ++ [e])).bind _ = _
      rw [h0]; rfl
    · have h0 := begE_same (e := e) (t := t) hx1
      show Sim _ _ _ _ _ ((expectP (begE (x1 ++ [e])) (x1 ++ [e])).bind _) ((expectP (begE (x1 ++ t)) (x1 ++ t)).bind _)
      rw [h0]
      cases begE (x1 ++ [e])
      · exact .bad4 _ _
      · show Sim _ _ _ _ _ ((roomP es.length (x1 ++ [e])).bind _) ((roomP es.length (x1 ++ t)).bind _)
        refine Sim.mono (s := 0 + (1 + 0)) ((sim_room es.length hx1).bind fun _ x2 _ hl2 => (sim_bin he (by omega) (by omega) (by omega)).bind fun a x3 _ hl3 => sim_argsL he n m _ d x3 (by omega) (by omega)) (by omega)
theorem sim_args {e : Tok} {t : List Tok} (he : e.tk = tkEnd) {n m d : Nat} {x : List Tok} (h1 : 8 * x.length + 2 ≤ n) (h2 : 8 * x.length + 2 ≤ m) : Sim true 2 e t x (argsP n d (x ++ [e])) (argsP m d (x ++ t)) := by
  unfold argsP
  exact Sim.mono (s := 1 + (0 + 1)) ((sim_bin he (by omega) (by omega) (by omega)).bind fun a x1 _ hl1 => (sim_argsL he n m _ d x1 (by omega) (by omega)).bind fun es x2 _ hl2 => Sim.bindOk (fun _ => es) (sim_need he (by decide))) (by omega)
/-! Types. -/
theorem sim_single {e : Tok} {t : List Tok} (he : e.tk = tkEnd) {n m d : Nat} {x : List Tok} (hx : x ≠ []) (h1 : 8 * x.length ≤ n) (h2 : 8 * x.length ≤ m) : Sim false 1 e t x (singleP n d (x ++ [e])) (singleP m d (x ++ t)) := by
  cases x with
  | nil => exact absurd rfl hx
  | cons y x1 =>
    unfold singleP
    have h3 : hd ((y :: x1) ++ t) = y := rfl
    have h4 : hd ((y :: x1) ++ [e]) = y := rfl
    rw [h3, h4]
    simp only [List.length_cons] at h1 h2
    split
    · exact (Sim.one _ y).weak
    · refine Sim.mono (s := 0 + 1) (Sim.step (.isT he (by decide) (fun z x2 hx2 _ => ?_) (.ok _))) (by omega)
      subst hx2
      simp only [List.length_cons] at h1 h2
      exact Sim.mono (s := 2 + 1) (Sim.step (Sim.bindOk _ (sim_args he (by omega) (by omega)))).weak (by omega)
theorem sim_elem {e : Tok} {t : List Tok} (he : e.tk = tkEnd) {n m d : Nat} {x : List Tok} (hx : x ≠ []) (h1 : 8 * x.length ≤ n) (h2 : 8 * x.length ≤ m) : Sim false 1 e t x (elemP n d (x ++ [e])) (elemP m d (x ++ t)) := by
  unfold elemP
  refine Sim.mono (s := 1 + 0) ((sim_single he hx h1 h2).bind fun a x1 _ hl => .isT he (by decide) (fun z x2 hx2 _ => ?_) (.ok _)) (by omega)
  exact Sim.mono (Sim.bindOk _ (sim_idx he (by omega) (by omega))).weak (by omega)
theorem sim_types (e : Tok) (t : List Tok) (he : e.tk = tkEnd) : ∀ n,
    (∀ m d x, 8 * x.length + 1 ≤ n → 8 * x.length + 1 ≤ m → Sim false 1 e t x (typP n d (x ++ [e])) (typP m d (x ++ t))) ∧
    (∀ m d x, 8 * x.length + 2 ≤ n → 8 * x.length + 2 ≤ m → Sim false 1 e t x (innerP n d (x ++ [e])) (innerP m d (x ++ t))) ∧
    (∀ m d x, 8 * x.length + 1 ≤ n → 8 * x.length + 1 ≤ m → Sim true 3 e t x (branchP n d (x ++ [e])) (branchP m d (x ++ t))) ∧
    (∀ m d c cs x, 8 * x.length + 1 ≤ n → 8 * x.length + 1 ≤ m → Sim false 0 e t x (casesL n d c cs (x ++ [e])) (casesL m d c cs (x ++ t))) ∧
    (∀ m d x, 8 * x.length + 3 ≤ n → 8 * x.length + 3 ≤ m → Sim true 1 e t x (switchP n d (x ++ [e])) (switchP m d (x ++ t))) := by
  intro n
  induction n with
  | zero => exact ⟨fun _ _ _ h => by omega, fun _ _ _ h => by omega, fun _ _ _ h => by omega, fun _ _ _ _ _ h => by omega, fun _ _ _ h => by omega⟩
  | succ n ih =>
    obtain ⟨it, ii, ib, ic, is⟩ := ih
    refine ⟨fun m d x h1 h2 => ?_, fun m d x h1 h2 => ?_, fun m d x h1 h2 => ?_, fun m d c cs x h1 h2 => ?_, fun m d x h1 h2 => ?_⟩
    · obtain ⟨m, rfl⟩ : ∃ k, m = k + 1 := ⟨m - 1, by omega⟩
      rw [typP, typP]
      by_cases hx : x = []
      · subst hx
        rw [List.nil_append, begT_end he, if_pos rfl]; exact .inl rfl
      rw [begT_same (e := e) (t := t) hx]
      split
      · exact .bad4 _ _
      have hx3 : ∀ y x1, x = y :: x1 → ∀ k, Sim false 1 e t x ((idxP n d (x1 ++ [e])).bind fun e l1 => PR.ok (TA.idx k e) l1) ((idxP m d (x1 ++ t)).bind fun e l1 => PR.ok (TA.idx k e) l1) := fun y x1 hx1 k => by
        subst hx1
        simp only [List.length_cons] at h1 h2
        exact Sim.mono (s := 3 + 1) (Sim.step (Sim.bindOk _ (sim_idx he (by omega) (by omega)))).weak (by omega)
      have hx4 : ∀ y x1, x = y :: x1 → ∀ k, Sim false 1 e t x ((idxP n d (x1 ++ [e])).bind fun e l1 => (innerP n d l1).bind fun t l2 => PR.ok (TA.win k e t) l2) ((idxP m d (x1 ++ t)).bind fun e l1 => (innerP m d l1).bind fun t l2 => PR.ok (TA.win k e t) l2) := fun y x1 hx1 k => by
        subst hx1
        simp only [List.length_cons] at h1 h2
        exact Sim.mono (s := 3 + (1 + 0) + 1) (Sim.step ((sim_idx he (by omega) (by omega)).bind fun a x2 _ hl => (ii m d x2 (by omega) (by omega)).bind fun b x3 _ _ => .ok _)) (by omega)
      refine .isT he (by decide) (fun y x1 hx1 _ => by subst hx1; exact hx3 y x1 rfl 1) (.isT he (by decide) (fun y x1 hx1 _ => by subst hx1; exact hx3 y x1 rfl 2) (.isT he (by decide) (fun y x1 hx1 _ => by subst hx1; exact hx3 y x1 rfl 3) (.isT he (by decide) (fun y x1 hx1 _ => by subst hx1; exact hx4 y x1 rfl 7) (.isT he (by decide) (fun y x1 hx1 _ => by subst hx1; exact hx4 y x1 rfl 8) (.isT he (by decide) (fun y x1 hx1 _ => ?_) (.isT he (by decide) (fun y x1 hx1 _ => ?_) (.isT he (by decide) (fun y x1 hx1 _ => ?_) (.isT he (by decide) (fun y x1 hx1 _ => ?_) ?_))))))))
      · subst hx1
        simp only [List.length_cons] at h1 h2
        exact Sim.mono (s := 1 + 0 + 1) (Sim.step ((ii m d x1 (by omega) (by omega)).bind fun b x3 _ _ => .ok _)) (by omega)
      · subst hx1; exact (Sim.one _ y).weak
      · subst hx1; exact (Sim.one _ y).weak
      · subst hx1
        simp only [List.length_cons] at h1 h2
        exact Sim.mono (s := 1 + 1) (Sim.step (is m d x1 (by omega) (by omega)).weak) (by omega)
      · exact sim_elem he hx (by omega) (by omega)
    · obtain ⟨m, rfl⟩ : ∃ k, m = k + 1 := ⟨m - 1, by omega⟩
      rw [innerP, innerP]
      exact Sim.mono (s := 0 + 1) ((sim_enter d (begT_nil he) begT_same).bind fun _ x2 hs hl => it m (d + 1) x2 (by omega) (by omega)) (by omega)
    · obtain ⟨m, rfl⟩ : ∃ k, m = k + 1 := ⟨m - 1, by omega⟩
      rw [branchP, branchP]
      exact Sim.mono (s := 1 + (1 + 1)) ((sim_need he (by decide)).bind fun _ x1 _ hl1 => (ii m d x1 (by omega) (by omega)).bind fun a x2 _ hl2 => Sim.bindOk (fun _ => a) (sim_need he (by decide))) (by omega)
    · obtain ⟨m, rfl⟩ : ∃ k, m = k + 1 := ⟨m - 1, by omega⟩
      rw [casesL, casesL]
      refine .isT he (by decide) (fun y x1 hx _ => ?_) (.ok cs)
      subst hx
      simp only [List.length_cons] at h1 h2
      by_cases h64 : 64 ≤ c
      · rw [roomP, roomP, if_pos h64, if_pos h64]; exact .bad _ _ _ (by simp)
      · rw [roomP, roomP, if_neg h64, if_neg h64]
        exact Sim.mono (s := 1 + (3 + 0) + 1) (Sim.step (x := x1) ((sim_num he).bind fun v x2 _ hl2 => (ib m d x2 (by omega) (by omega)).bind fun b x3 _ hl3 => ic m d _ _ x3 (by omega) (by omega))) (by omega)
    · obtain ⟨m, rfl⟩ : ∃ k, m = k + 1 := ⟨m - 1, by omega⟩
      rw [switchP, switchP]
      refine Sim.mono (s := 1 + (1 + (1 + (1 + (0 + 1))))) ((sim_need he (by decide)).bind fun _ x1 _ hl1 => (sim_bin he (by omega) (by omega) (by omega)).bind fun a x2 _ hl2 => (sim_need he (by decide)).bind fun _ x3 _ hl3 => (sim_need he (by decide)).bind fun _ x4 _ hl4 => (ic m d 0 .nil x4 (by omega) (by omega)).bind fun cs x5 _ hl5 => .isT he (by decide) (fun y x6 hx6 _ => ?_) (Sim.bindOk _ (sim_need he (by decide)))) (by omega)
      subst hx6
      simp only [List.length_cons] at hl5
      exact Sim.mono (s := 3 + 1 + 1) (Sim.step (x := x6) ((ib m d x6 (by omega) (by omega)).bind fun b x7 _ hl7 => Sim.bindOk _ (sim_need he (by decide)))) (by omega)
/-! Items, structs, files. -/
theorem derK_end {e : Tok} (he : e.tk = tkEnd) : derK [e] = 0 := by
  unfold derK
  rw [isT_end he (by decide), isT_end he (by decide), isT_end he (by decide), isT_end he (by decide)]; rfl
theorem sim_der {e : Tok} {t : List Tok} (he : e.tk = tkEnd) {x : List Tok} : Sim true 1 e t x (derP (x ++ [e])) (derP (x ++ t)) := by
  unfold derP
  cases x with
  | nil => rw [List.nil_append, derK_end he, if_pos rfl]; exact .inl rfl
  | cons y x1 =>
    have h3 : derK ((y :: x1) ++ t) = derK ((y :: x1) ++ [e]) := rfl
    rw [h3]
    split
    · exact .bad4 _ _
    · refine Sim.mono (s := 1 + (1 + 1) + 1) (Sim.step (x := x1) ((sim_need he (by decide)).bind fun _ x2 _ _ => (sim_name he).bind fun a x3 _ _ => ?_)) (by omega)
      split
      · exact Sim.bindOk _ (sim_need he (by decide))
      · exact Sim.mono (s := 1 + (1 + 1)) ((sim_need he (by decide)).bind fun _ x4 _ _ => (sim_name he).bind fun b x5 _ _ => Sim.bindOk _ (sim_need he (by decide))) (by omega)
theorem sim_optD {e : Tok} {t : List Tok} (he : e.tk = tkEnd) {x : List Tok} : Sim false 0 e t x (optD (x ++ [e])) (optD (x ++ t)) := by
  unfold optD
  refine .isT he (by decide) (fun y x1 hx _ => ?_) (.ok _)
  subst hx
  exact Sim.mono (s := 1 + 1) (Sim.step (x := x1) (sim_der he).weak) (by omega)
theorem sim_optW {e : Tok} {t : List Tok} (he : e.tk = tkEnd) {n m : Nat} {x : List Tok} (h1 : 8 * x.length ≤ n) (h2 : 8 * x.length ≤ m) : Sim false 0 e t x (optW n (x ++ [e])) (optW m (x ++ t)) := by
  unfold optW
  refine .isT he (by decide) (fun y x1 hx _ => ?_) (.ok _)
  subst hx
  simp only [List.length_cons] at h1 h2
  exact Sim.mono (s := 1 + 0 + 1) (Sim.step (x := x1) ((sim_bin he (by omega) (by omega) (by omega)).bind fun a x2 _ _ => .ok _)) (by omega)
theorem sim_field {e : Tok} {t : List Tok} (he : e.tk = tkEnd) {n m : Nat} {x : List Tok} (h1 : 8 * x.length + 1 ≤ n) (h2 : 8 * x.length + 1 ≤ m) : Sim true 1 e t x (fieldP n (x ++ [e])) (fieldP m (x ++ t)) := by
  unfold fieldP
  exact Sim.mono (s := 1 + (1 + (1 + (0 + (0 + 1))))) ((sim_name he).bind fun s x1 _ hl1 => (sim_need he (by decide)).bind fun _ x2 _ hl2 => ((sim_types e t he n).1 m 0 x2 (by omega) (by omega)).bind fun ty x3 _ hl3 => (sim_optD he).bind fun d x4 _ hl4 => (sim_optW he (by omega) (by omega)).bind fun w x5 _ hl5 => Sim.bindOk _ (sim_need he (by decide))) (by omega)
theorem sim_sub {e : Tok} {t : List Tok} (he : e.tk = tkEnd) {x : List Tok} : Sim true 1 e t x (subP (x ++ [e])) (subP (x ++ t)) := by
  unfold subP
  exact Sim.mono (s := 1 + (1 + (1 + 1))) ((sim_name he).bind fun s x1 _ _ => (sim_need he (by decide)).bind fun _ x2 _ _ => (sim_num he).bind fun v x3 _ _ => Sim.bindOk _ (sim_need he (by decide))) (by omega)
/-- 'expect' and 'room' ahead of what reads from the same place. -/
theorem Sim.crowd {α : Type} {c : Bool} {s : Nat} {e : Tok} {t x : List Tok} {b b' : Bool} {k : Nat} {A A' : PR α} (h0 : x = [] → b = false) (h1 : x ≠ [] → b' = b) (h : x ≠ [] → Sim c s e t x A A') :
    Sim c s e t x ((expectP b (x ++ [e])).bind fun _ _ => (roomP k (x ++ [e])).bind fun _ _ => A) ((expectP b' (x ++ t)).bind fun _ _ => (roomP k (x ++ t)).bind fun _ _ => A') := by
  by_cases hx : x = []
  · rw [h0 hx, hx]; exact .inl rfl
  · rw [h1 hx]
    cases b
    · exact .bad4 _ _
    · show Sim _ _ _ _ _ ((roomP k (x ++ [e])).bind _) ((roomP k (x ++ t)).bind _)
      unfold roomP
      split
      · exact .bad _ _ _ hx
      · exact h hx
theorem sim_subsL {e : Tok} {t : List Tok} (he : e.tk = tkEnd) : ∀ (n m : Nat) ss (x : List Tok), x.length < n → x.length < m → Sim true 1 e t x (subsL n ss (x ++ [e])) (subsL m ss (x ++ t))
  | 0, m, ss, x, h1, h2 => by omega
  | n + 1, m, ss, x, h1, h2 => by
    obtain ⟨m, rfl⟩ : ∃ k, m = k + 1 := ⟨m - 1, by omega⟩
    rw [subsL, subsL]
    refine .isT he (by decide) (fun y x1 hx _ => ?_) (.crowd (isName_nil he) isName_same fun hx => ?_)
    · subst hx; exact .one _ y
    · exact Sim.mono (s := 1 + 1) ((sim_sub he).bind fun a x1 _ hl => sim_subsL he n m _ x1 (by omega) (by omega)) (by omega)
theorem sim_pack {e : Tok} {t : List Tok} (he : e.tk = tkEnd) {n m : Nat} {x : List Tok} (h1 : x.length < n) (h2 : x.length < m) : Sim true 1 e t x (packP n (x ++ [e])) (packP m (x ++ t)) := by
  unfold packP
  cases x with
  | nil =>
    have h3 : intW (hd ([] ++ [e])).tk.t = none := by rw [List.nil_append, hd_cons, he]; decide
    rw [h3]; exact .inl rfl
  | cons y x1 =>
    have h3 : hd ((y :: x1) ++ t) = y := rfl
    have h4 : hd ((y :: x1) ++ [e]) = y := rfl
    rw [h3, h4]
    simp only [List.length_cons] at h1 h2
    split
    · exact .bad4 _ _
    · exact Sim.mono (s := 1 + (1 + 1) + 1) (Sim.step (x := x1) ((sim_need he (by decide)).bind fun _ x2 _ hl2 => (sim_sub he).bind fun a x3 _ hl3 => Sim.bindOk _ (sim_subsL he n m _ x3 (by omega) (by omega)))) (by omega)
theorem sim_item {e : Tok} {t : List Tok} (he : e.tk = tkEnd) {n m : Nat} {x : List Tok} (h1 : 8 * x.length + 1 ≤ n) (h2 : 8 * x.length + 1 ≤ m) : Sim true 1 e t x (itemP n (x ++ [e])) (itemP m (x ++ t)) := by
  unfold itemP
  refine .isT he (by decide) (fun y x1 hx _ => ?_) (sim_field he h1 h2)
  subst hx
  simp only [List.length_cons] at h1 h2
  exact Sim.mono (s := 1 + 1) (Sim.step (x := x1) (sim_pack he (by omega) (by omega))) (by omega)
theorem isItem_nil {e : Tok} {x : List Tok} (he : e.tk = tkEnd) (hx : x = []) : (isName (x ++ [e]) || isT kPack (x ++ [e])) = false := by rw [hx, List.nil_append, isName_end he, isT_end he (by decide)]; rfl
theorem isItem_same {e : Tok} {t x : List Tok} (hx : x ≠ []) : (isName (x ++ t) || isT kPack (x ++ t)) = (isName (x ++ [e]) || isT kPack (x ++ [e])) := by
  cases x with
  | nil => exact absurd rfl hx
  | cons y x1 => rfl
theorem sim_itemsL {e : Tok} {t : List Tok} (he : e.tk = tkEnd) : ∀ (n m : Nat) is (x : List Tok), 8 * x.length + 2 ≤ n → 8 * x.length + 2 ≤ m → Sim true 1 e t x (itemsL n is (x ++ [e])) (itemsL m is (x ++ t))
  | 0, m, is, x, h1, h2 => by omega
  | n + 1, m, is, x, h1, h2 => by
    obtain ⟨m, rfl⟩ : ∃ k, m = k + 1 := ⟨m - 1, by omega⟩
    rw [itemsL, itemsL]
    refine .isT he (by decide) (fun y x1 hx _ => ?_) (.crowd (isItem_nil he) isItem_same fun hx => ?_)
    · subst hx; exact .one _ y
    · exact Sim.mono (s := 1 + 1) ((sim_item he (by omega) (by omega)).bind fun a x1 _ hl => sim_itemsL he n m _ x1 (by omega) (by omega)) (by omega)
theorem sim_paramsL {e : Tok} {t : List Tok} (he : e.tk = tkEnd) : ∀ (n m : Nat) ps (x : List Tok), x.length < n → x.length < m → Sim false 0 e t x (paramsL n ps (x ++ [e])) (paramsL m ps (x ++ t))
  | 0, m, ps, x, h1, h2 => by omega
  | n + 1, m, ps, x, h1, h2 => by
    obtain ⟨m, rfl⟩ : ∃ k, m = k + 1 := ⟨m - 1, by omega⟩
    rw [paramsL, paramsL]
    refine .isT he (by decide) (fun y x1 hx _ => ?_) (.ok ps)
    subst hx
    simp only [List.length_cons] at h1 h2
    refine Sim.mono (s := 0 + (0 + (1 + 0)) + 1) (Sim.step (x := x1) ?_) (by omega)
    by_cases hx1 : x1 = []
    · subst hx1
      refine .inl ?_
      show (expectP (isName ([] ++ [e])) ([] ++ [e])).bind _ = _
      rw [List.nil_append, isName_end he]; rfl
    · have h0 := isName_same (e := e) (t := t) hx1
      show Sim _ _ _ _ _ ((expectP (isName (x1 ++ [e])) (x1 ++ [e])).bind _) ((expectP (isName (x1 ++ t)) (x1 ++ t)).bind _)
      rw [h0]
      cases isName (x1 ++ [e])
      · exact .bad4 _ _
      · show Sim _ _ _ _ _ ((roomP ps.length (x1 ++ [e])).bind _) ((roomP ps.length (x1 ++ t)).bind _)
        exact Sim.mono (s := 0 + (1 + 0)) ((sim_room ps.length hx1).bind fun _ x2 _ hl2 => (sim_name he).bind fun a x3 _ hl3 => sim_paramsL he n m _ x3 (by omega) (by omega)) (by omega)
theorem sim_optP {e : Tok} {t : List Tok} (he : e.tk = tkEnd) {n m : Nat} {x : List Tok} (h1 : x.length < n) (h2 : x.length < m) : Sim false 0 e t x (optP n (x ++ [e])) (optP m (x ++ t)) := by
  unfold optP
  refine .isT he (by decide) (fun y x1 hx _ => ?_) (.ok _)
  subst hx
  simp only [List.length_cons] at h1 h2
  unfold paramsP
  exact Sim.mono (s := 1 + (0 + 1) + 1) (Sim.step (x := x1) ((sim_name he).bind fun s x2 _ hl2 => (sim_paramsL he n m _ x2 (by omega) (by omega)).bind fun ps x3 _ hl3 => Sim.bindOk (fun _ => ps) (sim_need he (by decide)))).weak (by omega)
theorem sim_struct {e : Tok} {t : List Tok} (he : e.tk = tkEnd) {n m : Nat} {x : List Tok} (h1 : 8 * x.length + 2 ≤ n) (h2 : 8 * x.length + 2 ≤ m) : Sim true 1 e t x (structP n (x ++ [e])) (structP m (x ++ t)) := by
  unfold structP
  exact Sim.mono (s := 1 + (1 + (0 + (1 + 1)))) ((sim_need he (by decide)).bind fun _ x1 _ hl1 => (sim_name he).bind fun s x2 _ hl2 => (sim_optP he (by omega) (by omega)).bind fun ps x3 _ hl3 => (sim_need he (by decide)).bind fun _ x4 _ hl4 => Sim.bindOk _ (sim_itemsL he n m _ x4 (by omega) (by omega))) (by omega)
theorem sim_const {e : Tok} {t : List Tok} (he : e.tk = tkEnd) {x : List Tok} : Sim true 1 e t x (constP (x ++ [e])) (constP (x ++ t)) := by
  unfold constP
  exact Sim.mono (s := 1 + (1 + (1 + (1 + 1)))) ((sim_need he (by decide)).bind fun _ x1 _ _ => (sim_name he).bind fun s x2 _ _ => (sim_need he (by decide)).bind fun _ x3 _ _ => (sim_num he).bind fun v x4 _ _ => Sim.bindOk _ (sim_need he (by decide))) (by omega)
/-- A file that is cut fails at the End, or is one, or fails as it did. -/
theorem sim_file {e : Tok} {t : List Tok} (he : e.tk = tkEnd) : ∀ (n m : Nat) cs ss (x : List Tok), (∀ y ∈ x, y.tk.k ≠ 3) → 8 * x.length + 3 ≤ n → 8 * x.length + 3 ≤ m →
    fileL n cs ss (x ++ [e]) = .bad [e] 4 ∨ (∃ a, fileL n cs ss (x ++ [e]) = .ok a [e]) ∨ ∃ l k, fileL m cs ss (x ++ t) = .bad l k
  | 0, m, cs, ss, x, hk, h1, h2 => by omega
  | n + 1, m, cs, ss, x, hk, h1, h2 => by
    obtain ⟨m, rfl⟩ : ∃ k, m = k + 1 := ⟨m - 1, by omega⟩
    by_cases hx : x = []
    · subst hx
      refine .inr (.inl ⟨(cs, ss), ?_⟩)
      rw [fileL, if_pos (by rw [List.nil_append, hd_cons, he]; rfl)]; rfl
    obtain ⟨y, x1, rfl⟩ : ∃ y x1, x = y :: x1 := by
      cases x with
      | nil => exact absurd rfl hx
      | cons y x1 => exact ⟨y, x1, rfl⟩
    have k1 : (hd ((y :: x1) ++ [e])).tk.k ≠ 3 := hk y (by simp)
    have k2 : (hd ((y :: x1) ++ t)).tk.k ≠ 3 := hk y (by simp)
    have c1 : ∀ g, isT g ((y :: x1) ++ t) = isT g ((y :: x1) ++ [e]) := fun g => rfl
    rw [fileL, if_neg k1]
    rw [fileL, if_neg k2, c1 kConst, c1 kStruct]
    split
    · by_cases h64 : 64 ≤ cs.length
      · rw [roomP, if_pos h64, roomP, if_pos h64]; exact .inr (.inr ⟨_, _, rfl⟩)
      · rw [roomP, if_neg h64, roomP, if_neg h64, PR.bind_ok, PR.bind_ok]
        rcases sim_const (t := t) he (x := y :: x1) with h | ⟨h, _⟩ | ⟨_, ⟨a, x', hr, hr', hs, hl, _⟩ | ⟨x', k, _, _, hr'⟩⟩
        · rw [h]; exact .inl rfl
        · cases h
        · rw [hr, hr', PR.bind_ok, PR.bind_ok]
          exact sim_file he n m _ _ x' (fun z hz => hk z (hs.subset hz)) (by omega) (by omega)
        · rw [hr']; exact .inr (.inr ⟨_, _, rfl⟩)
    split
    · by_cases h64 : 64 ≤ ss.length
      · rw [roomP, if_pos h64, roomP, if_pos h64]; exact .inr (.inr ⟨_, _, rfl⟩)
      · rw [roomP, if_neg h64, roomP, if_neg h64, PR.bind_ok, PR.bind_ok]
        rcases sim_struct (t := t) he (n := n) (m := m) (x := y :: x1) (by omega) (by omega) with h | ⟨h, _⟩ | ⟨_, ⟨a, x', hr, hr', hs, hl, _⟩ | ⟨x', k, _, _, hr'⟩⟩
        · rw [h]; exact .inl rfl
        · cases h
        · rw [hr, hr', PR.bind_ok, PR.bind_ok]
          exact sim_file he n m _ _ x' (fun z hz => hk z (hs.subset hz)) (by omega) (by omega)
        · rw [hr']; exact .inr (.inr ⟨_, _, rfl⟩)
    · exact .inr (.inr ⟨_, _, rfl⟩)
/-- A file, and others behind it. -/
theorem file_join {e : Tok} {t : List Tok} (he : e.tk = tkEnd) : ∀ (n m : Nat) cs0 ss0 cs1 ss1 (x : List Tok) C S l', (∀ y ∈ x, y.tk.k ≠ 3) → 8 * x.length + 3 ≤ n → 8 * x.length + 3 ≤ m → fileL n cs0 ss0 (x ++ [e]) = .ok (C, S) l' → cs1.length ≤ 64 → ss1.length ≤ 64 →
    ∃ cs ss, C = cs0 ++ cs ∧ S = ss0 ++ ss ∧ ((cs1.length + cs.length ≤ 64 ∧ ss1.length + ss.length ≤ 64 ∧ ∃ m', m ≤ m' + x.length ∧ fileL m cs1 ss1 (x ++ t) = fileL m' (cs1 ++ cs) (ss1 ++ ss) t) ∨
      ((64 < cs1.length + cs.length ∨ 64 < ss1.length + ss.length) ∧ ∃ l, fileL m cs1 ss1 (x ++ t) = .bad l 10))
  | 0, m, cs0, ss0, cs1, ss1, x, C, S, l', hk, h1, h2, h, hc, hs => by omega
  | n + 1, m, cs0, ss0, cs1, ss1, x, C, S, l', hk, h1, h2, h, hc, hs => by
    by_cases hx : x = []
    · subst hx
      rw [fileL, if_pos (by rw [List.nil_append, hd_cons, he]; rfl)] at h
      cases h
      exact ⟨[], [], by simp, by simp, .inl ⟨by simpa using hc, by simpa using hs, m, by simp, by simp⟩⟩
    obtain ⟨m, rfl⟩ : ∃ k, m = k + 1 := ⟨m - 1, by omega⟩
    obtain ⟨y, x1, rfl⟩ : ∃ y x1, x = y :: x1 := by
      cases x with
      | nil => exact absurd rfl hx
      | cons y x1 => exact ⟨y, x1, rfl⟩
    have k1 : (hd ((y :: x1) ++ [e])).tk.k ≠ 3 := hk y (by simp)
    have k2 : (hd ((y :: x1) ++ t)).tk.k ≠ 3 := hk y (by simp)
    have c1 : ∀ g, isT g ((y :: x1) ++ t) = isT g ((y :: x1) ++ [e]) := fun g => rfl
    rw [fileL, if_neg k1] at h
    rw [fileL, if_neg k2, c1 kConst, c1 kStruct]
    split at h
    · rename_i hq
      rw [if_pos hq]
      by_cases h64 : 64 ≤ cs0.length
      · rw [roomP, if_pos h64] at h; cases h
      rw [roomP, if_neg h64, PR.bind_ok] at h
      rcases sim_const (t := t) he (x := y :: x1) with h' | ⟨h', _⟩ | ⟨_, ⟨a, x', hr, hr', hsf, hl, _⟩ | ⟨x', k, _, hr, _⟩⟩
      · rw [h'] at h; cases h
      · cases h'
      · rw [hr, PR.bind_ok] at h
        by_cases h65 : 64 ≤ cs1.length
        · obtain ⟨cs, ss, e1, e2, _⟩ := file_join (t := t) he n m _ _ cs1 ss1 x' C S l' (fun z hz => hk z (hsf.subset hz)) (by omega) (by omega) h hc hs
          refine ⟨a :: cs, ss, by rw [e1]; simp, e2, .inr ⟨.inl (by simp only [List.length_cons]; omega), _, by rw [roomP, if_pos h65]; rfl⟩⟩
        · obtain ⟨cs, ss, e1, e2, h3⟩ := file_join (t := t) he n m _ _ (cs1 ++ [a]) ss1 x' C S l' (fun z hz => hk z (hsf.subset hz)) (by omega) (by omega) h (by rw [List.length_append, List.length_singleton]; omega) hs
          rw [List.length_append, List.length_singleton] at h3
          refine ⟨a :: cs, ss, by rw [e1]; simp, e2, ?_⟩
          rw [roomP, if_neg h65, PR.bind_ok, hr', PR.bind_ok]
          rcases h3 with ⟨q1, q2, m', q3, q4⟩ | ⟨q1, l, q2⟩
          · exact .inl ⟨by simp only [List.length_cons]; omega, q2, m', by simp only [List.length_cons] at hl ⊢; omega, by rw [q4]; simp⟩
          · exact .inr ⟨by simp only [List.length_cons]; omega, l, q2⟩
      · rw [hr] at h; cases h
    · rename_i hq
      rw [if_neg hq]
      split at h
      · rename_i hq2
        rw [if_pos hq2]
        by_cases h64 : 64 ≤ ss0.length
        · rw [roomP, if_pos h64] at h; cases h
        rw [roomP, if_neg h64, PR.bind_ok] at h
        rcases sim_struct (t := t) he (n := n) (m := m) (x := y :: x1) (by omega) (by omega) with h' | ⟨h', _⟩ | ⟨_, ⟨a, x', hr, hr', hsf, hl, _⟩ | ⟨x', k, _, hr, _⟩⟩
        · rw [h'] at h; cases h
        · cases h'
        · rw [hr, PR.bind_ok] at h
          by_cases h65 : 64 ≤ ss1.length
          · obtain ⟨cs, ss, e1, e2, _⟩ := file_join (t := t) he n m _ _ cs1 ss1 x' C S l' (fun z hz => hk z (hsf.subset hz)) (by omega) (by omega) h hc hs
            refine ⟨cs, a :: ss, e1, by rw [e2]; simp, .inr ⟨.inr (by simp only [List.length_cons]; omega), _, by rw [roomP, if_pos h65]; rfl⟩⟩
          · obtain ⟨cs, ss, e1, e2, h3⟩ := file_join (t := t) he n m _ _ cs1 (ss1 ++ [a]) x' C S l' (fun z hz => hk z (hsf.subset hz)) (by omega) (by omega) h hc (by rw [List.length_append, List.length_singleton]; omega)
            rw [List.length_append, List.length_singleton] at h3
            refine ⟨cs, a :: ss, e1, by rw [e2]; simp, ?_⟩
            rw [roomP, if_neg h65, PR.bind_ok, hr', PR.bind_ok]
            rcases h3 with ⟨q1, q2, m', q3, q4⟩ | ⟨q1, l, q2⟩
            · exact .inl ⟨q1, by simp only [List.length_cons]; omega, m', by simp only [List.length_cons] at hl ⊢; omega, by rw [q4]; simp⟩
            · exact .inr ⟨by simp only [List.length_cons]; omega, l, q2⟩
        · rw [hr] at h; cases h
      · cases h
end Go.Proofs.YtcdbdfhikbfbpaaGreatDoor
