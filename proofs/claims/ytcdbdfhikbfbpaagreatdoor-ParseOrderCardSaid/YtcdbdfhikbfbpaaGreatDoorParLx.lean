/- Layer 7, the mathematics: the tokens of two descriptions, one behind the other; where the End stands; beginnings. No program. -/
import Derived.Test.YtcdbdfhikbfbpaaGreatDoorLexV
import Derived.Test.YtcdbdfhikbfbpaaGreatDoorLexY
import Derived.Test.YtcdbdfhikbfbpaaGreatDoorParMp
namespace Go.Proofs.YtcdbdfhikbfbpaaGreatDoor
set_option linter.unusedVariables false

theorem sgs_form10 : ∀ g ∈ sgs, g.length = 1 ∨ (g.length = 2 ∧ g[1]? ≠ some 10) := by decide
theorem pre_app10 {g s y : List UInt8} (hg : g.length = 1 ∨ (g.length = 2 ∧ g[1]? ≠ some 10)) (hs : s ≠ []) : g.isPrefixOf (s ++ 10 :: y) = g.isPrefixOf s := by
  match g, s, hs with
  | [], _, _ => rfl
  | [a], c :: r, _ => simp [List.isPrefixOf]
  | [a, b], [c], _ =>
    have : b ≠ 10 := by
      rcases hg with h | ⟨_, h⟩
      · simp at h
      · simpa using h
    simp [List.isPrefixOf, this]
  | [a, b], c :: d :: r, _ => simp [List.isPrefixOf]
  | a :: b :: e :: f, _, _ => rcases hg with h | ⟨h, _⟩ <;> simp at h
theorem runL_app10 (s y : List UInt8) : runL (s ++ 10 :: y) = runL s := by
  unfold runL
  rw [List.takeWhile_append]
  split
  · rename_i h
    have : isW 10 = false := by decide
    rw [List.takeWhile_cons, if_neg (by rw [this]; decide), List.append_nil]
    exact ((List.takeWhile_prefix isW).eq_of_length h).symm
  · rfl
theorem firstL_app10 {s : List UInt8} (hs : s ≠ []) (y : List UInt8) : firstL (s ++ 10 :: y) = firstL s := by
  unfold firstL
  rw [if_neg (by simp), if_neg hs, runL_app10]
  have : signL (s ++ 10 :: y) = signL s := signF_congr sgs fun g hg => pre_app10 (sgs_form10 g hg) hs
  rw [this]
/-- The End stands behind the text; a line feed, and another text behind it. -/
theorem lexG_line (t : List UInt8) : ∀ (n : Nat) (b : Bool) (p : Ps) (s : List UInt8) (ts : List Tok), s.length ≤ n → lexG b p s = .ok ts →
    ∃ init, ts = init ++ [⟨tkEnd, posL p s⟩] ∧ lexG b p (s ++ 10 :: t) = LR.app init (lexG false (posL p (s ++ [10])) t) := by
  have hnil : ∀ b p ts, lexG b p [] = .ok ts → ∃ init, ts = init ++ [⟨tkEnd, posL p []⟩] ∧ lexG b p ([] ++ 10 :: t) = LR.app init (lexG false (posL p ([] ++ [10])) t) := by
    intro b p ts h
    rw [lexG_nil] at h
    cases h
    refine ⟨[], rfl, ?_⟩
    rw [List.nil_append, List.nil_append, LR.app_nil]
    cases b with
    | true => exact lexG_feed p
    | false => exact lexG_blank (by decide) p
  intro n
  induction n with
  | zero =>
    intro b p s ts hl h
    obtain rfl : s = [] := List.eq_nil_of_length_eq_zero (by omega)
    exact hnil b p ts h
  | succ n ih =>
    intro b p s ts hl h
    match b, s, hl, h with
    | b, [], _, h => exact hnil b p ts h
    | true, c :: r, hl, h =>
      rw [List.length_cons] at hl
      by_cases hc : c = 10
      · subst hc
        rw [lexG_feed] at h
        obtain ⟨init, h1, h2⟩ := ih false (stp p 10) r ts (by omega) h
        exact ⟨init, h1, by rw [List.cons_append, lexG_feed, h2]; rfl⟩
      · rw [lexG_comment hc] at h
        obtain ⟨init, h1, h2⟩ := ih true (stp p c) r ts (by omega) h
        exact ⟨init, h1, by rw [List.cons_append, lexG_comment hc, h2]; rfl⟩
    | false, c :: r, hl, h =>
      rw [List.length_cons] at hl
      by_cases hb : isB c = true
      · rw [lexG_blank hb] at h
        obtain ⟨init, h1, h2⟩ := ih false (stp p c) r ts (by omega) h
        exact ⟨init, h1, by rw [List.cons_append, lexG_blank hb, h2]; rfl⟩
      · by_cases hc : c = 47 ∧ r.head? = some 47
        · obtain ⟨rfl, hr⟩ := hc
          obtain ⟨r2, rfl⟩ : ∃ r2, r = 47 :: r2 := by
            cases r with
            | nil => cases hr
            | cons d r2 => simp only [List.head?_cons, Option.some.injEq] at hr; subst hr; exact ⟨r2, rfl⟩
          rw [lexG_open, lexG_comment (by decide)] at h
          obtain ⟨init, h1, h2⟩ := ih true (stp p 47) (47 :: r2) ts (by omega) h
          exact ⟨init, h1, by rw [List.cons_append, List.cons_append, lexG_open, lexG_comment (by decide), ← List.cons_append, h2]; rfl⟩
        · have hb' : isB c = false := by simpa using hb
          have hc' : ¬ (c = 47 ∧ (r ++ 10 :: t).head? = some 47) := by
            rintro ⟨e1, e2⟩
            cases r with
            | nil => simp at e2
            | cons d r => exact hc ⟨e1, by simpa using e2⟩
          have hne : c :: r ≠ [] := by simp
          rw [lexG_token (bare_cons hb' hc)] at h
          have hT := lexG_token (l := c :: r ++ 10 :: t) (bare_cons hb' hc') p
          rw [firstL_app10 hne] at hT
          by_cases he : (firstL (c :: r)).2 ≠ 0
          · rw [if_pos he] at h; cases h
          · rw [if_neg he] at h hT
            have he0 : (firstL (c :: r)).2 = 0 := by simpa using he
            obtain ⟨o1, o2, o3⟩ := firstL_ok he0 hne
            rw [if_neg o1] at h hT
            obtain ⟨u, hu, rfl⟩ := LR.cons_ok h
            have hp := o3.length_le
            have hz : (firstL (c :: r)).1.t.length ≠ 0 := by simpa using o2
            obtain ⟨init, h1, h2⟩ := ih false _ _ u (by rw [List.length_drop, List.length_cons]; omega) hu
            have hsplit : (firstL (c :: r)).1.t ++ (c :: r).drop (firstL (c :: r)).1.t.length = c :: r := pre_split o3
            refine ⟨⟨(firstL (c :: r)).1, p⟩ :: init, ?_, ?_⟩
            · rw [h1, ← posL_append, hsplit]; rfl
            · rw [hT, List.drop_append_of_le_length hp, h2, LR.cons_app, ← posL_append, ← List.append_assoc, hsplit]
theorem lexL_end {s : List UInt8} {ts : List Tok} (h : lexL s = .ok ts) : ∃ init, ts = init ++ [⟨tkEnd, posL (1, 1) s⟩] := by
  unfold lexL at h
  split at h
  · cases h
  · obtain ⟨init, h1, _⟩ := lexG_line [] _ false (1, 1) s ts (Nat.le_refl _) h
    exact ⟨init, h1⟩
/-- The tokens of two texts, one behind the other. -/
theorem lexL_lines {s t : List UInt8} {ts us : List Tok} (hs : s.length ≤ 8000) (ht : t.length ≤ 8000) (h : lexL s = .ok ts) (k : lexL t = .ok us) :
    ∃ init q us', ts = init ++ [⟨tkEnd, q⟩] ∧ lexL (s ++ 10 :: t) = .ok (init ++ us') ∧ us'.map (·.tk) = us.map (·.tk) := by
  unfold lexL at h k
  rw [if_neg (by omega)] at h k
  obtain ⟨init, h1, h2⟩ := lexG_line t _ false (1, 1) s ts (Nat.le_refl _) h
  refine ⟨init, _, us.map (shT (1 + (s.count 10))), h1, ?_, ?_⟩
  · have hp : posL (1, 1) (s ++ [10]) = shP (1 + s.count 10) (1, 1) := by
      have p1 := posL_count (s ++ 10 :: []) (1, 1)
      have p2 := posL_last s [] (1, 1) rfl
      have pc : (s ++ 10 :: []).count 10 = s.count 10 + 1 := by simp [List.count_append]
      rw [pc] at p1
      unfold shP
      refine Prod.ext ?_ ?_
      · rw [p1]; show 1 + _ = 1 + (1 + _); omega
      · rw [p2]; rfl
    unfold lexL
    rw [if_neg (by simp only [List.length_append, List.length_cons]; omega), h2, hp, lexG_sh _ _ _ _ _ (Nat.le_refl _), k]
    rfl
  · rw [List.map_map]; rfl
/-- No token bears a line feed. -/
theorem good_noline {V : Tk} (h : GoodV V) : V.t.count 10 = 0 := by
  obtain ⟨_, hf⟩ := h
  obtain ⟨h1, _⟩ := hf [] (.inl rfl)
  rw [List.append_nil] at h1
  by_cases hne : V.t = []
  · rw [hne]; rfl
  unfold firstL at h1
  rw [if_neg hne] at h1
  have hw : ∀ l : List UInt8, (∀ x ∈ l, isW x = true) → l.count 10 = 0 := by
    intro l hl
    rw [List.count_eq_zero]
    intro hm
    have := hl 10 hm
    revert this; decide
  split at h1
  · rename_i hr
    have ht : (wnL (runL V.t)).1.t = runL V.t := (wnL_cases _ (by rw [h1])).1
    rw [h1] at ht
    have ht' : V.t = runL V.t := ht
    rw [ht']
    exact hw _ fun x hx => List.all_eq_true.1 (List.all_takeWhile (p := isW) (l := V.t)) x hx
  · split at h1
    · simp only [Prod.mk.injEq] at h1; omega
    · simp only [Prod.mk.injEq, and_true] at h1
      have ht : V.t = signL V.t := (congrArg Tk.t h1).symm
      rcases signF_mem sgs V.t with h | ⟨h, _⟩
      · exact absurd (ht.trans h) hne
      · rw [ht]
        have : ∀ g ∈ sgs, g.count 10 = 0 := by decide
        exact this _ h
theorem tail_noline : ∀ (Vs : List Tk), (∀ V ∈ Vs, GoodV V) → (Lib.joinTail [32] (Vs.map (·.t))).count 10 = 0
  | [], _ => rfl
  | V :: Vs, H => by
    have e : Lib.joinTail [32] ((V :: Vs).map (·.t)) = 32 :: (V.t ++ Lib.joinTail [32] (Vs.map (·.t))) := by simp [Lib.joinTail]
    rw [e, List.count_cons, List.count_append, good_noline (H V List.mem_cons_self), tail_noline Vs fun x hx => H x (List.mem_cons_of_mem _ hx)]
    rfl
/-- A beginning of a description's tokens, joined. -/
theorem lexL_take {s : List UInt8} {ts : List Tok} (h : lexL s = .ok ts) (k : Nat) (hk : k < ts.length) : if 16384 < (joinL (ts.take k)).length then lexL (joinL (ts.take k)) = .bad (1, 1) 7 else
    ∃ us q, lexL (joinL (ts.take k)) = .ok (us ++ [⟨tkEnd, (1, (joinL (ts.take k)).length + 1)⟩]) ∧ us.map (·.tk) = (ts.take k).map (·.tk) ∧ ts = ts.take k ++ q ∧ ∀ y ∈ ts.take k, y.tk.k ≠ 3 := by
  by_cases hlen : 16384 < (joinL (ts.take k)).length
  · rw [if_pos hlen]
    unfold lexL
    rw [if_pos hlen]
  · rw [if_neg hlen]
    have hL := h
    unfold lexL at h
    split at h
    · cases h
    obtain ⟨Vs, e1, e2⟩ := lexG_good _ _ _ s ts (Nat.le_refl _) h
    have hVl : Vs.length + 1 = ts.length := by have := congrArg List.length e1; simpa using this.symm
    have e3 : (ts.take k).map (·.tk) = Vs.take k := by rw [List.map_take, e1, List.take_append_of_le_length (by omega)]
    have e4 : ∀ V ∈ Vs.take k, GoodV V := fun V hV => e2 V (List.mem_of_mem_take hV)
    have et : textsL (ts.take k) = (Vs.take k).map (·.t) := by
      rw [textsL_map, e3, List.filter_eq_self.2 (fun V hV => by simpa using (e4 V hV).1)]
    have ej : joinL (ts.take k) = Lib.join ((Vs.take k).map (·.t)) [32] := by unfold joinL; rw [et]
    have hy : ∀ y ∈ ts.take k, y.tk.k ≠ 3 := fun y hy => (e4 y.tk (by rw [← e3]; exact List.mem_map_of_mem hy)).1
    rw [e3]
    generalize Vs.take k = Us at ej e3 e4 et
    have hno : (joinL (ts.take k)).count 10 = 0 := by
      rw [ej]
      cases Us with
      | nil => rfl
      | cons V Us => rw [List.map_cons, Lib.join_cons, List.count_append, good_noline (e4 V List.mem_cons_self), tail_noline Us fun x hx => e4 x (List.mem_cons_of_mem _ hx)]
    have hok : ∃ us, lexL (joinL (ts.take k)) = .ok us ∧ us.map (·.tk) = Us ++ [tkEnd] := by
      unfold lexL
      rw [if_neg hlen, ej]
      cases Us with
      | nil => exact ⟨[⟨tkEnd, (1, 1)⟩], by rw [show Lib.join (([] : List Tk).map (·.t)) [32] = [] from rfl, lexG_nil], rfl⟩
      | cons V Vs =>
        obtain ⟨g1, g2⟩ := e4 V List.mem_cons_self
        have hr : Lib.joinTail [32] (Vs.map (·.t)) = [] ∨ ∃ r, Lib.joinTail [32] (Vs.map (·.t)) = 32 :: r := by
          cases Vs with
          | nil => exact .inl rfl
          | cons a r => exact .inr ⟨_, by simp [Lib.joinTail]; rfl⟩
        obtain ⟨f1, f2⟩ := g2 _ hr
        obtain ⟨us, i1, i2⟩ := good_tail Vs (fun x hx => e4 x (List.mem_cons_of_mem _ hx)) (posL (1, 1) V.t)
        refine ⟨⟨V, (1, 1)⟩ :: us, ?_, by rw [List.map_cons, i2]; rfl⟩
        rw [List.map_cons, Lib.join_cons, lexG_token f2, f1]
        simp only [ne_eq, not_true_eq_false, if_false, if_neg g1, List.drop_left, i1]
        rfl
    obtain ⟨us, h1, h2⟩ := hok
    obtain ⟨init, rfl⟩ := lexL_end h1
    rw [posL_no _ _ hno] at h1
    refine ⟨init, ts.drop k, ?_, ?_, (List.take_append_drop k ts).symm, hy⟩
    · rw [h1, Nat.add_comm 1]
    · rw [List.map_append] at h2
      exact (List.append_inj' h2 rfl).1
end Go.Proofs.YtcdbdfhikbfbpaaGreatDoor
