/- Layer 6, the mathematics of the laws: so many letters, so many digits. No program. · Layer 6, the mathematics of the laws: how texts are joined. No program. · Layer 6, the mathematics of the law on joining: what is joined is read as these tokens again. No program. -/
import Derived.Test.YtcdbdfhikbfbpaaGreatDoorLexQ
import Derived.Test.YtcdbdfhikbfbpaaGreatDoorLexM
namespace Go.Proofs.YtcdbdfhikbfbpaaGreatDoor
set_option linter.unusedVariables false

theorem isW_bare {c : UInt8} (h : isW c = true) : isB c = false ∧ c ≠ 47 := by
  constructor
  · apply Classical.byContradiction
    intro hb
    have hm : c ∈ ([32, 9, 10, 13] : List UInt8) := List.contains_iff_mem.1 (by simpa only [isB, Bool.not_eq_false] using hb)
    simp only [List.mem_cons, List.mem_nil_iff, or_false] at hm
    rcases hm with rfl | rfl | rfl | rfl <;> exact absurd h (by decide)
  · rintro rfl
    exact absurd h (by decide)
theorem rep_lex (k : Nat) (c : UInt8) (h : isW c = true) (h1 : 1 ≤ k) (h2 : k ≤ 40) :
    lexL (32 :: List.replicate k c) = if (wnL (List.replicate k c)).2 ≠ 0 then .bad (1, 2) (wnL (List.replicate k c)).2
      else .ok [⟨(wnL (List.replicate k c)).1, (1, 2)⟩, ⟨tkEnd, posL (1, 2) (List.replicate k c)⟩] := by
  have hne : List.replicate k c ≠ [] := fun e => by have := congrArg List.length e; rw [List.length_replicate] at this; simp at this; omega
  have hrun : runL (List.replicate k c) = List.replicate k c := by unfold runL; rw [List.takeWhile_replicate, if_pos h]
  have hf : firstL (List.replicate k c) = wnL (List.replicate k c) := by
    unfold firstL
    rw [if_neg hne, hrun, if_pos hne]
  have hb : Bare (List.replicate k c) := by
    obtain ⟨m, rfl⟩ : ∃ m, k = m + 1 := ⟨k - 1, by omega⟩
    rw [List.replicate_succ]
    exact bare_cons (isW_bare h).1 fun e => (isW_bare h).2 e.1
  unfold lexL
  rw [if_neg (by rw [List.length_cons, List.length_replicate]; omega), lexG_blank (by decide), show stp (1, 1) 32 = (1, 2) from rfl, lexG_token hb, hf]
  by_cases he : (wnL (List.replicate k c)).2 ≠ 0
  · rw [if_pos he, if_pos he]
  · have he0 : (wnL (List.replicate k c)).2 = 0 := by simpa using he
    obtain ⟨ht, h3⟩ := wnL_cases _ he0
    rw [if_neg he, if_neg he, if_neg h3, ht, List.drop_length, lexG_nil]
    rfl
theorem letters_wn (k : Nat) (h1 : 1 ≤ k) : wnL (List.replicate k 120) = if 32 < k then (tk0, 7) else (⟨0, List.replicate k 120, 0⟩, 0) := by
  obtain ⟨m, rfl⟩ : ∃ m, k = m + 1 := ⟨k - 1, by omega⟩
  unfold wnL
  rw [if_neg (by rw [List.replicate_succ, List.headD_cons]; decide), List.length_replicate]
def dC (d : Nat) : UInt8 := UInt8.ofNat (49 + d)
def vR (d k : Nat) : Nat := valA 10 0 (List.replicate k (dC d))
theorem digits_one : ∀ d < 9, isW (dC d) = true ∧ isD (dC d) = true ∧ (dC d).toNat = 49 + d ∧ dv (dC d) = 1 + d ∧ dC d ≠ 48 := by decide
theorem digits_wn (d k : Nat) (hd : d < 9) (h1 : 1 ≤ k) : wnL (List.replicate k (dC d)) = if 18446744073709551616 ≤ vR d k then (tk0, 5) else (⟨1, List.replicate k (dC d), vR d k⟩, 0) := by
  obtain ⟨hw, hD, -, -, h48⟩ := digits_one d hd
  have hne : List.replicate k (dC d) ≠ [] := fun e => by have := congrArg List.length e; rw [List.length_replicate] at this; simp at this; omega
  obtain ⟨m, rfl⟩ : ∃ m, k = m + 1 := ⟨k - 1, by omega⟩
  have hn : numberL (List.replicate (m + 1) (dC d)) = if 18446744073709551616 ≤ vR d (m + 1) then (0, 5) else (vR d (m + 1), 0) := by
    unfold numberL
    have hp : ([48, 120] : List UInt8).isPrefixOf (List.replicate (m + 1) (dC d)) = false := by
      have : (48 == dC d) = false := by simpa using fun e => h48 e.symm
      rw [List.replicate_succ, List.isPrefixOf, this, Bool.false_and]
    rw [if_neg (by rw [hp]; decide)]
    unfold numB
    rw [if_neg (by
      rintro (e | e)
      · exact hne e
      · have : (List.replicate (m + 1) (dC d)).all isD = true := List.all_eq_true.2 fun x hx => by rw [(List.mem_replicate.1 hx).2]; exact hD
        rw [this] at e; cases e)]
    rfl
  unfold wnL
  rw [if_pos (by rw [List.replicate_succ, List.headD_cons]; exact hD), hn]
  by_cases h : 18446744073709551616 ≤ vR d (m + 1)
  · rw [if_pos h, if_pos h, if_neg (by decide)]
  · rw [if_neg h, if_neg h, if_pos rfl]
theorem valA_append (b : Nat) : ∀ (l r : List UInt8) (n : Nat), valA b n (l ++ r) = valA b (valA b n l) r
  | [], _, _ => rfl
  | c :: l, r, n => valA_append b l r _
theorem vR_zero (d : Nat) : vR d 0 = 0 := rfl
theorem vR_succ (d k : Nat) (hd : d < 9) : vR d (k + 1) = 10 * vR d k + (1 + d) := by
  unfold vR
  rw [List.replicate_succ', valA_append]
  show valA 10 0 (List.replicate k (dC d)) * 10 + dv (dC d) = _
  rw [(digits_one d hd).2.2.2.1, Nat.mul_comm]
theorem vR_le (d k : Nat) (hd : d < 9) : ∀ j, vR d k ≤ vR d (k + j)
  | 0 => Nat.le_refl _
  | j + 1 => by have := vR_le d k hd j; rw [show k + (j + 1) = (k + j) + 1 from rfl, vR_succ d _ hd]; omega
theorem digits_dec : ∀ k < 41, ∀ d < 9, (vR d k < 18446744073709551616 → k ≤ 20) ∧ (18446744073709551616 ≤ vR d k → 20 ≤ k) := by decide +kernel
end Go.Proofs.YtcdbdfhikbfbpaaGreatDoor
namespace Go.Proofs.YtcdbdfhikbfbpaaGreatDoor
set_option linter.unusedVariables false

theorem textsL_cons (t : Tok) (r : List Tok) : textsL (t :: r) = if t.tk.k = 3 then textsL r else t.tk.t :: textsL r := by
  by_cases h : t.tk.k = 3 <;> simp [textsL, h]
theorem joinR_aux : ∀ (l : List Tok), (∀ t ∈ l, t.tk.k ≠ 3 → t.tk.t ≠ []) → ∀ a : List UInt8, l.foldl jstep a = if a = [] then joinL l else a ++ Lib.joinTail [32] (textsL l)
  | [], _, a => by
    by_cases h : a = []
    · subst h; rfl
    · rw [if_neg h]; simp [textsL, Lib.joinTail]
  | t :: r, H, a => by
    rw [List.foldl_cons, joinR_aux r (fun x hx => H x (List.mem_cons_of_mem _ hx))]
    unfold jstep joinL
    rw [textsL_cons]
    by_cases h3 : t.tk.k = 3
    · rw [if_pos h3, if_pos h3]
    · have hne := H t List.mem_cons_self h3
      rw [if_neg h3, if_neg h3]
      by_cases ha : a = []
      · subst ha
        rw [if_pos rfl, List.nil_append, if_neg hne, if_pos rfl, Lib.join_cons]
      · rw [if_neg ha, if_neg (by simp), if_neg ha]
        simp [Lib.joinTail]
theorem joinR_eq {l : List Tok} (H : ∀ t ∈ l, t.tk.k ≠ 3 → t.tk.t ≠ []) : joinR l = joinL l := by
  unfold joinR
  rw [joinR_aux l H []]
  exact if_pos rfl
theorem tail_len : ∀ l : List Tok, (Lib.joinTail [32] (textsL l)).length ≤ sumL l + l.length
  | [] => by simp [textsL, Lib.joinTail]
  | t :: r => by
    have := tail_len r
    rw [textsL_cons]
    split
    · simp only [sumL, List.length_cons]; omega
    · simp only [Lib.joinTail, List.map_cons, List.flatten_cons, List.length_append, List.length_cons, List.length_nil, sumL] at this ⊢
      omega
theorem join_len : ∀ l : List Tok, (joinL l).length ≤ sumL l + l.length
  | [] => by simp [joinL, textsL, Lib.join_nil]
  | t :: r => by
    have h1 := join_len r
    have h2 := tail_len r
    unfold joinL at h1 ⊢
    rw [textsL_cons]
    split
    · simp only [sumL, List.length_cons]; omega
    · rw [Lib.join_cons, List.length_append]
      simp only [sumL, List.length_cons]
      omega
end Go.Proofs.YtcdbdfhikbfbpaaGreatDoor
namespace Go.Proofs.YtcdbdfhikbfbpaaGreatDoor
set_option linter.unusedVariables false

/-- The token's text is read as this token, whatever blank follows. -/
def GoodV (V : Tk) : Prop := V.k ≠ 3 ∧ ∀ rest, (rest = [] ∨ ∃ r, rest = 32 :: r) → firstL (V.t ++ rest) = (V, 0) ∧ Bare (V.t ++ rest)
theorem run_rest {R rest : List UInt8} (hR : ∀ x ∈ R, isW x = true) (h : rest = [] ∨ ∃ r, rest = 32 :: r) : runL (R ++ rest) = R := by
  unfold runL
  rw [List.takeWhile_append_of_pos hR]
  rcases h with rfl | ⟨r, rfl⟩
  · simp
  · rw [List.takeWhile_cons, if_neg (by decide), List.append_nil]
theorem wnL_t {r : List UInt8} (h : (wnL r).2 = 0) : (wnL r).1.t = r := (wnL_cases r h).1
theorem good_run {R : List UInt8} (h1 : R ≠ []) (h2 : ∀ x ∈ R, isW x = true) (h3 : (wnL R).2 = 0) : GoodV (wnL R).1 := by
  refine ⟨(wnL_cases R h3).2, fun rest hr => ?_⟩
  rw [wnL_t h3]
  constructor
  · have hne : R ++ rest ≠ [] := by simp [h1]
    unfold firstL
    rw [if_neg hne, run_rest h2 hr, if_pos h1]
    exact Prod.ext rfl h3
  · cases R with
    | nil => exact absurd rfl h1
    | cons c r =>
      have := isW_bare (h2 c List.mem_cons_self)
      exact bare_cons this.1 fun e => this.2 e.1
theorem sign_rest (g : List UInt8) (hg : g ∈ sgs) (rest : List UInt8) (h : rest = [] ∨ ∃ r, rest = 32 :: r) : signL (g ++ rest) = g ∧ runL (g ++ rest) = [] ∧ Bare (g ++ rest) := by
  simp only [sgs, List.mem_cons, List.mem_nil_iff, or_false] at hg
  rcases h with rfl | ⟨r, rfl⟩
  · rcases hg with rfl | rfl | rfl | rfl | rfl | rfl | rfl | rfl | rfl | rfl | rfl | rfl | rfl | rfl | rfl | rfl | rfl | rfl | rfl | rfl | rfl | rfl | rfl | rfl | rfl | rfl | rfl | rfl | rfl <;> exact ⟨rfl, rfl, rfl⟩
  · rcases hg with rfl | rfl | rfl | rfl | rfl | rfl | rfl | rfl | rfl | rfl | rfl | rfl | rfl | rfl | rfl | rfl | rfl | rfl | rfl | rfl | rfl | rfl | rfl | rfl | rfl | rfl | rfl | rfl | rfl <;> exact ⟨rfl, rfl, rfl⟩
theorem good_sign {g : List UInt8} (hg : g ∈ sgs) (h1 : g ≠ []) : GoodV ⟨2, g, 0⟩ := by
  refine ⟨(by decide : (2 : Nat) ≠ 3), fun rest hr => ?_⟩
  obtain ⟨e1, e2, e3⟩ := sign_rest g hg rest hr
  refine ⟨?_, e3⟩
  unfold firstL
  rw [if_neg (by simp [h1]), e2, if_neg (fun e => e rfl), e1, if_neg h1]
theorem good_first {l : List UInt8} (hl : l ≠ []) (h : (firstL l).2 = 0) : GoodV (firstL l).1 := by
  unfold firstL at h ⊢
  rw [if_neg hl] at h ⊢
  by_cases hr : runL l ≠ []
  · rw [if_pos hr] at h ⊢
    exact good_run hr (fun x hx => by have := List.all_takeWhile (p := isW) (l := l); exact List.all_eq_true.1 this x hx) h
  · rw [if_neg hr] at h ⊢
    by_cases hs : signL l = []
    · rw [if_pos hs] at h; simp at h
    · rw [if_neg hs]
      rcases signF_mem sgs l with e | ⟨e, _⟩
      · exact absurd e hs
      · exact good_sign e hs
/-- The tokens of a text: good ones, and the End. -/
theorem lexG_good : ∀ (n : Nat) (b : Bool) (p : Ps) (l : List UInt8) (ts : List Tok), l.length ≤ n → lexG b p l = .ok ts → ∃ Vs, ts.map (·.tk) = Vs ++ [tkEnd] ∧ ∀ V ∈ Vs, GoodV V := by
  intro n
  induction n with
  | zero =>
    intro b p l ts hl h
    obtain rfl : l = [] := List.eq_nil_of_length_eq_zero (by omega)
    rw [lexG_nil] at h
    cases h
    exact ⟨[], rfl, by simp⟩
  | succ n ih =>
    intro b p l ts hl h
    rw [lexG_eq] at h
    by_cases he : (firstL (skipM b l)).2 ≠ 0
    · rw [if_pos he] at h; cases h
    · rw [if_neg he] at h
      have he0 : (firstL (skipM b l)).2 = 0 := by simpa using he
      by_cases h3 : (firstL (skipM b l)).1.k = 3
      · rw [if_pos h3] at h
        have := firstL_three he0 h3
        rw [this] at h
        cases h
        exact ⟨[], rfl, by simp⟩
      · rw [if_neg h3] at h
        have hne : skipM b l ≠ [] := fun e => h3 (by rw [e]; rfl)
        have hd := drop_lt he0 hne
        have hs := skipM_len b l
        obtain ⟨u, hu, rfl⟩ := LR.cons_ok h
        obtain ⟨Vs, i1, i2⟩ := ih _ _ _ u (by omega) hu
        refine ⟨(firstL (skipM b l)).1 :: Vs, by rw [List.map_cons, i1]; rfl, ?_⟩
        intro V hV
        rcases List.mem_cons.1 hV with rfl | hV
        · exact good_first hne he0
        · exact i2 V hV
theorem good_tail : ∀ (Vs : List Tk), (∀ V ∈ Vs, GoodV V) → ∀ p, ∃ us, lexG false p (Lib.joinTail [32] (Vs.map (·.t))) = .ok us ∧ us.map (·.tk) = Vs ++ [tkEnd]
  | [], _, p => ⟨[⟨tkEnd, p⟩], by rw [show Lib.joinTail [32] (([] : List Tk).map (·.t)) = [] from rfl, lexG_nil], rfl⟩
  | V :: Vs, H, p => by
    obtain ⟨g1, g2⟩ := H V List.mem_cons_self
    have e : Lib.joinTail [32] ((V :: Vs).map (·.t)) = 32 :: (V.t ++ Lib.joinTail [32] (Vs.map (·.t))) := by simp [Lib.joinTail]
    have hr : Lib.joinTail [32] (Vs.map (·.t)) = [] ∨ ∃ r, Lib.joinTail [32] (Vs.map (·.t)) = 32 :: r := by
      cases Vs with
      | nil => exact .inl rfl
      | cons a r => exact .inr ⟨_, by simp [Lib.joinTail]; rfl⟩
    obtain ⟨f1, f2⟩ := g2 _ hr
    obtain ⟨us, i1, i2⟩ := good_tail Vs (fun x hx => H x (List.mem_cons_of_mem _ hx)) (posL (stp p 32) V.t)
    refine ⟨⟨V, stp p 32⟩ :: us, ?_, by rw [List.map_cons, i2]; rfl⟩
    rw [e, lexG_blank (by decide), lexG_token f2, f1]
    simp only [ne_eq, not_true_eq_false, if_false, if_neg g1, List.drop_left, i1]
    rfl
theorem textsL_map (l : List Tok) : textsL l = ((l.map (·.tk)).filter (fun v => decide (v.k ≠ 3))).map (·.t) := by
  unfold textsL
  rw [List.filter_map, List.map_map]
  rfl
theorem lexL_back {s : List UInt8} {ts : List Tok} (h : lexL s = .ok ts) : if 16384 < (joinL ts).length then lexL (joinL ts) = .bad (1, 1) 7 else ∃ us, lexL (joinL ts) = .ok us ∧ us.map (·.tk) = ts.map (·.tk) := by
  by_cases hlen : 16384 < (joinL ts).length
  · rw [if_pos hlen]
    unfold lexL
    rw [if_pos hlen]
  · rw [if_neg hlen]
    unfold lexL at h
    split at h
    · cases h
    · obtain ⟨Vs, e1, e2⟩ := lexG_good _ _ _ s ts (Nat.le_refl _) h
      have et : textsL ts = Vs.map (·.t) := by
        rw [textsL_map, e1, List.filter_append, List.filter_eq_self.2 (fun V hV => by simpa using (e2 V hV).1)]
        simp [tkEnd]
      have ej : joinL ts = Lib.join (Vs.map (·.t)) [32] := by unfold joinL; rw [et]
      rw [e1]
      unfold lexL
      rw [if_neg hlen, ej]
      cases Vs with
      | nil => exact ⟨[⟨tkEnd, (1, 1)⟩], by rw [show Lib.join (([] : List Tk).map (·.t)) [32] = [] from rfl, lexG_nil], rfl⟩
      | cons V Vs =>
        obtain ⟨g1, g2⟩ := e2 V List.mem_cons_self
        have hr : Lib.joinTail [32] (Vs.map (·.t)) = [] ∨ ∃ r, Lib.joinTail [32] (Vs.map (·.t)) = 32 :: r := by
          cases Vs with
          | nil => exact .inl rfl
          | cons a r => exact .inr ⟨_, by simp [Lib.joinTail]; rfl⟩
        obtain ⟨f1, f2⟩ := g2 _ hr
        obtain ⟨us, i1, i2⟩ := good_tail Vs (fun x hx => e2 x (List.mem_cons_of_mem _ hx)) (posL (1, 1) V.t)
        refine ⟨⟨V, (1, 1)⟩ :: us, ?_, by rw [List.map_cons, i2]; rfl⟩
        rw [List.map_cons, Lib.join_cons, lexG_token f2, f1]
        simp only [ne_eq, not_true_eq_false, if_false, if_neg g1, List.drop_left, i1]
        rfl
end Go.Proofs.YtcdbdfhikbfbpaaGreatDoor
