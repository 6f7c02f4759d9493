/- Layer 6, the mathematics of the laws: two texts with a comment between. No program. · Layer 6, the mathematics of the law on lines; what is left of the strings' words. No program. -/
import Derived.Test.YtcdbdfhikbfbpaaGreatDoorLexQ
import Derived.Test.YtcdbdfhikbfbpaaGreatDoorLexK
namespace Go.Proofs.YtcdbdfhikbfbpaaGreatDoor
set_option linter.unusedVariables false

/-! The places so many lines farther. -/
def shP (L : Nat) (p : Ps) : Ps := (p.1 + L, p.2)
def shT (L : Nat) (t : Tok) : Tok := ⟨t.tk, shP L t.p⟩
def LR.sh (L : Nat) : LR → LR
  | .ok l => .ok (l.map (shT L))
  | .bad p e => .bad (shP L p) e
theorem stp_sh (L : Nat) (p : Ps) (c : UInt8) : stp (shP L p) c = shP L (stp p c) := by
  unfold stp shP
  split
  · simp only [Prod.mk.injEq, and_true]; omega
  · rfl
theorem posL_sh (L : Nat) : ∀ (l : List UInt8) (p : Ps), posL (shP L p) l = shP L (posL p l)
  | [], p => rfl
  | c :: r, p => by
    show posL (stp (shP L p) c) r = _
    rw [stp_sh, posL_sh L r]
    rfl
theorem LR.sh_cons (L : Nat) (x : Tok) (r : LR) : (r.cons x).sh L = (r.sh L).cons (shT L x) := by cases r <;> rfl
theorem lexG_sh (L : Nat) : ∀ (n : Nat) (b : Bool) (p : Ps) (l : List UInt8), l.length ≤ n → lexG b (shP L p) l = (lexG b p l).sh L := by
  intro n
  induction n with
  | zero =>
    intro b p l hl
    obtain rfl : l = [] := List.eq_nil_of_length_eq_zero (by omega)
    rw [lexG_nil, lexG_nil]
    rfl
  | succ n ih =>
    intro b p l hl
    rw [lexG_eq b (shP L p), lexG_eq b p, posL_sh]
    by_cases he : (firstL (skipM b l)).2 ≠ 0
    · rw [if_pos he, if_pos he]; rfl
    · rw [if_neg he, if_neg he]
      by_cases h3 : (firstL (skipM b l)).1.k = 3
      · rw [if_pos h3, if_pos h3]; rfl
      · rw [if_neg h3, if_neg h3, LR.sh_cons, posL_sh]
        have hne : skipM b l ≠ [] := fun e => h3 (by rw [e]; rfl)
        have hd := drop_lt (by simpa using he) hne
        have hs := skipM_len b l
        rw [ih _ _ _ (by omega)]
        rfl

/-! What comes behind a text that does not end in a slash makes no difference to its tokens. -/
theorem sgs_form : ∀ g ∈ sgs, g.length = 1 ∨ (g.length = 2 ∧ g[1]? ≠ some 47) := by decide
theorem pre_app {g s y : List UInt8} (hg : g.length = 1 ∨ (g.length = 2 ∧ g[1]? ≠ some 47)) (hs : s ≠ []) : g.isPrefixOf (s ++ 47 :: y) = g.isPrefixOf s := by
  match g, s, hs with
  | [], _, _ => rfl
  | [a], c :: r, _ => simp [List.isPrefixOf]
  | [a, b], [c], _ =>
    have : b ≠ 47 := by
      rcases hg with h | ⟨_, h⟩
      · simp at h
      · simpa using h
    simp [List.isPrefixOf, this]
  | [a, b], c :: d :: r, _ => simp [List.isPrefixOf]
  | a :: b :: e :: f, _, _ => rcases hg with h | ⟨h, _⟩ <;> simp at h
theorem signF_congr {l l' : List UInt8} : ∀ gs : List (List UInt8), (∀ g ∈ gs, g.isPrefixOf l = g.isPrefixOf l') → signF gs l = signF gs l'
  | [], _ => rfl
  | g :: gs, h => by
    unfold signF
    rw [h g List.mem_cons_self, signF_congr gs fun x hx => h x (List.mem_cons_of_mem _ hx)]
theorem runL_app (s y : List UInt8) : runL (s ++ 47 :: y) = runL s := by
  unfold runL
  rw [List.takeWhile_append]
  split
  · rename_i h
    have : isW 47 = false := by decide
    rw [List.takeWhile_cons, if_neg (by rw [this]; decide), List.append_nil]
    exact ((List.takeWhile_prefix isW).eq_of_length h).symm
  · rfl
theorem firstL_app {s : List UInt8} (hs : s ≠ []) (y : List UInt8) : firstL (s ++ 47 :: y) = firstL s := by
  unfold firstL
  rw [if_neg (by simp), if_neg hs, runL_app]
  have : signL (s ++ 47 :: y) = signL s := signF_congr sgs fun g hg => pre_app (sgs_form g hg) hs
  rw [this]
theorem pre_split {a l : List UInt8} (h : a <+: l) : a ++ l.drop a.length = l := by
  obtain ⟨x, rfl⟩ := h
  rw [List.drop_left]
theorem note_skip : ∀ (n : List UInt8) (p : Ps) (t : List UInt8), n.count 10 = 0 → lexG true p (n ++ 10 :: t) = lexG false (posL p (n ++ [10])) t
  | [], p, t, _ => lexG_feed p
  | c :: r, p, t, h => by
    have hc : c ≠ 10 := fun e => by subst e; simp at h
    have hr : r.count 10 = 0 := by rw [List.count_cons] at h; omega
    rw [List.cons_append, lexG_comment hc, note_skip r _ t hr]
    rfl
theorem lexG_two (note t : List UInt8) (hn : note.count 10 = 0) : ∀ (n : Nat) (b : Bool) (p : Ps) (s : List UInt8) (ts : List Tok), s.length ≤ n → lexG b p s = .ok ts → s.getLast? ≠ some 47 →
    ∃ init q, ts = init ++ [⟨tkEnd, q⟩] ∧ lexG b p (s ++ 47 :: 47 :: (note ++ 10 :: t)) = LR.app init (lexG false (posL p (s ++ 47 :: 47 :: (note ++ [10]))) t) := by
  have hend : ∀ p, lexG true p (47 :: 47 :: (note ++ 10 :: t)) = lexG false (posL p (47 :: 47 :: (note ++ [10]))) t := fun p => by
    rw [lexG_comment (by decide), lexG_comment (by decide), note_skip note _ t hn]
    rfl
  have hnil : ∀ b p ts, lexG b p [] = .ok ts → ∃ init q, ts = init ++ [⟨tkEnd, q⟩] ∧ lexG b p ([] ++ 47 :: 47 :: (note ++ 10 :: t)) = LR.app init (lexG false (posL p ([] ++ 47 :: 47 :: (note ++ [10]))) t) := by
    intro b p ts h
    rw [lexG_nil] at h
    cases h
    refine ⟨[], p, rfl, ?_⟩
    rw [List.nil_append, List.nil_append, LR.app_nil]
    cases b with
    | true => exact hend p
    | false => rw [lexG_open]; exact hend p
  have hstep : ∀ {c : UInt8} {r : List UInt8}, (c :: r).getLast? ≠ some 47 → r.getLast? ≠ some 47 := by
    intro c r h
    cases r with
    | nil => simp
    | cons d r => rw [List.getLast?_cons_cons] at h; exact h
  intro n
  induction n with
  | zero =>
    intro b p s ts hl h hlast
    obtain rfl : s = [] := List.eq_nil_of_length_eq_zero (by omega)
    exact hnil b p ts h
  | succ n ih =>
    intro b p s ts hl h hlast
    match b, s, hl, h, hlast with
    | b, [], _, h, _ => exact hnil b p ts h
    | true, c :: r, hl, h, hlast =>
      rw [List.length_cons] at hl
      by_cases hc : c = 10
      · subst hc
        rw [lexG_feed] at h
        obtain ⟨init, q, h1, h2⟩ := ih false (stp p 10) r ts (by omega) h (hstep hlast)
        exact ⟨init, q, h1, by rw [List.cons_append, lexG_feed, h2]; rfl⟩
      · rw [lexG_comment hc] at h
        obtain ⟨init, q, h1, h2⟩ := ih true (stp p c) r ts (by omega) h (hstep hlast)
        exact ⟨init, q, h1, by rw [List.cons_append, lexG_comment hc, h2]; rfl⟩
    | false, c :: r, hl, h, hlast =>
      rw [List.length_cons] at hl
      by_cases hb : isB c = true
      · rw [lexG_blank hb] at h
        obtain ⟨init, q, h1, h2⟩ := ih false (stp p c) r ts (by omega) h (hstep hlast)
        exact ⟨init, q, h1, by rw [List.cons_append, lexG_blank hb, h2]; rfl⟩
      · by_cases hc : c = 47 ∧ r.head? = some 47
        · obtain ⟨rfl, hr⟩ := hc
          obtain ⟨r2, rfl⟩ : ∃ r2, r = 47 :: r2 := by
            cases r with
            | nil => cases hr
            | cons d r2 => simp only [List.head?_cons, Option.some.injEq] at hr; subst hr; exact ⟨r2, rfl⟩
          rw [lexG_open, lexG_comment (by decide)] at h
          obtain ⟨init, q, h1, h2⟩ := ih true (stp p 47) (47 :: r2) ts (by omega) h (hstep hlast)
          exact ⟨init, q, h1, by rw [List.cons_append, List.cons_append, lexG_open, lexG_comment (by decide), ← List.cons_append, h2]; rfl⟩
        · have hb' : isB c = false := by simpa using hb
          have hc' : ¬ (c = 47 ∧ (r ++ 47 :: 47 :: (note ++ 10 :: t)).head? = some 47) := by
            rintro ⟨e1, e2⟩
            cases r with
            | nil => subst e1; exact hlast rfl
            | cons d r => exact hc ⟨e1, by simpa using e2⟩
          have hne : c :: r ≠ [] := by simp
          rw [lexG_token (bare_cons hb' hc)] at h
          have hT := lexG_token (l := c :: r ++ 47 :: 47 :: (note ++ 10 :: t)) (bare_cons hb' hc') p
          rw [firstL_app hne] at hT
          by_cases he : (firstL (c :: r)).2 ≠ 0
          · rw [if_pos he] at h; cases h
          · rw [if_neg he] at h hT
            have he0 : (firstL (c :: r)).2 = 0 := by simpa using he
            obtain ⟨o1, o2, o3⟩ := firstL_ok he0 hne
            rw [if_neg o1] at h hT
            obtain ⟨u, hu, rfl⟩ := LR.cons_ok h
            have hp := o3.length_le
            have hz : (firstL (c :: r)).1.t.length ≠ 0 := by simpa using o2
            have hlast' : ((c :: r).drop (firstL (c :: r)).1.t.length).getLast? ≠ some 47 := by
              rw [List.getLast?_drop]
              split
              · simp
              · exact hlast
            obtain ⟨init, q, h1, h2⟩ := ih false _ _ u (by rw [List.length_drop, List.length_cons]; omega) hu hlast'
            have hsplit : (firstL (c :: r)).1.t ++ (c :: r).drop (firstL (c :: r)).1.t.length = c :: r := pre_split o3
            refine ⟨⟨(firstL (c :: r)).1, p⟩ :: init, q, by rw [h1]; rfl, ?_⟩
            rw [hT, List.drop_append_of_le_length hp, h2, LR.cons_app, ← posL_append, ← List.append_assoc, hsplit]
end Go.Proofs.YtcdbdfhikbfbpaaGreatDoor
namespace Go.Proofs.YtcdbdfhikbfbpaaGreatDoor
set_option linter.unusedVariables false

theorem cut_line : ∀ l : List UInt8, (Lib.cut l [10]).1.count 10 = 0 ∧ (Lib.cut l [10]).1.length ≤ l.length
  | [] => by decide
  | c :: r => by
    obtain ⟨i1, i2⟩ := cut_line r
    by_cases hc : c = 10
    · subst hc
      have e : (Lib.cut (10 :: r) [10]).1 = [] := by
        unfold Lib.cut
        rw [if_pos (by rw [idx_yes]; decide), idx_yes]
        rfl
      rw [e]
      exact ⟨rfl, by simp⟩
    · have hi := idx_no hc r
      have hg := Lib.index_ge r [10]
      have e : (Lib.cut (c :: r) [10]).1 = c :: (Lib.cut r [10]).1 := by
        by_cases h1 : Lib.index r [10] = -1
        · rw [h1] at hi
          unfold Lib.cut
          rw [if_neg (by rw [hi]; decide), if_neg (by rw [h1]; decide)]
        · rw [if_neg (by simpa using h1)] at hi
          unfold Lib.cut
          rw [if_pos (by omega), if_pos (by omega), hi]
          show List.take (Lib.index r [10] + 1).toNat (c :: r) = c :: List.take (Lib.index r [10]).toNat r
          rw [show (Lib.index r [10] + 1).toNat = (Lib.index r [10]).toNat + 1 from by omega]
          rfl
      rw [e]
      refine ⟨?_, by simp only [List.length_cons]; omega⟩
      rw [List.count_cons, i1]
      simp [hc]
theorem no_slash {l : List UInt8} (h : Lib.hasSuffix l [47] = false) : l.getLast? ≠ some 47 := by
  intro e
  obtain ⟨ys, rfl⟩ := List.getLast?_eq_some_iff.1 e
  have : Lib.hasSuffix (ys ++ [47]) [47] = true := List.isSuffixOf_iff_suffix.2 (List.suffix_append _ _)
  rw [this] at h
  cases h

/-- Where tokens stand, and where a text fails. -/
theorem lexG_at : ∀ (n : Nat) (b : Bool) (p : Ps) (l : List UInt8), l.length ≤ n →
    (∀ ts, lexG b p l = .ok ts → ∀ t ∈ ts, t.p.1 ≤ p.1 + l.length) ∧ ∀ q e, lexG b p l = .bad q e → q.1 ≤ p.1 + l.length ∧ e ≠ 0 := by
  intro n
  induction n with
  | zero =>
    intro b p l hl
    obtain rfl : l = [] := List.eq_nil_of_length_eq_zero (by omega)
    rw [lexG_nil]
    refine ⟨?_, fun q e h => by cases h⟩
    rintro ts h t ht
    cases h
    obtain rfl : t = ⟨tkEnd, p⟩ := by simpa using ht
    exact Nat.le_add_right _ _
  | succ n ih =>
    intro b p l hl
    have hs := skipM_len b l
    have hpos := (posL_le (l.take (l.length - (skipM b l).length)) p).1
    rw [List.length_take] at hpos
    rw [lexG_eq b p]
    by_cases he : (firstL (skipM b l)).2 ≠ 0
    · rw [if_pos he]
      refine ⟨fun ts h => (by cases h), ?_⟩
      rintro q e h
      cases h
      exact ⟨by omega, he⟩
    · rw [if_neg he]
      by_cases h3 : (firstL (skipM b l)).1.k = 3
      · rw [if_pos h3]
        refine ⟨?_, fun q e h => by cases h⟩
        rintro ts h t ht
        cases h
        obtain rfl := List.mem_singleton.1 ht
        show (posL p _).1 ≤ _
        omega
      · rw [if_neg h3]
        have hne : skipM b l ≠ [] := fun e => h3 (by rw [e]; rfl)
        have he0 : (firstL (skipM b l)).2 = 0 := by simpa using he
        have hd := drop_lt he0 hne
        obtain ⟨o1, o2, o3⟩ := firstL_ok he0 hne
        have hp := o3.length_le
        have hpos2 := (posL_le (firstL (skipM b l)).1.t (posL p (l.take (l.length - (skipM b l).length)))).1
        obtain ⟨i1, i2⟩ := ih false (posL (posL p (l.take (l.length - (skipM b l).length))) (firstL (skipM b l)).1.t) ((skipM b l).drop (firstL (skipM b l)).1.t.length) (by omega)
        rw [List.length_drop] at i1 i2
        generalize lexG false (posL (posL p (l.take (l.length - (skipM b l).length))) (firstL (skipM b l)).1.t) ((skipM b l).drop (firstL (skipM b l)).1.t.length) = R at i1 i2
        cases R with
        | ok u =>
          refine ⟨?_, fun q e h => by cases h⟩
          rintro ts h t ht
          cases h
          rcases List.mem_cons.1 ht with rfl | ht
          · show (posL p _).1 ≤ _
            omega
          · have := i1 u rfl t ht
            omega
        | bad q e =>
          refine ⟨fun ts h => (by cases h), ?_⟩
          rintro q' e' h
          cases h
          have := i2 q e rfl
          exact ⟨by omega, this.2⟩
theorem lexL_ok_at {s : List UInt8} {ts : List Tok} (h : lexL s = .ok ts) : ∀ t ∈ ts, t.p.1 ≤ 1 + s.length := by
  unfold lexL at h
  split at h
  · cases h
  · exact (lexG_at _ false (1, 1) s (Nat.le_refl _)).1 ts h
theorem lexL_bad_at {s : List UInt8} {q : Ps} {e : Nat} (h : lexL s = .bad q e) : q.1 ≤ 1 + s.length ∧ e ≠ 0 := by
  unfold lexL at h
  split at h
  · cases h; exact ⟨by simp, by decide⟩
  · exact (lexG_at _ false (1, 1) s (Nat.le_refl _)).2 q e h
theorem lexL_two {s t n : List UInt8} {ts : List Tok} (hs : s.length ≤ 3000) (ht : t.length ≤ 3000) (hn : n.length ≤ 100) (hc : n.count 10 = 0) (h : lexL s = .ok ts) (hl : s.getLast? ≠ some 47) :
    ∃ init q, ts = init ++ [⟨tkEnd, q⟩] ∧ lexL (s ++ [47, 47] ++ n ++ [10] ++ t) = LR.app init ((lexL t).sh (1 + s.count 10)) := by
  unfold lexL at h
  rw [if_neg (by omega)] at h
  obtain ⟨init, q, h1, h2⟩ := lexG_two n t hc _ false (1, 1) s ts (Nat.le_refl _) h hl
  refine ⟨init, q, h1, ?_⟩
  have e : s ++ [47, 47] ++ n ++ [10] ++ t = s ++ 47 :: 47 :: (n ++ 10 :: t) := by simp
  have hp : posL (1, 1) (s ++ 47 :: 47 :: (n ++ [10])) = shP (1 + s.count 10) (1, 1) := by
    have e2 : s ++ 47 :: 47 :: (n ++ [10]) = (s ++ 47 :: 47 :: n) ++ 10 :: [] := by simp
    have p1 := posL_count ((s ++ 47 :: 47 :: n) ++ 10 :: []) (1, 1)
    have p2 := posL_last (s ++ 47 :: 47 :: n) [] (1, 1) rfl
    have pc : ((s ++ 47 :: 47 :: n) ++ 10 :: []).count 10 = s.count 10 + 1 := by
      simp [List.count_append, hc]
    rw [pc] at p1
    rw [e2]
    unfold shP
    refine Prod.ext ?_ ?_
    · rw [p1]; show 1 + _ = 1 + (1 + _); omega
    · rw [p2]; rfl
  rw [e]
  unfold lexL
  rw [if_neg (by simp only [List.length_append, List.length_cons]; omega), if_neg (by omega), h2, hp, lexG_sh _ _ _ _ _ (Nat.le_refl _)]
end Go.Proofs.YtcdbdfhikbfbpaaGreatDoor
