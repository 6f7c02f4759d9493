/- Layer 10, mathematics (for ExprParts): the tokens of a text in front of a bracket that closes do not hang on what follows. No program. · Layer 10, mathematics (for ExprParts): the tokens of the law's texts. No program. -/
import Derived.Test.YtomimkgaelkaoaaGreatDoorC12LexP
import Derived.Test.YtomimkgaelkaoaaGreatDoorC12LexQ
set_option linter.unusedVariables false
set_option linter.unusedSimpArgs false
namespace Go.Proofs.YtomimkgaelkaoaaGreatDoor
def Solo (c : UInt8) : Prop := c = 93 ∨ c = 41 ∨ c = 91
theorem run_solo {c : UInt8} (h : Solo c) (r : List UInt8) : ∀ a : List UInt8, runL (a ++ c :: r) = runL a
 | [] => by rcases h with rfl | rfl | rfl <;> rfl
 | x :: a => by
  have ih := run_solo h r a
  unfold runL at ih ⊢
  rw [List.cons_append, List.takeWhile_cons, List.takeWhile_cons, ih]
def goodSg (g : List UInt8) : Bool := match g with | [_] => true | [_, b] => b != 93 && b != 41 && b != 91 | _ => false
theorem pre_solo {c : UInt8} (h : Solo c) (x : UInt8) (s r : List UInt8) {g : List UInt8} (hg : goodSg g = true) : g.isPrefixOf (x :: (s ++ c :: r)) = g.isPrefixOf (x :: s) := by
 match g, hg with
 | [a], _ => simp [List.isPrefixOf]
 | [a, b], hg =>
  cases s with
  | nil =>
   simp [goodSg] at hg
   rcases h with rfl | rfl | rfl <;> simp [List.isPrefixOf, hg]
  | cons y s => simp [List.isPrefixOf]
theorem signF_solo {c : UInt8} (h : Solo c) (x : UInt8) (s r : List UInt8) : ∀ gs : List (List UInt8), gs.all goodSg = true → signF gs (x :: (s ++ c :: r)) = signF gs (x :: s)
 | [], _ => rfl
 | g :: gs, hg => by
  rw [List.all_cons, Bool.and_eq_true] at hg
  unfold signF
  rw [pre_solo h x s r hg.1, signF_solo h x s r gs hg.2]
theorem first_solo {c : UInt8} (h : Solo c) (x : UInt8) (s r : List UInt8) : firstL (x :: (s ++ c :: r)) = firstL (x :: s) := by
 unfold firstL signL
 have e := run_solo h r (x :: s)
 rw [List.cons_append] at e
 rw [if_neg (List.cons_ne_nil _ _), e, signF_solo h x s r sgs (by decide), if_neg (List.cons_ne_nil _ _)]
theorem lex_solo2 : ∀ (n : Nat) (b : Bool) (s : List UInt8), s.length ≤ n →
  (∃ Vs b', ∀ p, ∃ ts p', ts.map (·.tk) = Vs ∧ ∀ c r, Solo c → lexG b p (s ++ c :: r) = LR.app ts (lexG b' p' (c :: r))) ∨ (∀ p, ∃ q e, ∀ c r, Solo c → lexG b p (s ++ c :: r) = .bad q e)
 | _, b, [], _ => .inl ⟨[], b, fun p => ⟨[], p, rfl, fun c r _ => (LR.app_nil _).symm⟩⟩
 | n + 1, true, x :: s, hn => by
  have hn' : s.length ≤ n := by simpa using hn
  by_cases hx : x = 10
  ·subst hx
   rcases lex_solo2 n false s hn' with ⟨Vs, b', h⟩ | h
   ·exact .inl ⟨Vs, b', fun p => by obtain ⟨ts, p', hm, h⟩ := h (stp p 10); exact ⟨ts, p', hm, fun c r hc => by rw [List.cons_append, lexG_feed, h c r hc]⟩⟩
   ·exact .inr fun p => by obtain ⟨q, e, h⟩ := h (stp p 10); exact ⟨q, e, fun c r hc => by rw [List.cons_append, lexG_feed, h c r hc]⟩
  ·rcases lex_solo2 n true s hn' with ⟨Vs, b', h⟩ | h
   ·exact .inl ⟨Vs, b', fun p => by obtain ⟨ts, p', hm, h⟩ := h (stp p x); exact ⟨ts, p', hm, fun c r hc => by rw [List.cons_append, lexG_comment hx, h c r hc]⟩⟩
   ·exact .inr fun p => by obtain ⟨q, e, h⟩ := h (stp p x); exact ⟨q, e, fun c r hc => by rw [List.cons_append, lexG_comment hx, h c r hc]⟩
 | n + 1, false, x :: s, hn => by
  have hn' : s.length ≤ n := by simpa using hn
  by_cases hb : isB x = true
  ·rcases lex_solo2 n false s hn' with ⟨Vs, b', h⟩ | h
   ·exact .inl ⟨Vs, b', fun p => by obtain ⟨ts, p', hm, h⟩ := h (stp p x); exact ⟨ts, p', hm, fun c r hc => by rw [List.cons_append, lexG_blank hb, h c r hc]⟩⟩
   ·exact .inr fun p => by obtain ⟨q, e, h⟩ := h (stp p x); exact ⟨q, e, fun c r hc => by rw [List.cons_append, lexG_blank hb, h c r hc]⟩
  by_cases ho : x = 47 ∧ s.head? = some 47
  ·obtain ⟨rfl, hs⟩ := ho
   obtain ⟨s', rfl⟩ : ∃ s', s = 47 :: s' := by cases s with | nil => simp at hs | cons y s' => simp at hs; exact ⟨s', by rw [hs]⟩
   rcases lex_solo2 n true (47 :: s') hn' with ⟨Vs, b', h⟩ | h
   ·exact .inl ⟨Vs, b', fun p => by obtain ⟨ts, p', hm, h⟩ := h (stp p 47); exact ⟨ts, p', hm, fun c r hc => by rw [← h c r hc, List.cons_append, List.cons_append, lexG_open, lexG_comment (by decide)]⟩⟩
   ·exact .inr fun p => by obtain ⟨q, e, h⟩ := h (stp p 47); exact ⟨q, e, fun c r hc => by rw [← h c r hc, List.cons_append, List.cons_append, lexG_open, lexG_comment (by decide)]⟩
  have hbare : ∀ c r, Solo c → Bare (x :: (s ++ c :: r)) := fun c r hc => bare_cons (by simpa using hb) (by
   rintro ⟨hx, hh⟩
   cases s with
   | nil => simp at hh; subst hh; rcases hc with h | h | h <;> simp at h
   | cons y s' => exact ho ⟨hx, by simpa using hh⟩)
  by_cases hf : (firstL (x :: s)).2 = 0
  ·obtain ⟨h3, ht, hp⟩ := firstL_ok hf (by simp)
   have hl : (firstL (x :: s)).1.t.length ≤ (x :: s).length := hp.length_le
   have hpos : 0 < (firstL (x :: s)).1.t.length := List.length_pos_iff.2 ht
   have hd : ((x :: s).drop (firstL (x :: s)).1.t.length).length ≤ n := by rw [List.length_drop]; simp at hn ⊢; omega
   have key : ∀ p c r, Solo c → lexG false p (x :: (s ++ c :: r)) = (lexG false (posL p (firstL (x :: s)).1.t) ((x :: s).drop (firstL (x :: s)).1.t.length ++ c :: r)).cons ⟨(firstL (x :: s)).1, p⟩ := fun p c r hc => by
    rw [lexG_token (hbare c r hc), first_solo hc, if_neg (by simpa using hf), if_neg h3, ← List.cons_append, List.drop_append_of_le_length hl]
   rcases lex_solo2 n false _ hd with ⟨Vs, b', h⟩ | h
   ·exact .inl ⟨(firstL (x :: s)).1 :: Vs, b', fun p => by
     obtain ⟨ts, p', hm, h⟩ := h (posL p (firstL (x :: s)).1.t)
     exact ⟨⟨(firstL (x :: s)).1, p⟩ :: ts, p', by rw [List.map_cons, hm], fun c r hc => by rw [List.cons_append, key p c r hc, h c r hc, LR.cons_app]⟩⟩
   ·exact .inr fun p => by
     obtain ⟨q, e, h⟩ := h (posL p (firstL (x :: s)).1.t)
     exact ⟨q, e, fun c r hc => by rw [List.cons_append, key p c r hc, h c r hc]; rfl⟩
  ·exact .inr fun p => ⟨p, _, fun c r hc => by rw [List.cons_append, lexG_token (hbare c r hc), first_solo hc, if_pos (by simpa using hf)]⟩
def Fix (g : UInt8) : Prop := g = 91 ∨ g = 93 ∨ g = 40 ∨ g = 41 ∨ g = 59 ∨ g = 125
theorem first_fix {g : UInt8} (h : Fix g) (r : List UInt8) : firstL (g :: r) = (⟨2, [g], 0⟩, 0) := by
 rcases h with rfl | rfl | rfl | rfl | rfl | rfl <;> simp [firstL, runL, isW, isL, isD, signL, signF, sgs, List.isPrefixOf, List.takeWhile_cons]
theorem lex_fix {g : UInt8} (h : Fix g) (p : Ps) (r : List UInt8) : lexG false p (g :: r) = (lexG false (posL p [g]) r).cons ⟨⟨2, [g], 0⟩, p⟩ := by
 have hb : Bare (g :: r) := by rcases h with rfl | rfl | rfl | rfl | rfl | rfl <;> exact bare_cons (by decide) (by simp)
 rw [lexG_token hb, first_fix h]
 rfl
def headB : List UInt8 := [115, 116, 114, 117, 99, 116, 32, 83, 32, 123, 32, 97, 58, 32, 98, 121, 116, 101, 115]
def headV : List Tk := [⟨0, [115, 116, 114, 117, 99, 116], 0⟩, ⟨0, [83], 0⟩, ⟨2, [123], 0⟩, ⟨0, [97], 0⟩, ⟨2, [58], 0⟩, ⟨0, [98, 121, 116, 101, 115], 0⟩]
def tksR : LR → List Tk
 | .ok l => l.map (·.tk)
 | .bad _ _ => []
theorem tksR_app (ts : List Tok) (l : List Tok) : tksR (LR.app ts (.ok l)) = ts.map (·.tk) ++ l.map (·.tk) := by simp [tksR, LR.app]
theorem head_lex : ∃ ts p', ts.map (·.tk) = headV ∧ ∀ r, lexG false (1, 1) (headB ++ 91 :: r) = LR.app ts (lexG false p' (91 :: r)) := by
 have d0 : tksR (lexG false (1, 1) (headB ++ 91 :: [])) = headV ++ [⟨2, [91], 0⟩, tkEnd] := by decide +kernel
 have d1 : tksR (lexG false (1, 1) (headB ++ 91 :: [91])) = headV ++ [⟨2, [91], 0⟩, ⟨2, [91], 0⟩, tkEnd] := by decide +kernel
 rcases lex_solo2 _ false headB (Nat.le_refl _) with ⟨Vs, b', h⟩ | h
 ·obtain ⟨ts, p', hm, h⟩ := h (1, 1)
  have h0 := h 91 [] (.inr (.inr rfl))
  have h1 := h 91 [91] (.inr (.inr rfl))
  rw [h0] at d0
  rw [h1] at d1
  cases b' with
  | true =>
   rw [lexG_comment (by decide), lexG_nil, tksR_app] at d0
   rw [lexG_comment (by decide), lexG_comment (by decide), lexG_nil, tksR_app] at d1
   have := congrArg List.length (d0.symm.trans d1)
   simp at this
  | false =>
   rw [lex_fix (.inl rfl), lexG_nil, show LR.cons ⟨⟨2, [91], 0⟩, p'⟩ (.ok [⟨tkEnd, posL p' [91]⟩]) = .ok [⟨⟨2, [91], 0⟩, p'⟩, ⟨tkEnd, posL p' [91]⟩] from rfl, tksR_app] at d0
   refine ⟨ts, p', ?_, fun r => h 91 r (.inr (.inr rfl))⟩
   rw [List.map_cons, List.map_cons, List.map_nil] at d0
   exact List.append_cancel_right d0
 ·obtain ⟨q, e, h⟩ := h (1, 1)
  rw [h 91 [] (.inr (.inr rfl))] at d0
  simp [tksR, headV] at d0
end Go.Proofs.YtomimkgaelkaoaaGreatDoor
namespace Go.Proofs.YtomimkgaelkaoaaGreatDoor
def Inner (s : List UInt8) (V : List Tk) (b : Bool) : Prop := ∀ p, ∃ us p', us.map (·.tk) = V ∧ ∀ c r, Solo c → lexG false p (s ++ c :: r) = LR.app us (lexG b p' (c :: r))
def tkS (g : UInt8) : Tk := ⟨2, [g], 0⟩
def tailV : List Tk := [tkS 93, tkS 59, tkS 125, tkEnd]
theorem tail_lex (p : Ps) : ∃ us, lexG false p [93, 59, 32, 125] = .ok us ∧ us.map (·.tk) = tailV := by
 rw [lex_fix (.inr (.inl rfl)), lex_fix (.inr (.inr (.inr (.inr (.inl rfl))))), lexG_blank (by decide), lex_fix (.inr (.inr (.inr (.inr (.inr rfl))))), lexG_nil]
 exact ⟨_, rfl, rfl⟩
theorem tail_comment (p : Ps) : ∃ us, lexG true p [93, 59, 32, 125] = .ok us ∧ us.map (·.tk) = [tkEnd] := by
 rw [lexG_comment (by decide), lexG_comment (by decide), lexG_comment (by decide), lexG_comment (by decide), lexG_nil]
 exact ⟨_, rfl, rfl⟩
theorem app_ok {a : List Tok} {r : LR} {ts : List Tok} (h : LR.app a r = .ok ts) : ∃ us, r = .ok us ∧ ts = a ++ us := by
 cases r with
 | ok l => cases h; exact ⟨l, rfl, rfl⟩
 | bad p e => cases h
theorem lexL_ok {s : List UInt8} {ts : List Tok} (h : lexL s = .ok ts) : lexG false (1, 1) s = .ok ts := by
 unfold lexL at h
 split at h
 ·cases h
 ·exact h
def text1 (s : List UInt8) : List UInt8 := headB ++ 91 :: (s ++ [93, 59, 32, 125])
theorem text1_lex {s : List UInt8} {ts : List Tok} (h : lexL (text1 s) = .ok ts) : ∃ V b, Inner s V b ∧ ts.map (·.tk) = headV ++ tkS 91 :: (V ++ if b = true then [tkEnd] else tailV) := by
 have g1 := lexL_ok h
 obtain ⟨th, p', hm, hh⟩ := head_lex
 unfold text1 at g1
 rw [hh, lex_fix (.inl rfl)] at g1
 obtain ⟨u1, g2, rfl⟩ := app_ok g1
 obtain ⟨u2, g3, rfl⟩ := LR.cons_ok g2
 rcases lex_solo2 _ false s (Nat.le_refl _) with ⟨V, b, hI⟩ | hI
 ·refine ⟨V, b, hI, ?_⟩
  obtain ⟨us, p3, hm3, h3⟩ := hI (posL p' [91])
  rw [h3 93 _ (.inl rfl)] at g3
  obtain ⟨u3, g4, rfl⟩ := app_ok g3
  cases b with
  | true =>
   obtain ⟨u4, h4, hm4⟩ := tail_comment p3
   rw [h4] at g4
   cases g4
   simp [hm, hm3, hm4, tkS]
  | false =>
   obtain ⟨u4, h4, hm4⟩ := tail_lex p3
   rw [h4] at g4
   cases g4
   simp [hm, hm3, hm4, tkS]
 ·obtain ⟨q, e, hI⟩ := hI (posL p' [91])
  rw [hI 93 _ (.inl rfl)] at g3
  cases g3
def ops13 : List (List UInt8) := [[43], [45], [42], [47], [37], [38], [124], [60, 60], [62, 62], [61, 61], [60], [38, 38], [124, 124]]
theorem op_lex {op : List UInt8} (h : op ∈ ops13) (p : Ps) (r : List UInt8) : ∃ t q, t.tk = ⟨2, op, 0⟩ ∧ lexG false p (32 :: (op ++ 32 :: 40 :: r)) = (lexG false q (40 :: r)).cons t := by
 have hb : Bare (op ++ 32 :: 40 :: r) := by
  simp only [ops13, List.mem_cons, List.not_mem_nil, or_false] at h
  rcases h with rfl | rfl | rfl | rfl | rfl | rfl | rfl | rfl | rfl | rfl | rfl | rfl | rfl <;> exact bare_cons (by decide) (by simp)
 have hf : firstL (op ++ 32 :: 40 :: r) = (⟨2, op, 0⟩, 0) := by
  simp only [ops13, List.mem_cons, List.not_mem_nil, or_false] at h
  rcases h with rfl | rfl | rfl | rfl | rfl | rfl | rfl | rfl | rfl | rfl | rfl | rfl | rfl <;> simp [firstL, runL, isW, isL, isD, signL, signF, sgs, List.isPrefixOf, List.takeWhile_cons]
 refine ⟨⟨⟨2, op, 0⟩, stp p 32⟩, stp (posL (stp p 32) op) 32, rfl, ?_⟩
 rw [lexG_blank (by decide), lexG_token hb, hf, if_neg (by simp), if_neg (by simp)]
 simp only [List.drop_left]
 rw [lexG_blank (by decide)]
def text2 (s0 op s1 : List UInt8) : List UInt8 := headB ++ 91 :: 40 :: (s0 ++ 41 :: 32 :: (op ++ 32 :: 40 :: (s1 ++ 41 :: [93, 59, 32, 125])))
theorem text2_lex {s0 op s1 : List UInt8} {V0 V1 : List Tk} {b0 b1 : Bool} {ts : List Tok} (ho : op ∈ ops13) (I0 : Inner s0 V0 b0) (I1 : Inner s1 V1 b1) (h : lexL (text2 s0 op s1) = .ok ts) :
  ∃ R, ts.map (·.tk) = headV ++ tkS 91 :: tkS 40 :: (V0 ++ R) ∧ (b0 = false → ∃ R1, R = tkS 41 :: ⟨2, op, 0⟩ :: tkS 40 :: (V1 ++ R1) ∧ (b1 = false → R1 = tkS 41 :: tailV)) := by
 have g5 := lexL_ok h
 obtain ⟨th, p', hm, hh⟩ := head_lex
 unfold text2 at g5
 rw [hh, lex_fix (.inl rfl)] at g5
 obtain ⟨u1, g6, rfl⟩ := app_ok g5
 obtain ⟨u2, g7, rfl⟩ := LR.cons_ok g6
 rw [lex_fix (.inr (.inr (.inl rfl)))] at g7
 obtain ⟨u3, g8, rfl⟩ := LR.cons_ok g7
 obtain ⟨us, p3, hm3, h3⟩ := I0 (posL (posL p' [91]) [40])
 rw [h3 41 _ (.inr (.inl rfl))] at g8
 obtain ⟨u4, g9, rfl⟩ := app_ok g8
 refine ⟨u4.map (·.tk), by simp [hm, hm3, tkS], fun hb => ?_⟩
 subst hb
 rw [lex_fix (.inr (.inr (.inr (.inl rfl))))] at g9
 obtain ⟨u5, g10, rfl⟩ := LR.cons_ok g9
 obtain ⟨t, q, ht, ht2⟩ := op_lex ho (posL p3 [41]) (s1 ++ 41 :: [93, 59, 32, 125])
 rw [ht2] at g10
 obtain ⟨u6, g11, rfl⟩ := LR.cons_ok g10
 rw [lex_fix (.inr (.inr (.inl rfl)))] at g11
 obtain ⟨u7, g12, rfl⟩ := LR.cons_ok g11
 obtain ⟨vs, p4, hm4, h4⟩ := I1 (posL q [40])
 rw [h4 41 _ (.inr (.inl rfl))] at g12
 obtain ⟨u8, g13, rfl⟩ := app_ok g12
 refine ⟨u8.map (·.tk), by simp [ht, hm4, tkS], fun hb => ?_⟩
 subst hb
 rw [lex_fix (.inr (.inr (.inr (.inl rfl))))] at g13
 obtain ⟨u9, g14, rfl⟩ := LR.cons_ok g13
 obtain ⟨w, hw, hm5⟩ := tail_lex (posL p4 [41])
 rw [hw] at g14
 cases g14
 simp [hm5, tkS]
end Go.Proofs.YtomimkgaelkaoaaGreatDoor
