/- Layer 7, the mathematics: two descriptions, one behind the other. No program. -/
import Derived.Test.YtcdbdfhikbfbpaaGreatDoorParSim
import Derived.Test.YtcdbdfhikbfbpaaGreatDoorParLx
import Derived.Test.YtcdbdfhikbfbpaaGreatDoorParUs
import Derived.Test.YtcdbdfhikbfbpaaGreatDoorParWk
namespace Go.Proofs.YtcdbdfhikbfbpaaGreatDoor
set_option linter.unusedVariables false

theorem parse_ok {s : List UInt8} {f : FM} (h : parseL s = .ok f) : ∃ ts cs ss l, lexL s = .ok ts ∧ fileL (fuel ts) [] [] ts = .ok (cs, ss) l ∧ f = putF cs ss := by
  unfold parseL at h
  cases hl : lexL s with
  | bad p e => rw [hl] at h; cases h
  | ok ts =>
    rw [hl] at h
    dsimp only at h
    cases hf : fileP ts with
    | bad l e => rw [hf] at h; cases h
    | ok a l =>
      rw [hf] at h
      obtain ⟨cs, ss⟩ := a
      cases h
      exact ⟨ts, cs, ss, l, rfl, hf, rfl⟩
theorem parse_of {s : List UInt8} {ts : List Tok} (hl : lexL s = .ok ts) {cs : List (List UInt8 × Nat)} {ss : List SA} {l : List Tok} (h : fileL (fuel ts) [] [] ts = .ok (cs, ss) l) : parseL s = .ok (putF cs ss) := by
  unfold parseL fileP
  rw [hl]; dsimp only; rw [h]
theorem parse_bad_of {s : List UInt8} {ts : List Tok} (hl : lexL s = .ok ts) {l : List Tok} {e : Nat} (h : fileL (fuel ts) [] [] ts = .bad l e) : parseL s = .bad (hd l).p e := by
  unfold parseL fileP
  rw [hl]; dsimp only; rw [h]
theorem wf_init {ts init : List Tok} {e : Tok} (h : WF ts) (hi : ts = init ++ [e]) : e.tk = tkEnd ∧ ∀ y ∈ init, y.tk.k ≠ 3 := by
  obtain ⟨i, x, h1, h2, h3⟩ := h
  rw [hi] at h1
  have := List.append_inj' h1 rfl
  obtain ⟨rfl, h4⟩ := this
  simp only [List.cons.injEq, and_true] at h4
  subst h4
  exact ⟨h2, fun y hy => by have := (h3 y hy).k; omega⟩
theorem file_same_bad {l l' r : List Tok} (h : l.map (·.tk) = l'.map (·.tk)) {n : Nat} {cs : List (List UInt8 × Nat)} {ss : List SA} {k : Nat} (e : fileL n cs ss l = .bad r k) : ∃ r', fileL n cs ss l' = .bad r' k := by
  have := file_same h n cs ss
  rw [e] at this
  cases h' : fileL n cs ss l' with
  | ok a' r' => rw [h'] at this; cases this
  | bad r' e' => rw [h'] at this; simp only [PR.mp, PR.bad.injEq] at this; rw [this.2]; exact ⟨_, rfl⟩
/-- Both Files: all of both; or there are too many. -/
theorem join_math {s t : List UInt8} {f g : FM} (hs : s.length ≤ 8000) (ht : t.length ≤ 8000) (h : parseL s = .ok f) (k : parseL t = .ok g) :
    ((64 < f.cs.length + g.cs.length ∨ 64 < f.ss.length + g.ss.length) ∧ frE (parseL (s ++ 10 :: t)) = 10) ∨
    ((f.cs.length + g.cs.length ≤ 64 ∧ f.ss.length + g.ss.length ≤ 64) ∧ ∃ j, parseL (s ++ 10 :: t) = .ok j ∧ j.cs = f.cs ++ g.cs ∧ j.ss.map (·.s) = f.ss.map (·.s) ++ g.ss.map (·.s) ∧ j.g.xs.length = f.g.xs.length + g.g.xs.length ∧ j.g.ts.length = f.g.ts.length + g.g.ts.length) := by
  obtain ⟨ts, cs, ss, l, h1, h2, rfl⟩ := parse_ok h
  obtain ⟨us, cs', ss', l', k1, k2, rfl⟩ := parse_ok k
  obtain ⟨init, q, us', rfl, j1, j2⟩ := lexL_lines hs ht h1 k1
  obtain ⟨e1, y1⟩ := wf_init (lexL_wf h1) rfl
  have hlu : us'.length = us.length := by have := congrArg List.length j2; simpa using this
  obtain ⟨init', hus⟩ := lexL_end k1
  generalize posL (1, 1) t = pe at hus
  subst hus
  obtain ⟨e2, y2⟩ := wf_init (lexL_wf k1) rfl
  have lcs : (putF cs ss).cs.length = cs.length := rfl
  have lcs' : (putF cs' ss').cs.length = cs'.length := rfl
  have lss : (putF cs ss).ss.length = ss.length := putSs_length ss gm0
  have lss' : (putF cs' ss').ss.length = ss'.length := putSs_length ss' gm0
  rw [lcs, lcs', lss, lss']
  have a1 : 8 * init.length + 3 ≤ fuel (init ++ [⟨tkEnd, q⟩]) := by unfold fuel; rw [List.length_append]; omega
  have a2 : 8 * init.length + 3 ≤ fuel (init ++ us') := by unfold fuel; rw [List.length_append]; omega
  generalize fuel (init ++ [⟨tkEnd, q⟩]) = n1 at a1 h2
  have a3 : fuel (init ++ us') ≤ 8 * init.length + 8 * us'.length + 20 := by unfold fuel; rw [List.length_append]; omega
  have a4 : 8 * init.length + 8 * us'.length + 20 ≤ fuel (init ++ us') := by unfold fuel; rw [List.length_append]; omega
  obtain ⟨n2, hn2⟩ : ∃ n2, n2 = fuel (init ++ us') := ⟨_, rfl⟩
  rw [← hn2] at a2 a3 a4
  have J1 := file_join (t := init' ++ [⟨tkEnd, pe⟩]) e1 n1 n2 [] [] [] [] init cs ss l y1 a1 a2 h2 (Nat.zero_le _) (Nat.zero_le _)
  obtain ⟨c1, s1, q1, q2, q3⟩ := J1
  rw [List.nil_append] at q1 q2
  subst q1 q2
  rw [List.nil_append, List.nil_append] at q3
  have hmap : (init ++ (init' ++ [(⟨tkEnd, pe⟩ : Tok)])).map (·.tk) = (init ++ us').map (·.tk) := by rw [List.map_append, List.map_append (l₁ := init) (l₂ := us'), j2]
  simp only [List.length_nil, Nat.zero_add] at q3
  rcases q3 with ⟨r1, r2, m', r3, r4⟩ | ⟨r1, l3, r4⟩
  · have hm' : 8 * init'.length + 3 ≤ m' := by
      have : us'.length = init'.length + 1 := by rw [hlu, List.length_append]; rfl
      omega
    have b1 : 8 * init'.length + 3 ≤ fuel (init' ++ [⟨tkEnd, pe⟩]) := by unfold fuel; rw [List.length_append]; omega
    generalize fuel (init' ++ [⟨tkEnd, pe⟩]) = n4 at b1 k2
    have J2 := file_join (t := [⟨tkEnd, pe⟩]) e2 n4 m' [] [] cs ss init' cs' ss' l' y2 b1 hm' k2 r1 r2
    obtain ⟨c2, s2, p1, p2, p3⟩ := J2
    rw [List.nil_append] at p1 p2
    subst p1 p2
    rcases p3 with ⟨v1, v2, m2, v3, v4⟩ | ⟨v1, l4, v4⟩
    · right
      refine ⟨⟨v1, v2⟩, putF (cs ++ cs') (ss ++ ss'), ?_, rfl, ?_, ?_⟩
      · have hm2 : ∃ m3, m2 = m3 + 1 := ⟨m2 - 1, by omega⟩
        obtain ⟨m3, rfl⟩ := hm2
        have hz : fileL (m3 + 1) (cs ++ cs') (ss ++ ss') [⟨tkEnd, pe⟩] = .ok (cs ++ cs', ss ++ ss') [⟨tkEnd, pe⟩] := by rw [fileL, if_pos (show (hd [⟨tkEnd, pe⟩]).tk.k = 3 from rfl)]
        rw [v4, hz] at r4
        obtain ⟨l5, r5⟩ := file_same_ok hmap r4
        exact parse_of j1 (hn2 ▸ r5)
      · have n1 := putSs_names (ss ++ ss') gm0 []
        have n2 := putSs_names ss gm0 []
        have n3 := putSs_names ss' gm0 []
        show (putSs (ss ++ ss') gm0).2.map (·.s) = (putSs ss gm0).2.map (·.s) ++ (putSs ss' gm0).2.map (·.s)
        unfold putSs
        rw [n1, n2, n3]; simp
      · exact putSs_join ss ss'
    · left
      refine ⟨v1, ?_⟩
      rw [v4] at r4
      obtain ⟨l5, r5⟩ := file_same_bad hmap r4
      rw [parse_bad_of j1 (hn2 ▸ r5)]; rfl
  · left
    refine ⟨by omega, ?_⟩
    obtain ⟨l5, r5⟩ := file_same_bad hmap r4
    rw [parse_bad_of j1 (hn2 ▸ r5)]; rfl
end Go.Proofs.YtcdbdfhikbfbpaaGreatDoor
