/- Slices of strings that a call has made by append, nil let in. · Contracts of layer 6: joining, by the program and by the document. · Layer 6, the mathematics of the laws: so many letters, so many digits. No program. · Layer 6, the mathematics of the laws: how texts are joined. No program. · Layer 6, the mathematics of the law on joining: what is joined is read as these tokens again. No program. · Layer 7: the lexer's tokens are such as the parser expects. -/
import Derived.Test.YtomimkgaelkaoaaGreatDoorC12Toks
import Derived.Test.YtomimkgaelkaoaaGreatDoorC12LexL
import Derived.Lib.Join
import Derived.Test.YtomimkgaelkaoaaGreatDoorC12LexQ
import Derived.Test.YtomimkgaelkaoaaGreatDoorC12ParC
set_option linter.unusedVariables false
set_option linter.unusedSimpArgs false
namespace Go.Proofs.YtomimkgaelkaoaaGreatDoor
open Go.ChangeShapes Go.WideShapes Go.ChangeAt Go.RowKit
def Texts (E : TypeId) (B : Nat) (w : World) (v : Value) (l : List ByteArray) : Prop := w.ownsRow B E 1 v l.length (l.map Value.string)
section
variable {E : TypeId} {B : Nat} {w w' : World} {v : Value} {l : List ByteArray}
theorem Texts.nil (E : TypeId) (B : Nat) (w : World) : Texts E B w (.slice none 0 0) [] := World.ownsRow_nil w B E 1
theorem Texts.lt (h : Texts E B w v l) : ∀ g, v.ownBlock = some g → B ≤ g ∧ g < w.heap.size := World.ownsRow.lt h
theorem Texts.form (h : Texts E B w v l) : (v = .slice none 0 0 ∧ l = []) ∨ ∃ g cap, v = .slice (some ⟨g, 0, none⟩) l.length cap ∧ l.length ≤ cap ∧ g < w.heap.size ∧ ∀ (j : Nat) x, l[j]? = some x → w.cell? ⟨g, 0 + j, none⟩ = some (.string x) := by
 rcases id h.2 with ⟨h1, h2⟩ | ⟨g, cap, cur, hv, hg, hh, hle, r⟩
 ·exact .inl ⟨h1, List.eq_nil_of_length_eq_zero h2⟩
 ·subst hv
  refine .inr ⟨g, cap, rfl, hle, (Array.getElem?_eq_some_iff.1 hh).1, fun j x hx => ?_⟩
  have hj : j < l.length := (List.getElem?_eq_some_iff.1 hx).1
  rw [Nat.zero_add, World.ownsRow.cellAt h j (by omega), List.getElem?_map, hx]
  rfl
theorem Texts.block (h : Texts E B w v l) (hb : ∀ g, v.ownBlock = some g → w'.heap[g]? = w.heap[g]?) : Texts E B w' v l := by
 obtain ⟨h1, h2⟩ := h
 refine ⟨h1, ?_⟩
 rcases h2 with h2 | ⟨g, cap, cur, hv, hg, hh, r⟩
 ·exact .inl h2
 ·refine .inr ⟨g, cap, cur, hv, hg, ?_, r⟩
  rw [hb g (by rw [hv]; rfl)]
  exact hh
end
end Go.Proofs.YtomimkgaelkaoaaGreatDoor
namespace Go.Proofs.YtomimkgaelkaoaaGreatDoor
open Go.ChangeShapes Go.WideShapes Go.ChangeAt Go.RowKit
end Go.Proofs.YtomimkgaelkaoaaGreatDoor
namespace Go.Proofs.YtomimkgaelkaoaaGreatDoor
theorem isW_bare {c : UInt8} (h : isW c = true) : isB c = false ∧ c ≠ 47 := by
 constructor
 ·apply Classical.byContradiction
  intro hb
  have hm : c ∈ ([32, 9, 10, 13] : List UInt8) := List.contains_iff_mem.1 (by simpa only [isB, Bool.not_eq_false] using hb)
  simp only [List.mem_cons, List.mem_nil_iff, or_false] at hm
  rcases hm with rfl | rfl | rfl | rfl <;> exact absurd h (by decide)
 ·rintro rfl
  exact absurd h (by decide)
end Go.Proofs.YtomimkgaelkaoaaGreatDoor
namespace Go.Proofs.YtomimkgaelkaoaaGreatDoor
end Go.Proofs.YtomimkgaelkaoaaGreatDoor
namespace Go.Proofs.YtomimkgaelkaoaaGreatDoor
def GoodV (V : Tk) : Prop := V.k ≠ 3 ∧ ∀ rest, (rest = [] ∨ ∃ r, rest = 32 :: r) → firstL (V.t ++ rest) = (V, 0) ∧ Bare (V.t ++ rest)
theorem run_rest {R rest : List UInt8} (hR : ∀ x ∈ R, isW x = true) (h : rest = [] ∨ ∃ r, rest = 32 :: r) : runL (R ++ rest) = R := by
 unfold runL
 rw [List.takeWhile_append_of_pos hR]
 rcases h with rfl | ⟨r, rfl⟩
 ·simp
 ·rw [List.takeWhile_cons, if_neg (by decide), List.append_nil]
theorem wnL_t {r : List UInt8} (h : (wnL r).2 = 0) : (wnL r).1.t = r := (wnL_cases r h).1
theorem good_run {R : List UInt8} (h1 : R ≠ []) (h2 : ∀ x ∈ R, isW x = true) (h3 : (wnL R).2 = 0) : GoodV (wnL R).1 := by
 refine ⟨(wnL_cases R h3).2, fun rest hr => ?_⟩
 rw [wnL_t h3]
 constructor
 ·have hne : R ++ rest ≠ [] := by simp [h1]
  unfold firstL
  rw [if_neg hne, run_rest h2 hr, if_pos h1]
  exact Prod.ext rfl h3
 ·cases R with
  | nil => exact absurd rfl h1
  | cons c r =>
   have := isW_bare (h2 c List.mem_cons_self)
   exact bare_cons this.1 fun e => this.2 e.1
theorem sign_rest (g : List UInt8) (hg : g ∈ sgs) (rest : List UInt8) (h : rest = [] ∨ ∃ r, rest = 32 :: r) : signL (g ++ rest) = g ∧ runL (g ++ rest) = [] ∧ Bare (g ++ rest) := by
 simp only [sgs, List.mem_cons, List.mem_nil_iff, or_false] at hg
 rcases h with rfl | ⟨r, rfl⟩
 ·rcases hg with rfl | rfl | rfl | rfl | rfl | rfl | rfl | rfl | rfl | rfl | rfl | rfl | rfl | rfl | rfl | rfl | rfl | rfl | rfl | rfl | rfl | rfl | rfl | rfl | rfl | rfl | rfl | rfl | rfl <;> exact ⟨rfl, rfl, rfl⟩
 ·rcases hg with rfl | rfl | rfl | rfl | rfl | rfl | rfl | rfl | rfl | rfl | rfl | rfl | rfl | rfl | rfl | rfl | rfl | rfl | rfl | rfl | rfl | rfl | rfl | rfl | rfl | rfl | rfl | rfl | rfl <;> exact ⟨rfl, rfl, rfl⟩
theorem good_sign {g : List UInt8} (hg : g ∈ sgs) (h1 : g ≠ []) : GoodV ⟨2, g, 0⟩ := by
 refine ⟨(by decide : (2 : Nat) ≠ 3), fun rest hr => ?_⟩
 obtain ⟨e1, e2, e3⟩ := sign_rest g hg rest hr
 refine ⟨?_, e3⟩
 unfold firstL
 rw [if_neg (by simp [h1]), e2, if_neg (fun e => e rfl), e1, if_neg h1]
theorem good_first {l : List UInt8} (hl : l ≠ []) (h : (firstL l).2 = 0) : GoodV (firstL l).1 := by
 unfold firstL at h ⊢
 rw [if_neg hl] at h ⊢
 by_cases hr : runL l ≠ []
 ·rw [if_pos hr] at h ⊢
  exact good_run hr (fun x hx => by have := List.all_takeWhile (p := isW) (l := l); exact List.all_eq_true.1 this x hx) h
 ·rw [if_neg hr] at h ⊢
  by_cases hs : signL l = []
  ·rw [if_pos hs] at h; simp at h
  ·rw [if_neg hs]
   rcases signF_mem sgs l with e | ⟨e, _⟩
   ·exact absurd e hs
   ·exact good_sign e hs
theorem lexG_good : ∀ (n : Nat) (b : Bool) (p : Ps) (l : List UInt8) (ts : List Tok), l.length ≤ n → lexG b p l = .ok ts → ∃ Vs, ts.map (·.tk) = Vs ++ [tkEnd] ∧ ∀ V ∈ Vs, GoodV V := by
 intro n
 induction n with
 | zero =>
  intro b p l ts hl h
  obtain rfl : l = [] := List.eq_nil_of_length_eq_zero (by omega)
  rw [lexG_nil] at h
  cases h
  exact ⟨[], rfl, by simp⟩
 | succ n ih =>
  intro b p l ts hl h
  rw [lexG_eq] at h
  by_cases he : (firstL (skipM b l)).2 ≠ 0
  ·rw [if_pos he] at h; cases h
  ·rw [if_neg he] at h
   have he0 : (firstL (skipM b l)).2 = 0 := by simpa using he
   by_cases h3 : (firstL (skipM b l)).1.k = 3
   ·rw [if_pos h3] at h
    have := firstL_three he0 h3
    rw [this] at h
    cases h
    exact ⟨[], rfl, by simp⟩
   ·rw [if_neg h3] at h
    have hne : skipM b l ≠ [] := fun e => h3 (by rw [e]; rfl)
    have hd := drop_lt he0 hne
    have hs := skipM_len b l
    obtain ⟨u, hu, rfl⟩ := LR.cons_ok h
    obtain ⟨Vs, i1, i2⟩ := ih _ _ _ u (by omega) hu
    refine ⟨(firstL (skipM b l)).1 :: Vs, by rw [List.map_cons, i1]; rfl, ?_⟩
    intro V hV
    rcases List.mem_cons.1 hV with rfl | hV
    ·exact good_first hne he0
    ·exact i2 V hV
end Go.Proofs.YtomimkgaelkaoaaGreatDoor
namespace Go.Proofs.YtomimkgaelkaoaaGreatDoor
theorem kw_head : ∀ t ∈ kwL, isW (t.headD 0) = true ∧ isD (t.headD 0) = false := by decide
theorem int_head : ∀ x ∈ intsL, isW (x.1.headD 0) = true ∧ isD (x.1.headD 0) = false := by decide
theorem op_head : ∀ x ∈ opsL, isW (x.1.headD 0) = false := by decide
theorem kw_none {t : List UInt8} (h : isW (t.headD 0) = false ∨ isD (t.headD 0) = true) : isKw t = false := by
 have h1 : kwL.contains t = false := by
  rw [← Bool.not_eq_true, List.contains_iff_mem]
  intro hm
  obtain ⟨a, b⟩ := kw_head t hm
  rcases h with h | h
  ·rw [a] at h; cases h
  ·rw [b] at h; cases h
 have h2 : intW t = none := by
  unfold intW
  rw [Option.map_eq_none_iff, List.find?_eq_none]
  intro x hx e
  obtain ⟨a, b⟩ := int_head x hx
  rw [eq_of_beq e] at a b
  rcases h with h | h
  ·rw [a] at h; cases h
  ·rw [b] at h; cases h
 unfold isKw
 rw [h1, h2]; rfl
theorem tok_ok {V : Tk} {p : Ps} (h : GoodV V) : TokOK ⟨V, p⟩ := by
 obtain ⟨h3, hf⟩ := h
 have h1 := (hf [] (.inl rfl)).1
 rw [List.append_nil] at h1
 have hne : V.t ≠ [] := by
  intro e
  rw [e, firstL_nil] at h1
  simp only [Prod.mk.injEq, and_true] at h1
  rw [← h1] at h3
  exact h3 rfl
 unfold firstL at h1
 rw [if_neg hne] at h1
 split at h1
 ·rename_i hr
  have ht : (wnL (runL V.t)).1.t = runL V.t := (wnL_cases _ (by rw [h1])).1
  rw [h1] at ht
  have hW : isW (V.t.headD 0) = true := by
   have : ∀ l : List UInt8, runL l ≠ [] → isW (l.headD 0) = true := by
    intro l hl
    cases l with
    | nil => exact absurd rfl hl
    | cons c r =>
     unfold runL at hl
     rw [List.takeWhile_cons] at hl
     split at hl
     ·assumption
     ·exact absurd rfl hl
   exact this _ hr
  rw [← ht] at h1
  unfold wnL at h1
  split at h1
  ·rename_i hD
   split at h1
   ·simp only [Prod.mk.injEq, and_true] at h1
    have hk : V.k = 1 := by rw [← h1]
    exact ⟨by show V.k ≤ 2; omega, hne, fun _ => kw_none (.inr hD), fun _ => level_none fun x hx e => (by have := op_head x hx; rw [← (e : V.t = x.1), hW] at this; cases this), fun e => by have e : V.k = 0 := e; omega⟩
   ·simp only [Prod.mk.injEq] at h1
    rename_i hn
    exact absurd h1.2 hn
  ·split at h1
   ·simp only [Prod.mk.injEq] at h1
    omega
   ·simp only [Prod.mk.injEq, and_true] at h1
    have hk : V.k = 0 := by rw [← h1]
    exact ⟨by show V.k ≤ 2; omega, hne, fun e => absurd hk e, fun _ => level_none fun x hx e => (by have := op_head x hx; rw [← (e : V.t = x.1), hW] at this; cases this), fun _ e => by rw [(e : V.t = [125])] at hW; exact absurd hW (by decide)⟩
 ·rename_i hr
  have hW : isW (V.t.headD 0) = false := by
   have : ∀ l : List UInt8, l ≠ [] → ¬ runL l ≠ [] → isW (l.headD 0) = false := by
    intro l hl hr
    cases l with
    | nil => exact absurd rfl hl
    | cons c r =>
     unfold runL at hr
     rw [List.takeWhile_cons] at hr
     split at hr
     ·simp at hr
     ·rename_i hh; simpa using hh
   exact this _ hne hr
  split at h1
  ·simp only [Prod.mk.injEq] at h1; omega
  ·simp only [Prod.mk.injEq, and_true] at h1
   have hk : V.k = 2 := by rw [← h1]
   exact ⟨by show V.k ≤ 2; omega, hne, fun _ => kw_none (.inl hW), fun e => absurd hk e, fun e => by have e : V.k = 0 := e; omega⟩
theorem lexG_wf {b : Bool} {p : Ps} {s : List UInt8} {ts : List Tok} (h : lexG b p s = .ok ts) : WF ts := by
 obtain ⟨Vs, h1, h2⟩ := lexG_good s.length b p s ts (Nat.le_refl _) h
 obtain ⟨i, r, rfl, hi, hr⟩ := List.map_eq_append_iff.1 h1
 obtain ⟨e, r', rfl, he, hr'⟩ := List.map_eq_cons_iff.1 hr
 rw [List.map_eq_nil_iff] at hr'
 subst hr'
 refine ⟨i, e, rfl, he, fun t ht => ?_⟩
 have : t.tk ∈ Vs := by rw [← hi]; exact List.mem_map_of_mem ht
 exact tok_ok (V := t.tk) (p := t.p) (h2 _ this)
theorem lexL_wf {s : List UInt8} {ts : List Tok} (h : lexL s = .ok ts) : WF ts := by
 unfold lexL at h
 split at h
 ·cases h
 ·exact lexG_wf h
end Go.Proofs.YtomimkgaelkaoaaGreatDoor
