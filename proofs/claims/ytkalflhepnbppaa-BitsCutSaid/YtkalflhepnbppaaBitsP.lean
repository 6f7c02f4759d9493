/- Plain mathematics of layer 3: widths, parts of a number, and the number of parts. No program. -/
import Derived.Test.YtkalflhepnbppaaWordQ
namespace Go.Proofs.Ytkalflhepnbppaa
set_option linter.unusedVariables false

/-- Do widths go into a total? -/
def isTotal (t : Int) : Prop := t = 8 ∨ t = 16 ∨ t = 24 ∨ t = 32 ∨ t = 64
def Goes (t : Int) (l : List Int) : Prop := isTotal t ∧ (∀ j, j < l.length → 1 ≤ el l j ∧ el l j ≤ 64) ∧ l.sum = t
open Classical in
noncomputable def goesB (t : Int) (l : List Int) : Bool := decide (Goes t l)
theorem goes_of {t : Int} {l : List Int} (h : goesB t l = true) : Goes t l := by simpa [goesB] using h
theorem goesB_true {t : Int} {l : List Int} (h : Goes t l) : goesB t l = true := by simpa [goesB] using h
theorem goesB_false {t : Int} {l : List Int} (h : ¬ Goes t l) : goesB t l = false := by simpa [goesB] using h
theorem Goes.total {t : Int} {l : List Int} (h : Goes t l) : 8 ≤ t ∧ t ≤ 64 := by have := h.1; unfold isTotal at this; omega

theorem el_cons_succ (x : Int) (l : List Int) (j : Nat) : el (x :: l) (j + 1) = el l j := by simp [el]
theorem el_cons_zero (x : Int) (l : List Int) : el (x :: l) 0 = x := by simp [el]
theorem el_get {l : List Int} {j : Nat} (h : j < l.length) : el l j = l[j] := by simp [el, h]
theorem el_map {α : Type} (f : α → Int) (l : List α) (j : Nat) (h : j < l.length) : el (l.map f) j = f l[j] := by simp [el, h]
theorem el_append_left {l m : List Int} {j : Nat} (h : j < l.length) : el (l ++ m) j = el l j := by simp [el, List.getElem?_append, h]
theorem el_append_right {l m : List Int} {j : Nat} (h : l.length ≤ j) : el (l ++ m) j = el m (j - l.length) := by
  simp only [el]; rw [List.getElem?_append_right h]
theorem ext_el {l m : List Int} (h : l.length = m.length) (he : ∀ j, j < l.length → el l j = el m j) : l = m := by
  apply List.ext_getElem h
  intro j h1 h2
  have := he j h1
  rwa [el_get h1, el_get h2] at this

/-- The sum of the first k widths. -/
def pre (l : List Int) (k : Nat) : Int := (l.take k).sum
theorem pre_zero (l : List Int) : pre l 0 = 0 := by simp [pre]
theorem pre_succ (l : List Int) (k : Nat) : pre l (k + 1) = pre l k + el l k := by
  induction l generalizing k with
  | nil => simp [pre, el]
  | cons x l ih =>
    cases k with
    | zero => simp [pre, el]
    | succ k =>
      have := ih k
      simp only [pre, List.take_succ_cons, List.sum_cons, el_cons_succ] at this ⊢
      omega
theorem pre_all (l : List Int) : pre l l.length = l.sum := by simp [pre]
theorem pre_mono {l : List Int} (h : ∀ j, j < l.length → 1 ≤ el l j) (k m : Nat) (hkm : k ≤ m) (hm : m ≤ l.length) : pre l k + (m - k : Nat) ≤ pre l m := by
  induction m with
  | zero => simp [show k = 0 from by omega]
  | succ m ih =>
    by_cases e : k = m + 1
    · subst e; simp
    · have h1 := ih (by omega) (by omega)
      have h2 := h m (by omega)
      rw [pre_succ]
      omega

theorem Goes.len {t : Int} {l : List Int} (h : Goes t l) : 1 ≤ l.length ∧ l.length ≤ 64 := by
  have h1 := h.total
  have h2 := pre_mono (fun j hj => (h.2.1 j hj).1) 0 l.length (by omega) (by omega)
  rw [pre_all, h.2.2, pre_zero] at h2
  constructor
  · rcases Nat.eq_zero_or_pos l.length with h0 | h0
    · have e : l = [] := List.eq_nil_of_length_eq_zero h0
      have := h.2.2
      rw [e] at this
      simp at this
      omega
    · omega
  · omega

theorem goes_total {t : Int} {l : List Int} (h : ¬ isTotal t) : goesB t l = false := goesB_false fun g => h g.1
theorem goes_low {t : Int} {l : List Int} {k : Nat} (hk : k < l.length) (h : el l k < 1) : goesB t l = false :=
  goesB_false fun g => by have := (g.2.1 k hk).1; omega
theorem goes_wide {t : Int} {l : List Int} {k : Nat} (hk : k < l.length) (h : 64 < el l k) : goesB t l = false :=
  goesB_false fun g => by have := (g.2.1 k hk).2; omega
theorem goes_high {t : Int} {l : List Int} {k : Nat} (hk : k < l.length) (h : t < pre l k + el l k) : goesB t l = false :=
  goesB_false fun g => by
    have h2 := pre_mono (fun j hj => (g.2.1 j hj).1) (k + 1) l.length (by omega) (by omega)
    rw [pre_all, g.2.2, pre_succ] at h2
    omega
theorem goes_end {t : Int} {l : List Int} (ht : isTotal t) (h : ∀ j, j < l.length → 1 ≤ el l j ∧ el l j ≤ 64) : goesB t l = decide (pre l l.length = t) := by
  rw [pre_all]
  by_cases e : l.sum = t
  · rw [goesB_true ⟨ht, h, e⟩]; simp [e]
  · rw [goesB_false fun g => e g.2.2]; simp [e]

theorem goes_rest {t s : Int} {l : List Int} (ht : isTotal t) (h : ∀ j, j < l.length → 1 ≤ el l j ∧ el l j ≤ 64) (e : s + pre l l.length = t) : (s == 0) = goesB t l := by
  rw [goes_end ht h]
  rw [Bool.eq_iff_iff]
  simp
  omega

/-- The bits behind the first k widths. -/
def rst (l : List Int) (k : Nat) : Nat := ((l.drop k).map Int.toNat).sum
/-- The width at place k. -/
def wd (l : List Int) (k : Nat) : Nat := (el l k).toNat
theorem rst_step {l : List Int} {k : Nat} (hk : k < l.length) : rst l k = wd l k + rst l (k + 1) := by
  unfold rst wd
  rw [List.drop_eq_getElem_cons hk, el_get hk, List.map_cons, List.sum_cons]
theorem rst_all (l : List Int) : rst l l.length = 0 := by simp [rst]
theorem goes_rst {t : Int} {l : List Int} (h : Goes t l) (k : Nat) (hk : k ≤ l.length) : (rst l k : Int) = t - pre l k := by
  obtain ⟨m, hm⟩ : ∃ m, m = l.length - k := ⟨_, rfl⟩
  induction m generalizing k with
  | zero =>
    obtain rfl : k = l.length := by omega
    rw [rst_all, pre_all, h.2.2]; simp
  | succ m ih =>
    have h1 := ih (k + 1) (by omega) (by omega)
    have h2 := h.2.1 k (by omega)
    rw [rst_step (by omega)]
    rw [pre_succ] at h1
    unfold wd
    omega
theorem goes_wd {t : Int} {l : List Int} (h : Goes t l) {k : Nat} (hk : k < l.length) : el l k = wd l k ∧ 1 ≤ wd l k ∧ wd l k ≤ 64 := by
  have h2 := h.2.1 k hk
  unfold wd
  omega
theorem goes_rst_lt {t : Int} {l : List Int} (h : Goes t l) {k : Nat} (hk : k < l.length) : rst l (k + 1) + wd l k ≤ 64 ∧ rst l (k + 1) ≤ 63 ∧ rst l k = rst l (k + 1) + wd l k ∧ rst l k ≤ 64 := by
  have h1 := rst_step hk
  have h2 := goes_rst h k (by omega)
  have h3 := h.total
  have h4 := (goes_wd h hk).2.1
  have h5 := pre_mono (fun j hj => (h.2.1 j hj).1) 0 k (by omega) (by omega)
  rw [pre_zero] at h5
  omega
theorem goes_rst_zero {t : Int} {l : List Int} (h : Goes t l) : rst l 0 = t.toNat := by
  have := goes_rst h 0 (by omega)
  rw [pre_zero] at this
  omega
theorem rst_mono {l : List Int} {i k : Nat} (h : i ≤ k) : rst l k ≤ rst l i := by
  obtain ⟨m, rfl⟩ : ∃ m, k = i + m := ⟨k - i, by omega⟩
  induction m with
  | zero => exact Nat.le_refl _
  | succ m ih =>
    have h1 := ih (by omega)
    by_cases hk : i + m < l.length
    · have := rst_step hk
      rw [show i + (m + 1) = i + m + 1 from by omega]
      omega
    · have : rst l (i + (m + 1)) = 0 := by unfold rst; rw [List.drop_eq_nil_of_le (by omega)]; rfl
      omega

/-- The part of n with b bits behind it, d wide. -/
def part (n b d : Nat) : Nat := n / 2 ^ b % 2 ^ d
theorem part_lt (n b d : Nat) : part n b d < 2 ^ d := Nat.mod_lt _ (Nat.pow_pos (by decide))
theorem part_le (n b d : Nat) : part n b d ≤ n := Nat.le_trans (Nat.mod_le _ _) (Nat.div_le_self _ _)
theorem part_bit (n b d j : Nat) : (part n b d).testBit j = (decide (j < d) && n.testBit (j + b)) := by
  rw [part, Nat.testBit_mod_two_pow, Nat.testBit_div_two_pow]
/-- The document's part by any place and width. -/
def partV (n : Nat) (b d : Int) : Nat := if 0 ≤ b ∧ b ≤ 63 ∧ 1 ≤ d ∧ d ≤ 64 then part n b.toNat d.toNat else 0
theorem partV_out {n : Nat} {b d : Int} (h : b < 0 ∨ 63 < b ∨ d < 1 ∨ 64 < d) : partV n b d = 0 := by
  unfold partV; rw [if_neg (by omega)]
theorem partV_in {n b d : Nat} (h1 : b ≤ 63) (h2 : 1 ≤ d) (h3 : d ≤ 64) : partV n b d = part n b d := by
  unfold partV; rw [if_pos (by omega)]; simp
/-- From place i on, up to place e. -/
theorem part_down (n e i : Nat) (h : i < e) : part n i (e - i) = part n (i + 1) (e - (i + 1)) + part n (i + 1) (e - (i + 1)) + n / 2 ^ i % 2 := by
  unfold part
  have e1 : e - i = (e - (i + 1)) + 1 := by omega
  rw [e1, Nat.pow_succ, Nat.pow_succ, ← Nat.div_div_eq_div_mul, Nat.mul_comm _ 2, Nat.mod_mul]
  omega
theorem part_none (n e : Nat) : part n e 0 = 0 := by unfold part; omega
theorem part_high {n e i : Nat} (hn : n < 2 ^ 64) (h : 64 ≤ i) : part n i (e - i) = 0 := by
  unfold part
  rw [Nat.div_eq_of_lt (Nat.lt_of_lt_of_le hn (Nat.pow_le_pow_right (by decide) h))]
  simp

/-- The parts of n by the widths. -/
def partsL (n : Nat) (l : List Int) : List Int := (List.range l.length).map fun i => ((part n (rst l (i + 1)) (wd l i) : Nat) : Int)
theorem partsL_length (n : Nat) (l : List Int) : (partsL n l).length = l.length := by simp [partsL]
theorem partsL_el (n : Nat) (l : List Int) (j : Nat) (h : j < l.length) : el (partsL n l) j = (part n (rst l (j + 1)) (wd l j) : Nat) := by
  simp [partsL, el, h]
theorem partsL_take (n : Nat) (l : List Int) (j : Nat) (h : j < l.length) : (partsL n l).take (j + 1) = (partsL n l).take j ++ [((part n (rst l (j + 1)) (wd l j) : Nat) : Int)] := by
  rw [List.take_succ_eq_append_getElem (by rw [partsL_length]; exact h)]
  simp [partsL]
/-- Filled up to place k, zeros behind. -/
def partsTo (n : Nat) (l : List Int) (k : Nat) : List Int := (List.range l.length).map fun i => if i < k then ((part n (rst l (i + 1)) (wd l i) : Nat) : Int) else 0
theorem partsTo_length (n : Nat) (l : List Int) (k : Nat) : (partsTo n l k).length = l.length := by simp [partsTo]
theorem partsTo_zero (n : Nat) (l : List Int) : partsTo n l 0 = List.replicate l.length 0 := by
  apply List.ext_getElem (by simp [partsTo])
  intro j h1 h2
  simp [partsTo]
theorem partsTo_all (n : Nat) (l : List Int) : partsTo n l l.length = partsL n l := by
  apply List.ext_getElem (by simp [partsTo, partsL])
  intro j h1 h2
  simp [partsTo] at h1
  simp [partsTo, partsL, h1]
theorem partsTo_succ (n : Nat) (l : List Int) (k : Nat) : partsTo n l (k + 1) = (partsTo n l k).set k ((part n (rst l (k + 1)) (wd l k) : Nat) : Int) := by
  apply List.ext_getElem (by simp [partsTo])
  intro j h1 h2
  rw [List.getElem_set]
  by_cases e : k = j
  · subst e; simp [partsTo]
  · rw [if_neg e]
    simp only [partsTo, List.getElem_map, List.getElem_range]
    by_cases h : j < k
    · rw [if_pos h, if_pos (by omega)]
    · rw [if_neg h, if_neg (by omega)]

/-- The number of the first k parts. -/
def jn (ps l : List Int) : Nat → Nat
  | 0 => 0
  | k + 1 => jn ps l k * 2 ^ wd l k + (el ps k).toNat
/-- Does the part at place k go into its width? -/
def goesIn (ps l : List Int) (k : Nat) : Prop := (el ps k).toNat < 2 ^ wd l k
theorem jn_lt {t : Int} {ps l : List Int} (h : Goes t l) (k : Nat) (hk : k ≤ l.length) (hf : ∀ j, j < k → goesIn ps l j) : jn ps l k * 2 ^ rst l k < 2 ^ rst l 0 := by
  induction k with
  | zero => simp [jn]; exact Nat.pow_pos (by decide)
  | succ k ih =>
    have h1 := ih (by omega) (fun j hj => hf j (by omega))
    have h2 := hf k (by omega)
    have h3 := rst_step (l := l) (k := k) (by omega)
    have h4 : 2 ^ rst l k = 2 ^ wd l k * 2 ^ rst l (k + 1) := by rw [h3, Nat.pow_add]
    have h0 : 2 ^ rst l 0 = 2 ^ (rst l 0 - rst l k) * 2 ^ rst l k := by
      rw [← Nat.pow_add, Nat.sub_add_cancel (rst_mono (Nat.zero_le k))]
    rw [h0] at h1 ⊢
    have h5 : jn ps l k < 2 ^ (rst l 0 - rst l k) := Nat.lt_of_mul_lt_mul_right h1
    unfold goesIn at h2
    simp only [jn]
    rw [h4, ← Nat.mul_assoc]
    apply Nat.mul_lt_mul_of_pos_right _ (Nat.pow_pos (by decide))
    calc jn ps l k * 2 ^ wd l k + (el ps k).toNat < jn ps l k * 2 ^ wd l k + 2 ^ wd l k := by omega
      _ = (jn ps l k + 1) * 2 ^ wd l k := by rw [Nat.add_mul]; omega
      _ ≤ 2 ^ (rst l 0 - rst l k) * 2 ^ wd l k := Nat.mul_le_mul_right _ h5
/-- A part more, put in by 'or'. -/
theorem jn_or {ps l : List Int} {k : Nat} (hk : k < l.length) (hf : goesIn ps l k) :
    jn ps l k * 2 ^ rst l k ||| (el ps k).toNat * 2 ^ rst l (k + 1) = jn ps l (k + 1) * 2 ^ rst l (k + 1) := by
  have h3 := rst_step (l := l) (k := k) hk
  have h4 : 2 ^ rst l k = 2 ^ wd l k * 2 ^ rst l (k + 1) := by rw [h3, Nat.pow_add]
  have h5 : (el ps k).toNat * 2 ^ rst l (k + 1) < 2 ^ rst l k := by
    rw [h4]; exact Nat.mul_lt_mul_of_pos_right hf (Nat.pow_pos (by decide))
  rw [Nat.mul_comm (jn ps l k), ← Nat.two_pow_add_eq_or_of_lt h5]
  simp only [jn]
  rw [h4, Nat.add_mul, Nat.mul_comm (2 ^ wd l k * 2 ^ rst l (k + 1)), Nat.mul_assoc]

/-- Split and joined again. -/
theorem jn_parts (n : Nat) {l : List Int} (hn : n < 2 ^ rst l 0) (k : Nat) (hk : k ≤ l.length) : jn (partsL n l) l k = n / 2 ^ rst l k := by
  induction k with
  | zero => simp [jn, Nat.div_eq_of_lt hn]
  | succ k ih =>
    have h3 := rst_step (l := l) (k := k) (by omega)
    simp only [jn]
    have e : n / 2 ^ rst l k = n / 2 ^ rst l (k + 1) / 2 ^ wd l k := by rw [h3, Nat.add_comm, Nat.pow_add, Nat.div_div_eq_div_mul]
    rw [ih (by omega), partsL_el _ _ _ (by omega), Int.toNat_natCast, e, Nat.mul_comm]
    exact Nat.div_add_mod (n / 2 ^ rst l (k + 1)) (2 ^ wd l k)
theorem jn_back (n : Nat) {l : List Int} (hn : n < 2 ^ rst l 0) : jn (partsL n l) l l.length = n := by
  rw [jn_parts n hn _ (Nat.le_refl _), rst_all]; simp
theorem parts_in (n : Nat) (l : List Int) (k : Nat) (hk : k < l.length) : goesIn (partsL n l) l k := by
  unfold goesIn
  rw [partsL_el _ _ _ hk, Int.toNat_natCast]
  exact part_lt _ _ _

end Go.Proofs.Ytkalflhepnbppaa
