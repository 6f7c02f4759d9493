/- Plain mathematics of layer 3: a width cut in two. No program. -/
import Derived.Test.YtkalflhepnbppaaBitsP
namespace Go.Proofs.Ytkalflhepnbppaa
set_option linter.unusedVariables false
/-- The widths with the one at place k cut into x and y. -/
def cutL (l : List Int) (k : Nat) (x y : Int) : List Int := l.take k ++ [x, y] ++ l.drop (k + 1)
theorem cutL_length {l : List Int} {k : Nat} (h : k < l.length) (x y : Int) : (cutL l k x y).length = l.length + 1 := by
  simp [cutL]; omega
theorem cutL_el {l : List Int} {k : Nat} (h : k < l.length) (x y : Int) (j : Nat) : el (cutL l k x y) j = if j < k then el l j else if j = k then x else if j = k + 1 then y else el l (j - 1) := by
  unfold cutL
  by_cases h1 : j < k
  · rw [if_pos h1, el_append_left (by simp; omega), el_append_left (by simp; omega)]
    simp [el, h1]
  · rw [if_neg h1]
    by_cases h2 : j = k
    · subst h2
      rw [if_pos rfl, el_append_left (by simp; omega), el_append_right (by simp; omega)]
      simp [el, show min j l.length = j from by omega]
    · rw [if_neg h2]
      by_cases h3 : j = k + 1
      · subst h3
        rw [if_pos rfl, el_append_left (by simp; omega), el_append_right (by simp; omega)]
        simp [el, show min k l.length = k from by omega]
      · rw [if_neg h3, el_append_right (by simp; omega)]
        simp only [el, List.length_append, List.length_take, List.getElem?_drop]
        rw [show k + 1 + (j - (min k l.length + [x, y].length)) = j - 1 from by simp; omega]
theorem sum_append (l m : List Int) : (l ++ m).sum = l.sum + m.sum := by
  induction l with
  | nil => simp
  | cons a l ih => simp [ih]; omega
theorem cutL_sum {l : List Int} {k : Nat} (h : k < l.length) (x y : Int) (e : el l k = x + y) : (cutL l k x y).sum = l.sum := by
  have h1 : l = l.take k ++ el l k :: l.drop (k + 1) := by
    rw [el_get h, ← List.drop_eq_getElem_cons h, List.take_append_drop]
  have h2 : l.sum = (l.take k).sum + (el l k + (l.drop (k + 1)).sum) := by
    have h3 : (l.take k ++ el l k :: l.drop (k + 1)).sum = l.sum := by rw [← h1]
    rw [← h3, sum_append, List.sum_cons]
  unfold cutL
  rw [sum_append, sum_append, h2, e]
  simp
  omega
theorem cutL_goes {t : Int} {l : List Int} (g : Goes t l) {k : Nat} (h : k < l.length) {x y : Int} (hx : 1 ≤ x) (hy : 1 ≤ y) (e : el l k = x + y) : Goes t (cutL l k x y) := by
  refine ⟨g.1, fun j hj => ?_, by rw [cutL_sum h x y e]; exact g.2.2⟩
  rw [cutL_length h] at hj
  rw [cutL_el h]
  have hk := g.2.1 k h
  by_cases h1 : j < k
  · rw [if_pos h1]; exact g.2.1 j (by omega)
  · rw [if_neg h1]
    by_cases h2 : j = k
    · rw [if_pos h2]; omega
    · rw [if_neg h2]
      by_cases h3 : j = k + 1
      · rw [if_pos h3]; omega
      · rw [if_neg h3]; exact g.2.1 (j - 1) (by omega)
theorem cutL_wd {l : List Int} {k : Nat} (h : k < l.length) (x y : Int) (j : Nat) : wd (cutL l k x y) j = if j < k then wd l j else if j = k then x.toNat else if j = k + 1 then y.toNat else wd l (j - 1) := by
  unfold wd
  rw [cutL_el h]
  split
  · rfl
  · split
    · rfl
    · split <;> rfl
theorem cutL_rst_hi {l : List Int} {k : Nat} (h : k < l.length) (x y : Int) (j : Nat) (hj : k + 2 ≤ j) : rst (cutL l k x y) j = rst l (j - 1) := by
  unfold rst cutL
  rw [List.drop_append, List.drop_eq_nil_of_le (by simp; omega), List.nil_append, List.drop_drop]
  rw [show k + 1 + (j - (l.take k ++ [x, y]).length) = j - 1 from by simp; omega]
theorem cutL_rst {l : List Int} {k : Nat} (h : k < l.length) {x y : Int} (hx : 0 ≤ x) (hy : 0 ≤ y) (e : el l k = x + y) : rst (cutL l k x y) (k + 1) = y.toNat + rst l (k + 1) ∧ ∀ j, j ≤ k → rst (cutL l k x y) j = rst l j := by
  have hl := cutL_length h x y
  have h1 : rst (cutL l k x y) (k + 1) = y.toNat + rst l (k + 1) := by
    rw [rst_step (by omega), cutL_wd h, if_neg (by omega), if_neg (by omega), if_pos rfl, cutL_rst_hi h x y _ (by omega)]
    rfl
  refine ⟨h1, fun j hj => ?_⟩
  obtain ⟨m, hm⟩ : ∃ m, m = k - j := ⟨_, rfl⟩
  induction m generalizing j with
  | zero =>
    obtain rfl : j = k := by omega
    rw [rst_step (by omega), cutL_wd h, if_neg (by omega), if_pos rfl, h1, rst_step h]
    unfold wd
    omega
  | succ m ih =>
    have h2 := ih (j + 1) (by omega) (by omega)
    rw [rst_step (by omega), cutL_wd h, if_pos (by omega), h2, ← rst_step (by omega)]
/-- The two parts of one. -/
theorem part_two (n r : Nat) {a b : Nat} : part n (b + r) a * 2 ^ b ||| part n r b = part n r (a + b) := by
  rw [Nat.mul_comm, ← Nat.two_pow_add_eq_or_of_lt (part_lt n r b)]
  unfold part
  rw [Nat.add_comm b r, Nat.pow_add, ← Nat.div_div_eq_div_mul, Nat.add_comm a b, Nat.pow_add, Nat.mod_mul]
  omega
/-- The parts by the cut widths, with the two parts put together. -/
theorem cut_parts (n : Nat) {l : List Int} {k : Nat} (h : k < l.length) {x y : Int} (hx : 0 ≤ x) (hy : 0 ≤ y) (e : el l k = x + y) (z : Int)
    (hz : z = ((part n (y.toNat + rst l (k + 1)) x.toNat * 2 ^ y.toNat ||| part n (rst l (k + 1)) y.toNat : Nat) : Int)) :
    (partsL n (cutL l k x y)).take k ++ [z] ++ (partsL n (cutL l k x y)).drop (k + 2) = partsL n l := by
  have hl := cutL_length h x y
  have hp := partsL_length n (cutL l k x y)
  obtain ⟨r1, r2⟩ := cutL_rst h hx hy e
  apply ext_el (by simp [partsL_length, hl]; omega)
  intro j hj
  simp only [List.length_append, List.length_take, List.length_drop, hp, hl, List.length_cons, List.length_nil] at hj
  rw [partsL_el n l j (by omega)]
  by_cases h1 : j < k
  · rw [el_append_left (by simp [hp]; omega), el_append_left (by simp [hp]; omega)]
    rw [show el ((partsL n (cutL l k x y)).take k) j = el (partsL n (cutL l k x y)) j from by simp [el, h1], partsL_el _ _ _ (by omega), r2 _ (by omega), cutL_wd h, if_pos h1]
  · by_cases h2 : j = k
    · subst h2
      rw [el_append_left (by simp [hp, hl]; omega), el_append_right (by simp; omega)]
      rw [show el [z] (j - ((partsL n (cutL l j x y)).take j).length) = z from by simp [el, hp, hl, show min j (l.length + 1) = j from by omega], hz, part_two]
      have : x.toNat + y.toNat = wd l j := by unfold wd; omega
      rw [this]
    · rw [el_append_right (by simp [hp]; omega)]
      have e3 : el ((partsL n (cutL l k x y)).drop (k + 2)) (j - ((partsL n (cutL l k x y)).take k ++ [z]).length) = el (partsL n (cutL l k x y)) (j + 1) := by
        simp only [el, List.getElem?_drop]
        rw [show k + 2 + (j - ((partsL n (cutL l k x y)).take k ++ [z]).length) = j + 1 from by simp [hp, hl]; omega]
      rw [e3, partsL_el _ _ _ (by omega), cutL_rst_hi h x y _ (by omega), cutL_wd h, if_neg (by omega), if_neg (by omega), if_neg (by omega)]
      simp
end Go.Proofs.Ytkalflhepnbppaa
