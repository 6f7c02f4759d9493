/- Layer 7, the mathematics: enough steps are enough; operators level by level. No program. · Layer 7: the document's parser: expressions. -/
import Derived.Test.YthcdohggffpopaaGreatDoorC1ParseQ
import Derived.Test.YthcdohggffpopaaGreatDoorC1DocC
namespace Go.Proofs.YthcdohggffpopaaGreatDoor
open Go.Lib (hid)
theorem bind_same {α β : Type} {r r' : PR α} {f f' : α → List Tok → PR β} (h : r = r') (k : ∀ a l, r = .ok a l → f a l = f' a l) : r.bind f = r'.bind f' := by
  subst h
  cases r with
  | ok a l => exact k a l rfl
  | bad l e => rfl
theorem good_ok {α : Type} {s : Nat} {l l' : List Tok} {r : PR α} {a : α} (h : Good s l r) (hw : WF l) (e : r = .ok a l') : WF l' ∧ l'.length + s ≤ l.length := by
  have := h hw
  rw [e] at this
  exact this
theorem expr_fuel : ∀ n, (∀ m d l, WF l → 8 * l.length + 1 ≤ n → 8 * l.length + 1 ≤ m → unary n d l = unary m d l) ∧
    (∀ m v d l, 1 ≤ v → WF l → 8 * l.length + 2 ≤ n → 8 * l.length + 2 ≤ m → bin n v d l = bin m v d l) ∧
    (∀ m v d a l, 1 ≤ v → WF l → 8 * l.length + 2 ≤ n → 8 * l.length + 2 ≤ m → loopB n v d a l = loopB m v d a l)
  | 0 => ⟨fun m d l _ h _ => by omega, fun m v d l _ _ h _ => by omega, fun m v d a l _ _ h _ => by omega⟩
  | n + 1 => by
    obtain ⟨i1, i2, i3⟩ := expr_fuel n
    refine ⟨fun m d l hw h1 h2 => ?_, fun m v d l hv hw h1 h2 => ?_, fun m v d a l hv hw h1 h2 => ?_⟩
    · obtain ⟨m, rfl⟩ : ∃ m', m = m' + 1 := ⟨m - 1, by omega⟩
      have hp := hw.pos
      have htl : l.tail.length = l.length - 1 := List.length_tail
      rw [unary, unary]
      split
      · rename_i h
        have hwt := hw.isT h (by decide)
        refine bind_same rfl fun _ l1 e => ?_
        obtain ⟨rfl, _⟩ := enter_same e
        exact bind_same (i1 _ _ _ hwt (by omega) (by omega)) fun _ _ _ => rfl
      · split
        · rename_i h
          have hwt := hw.isT h (by decide)
          refine bind_same rfl fun _ l1 e => ?_
          obtain ⟨rfl, _⟩ := enter_same e
          exact bind_same (i2 _ _ _ _ (Nat.le_refl _) hwt (by omega) (by omega)) fun _ _ _ => rfl
        · rfl
    · obtain ⟨m, rfl⟩ : ∃ m', m = m' + 1 := ⟨m - 1, by omega⟩
      rw [bin, bin]
      refine bind_same (i1 _ _ _ hw (by omega) (by omega)) fun a l1 e => ?_
      obtain ⟨w1, k1⟩ := good_ok ((good_expr n).1 d l) hw e
      exact i3 _ _ _ _ _ hv w1 (by omega) (by omega)
    · obtain ⟨m, rfl⟩ : ∃ m', m = m' + 1 := ⟨m - 1, by omega⟩
      rw [loopB, loopB]
      split
      · rename_i h
        have hwt := hw.tailT (level_ne hv h)
        have hp := hw.pos
        have htl : l.tail.length = l.length - 1 := List.length_tail
        refine bind_same (i2 _ _ _ _ (by omega) hwt (by omega) (by omega)) fun b l1 e => ?_
        obtain ⟨w1, k1⟩ := good_ok (good_bin n _ d l.tail (by omega)) hwt e
        exact i3 _ _ _ _ _ hv w1 (by omega) (by omega)
      · rfl
theorem bin_fuel {n m v d : Nat} {l : List Tok} (hv : 1 ≤ v) (hw : WF l) (h1 : 8 * l.length + 2 ≤ n) (h2 : 8 * l.length + 2 ≤ m) : bin n v d l = bin m v d l := (expr_fuel n).2.1 m v d l hv hw h1 h2
theorem unary_fuel {n m d : Nat} {l : List Tok} (hw : WF l) (h1 : 8 * l.length + 1 ≤ n) (h2 : 8 * l.length + 1 ≤ m) : unary n d l = unary m d l := (expr_fuel n).1 m d l hw h1 h2
theorem loop_stop : ∀ (n v d : Nat) (a a' : EA) (l l' : List Tok), loopB n v d a l = .ok a' l' → levelL (hd l').tk.t < v
  | 0, v, d, a, a', l, l', h => by rw [loopB] at h; cases h
  | n + 1, v, d, a, a', l, l', h => by
    rw [loopB] at h
    split at h
    · cases hb : bin n (levelL (hd l).tk.t + 1) d l.tail with
      | bad l1 e => rw [hb] at h; cases h
      | ok b l1 => rw [hb] at h; exact loop_stop n v d _ a' l1 l' h
    · cases h; omega
theorem bin_stop {n v d : Nat} {a : EA} {l l' : List Tok} (h : bin n v d l = .ok a l') : levelL (hd l').tk.t < v := by
  cases n with
  | zero => rw [bin] at h; cases h
  | succ n =>
    rw [bin] at h
    cases hu : unary n d l with
    | bad l1 e => rw [hu] at h; cases h
    | ok b l1 => rw [hu] at h; exact loop_stop n v d b a l1 l' h
def loopD : Nat → Nat → Nat → EA → List Tok → PR EA
  | 0, _, _, _, l => .bad l 99
  | n + 1, v, d, a, l =>
    if levelL (hd l).tk.t = v then (bin n (v + 1) d l.tail).bind fun b l1 => loopD n v d (.bin (hd l).tk.t a b) l1
    else .ok a l
theorem loopD_fuel : ∀ (n m v d : Nat) (a : EA) (l : List Tok), 1 ≤ v → WF l → 8 * l.length + 2 ≤ n → 8 * l.length + 2 ≤ m → loopD n v d a l = loopD m v d a l
  | 0, m, v, d, a, l, _, _, h, _ => by omega
  | n + 1, m, v, d, a, l, hv, hw, h1, h2 => by
    obtain ⟨m, rfl⟩ : ∃ m', m = m' + 1 := ⟨m - 1, by omega⟩
    rw [loopD, loopD]
    split
    · rename_i h
      have hwt := hw.tailT (level_ne hv (by omega : v ≤ _))
      have hp := hw.pos
      have htl : l.tail.length = l.length - 1 := List.length_tail
      refine bind_same (bin_fuel (by omega) hwt (by omega) (by omega)) fun b l1 e => ?_
      obtain ⟨w1, k1⟩ := good_ok (good_bin n _ d l.tail (by omega)) hwt e
      exact loopD_fuel n m v d _ l1 hv w1 (by omega) (by omega)
    · rfl
theorem loopD_step {n v d : Nat} {a : EA} {l : List Tok} (hv : 1 ≤ v) (hw : WF l) (h1 : 8 * l.length + 2 ≤ n) (h : levelL (hd l).tk.t = v) : loopD n v d a l = (bin n (v + 1) d l.tail).bind fun b l1 => loopD n v d (.bin (hd l).tk.t a b) l1 := by
  obtain ⟨n, rfl⟩ : ∃ n', n = n' + 1 := ⟨n - 1, by omega⟩
  have hwt := hw.tailT (level_ne hv (by omega : v ≤ _))
  have hp := hw.pos
  have htl : l.tail.length = l.length - 1 := List.length_tail
  rw [loopD, if_pos h]
  refine bind_same (bin_fuel (by omega) hwt (by omega) (by omega)) fun b l1 e => ?_
  obtain ⟨w1, k1⟩ := good_ok (good_bin n _ d l.tail (by omega)) hwt e
  exact loopD_fuel n (n + 1) v d _ l1 hv w1 (by omega) (by omega)
theorem loopD_stop {n v d : Nat} {a : EA} {l : List Tok} (h1 : 1 ≤ n) (h : levelL (hd l).tk.t ≠ v) : loopD n v d a l = .ok a l := by
  obtain ⟨n, rfl⟩ : ∃ n', n = n' + 1 := ⟨n - 1, by omega⟩
  rw [loopD, if_neg h]
theorem loop_level : ∀ (n v d : Nat) (a : EA) (l : List Tok), 1 ≤ v → WF l → 8 * l.length + 2 ≤ n → loopB n v d a l = (loopB n (v + 1) d a l).bind fun a l1 => loopD n v d a l1
  | 0, v, d, a, l, _, _, h => by omega
  | n + 1, v, d, a, l, hv, hw, h1 => by
    rw [loopB, loopB]
    have hp := hw.pos
    have htl : l.tail.length = l.length - 1 := List.length_tail
    by_cases h : v + 1 ≤ levelL (hd l).tk.t
    · rw [if_pos h, if_pos (by omega), PR.bind_assoc]
      have hwt := hw.tailT (level_ne hv (by omega : v ≤ _))
      refine bind_same rfl fun b l1 e => ?_
      obtain ⟨w1, k1⟩ := good_ok (good_bin n _ d l.tail (by omega)) hwt e
      rw [loop_level n v d _ l1 hv w1 (by omega)]
      refine bind_same rfl fun a' l2 e2 => ?_
      obtain ⟨w2, k2⟩ := good_ok ((good_expr n).2.2 (v + 1) d _ l1 (by omega)) w1 e2
      exact loopD_fuel _ _ _ _ _ _ hv w2 (by omega) (by omega)
    · rw [if_neg h, PR.bind_ok, loopD]
      by_cases hq : levelL (hd l).tk.t = v
      · rw [if_pos (by omega), if_pos hq, hq]
        have hwt := hw.tailT (level_ne hv (by omega : v ≤ _))
        refine bind_same rfl fun b l1 e => ?_
        obtain ⟨w1, k1⟩ := good_ok (good_bin n _ d l.tail (by omega)) hwt e
        have hs := bin_stop e
        rw [loop_level n v d _ l1 hv w1 (by omega)]
        obtain ⟨n, rfl⟩ : ∃ n', n = n' + 1 := ⟨n - 1, by omega⟩
        rw [loopB, if_neg (by omega), PR.bind_ok]
      · rw [if_neg (by omega), if_neg hq]
theorem bin_level {n v d : Nat} {l : List Tok} (hv : 1 ≤ v) (hw : WF l) (h1 : 8 * l.length + 2 ≤ n) : bin n v d l = (bin n (v + 1) d l).bind fun a l1 => loopD n v d a l1 := by
  obtain ⟨n, rfl⟩ : ∃ n', n = n' + 1 := ⟨n - 1, by omega⟩
  have hp := hw.pos
  rw [bin, bin, PR.bind_assoc]
  refine bind_same rfl fun a l1 e => ?_
  obtain ⟨w1, k1⟩ := good_ok ((good_expr n).1 d l) hw e
  rw [loop_level n v d a l1 hv w1 (by omega)]
  refine bind_same rfl fun a' l2 e2 => ?_
  obtain ⟨w2, k2⟩ := good_ok ((good_expr n).2.2 (v + 1) d _ l1 (by omega)) w1 e2
  exact loopD_fuel _ _ _ _ _ _ hv w2 (by omega) (by omega)
theorem levelL_le (t : List UInt8) : levelL t ≤ 8 := by
  unfold levelL
  cases h : opsL.find? (fun x => x.1 == t) with
  | none => exact Nat.zero_le _
  | some p =>
    have hm := List.mem_of_find?_eq_some h
    have : ∀ x ∈ opsL, x.2 ≤ 8 := by decide
    exact this p hm
theorem bin_nine {n d : Nat} {l : List Tok} (hw : WF l) (h1 : 8 * l.length + 2 ≤ n) : bin n 9 d l = unary n d l := by
  obtain ⟨n, rfl⟩ : ∃ n', n = n' + 1 := ⟨n - 1, by omega⟩
  have hp := hw.pos
  rw [bin, unary_fuel (n := n + 1) (m := n) hw (by omega) (by omega)]
  cases hu : unary n d l with
  | bad l1 e => rfl
  | ok a l1 =>
    rw [PR.bind_ok]
    obtain ⟨w1, k1⟩ := good_ok ((good_expr n).1 d l) hw hu
    have := levelL_le (hd l1).tk.t
    obtain ⟨n, rfl⟩ : ∃ n', n = n' + 1 := ⟨n - 1, by omega⟩
    rw [loopB, if_neg (by omega)]
theorem bin_no {n v d : Nat} {l : List Tok} (hw : WF l) (h1 : 8 * l.length + 2 ≤ n) (h : begE l = false) : bin n v d l = .bad l 4 := by
  obtain ⟨n, rfl⟩ : ∃ n', n = n' + 2 := ⟨n - 2, by have := hw.pos; omega⟩
  unfold begE at h
  simp only [Bool.or_eq_false_iff] at h
  obtain ⟨⟨⟨q1, q2⟩, q3⟩, q4⟩ := h
  rw [bin, unary, if_neg (by rw [q1]; decide), if_neg (by rw [q2]; decide), if_neg (by rw [q3]; decide), if_neg (by rw [q4]; decide)]
  rfl
def argD : Nat → List EA → Nat → List Tok → PR (List EA)
  | 0, _, _, l => .bad l 99
  | n + 1, es, d, l => (if begE l = true then roomP es.length l else .ok () l).bind fun _ l1 => (bin n 1 d l1).bind fun e l2 => if isT sComma l2 = true then argD n (es ++ [e]) d l2.tail else .ok (es ++ [e]) l2
theorem argD_fuel : ∀ (n m : Nat) (es : List EA) (d : Nat) (l : List Tok), WF l → 8 * l.length + 3 ≤ n → 8 * l.length + 3 ≤ m → argD n es d l = argD m es d l
  | 0, m, es, d, l, _, h, _ => by omega
  | n + 1, m, es, d, l, hw, h1, h2 => by
    obtain ⟨m, rfl⟩ : ∃ m', m = m' + 1 := ⟨m - 1, by omega⟩
    rw [argD, argD]
    refine bind_same rfl fun _ l1 e => ?_
    have e1 : l1 = l := by
      split at e
      · exact (room_same e).1
      · cases e; rfl
    subst e1
    refine bind_same (bin_fuel (Nat.le_refl _) hw (by omega) (by omega)) fun x l2 e => ?_
    obtain ⟨w2, k2⟩ := good_ok (good_bin n 1 d l1 (Nat.le_refl _)) hw e
    split
    · rename_i hc
      have htl : l2.tail.length = l2.length - 1 := List.length_tail
      exact argD_fuel n m _ d _ (w2.isT hc (by decide)) (by omega) (by omega)
    · rfl
theorem argD_step {n : Nat} {es : List EA} {d : Nat} {l : List Tok} (hw : WF l) (h1 : 8 * l.length + 3 ≤ n) : argD n es d l = (if begE l = true then roomP es.length l else .ok () l).bind fun _ l1 => (bin n 1 d l1).bind fun e l2 => if isT sComma l2 = true then argD n (es ++ [e]) d l2.tail else .ok (es ++ [e]) l2 := by
  obtain ⟨n, rfl⟩ : ∃ n', n = n' + 1 := ⟨n - 1, by omega⟩
  conv => lhs; rw [argD]
  refine bind_same rfl fun _ l1 e => ?_
  have e1 : l1 = l := by
    split at e
    · exact (room_same e).1
    · cases e; rfl
  subst e1
  refine bind_same (bin_fuel (Nat.le_refl _) hw (by omega) (by omega)) fun x l2 e => ?_
  obtain ⟨w2, k2⟩ := good_ok (good_bin n 1 d l1 (Nat.le_refl _)) hw e
  split
  · rename_i hc
    have htl : l2.tail.length = l2.length - 1 := List.length_tail
    exact argD_fuel n (n + 1) _ d _ (w2.isT hc (by decide)) (by omega) (by omega)
  · rfl
theorem args_more : ∀ (n m : Nat) (es : List EA) (d : Nat) (l : List Tok), WF l → 8 * l.length + 3 ≤ n → 8 * l.length + 3 ≤ m → argsL n es d l = if isT sComma l = true then argD m es d l.tail else .ok es l
  | 0, m, es, d, l, _, h, _ => by omega
  | n + 1, m, es, d, l, hw, h1, h2 => by
    obtain ⟨m, rfl⟩ : ∃ m', m = m' + 1 := ⟨m - 1, by omega⟩
    have hp := hw.pos
    have htl : l.tail.length = l.length - 1 := List.length_tail
    rw [argsL]
    split
    · rename_i hc
      have hwt := hw.isT hc (by decide)
      rw [argD]
      unfold expectP
      cases hb : begE l.tail
      · rw [if_neg (by decide), if_neg (by decide), PR.bind_ok, bin_no hwt (by omega) hb]; rfl
      · rw [if_pos rfl, if_pos rfl, PR.bind_ok]
        refine bind_same rfl fun _ l1 e => ?_
        obtain ⟨rfl, _⟩ := room_same e
        refine bind_same (bin_fuel (Nat.le_refl _) hwt (by omega) (by omega)) fun x l2 e => ?_
        obtain ⟨w2, k2⟩ := good_ok (good_bin n 1 d l.tail (Nat.le_refl _)) hwt e
        exact args_more n m _ d l2 w2 (by omega) (by omega)
    · rfl
theorem args_doc {n m d : Nat} {l : List Tok} (hw : WF l) (h1 : 8 * l.length + 3 ≤ n) (h2 : 8 * l.length + 3 ≤ m) : argsP n d l = (argD m [] d l).bind fun es l => (need sRp l).bind fun _ l => .ok es l := by
  obtain ⟨m, rfl⟩ : ∃ m', m = m' + 1 := ⟨m - 1, by omega⟩
  unfold argsP
  rw [argD]
  have e0 : (if begE l = true then roomP ([] : List EA).length l else .ok () l) = .ok () l := by split <;> rfl
  rw [e0, PR.bind_ok, PR.bind_assoc]
  refine bind_same (bin_fuel (Nat.le_refl _) hw (by omega) (by omega)) fun x l2 e => ?_
  obtain ⟨w2, k2⟩ := good_ok (good_bin n 1 d l (Nat.le_refl _)) hw e
  rw [args_more n m [x] d l2 w2 (by omega) (by omega)]
  rfl
end Go.Proofs.YthcdohggffpopaaGreatDoor
namespace Go.Proofs.YthcdohggffpopaaGreatDoor
open Go.Lib (hid)
open Go.ChangeShapes Go.WideShapes Go.ChangeAt Go.RowKit
section
variable {β : Type} {X : Nat → Prop} {g m b c d : Nat} {r : PR β} {F : β → FM}
theorem DT.take_yes {w : World} {t : List UInt8} {a : β} {l : List Tok} (h : DT X g m b c d w ((.ok a l : PR β).bind fun a l => (need t l).bind fun _ l => .ok a l) F) (ht : isT t l = true) : DT X g m b c d w (.ok a l.tail : PR β) F := by
  have : ((.ok a l : PR β).bind fun a l => (need t l).bind fun _ l => .ok a l) = .ok a l.tail := by rw [PR.bind_ok]; unfold need; rw [if_pos ht]; rfl
  rw [← this]; exact h
theorem dput_lit (K : Nat) (op : List UInt8) (n : Nat) (s : List UInt8) (ks : List Nat) (hk : ks.length ≤ 1000) (w : World) (h : DT X g m b c d w r F) (hc : c + 1 ≤ 9000000) (H : Nat) (hH : w.heap.size = H) :
    Calls Tryz.prog 201 #[.pointer (some ⟨g, 0, none⟩), .agg #[.int .i64 (K : Int), .string (bs op), .int .u64 (n : Int), .string (bs s), .slice (some ⟨H, 0, none⟩) ks.length ks.length]] (w.alloc (.cells (ks.map fun n : Nat => Value.int .i64 (n : Int)).toArray 3))
      fun e' w' => ∃ k : Nat, e' = .returned (.int .i64 (k : Int)) ∧ DT X g m (b + 1) (c + 1) d w' r (fun a => (F a).setG ((F a).g.addX ⟨K, op, n, s, ks⟩)) ∧ (∀ a l, r = .ok a l → k = ((F a).g.addX ⟨K, op, n, s, ks⟩).x) ∧ St layD g w w' := by
  subst hH
  have hlt := h.lt
  cases r with
  | ok a l =>
    obtain ⟨hD, hlm, hd32, hbc, hc9⟩ := h
    have hi := ints_new ks hk (hD.pubNew (.cells (ks.map fun n : Nat => Value.int .i64 (n : Int)).toArray 3))
    refine (dput_any ⟨K, op, n, s, ks⟩ _ _ _ _ _ _ (hD.below (below_box _ _)) (by omega) ⟨_, rfl, hi.1, hi.2⟩).mono ?_
    rintro e w' ⟨rfl, h1, h2⟩
    exact ⟨_, rfl, ⟨h1, hlm, hd32, by omega, hc⟩, fun a l e => (by cases e; rfl), (St.below hlt (below_box _ _)).trans h2⟩
  | bad l x =>
    obtain ⟨h0, d', f', hD⟩ := h
    have hi := ints_new ks hk (hD.pubNew (.cells (ks.map fun n : Nat => Value.int .i64 (n : Int)).toArray 3))
    refine (dput_any ⟨K, op, n, s, ks⟩ _ _ _ _ _ _ (hD.below (below_box _ _)) (by omega) ⟨_, rfl, hi.1, hi.2⟩).mono ?_
    rintro e w' ⟨rfl, h1, h2⟩
    exact ⟨_, rfl, ⟨h0, _, _, h1⟩, fun a l e => (by cases e), (St.below hlt (below_box _ _)).trans h2⟩
theorem dput_leaf (K : Nat) (op : List UInt8) (n : Nat) (s : List UInt8) (w : World) (h : DT X g m b c d w r F) (hc : c + 1 ≤ 9000000) :
    Calls Tryz.prog 201 #[.pointer (some ⟨g, 0, none⟩), .agg #[.int .i64 (K : Int), .string (bs op), .int .u64 (n : Int), .string (bs s), .slice none 0 0]] w
      fun e' w' => ∃ k : Nat, e' = .returned (.int .i64 (k : Int)) ∧ DT X g m (b + 1) (c + 1) d w' r (fun a => (F a).setG ((F a).g.addX ⟨K, op, n, s, []⟩)) ∧ (∀ a l, r = .ok a l → k = ((F a).g.addX ⟨K, op, n, s, []⟩).x) ∧ St layD g w w' := by
  cases r with
  | ok a l =>
    obtain ⟨hD, hlm, hd32, hbc, hc9⟩ := h
    refine (dput_any ⟨K, op, n, s, []⟩ _ _ _ _ _ _ hD (by omega) ⟨_, rfl, World.ownsRow_nil _ _ _ _, Nest.none _ _ _⟩).mono ?_
    rintro e w' ⟨rfl, h1, h2⟩
    exact ⟨_, rfl, ⟨h1, hlm, hd32, by omega, hc⟩, fun a l e => (by cases e; rfl), h2⟩
  | bad l x =>
    obtain ⟨h0, d', f', hD⟩ := h
    refine (dput_any ⟨K, op, n, s, []⟩ _ _ _ _ _ _ hD (by omega) ⟨_, rfl, World.ownsRow_nil _ _ _ _, Nest.none _ _ _⟩).mono ?_
    rintro e w' ⟨rfl, h1, h2⟩
    exact ⟨_, rfl, ⟨h0, _, _, h1⟩, fun a l e => (by cases e), h2⟩
end
def PostX {β : Type} (X : Nat → Prop) (g m b c d : Nat) (w : World) (r : PR β) (F : β → FM) (P : List Tok → PR EA) (e : Ending) (w' : World) : Prop :=
  ∃ k : Nat, e = .returned (.int .i64 (k : Int)) ∧ DT X g m b c d w' (r.bind fun a l => (P l).bind fun y l => .ok (a, y) l) (fun p => (F p.1).setG (putE p.2 (F p.1).g)) ∧
    (∀ p l, (r.bind fun a l => (P l).bind fun y l => .ok (a, y) l) = .ok p l → k = (putE p.2 (F p.1).g).x) ∧ St layD g w w'
def DU (n : Nat) : Prop := ∀ (β : Type) (r : PR β) (F : β → FM) (X : Nat → Prop) (g m b c d : Nat) (w : World), DT X g m b c d w r F → 8 * m + 1 ≤ n → b + 16 * n ≤ c → c ≤ 8000000 →
  Calls Tryz.prog 200 #[.pointer (some ⟨g, 0, none⟩)] w (PostX X g (m - 1) b c d w r F (unary n d))
def DE (n v : Nat) : Prop := ∀ (β : Type) (r : PR β) (F : β → FM) (X : Nat → Prop) (g m b c d : Nat) (w : World), DT X g m b c d w r F → 8 * m + 2 ≤ n → b + 16 * n + (9 - v) ≤ c → c ≤ 8000000 →
  Calls Tryz.prog 155 #[.pointer (some ⟨g, 0, none⟩), .int .i64 (v : Int)] w (PostX X g (m - 1) b c d w r F (bin n v d))
theorem map_ok {γ δ : Type} {r : PR γ} {φ : γ → δ} {q : δ} {l : List Tok} (h : (r.bind fun p l => .ok (φ p) l) = .ok q l) : ∃ p, r = .ok p l ∧ q = φ p := by
  cases r with
  | ok a l1 => cases h; exact ⟨_, rfl, rfl⟩
  | bad l1 x => cases h
theorem PostX.of {β γ : Type} {X : Nat → Prop} {g m b c m' b' c' d k : Nat} {w w' : World} {r : PR β} {F : β → FM} {P : List Tok → PR EA} {r3 : PR γ} {F3 : γ → FM} (h : DT X g m' b' c' d w' r3 F3) (φ : γ → β × EA)
    (hE : (r.bind fun a l => (P l).bind fun y l => .ok (a, y) l) = r3.bind fun p l => .ok (φ p) l) (hF : ∀ p l, r3 = .ok p l → (F (φ p).1).setG (putE (φ p).2 (F (φ p).1).g) = F3 p ∧ k = (putE (φ p).2 (F (φ p).1).g).x)
    (hm : m' ≤ m) (hb : b' ≤ b) (hc : c' ≤ c) (hbc : b ≤ c) (ht : c ≤ 9000000) (hS : St layD g w w') : PostX X g m b c d w r F P (.returned (.int .i64 (k : Int))) w' :=
  ⟨k, rfl, (h.map φ hE fun p l e => (hF p l e).1).mono hm hb hc hbc ht, fun q l e => by
    rw [hE] at e
    obtain ⟨p, e1, rfl⟩ := map_ok e
    exact (hF p l e1).2, hS⟩
section
variable {X : Nat → Prop} {g m b c d : Nat}
set_option maxHeartbeats 4000000 in
set_option maxRecDepth 100000 in
theorem dunary_step {n : Nat} (IU : DU n) (IE : DE n 1) : DU (n + 1) := by
  intro β r F X g m b c d w h hn hbc hc8
  cases r with
  | bad l x =>
    have hne := h.err_ne
    have H := hid h
    obtain ⟨b', d', f', hI⟩ := h.inv
    obtain ⟨i, k, kk, cp, h0, h1, h2, h7, hf, -⟩ := hI.look
    simp only [PR.err] at h7
    clear h hI
    go_enter Tryz.func200, Tryz.ntmps200
    go_wp2_with fail
    go_ret
    exact ⟨0, rfl, H.out, fun p l e => (by cases e), St.refl _ _ _⟩
  | ok a l =>
    have hg := h.lt
    obtain ⟨hD, hlm, hd32, hbc', hc9⟩ := h
    obtain ⟨i, nn, kk, cp, h0, h1, h2, h7, hf, -⟩ := hD.look
    have hw := hD.wf
    have hp := hw.pos
    have hb3 : 3 ≤ b := by have := hD.pot; omega
    have hT0 : DT X g m b (b + 16 * n + 8) d w (.ok () l : PR Unit) fun _ => F a := ⟨hD, hlm, hd32, by omega, by omega⟩
    have C0 : Calls Tryz.prog 50 #[.pointer (some ⟨g, 0, none⟩), .string ⟨#[33]⟩] w fun e' w' => e' = .returned (.bool (isT sExcl l)) ∧ Below w.heap.size w w' := dis_any sExcl (by decide) w hD
    have HC1 : Hid (∀ w', Below w.heap.size w w' → Calls Tryz.prog 50 #[.pointer (some ⟨g, 0, none⟩), .string ⟨#[40]⟩] w' fun e' w2 => e' = .returned (.bool (isT sLp l)) ∧ Below w'.heap.size w' w2) := hid fun w' hb => dis_any sLp (by decide) w' (hD.below hb)
    have HC2 : Hid (∀ w', Below w.heap.size w w' → Calls Tryz.prog 103 #[.pointer (some ⟨g, 0, none⟩)] w' fun e' w2 => e' = .returned (.bool (isName l)) ∧ Below w'.heap.size w' w2) := hid fun w' hb => dnamed_any w' (hD.below hb)
    have HT0 := hid hT0
    cases e0 : isT sExcl l
    · rw [e0] at C0
      have HC0 := hid C0
      cases e1 : isT sLp l
      · rw [e1] at HC1
        cases e2 : isName l
        · rw [e2] at HC2
          have HR : Hid ((unary (n + 1) d l) = (numP l).bind fun y l => .ok (.num y) l) := hid (by
            rw [unary, if_neg (by rw [e0]; decide), if_neg (by rw [e1]; decide)]
            unfold numP
            split
            · rfl
            · rw [if_neg (by rw [e2]; decide)]; rfl)
          clear C0 e0 e1 e2 hD hT0 hw IU IE
          go_enter Tryz.func200, Tryz.ntmps200
          go_wp2_with (first | (go_at_call 50; first | ((with_reducible refine HC0.out.mono ?_); rintro e wa ⟨rfl, ha⟩; have BA := hid ha; have D1 := hid (HC1.out wa ha); clear ha) | ((with_reducible refine D1.out.mono ?_); rintro e wb ⟨rfl, hb⟩; have BB := hid (chain BA.out (Nat.le_refl _) hb); have D2 := hid (HC2.out wb BB.out); clear hb)) | (go_at_call 103; go_must (refine D2.out.mono ?_; rintro e w1 ⟨rfl, hc⟩; have BC := hid (chain BB.out (Nat.le_refl _) hc); have HT1 := hid (HT0.out.below BC.out); have HN := hid (dnum_any w1 HT1.out); clear hc)) | (go_at_call 54; go_must (refine HN.out.mono ?_; rintro e w2 ⟨s, rfl, hT2, hs2, hS2⟩; have HT2 := hid hT2; have HS2 := hid hs2; have HP := hid (dput_leaf 0 [] s [] w2 hT2 (by omega)); clear hT2 hs2)) | (go_at_call 201; go_must (refine HP.out.mono ?_; rintro e w3 ⟨k, rfl, hT3, hk3, hS3⟩)))
          go_ret
          refine PostX.of hT3 (fun p => (a, EA.num p.2)) (by simp only [HR.out, PR.bind_ok, PR.bind_assoc]) (fun p l e => ?_) (by omega) (by omega) (by omega) (by omega) (by omega) (((St.below hg BC.out).trans hS2).trans hS3)
          rw [hk3 p l e, HS2.out p l e]
          exact ⟨rfl, rfl⟩
        · rw [e2] at HC2
          have HR : Hid ((unary (n + 1) d l) = (nameP l).bind fun y l => .ok (.name y) l) := hid (by
            have e3 : isNum l = false := by
              have := name_ne e2
              unfold isNum; rw [this]; rfl
            rw [unary, if_neg (by rw [e0]; decide), if_neg (by rw [e1]; decide), if_neg (by rw [e3]; decide)]
            unfold nameP
            rw [if_pos e2]
            rw [if_pos e2]; rfl)
          clear C0 e0 e1 e2 hD hT0 hw IU IE
          go_enter Tryz.func200, Tryz.ntmps200
          go_wp2_with (first | (go_at_call 50; first | ((with_reducible refine HC0.out.mono ?_); rintro e wa ⟨rfl, ha⟩; have BA := hid ha; have D1 := hid (HC1.out wa ha); clear ha) | ((with_reducible refine D1.out.mono ?_); rintro e wb ⟨rfl, hb⟩; have BB := hid (chain BA.out (Nat.le_refl _) hb); have D2 := hid (HC2.out wb BB.out); clear hb)) | (go_at_call 103; go_must (refine D2.out.mono ?_; rintro e w1 ⟨rfl, hc⟩; have BC := hid (chain BB.out (Nat.le_refl _) hc); have HT1 := hid (HT0.out.below BC.out); have HN := hid (dname_any w1 HT1.out); clear hc)) | (go_at_call 53; go_must (refine HN.out.mono ?_; rintro e w2 ⟨s, rfl, hT2, hs2, hS2⟩; have HT2 := hid hT2; have HS2 := hid hs2; have HP := hid (dput_leaf 1 [] 0 s w2 hT2 (by omega)); clear hT2 hs2)) | (go_at_call 201; go_must (refine HP.out.mono ?_; rintro e w3 ⟨k, rfl, hT3, hk3, hS3⟩)))
          go_ret
          refine PostX.of hT3 (fun p => (a, EA.name p.2)) (by simp only [HR.out, PR.bind_ok, PR.bind_assoc]) (fun p l e => ?_) (by omega) (by omega) (by omega) (by omega) (by omega) (((St.below hg BC.out).trans hS2).trans hS3)
          rw [hk3 p l e, HS2.out p l e]
          exact ⟨rfl, rfl⟩
      · rw [e1] at HC1
        have HR : Hid ((unary (n + 1) d l) = (enterP (begE l.tail) d l.tail).bind fun _ l1 => (bin n 1 (d + 1) l1).bind fun a l2 => (need sRp l2).bind fun _ l3 => .ok a l3) := hid (by
          rw [unary, if_neg (by rw [e0]; decide), if_pos e1])
        have HCT1 : Hid (∀ w2, Below w.heap.size w w2 → Calls Tryz.prog 52 #[.pointer (some ⟨g, 0, none⟩), .string ⟨#[40]⟩] w2 fun e' w' => e' = .returned (.tuple #[]) ∧ DT X g (m - 1) (b - 3) (b + 16 * n + 8) d w' (.ok () l.tail : PR Unit) (fun _ => F a) ∧ St layD g w2 w') :=
          hid fun w2 hb => (dtake_any sLp (by decide) w2 (hT0.below hb)).mono fun e' w' h => ⟨h.1, h.2.1.take_yes e1, h.2.2⟩
        have HIE := hid IE
        have HTK : Hid (∀ (γ : Type) (r2 : PR γ) (F2 : γ → FM) m b c w, DT X g m b c d w r2 F2 → Calls Tryz.prog 52 #[.pointer (some ⟨g, 0, none⟩), .string ⟨#[41]⟩] w fun e' w' => e' = .returned (.tuple #[]) ∧ DT X g (m - 1) (b - 3) c d w' (r2.bind fun a l => (need sRp l).bind fun _ l => .ok a l) F2 ∧ St layD g w w') := hid fun γ r2 F2 m b c w h => dtake_any sRp (by decide) w h
        clear C0 e0 e1 hD hT0 hw IU IE HC2
        go_enter Tryz.func200, Tryz.ntmps200
        go_wp2_with (first | (go_at_call 50; first | ((with_reducible refine HC0.out.mono ?_); rintro e wa ⟨rfl, ha⟩; have BA := hid ha; have D1 := hid (HC1.out wa ha); clear ha) | ((with_reducible refine D1.out.mono ?_); rintro e wb ⟨rfl, hb⟩; have BB := hid (chain BA.out (Nat.le_refl _) hb); have D2 := hid (HCT1.out wb BB.out); clear hb)) | (go_at_call 52; first | ((with_reducible refine D2.out.mono ?_); rintro e w1 ⟨rfl, hT1, hS1⟩; have HT1 := hid hT1; have HO := hid (doperand_any w1 hT1.1); have hg1 := hT1.lt; clear hT1) | ((with_reducible refine (HTK.out _ _ _ _ _ _ _ HT5.out.1).mono ?_); rintro e w6 ⟨rfl, hT6, hS6⟩)) | (go_at_call 229; go_must (refine HO.out.mono ?_; rintro e w2 ⟨rfl, hb2⟩; have HT2 := hid (HT1.out.below hb2); have HN := hid (denter_any (begE l.tail) w2 HT2.out))) | (go_at_call 230; go_must (refine HN.out.mono ?_; rintro e w3 ⟨rfl, hT3, hS3⟩; have HX := hid (HIE.out _ _ _ _ _ _ _ (b + 16 * n + 8) _ w3 hT3 (by omega) (by omega) (by omega)); clear hT3)) | (go_at_call 155; go_must (refine HX.out.mono ?_; rintro e w4 ⟨k, rfl, hT4, hk4, hS4⟩; obtain ⟨bb, dd, ff, hI4⟩ := hT4.inv; obtain ⟨i4, n4, kk4, cp4, -, -, q2, -, qf, -⟩ := hI4.look; have HT5 := hid (hT4.up q2); have HK4 := hid hk4; clear hT4 hk4 hI4)))
        go_ret
        refine PostX.of hT6 (fun p => (a, p.2)) (by simp only [HR.out, PR.bind_ok, PR.bind_assoc]) (fun p l e => ?_) (by omega) (by omega) (by omega) (by omega) (by omega) ((((((St.below hg BB.out).trans hS1).trans (St.below hg1 hb2)).trans hS3).trans hS4).trans HT5.out.2 |>.trans hS6)
        obtain ⟨l1, e⟩ := keep_ok e
        rw [HK4.out p l1 e]
        exact ⟨rfl, rfl⟩
    · rw [e0] at C0
      have HC0 := hid C0
      have HR : Hid ((unary (n + 1) d l) = (enterP (begE l.tail) d l.tail).bind fun _ l1 => (unary n (d + 1) l1).bind fun a l2 => .ok (.not a) l2) := hid (by rw [unary, if_pos e0])
      have HCT1 : Hid (∀ w2, Below w.heap.size w w2 → Calls Tryz.prog 52 #[.pointer (some ⟨g, 0, none⟩), .string ⟨#[33]⟩] w2 fun e' w' => e' = .returned (.tuple #[]) ∧ DT X g (m - 1) (b - 3) (b + 16 * n + 8) d w' (.ok () l.tail : PR Unit) (fun _ => F a) ∧ St layD g w2 w') :=
        hid fun w2 hb => (dtake_any sExcl (by decide) w2 (hT0.below hb)).mono fun e' w' h => ⟨h.1, h.2.1.take_yes e0, h.2.2⟩
      have HIU := hid IU
      clear C0 e0 hD hT0 hw IU IE HC1 HC2
      go_enter Tryz.func200, Tryz.ntmps200
      go_wp2_with (first | (go_at_call 50; go_must (refine HC0.out.mono ?_; rintro e wa ⟨rfl, ha⟩; have BA := hid ha; have D2 := hid (HCT1.out wa ha); clear ha)) | (go_at_call 52; go_must (refine D2.out.mono ?_; rintro e w1 ⟨rfl, hT1, hS1⟩; have HT1 := hid hT1; have HO := hid (doperand_any w1 hT1.1); have hg1 := hT1.lt; clear hT1)) | (go_at_call 229; go_must (refine HO.out.mono ?_; rintro e w2 ⟨rfl, hb2⟩; have HT2 := hid (HT1.out.below hb2); have HN := hid (denter_any (begE l.tail) w2 HT2.out))) | (go_at_call 230; go_must (refine HN.out.mono ?_; rintro e w3 ⟨rfl, hT3, hS3⟩; have HX := hid (HIU.out _ _ _ _ _ _ _ (b + 16 * n + 8) _ w3 hT3 (by omega) (by omega) (by omega)); clear hT3)) | (go_at_call 200; go_must (refine HX.out.mono ?_; rintro e w4 ⟨k, rfl, hT4, hk4, hS4⟩; obtain ⟨bb, dd, ff, hI4⟩ := hT4.inv; obtain ⟨i4, n4, kk4, cp4, -, -, q2, -, qf, -⟩ := hI4.look; have HT5 := hid (hT4.up q2); have HK4 := hid hk4; have HP := hid (dput_lit 2 [] 0 [] [k] (by simp) _ HT5.out.1 (by omega) w4.heap.size (by simp [World.setCell])); clear hT4 hk4 hI4)) | (go_at_call 201; go_must (refine HP.out.mono ?_; rintro e w6 ⟨k6, rfl, hT6, hk6, hS6⟩)))
      go_ret
      refine PostX.of hT6 (fun p => (a, EA.not p.2)) (by simp only [HR.out, PR.bind_ok, PR.bind_assoc]) (fun p l e => ?_) (by omega) (by omega) (by omega) (by omega) (by omega) ((((((St.below hg BA.out).trans hS1).trans (St.below hg1 hb2)).trans hS3).trans hS4).trans HT5.out.2 |>.trans hS6)
      rw [hk6 p l e, HK4.out p l e]
      exact ⟨rfl, rfl⟩
end
theorem dexpr_fail {n v : Nat} {β : Type} {F : β → FM} {X : Nat → Prop} {g m b c d : Nat} (w : World) {l : List Tok} {x : Nat} (h : DT X g m b c d w (.bad l x : PR β) F) :
    Calls Tryz.prog 155 #[.pointer (some ⟨g, 0, none⟩), .int .i64 (v : Int)] w (PostX X g (m - 1) b c d w (.bad l x : PR β) F (bin n v d)) := by
  have hne := h.err_ne
  have H := hid h
  obtain ⟨b', d', f', hI⟩ := h.inv
  obtain ⟨i, k, kk, cp, h0, h1, h2, h7, hf, -⟩ := hI.look
  simp only [PR.err] at h7
  clear h hI
  go_enter Tryz.func155, Tryz.ntmps155
  go_wp2_with fail
  go_ret
  exact ⟨0, rfl, H.out, fun p l e => (by cases e), St.refl _ _ _⟩
set_option maxRecDepth 100000 in
theorem dexpr_nine {n : Nat} (IU : DU n) : DE n 9 := by
  intro β r F X g m b c d w h hn hbc hc8
  cases r with
  | bad l x => exact dexpr_fail w h
  | ok a l =>
    have C := IU β (.ok a l) F X g m b c d w h (by omega) (by omega) hc8
    obtain ⟨hD, hlm, hd32, hbc', hc9⟩ := h
    have hr : bin n 9 d l = unary n d l := bin_nine hD.wf (by omega)
    obtain ⟨i, nn, kk, cp, h0, h1, h2, h7, hf, -⟩ := hD.look
    have HR : Hid (PostX X g (m - 1) b c d w (.ok a l : PR β) F (bin n 9 d) = PostX X g (m - 1) b c d w (.ok a l : PR β) F (unary n d)) := hid (by
      unfold PostX
      simp only [PR.bind_ok, hr])
    rw [HR.out]
    have HC := hid C
    clear C hD hr HR IU
    go_enter Tryz.func155, Tryz.ntmps155
    go_wp2_with (go_at_call 200; go_must (refine HC.out.mono ?_; rintro e w' ⟨k, rfl, hT, hk, hS⟩))
    go_ret
    exact ⟨k, rfl, hT, hk, hS⟩
def tokD (g : Nat) (w : World) : Nat := match w.cell? ⟨g, 0, none⟩, w.cell? ⟨g, 1, none⟩, w.cell? ⟨g, 7, none⟩ with
  | some (.slice _ n _), some (.int _ i), some (.int _ e) => if e = 0 then 1 + (n - i.toNat) else 0
  | _, _, _ => 0
theorem tokD_ok {β : Type} {X : Nat → Prop} {g m b c d : Nat} {w : World} {a : β} {l : List Tok} {F : β → FM} (h : DT X g m b c d w (.ok a l) F) : tokD g w = 1 + l.length := by
  obtain ⟨i, n, kk, cp, h0, h1, h2, h7, hf, hi, -⟩ := h.1.look
  unfold tokD
  rw [h0, h1, h7]
  simp only [Int.ofNat_zero, if_true, Int.toNat_natCast]
  simp
  omega
theorem tokD_bad {β : Type} {X : Nat → Prop} {g m b c d : Nat} {w : World} {x : Nat} {l : List Tok} {F : β → FM} (h : DT X g m b c d w (.bad l x) F) : tokD g w = 0 := by
  obtain ⟨hx, d', f', h⟩ := h
  obtain ⟨i, n, kk, cp, h0, h1, h2, h7, hf, hi, -⟩ := h.look
  unfold tokD
  rw [h0, h1, h7]
  simp only
  rw [if_neg (by omega)]
theorem tokD_le {β : Type} {X : Nat → Prop} {g m b c d : Nat} {w : World} {r : PR β} {F : β → FM} (h : DT X g m b c d w r F) : tokD g w ≤ 1 + m := by
  cases r with
  | ok a l => rw [tokD_ok h]; have := h.2.1; omega
  | bad l x => rw [tokD_bad h]; omega
set_option maxHeartbeats 4000000 in
set_option maxRecDepth 100000 in
theorem dexpr_level {n v : Nat} (hv : 1 ≤ v) (hv8 : v ≤ 8) (I : DE n (v + 1)) : DE n v := by
  intro β r F X g m b c d w h hn hbc hc8
  cases r with
  | bad l x => exact dexpr_fail w h
  | ok a l =>
    have C : Calls Tryz.prog 155 #[.pointer (some ⟨g, 0, none⟩), .int .i64 ((v : Int) + 1)] w (PostX X g (m - 1) b (b + 16 * n + (8 - v)) d w (.ok a l : PR β) F (bin n (v + 1) d)) := by
      have := I β (.ok a l) F X g m b (b + 16 * n + (8 - v)) d w ⟨h.1, h.2.1, h.2.2.1, by omega, by omega⟩ hn (by omega) (by omega)
      rw [show ((v + 1 : Nat) : Int) = (v : Int) + 1 from by omega] at this
      exact this
    obtain ⟨hD, hlm, hd32, hbc', hc9⟩ := h
    have hw := hD.wf
    have hp := hw.pos
    obtain ⟨R, HR⟩ : ∃ R, Hid (R = (bin n v d l)) := ⟨_, hid rfl⟩
    have HRR : Hid (PostX X g (m - 1) b c d w (.ok a l : PR β) F (bin n v d) = PostX X g (m - 1) b c d w (.ok a l : PR β) F (fun _ => R)) := hid (by
      unfold PostX
      simp only [PR.bind_ok, HR.out])
    have hlev := bin_level (d := d) hv hw (show 8 * l.length + 2 ≤ n by omega)
    rw [HRR.out]
    clear HRR
    have HL : Hid (R = (bin n (v + 1) d l).bind fun y l1 => loopD n v d y l1) := hid (HR.out.trans hlev)
    have hstop : ∀ y l1, bin n (v + 1) d l = .ok y l1 → l1.length + 1 ≤ l.length := fun y l1 e => (good_ok (good_bin n (v + 1) d l (by omega)) hw e).2
    obtain ⟨i, nn, kk, cp, h0, h1, h2, h7, hf, -⟩ := hD.look
    have hg := hD.lt
    have hb3 : 3 ≤ b := by have := hD.pot; omega
    have hlv : ¬ (8 : Int) < (v : Int) := by omega
    have hv1 : IntKind.i64.wrap ((v : Int) + 1) = (v : Int) + 1 := IntWalk.i64_in _ (by omega)
    have HC := hid C
    have HI := hid I
    clear C hD hlev I HR
    go_enter Tryz.func155, Tryz.ntmps155
    go_wp2_with (go_at_call 155; go_must (refine HC.out.mono ?_; rintro e w1 ⟨k1, rfl, hT1, hk1, hS1⟩))
    go_loopw [5] (fun s5 wr => ∃ (k : Nat) (rr : PR EA), s5 = .int .i64 (k : Int) ∧ DT X g (m - 1) b (b + 16 * n + (9 - v)) d wr rr (fun y => (F a).setG (putE y (F a).g)) ∧ (∀ y l1, rr = .ok y l1 → k = (putE y (F a).g).x) ∧ St layD g w wr ∧ Hid (R = rr.bind fun y l1 => loopD n v d y l1)) (fun _ wr => tokD g wr)
    case atStart =>
      refine ⟨k1, bin n (v + 1) d l, rfl, ?_, ?_, hS1, HL⟩
      · refine (DT.map hT1 (fun p => p.2) ?_ ?_).mono (Nat.le_refl _) (Nat.le_refl _) (by omega) (by omega) (by omega)
        · rw [PR.bind_ok]
          cases bin n (v + 1) d l <;> rfl
        · intro p l1 e
          rw [PR.bind_ok] at e
          cases hq : bin n (v + 1) d l with
          | ok y l2 => rw [hq] at e; cases e; rfl
          | bad l2 x => rw [hq] at e; cases e
      · intro y l1 e
        exact hk1 (a, y) l1 (by rw [PR.bind_ok, e]; rfl)
    case round =>
      obtain ⟨k, rr, rfl, hT, hk, hS, HRR⟩ := hrel
      cases rr with
      | bad l1 x =>
        have hne : ((x : Int) == 0) = false := by have := hT.1; rw [beq_eq_false_iff_ne]; omega
        obtain ⟨bb, dd, ff, hI1⟩ := hT.inv
        obtain ⟨i1, n1, kk1, cp1, q0, q1, q2, q7, qf, -⟩ := hI1.look
        simp only [PR.err] at q7
        have HT := hid hT
        clear hT hI1 HL
        go_wp2_with fail
        go_ret
        refine PostX.of HT.out (fun y => (a, y)) (by rw [HRR.out]; rfl) (fun p l e => (by cases e)) (by omega) (by omega) (by omega) (by omega) (by omega) hS
      | ok y l1 =>
        have htk := hid (tokD_ok hT)
        obtain ⟨hD1, hlm1, -, -, -⟩ := hT
        have hw1 := hD1.wf
        have hp1 := hw1.pos
        have HK := hid (hk y l1 rfl)
        clear hk
        obtain ⟨i1, n1, kk1, cp1, q0, q1, q2, q7, qf, qi, qc, qm, qkg, qkl, c0, c1, c2, c3, c4⟩ := hD1.look
        unfold maxLen at qm
        have qin : (i1 : Int) < (n1 : Int) := by omega
        have HLv := hid (fun w => refLevel_any (hd l1).tk.t w)
        have HD1 := hid hD1
        have htl : l1.tail.length = l1.length - 1 := List.length_tail
        have hop : levelL (hd l1).tk.t = v → (hd l1).tk.k = 2 := fun e => by
          rcases hw1.cases with ⟨h1, _⟩ | ⟨h1, _⟩
          · rw [h1, show levelL tkEnd.t = 0 from by decide] at e; omega
          · by_cases h2 : (hd l1).tk.k = 2
            · exact h2
            · rw [h1.op h2] at e; omega
        have hstep : levelL (hd l1).tk.t = v → R = (bin n (v + 1) d l1.tail).bind fun z l2 => loopD n v d (.bin (hd l1).tk.t y z) l2 := fun e => HRR.out.trans (loopD_step hv hw1 (by omega) e)
        have hst : levelL (hd l1).tk.t ≠ v → R = .ok y l1 := fun e => HRR.out.trans (loopD_stop (by omega) e)
        have hwt := fun e : levelL (hd l1).tk.t = v => hw1.tailT (level_ne hv (by omega : v ≤ levelL (hd l1).tk.t))
        clear hD1 HL HRR
        by_cases hq : levelL (hd l1).tk.t = v
        · have HR2 := hid (hstep hq)
          have b0 : (((hd l1).tk.k : Int) != 2) = false := by rw [hop hq]; rfl
          have HWT := hid (hwt hq)
          rw [hq] at HLv
          obtain ⟨t, ht⟩ : ∃ t, (hd l1).tk.t = t := ⟨_, rfl⟩
          rw [ht] at c1 HR2 HLv
          have HT0 := hid ht
          clear hstep hst hop hq hwt ht
          have HX : Hid (∀ w', DT X g l1.tail.length (b - 3) (b + 16 * n + (8 - v)) d w' (.ok () l1.tail : PR Unit) (fun _ => (F a).setG (putE y (F a).g)) → Calls Tryz.prog 155 #[.pointer (some ⟨g, 0, none⟩), .int .i64 ((v : Int) + 1)] w' (PostX X g (l1.tail.length - 1) (b - 3) (b + 16 * n + (8 - v)) d w' (.ok () l1.tail : PR Unit) (fun _ => (F a).setG (putE y (F a).g)) (bin n (v + 1) d))) := hid fun w' h => by
            have := HI.out Unit _ _ X g _ (b - 3) (b + 16 * n + (8 - v)) d w' h (by omega) (by omega) (by omega)
            rw [show ((v + 1 : Nat) : Int) = (v : Int) + 1 from by omega] at this
            exact this
          go_wp2_with fail
          go_quiet (fail)
          go_wp2_with (go_at_call 73; go_must (refine (HLv.out _).mono ?_; rintro e w2 ⟨rfl, hb2⟩; have HB2 := hid (chain (below_drewN wr.heap.size wr _) (Nat.le_refl _) hb2); clear q0 q1 q2 q7 qf qi qc qm qkg qkl c0 c1 c2 c3 c4 qin; obtain ⟨i1, n1, kk1, cp1, q0, q1, q2, q7, qf, qi, qc, qm, qkg, qkl, c0, c1, c2, c3, c4⟩ := (HD1.out.below HB2.out).look; unfold maxLen at qm; have qin : (i1 : Int) < (n1 : Int) := by omega))
          go_quiet (fail)
          generalize hW : World.drewN _ _ = W3
          have HB3 : Hid (Below wr.heap.size wr W3) := hid (by rw [← hW]; exact HB2.out.trans (below_drewN _ _ _))
          clear hW q0 q1 q2 q7 qf qi qc qm qkg qkl c0 c1 c2 c3 c4 qin
          obtain ⟨i1, n1, kk1, cp1, q0, q1, q2, q7, qf, qi, qc, qm, qkg, qkl, c0, c1, c2, c3, c4⟩ := (HD1.out.below HB3.out).look
          unfold maxLen at qm
          have hi1 : IntKind.i64.wrap ((i1 : Int) + 1) = (i1 : Int) + 1 := IntWalk.i64_in _ (by omega)
          have HN := hid ((HD1.out.below HB3.out).next HWT.out q1)
          have HT4 : Hid (DT X g l1.tail.length (b - 3) (b + 16 * n + (8 - v)) d (W3.setCell ⟨g, 1, none⟩ (.int .i64 ((i1 : Int) + 1))) (.ok () l1.tail : PR Unit) (fun _ => (F a).setG (putE y (F a).g))) := hid ⟨HN.out.1, Nat.le_refl _, hd32, by omega, by omega⟩
          have HX4 := hid (HX.out _ HT4.out)
          have hg1 := hS1.size
          go_wp2_with (first | (go_at_call 155; go_must (refine HX4.out.mono ?_; rintro e w5 ⟨k5, rfl, hT5, hk5, hS5⟩; have HK5 := hid hk5; have HP := hid (dput_lit 3 t 0 [] [k, k5] (by simp) w5 hT5 (by omega) w5.heap.size rfl); clear hT5 hk5)) | (go_at_call 201; go_must (refine HP.out.mono ?_; rintro e w6 ⟨k6, rfl, hT6, hk6, hS6⟩)))
          have htk6 := tokD_le hT6
          go_roundw
          case rel =>
            refine ⟨k6, (bin n (v + 1) d l1.tail).bind fun z l2 => .ok (.bin t y z) l2, rfl, (DT.map hT6 (fun p => .bin t y p.2) ?_ ?_).mono (by omega) (by omega) (by omega) (by omega) (by omega), ?_, (((hS.trans (St.below HD1.out.lt HB3.out)).trans HN.out.2).trans hS5).trans hS6, hid (by rw [HR2.out, PR.bind_assoc]; rfl)⟩
            · simp only [PR.bind_ok, PR.bind_assoc]
            · intro p l2 e
              rw [HK.out, HK5.out p l2 e]; rfl
            · intro y' l2 e
              obtain ⟨z, e1, rfl⟩ := map_ok e
              rw [hk6 ((), z) l2 (by rw [PR.bind_ok, e1]; rfl), HK.out, HK5.out ((), z) l2 (by rw [PR.bind_ok, e1]; rfl)]; rfl
          case measure => rw [htk.out]; omega
        · have HR2 := hid (hst hq)
          have b1 : (((levelL (hd l1).tk.t : Nat) : Int) != (v : Int)) = true := by rw [ne_nat, decide_eq_false hq]; rfl
          obtain ⟨t, ht⟩ : ∃ t, (hd l1).tk.t = t := ⟨_, rfl⟩
          rw [ht] at c1 HLv b1
          have HT0 := hid ht
          clear hstep hst hop hq hwt ht
          obtain ⟨q, hq⟩ : ∃ q, (((hd l1).tk.k : Int) != 2) = q := ⟨_, rfl⟩
          cases q
          all_goals
            go_wp2_with fail
            go_quiet (fail)
            go_wp2_with (go_at_call 73; go_must (refine (HLv.out _).mono ?_; rintro e w2 ⟨rfl, hb2⟩; have HB2 := hid (chain (below_drewN wr.heap.size wr _) (Nat.le_refl _) hb2); clear q0 q1 q2 q7 qf qi qc qm qkg qkl c0 c1 c2 c3 c4 qin; obtain ⟨i1, n1, kk1, cp1, q0, q1, q2, q7, qf, qi, qc, qm, qkg, qkl, c0, c1, c2, c3, c4⟩ := (HD1.out.below HB2.out).look; unfold maxLen at qm; have qin : (i1 : Int) < (n1 : Int) := by omega))
            go_quiet (fail)
            go_wp2_with fail
            go_ret
            refine PostX.of (m' := m - 1) (b' := b) (c' := c) (d := d) (r3 := (.ok y l1 : PR EA)) (F3 := fun y => (F a).setG (putE y (F a).g)) ⟨(HD1.out.below (HB2.out.trans (below_drewN _ _ _))), hlm1, hd32, by omega, by omega⟩ (fun y => (a, y)) (by rw [HR2.out]; rfl) (fun p l e => (by cases e; exact ⟨rfl, HK.out⟩)) (by omega) (by omega) (by omega) (by omega) (by omega) (hS.trans (St.below HD1.out.lt (HB2.out.trans (below_drewN _ _ _))))
theorem dexpr_of {n : Nat} (hU : DU n) : ∀ j v, v + j = 9 → 1 ≤ v → DE n v
  | 0, v, hv, h1 => by obtain rfl : v = 9 := by omega
                       exact dexpr_nine hU
  | j + 1, v, hv, h1 => dexpr_level h1 (by omega) (dexpr_of hU j (v + 1) (by omega) (by omega))
theorem dunary_all : ∀ n, DU n
  | 0 => fun β r F X g m b c d w h hn => absurd hn (by omega)
  | n + 1 => dunary_step (dunary_all n) (dexpr_of (dunary_all n) 8 1 rfl (Nat.le_refl _))
theorem dexpr_any (n : Nat) : DE n 1 := dexpr_of (dunary_all n) 8 1 rfl (Nat.le_refl _)
end Go.Proofs.YthcdohggffpopaaGreatDoor
