/- Layer 10, mathematics (for ExprParts): what an expression's parse takes does not hang on the closing bracket behind it. No program. · Layer 10, mathematics (for ExprParts): what an expression's parse leaves is an end of what it was given. No program. · Layer 10, mathematics: an expression's tree and what its list evaluates to (for ExprParts and ExprText). No program. · Layer 10, mathematics (for ExprParts): a File's lists go on as its parts are laid. No program. · Layer 10, mathematics (for ExprParts): the File of a text that begins 'struct S { a: bytes['. No program. · Layer 10, mathematics (for ExprParts): the whole's expression. No program. -/
import Derived.Test.YtomimkgaelkaoaaGreatDoorC12ParseP
import Derived.Test.YtomimkgaelkaoaaGreatDoorC12ExP
import Derived.Test.YtomimkgaelkaoaaGreatDoorC12ExXm
import Derived.Test.YtomimkgaelkaoaaGreatDoorC12ExZ
set_option linter.unusedVariables false
set_option linter.unusedSimpArgs false
namespace Go.Proofs.YtomimkgaelkaoaaGreatDoor
theorem pr_inv {α β : Type} {r : PR α} {f : α → List Tok → PR β} {b : β} {l : List Tok} (h : r.bind f = .ok b l) : ∃ a l1, r = .ok a l1 ∧ f a l1 = .ok b l := by
 cases r with
 | ok a l1 => exact ⟨a, l1, rfl, h⟩
 | bad l1 e => simp [PR.bind] at h
def Stp (X : List Tok) : Prop := (hd X).tk.k = 2 ∧ ((hd X).tk.t = sRb ∨ (hd X).tk.t = sRp)
theorem Stp.level {X : List Tok} (h : Stp X) : levelL (hd X).tk.t = 0 := by
 rcases h.2 with h | h <;> rw [h] <;> decide
theorem unary_stp {X : List Tok} (h : Stp X) (n d : Nat) (a : EA) (l : List Tok) : unary n d X ≠ .ok a l := by
 intro hu
 cases n with
 | zero => simp [unary] at hu
 | succ n =>
  unfold unary isT isNum isName at hu
  rcases h.2 with h2 | h2 <;> rw [h.1, h2] at hu <;> simp [sRb, sRp, sExcl, sLp] at hu
theorem need_ok {g : List UInt8} {l l' : List Tok} {u : Unit} (h : need g l = .ok u l') : isT g l = true ∧ l' = l.tail := by
 unfold need at h
 split at h
 ·rename_i h1
  cases h
  exact ⟨h1, rfl⟩
 ·cases h
theorem enter_end10 {b : Bool} {d : Nat} {l l' : List Tok} {u : Unit} (h : enterP b d l = .ok u l') : l' = l := by
 unfold enterP at h
 split at h
 ·cases h
 ·split at h <;> cases h
  rfl
def Same (P : List Tok → PR EA → Prop) (B ts : List Tok) (a : EA) (l : List Tok) : Prop := ∃ us, l = us ++ B ∧ ∀ X a' l', Stp X → P (ts ++ X) (.ok a' l') → a' = a ∧ l' = us ++ X
theorem expr_ctx {B : List Tok} (hB : Stp B) (hb : (hd B).tk.t = sRb) : ∀ n : Nat,
  (∀ d ts a l, unary n d (ts ++ B) = .ok a l → Same (fun l r => ∃ n' d', unary n' d' l = r) B ts a l) ∧
  (∀ v d ts a l, 1 ≤ v → bin n v d (ts ++ B) = .ok a l → Same (fun l r => ∃ n' d', bin n' v d' l = r) B ts a l) ∧
  (∀ v d e ts a l, 1 ≤ v → loopB n v d e (ts ++ B) = .ok a l → Same (fun l r => ∃ n' d', loopB n' v d' e l = r) B ts a l)
 | 0 => ⟨fun d ts a l h => by simp [unary] at h, fun v d ts a l _ h => by simp [bin] at h, fun v d e ts a l _ h => by simp [loopB] at h⟩
 | n + 1 => by
  obtain ⟨U, V, L⟩ := expr_ctx hB hb n
  refine ⟨fun d ts a l h => ?_, fun v d ts a l hv h => ?_, fun v d e ts a l hv h => ?_⟩
  ·cases ts with
   | nil => exact absurd h (unary_stp hB _ _ _ _)
   | cons t u =>
    have hx : ∀ (g : List UInt8) (Y : List Tok), isT g (t :: u ++ Y) = decide (t.tk.t = g) := fun g Y => rfl
    have hnum : ∀ Y : List Tok, isNum (t :: u ++ Y) = decide (t.tk.k = 1) := fun Y => rfl
    have hnam : ∀ Y : List Tok, isName (t :: u ++ Y) = (decide (t.tk.k = 0) && !isKw t.tk.t) := fun Y => rfl
    have htl : ∀ Y : List Tok, (t :: u ++ Y).tail = u ++ Y := fun Y => rfl
    have hhd : ∀ Y : List Tok, hd (t :: u ++ Y) = t := fun Y => rfl
    unfold unary at h
    rw [hx, hx, hnum, hnam, htl, hhd] at h
    by_cases c1 : decide (t.tk.t = sExcl) = true
    ·rw [if_pos c1] at h
     obtain ⟨_, l1, h1, h⟩ := pr_inv h
     obtain rfl := enter_end10 h1
     obtain ⟨a1, l2, h2, h⟩ := pr_inv h
     cases h
     obtain ⟨us, rfl, hs⟩ := U _ _ _ _ h2
     refine ⟨us, rfl, fun X a' l' hX ⟨n', d', h'⟩ => ?_⟩
     cases n' with
     | zero => simp [unary] at h'
     | succ n' =>
      unfold unary at h'
      rw [hx, htl, if_pos c1] at h'
      obtain ⟨_, k1, g1, h'⟩ := pr_inv h'
      obtain rfl := enter_end10 g1
      obtain ⟨a2, k2, g2, h'⟩ := pr_inv h'
      cases h'
      obtain ⟨rfl, rfl⟩ := hs X _ _ hX ⟨_, _, g2⟩
      exact ⟨rfl, rfl⟩
    rw [if_neg c1] at h
    by_cases c2 : decide (t.tk.t = sLp) = true
    ·rw [if_pos c2] at h
     obtain ⟨_, l1, h1, h⟩ := pr_inv h
     obtain rfl := enter_end10 h1
     obtain ⟨a1, l2, h2, h⟩ := pr_inv h
     obtain ⟨_, l3, h3, h⟩ := pr_inv h
     cases h
     obtain ⟨us, rfl, hs⟩ := V _ _ _ _ _ (Nat.le_refl _) h2
     obtain ⟨q1, rfl⟩ := need_ok h3
     cases us with
     | nil =>
      unfold isT at q1
      rw [List.nil_append, hb] at q1
      exact absurd q1 (by decide)
     | cons w us =>
      refine ⟨us, rfl, fun X a' l' hX ⟨n', d', h'⟩ => ?_⟩
      cases n' with
      | zero => simp [unary] at h'
      | succ n' =>
       unfold unary at h'
       rw [hx, hx, htl, if_neg c1, if_pos c2] at h'
       obtain ⟨_, k1, g1, h'⟩ := pr_inv h'
       obtain rfl := enter_end10 g1
       obtain ⟨a2, k2, g2, h'⟩ := pr_inv h'
       obtain ⟨_, k3, g3, h'⟩ := pr_inv h'
       cases h'
       obtain ⟨rfl, rfl⟩ := hs X _ _ hX ⟨_, _, g2⟩
       obtain ⟨-, rfl⟩ := need_ok g3
       exact ⟨rfl, rfl⟩
    rw [if_neg c2] at h
    by_cases c3 : decide (t.tk.k = 1) = true
    ·rw [if_pos c3] at h
     cases h
     refine ⟨u, rfl, fun X a' l' hX ⟨n', d', h'⟩ => ?_⟩
     cases n' with
     | zero => simp [unary] at h'
     | succ n' =>
      unfold unary at h'
      rw [hx, hx, hnum, htl, hhd, if_neg c1, if_neg c2, if_pos c3] at h'
      cases h'
      exact ⟨rfl, rfl⟩
    rw [if_neg c3] at h
    by_cases c4 : (decide (t.tk.k = 0) && !isKw t.tk.t) = true
    ·rw [if_pos c4] at h
     cases h
     refine ⟨u, rfl, fun X a' l' hX ⟨n', d', h'⟩ => ?_⟩
     cases n' with
     | zero => simp [unary] at h'
     | succ n' =>
      unfold unary at h'
      rw [hx, hx, hnum, hnam, htl, hhd, if_neg c1, if_neg c2, if_neg c3, if_pos c4] at h'
      cases h'
      exact ⟨rfl, rfl⟩
    rw [if_neg c4] at h
    cases h
  ·unfold bin at h
   obtain ⟨a1, l1, h1, h⟩ := pr_inv h
   obtain ⟨us, rfl, hs⟩ := U _ _ _ _ h1
   obtain ⟨ws, rfl, ht⟩ := L _ _ _ _ _ _ hv h
   refine ⟨ws, rfl, fun X a' l' hX ⟨n', d', h'⟩ => ?_⟩
   cases n' with
   | zero => simp [bin] at h'
   | succ n' =>
    unfold bin at h'
    obtain ⟨a2, k1, g1, h'⟩ := pr_inv h'
    obtain ⟨rfl, rfl⟩ := hs X _ _ hX ⟨_, _, g1⟩
    exact ht X _ _ hX ⟨_, _, h'⟩
  ·unfold loopB at h
   cases ts with
   | nil =>
    rw [List.nil_append, hB.level, if_neg (by omega)] at h
    cases h
    refine ⟨[], rfl, fun X a' l' hX ⟨n', d', h'⟩ => ?_⟩
    cases n' with
    | zero => simp [loopB] at h'
    | succ n' =>
     unfold loopB at h'
     rw [List.nil_append, hX.level, if_neg (by omega)] at h'
     cases h'
     exact ⟨rfl, rfl⟩
   | cons t u =>
    have htl : ∀ Y : List Tok, (t :: u ++ Y).tail = u ++ Y := fun Y => rfl
    have hhd : ∀ Y : List Tok, hd (t :: u ++ Y) = t := fun Y => rfl
    rw [htl, hhd] at h
    by_cases c : v ≤ levelL t.tk.t
    ·rw [if_pos c] at h
     obtain ⟨a1, l1, h1, h⟩ := pr_inv h
     obtain ⟨us, rfl, hs⟩ := V _ _ _ _ _ (by omega) h1
     obtain ⟨ws, rfl, ht⟩ := L _ _ _ _ _ _ hv h
     refine ⟨ws, rfl, fun X a' l' hX ⟨n', d', h'⟩ => ?_⟩
     cases n' with
     | zero => simp [loopB] at h'
     | succ n' =>
      unfold loopB at h'
      rw [htl, hhd, if_pos c] at h'
      obtain ⟨a2, k1, g1, h'⟩ := pr_inv h'
      obtain ⟨rfl, rfl⟩ := hs X _ _ hX ⟨_, _, g1⟩
      exact ht X _ _ hX ⟨_, _, h'⟩
    ·rw [if_neg c] at h
     cases h
     refine ⟨t :: u, rfl, fun X a' l' hX ⟨n', d', h'⟩ => ?_⟩
     cases n' with
     | zero => simp [loopB] at h'
     | succ n' =>
      unfold loopB at h'
      rw [htl, hhd, if_neg c] at h'
      cases h'
      exact ⟨rfl, rfl⟩
end Go.Proofs.YtomimkgaelkaoaaGreatDoor
namespace Go.Proofs.YtomimkgaelkaoaaGreatDoor
theorem tail_suf (l : List Tok) : ∃ c, l = c ++ l.tail := by
 cases l with
 | nil => exact ⟨[], rfl⟩
 | cons t u => exact ⟨[t], rfl⟩
theorem suf_trans {a b c : List Tok} (h : ∃ x, a = x ++ b) (k : ∃ y, b = y ++ c) : ∃ z, a = z ++ c := by
 obtain ⟨x, rfl⟩ := h
 obtain ⟨y, rfl⟩ := k
 exact ⟨x ++ y, by rw [List.append_assoc]⟩
theorem expr_suf : ∀ n : Nat,
  (∀ d l a l', unary n d l = .ok a l' → ∃ c, l = c ++ l') ∧ (∀ v d l a l', bin n v d l = .ok a l' → ∃ c, l = c ++ l') ∧ (∀ v d e l a l', loopB n v d e l = .ok a l' → ∃ c, l = c ++ l')
 | 0 => ⟨fun d l a l' h => by simp [unary] at h, fun v d l a l' h => by simp [bin] at h, fun v d e l a l' h => by simp [loopB] at h⟩
 | n + 1 => by
  obtain ⟨U, V, L⟩ := expr_suf n
  refine ⟨fun d l a l' h => ?_, fun v d l a l' h => ?_, fun v d e l a l' h => ?_⟩
  ·unfold unary at h
   split at h
   ·obtain ⟨_, l1, h1, h⟩ := pr_inv h
    obtain rfl := enter_end10 h1
    obtain ⟨a1, l2, h2, h⟩ := pr_inv h
    cases h
    exact suf_trans (tail_suf l) (U _ _ _ _ h2)
   split at h
   ·obtain ⟨_, l1, h1, h⟩ := pr_inv h
    obtain rfl := enter_end10 h1
    obtain ⟨a1, l2, h2, h⟩ := pr_inv h
    obtain ⟨_, l3, h3, h⟩ := pr_inv h
    cases h
    obtain ⟨-, rfl⟩ := need_ok h3
    exact suf_trans (tail_suf l) (suf_trans (V _ _ _ _ _ h2) (tail_suf l2))
   split at h
   ·cases h
    exact tail_suf l
   split at h
   ·cases h
    exact tail_suf l
   ·cases h
  ·unfold bin at h
   obtain ⟨a1, l1, h1, h⟩ := pr_inv h
   exact suf_trans (U _ _ _ _ h1) (L _ _ _ _ _ _ h)
  ·unfold loopB at h
   split at h
   ·obtain ⟨a1, l1, h1, h⟩ := pr_inv h
    exact suf_trans (tail_suf l) (suf_trans (V _ _ _ _ _ h1) (L _ _ _ _ _ _ h))
   ·cases h
    exact ⟨[], rfl⟩
theorem join_expr {n1 d1 n2 d2 : Nat} {V T1 T2 l l2 : List Tok} {E E' : EA} (h1 : bin n1 1 d1 (V ++ T1) = .ok E l) (hl : isT sRb l = true) (h2 : bin n2 1 d2 (V ++ T2) = .ok E' l2) (hl2 : isT sRp l2 = true)
  (hV : ∀ t ∈ V, t.tk.t = sRb → t.tk.k = 2) (hT : ∀ c r, T1 = c ++ r → isT sRb r = true → c = []) (hT1 : isT sRb T1 = true → Stp T1 ∧ Stp T2) : isT sRb T1 = true ∧ l = T1 ∧ E' = E ∧ l2 = T2 := by
 have last : ∀ {B : List Tok}, V ++ T1 = V ++ B → l = B → B = T1 := fun h _ => (List.append_cancel_left h).symm
 have one : l = T1 → isT sRb T1 = true ∧ l = T1 ∧ E' = E ∧ l2 = T2 := fun e => by
  subst e
  obtain ⟨s1, s2⟩ := hT1 hl
  obtain ⟨us, e1, hs⟩ := (expr_ctx s1 (by simpa [isT] using hl) n1).2.1 1 d1 V E l (Nat.le_refl _) h1
  obtain rfl : us = [] := List.append_cancel_right (bs := l) e1.symm
  obtain ⟨e2, e3⟩ := hs T2 _ _ s2 ⟨_, _, h2⟩
  exact ⟨hl, rfl, e2, e3⟩
 obtain ⟨c, hc⟩ := (expr_suf n1).2.1 _ _ _ _ _ h1
 rcases List.append_eq_append_iff.1 hc with ⟨a, e1, e2⟩ | ⟨a, e1, e2⟩
 ·obtain rfl := hT a l e2 hl
  exact one e2.symm
 ·cases a with
  | nil => exact one e2
  | cons w a =>
   subst e2
   have hw : w.tk.t = sRb := by simpa [isT, hd] using hl
   have hk := hV w (by rw [e1]; simp) hw
   have sB : Stp (w :: a ++ T1) := ⟨hk, .inl hw⟩
   have sX : Stp (w :: a ++ T2) := ⟨hk, .inl hw⟩
   rw [e1, List.append_assoc] at h1 h2
   obtain ⟨us, e3, hs⟩ := (expr_ctx sB hw n1).2.1 1 d1 c E _ (Nat.le_refl _) h1
   obtain rfl : us = [] := List.append_cancel_right (bs := w :: a ++ T1) e3.symm
   obtain ⟨_, e4⟩ := hs _ _ _ sX ⟨_, _, h2⟩
   subst e4
   unfold isT at hl2
   rw [List.nil_append, show hd (w :: a ++ T2) = w from rfl, hw] at hl2
   exact absurd hl2 (by decide)
end Go.Proofs.YtomimkgaelkaoaaGreatDoor
namespace Go.Proofs.YtomimkgaelkaoaaGreatDoor
def evT : EA → EnvL → Int × Int
 | .num n, _ => ((n : Int), 0)
 | .name s, e => match getE e s with | none => (0, 11) | some n => (n, 0)
 | .not a, e => if (evT a e).2 ≠ 0 then evT a e else (truthV (decide ((evT a e).1 = 0)), 0)
 | .bin op a b, e => if (evT a e).2 ≠ 0 then evT a e else if (evT b e).2 ≠ 0 then evT b e else opR op (evT a e).1 (evT b e).1
theorem putE_ext (t : EA) : ∀ g : GM, ∃ ys, (putE t g).xs = g.xs ++ ys ∧ ys ≠ [] := by
 induction t with
 | num n => intro g; exact ⟨_, rfl, by simp⟩
 | name s => intro g; exact ⟨_, rfl, by simp⟩
 | not a ih =>
  intro g
  obtain ⟨ys, h, _⟩ := ih g
  exact ⟨ys ++ _, by simp only [putE, GM.addX]; rw [h, List.append_assoc], by simp⟩
 | bin op a b iha ihb =>
  intro g
  obtain ⟨ys, h, _⟩ := iha g
  obtain ⟨zs, k, _⟩ := ihb (putE a g)
  exact ⟨ys ++ (zs ++ _), by simp only [putE, GM.addX]; rw [k, h, List.append_assoc, List.append_assoc], by simp⟩
theorem putE_x (t : EA) (g : GM) : (putE t g).x < (putE t g).xs.length := by
 obtain ⟨ys, h, hy⟩ := putE_ext t g
 have : 0 < ys.length := List.length_pos_iff.2 hy
 unfold GM.x
 rw [h, List.length_append]; omega
theorem vat_pre (xs ys : List XE) (e : EnvL) {k : Nat} (h : k < xs.length) : vat (allX (xs ++ ys) e) (k : Int) = vat (allX xs e) (k : Int) := by
 unfold vat
 rw [if_pos (by omega), if_pos (by omega), ← allX_take xs ys e, List.getD_eq_getElem?_getD, List.getD_eq_getElem?_getD]
 simp only [Int.toNat_natCast]
 rw [List.getElem?_take_of_lt h]
theorem vat_last (xs : List XE) (x : XE) (e : EnvL) : vat (allX (xs ++ [x]) e) ((xs.length : Nat) : Int) = oneX (allX xs e) x e := by
 unfold vat
 rw [if_pos (by omega), allX_snoc, List.getD_eq_getElem?_getD, Int.toNat_natCast, List.getElem?_append_right (by rw [allX_len]; omega), allX_len]
 simp
theorem snd_ite {c : Prop} [Decidable c] {a b : Int × Int} (h : a.2 ≠ 2) (k : b.2 ≠ 2) : (if c then a else b).2 ≠ 2 := by
 split <;> assumption
theorem opR_ne2 (op : List UInt8) (a b : Int) : (opR op a b).2 ≠ 2 := by
 unfold opR addR subR mulR divR modR shlR shrR
 repeat' (refine snd_ite ?_ ?_)
 all_goals simp
theorem evT_ne2 (t : EA) (e : EnvL) : (evT t e).2 ≠ 2 := by
 induction t with
 | num n => simp [evT]
 | name s => unfold evT; split <;> simp
 | not a ih => unfold evT; split <;> simp_all
 | bin op a b iha ihb =>
  unfold evT
  split
  ·exact iha
  ·split
   ·exact ihb
   ·exact opR_ne2 _ _ _
theorem evalL_put (t : EA) (e : EnvL) : ∀ g : GM, evalL ((putE t g).xs.map XM.xe) ((putE t g).x : Int) e = evT t e := by
 induction t with
 | num n =>
  intro g
  unfold evalL GM.x
  simp only [putE, GM.addX, List.map_append, List.map_cons, List.map_nil, List.length_append, List.length_cons, List.length_nil, Nat.zero_add, Nat.add_sub_cancel]
  have := vat_last (g.xs.map XM.xe) (XM.xe ⟨0, [], n, [], []⟩) e
  rw [List.length_map] at this
  rw [this]
  simp [oneX, opsX, evX, XM.xe, evT]
 | name s =>
  intro g
  unfold evalL GM.x
  simp only [putE, GM.addX, List.map_append, List.map_cons, List.map_nil, List.length_append, List.length_cons, List.length_nil, Nat.zero_add, Nat.add_sub_cancel]
  have := vat_last (g.xs.map XM.xe) (XM.xe ⟨1, [], 0, s, []⟩) e
  rw [List.length_map] at this
  rw [this]
  simp [oneX, opsX, evX, XM.xe, evT]
  all_goals (cases getE e s <;> rfl)
 | not a ih =>
  intro g
  have h := ih g
  unfold evalL at h ⊢
  have hn := evT_ne2 a e
  unfold GM.x
  simp only [putE, GM.addX, List.map_append, List.map_cons, List.map_nil, List.length_append, List.length_cons, List.length_nil, Nat.zero_add, Nat.add_sub_cancel]
  have := vat_last ((putE a g).xs.map XM.xe) (XM.xe ⟨2, [], 0, [], [(putE a g).x]⟩) e
  rw [List.length_map] at this
  rw [this]
  simp [oneX, opsX, evX, XM.xe, evT, h, hn]
 | bin op a b iha ihb =>
  intro g
  have h := iha g
  have k := ihb (putE a g)
  unfold evalL at h k ⊢
  obtain ⟨ys, hy, -⟩ := putE_ext b (putE a g)
  have hx := putE_x a g
  have h2 : vat (allX ((putE b (putE a g)).xs.map XM.xe) e) ((putE a g).x : Int) = evT a e := by
   rw [hy, List.map_append, vat_pre _ _ _ (by rw [List.length_map]; exact hx), h]
  have hn := evT_ne2 a e
  have hm := evT_ne2 b e
  unfold GM.x at k h2 ⊢
  simp only [putE, GM.addX, List.map_append, List.map_cons, List.map_nil, List.length_append, List.length_cons, List.length_nil, Nat.zero_add, Nat.add_sub_cancel]
  have := vat_last ((putE b (putE a g)).xs.map XM.xe) (XM.xe ⟨3, op, 0, [], [(putE a g).xs.length - 1, (putE b (putE a g)).xs.length - 1]⟩) e
  rw [List.length_map] at this
  unfold GM.x
  rw [this]
  simp [oneX, opsX, evX, XM.xe, evT, h2, k, hn, hm]
end Go.Proofs.YtomimkgaelkaoaaGreatDoor
namespace Go.Proofs.YtomimkgaelkaoaaGreatDoor
def GExt (g g' : GM) : Prop := (∃ a, g'.xs = g.xs ++ a) ∧ ∃ b, g'.ts = g.ts ++ b
theorem GExt.trans {a b c : GM} (h : GExt a b) (k : GExt b c) : GExt a c := by
 obtain ⟨⟨x, h1⟩, ⟨y, h2⟩⟩ := h
 obtain ⟨⟨z, k1⟩, ⟨w, k2⟩⟩ := k
 exact ⟨⟨x ++ z, by rw [k1, h1, List.append_assoc]⟩, ⟨y ++ w, by rw [k2, h2, List.append_assoc]⟩⟩
end Go.Proofs.YtomimkgaelkaoaaGreatDoor
namespace Go.Proofs.YtomimkgaelkaoaaGreatDoor
theorem items_pre : ∀ (n : Nat) (is is' : List IA) (l l' : List Tok), itemsL n is l = .ok is' l' → ∃ m, is' = is ++ m
 | 0, _, _, _, _, h => by simp [itemsL] at h
 | n + 1, is, is', l, l', h => by
  unfold itemsL at h
  split at h
  ·cases h; exact ⟨[], by simp⟩
  ·obtain ⟨_, _, _, h⟩ := pr_inv h
   obtain ⟨_, _, _, h⟩ := pr_inv h
   obtain ⟨x, l1, _, h⟩ := pr_inv h
   obtain ⟨m, rfl⟩ := items_pre n _ _ _ _ h
   exact ⟨x :: m, by simp⟩
theorem file_pre : ∀ (n : Nat) (cs : List (List UInt8 × Nat)) (ss : List SA) (l : List Tok) (cs' : List (List UInt8 × Nat)) (ss' : List SA) (l' : List Tok), fileL n cs ss l = .ok (cs', ss') l' → ∃ m, ss' = ss ++ m
 | 0, _, _, _, _, _, _, h => by simp [fileL] at h
 | n + 1, cs, ss, l, cs', ss', l', h => by
  unfold fileL at h
  split at h
  ·cases h; exact ⟨[], by simp⟩
  split at h
  ·obtain ⟨_, _, _, h⟩ := pr_inv h
   obtain ⟨x, l1, _, h⟩ := pr_inv h
   exact file_pre n _ _ _ _ _ _ h
  split at h
  ·obtain ⟨_, _, _, h⟩ := pr_inv h
   obtain ⟨x, l1, _, h⟩ := pr_inv h
   obtain ⟨m, rfl⟩ := file_pre n _ _ _ _ _ _ h
   exact ⟨x :: m, by simp⟩
  ·cases h
theorem name_ok {l l' : List Tok} {s : List UInt8} (h : nameP l = .ok s l') : s = (hd l).tk.t ∧ l' = l.tail := by
 unfold nameP at h
 split at h
 ·cases h; exact ⟨rfl, rfl⟩
 ·cases h
theorem file_inv {n : Nat} {cs : List (List UInt8 × Nat)} {ss : List SA} {r rest l : List Tok} {p0 p1 p2 p3 p4 p5 p6 : Ps}
  (h : fileL n [] [] (⟨⟨0, [115, 116, 114, 117, 99, 116], 0⟩, p0⟩ :: ⟨⟨0, [83], 0⟩, p1⟩ :: ⟨⟨2, [123], 0⟩, p2⟩ :: ⟨⟨0, [97], 0⟩, p3⟩ :: ⟨⟨2, [58], 0⟩, p4⟩ :: ⟨⟨0, [98, 121, 116, 101, 115], 0⟩, p5⟩ :: ⟨⟨2, [91], 0⟩, p6⟩ :: rest) = .ok (cs, ss) r) :
  ∃ n1 E l1 d wh is ss', bin n1 1 0 rest = .ok E l1 ∧ isT sRb l1 = true ∧ ss = ⟨[83], [], .field [97] (.idx 1 E) d wh :: is⟩ :: ss' ∧ (l1.tail.map (·.tk) = [tkS 59, tkS 125, tkEnd] → wh = none ∧ is = [] ∧ ss' = []) := by
 cases n with
 | zero => simp [fileL] at h
 | succ n =>
  unfold fileL at h
  rw [if_neg (by simp [hd]), if_neg (by simp [isT, hd, kConst]), if_pos (by simp [isT, hd, kStruct])] at h
  obtain ⟨_, _, e1, h⟩ := pr_inv h
  obtain ⟨s, l1, hs, h⟩ := pr_inv h
  obtain ⟨ms, rfl⟩ := file_pre _ _ _ _ _ _ _ h
  unfold structP at hs
  obtain ⟨_, k1, q1, hs⟩ := pr_inv hs
  obtain ⟨-, rfl⟩ := need_ok q1
  obtain ⟨_, k2, q2, hs⟩ := pr_inv hs
  obtain ⟨rfl, rfl⟩ := name_ok q2
  obtain ⟨ps, k3, q3, hs⟩ := pr_inv hs
  simp only [List.tail_cons] at q3
  unfold optP at q3
  rw [if_neg (by simp [isT, hd, sLp])] at q3
  cases q3
  obtain ⟨_, k4, q4, hs⟩ := pr_inv hs
  obtain ⟨-, rfl⟩ := need_ok q4
  obtain ⟨is, k5, q5, hs⟩ := pr_inv hs
  cases hs
  simp only [List.tail_cons] at q5
  cases n with
  | zero => simp [itemsL] at q5
  | succ n =>
   unfold itemsL at q5
   rw [if_neg (by simp [isT, hd, sRc])] at q5
   obtain ⟨_, _, _, q5⟩ := pr_inv q5
   obtain ⟨_, _, _, q5⟩ := pr_inv q5
   obtain ⟨x, k6, q6, q5⟩ := pr_inv q5
   obtain ⟨mi, rfl⟩ := items_pre _ _ _ _ _ q5
   unfold itemP at q6
   rw [if_neg (by simp [isT, hd, kPack])] at q6
   unfold fieldP at q6
   obtain ⟨_, k7, q7, q6⟩ := pr_inv q6
   obtain ⟨rfl, rfl⟩ := name_ok q7
   obtain ⟨_, k8, q8, q6⟩ := pr_inv q6
   obtain ⟨-, rfl⟩ := need_ok q8
   obtain ⟨t, k9, q9, q6⟩ := pr_inv q6
   obtain ⟨d, k10, q10, q6⟩ := pr_inv q6
   obtain ⟨w, k11, q11, q6⟩ := pr_inv q6
   obtain ⟨_, k12, q12, q6⟩ := pr_inv q6
   cases q6
   simp only [List.tail_cons] at q9
   cases n with
   | zero => simp [typP] at q9
   | succ n =>
    unfold typP at q9
    rw [if_neg (by simp [begT, tyW, hd, kBytes]), if_pos (by simp [isT, hd, kBytes])] at q9
    obtain ⟨E, k13, q13, q9⟩ := pr_inv q9
    cases q9
    unfold idxP at q13
    obtain ⟨_, k14, q14, z1⟩ := pr_inv q13
    obtain ⟨-, rfl⟩ := need_ok q14
    obtain ⟨E', k15, q15, z2⟩ := pr_inv z1
    obtain ⟨_, k16, q16, z3⟩ := pr_inv z2
    cases z3
    obtain ⟨q17, rfl⟩ := need_ok q16
    refine ⟨_, _, _, d, w, mi, ms, q15, q17, by simp [hd], fun hl => ?_⟩
    obtain ⟨a1, a2, a3, e4, b1, b2, b3⟩ : ∃ a1 a2 a3 : Tok, k15.tail = [a1, a2, a3] ∧ a1.tk = tkS 59 ∧ a2.tk = tkS 125 ∧ a3.tk = tkEnd := by
     generalize k15.tail = z at hl
     rcases z with _ | ⟨a1, _ | ⟨a2, _ | ⟨a3, _ | ⟨a4, r⟩⟩⟩⟩ <;> simp at hl
     exact ⟨a1, a2, a3, rfl, hl.1, hl.2.1, hl.2.2⟩
    rw [e4] at q10
    unfold optD at q10
    rw [if_neg (by simp [isT, hd, b1, tkS, sEq])] at q10
    cases q10
    unfold optW at q11
    rw [if_neg (by simp [isT, hd, b1, tkS, kWhere])] at q11
    cases q11
    obtain ⟨-, e5⟩ := need_ok q12
    subst e5
    rw [List.tail_cons] at q5
    have e6 : mi = [] ∧ l1 = [a3] := by
     rename_i n3
     unfold itemsL at q5
     rw [if_pos (by simp [isT, hd, b2, tkS, sRc])] at q5
     simp at q5
     exact ⟨q5.1, q5.2.symm⟩
    obtain ⟨rfl, rfl⟩ := e6
    refine ⟨rfl, rfl, ?_⟩
    unfold fileL at h
    rw [if_pos (by simp [hd, b3, tkEnd])] at h
    simp at h
    exact h.1.2
end Go.Proofs.YtomimkgaelkaoaaGreatDoor
namespace Go.Proofs.YtomimkgaelkaoaaGreatDoor
theorem paren_inv {n d : Nat} {L l : List Tok} {p : Ps} {W : EA} (h : unary n d (⟨tkS 40, p⟩ :: L) = .ok W l) : ∃ n1 l1, bin n1 1 (d + 1) L = .ok W l1 ∧ isT sRp l1 = true ∧ l = l1.tail := by
 cases n with
 | zero => simp [unary] at h
 | succ n =>
  unfold unary at h
  rw [if_neg (by simp [isT, hd, tkS, sExcl]), if_pos (by simp [isT, hd, tkS, sLp])] at h
  obtain ⟨_, k1, q1, h1⟩ := pr_inv h
  have e1 := enter_end10 q1
  subst e1
  obtain ⟨a, k2, q2, h2⟩ := pr_inv h1
  obtain ⟨_, k3, q3, h3⟩ := pr_inv h2
  cases h3
  obtain ⟨q4, e2⟩ := need_ok q3
  exact ⟨n, k2, q2, q4, e2⟩
theorem whole_inv {n : Nat} {L l : List Tok} {p : Ps} {W : EA} (h : bin n 1 0 (⟨tkS 40, p⟩ :: L) = .ok W l) : ∃ n1 E l1 n2, bin n1 1 1 L = .ok E l1 ∧ isT sRp l1 = true ∧ loopB n2 1 0 E l1.tail = .ok W l := by
 cases n with
 | zero => simp [bin] at h
 | succ n =>
  unfold bin at h
  obtain ⟨E, k1, q1, h1⟩ := pr_inv h
  obtain ⟨n1, l1, g1, g2, rfl⟩ := paren_inv q1
  exact ⟨n1, E, l1, n, g1, g2, h1⟩
theorem loop_end {n v d : Nat} {a W : EA} {l l' : List Tok} (hv : 1 ≤ v) (h : loopB n v d a l = .ok W l') (hl : isT sRb l = true) : W = a ∧ l' = l := by
 cases n with
 | zero => simp [loopB] at h
 | succ n =>
  unfold loopB at h
  have e : (hd l).tk.t = sRb := by simpa [isT] using hl
  rw [e, show levelL sRb = 0 from by decide, if_neg (by omega)] at h
  cases h
  exact ⟨rfl, rfl⟩
theorem op_inv {n : Nat} {op : List UInt8} (ho : op ∈ ops13) {E W : EA} {L l : List Tok} {p q : Ps} (h : loopB n 1 0 E (⟨⟨2, op, 0⟩, p⟩ :: ⟨tkS 40, q⟩ :: L) = .ok W l) :
  ∃ n1 F l1, bin n1 1 1 L = .ok F l1 ∧ isT sRp l1 = true ∧ (isT sRb l1.tail = true → W = .bin op E F ∧ l = l1.tail) := by
 cases n with
 | zero => simp [loopB] at h
 | succ n =>
  have hlev : 1 ≤ levelL op := by
   simp only [ops13, List.mem_cons, List.not_mem_nil, or_false] at ho
   rcases ho with rfl | rfl | rfl | rfl | rfl | rfl | rfl | rfl | rfl | rfl | rfl | rfl | rfl <;> decide
  unfold loopB at h
  rw [show (hd (⟨⟨2, op, 0⟩, p⟩ :: ⟨tkS 40, q⟩ :: L)).tk.t = op from rfl, if_pos hlev] at h
  obtain ⟨F, k1, q1, h1⟩ := pr_inv h
  cases n with
  | zero => simp [bin] at q1
  | succ n =>
   unfold bin at q1
   obtain ⟨F1, k2, q2, h2⟩ := pr_inv q1
   obtain ⟨n1, l1, g1, g2, rfl⟩ := paren_inv q2
   refine ⟨n1, F1, l1, g1, g2, fun hb => ?_⟩
   obtain ⟨rfl, rfl⟩ := loop_end (by omega) h2 hb
   exact loop_end (Nat.le_refl _) h1 hb
end Go.Proofs.YtomimkgaelkaoaaGreatDoor
