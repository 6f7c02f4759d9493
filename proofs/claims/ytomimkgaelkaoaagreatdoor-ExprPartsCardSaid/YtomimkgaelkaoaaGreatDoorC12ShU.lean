/- Layer 8, the mathematics: the tokens of a tree are parsed to it: types, items, the File; and what is parsed is such a tree. No program. · Layer 8, the mathematics: items, structs and the File: what is parsed is a tree that can be shown, and its text is parsed to it. No program. -/
import Derived.Test.YtomimkgaelkaoaaGreatDoorC12ShR
set_option linter.unusedVariables false
set_option linter.unusedSimpArgs false
namespace Go.Proofs.YtomimkgaelkaoaaGreatDoor
theorem bind_okE {α β : Type} {r : PR α} {f : α → List Tok → PR β} {a : β} {l : List Tok} (h : r.bind f = .ok a l) : ∃ b l1, r = .ok b l1 ∧ f b l1 = .ok a l := by
 cases r with
 | bad l1 e => cases h
 | ok b l1 => exact ⟨b, l1, rfl, h⟩
theorem need_okE {g : List UInt8} {l l' : List Tok} {u : Unit} (h : need g l = .ok u l') : isT g l = true ∧ l' = l.tail := by
 unfold need at h
 split at h
 ·rename_i h1; cases h; exact ⟨h1, rfl⟩
 ·cases h
theorem name_okE {l l' : List Tok} {s : List UInt8} (h : nameP l = .ok s l') : isName l = true ∧ s = (hd l).tk.t ∧ l' = l.tail := by
 unfold nameP at h
 split at h
 ·rename_i h1; cases h; exact ⟨h1, rfl, rfl⟩
 ·cases h
theorem num_okE {l l' : List Tok} {n : Nat} (h : numP l = .ok n l') : isNum l = true ∧ n = (hd l).tk.n ∧ l' = l.tail := by
 unfold numP at h
 split at h
 ·rename_i h1; cases h; exact ⟨h1, rfl, rfl⟩
 ·cases h
def LX (l : List Tok) : Prop := AllV l ∧ WF l
theorem LX.tl {l : List Tok} (h : LX l) (hw : WF l.tail) : LX l.tail := ⟨fun t ht => h.1 t (List.mem_of_mem_tail ht), hw⟩
theorem LX.t {l : List Tok} {g : List UInt8} (h : LX l) (ht : isT g l = true) (hg : g ≠ []) : LX l.tail := h.tl (h.2.isT ht hg)
theorem LX.name {l : List Tok} (h : LX l) (hn : isName l = true) : NameOK (hd l).tk.t ∧ isKw (hd l).tk.t = false ∧ LX l.tail := by
 refine ⟨(h.1 _ (hd_mem h.2)).1 (name_ne hn), ?_, h.tl (h.2.isName hn)⟩
 unfold isName at hn
 simp only [Bool.and_eq_true, Bool.not_eq_true'] at hn
 exact hn.2
theorem LX.num {l : List Tok} (h : LX l) (hn : isNum l = true) : (hd l).tk.n < 18446744073709551616 ∧ LX l.tail := ⟨(h.1 _ (hd_mem h.2)).2 (num_ne hn), h.tl (h.2.isNum hn)⟩
theorem LX.bin {n d : Nat} {l l' : List Tok} {a : EA} (h : LX l) (e : bin n 1 d l = .ok a l') : VE a ∧ OkD a d ∧ LX l' := by
 obtain ⟨h1, h2, h3, h4⟩ := ok_bin h.1 h.2 e
 exact ⟨h1, h2, h3, h4⟩
theorem need_LX {g : List UInt8} {l l' : List Tok} {u : Unit} (hl : LX l) (h : need g l = .ok u l') (hg : g ≠ []) : LX l' := by
 obtain ⟨h1, rfl⟩ := need_okE h
 exact hl.t h1 hg
def isElem : TA → Bool
 | .int _ _ => true
 | .ref _ _ => true
 | _ => false
def clen : TA → Nat
 | .snoc cs _ _ => clen cs + 1
 | _ => 0
def OkTD : TA → Nat → Prop
 | .int _ _, _ => True
 | .ref _ es, d => (∀ e ∈ es, OkD e d) ∧ es.length ≤ 64
 | .idx _ e, d => OkD e d
 | .win _ e t, d => OkD e d ∧ d < 32 ∧ OkTD t (d + 1)
 | .rest t, d => d < 32 ∧ OkTD t (d + 1)
 | .leaf _, _ => True
 | .arr t e, d => OkTD t d ∧ OkD e d ∧ isElem t = true
 | .sw e cs els, d => OkD e d ∧ OkTD cs d ∧ clen cs ≤ 64 ∧ (els.isNil = false → d < 32 ∧ OkTD els (d + 1))
 | .nil, _ => True
 | .snoc cs _ t, d => OkTD cs d ∧ d < 32 ∧ OkTD t (d + 1)
theorem ok_idx {n d : Nat} {l l' : List Tok} {a : EA} (hl : LX l) (h : idxP n d l = .ok a l') : VE a ∧ OkD a d ∧ LX l' := by
 unfold idxP at h
 obtain ⟨u, l1, h1, h⟩ := bind_okE h
 have k1 := need_LX hl h1 (by decide)
 obtain ⟨e, l2, h2, h⟩ := bind_okE h
 obtain ⟨k2, k3, k4⟩ := k1.bin h2
 obtain ⟨u2, l3, h3, h⟩ := bind_okE h
 cases h
 exact ⟨k2, k3, need_LX k4 h3 (by decide)⟩
theorem ok_argsL : ∀ (n : Nat) (es : List EA) (d : Nat) (l : List Tok) (es' : List EA) (l' : List Tok), LX l → (∀ e ∈ es, VE e ∧ OkD e d) → es.length ≤ 64 → argsL n es d l = .ok es' l' → (∀ e ∈ es', VE e ∧ OkD e d) ∧ es'.length ≤ 64 ∧ LX l' ∧ (es ≠ [] → es' ≠ [])
 | 0, es, d, l, es', l', hl, hv, hn, h => by rw [argsL] at h; cases h
 | n + 1, es, d, l, es', l', hl, hv, hn, h => by
  rw [argsL] at h
  by_cases hc : isT sComma l = true
  ·rw [if_pos hc] at h
   have k0 := hl.t hc (by decide)
   obtain ⟨u, l1, h1, h⟩ := bind_okE h
   obtain ⟨rfl, -⟩ := expect_same h1
   obtain ⟨u2, l2, h2, h⟩ := bind_okE h
   obtain ⟨rfl, h64⟩ := room_same h2
   obtain ⟨e, l3, h3, h⟩ := bind_okE h
   obtain ⟨k1, k2, k3⟩ := k0.bin h3
   obtain ⟨m1, m2, m3, m4⟩ := ok_argsL n (es ++ [e]) d l3 es' l' k3 (fun x hx => by
    rcases List.mem_append.1 hx with hx | hx
    ·exact hv x hx
    ·rw [List.mem_singleton.1 hx]; exact ⟨k1, k2⟩) (by simp; omega) h
   exact ⟨m1, m2, m3, fun _ => m4 (by simp)⟩
  ·rw [if_neg hc] at h
   cases h
   exact ⟨hv, hn, hl, id⟩
theorem ok_args {n d : Nat} {l l' : List Tok} {es : List EA} (hl : LX l) (h : argsP n d l = .ok es l') : (∀ e ∈ es, VE e ∧ OkD e d) ∧ es.length ≤ 64 ∧ LX l' ∧ es ≠ [] := by
 unfold argsP at h
 obtain ⟨e, l1, h1, h⟩ := bind_okE h
 obtain ⟨k1, k2, k3⟩ := hl.bin h1
 obtain ⟨es2, l2, h2, h⟩ := bind_okE h
 obtain ⟨m1, m2, m3, m4⟩ := ok_argsL n [e] d l1 es2 l2 k3 (fun x hx => by rw [List.mem_singleton.1 hx]; exact ⟨k1, k2⟩) (by simp) h2
 obtain ⟨u, l3, h3, h⟩ := bind_okE h
 cases h
 exact ⟨m1, m2, need_LX m3 h3 (by decide), m4 (by simp)⟩
theorem intW_mem {t : List UInt8} {q : Nat × Bool} (h : intW t = some q) : q ∈ intsL.map (·.2) := by
 unfold intW at h
 obtain ⟨x, hx, rfl⟩ := Option.map_eq_some_iff.1 h
 exact List.mem_map.2 ⟨x, List.mem_of_find?_eq_some hx, rfl⟩
def PT (t : TA) (d : Nat) (l : List Tok) : Prop := VT t ∧ OkT t false ∧ OkTD t d ∧ LX l
theorem ok_single {n d : Nat} {l l' : List Tok} {t : TA} (hl : LX l) (hs : (intW (hd l).tk.t).isSome = true ∨ isName l = true) (h : singleP n d l = .ok t l') : PT t d l' ∧ isElem t = true := by
 unfold singleP at h
 cases hi : intW (hd l).tk.t with
 | some q =>
  obtain ⟨z, li⟩ := q
  rw [hi] at h
  cases h
  exact ⟨⟨intW_mem hi, rfl, trivial, hl.tl (hl.2.tailT (intW_ne hi))⟩, rfl⟩
 | none =>
  rw [hi] at h hs
  have hn : isName l = true := hs.resolve_left (by simp)
  obtain ⟨k1, k2, k3⟩ := hl.name hn
  by_cases hp : isT sLp l.tail = true
  ·simp only [hp, if_true] at h
   obtain ⟨es, l1, h1, h⟩ := bind_okE h
   cases h
   obtain ⟨m1, m2, m3, -⟩ := ok_args (k3.t hp (by decide)) h1
   exact ⟨⟨⟨k1, k2, fun e he => (m1 e he).1⟩, rfl, ⟨fun e he => (m1 e he).2, m2⟩, m3⟩, rfl⟩
  ·simp only [hp, if_false, Bool.false_eq_true] at h
   cases h
   exact ⟨⟨⟨k1, k2, fun e he => by cases he⟩, rfl, ⟨fun e he => (by cases he), by simp⟩, k3⟩, rfl⟩
theorem ok_elem {n d : Nat} {l l' : List Tok} {t : TA} (hl : LX l) (hs : (intW (hd l).tk.t).isSome = true ∨ isName l = true) (h : elemP n d l = .ok t l') : PT t d l' := by
 unfold elemP at h
 obtain ⟨t0, l1, h1, h⟩ := bind_okE h
 obtain ⟨⟨k1, k2, k3, k4⟩, k5⟩ := ok_single hl hs h1
 split at h
 ·obtain ⟨e, l2, h2, h⟩ := bind_okE h
  cases h
  obtain ⟨m1, m2, m3⟩ := ok_idx k4 h2
  exact ⟨⟨k1, m1⟩, ⟨rfl, k2⟩, ⟨k3, m2, k5⟩, m3⟩
 ·cases h
  exact ⟨k1, k2, k3, k4⟩
def PC (t : TA) (d : Nat) (l : List Tok) : Prop := VT t ∧ OkT t true ∧ OkTD t d ∧ LX l ∧ clen t ≤ 64
theorem ok_types : ∀ n, (∀ d l t l', LX l → typP n d l = .ok t l' → PT t d l') ∧ (∀ d l t l', LX l → innerP n d l = .ok t l' → d < 32 ∧ PT t (d + 1) l') ∧ (∀ d l t l', LX l → branchP n d l = .ok t l' → d < 32 ∧ PT t (d + 1) l') ∧
  (∀ d k cs l t l', LX l → PC cs d l → clen cs = k → casesL n d k cs l = .ok t l' → PC t d l') ∧ (∀ d l t l', LX l → switchP n d l = .ok t l' → PT t d l')
 | 0 => ⟨fun d l t l' _ h => (by rw [typP] at h; cases h), fun d l t l' _ h => (by rw [innerP] at h; cases h), fun d l t l' _ h => (by rw [branchP] at h; cases h), fun d k cs l t l' _ _ _ h => (by rw [casesL] at h; cases h), fun d l t l' _ h => (by rw [switchP] at h; cases h)⟩
 | n + 1 => by
  obtain ⟨i1, i2, i3, i4, i5⟩ := ok_types n
  refine ⟨fun d l t l' hl h => ?_, fun d l t l' hl h => ?_, fun d l t l' hl h => ?_, fun d k cs l t l' hl hc hk h => ?_, fun d l t l' hl h => ?_⟩
  ·rw [typP] at h
   by_cases hb : begT l = false
   ·rw [if_pos hb] at h; cases h
   ·rw [if_neg hb] at h
    by_cases h1 : isT kBytes l = true
    ·rw [if_pos h1] at h
     obtain ⟨e, l1, h2, h⟩ := bind_okE h
     cases h
     obtain ⟨m1, m2, m3⟩ := ok_idx (hl.t h1 (by decide)) h2
     exact ⟨m1, ⟨rfl, .inl rfl⟩, m2, m3⟩
    ·rw [if_neg h1] at h
     by_cases h1 : isT kZero l = true
     ·rw [if_pos h1] at h
      obtain ⟨e, l1, h2, h⟩ := bind_okE h
      cases h
      obtain ⟨m1, m2, m3⟩ := ok_idx (hl.t h1 (by decide)) h2
      exact ⟨m1, ⟨rfl, .inr (.inl rfl)⟩, m2, m3⟩
     ·rw [if_neg h1] at h
      by_cases h1 : isT kSkip l = true
      ·rw [if_pos h1] at h
       obtain ⟨e, l1, h2, h⟩ := bind_okE h
       cases h
       obtain ⟨m1, m2, m3⟩ := ok_idx (hl.t h1 (by decide)) h2
       exact ⟨m1, ⟨rfl, .inr (.inr rfl)⟩, m2, m3⟩
      ·rw [if_neg h1] at h
       by_cases h1 : isT kWindow l = true
       ·rw [if_pos h1] at h
        obtain ⟨e, l1, h2, h⟩ := bind_okE h
        obtain ⟨m1, m2, m3⟩ := ok_idx (hl.t h1 (by decide)) h2
        obtain ⟨t2, l2, h3, h⟩ := bind_okE h
        cases h
        obtain ⟨p1, p2, p3, p4, p5⟩ := i2 _ _ _ _ m3 h3
        exact ⟨⟨m1, p2⟩, ⟨rfl, .inl rfl, p3⟩, ⟨m2, p1, p4⟩, p5⟩
       ·rw [if_neg h1] at h
        by_cases h1 : isT kAt l = true
        ·rw [if_pos h1] at h
         obtain ⟨e, l1, h2, h⟩ := bind_okE h
         obtain ⟨m1, m2, m3⟩ := ok_idx (hl.t h1 (by decide)) h2
         obtain ⟨t2, l2, h3, h⟩ := bind_okE h
         cases h
         obtain ⟨p1, p2, p3, p4, p5⟩ := i2 _ _ _ _ m3 h3
         exact ⟨⟨m1, p2⟩, ⟨rfl, .inr rfl, p3⟩, ⟨m2, p1, p4⟩, p5⟩
        ·rw [if_neg h1] at h
         by_cases h1 : isT kRest l = true
         ·rw [if_pos h1] at h
          obtain ⟨t2, l2, h3, h⟩ := bind_okE h
          cases h
          obtain ⟨p1, p2, p3, p4, p5⟩ := i2 _ _ _ _ (hl.t h1 (by decide)) h3
          exact ⟨p2, ⟨rfl, p3⟩, ⟨p1, p4⟩, p5⟩
         ·rw [if_neg h1] at h
          by_cases h1 : isT kTail l = true
          ·rw [if_pos h1] at h
           cases h
           exact ⟨trivial, ⟨rfl, .inl rfl⟩, trivial, hl.t h1 (by decide)⟩
          ·rw [if_neg h1] at h
           by_cases h1 : isT kNone l = true
           ·rw [if_pos h1] at h
            cases h
            exact ⟨trivial, ⟨rfl, .inr rfl⟩, trivial, hl.t h1 (by decide)⟩
           ·rw [if_neg h1] at h
            by_cases h2 : isT kSwitch l = true
            ·rw [if_pos h2] at h
             exact i5 _ _ _ _ (hl.t h2 (by decide)) h
            ·rw [if_neg h2] at h
             refine ok_elem hl ?_ h
             cases hs : (intW (hd l).tk.t).isSome
             ·right
              cases hn : isName l
              ·exfalso
               apply hb
               unfold begT
               rw [hs, hn]
               unfold isT at *
               simp_all [tyW]
              ·rfl
             ·exact .inl rfl
  ·rw [innerP] at h
   obtain ⟨u, l1, h1, h⟩ := bind_okE h
   obtain ⟨rfl, -, hd32⟩ := enter_same h1
   rw [h1, PR.bind_ok] at h
   exact ⟨hd32, i1 _ _ _ _ hl h⟩
  ·rw [branchP] at h
   obtain ⟨u, l1, h1, h⟩ := bind_okE h
   obtain ⟨t2, l2, h2, h⟩ := bind_okE h
   obtain ⟨u3, l3, h3, h⟩ := bind_okE h
   cases h
   obtain ⟨p1, p2, p3, p4, p5⟩ := i2 _ _ _ _ (need_LX hl h1 (by decide)) h2
   exact ⟨p1, p2, p3, p4, need_LX p5 h3 (by decide)⟩
  ·rw [casesL] at h
   by_cases h1 : isT kCase l = true
   ·rw [if_pos h1] at h
    obtain ⟨u, l1, h2, h⟩ := bind_okE h
    obtain ⟨-, h64⟩ := room_same h2
    obtain ⟨v, l2, h3, h⟩ := bind_okE h
    obtain ⟨h4, rfl, rfl⟩ := num_okE h3
    obtain ⟨q1, q2⟩ := (hl.t h1 (by decide)).num h4
    obtain ⟨t2, l3, h5, h⟩ := bind_okE h
    obtain ⟨p1, p2, p3, p4, p5⟩ := i3 _ _ _ _ q2 h5
    obtain ⟨c1, c2, c3, c4, c5⟩ := hc
    exact i4 _ _ (.snoc cs (hd l.tail).tk.n t2) _ _ _ p5 ⟨⟨c1, q1, p2⟩, ⟨rfl, c2, p3⟩, ⟨c3, p1, p4⟩, p5, by unfold clen; omega⟩ (by show clen cs + 1 = k + 1; omega) h
   ·rw [if_neg h1] at h
    cases h
    exact hc
  ·rw [switchP] at h
   obtain ⟨u, l1, h1, h⟩ := bind_okE h
   obtain ⟨e, l2, h2, h⟩ := bind_okE h
   obtain ⟨m1, m2, m3⟩ := (need_LX hl h1 (by decide)).bin h2
   obtain ⟨u3, l3, h3, h⟩ := bind_okE h
   obtain ⟨u4, l4, h4, h⟩ := bind_okE h
   have k4 := need_LX (need_LX m3 h3 (by decide)) h4 (by decide)
   obtain ⟨cs, l5, h5, h⟩ := bind_okE h
   obtain ⟨c1, c2, c3, c4, c5⟩ := i4 _ _ .nil _ _ _ k4 ⟨trivial, rfl, trivial, k4, by show 0 ≤ 64; omega⟩ rfl h5
   by_cases h6 : isT kElse l5 = true
   ·rw [if_pos h6] at h
    obtain ⟨t2, l6, h7, h⟩ := bind_okE h
    obtain ⟨p1, p2, p3, p4, p5⟩ := i3 _ _ _ _ (c4.t h6 (by decide)) h7
    obtain ⟨u8, l8, h8, h⟩ := bind_okE h
    cases h
    exact ⟨⟨m1, c1, p2⟩, ⟨rfl, c2, fun _ => p3⟩, ⟨m2, c3, c5, fun _ => ⟨p1, p4⟩⟩, need_LX p5 h8 (by decide)⟩
   ·rw [if_neg h6] at h
    obtain ⟨u8, l8, h8, h⟩ := bind_okE h
    cases h
    exact ⟨⟨m1, c1, trivial⟩, ⟨rfl, c2, fun e => by cases e⟩, ⟨m2, c3, c5, fun e => by cases e⟩, need_LX c4 h8 (by decide)⟩
end Go.Proofs.YtomimkgaelkaoaaGreatDoor
namespace Go.Proofs.YtomimkgaelkaoaaGreatDoor
def OkID : IA → Prop
 | .field _ t _ wh => OkTD t 0 ∧ ∀ e, wh = some e → OkD e 0
 | .pack _ _ subs => subs.length ≤ 64
def OkSD (s : SA) : Prop := s.ps.length ≤ 64 ∧ s.is.length ≤ 64 ∧ ∀ x ∈ s.is, OkID x
def PI (x : IA) : Prop := VI x ∧ OkI x ∧ OkID x
def PS (s : SA) : Prop := VS s ∧ OkS s ∧ OkSD s
theorem ok_der {l l' : List Tok} {d : DA} (hl : LX l) (h : derP l = .ok d l') : DerOK d ∧ LX l' := by
 unfold derP at h
 by_cases h0 : derK l = 0
 ·rw [if_pos h0] at h; cases h
 ·rw [if_neg h0] at h
  have hk : derK l ≤ 4 ∧ LX l.tail := by
   unfold derK at h0 ⊢
   split
   ·rename_i h1; exact ⟨by omega, hl.t h1 (by decide)⟩
   ·split
    ·rename_i h1; exact ⟨by omega, hl.t h1 (by decide)⟩
    ·split
     ·rename_i h1; exact ⟨by omega, hl.t h1 (by decide)⟩
     ·split
      ·rename_i h1; exact ⟨by omega, hl.t h1 (by decide)⟩
      ·simp_all
  obtain ⟨hk, hl1⟩ := hk
  obtain ⟨u, l1, h1, h⟩ := bind_okE h
  have k1 := need_LX hl1 h1 (by decide)
  obtain ⟨a, l2, h2, h⟩ := bind_okE h
  obtain ⟨h3, rfl, rfl⟩ := name_okE h2
  obtain ⟨a1, a2, a3⟩ := k1.name h3
  by_cases h2 : derK l ≤ 2
  ·rw [if_pos h2] at h
   obtain ⟨u, l3, h4, h⟩ := bind_okE h
   cases h
   exact ⟨⟨hk, fun _ => ⟨a1, a2⟩, fun h => absurd (show 3 ≤ derK l from h) (by omega), fun h => absurd (show derK l = 0 from h) h0, fun _ => rfl⟩, need_LX a3 h4 (by decide)⟩
  ·rw [if_neg h2] at h
   obtain ⟨u, l3, h4, h⟩ := bind_okE h
   have k4 := need_LX a3 h4 (by decide)
   obtain ⟨b, l4, h5, h⟩ := bind_okE h
   obtain ⟨h6, rfl, rfl⟩ := name_okE h5
   obtain ⟨b1, b2, b3⟩ := k4.name h6
   obtain ⟨u, l5, h7, h⟩ := bind_okE h
   cases h
   exact ⟨⟨hk, fun _ => ⟨a1, a2⟩, fun _ => ⟨b1, b2⟩, fun h => absurd (show derK l = 0 from h) h0, fun h => absurd (show derK l ≤ 2 from h) h2⟩, need_LX b3 h7 (by decide)⟩
theorem ok_field {n : Nat} {l l' : List Tok} {x : IA} (hl : LX l) (h : fieldP n l = .ok x l') : PI x ∧ LX l' := by
 unfold fieldP at h
 obtain ⟨s, l1, h1, h⟩ := bind_okE h
 obtain ⟨h2, rfl, rfl⟩ := name_okE h1
 obtain ⟨a1, a2, a3⟩ := hl.name h2
 obtain ⟨u, l2, h3, h⟩ := bind_okE h
 obtain ⟨t, l3, h4, h⟩ := bind_okE h
 obtain ⟨t1, t2, t3, t4⟩ := (ok_types n).1 _ _ _ _ (need_LX a3 h3 (by decide)) h4
 obtain ⟨d, l4, h5, h⟩ := bind_okE h
 have hd : DerOK d ∧ LX l4 := by
  unfold optD at h5
  split at h5
  ·rename_i h6
   exact ok_der (t4.t h6 (by decide)) h5
  ·cases h5
   exact ⟨⟨by show 0 ≤ 4; omega, fun h => absurd rfl h, fun h => absurd (show 3 ≤ 0 from h) (by omega), fun _ => rfl, fun _ => rfl⟩, t4⟩
 obtain ⟨d1, d2⟩ := hd
 obtain ⟨wh, l5, h6, h⟩ := bind_okE h
 have hw : (∀ e, wh = some e → VE e ∧ OkD e 0) ∧ LX l5 := by
  unfold optW at h6
  split at h6
  ·rename_i h7
   obtain ⟨e, l6, h8, h6⟩ := bind_okE h6
   cases h6
   obtain ⟨e1, e2, e3⟩ := (d2.t h7 (by decide)).bin h8
   exact ⟨fun e' he => (by cases he; exact ⟨e1, e2⟩), e3⟩
  ·cases h6
   exact ⟨fun e' he => (by cases he), d2⟩
 obtain ⟨w1, w2⟩ := hw
 obtain ⟨u, l6, h7, h⟩ := bind_okE h
 cases h
 exact ⟨⟨⟨a1, a2, t1, d1, fun e he => (w1 e he).1⟩, ⟨t2, d1.1⟩, t3, fun e he => (w1 e he).2⟩, need_LX w2 h7 (by decide)⟩
def SubOK (x : List UInt8 × Nat) : Prop := NameOK x.1 ∧ isKw x.1 = false ∧ x.2 ≤ 1048576
theorem ok_sub {l l' : List Tok} {x : List UInt8 × Nat} (hl : LX l) (h : subP l = .ok x l') : SubOK x ∧ LX l' := by
 unfold subP at h
 obtain ⟨s, l1, h1, h⟩ := bind_okE h
 obtain ⟨h2, rfl, rfl⟩ := name_okE h1
 obtain ⟨a1, a2, a3⟩ := hl.name h2
 obtain ⟨u, l2, h3, h⟩ := bind_okE h
 have k := need_LX a3 h3 (by decide)
 obtain ⟨v, l3, h4, h⟩ := bind_okE h
 obtain ⟨h5, rfl, rfl⟩ := num_okE h4
 obtain ⟨u, l4, h6, h⟩ := bind_okE h
 cases h
 exact ⟨⟨a1, a2, Nat.min_le_right _ _⟩, need_LX (k.num h5).2 h6 (by decide)⟩
theorem ok_subs : ∀ (n : Nat) (ss : List (List UInt8 × Nat)) (l : List Tok) (ss' : List (List UInt8 × Nat)) (l' : List Tok), LX l → (∀ x ∈ ss, SubOK x) → ss.length ≤ 64 → ss ≠ [] → subsL n ss l = .ok ss' l' → (∀ x ∈ ss', SubOK x) ∧ ss'.length ≤ 64 ∧ ss' ≠ [] ∧ LX l'
 | 0, ss, l, ss', l', hl, hv, hn, hne, h => by rw [subsL] at h; cases h
 | n + 1, ss, l, ss', l', hl, hv, hn, hne, h => by
  rw [subsL] at h
  split at h
  ·rename_i h1
   cases h
   exact ⟨hv, hn, hne, hl.t h1 (by decide)⟩
  ·obtain ⟨u, l1, h1, h⟩ := bind_okE h
   obtain ⟨u, l2, h2, h⟩ := bind_okE h
   obtain ⟨-, h64⟩ := room_same h2
   obtain ⟨x, l3, h3, h⟩ := bind_okE h
   obtain ⟨k1, k2⟩ := ok_sub hl h3
   exact ok_subs n _ l3 ss' l' k2 (fun y hy => by
    rcases List.mem_append.1 hy with hy | hy
    ·exact hv y hy
    ·rw [List.mem_singleton.1 hy]; exact k1) (by simp; omega) (by simp) h
theorem ok_pack {n : Nat} {l l' : List Tok} {x : IA} (hl : LX l) (h : packP n l = .ok x l') : PI x ∧ LX l' := by
 unfold packP at h
 cases hi : intW (hd l).tk.t with
 | none => rw [hi] at h; cases h
 | some q =>
  obtain ⟨z, li⟩ := q
  rw [hi] at h
  obtain ⟨u, l1, h1, h⟩ := bind_okE h
  have k1 := need_LX (hl.tl (hl.2.tailT (intW_ne hi))) h1 (by decide)
  obtain ⟨y, l2, h2, h⟩ := bind_okE h
  obtain ⟨y1, y2⟩ := ok_sub k1 h2
  obtain ⟨ss, l3, h3, h⟩ := bind_okE h
  cases h
  obtain ⟨s1, s2, s3, s4⟩ := ok_subs n [y] l2 ss _ y2 (fun z hz => by rw [List.mem_singleton.1 hz]; exact y1) (by simp) (by simp) h3
  exact ⟨⟨⟨intW_mem hi, s1⟩, s3, s2⟩, s4⟩
theorem ok_item {n : Nat} {l l' : List Tok} {x : IA} (hl : LX l) (h : itemP n l = .ok x l') : PI x ∧ LX l' := by
 unfold itemP at h
 split at h
 ·rename_i h1; exact ok_pack (hl.t h1 (by decide)) h
 ·exact ok_field hl h
theorem ok_items : ∀ (n : Nat) (is : List IA) (l : List Tok) (is' : List IA) (l' : List Tok), LX l → (∀ x ∈ is, PI x) → is.length ≤ 64 → itemsL n is l = .ok is' l' → (∀ x ∈ is', PI x) ∧ is'.length ≤ 64 ∧ LX l'
 | 0, is, l, is', l', hl, hv, hn, h => by rw [itemsL] at h; cases h
 | n + 1, is, l, is', l', hl, hv, hn, h => by
  rw [itemsL] at h
  split at h
  ·rename_i h1
   cases h
   exact ⟨hv, hn, hl.t h1 (by decide)⟩
  ·obtain ⟨u, l1, h1, h⟩ := bind_okE h
   obtain ⟨u, l2, h2, h⟩ := bind_okE h
   obtain ⟨-, h64⟩ := room_same h2
   obtain ⟨x, l3, h3, h⟩ := bind_okE h
   obtain ⟨k1, k2⟩ := ok_item hl h3
   exact ok_items n _ l3 is' l' k2 (fun y hy => by
    rcases List.mem_append.1 hy with hy | hy
    ·exact hv y hy
    ·rw [List.mem_singleton.1 hy]; exact k1) (by simp; omega) h
def NmOK (s : List UInt8) : Prop := NameOK s ∧ isKw s = false
theorem ok_params : ∀ (n : Nat) (ps : List (List UInt8)) (l : List Tok) (ps' : List (List UInt8)) (l' : List Tok), LX l → (∀ x ∈ ps, NmOK x) → ps.length ≤ 64 → paramsL n ps l = .ok ps' l' → (∀ x ∈ ps', NmOK x) ∧ ps'.length ≤ 64 ∧ LX l'
 | 0, ps, l, ps', l', hl, hv, hn, h => by rw [paramsL] at h; cases h
 | n + 1, ps, l, ps', l', hl, hv, hn, h => by
  rw [paramsL] at h
  split at h
  ·rename_i h0
   obtain ⟨u, l1, h1, h⟩ := bind_okE h
   obtain ⟨rfl, -⟩ := expect_same h1
   obtain ⟨u, l2, h2, h⟩ := bind_okE h
   obtain ⟨rfl, h64⟩ := room_same h2
   obtain ⟨x, l3, h3, h⟩ := bind_okE h
   obtain ⟨h4, rfl, rfl⟩ := name_okE h3
   obtain ⟨k1, k2, k3⟩ := (hl.t h0 (by decide)).name h4
   exact ok_params n _ _ ps' l' k3 (fun y hy => by
    rcases List.mem_append.1 hy with hy | hy
    ·exact hv y hy
    ·rw [List.mem_singleton.1 hy]; exact ⟨k1, k2⟩) (by simp; omega) h
  ·cases h
   exact ⟨hv, hn, hl⟩
theorem ok_optP {n : Nat} {l l' : List Tok} {ps : List (List UInt8)} (hl : LX l) (h : optP n l = .ok ps l') : (∀ x ∈ ps, NmOK x) ∧ ps.length ≤ 64 ∧ LX l' := by
 unfold optP paramsP at h
 split at h
 ·rename_i h0
  obtain ⟨s, l1, h1, h⟩ := bind_okE h
  obtain ⟨h2, rfl, rfl⟩ := name_okE h1
  obtain ⟨k1, k2, k3⟩ := (hl.t h0 (by decide)).name h2
  obtain ⟨ps2, l2, h3, h⟩ := bind_okE h
  obtain ⟨p1, p2, p3⟩ := ok_params n _ _ ps2 l2 k3 (fun y hy => by rw [List.mem_singleton.1 hy]; exact ⟨k1, k2⟩) (by simp) h3
  obtain ⟨u, l3, h4, h⟩ := bind_okE h
  cases h
  exact ⟨p1, p2, need_LX p3 h4 (by decide)⟩
 ·cases h
  exact ⟨fun x hx => (by cases hx), by simp, hl⟩
theorem ok_struct {n : Nat} {l l' : List Tok} {s : SA} (hl : LX l) (h : structP n l = .ok s l') : PS s ∧ LX l' := by
 unfold structP at h
 obtain ⟨u, l1, h1, h⟩ := bind_okE h
 have k1 := need_LX hl h1 (by decide)
 obtain ⟨nm, l2, h2, h⟩ := bind_okE h
 obtain ⟨h3, rfl, rfl⟩ := name_okE h2
 obtain ⟨a1, a2, a3⟩ := k1.name h3
 obtain ⟨ps, l3, h4, h⟩ := bind_okE h
 obtain ⟨p1, p2, p3⟩ := ok_optP a3 h4
 obtain ⟨u, l4, h5, h⟩ := bind_okE h
 obtain ⟨is, l5, h6, h⟩ := bind_okE h
 cases h
 obtain ⟨i1, i2, i3⟩ := ok_items n [] l4 is _ (need_LX p3 h5 (by decide)) (fun x hx => by cases hx) (by simp) h6
 exact ⟨⟨⟨a1, a2, p1, fun x hx => (i1 x hx).1⟩, fun x hx => (i1 x hx).2.1, p2, i2, fun x hx => (i1 x hx).2.2⟩, i3⟩
theorem ok_const {l l' : List Tok} {c : List UInt8 × Nat} (hl : LX l) (h : constP l = .ok c l') : VC c ∧ LX l' := by
 unfold constP at h
 obtain ⟨u, l1, h1, h⟩ := bind_okE h
 have k1 := need_LX hl h1 (by decide)
 obtain ⟨nm, l2, h2, h⟩ := bind_okE h
 obtain ⟨h3, rfl, rfl⟩ := name_okE h2
 obtain ⟨a1, a2, a3⟩ := k1.name h3
 obtain ⟨u, l3, h4, h⟩ := bind_okE h
 have k4 := need_LX a3 h4 (by decide)
 obtain ⟨v, l4, h5, h⟩ := bind_okE h
 obtain ⟨h6, rfl, rfl⟩ := num_okE h5
 obtain ⟨v1, v2⟩ := k4.num h6
 obtain ⟨u, l5, h7, h⟩ := bind_okE h
 cases h
 exact ⟨⟨a1, a2, v1⟩, need_LX v2 h7 (by decide)⟩
theorem ok_file : ∀ (n : Nat) (cs : List (List UInt8 × Nat)) (ss : List SA) (l : List Tok) (a : List (List UInt8 × Nat) × List SA) (l' : List Tok), LX l → (∀ c ∈ cs, VC c) → (∀ s ∈ ss, PS s) → cs.length ≤ 64 → ss.length ≤ 64 → fileL n cs ss l = .ok a l' → (∀ c ∈ a.1, VC c) ∧ (∀ s ∈ a.2, PS s) ∧ a.1.length ≤ 64 ∧ a.2.length ≤ 64
 | 0, cs, ss, l, a, l', hl, hc, hs, nc, ns, h => by rw [fileL] at h; cases h
 | n + 1, cs, ss, l, a, l', hl, hc, hs, nc, ns, h => by
  rw [fileL] at h
  split at h
  ·cases h
   exact ⟨hc, hs, nc, ns⟩
  ·split at h
   ·obtain ⟨u, l1, h1, h⟩ := bind_okE h
    obtain ⟨-, h64⟩ := room_same h1
    obtain ⟨c, l2, h2, h⟩ := bind_okE h
    obtain ⟨c1, c2⟩ := ok_const hl h2
    exact ok_file n _ ss l2 a l' c2 (fun y hy => by
     rcases List.mem_append.1 hy with hy | hy
     ·exact hc y hy
     ·rw [List.mem_singleton.1 hy]; exact c1) hs (by simp; omega) ns h
   ·split at h
    ·obtain ⟨u, l1, h1, h⟩ := bind_okE h
     obtain ⟨-, h64⟩ := room_same h1
     obtain ⟨s, l2, h2, h⟩ := bind_okE h
     obtain ⟨s1, s2⟩ := ok_struct hl h2
     exact ok_file n cs _ l2 a l' s2 hc (fun y hy => by
      rcases List.mem_append.1 hy with hy | hy
      ·exact hs y hy
      ·rw [List.mem_singleton.1 hy]; exact s1) nc (by simp; omega) h
    ·cases h
end Go.Proofs.YtomimkgaelkaoaaGreatDoor
