/- Contracts of layer 6: Go's library in this text's words; numbers. -/
import Derived.Test.YtioddoojjmeknaaDoorLexG
namespace Go.Proofs.YtioddoojjmeknaaDoor
open Go.ChangeShapes Go.WideShapes Go.ChangeAt Go.RowKit
set_option linter.unusedVariables false

theorem ascii_of (l : List UInt8) (h : l.all (fun b => decide (b.toNat < 128)) = true) : ∀ (j : Nat) b, l[j]? = some b → b.toNat < 128 := fun j b hb => by
  simpa using List.all_eq_true.1 h b (List.mem_of_getElem? hb)
theorem hasPrefix_any (s g : ByteArray) (w : World) :
    Calls Tryd.prog 32 #[.string s, .string g] w fun e w' => e = .returned (.bool (g.data.toList.isPrefixOf s.data.toList)) ∧ w' = w := Tryd.strings_HasPrefix s g w
theorem trimLeft_any (s cs : ByteArray) (h1 : cs.size < 4294967281) (h2 : cs.data.toList.all (fun b => decide (b.toNat < 128)) = true) (w : World) :
    Calls Tryd.prog 37 #[.string s, .string cs] w fun e w' => e = .returned (.string (bs (s.data.toList.dropWhile (cs.data.toList.contains ·)))) ∧ Below w.heap.size w w' :=
  Any.strings_TrimLeft_laid Tryd.laysTrim (by kernel_rfl) s cs w h1 (ascii_of _ h2)

theorem parseM (l : List UInt8) : ∀ (n : Nat), n < 18446744073709551616 → l.all isD = true →
    Lib.parseUintM (2 ^ 64 - 1) n l = if 18446744073709551616 ≤ valA 10 n l then .range else .ok (valA 10 n l) := by
  induction l with
  | nil => intro n hn _; unfold Lib.parseUintM valA; rw [if_neg (by omega)]
  | cons c r ih =>
    intro n hn h
    simp only [List.all_cons, Bool.and_eq_true] at h
    have hd := h.1
    simp only [isD, decide_eq_true_eq] at hd
    have hv : dv c = c.toNat - 48 := by unfold dv; rw [if_pos hd.2]
    have hle := valA_le (b := 10) (by decide) r (n * 10 + dv c)
    unfold Lib.parseUintM
    rw [if_pos hd]
    unfold valA
    rw [hv] at hle ⊢
    by_cases hcut : 1844674407370955162 ≤ n
    · rw [if_pos hcut, if_pos (by omega)]
    · rw [if_neg hcut]
      by_cases hb : 2 ^ 64 - 1 < n * 10 + (c.toNat - 48)
      · rw [if_pos hb, if_pos (by omega)]
      · rw [if_neg hb]
        exact ih _ (by omega) h.2
theorem parse10 {l : List UInt8} (h0 : l ≠ []) (h : l.all isD = true) : Lib.parseUintB 64 l = if 18446744073709551616 ≤ valA 10 0 l then .range else .ok (valA 10 0 l) := by
  unfold Lib.parseUintB
  rw [if_neg h0]
  exact parseM l 0 (by decide) h

/-- strconv.ParseUint of digits, in tens or in sixteens. -/
def PU (t : ByteArray) (b : Nat) (w : World) (e : Ending) (w' : World) : Prop :=
  (((numV b t.data.toList).2 = 0 ∧ e = .returned (.tuple #[.int .u64 (numV b t.data.toList).1, .nilIface])) ∨
   ((numV b t.data.toList) = (0, 5) ∧ ∃ N : Nat, e = .returned (.tuple #[.int .u64 18446744073709551615, .iface 115 (.pointer (some ⟨N, 0, none⟩))]))) ∧ Below w.heap.size w w'

theorem pu10 (t : ByteArray) (h0 : t.size ≠ 0) (hs : t.size ≤ 140737488355328) (hx : t.data.toList.all isD = true) (w : World) (hE : Env w) :
    Calls Tryd.prog 69 #[.string t, .int .i64 10, .int .i64 64] w (PU t 10 w) := by
  have hne : t.data.toList ≠ [] := fun e => h0 (by rw [size_list, e]; rfl)
  have hp := parse10 hne hx
  by_cases hb : 18446744073709551616 ≤ valA 10 0 t.data.toList
  · rw [if_pos hb] at hp
    obtain ⟨ev, h1, h2⟩ := hE.range
    refine (Tryd.strconv_ParseUint_10_at64_range t (by omega) hp ev w h1 h2).mono ?_
    rintro e w' ⟨N, rfl, _, _, h⟩
    exact ⟨.inr ⟨numV_big hb, N, rfl⟩, h⟩
  · rw [if_neg hb] at hp
    refine (Tryd.strconv_ParseUint_10_at64_ok t (by omega) _ hp w).mono ?_
    rintro e w' ⟨rfl, h⟩
    have e := numV_small (b := 10) (l := t.data.toList) (by omega)
    refine ⟨.inl ⟨by rw [e], by rw [e]⟩, ?_⟩
    rcases h with rfl | rfl
    · exact Below.refl _ _
    · exact Lib.bytesWorld_below _ _ _

theorem pu16 (t : ByteArray) (h0 : t.size ≠ 0) (hs : t.size ≤ 140737488355328) (hx : t.data.toList.all isX = true) (w : World) (hE : Env w) :
    Calls Tryd.prog 69 #[.string t, .int .i64 16, .int .i64 64] w (PU t 16 w) := by
  have c := ipu16 t h0 hs hx w
  obtain ⟨ev, h1, h2⟩ := hE.range
  rcases numV_two 16 t.data.toList with ⟨n, hn⟩ | hn
  · rw [hn] at c
    have c' : Calls Tryd.prog 75 #[.string t, .int .i64 16, .int .i64 64] w fun e w' => e = .returned (.tuple #[.int .u64 n, .nilIface]) ∧ Below w.heap.size w w' := c
    have C := Lib.hid c'
    clear c c'
    go_enter Tryd.func69, Tryd.ntmps69
    go_wp2_with (go_at_call 75; refine C.out.mono ?_; rintro e w' ⟨rfl, hb⟩)
    go_ret2
    exact ⟨.inl ⟨by rw [hn], by rw [hn]; rfl⟩, hb⟩
  · rw [hn] at c
    have c' : Calls Tryd.prog 75 #[.string t, .int .i64 16, .int .i64 64] w fun e w' => e = .returned (.tuple #[.int .u64 18446744073709551615, .iface 113 (.int .i64 1)]) ∧ Below w.heap.size w w' := c
    have C := Lib.hid c'
    have hlt : 5 < w.heap.size := World.block_lt_of_cell? w _ h1
    have cT := fun w' (hb : Below w.heap.size w w') => Tryd.strconv_toError_range ⟨#[80, 97, 114, 115, 101, 85, 105, 110, 116]⟩ t 16 64 ev w' (by omega) ((hb.cell (p := ⟨5, 0, none⟩) hlt).trans h1) h2
    have CT := Lib.hid cT
    clear c c' cT
    go_enter Tryd.func69, Tryd.ntmps69
    go_wp2_with (first | (go_at_call 75; refine C.out.mono ?_; rintro e w1 ⟨rfl, hb1⟩) | (go_at_call 76; refine (CT.out _ hb1).mono ?_; rintro e w2 ⟨N, rfl, _, _, hb2⟩))
    go_ret2
    exact ⟨.inr ⟨hn, N, rfl⟩, chain hb1 (Nat.le_refl _) hb2⟩

theorem cutPrefix_any (s g : ByteArray) (w : World) :
    Calls Tryd.prog 68 #[.string s, .string g] w fun e w' => e = .returned (.tuple #[.string (bs (if g.data.toList.isPrefixOf s.data.toList = true then s.data.toList.drop g.data.toList.length else s.data.toList)), .bool (g.data.toList.isPrefixOf s.data.toList)]) ∧ w' = w := Tryd.strings_CutPrefix s g w

def tens : ByteArray := ⟨#[48, 49, 50, 51, 52, 53, 54, 55, 56, 57]⟩
def sixteens : ByteArray := ⟨#[48, 49, 50, 51, 52, 53, 54, 55, 56, 57, 97, 98, 99, 100, 101, 102, 65, 66, 67, 68, 69, 70]⟩
theorem tens_isD (c : UInt8) : tens.data.toList.contains c = isD c := by
  have h : ∀ n : Fin 256, tens.data.toList.contains (UInt8.ofNat n.val) = isD (UInt8.ofNat n.val) := by decide +kernel
  have := h ⟨c.toNat, c.toNat_lt⟩
  simpa using this
theorem sixteens_isX (c : UInt8) : sixteens.data.toList.contains c = isX c := by
  have h : ∀ n : Fin 256, sixteens.data.toList.contains (UInt8.ofNat n.val) = isX (UInt8.ofNat n.val) := by decide +kernel
  have := h ⟨c.toNat, c.toNat_lt⟩
  simpa using this
theorem dropWhile_all {p : UInt8 → Bool} {l : List UInt8} : l.dropWhile p = [] ↔ l.all p = true := by
  induction l with
  | nil => simp
  | cons c r ih => cases h : p c <;> simp [List.dropWhile, h, ih]

theorem empty_iff (s : ByteArray) : s.toList.isEmpty = s.data.toList.isEmpty := by rw [ByteArray.toList_eq]
/-- What 'number' finds when it looks at the digits. -/
structure Digs (b : Nat) (K t : ByteArray) (r : Nat × Nat) : Prop where
  trim : ∀ w, Calls Tryd.prog 37 #[.string t, .string K] w fun e w' => ∃ x, e = .returned (.string x) ∧ (x.toList.isEmpty = true ↔ t.toList.isEmpty = true ∨ r.2 ≠ 4) ∧ Below w.heap.size w w'
  pu : t.toList.isEmpty = false → r.2 ≠ 4 → ∀ w, Env w → Calls Tryd.prog 69 #[.string t, .int .i64 b, .int .i64 64] w (PU t b w)
  val : t.toList.isEmpty = false → r.2 ≠ 4 → r = numV b t.data.toList
  empty : t.toList.isEmpty = true → r = (0, 4)
  form : r.2 = 4 → r = (0, 4)
theorem digs_of {b : Nat} {K t : ByteArray} {p : UInt8 → Bool} (hK : ∀ c, K.data.toList.contains c = p c) (h1 : K.size < 4294967281) (h2 : K.data.toList.all (fun b => decide (b.toNat < 128)) = true)
    (hp : ∀ w, t.size ≠ 0 → t.data.toList.all p = true → Env w → Calls Tryd.prog 69 #[.string t, .int .i64 b, .int .i64 64] w (PU t b w)) : Digs b K t (numB b p t.data.toList) := by
  have he : t.toList.isEmpty = true ↔ t.data.toList = [] := by rw [empty_iff, List.isEmpty_iff]
  have hr4 : t.data.toList ≠ [] → ((numB b p t.data.toList).2 ≠ 4 ↔ t.data.toList.all p = true) := fun hne => by
    cases hall : t.data.toList.all p with
    | false => rw [numB_no (.inr hall)]; simp
    | true =>
      rw [numB_ok hne hall]
      rcases numV_two b t.data.toList with ⟨n, hn⟩ | hn <;> rw [hn] <;> simp
  refine ⟨fun w => (trimLeft_any t K h1 h2 w).mono ?_, fun h h4 w hE => ?_, fun h h4 => ?_, fun h => ?_, fun h => ?_⟩
  · rintro e w' ⟨rfl, hb⟩
    refine ⟨_, rfl, ?_, hb⟩
    rw [empty_iff, bs_list, List.isEmpty_iff, he]
    simp only [hK]
    rw [dropWhile_all]
    by_cases hne : t.data.toList = []
    · rw [hne]; simp
    · rw [hr4 hne]; simp [hne]
  · have hne : t.data.toList ≠ [] := fun e => by rw [he.2 e] at h; cases h
    exact hp w (fun e => hne (List.eq_nil_of_length_eq_zero (by rw [← size_list]; exact e))) ((hr4 hne).1 h4) hE
  · have hne : t.data.toList ≠ [] := fun e => by rw [he.2 e] at h; cases h
    exact numB_ok hne ((hr4 hne).1 h4)
  · exact numB_no (.inl (he.1 h))
  · by_cases hc : t.data.toList = [] ∨ t.data.toList.all p = false
    · exact numB_no hc
    · have hne : t.data.toList ≠ [] := fun e => hc (.inl e)
      have hall : t.data.toList.all p = true := by cases hx : t.data.toList.all p with | false => exact absurd (.inr hx) hc | true => rfl
      exact absurd h ((hr4 hne).2 hall)

theorem number_any (s : ByteArray) (hs : s.size ≤ 140737488355328) (w : World) (hE : Env w) :
    Calls Tryd.prog 56 #[.string s] w fun e w' => e = .returned (.tuple #[.int .u64 (numberL s.data.toList).1, .int .i64 (numberL s.data.toList).2]) ∧ Below w.heap.size w w' := by
  obtain ⟨hx, t, b, K, hcut, hbK, D⟩ : ∃ (hx : Bool) (t : ByteArray) (b : Nat) (K : ByteArray),
      (∃ x, (∀ w, Calls Tryd.prog 68 #[.string s, .string ⟨#[48, 120]⟩] w fun e w' => e = .returned (.tuple #[.string x, .bool hx]) ∧ w = w') ∧ (if hx = true then x = t else s = t)) ∧
      (if hx = true then K = sixteens ∧ b = 16 else K = tens ∧ b = 10) ∧ Digs b K t (numberL s.data.toList) := by
    cases hh : hex0 s.data.toList with
    | false =>
      refine ⟨false, s, 10, tens, ⟨bs s.data.toList, fun w => (cutPrefix_any s ⟨#[48, 120]⟩ w).mono ?_, rfl⟩, ⟨rfl, rfl⟩, ?_⟩
      · rintro e w' ⟨rfl, rfl⟩
        have hh' : (⟨#[48, 120]⟩ : ByteArray).data.toList.isPrefixOf s.data.toList = false := hh
        rw [hh']
        exact ⟨rfl, rfl⟩
      · rw [numberL_dec hh]
        exact digs_of tens_isD (by decide) (by decide) fun w h0 hx hE => pu10 s h0 hs hx w hE
    | true =>
      refine ⟨true, bs (s.data.toList.drop 2), 16, sixteens, ⟨bs (s.data.toList.drop 2), fun w => (cutPrefix_any s ⟨#[48, 120]⟩ w).mono ?_, rfl⟩, ⟨rfl, rfl⟩, ?_⟩
      · rintro e w' ⟨rfl, rfl⟩
        have hh' : (⟨#[48, 120]⟩ : ByteArray).data.toList.isPrefixOf s.data.toList = true := hh
        rw [hh', if_pos rfl]
        exact ⟨rfl, rfl⟩
      · rw [numberL_hex hh]
        exact digs_of (t := bs (s.data.toList.drop 2)) sixteens_isX (by decide) (by decide) fun w h0 hx hE => pu16 _ h0 (by rw [bs_size, List.length_drop, ← size_list]; omega) hx w hE
  obtain ⟨x, hcp, hxt⟩ := hcut
  have HC := Lib.hid hcp
  have HD := Lib.hid D
  have HE := Lib.hid hE
  obtain ⟨r, hr⟩ : ∃ r, numberL s.data.toList = r := ⟨_, rfl⟩
  rw [hr] at HD ⊢
  clear hcp D hE hr
  go_enter Tryd.func56, Tryd.ntmps56
  go_upto_if 17 with (go_at_call 68; refine (HC.out _).mono ?_; rintro e w' ⟨rfl, rfl⟩)
  go_cut [4, 5, 6] (fun s4 s5 s6 wx => s4 = .string t ∧ s5 = .string K ∧ s6 = .int .i64 b ∧ wx = w)
  case first =>
    cases hx
    all_goals
      simp only [if_true, if_false, Bool.false_eq_true] at hxt hbK
      obtain ⟨rfl, rfl⟩ := hbK
      subst hxt
      go_wp2_with fail
      go_meet
      exact ⟨rfl, rfl, rfl, rfl⟩
  case rest =>
    obtain ⟨rfl, rfl, rfl, rfl⟩ := hcut
    have HTR := Lib.hid HD.out.trim
    cases he : t.toList.isEmpty
    · by_cases h4 : r.2 = 4
      · have HR := Lib.hid (HD.out.form h4)
        have HT : Hid (∀ w, Calls Tryd.prog 37 #[.string t, .string K] w fun e w' => ∃ x, e = .returned (.string x) ∧ x.toList.isEmpty = false ∧ Below w.heap.size w w') := Lib.hid fun w => (HTR.out w).mono fun e w' ⟨x, h1, h2, h3⟩ => ⟨x, h1, by
          cases hx : x.toList.isEmpty with
          | false => rfl
          | true => rcases h2.1 hx with h | h
                    · rw [he] at h; cases h
                    · exact absurd h4 h, h3⟩
        clear HTR HD h4 hxt hbK
        go_wp2_with (go_at_call 37; refine (HT.out _).mono ?_; rintro e w' ⟨x, rfl, hx, hb⟩)
        go_ret2
        exact ⟨by rw [HR.out]; rfl, hb⟩
      · have HT : Hid (∀ w, Calls Tryd.prog 37 #[.string t, .string K] w fun e w' => ∃ x, e = .returned (.string x) ∧ x.toList.isEmpty = true ∧ Below w.heap.size w w') := Lib.hid fun w => (HTR.out w).mono fun e w' ⟨x, h1, h2, h3⟩ => ⟨x, h1, h2.2 (.inr h4), h3⟩
        have hv := HD.out.val he h4
        have hpu := HD.out.pu he h4
        rcases numV_two b t.data.toList with ⟨n, hn⟩ | hn
        · have HP : Hid (∀ w, Env w → Calls Tryd.prog 69 #[.string t, .int .i64 b, .int .i64 64] w fun e w' => e = .returned (.tuple #[.int .u64 n, .nilIface]) ∧ Below w.heap.size w w') := Lib.hid fun w hE => (hpu w hE).mono fun e w' ⟨h1, h2⟩ => by
            rcases h1 with ⟨_, h1⟩ | ⟨h1, _⟩
            · rw [hn] at h1; exact ⟨h1, h2⟩
            · rw [hn] at h1; cases h1
          have HR : Hid (r = (n, 0)) := Lib.hid (hv.trans hn)
          clear HTR HD hxt hbK hv hpu hn h4
          go_wp2_with (first | (go_at_call 37; refine (HT.out _).mono ?_; rintro e w' ⟨x, rfl, hx, hb⟩) | (go_at_call 69; refine (HP.out _ (HE.out.below hb)).mono ?_; rintro e w2 ⟨rfl, hb2⟩))
          go_ret2
          exact ⟨by rw [HR.out]; rfl, chain hb (Nat.le_refl _) hb2⟩
        · have HP : Hid (∀ w, Env w → Calls Tryd.prog 69 #[.string t, .int .i64 b, .int .i64 64] w fun e w' => ∃ N : Nat, e = .returned (.tuple #[.int .u64 18446744073709551615, .iface 115 (.pointer (some ⟨N, 0, none⟩))]) ∧ Below w.heap.size w w') := Lib.hid fun w hE => (hpu w hE).mono fun e w' ⟨h1, h2⟩ => by
            rcases h1 with ⟨h1, _⟩ | ⟨_, N, h1⟩
            · rw [hn] at h1; cases h1
            · exact ⟨N, h1, h2⟩
          have HR : Hid (r = (0, 5)) := Lib.hid (hv.trans hn)
          clear HTR HD hxt hbK hv hpu hn h4
          go_wp2_with (first | (go_at_call 37; refine (HT.out _).mono ?_; rintro e w' ⟨x, rfl, hx, hb⟩) | (go_at_call 69; refine (HP.out _ (HE.out.below hb)).mono ?_; rintro e w2 ⟨N, rfl, hb2⟩))
          go_ret2
          exact ⟨by rw [HR.out]; rfl, chain hb (Nat.le_refl _) hb2⟩
    · have HR := Lib.hid (HD.out.empty he)
      clear HTR HD hxt hbK
      go_wp2_with fail
      go_ret2
      exact ⟨by rw [HR.out]; rfl, Below.refl _ _⟩
end Go.Proofs.YtioddoojjmeknaaDoor
