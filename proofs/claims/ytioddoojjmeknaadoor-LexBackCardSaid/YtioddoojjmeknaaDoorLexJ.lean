/- Contracts of layer 6: skipping, places, names. -/
import Derived.Test.YtioddoojjmeknaaDoorLexI
import Derived.Lib.LastIndexByte
namespace Go.Proofs.YtioddoojjmeknaaDoor
open Go.ChangeShapes Go.WideShapes Go.ChangeAt Go.RowKit
set_option linter.unusedVariables false

/-! Names. -/
theorem wn_name {l : List UInt8} (hr : runL l ≠ []) (hk : isD (l.headD 0) = true ∨ isL (l.headD 0) = true) :
    (decide ((wnL (runL l)).2 = 0) && decide ((wnL (runL l)).1.k = 0) && decide ((wnL (runL l)).1.t = l)) = nameL l := by
  have hh : (runL l).headD 0 = l.headD 0 := by
    cases l with
    | nil => exact absurd rfl hr
    | cons c r =>
      cases hc : isW c with
      | false => exact absurd (runL_no hc) hr
      | true => rw [runL_yes hc]; rfl
  have hall : l.all isW = true ↔ runL l = l := by
    unfold runL
    constructor
    · intro h
      have := List.takeWhile_append_dropWhile (p := isW) (l := l)
      rw [dropWhile_all.2 h, List.append_nil] at this
      exact this
    · intro h
      rw [← h]
      exact List.all_takeWhile
  unfold wnL
  rw [hh]
  by_cases hd : isD (l.headD 0) = true
  · rw [if_pos hd]
    have hnl : isL (l.headD 0) = false := by
      cases h : isL (l.headD 0) with
      | false => rfl
      | true => simp only [isD, isL, decide_eq_true_eq] at hd h; omega
    have hn : nameL l = false := by unfold nameL; rw [hnl]; simp
    rw [hn]
    split <;> simp_all
  · rw [if_neg hd]
    have hlL : isL (l.headD 0) = true := by rcases hk with h | h; exact absurd h hd; exact h
    have hne : l.isEmpty = false := by
      cases l with
      | nil => exact absurd rfl hr
      | cons _ _ => rfl
    unfold nameL
    rw [hlL, hne]
    by_cases ha : runL l = l
    · rw [hall.2 ha, ha]
      by_cases h32 : 32 < l.length
      · rw [if_pos h32]; simp; omega
      · rw [if_neg h32]; simp; omega
    · have : l.all isW = false := by cases h : l.all isW with | false => rfl | true => exact absurd (hall.1 h) ha
      rw [this]
      by_cases h32 : 32 < (runL l).length
      · rw [if_pos h32]; simp
      · rw [if_neg h32]; simp [ha]
theorem first_name (l : List UInt8) : (decide ((firstL l).2 = 0) && decide ((firstL l).1.k = 0) && decide ((firstL l).1.t = l)) = nameL l := by
  unfold firstL
  by_cases hl : l = []
  · subst hl; rfl
  · rw [if_neg hl]
    by_cases hr : runL l ≠ []
    · rw [if_pos hr]
      refine wn_name hr ?_
      cases l with
      | nil => exact absurd rfl hl
      | cons c r =>
        cases hc : isW c with
        | false => exact absurd (runL_no hc) hr
        | true =>
          simp only [isW, Bool.or_eq_true] at hc
          exact hc.symm
    · rw [if_neg hr]
      have hn : nameL l = false := by
        cases l with
        | nil => exact absurd rfl hl
        | cons c r =>
          have : isW c = false := by
            cases hc : isW c with
            | false => rfl
            | true => exact absurd (by rw [runL_yes hc]; simp) hr
          unfold nameL
          simp [this]
      rw [hn]
      split <;> simp
theorem Name_any (s : ByteArray) (hs : s.size ≤ 140737488355328) (w : World) (hE : Env w) :
    Calls Tryd.prog 11 #[.string s] w fun e w' => e = .returned (.bool (nameL s.data.toList)) ∧ Below w.heap.size w w' := by
  have c := fun w hE => first_any s hs w hE
  have hn := first_name s.data.toList
  obtain ⟨q, hq⟩ : ∃ q, firstL s.data.toList = q := ⟨_, rfl⟩
  rw [hq] at c hn
  obtain ⟨⟨k, t, v⟩, e⟩ := q
  simp only [tkP] at c hn
  have C := Lib.hid c
  have HN := Lib.hid hn
  have HE := Lib.hid hE
  have f1 : ((e : Int) == 0) = decide (e = 0) := by rw [Bool.eq_iff_iff, beq_iff_eq, decide_eq_true_eq]; omega
  have f2 : ((k : Int) == 0) = decide (k = 0) := by rw [Bool.eq_iff_iff, beq_iff_eq, decide_eq_true_eq]; omega
  have f3 : ((bs t).toList == s.toList) = decide (t = s.data.toList) := by rw [ByteArray.toList_eq, ByteArray.toList_eq, bs_list, Bool.eq_iff_iff, beq_iff_eq, decide_eq_true_eq]
  clear c hn hq hE
  cases g1 : decide (e = 0) <;> cases g2 : decide (k = 0) <;> cases g3 : decide (t = s.data.toList)
  all_goals
    rw [g1] at f1
    rw [g2] at f2
    rw [g3] at f3
    have hnn := HN.out
    rw [g1, g2, g3] at hnn
    have HR := Lib.hid hnn.symm
    clear hnn
    clear g1 g2 g3
    go_enter Tryd.func11, Tryd.ntmps11
    go_wp2_with (go_at_call 21; refine (C.out _ HE.out).mono ?_; rintro e' w' ⟨rfl, hb⟩)
    go_ret
    exact ⟨retB (by rw [HR.out]; exact Iff.rfl), hb.alloc hb.size _⟩

/-! Skipping. -/
def afterF : List UInt8 → List UInt8
  | [] => []
  | c :: r => if c = 10 then r else afterF r
theorem idx_yes (r : List UInt8) : Lib.index (10 :: r) [10] = 0 := by unfold Lib.index; exact if_pos rfl
theorem idx_no {c : UInt8} (h : c ≠ 10) (r : List UInt8) : Lib.index (c :: r) [10] = if Lib.index r [10] == -1 then -1 else Lib.index r [10] + 1 := by
  have h1 : [10].isPrefixOf (c :: r) = false := by
    have : ((10 : UInt8) == c) = false := by simpa using fun e => h e.symm
    simp [List.isPrefixOf, this]
  conv => lhs; unfold Lib.index
  rw [if_neg (by rw [h1]; decide)]
theorem cut_yes {l sep : List UInt8} (h : 0 ≤ Lib.index l sep) : (Lib.cut l sep).2.1 = l.drop ((Lib.index l sep).toNat + sep.length) := by unfold Lib.cut; rw [if_pos h]
theorem cut_no {l sep : List UInt8} (h : ¬ 0 ≤ Lib.index l sep) : (Lib.cut l sep).2.1 = [] := by unfold Lib.cut; rw [if_neg h]
theorem cut_feed : ∀ l : List UInt8, (Lib.cut l [10]).2.1 = afterF l
  | [] => rfl
  | c :: r => by
    have ih := cut_feed r
    unfold afterF
    by_cases hc : c = 10
    · subst hc
      rw [if_pos rfl, cut_yes (by rw [idx_yes]; decide), idx_yes]
      rfl
    · rw [if_neg hc, ← ih]
      have hi := idx_no hc r
      have hg := Lib.index_ge r [10]
      by_cases h1 : Lib.index r [10] = -1
      · rw [h1] at hi
        rw [cut_no (by rw [hi]; decide), cut_no (by rw [h1]; decide)]
      · rw [if_neg (by simpa using h1)] at hi
        rw [cut_yes (by omega), cut_yes (l := r) (by omega), hi]
        show List.drop ((Lib.index r [10] + 1).toNat + 1) (c :: r) = List.drop ((Lib.index r [10]).toNat + 1) r
        rw [show (Lib.index r [10] + 1).toNat + 1 = (Lib.index r [10]).toNat + 1 + 1 from by omega]
        rfl
theorem skip_after : ∀ l : List UInt8, skipM true l = skipM false (afterF l)
  | [] => rfl
  | c :: r => by
    unfold afterF
    rw [skipM]
    by_cases hc : c = 10
    · rw [if_pos hc, if_pos hc]
    · rw [if_neg hc, if_neg hc]; exact skip_after r
theorem after_len : ∀ l : List UInt8, (afterF l).length ≤ l.length
  | [] => Nat.le_refl _
  | c :: r => by
    unfold afterF
    split
    · simp
    · have := after_len r; simp; omega
theorem skip_trim : ∀ l : List UInt8, skipM false l = skipM false (l.dropWhile isB)
  | [] => rfl
  | c :: r => by
    rw [List.dropWhile_cons]
    by_cases hc : isB c = true
    · rw [if_pos hc, skipM, if_pos hc]; exact skip_trim r
    · rw [if_neg hc]
theorem trim_head {l : List UInt8} {c : UInt8} {r : List UInt8} (h : l.dropWhile isB = c :: r) : isB c = false := by
  induction l with
  | nil => simp at h
  | cons d t ih =>
    rw [List.dropWhile_cons] at h
    by_cases hd : isB d = true
    · rw [if_pos hd] at h; exact ih h
    · rw [if_neg hd] at h
      cases h
      simpa using hd
/-- What one turn of 'skip' does. -/
theorem skip_turn (l : List UInt8) : skipM false l = if [47, 47].isPrefixOf (l.dropWhile isB) = true then skipM false (afterF (l.dropWhile isB)) else l.dropWhile isB := by
  rw [skip_trim]
  cases h : l.dropWhile isB with
  | nil => rfl
  | cons c r =>
    have hc := trim_head h
    by_cases h2 : c = 47 ∧ r.head? = some 47
    · obtain ⟨rfl, h3⟩ := h2
      cases r with
      | nil => cases h3
      | cons d t =>
        obtain rfl : d = 47 := by simpa using h3
        rw [if_pos (by rfl), skipM, if_neg (by decide), if_pos ⟨rfl, rfl⟩, skip_after]
        rfl
    · rw [if_neg]
      · exact bare_cons hc h2
      · intro hp
        rw [List.isPrefixOf_iff_prefix] at hp
        cases r with
        | nil => simp at hp
        | cons d t =>
          simp only [List.cons_prefix_cons, List.nil_prefix, and_true] at hp
          exact h2 ⟨hp.1.symm, by rw [← hp.2]; rfl⟩
theorem cut_any (s : ByteArray) (hs : s.size < 4294967281) (w : World) (hE : Env w) :
    Calls Tryd.prog 15 #[.string s, .string ⟨#[10]⟩] w fun e w' => ∃ (x : ByteArray) (f : Bool), e = .returned (.tuple #[.string x, .string (bs (afterF s.data.toList)), .bool f]) ∧ Below w.heap.size w w' := by
  obtain ⟨m, hm⟩ := hE.maxLen
  refine (Tryd.strings_Cut s ⟨#[10]⟩ m w hs hm).mono ?_
  rintro e w' ⟨rfl, n, rfl⟩
  refine ⟨⟨(Lib.cut s.data.toList (⟨#[10]⟩ : ByteArray).data.toList).1.toArray⟩, (Lib.cut s.data.toList (⟨#[10]⟩ : ByteArray).data.toList).2.2, ?_, below_drewN _ _ n⟩
  rw [show (⟨(Lib.cut s.data.toList (⟨#[10]⟩ : ByteArray).data.toList).2.1.toArray⟩ : ByteArray) = bs (afterF s.data.toList) from congrArg bs (cut_feed s.data.toList)]

theorem after_lt {l : List UInt8} (h : [47, 47].isPrefixOf l = true) : (afterF l).length < l.length := by
  rcases l with _ | ⟨x, r⟩
  · simp [List.isPrefixOf] at h
  · rw [List.isPrefixOf_iff_prefix] at h
    simp only [List.cons_prefix_cons] at h
    obtain ⟨rfl, _⟩ := h
    have := after_len r
    unfold afterF
    rw [if_neg (by decide), List.length_cons]
    omega
theorem blanks_isB (c : UInt8) : (⟨#[32, 9, 10, 13]⟩ : ByteArray).data.toList.contains c = isB c := rfl

theorem skip_any (s : ByteArray) (hs : s.size ≤ 140737488) (w : World) (hE : Env w) :
    Calls Tryd.prog 19 #[.string s] w fun e w' => e = .returned (.string (bs (skipM false s.data.toList))) ∧ Below w.heap.size w w' := by
  have HE := Lib.hid hE
  clear hE
  go_enter Tryd.func19, Tryd.ntmps19
  go_wp2_with fail
  go_loopw [0] (fun s0 wr => ∃ x : ByteArray, s0 = .string x ∧ x.size ≤ s.size ∧ Hid (skipM false s.data.toList = skipM false x.data.toList) ∧ Below w.heap.size w wr) (fun s0 _ => match s0 with | .string x => x.size | _ => 0)
  case atStart => exact ⟨s, rfl, Nat.le_refl _, Lib.hid rfl, Below.refl _ _⟩
  case round =>
    obtain ⟨x, rfl, hx, H, hb⟩ := hrel
    have HB := Lib.hid hb
    have ct := fun w => trimLeft_any x ⟨#[32, 9, 10, 13]⟩ (by decide) (by decide) w
    obtain ⟨y, hy⟩ : ∃ y, y = bs (x.data.toList.dropWhile isB) := ⟨_, rfl⟩
    have hyl : y.data.toList = x.data.toList.dropWhile isB := by rw [hy]; rfl
    have hct : ∀ w, Calls Tryd.prog 37 #[.string x, .string ⟨#[32, 9, 10, 13]⟩] w fun e w' => e = .returned (.string y) ∧ Below w.heap.size w w' := fun w => by rw [hy]; exact ct w
    have hys : y.size ≤ x.size := by rw [size_list, hyl, size_list]; exact (List.dropWhile_suffix _).length_le
    have HT := Lib.hid (skip_turn x.data.toList)
    have hpr := fun w => hasPrefix_any y ⟨#[47, 47]⟩ w
    have hcu := fun w hE => cut_any y (by omega) w hE
    rw [← hyl] at HT
    have HC := Lib.hid hct
    have HU := Lib.hid hcu
    clear hb ct hct hcu hy hyl
    cases hp : (⟨#[47, 47]⟩ : ByteArray).data.toList.isPrefixOf y.data.toList
    all_goals
      rw [hp] at hpr
      have HP := Lib.hid hpr
      have HQ : Hid ([47, 47].isPrefixOf y.data.toList = _) := Lib.hid hp
      clear hpr hp
    · go_wp2_with (first | (go_at_call 37; refine (HC.out _).mono ?_; rintro e w' ⟨rfl, hb'⟩) | (go_at_call 32; refine (HP.out _).mono ?_; rintro e w2 ⟨rfl, rfl⟩))
      go_ret
      refine ⟨retS ?_, chain HB.out (Nat.le_refl _) hb'⟩
      rw [H.out, HT.out, if_neg (by rw [HQ.out]; decide), bs_of]
    · have hlt := after_lt HQ.out
      have hq : (bs (afterF y.data.toList)).size < x.size := by rw [bs_size]; have := size_list y; omega
      clear hlt
      go_wp2_with (first | (go_at_call 37; refine (HC.out _).mono ?_; rintro e w' ⟨rfl, hb'⟩; have hb2 := chain HB.out (Nat.le_refl _) hb') | (go_at_call 32; refine (HP.out _).mono ?_; rintro e w2 ⟨rfl, rfl⟩) | (go_at_call 15; refine (HU.out _ (HE.out.below hb2)).mono ?_; rintro e w3 ⟨x1, f1, rfl, hb3⟩))
      go_roundw
      case rel => exact ⟨_, rfl, by omega, Lib.hid (by rw [H.out, HT.out, if_pos HQ.out, bs_list]), chain hb2 (Nat.le_refl _) hb3⟩
      case measure => exact hq
end Go.Proofs.YtioddoojjmeknaaDoor
