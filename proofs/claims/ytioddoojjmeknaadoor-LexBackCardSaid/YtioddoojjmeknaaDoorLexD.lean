/- Contracts of layer 6: signs and tokens, by the document. -/
import Derived.Test.YtioddoojjmeknaaDoorLexC
namespace Go.Proofs.YtioddoojjmeknaaDoor
open Go.ChangeShapes Go.WideShapes Go.ChangeAt Go.RowKit
set_option linter.unusedVariables false

def onesB : ByteArray := ⟨#[123, 125, 40, 41, 91, 93, 59, 58, 44, 61, 60, 62, 43, 45, 42, 47, 37, 38, 124, 33]⟩
theorem sgs_two {k : Nat} (h : k < 9) (l : List UInt8) : signF (sgs.drop k) l = if (sgs.getD k []).isPrefixOf l = true then sgs.getD k [] else signF (sgs.drop (k + 1)) l := by
  have e : sgs.drop k = sgs.getD k [] :: sgs.drop (k + 1) := by
    have hk : k < sgs.length := by rw [show sgs.length = 29 from rfl]; omega
    rw [List.drop_eq_getElem_cons hk, List.getD_eq_getElem?_getD, List.getElem?_eq_getElem hk]; rfl
  rw [e]; rfl
theorem sgs_len {k : Nat} (h : k < 9) : (sgs.getD k []).length = 2 := by
  have : ∀ k, k < 9 → (sgs.getD k []).length = 2 := by decide
  exact this k h
theorem sgs_short : ∀ (k : Nat) (l : List UInt8), l.length ≤ 1 → k ≤ 9 → signF (sgs.drop (9 - k)) l = signF (sgs.drop 9) l
  | 0, l, _, _ => rfl
  | k + 1, l, hl, hk => by
    rw [sgs_two (by omega), if_neg, show 9 - (k + 1) + 1 = 9 - k from by omega]
    · exact sgs_short k l hl (by omega)
    · intro h
      have := (prefix_of_isPrefixOf h).length_le
      rw [sgs_len (by omega)] at this
      omega

theorem eq2 (g : List UInt8) (s : ByteArray) (hg : g.length = 2) : ((bs g).toList == (s.extract 0 2).toList) = g.isPrefixOf s.data.toList := by
  rw [ByteArray.toList_eq, ByteArray.toList_eq, extract_bs, bs_list, bs_list, List.drop_zero, Bool.eq_iff_iff, beq_iff_eq, List.isPrefixOf_iff_prefix, List.prefix_iff_eq_take, hg]

theorem eq1 (s : ByteArray) (h : 0 < s.size) (c : UInt8) : ((c.toNat : Int) == (s[0].toNat : Int)) = [c].isPrefixOf s.data.toList := by
  have := drop_byte s h
  rw [List.drop_zero] at this
  rw [this, Bool.eq_iff_iff, beq_iff_eq, List.isPrefixOf_iff_prefix]
  simp only [List.cons_prefix_cons, List.nil_prefix, and_true, ← UInt8.toNat_inj]
  exact Int.ofNat_inj
theorem sgs_one {O : ByteArray} (hO : O = onesB) {m : Nat} (hm : m < O.size) (l : List UInt8) : signF (sgs.drop (9 + m)) l = if [O[m]'hm].isPrefixOf l = true then [O[m]'hm] else signF (sgs.drop (9 + m + 1)) l := by
  subst hO
  have h20 : m < 20 := hm
  have e : sgs.drop (9 + m) = [onesB[m]'hm] :: sgs.drop (9 + m + 1) := by
    have hk : 9 + m < sgs.length := by rw [show sgs.length = 29 from rfl]; omega
    rw [List.drop_eq_getElem_cons hk]
    congr 1
    have := byteAt onesB hm
    have h2 : ∀ m, m < 20 → sgs[9 + m]? = (onesB.data.toList[m]?).map (fun c => [c]) := by decide
    have h3 := h2 m h20
    rw [this, List.getElem?_eq_getElem hk] at h3
    simpa using h3
  rw [e]; rfl

theorem refSign_any (s : ByteArray) (hs : s.size ≤ 140737488355328) (h0 : 0 < s.size) (w : World) :
    Calls Tryd.prog 42 #[.string s] w fun e w' => e = .returned (.int .i64 (signL s.data.toList).length) ∧ Below w.heap.size w w' := by
  go_enter Tryd.func42, Tryd.ntmps42
  go_wp2_with fail
  go_loopw [4] (fun i wr => ∃ k : Nat, k ≤ 9 ∧ i = .int .i64 k ∧ Hid (signL s.data.toList = signF (sgs.drop k) s.data.toList) ∧ (∀ j, j < 9 → wr.cell? ⟨w.heap.size, j, none⟩ = some (.string (bs (sgs.getD j [])))) ∧ Below w.heap.size w wr) (fun i _ => 9 - (intOf i).toNat)
  case atStart =>
    refine ⟨0, by omega, rfl, Lib.hid rfl, fun j hj => ?_, (Below.refl _ w).alloc (Nat.le_refl _) _⟩
    rw [cell_of_row _ _ _ _ _ (0, 0) (heap_alloc_new w _)]
    have : ∀ j, j < 9 → [Value.string ⟨#[46, 46]⟩, .string ⟨#[61, 61]⟩, .string ⟨#[33, 61]⟩, .string ⟨#[60, 61]⟩, .string ⟨#[62, 61]⟩, .string ⟨#[60, 60]⟩, .string ⟨#[62, 62]⟩, .string ⟨#[38, 38]⟩, .string ⟨#[124, 124]⟩][j]? = some (.string (bs (sgs.getD j []))) := by
      intro j hj
      match j, hj with
      | 0, _ => rfl | 1, _ => rfl | 2, _ => rfl | 3, _ => rfl | 4, _ => rfl | 5, _ => rfl | 6, _ => rfl | 7, _ => rfl | 8, _ => rfl
    simpa using this j hj
  case round =>
    obtain ⟨k, hk, rfl, H, hc, hb⟩ := hrel
    have h3 : (k < 9 ∧ 1 < s.size) ∨ (k < 9 ∧ ¬ 1 < s.size) ∨ k = 9 := by omega
    rcases h3 with ⟨hlt, h1⟩ | h3
    · have c0 := hc k hlt
      have HC := Lib.hid hc
      have HB := Lib.hid hb
      have HP := Lib.hid ((H.out).trans (sgs_two hlt s.data.toList))
      have L2 := sgs_len hlt
      obtain ⟨g, hg⟩ : ∃ g, sgs.getD k [] = g := ⟨_, rfl⟩
      rw [hg] at c0 HP L2
      have HL := Lib.hid L2
      have e2 := eq2 g s L2
      clear hc hb hg L2
      cases hp : g.isPrefixOf s.data.toList
      all_goals
        rw [hp] at e2
        have HPP := Lib.hid hp
        clear hp
        go_wp2_with fail
        go_region
        go_wp2_with fail
      · go_roundw
        case rel => exact ⟨k + 1, by omega, by go_num, Lib.hid (by rw [HP.out, if_neg (by rw [HPP.out]; decide)]), fun j hj => HC.out j hj, HB.out.drew⟩
        case measure => simp [intOf]; omega
      · go_ret
        exact ⟨retI (by rw [HP.out, if_pos HPP.out, HL.out]; rfl), HB.out.drew⟩
    · have HF : Hid (signL s.data.toList = signF (sgs.drop (9 + 0)) s.data.toList) := Lib.hid (by
        rw [H.out]
        rcases h3 with h3 | h3
        · have := sgs_short (9 - k) s.data.toList (by have := size_list s; omega) (by omega)
          rw [show 9 - (9 - k) = k from by omega] at this
          exact this
        · rw [h3])
      have HB := Lib.hid hb
      clear hc H hb
      obtain ⟨O, HO, ho⟩ : ∃ O : ByteArray, Hid (O = onesB) ∧ O.size = 20 := ⟨onesB, Lib.hid rfl, rfl⟩
      rcases h3 with ⟨hlt, h1⟩ | rfl
      all_goals
        go_wp2_with fail
        rw [show (⟨#[123, 125, 40, 41, 91, 93, 59, 58, 44, 61, 60, 62, 43, 45, 42, 47, 37, 38, 124, 33]⟩ : ByteArray) = O from HO.out.symm]
        go_loopw [6] (fun i wx => ∃ k : Nat, k ≤ 20 ∧ i = .int .i64 k ∧ Hid (signL s.data.toList = signF (sgs.drop (9 + k)) s.data.toList) ∧ Below w.heap.size w wx) (fun i _ => 20 - (intOf i).toNat)
        case atStart => exact ⟨0, by omega, rfl, HF, HB.out⟩
        case round =>
          obtain ⟨m, hm, rfl, H, hb⟩ := hrel
          by_cases hl2 : m < 20
          · have hmo : m < O.size := by omega
            have e2 := eq1 s h0 (O[m]'hmo)
            have HP : Hid (signL s.data.toList = if [O[m]'hmo].isPrefixOf s.data.toList = true then [O[m]'hmo] else signF (sgs.drop (9 + m + 1)) s.data.toList) := Lib.hid (H.out.trans (sgs_one HO.out hmo _))
            have HB := Lib.hid hb
            clear hb H
            cases hp : [O[m]'hmo].isPrefixOf s.data.toList
            all_goals
              rw [hp] at e2
              have HPP := Lib.hid hp
              clear hp
              go_wp2_with fail
              go_region
              go_wp2_with fail
            · go_roundw
              case rel => exact ⟨m + 1, by omega, by go_num, Lib.hid (by rw [HP.out, if_neg (by rw [HPP.out]; decide)]; rfl), HB.out.drew⟩
              case measure => simp [intOf]; omega
            · go_ret
              exact ⟨retI (by rw [HP.out, if_pos HPP.out]; rfl), HB.out.drew⟩
          · obtain rfl : m = 20 := by omega
            go_wp2_with fail
            go_ret
            exact ⟨retI (by rw [H.out]; rfl), hb⟩
end Go.Proofs.YtioddoojjmeknaaDoor
