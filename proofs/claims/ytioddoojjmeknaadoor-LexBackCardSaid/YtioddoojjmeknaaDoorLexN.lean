/- Contracts of layer 6: what the document fixes. -/
import Derived.Test.YtioddoojjmeknaaDoorLexM
namespace Go.Proofs.YtioddoojjmeknaaDoor
open Go.ChangeShapes Go.WideShapes Go.ChangeAt Go.RowKit
set_option linter.unusedVariables false

def wakeS : ByteArray := ⟨#[97, 61, 48, 120, 49, 48, 59, 32, 47, 47, 32, 120]⟩
def wakeT : List Tok := [⟨⟨0, [97], 0⟩, (1, 1)⟩, ⟨⟨2, [61], 0⟩, (1, 2)⟩, ⟨⟨1, [48, 120, 49, 48], 16⟩, (1, 3)⟩, ⟨⟨2, [59], 0⟩, (1, 7)⟩, ⟨⟨3, [], 0⟩, (1, 13)⟩]
theorem wake_lex : lexL wakeS.data.toList = .ok wakeT := by decide +kernel
theorem wake_join : joinL wakeT = [97, 32, 61, 32, 48, 120, 49, 48, 32, 59] := by decide +kernel
theorem wake_name : nameL (⟨#[97, 95, 49]⟩ : ByteArray).data.toList = true := by decide +kernel

set_option maxHeartbeats 1000000 in
set_option maxRecDepth 100000 in
theorem wakes_any (w : World) (hE : Env w) :
    Calls Tryd.prog 10 #[] w fun e w' => e = .returned (.bool true) ∧ Below w.heap.size w w' := by
  have hl := Lex_any wakeS w hE
  rw [wake_lex] at hl
  have hl2 : Calls Tryd.prog 8 #[.string ⟨#[97, 61, 48, 120, 49, 48, 59, 32, 47, 47, 32, 120]⟩] w fun e w' => ∃ g cap, e = .returned (.tuple #[.slice (some ⟨g, 0, none⟩) 5 cap, .agg #[.int .i64 0, .int .i64 0], .int .i64 0]) ∧ TkS w' (some ⟨g, 0, none⟩) wakeT ∧ Below w.heap.size w w' := by
    refine hl.mono ?_
    rintro e w' ⟨v, rfl, hT, hb⟩
    rcases hT.form with ⟨_, h⟩ | ⟨g, cap, rfl⟩
    · cases h
    · exact ⟨g, cap, rfl, hT.rd, hb⟩
  have HL := Lib.hid hl2
  have HE := Lib.hid hE
  have hj : ∀ (g cap : Nat) w, TkS w (some ⟨g, 0, none⟩) wakeT → Calls Tryd.prog 13 #[.slice (some ⟨g, 0, none⟩) 5 cap] w fun e w' => e = .returned (.string ⟨#[97, 32, 61, 32, 48, 120, 49, 48, 32, 59]⟩) ∧ Below w.heap.size w w' := fun g cap w h => by
    have := Join_any (some ⟨g, 0, none⟩) cap wakeT w h (by decide) (by rw [wake_join]; decide)
    rw [wake_join] at this
    exact this
  have hn : ∀ w, Env w → Calls Tryd.prog 11 #[.string ⟨#[97, 95, 49]⟩] w fun e w' => e = .returned (.bool true) ∧ Below w.heap.size w w' := fun w hE => by
    have := Name_any ⟨#[97, 95, 49]⟩ (by decide) w hE
    rw [wake_name] at this
    exact this
  have HJ := Lib.hid hj
  have HN := Lib.hid hn
  clear hl hl2 hE hj hn
  go_enter Tryd.func10, Tryd.ntmps10
  go_upto_region 2 with (go_at_call 8; go_must (refine HL.out.mono ?_; rintro e w1 ⟨g, cap, rfl, hS, hb1⟩))
  have hS2 := hS.below (below_box w1 (.cells #[.int .i64 0, .int .i64 0] 24))
  have hb2 := chain hb1 (Nat.le_refl _) (below_box w1 (.cells #[.int .i64 0, .int .i64 0] 24))
  generalize w1.alloc (.cells #[.int .i64 0, .int .i64 0] 24) = W at hS2 hb2 ⊢
  have HS := Lib.hid hS2
  have E1 := Lib.hid (HE.out.below hb2)
  have B1 := Lib.hid hb2
  obtain ⟨_, h0, hg, _, a1, _⟩ := hS2 0 _ rfl
  cases h0
  obtain ⟨_, h0, _, _, b1, _⟩ := hS2 1 _ rfl
  cases h0
  obtain ⟨_, h0, _, _, _, c2, _⟩ := hS2 2 _ rfl
  cases h0
  obtain ⟨_, h0, _, _, d1, _⟩ := hS2 3 _ rfl
  cases h0
  obtain ⟨_, h0, _, _, _, _, e3, e4⟩ := hS2 4 _ rfl
  cases h0
  clear hS hS2 hb1 hb2
  have a1' : W.cell? ⟨g, 1, none⟩ = some (.string ⟨#[97]⟩) := a1
  have b1' : W.cell? ⟨g, 6, none⟩ = some (.string ⟨#[61]⟩) := b1
  have c2' : W.cell? ⟨g, 12, none⟩ = some (.int .u64 16) := c2
  have d1' : W.cell? ⟨g, 16, none⟩ = some (.string ⟨#[59]⟩) := d1
  have e3' : W.cell? ⟨g, 23, none⟩ = some (.int .i64 1) := e3
  have e4' : W.cell? ⟨g, 24, none⟩ = some (.int .i64 13) := e4
  clear a1 b1 c2 d1 e3 e4
  go_wp2_with (first | (go_at_call 13; go_must (refine (HJ.out g cap _ HS.out).mono ?_; rintro e w2 ⟨rfl, hb2⟩; have B2 := Lib.hid (chain B1.out (Nat.le_refl _) hb2); have E2 := Lib.hid (E1.out.below hb2); clear hb2)) | (go_at_call 11; go_must (refine (HN.out _ E2.out).mono ?_; rintro e w3 ⟨rfl, hb3⟩)))
  all_goals go_ret
  all_goals exact ⟨rfl, chain B2.out (Nat.le_refl _) hb3⟩
end Go.Proofs.YtioddoojjmeknaaDoor
