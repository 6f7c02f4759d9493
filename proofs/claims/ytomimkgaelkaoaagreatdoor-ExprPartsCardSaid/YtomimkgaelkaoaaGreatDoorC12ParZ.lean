/- Layer 7: the program's parser: readType, whole. -/
import Derived.Test.YtomimkgaelkaoaaGreatDoorC12ParU
import Derived.Test.YtomimkgaelkaoaaGreatDoorC12ParY
set_option linter.unusedVariables false
set_option linter.unusedSimpArgs false
namespace Go.Proofs.YtomimkgaelkaoaaGreatDoor
open Go.Lib (hid)
open Go.ChangeShapes Go.WideShapes Go.ChangeAt Go.RowKit
theorem bind_sw {α : Type} {r : PR α} {f : α → List Tok → PR TA} {t : TA} {l' : List Tok} (h : r.bind f = .ok t l') (hf : ∀ a l1, f a l1 = .ok t l' → ∃ e cs els, t = .sw e cs els) : ∃ e cs els, t = .sw e cs els := by
 cases r with
 | ok a l1 => exact hf a l1 h
 | bad l1 x => cases h
theorem sw_put {n d : Nat} {l l' : List Tok} {t : TA} (h : switchP n d l = .ok t l') (g : GM) : (putT t g).1 = (swG t g).addT (swM t g) := by
 have : ∃ e cs els, t = .sw e cs els := by
  cases n with
  | zero => rw [switchP] at h; cases h
  | succ n =>
   rw [switchP] at h
   refine bind_sw h fun _ _ e => bind_sw e fun _ _ e => bind_sw e fun _ _ e => bind_sw e fun _ _ e => bind_sw e fun _ l5 e => ?_
   split at e
   ·exact bind_sw e fun _ _ e => bind_sw e fun _ _ e => by cases e; exact ⟨_, _, _, rfl⟩
   ·exact bind_sw e fun _ _ e => by cases e; exact ⟨_, _, _, rfl⟩
 obtain ⟨e, cs, els, rfl⟩ := this
 rfl
theorem addT_sw {X : Nat → Prop} {g b : Nat} {l : List Tok} {d : Nat} {f : FM} (t : TA) (a : Option Addr) (c : Nat) (w : World) (h : PInv X g b w l d (f.setG (swG t f.g))) (hb : b < 60000) (hV : CasesV layP w (.slice a (swM t f.g).cs.length c) (swM t f.g).cs) (hN : Nest (Pub X layP g w) (.slice a (swM t f.g).cs.length c)) :
  Calls Tryz.prog 240 #[.pointer (some ⟨g, 0, none⟩), .agg #[.int .i64 9, .int .i64 0, .bool false, .string ⟨#[]⟩, .slice none 0 0, .int .i64 (swM t f.g).e, .int .i64 (swM t f.g).i, .slice a (swM t f.g).cs.length c]] w
   fun e' w' => e' = .returned (.int .i64 (((swG t f.g).addT (swM t f.g)).t : Int)) ∧ PInv X g (b + 1) w' l d (f.setG ((swG t f.g).addT (swM t f.g))) ∧ St layP g w w' := by
 refine addT_any (f := f.setG (swG t f.g)) (swM t f.g) _ _ _ _ _ _ _ _ w h hb ⟨.slice none 0 0, _, ?_, ?_, Nest.none _ _ _, hV, hN⟩
 ·cases t <;> rfl
 ·have : (swM t f.g).args = [] := by cases t <;> rfl
  rw [this]
  exact World.ownsRow_nil _ _ _ _
set_option maxHeartbeats 4000000 in
set_option maxRecDepth 100000 in
theorem type_switch {n : Nat} (IS : CSw n) {X : Nat → Prop} {g b : Nat} {l : List Tok} {d : Nat} {f : FM} (w : World) (h : PInv X g b w l d f) (hn : 8 * l.length + 4 ≤ n + 1) (hb : begT l = true) (h0' : isT kBytes l = false) (h1' : isT kZero l = false) (h2' : isT kSkip l = false) (h3' : isT kWindow l = false) (h4' : isT kAt l = false) (h5' : isT kRest l = false) (h6' : isT kTail l = false) (h7' : isT kNone l = false) (h8' : isT kSwitch l = true) :
  Calls Tryz.prog 181 #[.pointer (some ⟨g, 0, none⟩)] w (PostP X g b w d (typP (n + 1) d l) (fun t => .int .i64 ((putT t f.g).1.t : Int)) fun t => f.setG (putT t f.g).1) := by
 have htop := h.top
 have hw := h.wf
 have hg := h.lt
 have hpos := hw.pos
 have hpot := h.pot
 have htl : l.tail.length = l.length - 1 := List.length_tail
 have cb := begT_any w h
 rw [hb] at cb
 have CB := hid cb
 have CX := hid (expect_yes w h)
 have h0 := h.hide (.cells #[.int .i64 0, .int .i64 0, .bool false, .string ⟨#[]⟩, .slice none 0 0, .int .i64 (-1), .int .i64 (-1), .slice none 0 0] 44)
 have hs0 : St layP g w (w.alloc (.cells #[.int .i64 0, .int .i64 0, .bool false, .string ⟨#[]⟩, .slice none 0 0, .int .i64 (-1), .int .i64 (-1), .slice none 0 0] 44)) := St.below hg (below_box _ _)
 have hc0 := heap_alloc_new w (.cells #[.int .i64 0, .int .i64 0, .bool false, .string ⟨#[]⟩, .slice none 0 0, .int .i64 (-1), .int .i64 (-1), .slice none 0 0] 44)
 have T0 := hid (takeN_kBytes _ h0 h0')
 have T1 := hid (takeN_kZero _ h0 h1')
 have T2 := hid (takeN_kSkip _ h0 h2')
 have T3 := hid (takeN_kWindow _ h0 h3')
 have T4 := hid (takeN_kAt _ h0 h4')
 have T5 := hid (takeN_kRest _ h0 h5')
 have T6 := hid (takeN_kTail _ h0 h6')
 have T7 := hid (takeN_kNone _ h0 h7')
 have T8 := hid (takeY_kSwitch _ h0 h8')
 rw [typP, if_neg (by rw [hb]; decide), if_neg (by rw [h0']; decide), if_neg (by rw [h1']; decide), if_neg (by rw [h2']; decide), if_neg (by rw [h3']; decide), if_neg (by rw [h4']; decide), if_neg (by rw [h5']; decide), if_neg (by rw [h6']; decide), if_neg (by rw [h7']; decide), if_pos h8']
 have hwt := hw.isT h8' (by decide)
 have hXlt : ∀ i, X i → i < w.heap.size := fun i hi => (h.priv i hi).lt
 have c3 : ∀ w2, PInv (wth X w.heap.size) g (b - 3) w2 l.tail d f → TCell w.heap.size w2 (-1) (-1) (.slice none 0 0) → St layP g w w2 → _ := fun w2 hi ht hs => IS (wth X w.heap.size) g (b - 3) l.tail d f w2 w w.heap.size hi (.inr rfl) ht hs hg (Nat.le_refl _) (fun i hi => hi.elim (fun e => .inr (hXlt i e)) .inl) (by omega)
 rcases hX : switchP n d l.tail with ⟨t, l3⟩ | ⟨l3, x⟩
 all_goals rw [hX] at c3; have C3 := hid c3; have HC0 := hid hc0; have H0 := hid h0; have HS0 := hid hs0; clear c3 hc0 h0 hs0; clear cb hb h h0' h1' h2' h3' h4' h5' h6' h7' h8'
 ·have hput := sw_put hX f.g
  have HP := hid hput
  clear hput hX
  go_enter Tryz.func181, Tryz.ntmps181
  go_wp2_with (first | (go_at_call 235; go_must (refine CB.out.mono ?_; rintro e w' ⟨rfl, rfl⟩)) | (go_at_call 127; go_must (refine CX.out.mono ?_; rintro e w' ⟨rfl, rfl⟩)) | (go_at_call 125; first | ((with_reducible refine T0.out.mono ?_); rintro e w' ⟨rfl, rfl⟩) | ((with_reducible refine T1.out.mono ?_); rintro e w' ⟨rfl, rfl⟩) | ((with_reducible refine T2.out.mono ?_); rintro e w' ⟨rfl, rfl⟩) | ((with_reducible refine T3.out.mono ?_); rintro e w' ⟨rfl, rfl⟩) | ((with_reducible refine T4.out.mono ?_); rintro e w' ⟨rfl, rfl⟩) | ((with_reducible refine T5.out.mono ?_); rintro e w' ⟨rfl, rfl⟩) | ((with_reducible refine T6.out.mono ?_); rintro e w' ⟨rfl, rfl⟩) | ((with_reducible refine T7.out.mono ?_); rintro e w' ⟨rfl, rfl⟩) | ((with_reducible refine T8.out.mono ?_); rintro e2 w2 ⟨rfl, hI2, hS2⟩; have hq := (H0.out.own (.inr rfl) hS2).trans HC0.out; obtain ⟨⟨d0, d1, d2, d3, d4, d5, d6, d7⟩, df, dl⟩ := cells8 hq; have hq2 : TCell w.heap.size (w2.setCell ⟨w.heap.size, 0, none⟩ (.int .i64 9)) (-1) (-1) (.slice none 0 0) := cell_set_row hq (by decide) _; have D3 := hid (C3.out _ (hI2.local (.inr rfl) 0 (.int .i64 9)) hq2 ((HS0.out.trans hS2).fresh hg (Nat.le_refl _) _ _)); clear hq hq2 hI2)) | (go_at_call 238; go_must (refine D3.out.mono ?_; rintro e3 w3 ⟨⟨rfl, hI3, va, hT3, hV3, hN3⟩, hS3⟩; obtain ⟨a', c', rfl⟩ := ownsRow_shape hV3; clear d0 d1 d2 d3 d4 d5 d6 d7 df dl; obtain ⟨⟨d0, d1, d2, d3, d4, d5, d6, d7⟩, df, dl⟩ := cells8 hT3; have CU := hid (addT_sw t a' c' w3 hI3 (by omega) hV3 hN3); clear hI3 hT3 hV3 hN3)) | (go_at_call 240; go_must (refine CU.out.mono ?_; rintro e4 w4 ⟨rfl, hI4, hS4⟩; have HI4 := hid hI4; clear hI4)))
  go_ret
  have hI := HI4.out.bare.mono (b' := b) (by omega) htop
  have hp := HP.out
  refine ⟨retI (by rw [hp]), ?_, hS3.trans hS4⟩
  rw [← hp] at hI
  exact hI
 ·clear hX
  go_enter Tryz.func181, Tryz.ntmps181
  go_wp2_with (first | (go_at_call 235; go_must (refine CB.out.mono ?_; rintro e w' ⟨rfl, rfl⟩)) | (go_at_call 127; go_must (refine CX.out.mono ?_; rintro e w' ⟨rfl, rfl⟩)) | (go_at_call 125; first | ((with_reducible refine T0.out.mono ?_); rintro e w' ⟨rfl, rfl⟩) | ((with_reducible refine T1.out.mono ?_); rintro e w' ⟨rfl, rfl⟩) | ((with_reducible refine T2.out.mono ?_); rintro e w' ⟨rfl, rfl⟩) | ((with_reducible refine T3.out.mono ?_); rintro e w' ⟨rfl, rfl⟩) | ((with_reducible refine T4.out.mono ?_); rintro e w' ⟨rfl, rfl⟩) | ((with_reducible refine T5.out.mono ?_); rintro e w' ⟨rfl, rfl⟩) | ((with_reducible refine T6.out.mono ?_); rintro e w' ⟨rfl, rfl⟩) | ((with_reducible refine T7.out.mono ?_); rintro e w' ⟨rfl, rfl⟩) | ((with_reducible refine T8.out.mono ?_); rintro e2 w2 ⟨rfl, hI2, hS2⟩; have hq := (H0.out.own (.inr rfl) hS2).trans HC0.out; obtain ⟨⟨d0, d1, d2, d3, d4, d5, d6, d7⟩, df, dl⟩ := cells8 hq; have hq2 : TCell w.heap.size (w2.setCell ⟨w.heap.size, 0, none⟩ (.int .i64 9)) (-1) (-1) (.slice none 0 0) := cell_set_row hq (by decide) _; have D3 := hid (C3.out _ (hI2.local (.inr rfl) 0 (.int .i64 9)) hq2 ((HS0.out.trans hS2).fresh hg (Nat.le_refl _) _ _)); clear hq hq2 hI2)) | (go_at_call 238; go_must (refine D3.out.mono ?_; rintro e3 w3 ⟨rfl, hS3⟩)))
  exact ⟨rfl, rfl, trivial, hS3⟩
theorem type_step {n : Nat} (II : CIn n) (IS : CSw n) : CT (n + 1) := by
 intro X g b l d f w h hn
 cases hb : begT l
 ·have cb := begT_any w h
  rw [hb] at cb
  have CB := hid cb
  have CX := hid (expect_no w h)
  have hr : typP (n + 1) d l = .bad l 4 := by rw [typP, if_pos hb]
  rw [hr]
  clear cb hb h hr II IS
  go_enter Tryz.func181, Tryz.ntmps181
  go_wp2_with (first | (go_at_call 235; go_must (refine CB.out.mono ?_; rintro e w' ⟨rfl, rfl⟩)) | (go_at_call 127; go_must (refine CX.out.mono ?_; rintro e w' ⟨rfl, rfl⟩)))
  exact ⟨rfl, rfl, trivial, St.refl _ _ _⟩
 ·cases e0 : isT kBytes l
  ·cases e1 : isT kZero l
   ·cases e2 : isT kSkip l
    ·cases e3 : isT kWindow l
     ·cases e4 : isT kAt l
      ·cases e5 : isT kRest l
       ·cases e6 : isT kTail l
        ·cases e7 : isT kNone l
         ·cases e8 : isT kSwitch l
          ·exact type_elem w h hn hb e0 e1 e2 e3 e4 e5 e6 e7 e8
          ·exact type_switch IS w h hn hb e0 e1 e2 e3 e4 e5 e6 e7 e8
         ·exact type_none w h hn hb e0 e1 e2 e3 e4 e5 e6 e7
        ·exact type_tail w h hn hb e0 e1 e2 e3 e4 e5 e6
       ·exact type_rest II w h hn hb e0 e1 e2 e3 e4 e5
      ·exact type_at II w h hn hb e0 e1 e2 e3 e4
     ·exact type_window II w h hn hb e0 e1 e2 e3
    ·exact type_skip w h hn hb e0 e1 e2
   ·exact type_zero w h hn hb e0 e1
  ·exact type_bytes w h hn hb e0
theorem types_all : ∀ n, CT n ∧ CIn n ∧ CBr n ∧ CSw n := by
 intro n
 induction n using Nat.strongRecOn with
 | ind n ih =>
  cases n with
  | zero => exact ⟨fun X g b l d f w h hn => absurd hn (by omega), fun X g b l d f w h hn => absurd hn (by omega), fun X g b l d f w h hn => absurd hn (by have := h.wf.pos; omega), fun X g b l d f w W k h _ _ _ _ _ _ hn => absurd hn (by omega)⟩
  | succ n =>
   obtain ⟨i1, i2, i3, i4⟩ := ih n (by omega)
   exact ⟨type_step i2 i4, inner_step i1, branch_step i2, switch_step fun m hm => (ih m (by omega)).2.2.1⟩
end Go.Proofs.YtomimkgaelkaoaaGreatDoor
