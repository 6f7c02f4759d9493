/- Layer 7: the program's parser: types. -/
import Derived.Test.YtomimkgaelkaoaaGreatDoorC13ParT
set_option linter.unusedVariables false
set_option linter.unusedSimpArgs false
namespace Go.Proofs.YtomimkgaelkaoaaGreatDoor
open Go.Lib (hid)
open Go.ChangeShapes Go.WideShapes Go.ChangeAt Go.RowKit
theorem idx_wf {n d : Nat} {l l' : List Tok} {e : EA} (hw : WF l) (h : idxP n d l = .ok e l') : l'.length < l.length ∧ WF l' := by
 have := good_idx n d l hw
 rw [h] at this
 exact ⟨by have := this.2; omega, this.1⟩
set_option maxHeartbeats 4000000 in
set_option maxRecDepth 100000 in
theorem type_bytes {n : Nat} {X : Nat → Prop} {g b : Nat} {l : List Tok} {d : Nat} {f : FM} (w : World) (h : PInv X g b w l d f) (hn : 8 * l.length + 4 ≤ n + 1) (hb : begT l = true)  (h0' : isT kBytes l = true) :
  Calls Tryz.prog 181 #[.pointer (some ⟨g, 0, none⟩)] w (PostP X g b w d (typP (n + 1) d l) (fun t => .int .i64 ((putT t f.g).1.t : Int)) fun t => f.setG (putT t f.g).1) := by
 have htop := h.top
 have hw := h.wf
 have hg := h.lt
 have hpos := hw.pos
 have hpot := h.pot
 have htl : l.tail.length = l.length - 1 := List.length_tail
 have cb := begT_any w h
 rw [hb] at cb
 have CB := hid cb
 have CX := hid (expect_yes w h)
 have h0 := h.hide (.cells #[.int .i64 0, .int .i64 0, .bool false, .string ⟨#[]⟩, .slice none 0 0, .int .i64 (-1), .int .i64 (-1), .slice none 0 0] 44)
 have hs0 : St layP g w (w.alloc (.cells #[.int .i64 0, .int .i64 0, .bool false, .string ⟨#[]⟩, .slice none 0 0, .int .i64 (-1), .int .i64 (-1), .slice none 0 0] 44)) := St.below hg (below_box _ _)
 have hc0 := heap_alloc_new w (.cells #[.int .i64 0, .int .i64 0, .bool false, .string ⟨#[]⟩, .slice none 0 0, .int .i64 (-1), .int .i64 (-1), .slice none 0 0] 44)
 have T0 := hid (takeY_kBytes _ h0 h0')
 rw [typP, if_neg (by rw [hb]; decide), if_pos h0']
 have hwt := hw.isT h0' (by decide)
 have c3 : ∀ w2, PInv (wth X w.heap.size) g (b - 3) w2 l.tail d f → _ := fun w2 hi => idx_any n w2 hi (by omega)
 rcases hX : idxP n d l.tail with ⟨e, l3⟩ | ⟨l3, x⟩
 all_goals rw [hX] at c3; have C3 := hid c3; have HC0 := hid hc0; have H0 := hid h0; have HS0 := hid hs0; clear c3 hX hc0 h0 hs0; clear cb hb h h0'
 ·rw [PR.bind_ok]
  go_enter Tryz.func181, Tryz.ntmps181
  go_wp2_with (first | (go_at_call 235; go_must (refine CB.out.mono ?_; rintro e w' ⟨rfl, rfl⟩)) | (go_at_call 127; go_must (refine CX.out.mono ?_; rintro e w' ⟨rfl, rfl⟩)) | (go_at_call 125; first | ((with_reducible refine T0.out.mono ?_); rintro e2 w2 ⟨rfl, hI2, hS2⟩; have D3 := hid (C3.out w2 hI2); have hq := (H0.out.own (.inr rfl) hS2).trans HC0.out; have HQ := hid hq; have HI2 := hid hI2; clear hq hI2)) | (go_at_call 236; go_must (refine D3.out.mono ?_; rintro e3 w3 ⟨rfl, hI3, hS3⟩; have hr := (HI2.out.own (.inr rfl) hS3).trans HQ.out; obtain ⟨⟨d0, d1, d2, d3, d4, d5, d6, d7⟩, df, dl⟩ := cells8 hr; have CU := hid (addT_lit 1 0 false [] ((putE e f.g).x : Int) (-1) _ ((hI3.local (.inr rfl) 0 (.int .i64 1)).local (.inr rfl) 5 (.int .i64 ((putE e f.g).x : Int))) (by omega)); clear hI3 hr)) | (go_at_call 240; go_must (refine CU.out.mono ?_; rintro e4 w4 ⟨rfl, hI4, hS4⟩; have HI4 := hid hI4; clear hI4)))
  go_ret
  exact ⟨rfl, HI4.out.bare.mono (by omega) htop, ((((HS0.out.trans hS2).trans hS3).fresh hg (Nat.le_refl _) _ _).fresh hg (Nat.le_refl _) _ _).trans hS4⟩
 ·rw [PR.bind_bad]
  go_enter Tryz.func181, Tryz.ntmps181
  go_wp2_with (first | (go_at_call 235; go_must (refine CB.out.mono ?_; rintro e w' ⟨rfl, rfl⟩)) | (go_at_call 127; go_must (refine CX.out.mono ?_; rintro e w' ⟨rfl, rfl⟩)) | (go_at_call 125; first | ((with_reducible refine T0.out.mono ?_); rintro e2 w2 ⟨rfl, hI2, hS2⟩; have D3 := hid (C3.out w2 hI2); have hq := (H0.out.own (.inr rfl) hS2).trans HC0.out; have HQ := hid hq; have HI2 := hid hI2; clear hq hI2)) | (go_at_call 236; go_must (refine D3.out.mono ?_; rintro e3 w3 ⟨rfl, hI3, hS3⟩)))
  exact ⟨rfl, rfl, trivial, (HS0.out.trans hS2).trans hS3⟩
set_option maxHeartbeats 4000000 in
set_option maxRecDepth 100000 in
theorem type_zero {n : Nat} {X : Nat → Prop} {g b : Nat} {l : List Tok} {d : Nat} {f : FM} (w : World) (h : PInv X g b w l d f) (hn : 8 * l.length + 4 ≤ n + 1) (hb : begT l = true) (h0' : isT kBytes l = false) (h1' : isT kZero l = true) :
  Calls Tryz.prog 181 #[.pointer (some ⟨g, 0, none⟩)] w (PostP X g b w d (typP (n + 1) d l) (fun t => .int .i64 ((putT t f.g).1.t : Int)) fun t => f.setG (putT t f.g).1) := by
 have htop := h.top
 have hw := h.wf
 have hg := h.lt
 have hpos := hw.pos
 have hpot := h.pot
 have htl : l.tail.length = l.length - 1 := List.length_tail
 have cb := begT_any w h
 rw [hb] at cb
 have CB := hid cb
 have CX := hid (expect_yes w h)
 have h0 := h.hide (.cells #[.int .i64 0, .int .i64 0, .bool false, .string ⟨#[]⟩, .slice none 0 0, .int .i64 (-1), .int .i64 (-1), .slice none 0 0] 44)
 have hs0 : St layP g w (w.alloc (.cells #[.int .i64 0, .int .i64 0, .bool false, .string ⟨#[]⟩, .slice none 0 0, .int .i64 (-1), .int .i64 (-1), .slice none 0 0] 44)) := St.below hg (below_box _ _)
 have hc0 := heap_alloc_new w (.cells #[.int .i64 0, .int .i64 0, .bool false, .string ⟨#[]⟩, .slice none 0 0, .int .i64 (-1), .int .i64 (-1), .slice none 0 0] 44)
 have T0 := hid (takeN_kBytes _ h0 h0')
 have T1 := hid (takeY_kZero _ h0 h1')
 rw [typP, if_neg (by rw [hb]; decide), if_neg (by rw [h0']; decide), if_pos h1']
 have hwt := hw.isT h1' (by decide)
 have c3 : ∀ w2, PInv (wth X w.heap.size) g (b - 3) w2 l.tail d f → _ := fun w2 hi => idx_any n w2 hi (by omega)
 rcases hX : idxP n d l.tail with ⟨e, l3⟩ | ⟨l3, x⟩
 all_goals rw [hX] at c3; have C3 := hid c3; have HC0 := hid hc0; have H0 := hid h0; have HS0 := hid hs0; clear c3 hX hc0 h0 hs0; clear cb hb h h0' h1'
 ·rw [PR.bind_ok]
  go_enter Tryz.func181, Tryz.ntmps181
  go_wp2_with (first | (go_at_call 235; go_must (refine CB.out.mono ?_; rintro e w' ⟨rfl, rfl⟩)) | (go_at_call 127; go_must (refine CX.out.mono ?_; rintro e w' ⟨rfl, rfl⟩)) | (go_at_call 125; first | ((with_reducible refine T0.out.mono ?_); rintro e w' ⟨rfl, rfl⟩) | ((with_reducible refine T1.out.mono ?_); rintro e2 w2 ⟨rfl, hI2, hS2⟩; have D3 := hid (C3.out w2 hI2); have hq := (H0.out.own (.inr rfl) hS2).trans HC0.out; have HQ := hid hq; have HI2 := hid hI2; clear hq hI2)) | (go_at_call 236; go_must (refine D3.out.mono ?_; rintro e3 w3 ⟨rfl, hI3, hS3⟩; have hr := (HI2.out.own (.inr rfl) hS3).trans HQ.out; obtain ⟨⟨d0, d1, d2, d3, d4, d5, d6, d7⟩, df, dl⟩ := cells8 hr; have CU := hid (addT_lit 2 0 false [] ((putE e f.g).x : Int) (-1) _ ((hI3.local (.inr rfl) 0 (.int .i64 2)).local (.inr rfl) 5 (.int .i64 ((putE e f.g).x : Int))) (by omega)); clear hI3 hr)) | (go_at_call 240; go_must (refine CU.out.mono ?_; rintro e4 w4 ⟨rfl, hI4, hS4⟩; have HI4 := hid hI4; clear hI4)))
  go_ret
  exact ⟨rfl, HI4.out.bare.mono (by omega) htop, ((((HS0.out.trans hS2).trans hS3).fresh hg (Nat.le_refl _) _ _).fresh hg (Nat.le_refl _) _ _).trans hS4⟩
 ·rw [PR.bind_bad]
  go_enter Tryz.func181, Tryz.ntmps181
  go_wp2_with (first | (go_at_call 235; go_must (refine CB.out.mono ?_; rintro e w' ⟨rfl, rfl⟩)) | (go_at_call 127; go_must (refine CX.out.mono ?_; rintro e w' ⟨rfl, rfl⟩)) | (go_at_call 125; first | ((with_reducible refine T0.out.mono ?_); rintro e w' ⟨rfl, rfl⟩) | ((with_reducible refine T1.out.mono ?_); rintro e2 w2 ⟨rfl, hI2, hS2⟩; have D3 := hid (C3.out w2 hI2); have hq := (H0.out.own (.inr rfl) hS2).trans HC0.out; have HQ := hid hq; have HI2 := hid hI2; clear hq hI2)) | (go_at_call 236; go_must (refine D3.out.mono ?_; rintro e3 w3 ⟨rfl, hI3, hS3⟩)))
  exact ⟨rfl, rfl, trivial, (HS0.out.trans hS2).trans hS3⟩
set_option maxHeartbeats 4000000 in
set_option maxRecDepth 100000 in
theorem type_skip {n : Nat} {X : Nat → Prop} {g b : Nat} {l : List Tok} {d : Nat} {f : FM} (w : World) (h : PInv X g b w l d f) (hn : 8 * l.length + 4 ≤ n + 1) (hb : begT l = true) (h0' : isT kBytes l = false) (h1' : isT kZero l = false) (h2' : isT kSkip l = true) :
  Calls Tryz.prog 181 #[.pointer (some ⟨g, 0, none⟩)] w (PostP X g b w d (typP (n + 1) d l) (fun t => .int .i64 ((putT t f.g).1.t : Int)) fun t => f.setG (putT t f.g).1) := by
 have htop := h.top
 have hw := h.wf
 have hg := h.lt
 have hpos := hw.pos
 have hpot := h.pot
 have htl : l.tail.length = l.length - 1 := List.length_tail
 have cb := begT_any w h
 rw [hb] at cb
 have CB := hid cb
 have CX := hid (expect_yes w h)
 have h0 := h.hide (.cells #[.int .i64 0, .int .i64 0, .bool false, .string ⟨#[]⟩, .slice none 0 0, .int .i64 (-1), .int .i64 (-1), .slice none 0 0] 44)
 have hs0 : St layP g w (w.alloc (.cells #[.int .i64 0, .int .i64 0, .bool false, .string ⟨#[]⟩, .slice none 0 0, .int .i64 (-1), .int .i64 (-1), .slice none 0 0] 44)) := St.below hg (below_box _ _)
 have hc0 := heap_alloc_new w (.cells #[.int .i64 0, .int .i64 0, .bool false, .string ⟨#[]⟩, .slice none 0 0, .int .i64 (-1), .int .i64 (-1), .slice none 0 0] 44)
 have T0 := hid (takeN_kBytes _ h0 h0')
 have T1 := hid (takeN_kZero _ h0 h1')
 have T2 := hid (takeY_kSkip _ h0 h2')
 rw [typP, if_neg (by rw [hb]; decide), if_neg (by rw [h0']; decide), if_neg (by rw [h1']; decide), if_pos h2']
 have hwt := hw.isT h2' (by decide)
 have c3 : ∀ w2, PInv (wth X w.heap.size) g (b - 3) w2 l.tail d f → _ := fun w2 hi => idx_any n w2 hi (by omega)
 rcases hX : idxP n d l.tail with ⟨e, l3⟩ | ⟨l3, x⟩
 all_goals rw [hX] at c3; have C3 := hid c3; have HC0 := hid hc0; have H0 := hid h0; have HS0 := hid hs0; clear c3 hX hc0 h0 hs0; clear cb hb h h0' h1' h2'
 ·rw [PR.bind_ok]
  go_enter Tryz.func181, Tryz.ntmps181
  go_wp2_with (first | (go_at_call 235; go_must (refine CB.out.mono ?_; rintro e w' ⟨rfl, rfl⟩)) | (go_at_call 127; go_must (refine CX.out.mono ?_; rintro e w' ⟨rfl, rfl⟩)) | (go_at_call 125; first | ((with_reducible refine T0.out.mono ?_); rintro e w' ⟨rfl, rfl⟩) | ((with_reducible refine T1.out.mono ?_); rintro e w' ⟨rfl, rfl⟩) | ((with_reducible refine T2.out.mono ?_); rintro e2 w2 ⟨rfl, hI2, hS2⟩; have D3 := hid (C3.out w2 hI2); have hq := (H0.out.own (.inr rfl) hS2).trans HC0.out; have HQ := hid hq; have HI2 := hid hI2; clear hq hI2)) | (go_at_call 236; go_must (refine D3.out.mono ?_; rintro e3 w3 ⟨rfl, hI3, hS3⟩; have hr := (HI2.out.own (.inr rfl) hS3).trans HQ.out; obtain ⟨⟨d0, d1, d2, d3, d4, d5, d6, d7⟩, df, dl⟩ := cells8 hr; have CU := hid (addT_lit 3 0 false [] ((putE e f.g).x : Int) (-1) _ ((hI3.local (.inr rfl) 0 (.int .i64 3)).local (.inr rfl) 5 (.int .i64 ((putE e f.g).x : Int))) (by omega)); clear hI3 hr)) | (go_at_call 240; go_must (refine CU.out.mono ?_; rintro e4 w4 ⟨rfl, hI4, hS4⟩; have HI4 := hid hI4; clear hI4)))
  go_ret
  exact ⟨rfl, HI4.out.bare.mono (by omega) htop, ((((HS0.out.trans hS2).trans hS3).fresh hg (Nat.le_refl _) _ _).fresh hg (Nat.le_refl _) _ _).trans hS4⟩
 ·rw [PR.bind_bad]
  go_enter Tryz.func181, Tryz.ntmps181
  go_wp2_with (first | (go_at_call 235; go_must (refine CB.out.mono ?_; rintro e w' ⟨rfl, rfl⟩)) | (go_at_call 127; go_must (refine CX.out.mono ?_; rintro e w' ⟨rfl, rfl⟩)) | (go_at_call 125; first | ((with_reducible refine T0.out.mono ?_); rintro e w' ⟨rfl, rfl⟩) | ((with_reducible refine T1.out.mono ?_); rintro e w' ⟨rfl, rfl⟩) | ((with_reducible refine T2.out.mono ?_); rintro e2 w2 ⟨rfl, hI2, hS2⟩; have D3 := hid (C3.out w2 hI2); have hq := (H0.out.own (.inr rfl) hS2).trans HC0.out; have HQ := hid hq; have HI2 := hid hI2; clear hq hI2)) | (go_at_call 236; go_must (refine D3.out.mono ?_; rintro e3 w3 ⟨rfl, hI3, hS3⟩)))
  exact ⟨rfl, rfl, trivial, (HS0.out.trans hS2).trans hS3⟩
set_option maxHeartbeats 4000000 in
set_option maxRecDepth 100000 in
theorem type_window {n : Nat} (II : CIn n) {X : Nat → Prop} {g b : Nat} {l : List Tok} {d : Nat} {f : FM} (w : World) (h : PInv X g b w l d f) (hn : 8 * l.length + 4 ≤ n + 1) (hb : begT l = true) (h0' : isT kBytes l = false) (h1' : isT kZero l = false) (h2' : isT kSkip l = false) (h3' : isT kWindow l = true) :
  Calls Tryz.prog 181 #[.pointer (some ⟨g, 0, none⟩)] w (PostP X g b w d (typP (n + 1) d l) (fun t => .int .i64 ((putT t f.g).1.t : Int)) fun t => f.setG (putT t f.g).1) := by
 have htop := h.top
 have hw := h.wf
 have hg := h.lt
 have hpos := hw.pos
 have hpot := h.pot
 have htl : l.tail.length = l.length - 1 := List.length_tail
 have cb := begT_any w h
 rw [hb] at cb
 have CB := hid cb
 have CX := hid (expect_yes w h)
 have h0 := h.hide (.cells #[.int .i64 0, .int .i64 0, .bool false, .string ⟨#[]⟩, .slice none 0 0, .int .i64 (-1), .int .i64 (-1), .slice none 0 0] 44)
 have hs0 : St layP g w (w.alloc (.cells #[.int .i64 0, .int .i64 0, .bool false, .string ⟨#[]⟩, .slice none 0 0, .int .i64 (-1), .int .i64 (-1), .slice none 0 0] 44)) := St.below hg (below_box _ _)
 have hc0 := heap_alloc_new w (.cells #[.int .i64 0, .int .i64 0, .bool false, .string ⟨#[]⟩, .slice none 0 0, .int .i64 (-1), .int .i64 (-1), .slice none 0 0] 44)
 have T0 := hid (takeN_kBytes _ h0 h0')
 have T1 := hid (takeN_kZero _ h0 h1')
 have T2 := hid (takeN_kSkip _ h0 h2')
 have T3 := hid (takeY_kWindow _ h0 h3')
 rw [typP, if_neg (by rw [hb]; decide), if_neg (by rw [h0']; decide), if_neg (by rw [h1']; decide), if_neg (by rw [h2']; decide), if_pos h3']
 have hwt := hw.isT h3' (by decide)
 have c3 : ∀ w2, PInv (wth X w.heap.size) g (b - 3) w2 l.tail d f → _ := fun w2 hi => idx_any n w2 hi (by omega)
 rcases hX : idxP n d l.tail with ⟨e, l3⟩ | ⟨l3, x⟩
 all_goals rw [hX] at c3; have C3 := hid c3; have HC0 := hid hc0; have H0 := hid h0; have HS0 := hid hs0; clear c3 hc0 h0 hs0; clear cb hb h h0' h1' h2' h3'
 ·rw [PR.bind_ok]
  obtain ⟨hl3, hw3⟩ := idx_wf hwt hX
  have c4 : ∀ w3, PInv (wth X w.heap.size) g (b - 3 - 3) w3 l3 d (f.setG (putE e f.g)) → Calls Tryz.prog 237 #[.pointer (some ⟨g, 0, none⟩)] w3 (PostP (wth X w.heap.size) g (b - 3 - 3) w3 d (innerP n d l3) (fun t => .int .i64 ((putT t (putE e f.g)).1.t : Int)) fun t => f.setG (putT t (putE e f.g)).1) := fun w3 hi => II (wth X w.heap.size) g (b - 3 - 3) l3 d _ w3 hi (by omega)
  rcases hY : innerP n d l3 with ⟨t, l4⟩ | ⟨l4, x⟩
  all_goals rw [hY] at c4; have C4 := hid c4; clear c4 hY hX
  ·rw [PR.bind_ok]
   go_enter Tryz.func181, Tryz.ntmps181
   go_wp2_with (first | (go_at_call 235; go_must (refine CB.out.mono ?_; rintro e w' ⟨rfl, rfl⟩)) | (go_at_call 127; go_must (refine CX.out.mono ?_; rintro e w' ⟨rfl, rfl⟩)) | (go_at_call 125; first | ((with_reducible refine T0.out.mono ?_); rintro e w' ⟨rfl, rfl⟩) | ((with_reducible refine T1.out.mono ?_); rintro e w' ⟨rfl, rfl⟩) | ((with_reducible refine T2.out.mono ?_); rintro e w' ⟨rfl, rfl⟩) | ((with_reducible refine T3.out.mono ?_); rintro e2 w2 ⟨rfl, hI2, hS2⟩; have D3 := hid (C3.out w2 hI2); have hq := (H0.out.own (.inr rfl) hS2).trans HC0.out; have HQ := hid hq; have HI2 := hid hI2; clear hq hI2)) | (go_at_call 236; go_must (refine D3.out.mono ?_; rintro e3 w3 ⟨rfl, hI3, hS3⟩; have hr := (HI2.out.own (.inr rfl) hS3).trans HQ.out; have hr2 : ((w3.setCell ⟨w.heap.size, 0, none⟩ (.int .i64 7)).setCell ⟨w.heap.size, 5, none⟩ (.int .i64 ((putE e f.g).x : Int))).heap[w.heap.size]? = some (.cells #[.int .i64 7, .int .i64 0, .bool false, .string ⟨#[]⟩, .slice none 0 0, .int .i64 ((putE e f.g).x : Int), .int .i64 (-1), .slice none 0 0] 44 (0, 0)) := cell_set_row (cell_set_row hr (by decide) (.int .i64 7)) (by simp) (.int .i64 ((putE e f.g).x : Int)); have HR2 := hid hr2; obtain ⟨⟨d0, d1, d2, d3, d4, d5, d6, d7⟩, df, dl⟩ := cells8 hr; have hl3 := (hI3.local (.inr rfl) 0 (.int .i64 7)).local (.inr rfl) 5 (.int .i64 ((putE e f.g).x : Int)); have HL3 := hid hl3; have D4 := hid (C4.out _ hl3); clear hI3 hr hr2 hl3)) | (go_at_call 237; go_must (refine D4.out.mono ?_; rintro e4 w4 ⟨rfl, hI4, hS4⟩; have hr4 := (HL3.out.own (.inr rfl) hS4).trans HR2.out; clear d0 d1 d2 d3 d4 d5 d6 d7 df dl; obtain ⟨⟨d0, d1, d2, d3, d4, d5, d6, d7⟩, df, dl⟩ := cells8 hr4; have CU := hid (addT_lit 7 0 false [] ((putE e f.g).x : Int) ((putT t (putE e f.g)).1.t : Int) _ (hI4.local (.inr rfl) 6 (.int .i64 ((putT t (putE e f.g)).1.t : Int))) (by omega)); clear hI4 hr4)) | (go_at_call 240; go_must (refine CU.out.mono ?_; rintro e5 w5 ⟨rfl, hI5, hS5⟩; have HI5 := hid hI5; clear hI5)))
   go_ret
   exact ⟨rfl, HI5.out.bare.mono (by omega) htop, ((((((HS0.out.trans hS2).trans hS3).fresh hg (Nat.le_refl _) _ _).fresh hg (Nat.le_refl _) _ _).trans hS4).fresh hg (Nat.le_refl _) _ _).trans hS5⟩
  ·rw [PR.bind_bad]
   go_enter Tryz.func181, Tryz.ntmps181
   go_wp2_with (first | (go_at_call 235; go_must (refine CB.out.mono ?_; rintro e w' ⟨rfl, rfl⟩)) | (go_at_call 127; go_must (refine CX.out.mono ?_; rintro e w' ⟨rfl, rfl⟩)) | (go_at_call 125; first | ((with_reducible refine T0.out.mono ?_); rintro e w' ⟨rfl, rfl⟩) | ((with_reducible refine T1.out.mono ?_); rintro e w' ⟨rfl, rfl⟩) | ((with_reducible refine T2.out.mono ?_); rintro e w' ⟨rfl, rfl⟩) | ((with_reducible refine T3.out.mono ?_); rintro e2 w2 ⟨rfl, hI2, hS2⟩; have D3 := hid (C3.out w2 hI2); have hq := (H0.out.own (.inr rfl) hS2).trans HC0.out; have HQ := hid hq; have HI2 := hid hI2; clear hq hI2)) | (go_at_call 236; go_must (refine D3.out.mono ?_; rintro e3 w3 ⟨rfl, hI3, hS3⟩; have hr := (HI2.out.own (.inr rfl) hS3).trans HQ.out; have hr2 : ((w3.setCell ⟨w.heap.size, 0, none⟩ (.int .i64 7)).setCell ⟨w.heap.size, 5, none⟩ (.int .i64 ((putE e f.g).x : Int))).heap[w.heap.size]? = some (.cells #[.int .i64 7, .int .i64 0, .bool false, .string ⟨#[]⟩, .slice none 0 0, .int .i64 ((putE e f.g).x : Int), .int .i64 (-1), .slice none 0 0] 44 (0, 0)) := cell_set_row (cell_set_row hr (by decide) (.int .i64 7)) (by simp) (.int .i64 ((putE e f.g).x : Int)); have HR2 := hid hr2; obtain ⟨⟨d0, d1, d2, d3, d4, d5, d6, d7⟩, df, dl⟩ := cells8 hr; have hl3 := (hI3.local (.inr rfl) 0 (.int .i64 7)).local (.inr rfl) 5 (.int .i64 ((putE e f.g).x : Int)); have HL3 := hid hl3; have D4 := hid (C4.out _ hl3); clear hI3 hr hr2 hl3)) | (go_at_call 237; go_must (refine D4.out.mono ?_; rintro e4 w4 ⟨rfl, hI4, hS4⟩)))
   exact ⟨rfl, rfl, trivial, ((((HS0.out.trans hS2).trans hS3).fresh hg (Nat.le_refl _) _ _).fresh hg (Nat.le_refl _) _ _).trans hS4⟩
 ·rw [PR.bind_bad]
  go_enter Tryz.func181, Tryz.ntmps181
  go_wp2_with (first | (go_at_call 235; go_must (refine CB.out.mono ?_; rintro e w' ⟨rfl, rfl⟩)) | (go_at_call 127; go_must (refine CX.out.mono ?_; rintro e w' ⟨rfl, rfl⟩)) | (go_at_call 125; first | ((with_reducible refine T0.out.mono ?_); rintro e w' ⟨rfl, rfl⟩) | ((with_reducible refine T1.out.mono ?_); rintro e w' ⟨rfl, rfl⟩) | ((with_reducible refine T2.out.mono ?_); rintro e w' ⟨rfl, rfl⟩) | ((with_reducible refine T3.out.mono ?_); rintro e2 w2 ⟨rfl, hI2, hS2⟩; have D3 := hid (C3.out w2 hI2); have hq := (H0.out.own (.inr rfl) hS2).trans HC0.out; have HQ := hid hq; have HI2 := hid hI2; clear hq hI2)) | (go_at_call 236; go_must (refine D3.out.mono ?_; rintro e3 w3 ⟨rfl, hI3, hS3⟩)))
  exact ⟨rfl, rfl, trivial, (HS0.out.trans hS2).trans hS3⟩
set_option maxHeartbeats 4000000 in
set_option maxRecDepth 100000 in
theorem type_at {n : Nat} (II : CIn n) {X : Nat → Prop} {g b : Nat} {l : List Tok} {d : Nat} {f : FM} (w : World) (h : PInv X g b w l d f) (hn : 8 * l.length + 4 ≤ n + 1) (hb : begT l = true) (h0' : isT kBytes l = false) (h1' : isT kZero l = false) (h2' : isT kSkip l = false) (h3' : isT kWindow l = false) (h4' : isT kAt l = true) :
  Calls Tryz.prog 181 #[.pointer (some ⟨g, 0, none⟩)] w (PostP X g b w d (typP (n + 1) d l) (fun t => .int .i64 ((putT t f.g).1.t : Int)) fun t => f.setG (putT t f.g).1) := by
 have htop := h.top
 have hw := h.wf
 have hg := h.lt
 have hpos := hw.pos
 have hpot := h.pot
 have htl : l.tail.length = l.length - 1 := List.length_tail
 have cb := begT_any w h
 rw [hb] at cb
 have CB := hid cb
 have CX := hid (expect_yes w h)
 have h0 := h.hide (.cells #[.int .i64 0, .int .i64 0, .bool false, .string ⟨#[]⟩, .slice none 0 0, .int .i64 (-1), .int .i64 (-1), .slice none 0 0] 44)
 have hs0 : St layP g w (w.alloc (.cells #[.int .i64 0, .int .i64 0, .bool false, .string ⟨#[]⟩, .slice none 0 0, .int .i64 (-1), .int .i64 (-1), .slice none 0 0] 44)) := St.below hg (below_box _ _)
 have hc0 := heap_alloc_new w (.cells #[.int .i64 0, .int .i64 0, .bool false, .string ⟨#[]⟩, .slice none 0 0, .int .i64 (-1), .int .i64 (-1), .slice none 0 0] 44)
 have T0 := hid (takeN_kBytes _ h0 h0')
 have T1 := hid (takeN_kZero _ h0 h1')
 have T2 := hid (takeN_kSkip _ h0 h2')
 have T3 := hid (takeN_kWindow _ h0 h3')
 have T4 := hid (takeY_kAt _ h0 h4')
 rw [typP, if_neg (by rw [hb]; decide), if_neg (by rw [h0']; decide), if_neg (by rw [h1']; decide), if_neg (by rw [h2']; decide), if_neg (by rw [h3']; decide), if_pos h4']
 have hwt := hw.isT h4' (by decide)
 have c3 : ∀ w2, PInv (wth X w.heap.size) g (b - 3) w2 l.tail d f → _ := fun w2 hi => idx_any n w2 hi (by omega)
 rcases hX : idxP n d l.tail with ⟨e, l3⟩ | ⟨l3, x⟩
 all_goals rw [hX] at c3; have C3 := hid c3; have HC0 := hid hc0; have H0 := hid h0; have HS0 := hid hs0; clear c3 hc0 h0 hs0; clear cb hb h h0' h1' h2' h3' h4'
 ·rw [PR.bind_ok]
  obtain ⟨hl3, hw3⟩ := idx_wf hwt hX
  have c4 : ∀ w3, PInv (wth X w.heap.size) g (b - 3 - 3) w3 l3 d (f.setG (putE e f.g)) → Calls Tryz.prog 237 #[.pointer (some ⟨g, 0, none⟩)] w3 (PostP (wth X w.heap.size) g (b - 3 - 3) w3 d (innerP n d l3) (fun t => .int .i64 ((putT t (putE e f.g)).1.t : Int)) fun t => f.setG (putT t (putE e f.g)).1) := fun w3 hi => II (wth X w.heap.size) g (b - 3 - 3) l3 d _ w3 hi (by omega)
  rcases hY : innerP n d l3 with ⟨t, l4⟩ | ⟨l4, x⟩
  all_goals rw [hY] at c4; have C4 := hid c4; clear c4 hY hX
  ·rw [PR.bind_ok]
   go_enter Tryz.func181, Tryz.ntmps181
   go_wp2_with (first | (go_at_call 235; go_must (refine CB.out.mono ?_; rintro e w' ⟨rfl, rfl⟩)) | (go_at_call 127; go_must (refine CX.out.mono ?_; rintro e w' ⟨rfl, rfl⟩)) | (go_at_call 125; first | ((with_reducible refine T0.out.mono ?_); rintro e w' ⟨rfl, rfl⟩) | ((with_reducible refine T1.out.mono ?_); rintro e w' ⟨rfl, rfl⟩) | ((with_reducible refine T2.out.mono ?_); rintro e w' ⟨rfl, rfl⟩) | ((with_reducible refine T3.out.mono ?_); rintro e w' ⟨rfl, rfl⟩) | ((with_reducible refine T4.out.mono ?_); rintro e2 w2 ⟨rfl, hI2, hS2⟩; have D3 := hid (C3.out w2 hI2); have hq := (H0.out.own (.inr rfl) hS2).trans HC0.out; have HQ := hid hq; have HI2 := hid hI2; clear hq hI2)) | (go_at_call 236; go_must (refine D3.out.mono ?_; rintro e3 w3 ⟨rfl, hI3, hS3⟩; have hr := (HI2.out.own (.inr rfl) hS3).trans HQ.out; have hr2 : ((w3.setCell ⟨w.heap.size, 0, none⟩ (.int .i64 8)).setCell ⟨w.heap.size, 5, none⟩ (.int .i64 ((putE e f.g).x : Int))).heap[w.heap.size]? = some (.cells #[.int .i64 8, .int .i64 0, .bool false, .string ⟨#[]⟩, .slice none 0 0, .int .i64 ((putE e f.g).x : Int), .int .i64 (-1), .slice none 0 0] 44 (0, 0)) := cell_set_row (cell_set_row hr (by decide) (.int .i64 8)) (by simp) (.int .i64 ((putE e f.g).x : Int)); have HR2 := hid hr2; obtain ⟨⟨d0, d1, d2, d3, d4, d5, d6, d7⟩, df, dl⟩ := cells8 hr; have hl3 := (hI3.local (.inr rfl) 0 (.int .i64 8)).local (.inr rfl) 5 (.int .i64 ((putE e f.g).x : Int)); have HL3 := hid hl3; have D4 := hid (C4.out _ hl3); clear hI3 hr hr2 hl3)) | (go_at_call 237; go_must (refine D4.out.mono ?_; rintro e4 w4 ⟨rfl, hI4, hS4⟩; have hr4 := (HL3.out.own (.inr rfl) hS4).trans HR2.out; clear d0 d1 d2 d3 d4 d5 d6 d7 df dl; obtain ⟨⟨d0, d1, d2, d3, d4, d5, d6, d7⟩, df, dl⟩ := cells8 hr4; have CU := hid (addT_lit 8 0 false [] ((putE e f.g).x : Int) ((putT t (putE e f.g)).1.t : Int) _ (hI4.local (.inr rfl) 6 (.int .i64 ((putT t (putE e f.g)).1.t : Int))) (by omega)); clear hI4 hr4)) | (go_at_call 240; go_must (refine CU.out.mono ?_; rintro e5 w5 ⟨rfl, hI5, hS5⟩; have HI5 := hid hI5; clear hI5)))
   go_ret
   exact ⟨rfl, HI5.out.bare.mono (by omega) htop, ((((((HS0.out.trans hS2).trans hS3).fresh hg (Nat.le_refl _) _ _).fresh hg (Nat.le_refl _) _ _).trans hS4).fresh hg (Nat.le_refl _) _ _).trans hS5⟩
  ·rw [PR.bind_bad]
   go_enter Tryz.func181, Tryz.ntmps181
   go_wp2_with (first | (go_at_call 235; go_must (refine CB.out.mono ?_; rintro e w' ⟨rfl, rfl⟩)) | (go_at_call 127; go_must (refine CX.out.mono ?_; rintro e w' ⟨rfl, rfl⟩)) | (go_at_call 125; first | ((with_reducible refine T0.out.mono ?_); rintro e w' ⟨rfl, rfl⟩) | ((with_reducible refine T1.out.mono ?_); rintro e w' ⟨rfl, rfl⟩) | ((with_reducible refine T2.out.mono ?_); rintro e w' ⟨rfl, rfl⟩) | ((with_reducible refine T3.out.mono ?_); rintro e w' ⟨rfl, rfl⟩) | ((with_reducible refine T4.out.mono ?_); rintro e2 w2 ⟨rfl, hI2, hS2⟩; have D3 := hid (C3.out w2 hI2); have hq := (H0.out.own (.inr rfl) hS2).trans HC0.out; have HQ := hid hq; have HI2 := hid hI2; clear hq hI2)) | (go_at_call 236; go_must (refine D3.out.mono ?_; rintro e3 w3 ⟨rfl, hI3, hS3⟩; have hr := (HI2.out.own (.inr rfl) hS3).trans HQ.out; have hr2 : ((w3.setCell ⟨w.heap.size, 0, none⟩ (.int .i64 8)).setCell ⟨w.heap.size, 5, none⟩ (.int .i64 ((putE e f.g).x : Int))).heap[w.heap.size]? = some (.cells #[.int .i64 8, .int .i64 0, .bool false, .string ⟨#[]⟩, .slice none 0 0, .int .i64 ((putE e f.g).x : Int), .int .i64 (-1), .slice none 0 0] 44 (0, 0)) := cell_set_row (cell_set_row hr (by decide) (.int .i64 8)) (by simp) (.int .i64 ((putE e f.g).x : Int)); have HR2 := hid hr2; obtain ⟨⟨d0, d1, d2, d3, d4, d5, d6, d7⟩, df, dl⟩ := cells8 hr; have hl3 := (hI3.local (.inr rfl) 0 (.int .i64 8)).local (.inr rfl) 5 (.int .i64 ((putE e f.g).x : Int)); have HL3 := hid hl3; have D4 := hid (C4.out _ hl3); clear hI3 hr hr2 hl3)) | (go_at_call 237; go_must (refine D4.out.mono ?_; rintro e4 w4 ⟨rfl, hI4, hS4⟩)))
   exact ⟨rfl, rfl, trivial, ((((HS0.out.trans hS2).trans hS3).fresh hg (Nat.le_refl _) _ _).fresh hg (Nat.le_refl _) _ _).trans hS4⟩
 ·rw [PR.bind_bad]
  go_enter Tryz.func181, Tryz.ntmps181
  go_wp2_with (first | (go_at_call 235; go_must (refine CB.out.mono ?_; rintro e w' ⟨rfl, rfl⟩)) | (go_at_call 127; go_must (refine CX.out.mono ?_; rintro e w' ⟨rfl, rfl⟩)) | (go_at_call 125; first | ((with_reducible refine T0.out.mono ?_); rintro e w' ⟨rfl, rfl⟩) | ((with_reducible refine T1.out.mono ?_); rintro e w' ⟨rfl, rfl⟩) | ((with_reducible refine T2.out.mono ?_); rintro e w' ⟨rfl, rfl⟩) | ((with_reducible refine T3.out.mono ?_); rintro e w' ⟨rfl, rfl⟩) | ((with_reducible refine T4.out.mono ?_); rintro e2 w2 ⟨rfl, hI2, hS2⟩; have D3 := hid (C3.out w2 hI2); have hq := (H0.out.own (.inr rfl) hS2).trans HC0.out; have HQ := hid hq; have HI2 := hid hI2; clear hq hI2)) | (go_at_call 236; go_must (refine D3.out.mono ?_; rintro e3 w3 ⟨rfl, hI3, hS3⟩)))
  exact ⟨rfl, rfl, trivial, (HS0.out.trans hS2).trans hS3⟩
set_option maxHeartbeats 4000000 in
set_option maxRecDepth 100000 in
theorem type_rest {n : Nat} (II : CIn n) {X : Nat → Prop} {g b : Nat} {l : List Tok} {d : Nat} {f : FM} (w : World) (h : PInv X g b w l d f) (hn : 8 * l.length + 4 ≤ n + 1) (hb : begT l = true) (h0' : isT kBytes l = false) (h1' : isT kZero l = false) (h2' : isT kSkip l = false) (h3' : isT kWindow l = false) (h4' : isT kAt l = false) (h5' : isT kRest l = true) :
  Calls Tryz.prog 181 #[.pointer (some ⟨g, 0, none⟩)] w (PostP X g b w d (typP (n + 1) d l) (fun t => .int .i64 ((putT t f.g).1.t : Int)) fun t => f.setG (putT t f.g).1) := by
 have htop := h.top
 have hw := h.wf
 have hg := h.lt
 have hpos := hw.pos
 have hpot := h.pot
 have htl : l.tail.length = l.length - 1 := List.length_tail
 have cb := begT_any w h
 rw [hb] at cb
 have CB := hid cb
 have CX := hid (expect_yes w h)
 have h0 := h.hide (.cells #[.int .i64 0, .int .i64 0, .bool false, .string ⟨#[]⟩, .slice none 0 0, .int .i64 (-1), .int .i64 (-1), .slice none 0 0] 44)
 have hs0 : St layP g w (w.alloc (.cells #[.int .i64 0, .int .i64 0, .bool false, .string ⟨#[]⟩, .slice none 0 0, .int .i64 (-1), .int .i64 (-1), .slice none 0 0] 44)) := St.below hg (below_box _ _)
 have hc0 := heap_alloc_new w (.cells #[.int .i64 0, .int .i64 0, .bool false, .string ⟨#[]⟩, .slice none 0 0, .int .i64 (-1), .int .i64 (-1), .slice none 0 0] 44)
 have T0 := hid (takeN_kBytes _ h0 h0')
 have T1 := hid (takeN_kZero _ h0 h1')
 have T2 := hid (takeN_kSkip _ h0 h2')
 have T3 := hid (takeN_kWindow _ h0 h3')
 have T4 := hid (takeN_kAt _ h0 h4')
 have T5 := hid (takeY_kRest _ h0 h5')
 rw [typP, if_neg (by rw [hb]; decide), if_neg (by rw [h0']; decide), if_neg (by rw [h1']; decide), if_neg (by rw [h2']; decide), if_neg (by rw [h3']; decide), if_neg (by rw [h4']; decide), if_pos h5']
 have hwt := hw.isT h5' (by decide)
 have c3 : ∀ w2, PInv (wth X w.heap.size) g (b - 3) w2 l.tail d f → _ := fun w2 hi => II (wth X w.heap.size) g (b - 3) l.tail d f w2 hi (by omega)
 rcases hX : innerP n d l.tail with ⟨t, l3⟩ | ⟨l3, x⟩
 all_goals rw [hX] at c3; have C3 := hid c3; have HC0 := hid hc0; have H0 := hid h0; have HS0 := hid hs0; clear c3 hX hc0 h0 hs0; clear cb hb h h0' h1' h2' h3' h4' h5'
 ·rw [PR.bind_ok]
  go_enter Tryz.func181, Tryz.ntmps181
  go_wp2_with (first | (go_at_call 235; go_must (refine CB.out.mono ?_; rintro e w' ⟨rfl, rfl⟩)) | (go_at_call 127; go_must (refine CX.out.mono ?_; rintro e w' ⟨rfl, rfl⟩)) | (go_at_call 125; first | ((with_reducible refine T0.out.mono ?_); rintro e w' ⟨rfl, rfl⟩) | ((with_reducible refine T1.out.mono ?_); rintro e w' ⟨rfl, rfl⟩) | ((with_reducible refine T2.out.mono ?_); rintro e w' ⟨rfl, rfl⟩) | ((with_reducible refine T3.out.mono ?_); rintro e w' ⟨rfl, rfl⟩) | ((with_reducible refine T4.out.mono ?_); rintro e w' ⟨rfl, rfl⟩) | ((with_reducible refine T5.out.mono ?_); rintro e2 w2 ⟨rfl, hI2, hS2⟩; have D3 := hid (C3.out w2 hI2); have hq := (H0.out.own (.inr rfl) hS2).trans HC0.out; have HQ := hid hq; have HI2 := hid hI2; clear hq hI2)) | (go_at_call 237; go_must (refine D3.out.mono ?_; rintro e3 w3 ⟨rfl, hI3, hS3⟩; have hr := (HI2.out.own (.inr rfl) hS3).trans HQ.out; obtain ⟨⟨d0, d1, d2, d3, d4, d5, d6, d7⟩, df, dl⟩ := cells8 hr; have CU := hid (addT_lit 6 0 false [] (-1) ((putT t f.g).1.t : Int) _ ((hI3.local (.inr rfl) 0 (.int .i64 6)).local (.inr rfl) 6 (.int .i64 ((putT t f.g).1.t : Int))) (by omega)); clear hI3 hr)) | (go_at_call 240; go_must (refine CU.out.mono ?_; rintro e4 w4 ⟨rfl, hI4, hS4⟩; have HI4 := hid hI4; clear hI4)))
  go_ret
  exact ⟨rfl, HI4.out.bare.mono (by omega) htop, ((((HS0.out.trans hS2).trans hS3).fresh hg (Nat.le_refl _) _ _).fresh hg (Nat.le_refl _) _ _).trans hS4⟩
 ·rw [PR.bind_bad]
  go_enter Tryz.func181, Tryz.ntmps181
  go_wp2_with (first | (go_at_call 235; go_must (refine CB.out.mono ?_; rintro e w' ⟨rfl, rfl⟩)) | (go_at_call 127; go_must (refine CX.out.mono ?_; rintro e w' ⟨rfl, rfl⟩)) | (go_at_call 125; first | ((with_reducible refine T0.out.mono ?_); rintro e w' ⟨rfl, rfl⟩) | ((with_reducible refine T1.out.mono ?_); rintro e w' ⟨rfl, rfl⟩) | ((with_reducible refine T2.out.mono ?_); rintro e w' ⟨rfl, rfl⟩) | ((with_reducible refine T3.out.mono ?_); rintro e w' ⟨rfl, rfl⟩) | ((with_reducible refine T4.out.mono ?_); rintro e w' ⟨rfl, rfl⟩) | ((with_reducible refine T5.out.mono ?_); rintro e2 w2 ⟨rfl, hI2, hS2⟩; have D3 := hid (C3.out w2 hI2); have hq := (H0.out.own (.inr rfl) hS2).trans HC0.out; have HQ := hid hq; have HI2 := hid hI2; clear hq hI2)) | (go_at_call 237; go_must (refine D3.out.mono ?_; rintro e3 w3 ⟨rfl, hI3, hS3⟩)))
  exact ⟨rfl, rfl, trivial, (HS0.out.trans hS2).trans hS3⟩
set_option maxHeartbeats 4000000 in
set_option maxRecDepth 100000 in
theorem type_tail {n : Nat} {X : Nat → Prop} {g b : Nat} {l : List Tok} {d : Nat} {f : FM} (w : World) (h : PInv X g b w l d f) (hn : 8 * l.length + 4 ≤ n + 1) (hb : begT l = true) (h0' : isT kBytes l = false) (h1' : isT kZero l = false) (h2' : isT kSkip l = false) (h3' : isT kWindow l = false) (h4' : isT kAt l = false) (h5' : isT kRest l = false) (h6' : isT kTail l = true) :
  Calls Tryz.prog 181 #[.pointer (some ⟨g, 0, none⟩)] w (PostP X g b w d (typP (n + 1) d l) (fun t => .int .i64 ((putT t f.g).1.t : Int)) fun t => f.setG (putT t f.g).1) := by
 have htop := h.top
 have hw := h.wf
 have hg := h.lt
 have hpos := hw.pos
 have hpot := h.pot
 have htl : l.tail.length = l.length - 1 := List.length_tail
 have cb := begT_any w h
 rw [hb] at cb
 have CB := hid cb
 have CX := hid (expect_yes w h)
 have h0 := h.hide (.cells #[.int .i64 0, .int .i64 0, .bool false, .string ⟨#[]⟩, .slice none 0 0, .int .i64 (-1), .int .i64 (-1), .slice none 0 0] 44)
 have hs0 : St layP g w (w.alloc (.cells #[.int .i64 0, .int .i64 0, .bool false, .string ⟨#[]⟩, .slice none 0 0, .int .i64 (-1), .int .i64 (-1), .slice none 0 0] 44)) := St.below hg (below_box _ _)
 have hc0 := heap_alloc_new w (.cells #[.int .i64 0, .int .i64 0, .bool false, .string ⟨#[]⟩, .slice none 0 0, .int .i64 (-1), .int .i64 (-1), .slice none 0 0] 44)
 have T0 := hid (takeN_kBytes _ h0 h0')
 have T1 := hid (takeN_kZero _ h0 h1')
 have T2 := hid (takeN_kSkip _ h0 h2')
 have T3 := hid (takeN_kWindow _ h0 h3')
 have T4 := hid (takeN_kAt _ h0 h4')
 have T5 := hid (takeN_kRest _ h0 h5')
 have T6 := hid (takeY_kTail _ h0 h6')
 rw [typP, if_neg (by rw [hb]; decide), if_neg (by rw [h0']; decide), if_neg (by rw [h1']; decide), if_neg (by rw [h2']; decide), if_neg (by rw [h3']; decide), if_neg (by rw [h4']; decide), if_neg (by rw [h5']; decide), if_pos h6']
 have hwt := hw.isT h6' (by decide)
 have HC0 := hid hc0; have H0 := hid h0; have HS0 := hid hs0; clear hc0 h0 hs0; clear cb hb h h0' h1' h2' h3' h4' h5' h6'
 go_enter Tryz.func181, Tryz.ntmps181
 go_wp2_with (first | (go_at_call 235; go_must (refine CB.out.mono ?_; rintro e w' ⟨rfl, rfl⟩)) | (go_at_call 127; go_must (refine CX.out.mono ?_; rintro e w' ⟨rfl, rfl⟩)) | (go_at_call 125; first | ((with_reducible refine T0.out.mono ?_); rintro e w' ⟨rfl, rfl⟩) | ((with_reducible refine T1.out.mono ?_); rintro e w' ⟨rfl, rfl⟩) | ((with_reducible refine T2.out.mono ?_); rintro e w' ⟨rfl, rfl⟩) | ((with_reducible refine T3.out.mono ?_); rintro e w' ⟨rfl, rfl⟩) | ((with_reducible refine T4.out.mono ?_); rintro e w' ⟨rfl, rfl⟩) | ((with_reducible refine T5.out.mono ?_); rintro e w' ⟨rfl, rfl⟩) | ((with_reducible refine T6.out.mono ?_); rintro e2 w2 ⟨rfl, hI2, hS2⟩; have hq := (H0.out.own (.inr rfl) hS2).trans HC0.out; obtain ⟨⟨d0, d1, d2, d3, d4, d5, d6, d7⟩, df, dl⟩ := cells8 hq; have CU := hid (addT_lit 4 0 false [] (-1) (-1) _ (hI2.local (.inr rfl) 0 (.int .i64 4)) (by omega)); clear hq hI2)) | (go_at_call 240; go_must (refine CU.out.mono ?_; rintro e4 w4 ⟨rfl, hI4, hS4⟩; have HI4 := hid hI4; clear hI4)))
 go_ret
 exact ⟨rfl, HI4.out.bare.mono (by omega) htop, (((HS0.out.trans hS2).fresh hg (Nat.le_refl _) _ _)).trans hS4⟩
set_option maxHeartbeats 4000000 in
set_option maxRecDepth 100000 in
theorem type_none {n : Nat} {X : Nat → Prop} {g b : Nat} {l : List Tok} {d : Nat} {f : FM} (w : World) (h : PInv X g b w l d f) (hn : 8 * l.length + 4 ≤ n + 1) (hb : begT l = true) (h0' : isT kBytes l = false) (h1' : isT kZero l = false) (h2' : isT kSkip l = false) (h3' : isT kWindow l = false) (h4' : isT kAt l = false) (h5' : isT kRest l = false) (h6' : isT kTail l = false) (h7' : isT kNone l = true) :
  Calls Tryz.prog 181 #[.pointer (some ⟨g, 0, none⟩)] w (PostP X g b w d (typP (n + 1) d l) (fun t => .int .i64 ((putT t f.g).1.t : Int)) fun t => f.setG (putT t f.g).1) := by
 have htop := h.top
 have hw := h.wf
 have hg := h.lt
 have hpos := hw.pos
 have hpot := h.pot
 have htl : l.tail.length = l.length - 1 := List.length_tail
 have cb := begT_any w h
 rw [hb] at cb
 have CB := hid cb
 have CX := hid (expect_yes w h)
 have h0 := h.hide (.cells #[.int .i64 0, .int .i64 0, .bool false, .string ⟨#[]⟩, .slice none 0 0, .int .i64 (-1), .int .i64 (-1), .slice none 0 0] 44)
 have hs0 : St layP g w (w.alloc (.cells #[.int .i64 0, .int .i64 0, .bool false, .string ⟨#[]⟩, .slice none 0 0, .int .i64 (-1), .int .i64 (-1), .slice none 0 0] 44)) := St.below hg (below_box _ _)
 have hc0 := heap_alloc_new w (.cells #[.int .i64 0, .int .i64 0, .bool false, .string ⟨#[]⟩, .slice none 0 0, .int .i64 (-1), .int .i64 (-1), .slice none 0 0] 44)
 have T0 := hid (takeN_kBytes _ h0 h0')
 have T1 := hid (takeN_kZero _ h0 h1')
 have T2 := hid (takeN_kSkip _ h0 h2')
 have T3 := hid (takeN_kWindow _ h0 h3')
 have T4 := hid (takeN_kAt _ h0 h4')
 have T5 := hid (takeN_kRest _ h0 h5')
 have T6 := hid (takeN_kTail _ h0 h6')
 have T7 := hid (takeY_kNone _ h0 h7')
 rw [typP, if_neg (by rw [hb]; decide), if_neg (by rw [h0']; decide), if_neg (by rw [h1']; decide), if_neg (by rw [h2']; decide), if_neg (by rw [h3']; decide), if_neg (by rw [h4']; decide), if_neg (by rw [h5']; decide), if_neg (by rw [h6']; decide), if_pos h7']
 have hwt := hw.isT h7' (by decide)
 have HC0 := hid hc0; have H0 := hid h0; have HS0 := hid hs0; clear hc0 h0 hs0; clear cb hb h h0' h1' h2' h3' h4' h5' h6' h7'
 go_enter Tryz.func181, Tryz.ntmps181
 go_wp2_with (first | (go_at_call 235; go_must (refine CB.out.mono ?_; rintro e w' ⟨rfl, rfl⟩)) | (go_at_call 127; go_must (refine CX.out.mono ?_; rintro e w' ⟨rfl, rfl⟩)) | (go_at_call 125; first | ((with_reducible refine T0.out.mono ?_); rintro e w' ⟨rfl, rfl⟩) | ((with_reducible refine T1.out.mono ?_); rintro e w' ⟨rfl, rfl⟩) | ((with_reducible refine T2.out.mono ?_); rintro e w' ⟨rfl, rfl⟩) | ((with_reducible refine T3.out.mono ?_); rintro e w' ⟨rfl, rfl⟩) | ((with_reducible refine T4.out.mono ?_); rintro e w' ⟨rfl, rfl⟩) | ((with_reducible refine T5.out.mono ?_); rintro e w' ⟨rfl, rfl⟩) | ((with_reducible refine T6.out.mono ?_); rintro e w' ⟨rfl, rfl⟩) | ((with_reducible refine T7.out.mono ?_); rintro e2 w2 ⟨rfl, hI2, hS2⟩; have hq := (H0.out.own (.inr rfl) hS2).trans HC0.out; obtain ⟨⟨d0, d1, d2, d3, d4, d5, d6, d7⟩, df, dl⟩ := cells8 hq; have CU := hid (addT_lit 11 0 false [] (-1) (-1) _ (hI2.local (.inr rfl) 0 (.int .i64 11)) (by omega)); clear hq hI2)) | (go_at_call 240; go_must (refine CU.out.mono ?_; rintro e4 w4 ⟨rfl, hI4, hS4⟩; have HI4 := hid hI4; clear hI4)))
 go_ret
 exact ⟨rfl, HI4.out.bare.mono (by omega) htop, (((HS0.out.trans hS2).fresh hg (Nat.le_refl _) _ _)).trans hS4⟩
set_option maxHeartbeats 4000000 in
set_option maxRecDepth 100000 in
theorem type_elem {n : Nat} {X : Nat → Prop} {g b : Nat} {l : List Tok} {d : Nat} {f : FM} (w : World) (h : PInv X g b w l d f) (hn : 8 * l.length + 4 ≤ n + 1) (hb : begT l = true) (h0' : isT kBytes l = false) (h1' : isT kZero l = false) (h2' : isT kSkip l = false) (h3' : isT kWindow l = false) (h4' : isT kAt l = false) (h5' : isT kRest l = false) (h6' : isT kTail l = false) (h7' : isT kNone l = false) (h8' : isT kSwitch l = false) :
  Calls Tryz.prog 181 #[.pointer (some ⟨g, 0, none⟩)] w (PostP X g b w d (typP (n + 1) d l) (fun t => .int .i64 ((putT t f.g).1.t : Int)) fun t => f.setG (putT t f.g).1) := by
 have htop := h.top
 have hw := h.wf
 have hg := h.lt
 have hpos := hw.pos
 have hpot := h.pot
 have htl : l.tail.length = l.length - 1 := List.length_tail
 have cb := begT_any w h
 rw [hb] at cb
 have CB := hid cb
 have CX := hid (expect_yes w h)
 have h0 := h.hide (.cells #[.int .i64 0, .int .i64 0, .bool false, .string ⟨#[]⟩, .slice none 0 0, .int .i64 (-1), .int .i64 (-1), .slice none 0 0] 44)
 have hs0 : St layP g w (w.alloc (.cells #[.int .i64 0, .int .i64 0, .bool false, .string ⟨#[]⟩, .slice none 0 0, .int .i64 (-1), .int .i64 (-1), .slice none 0 0] 44)) := St.below hg (below_box _ _)
 have hc0 := heap_alloc_new w (.cells #[.int .i64 0, .int .i64 0, .bool false, .string ⟨#[]⟩, .slice none 0 0, .int .i64 (-1), .int .i64 (-1), .slice none 0 0] 44)
 have T0 := hid (takeN_kBytes _ h0 h0')
 have T1 := hid (takeN_kZero _ h0 h1')
 have T2 := hid (takeN_kSkip _ h0 h2')
 have T3 := hid (takeN_kWindow _ h0 h3')
 have T4 := hid (takeN_kAt _ h0 h4')
 have T5 := hid (takeN_kRest _ h0 h5')
 have T6 := hid (takeN_kTail _ h0 h6')
 have T7 := hid (takeN_kNone _ h0 h7')
 have T8 := hid (takeN_kSwitch _ h0 h8')
 rw [typP, if_neg (by rw [hb]; decide), if_neg (by rw [h0']; decide), if_neg (by rw [h1']; decide), if_neg (by rw [h2']; decide), if_neg (by rw [h3']; decide), if_neg (by rw [h4']; decide), if_neg (by rw [h5']; decide), if_neg (by rw [h6']; decide), if_neg (by rw [h7']; decide), if_neg (by rw [h8']; decide)]
 have h1 : single1 l := by
  unfold begT at hb
  simp only [Bool.or_eq_true] at hb
  rcases hb with (hb | hb) | hb
  ·rw [List.contains_iff_mem] at hb
   simp only [tyW, List.mem_cons, List.mem_nil_iff, or_false] at hb
   unfold isT at h0' h1' h2' h3' h4' h5' h6' h7' h8'
   simp only [decide_eq_false_iff_not] at h0' h1' h2' h3' h4' h5' h6' h7' h8'
   rcases hb with hb | hb | hb | hb | hb | hb | hb | hb | hb
   ·exact absurd hb h0'
   ·exact absurd hb h1'
   ·exact absurd hb h2'
   ·exact absurd hb h3'
   ·exact absurd hb h4'
   ·exact absurd hb h5'
   ·exact absurd hb h6'
   ·exact absurd hb h7'
   ·exact absurd hb h8'
  ·exact .inl hb
  ·exact .inr hb
 have c3 := elem_any n _ h0 h1 (by omega)
 rcases hX : elemP n d l with ⟨t, l3⟩ | ⟨l3, x⟩
 all_goals rw [hX] at c3; have C3 := hid c3; have HS0 := hid hs0; clear c3 hX hc0 h0 hs0 h1 h0' h1' h2' h3' h4' h5' h6' h7' h8'; clear cb hb h
 ·go_enter Tryz.func181, Tryz.ntmps181
  go_wp2_with (first | (go_at_call 235; go_must (refine CB.out.mono ?_; rintro e w' ⟨rfl, rfl⟩)) | (go_at_call 127; go_must (refine CX.out.mono ?_; rintro e w' ⟨rfl, rfl⟩)) | (go_at_call 125; first | ((with_reducible refine T0.out.mono ?_); rintro e w' ⟨rfl, rfl⟩) | ((with_reducible refine T1.out.mono ?_); rintro e w' ⟨rfl, rfl⟩) | ((with_reducible refine T2.out.mono ?_); rintro e w' ⟨rfl, rfl⟩) | ((with_reducible refine T3.out.mono ?_); rintro e w' ⟨rfl, rfl⟩) | ((with_reducible refine T4.out.mono ?_); rintro e w' ⟨rfl, rfl⟩) | ((with_reducible refine T5.out.mono ?_); rintro e w' ⟨rfl, rfl⟩) | ((with_reducible refine T6.out.mono ?_); rintro e w' ⟨rfl, rfl⟩) | ((with_reducible refine T7.out.mono ?_); rintro e w' ⟨rfl, rfl⟩) | ((with_reducible refine T8.out.mono ?_); rintro e w' ⟨rfl, rfl⟩)) | (go_at_call 239; go_must (refine C3.out.mono ?_; rintro e3 w3 ⟨rfl, hI3, hS3⟩)))
  go_ret
  exact ⟨rfl, hI3.bare, HS0.out.trans hS3⟩
 ·go_enter Tryz.func181, Tryz.ntmps181
  go_wp2_with (first | (go_at_call 235; go_must (refine CB.out.mono ?_; rintro e w' ⟨rfl, rfl⟩)) | (go_at_call 127; go_must (refine CX.out.mono ?_; rintro e w' ⟨rfl, rfl⟩)) | (go_at_call 125; first | ((with_reducible refine T0.out.mono ?_); rintro e w' ⟨rfl, rfl⟩) | ((with_reducible refine T1.out.mono ?_); rintro e w' ⟨rfl, rfl⟩) | ((with_reducible refine T2.out.mono ?_); rintro e w' ⟨rfl, rfl⟩) | ((with_reducible refine T3.out.mono ?_); rintro e w' ⟨rfl, rfl⟩) | ((with_reducible refine T4.out.mono ?_); rintro e w' ⟨rfl, rfl⟩) | ((with_reducible refine T5.out.mono ?_); rintro e w' ⟨rfl, rfl⟩) | ((with_reducible refine T6.out.mono ?_); rintro e w' ⟨rfl, rfl⟩) | ((with_reducible refine T7.out.mono ?_); rintro e w' ⟨rfl, rfl⟩) | ((with_reducible refine T8.out.mono ?_); rintro e w' ⟨rfl, rfl⟩)) | (go_at_call 239; go_must (refine C3.out.mono ?_; rintro e3 w3 ⟨rfl, hI3, hS3⟩)))
  exact ⟨rfl, rfl, trivial, HS0.out.trans hS3⟩
end Go.Proofs.YtomimkgaelkaoaaGreatDoor
