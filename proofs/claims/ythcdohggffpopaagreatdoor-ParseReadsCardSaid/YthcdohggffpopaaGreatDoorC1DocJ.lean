/- Layer 7: the document's parser: types. -/
import Derived.Test.YthcdohggffpopaaGreatDoorC1DocI
namespace Go.Proofs.YthcdohggffpopaaGreatDoor
open Go.Lib (hid)
open Go.ChangeShapes Go.WideShapes Go.ChangeAt Go.RowKit
theorem begT_word {l : List Tok} {t : List UInt8} (h : (hd l).tk.t = t) (ht : tyW.contains t = true) : begT l = true := by unfold begT; rw [h, ht]; rfl
theorem name_word {l : List Tok} {t : List UInt8} (h : (hd l).tk.t = t) (ht : isKw t = true) : isName l = false := by unfold isName; rw [h, ht]; simp
theorem isT_of {l : List Tok} {t u : List UInt8} (h : (hd l).tk.t = t) : isT u l = decide (t = u) := by unfold isT; rw [h]
theorem typ_kBytes {n d : Nat} {l : List Tok} (h : (hd l).tk.t = kBytes) : typP (n + 1) d l = (idxP n d l.tail).bind fun e l1 => .ok (.idx 1 e) l1 := by
  rw [typP, if_neg (by rw [begT_word h (by decide)]; decide), if_pos (by rw [isT_of h]; decide)]
theorem typ_kZero {n d : Nat} {l : List Tok} (h : (hd l).tk.t = kZero) : typP (n + 1) d l = (idxP n d l.tail).bind fun e l1 => .ok (.idx 2 e) l1 := by
  rw [typP, if_neg (by rw [begT_word h (by decide)]; decide), if_neg (by rw [isT_of h]; decide), if_pos (by rw [isT_of h]; decide)]
theorem typ_kSkip {n d : Nat} {l : List Tok} (h : (hd l).tk.t = kSkip) : typP (n + 1) d l = (idxP n d l.tail).bind fun e l1 => .ok (.idx 3 e) l1 := by
  rw [typP, if_neg (by rw [begT_word h (by decide)]; decide), if_neg (by rw [isT_of h]; decide), if_neg (by rw [isT_of h]; decide), if_pos (by rw [isT_of h]; decide)]
theorem typ_kWindow {n d : Nat} {l : List Tok} (h : (hd l).tk.t = kWindow) : typP (n + 1) d l = (idxP n d l.tail).bind fun e l1 => (innerP n d l1).bind fun t l2 => .ok (.win 7 e t) l2 := by
  rw [typP, if_neg (by rw [begT_word h (by decide)]; decide), if_neg (by rw [isT_of h]; decide), if_neg (by rw [isT_of h]; decide), if_neg (by rw [isT_of h]; decide), if_pos (by rw [isT_of h]; decide)]
theorem typ_kAt {n d : Nat} {l : List Tok} (h : (hd l).tk.t = kAt) : typP (n + 1) d l = (idxP n d l.tail).bind fun e l1 => (innerP n d l1).bind fun t l2 => .ok (.win 8 e t) l2 := by
  rw [typP, if_neg (by rw [begT_word h (by decide)]; decide), if_neg (by rw [isT_of h]; decide), if_neg (by rw [isT_of h]; decide), if_neg (by rw [isT_of h]; decide), if_neg (by rw [isT_of h]; decide), if_pos (by rw [isT_of h]; decide)]
theorem typ_kRest {n d : Nat} {l : List Tok} (h : (hd l).tk.t = kRest) : typP (n + 1) d l = (innerP n d l.tail).bind fun t l2 => .ok (.rest t) l2 := by
  rw [typP, if_neg (by rw [begT_word h (by decide)]; decide), if_neg (by rw [isT_of h]; decide), if_neg (by rw [isT_of h]; decide), if_neg (by rw [isT_of h]; decide), if_neg (by rw [isT_of h]; decide), if_neg (by rw [isT_of h]; decide), if_pos (by rw [isT_of h]; decide)]
theorem typ_kTail {n d : Nat} {l : List Tok} (h : (hd l).tk.t = kTail) : typP (n + 1) d l = .ok (.leaf 4) l.tail := by
  rw [typP, if_neg (by rw [begT_word h (by decide)]; decide), if_neg (by rw [isT_of h]; decide), if_neg (by rw [isT_of h]; decide), if_neg (by rw [isT_of h]; decide), if_neg (by rw [isT_of h]; decide), if_neg (by rw [isT_of h]; decide), if_neg (by rw [isT_of h]; decide), if_pos (by rw [isT_of h]; decide)]
theorem typ_kNone {n d : Nat} {l : List Tok} (h : (hd l).tk.t = kNone) : typP (n + 1) d l = .ok (.leaf 11) l.tail := by
  rw [typP, if_neg (by rw [begT_word h (by decide)]; decide), if_neg (by rw [isT_of h]; decide), if_neg (by rw [isT_of h]; decide), if_neg (by rw [isT_of h]; decide), if_neg (by rw [isT_of h]; decide), if_neg (by rw [isT_of h]; decide), if_neg (by rw [isT_of h]; decide), if_neg (by rw [isT_of h]; decide), if_pos (by rw [isT_of h]; decide)]
theorem typ_kSwitch {n d : Nat} {l : List Tok} (h : (hd l).tk.t = kSwitch) : typP (n + 1) d l = switchP n d l.tail := by
  rw [typP, if_neg (by rw [begT_word h (by decide)]; decide), if_neg (by rw [isT_of h]; decide), if_neg (by rw [isT_of h]; decide), if_neg (by rw [isT_of h]; decide), if_neg (by rw [isT_of h]; decide), if_neg (by rw [isT_of h]; decide), if_neg (by rw [isT_of h]; decide), if_neg (by rw [isT_of h]; decide), if_neg (by rw [isT_of h]; decide), if_pos (by rw [isT_of h]; decide)]
theorem typ_elem {n d : Nat} {l : List Tok} (hb : begT l = true) (h : ∀ u ∈ tyW, (hd l).tk.t ≠ u) : typP (n + 1) d l = elemP n d l := by
  rw [typP, if_neg (by rw [hb]; decide), if_neg (by rw [isT_of rfl, decide_eq_false (h _ (by decide))]; decide), if_neg (by rw [isT_of rfl, decide_eq_false (h _ (by decide))]; decide), if_neg (by rw [isT_of rfl, decide_eq_false (h _ (by decide))]; decide), if_neg (by rw [isT_of rfl, decide_eq_false (h _ (by decide))]; decide), if_neg (by rw [isT_of rfl, decide_eq_false (h _ (by decide))]; decide), if_neg (by rw [isT_of rfl, decide_eq_false (h _ (by decide))]; decide), if_neg (by rw [isT_of rfl, decide_eq_false (h _ (by decide))]; decide), if_neg (by rw [isT_of rfl, decide_eq_false (h _ (by decide))]; decide), if_neg (by rw [isT_of rfl, decide_eq_false (h _ (by decide))]; decide)]
theorem int_word {t : List UInt8} {q : Nat × Bool} (h : intW t = some q) : ∀ u ∈ tyW, t ≠ u := fun u hu e => by
  subst e
  have : ∀ u ∈ tyW, intW u = none := by decide
  rw [this t hu] at h
  cases h
theorem name_int {l : List Tok} (h : isName l = true) : intW (hd l).tk.t = none := by
  unfold isName isKw at h
  simp only [Bool.and_eq_true, Bool.not_eq_true', Bool.or_eq_false_iff] at h
  cases hi : intW (hd l).tk.t with
  | none => rfl
  | some q => rw [hi] at h; cases h.2.2
theorem name_tyW {l : List Tok} (h : isName l = true) : ∀ u ∈ tyW, (hd l).tk.t ≠ u := fun u hu e => by
  have : ∀ u ∈ tyW, isKw u = true := by decide
  rw [name_word e (this u hu)] at h
  cases h
theorem begT_cases {l : List Tok} (h : begT l = true) (hn : isName l = false) : (∃ u ∈ tyW, (hd l).tk.t = u) ∨ ∃ q, intW (hd l).tk.t = some q := by
  unfold begT at h
  rw [hn, Bool.or_false, Bool.or_eq_true] at h
  rcases h with h | h
  · exact .inl ⟨_, List.contains_iff_mem.1 h, rfl⟩
  · exact .inr (Option.isSome_iff_exists.1 h)
theorem int_name {l : List Tok} {q : Nat × Bool} (h : intW (hd l).tk.t = some q) : isName l = false := name_word rfl (by unfold isKw; rw [h]; simp)
theorem int_begT {l : List Tok} {q : Nat × Bool} (h : intW (hd l).tk.t = some q) : begT l = true := by unfold begT; rw [h]; simp
theorem typ_no {n d : Nat} {l : List Tok} (h : begT l = false) : typP (n + 1) d l = .bad l 4 := by rw [typP, if_pos h]
theorem ref_single {n d : Nat} {l : List Tok} (hw : WF l) (h : isName l = true) (hn : 8 * l.length + 3 ≤ n) : singleP n d l = refP n d l := by
  unfold singleP refP
  rw [name_int h]
  dsimp only
  have hwt := hw.isName h
  split
  · rename_i hq
    have hwq := hwt.isT hq (by decide)
    have h1 : l.tail.length = l.length - 1 := List.length_tail
    have h2 : l.tail.tail.length = l.tail.length - 1 := List.length_tail
    rw [args_doc (m := n) hwq (by omega) (by omega)]
    simp only [PR.bind_assoc, PR.bind_ok]
  · rfl
theorem arr_eq {β : Type} {n d : Nat} (a : β) (r : PR TA) : (r.bind fun t l => .ok (a, t) l).bind (fun p l => arrP n d p l) = (r.bind fun t l1 => if isT sLb l1 = true then (idxP n d l1).bind fun e l2 => .ok (.arr t e) l2 else .ok t l1).bind fun t l => .ok (a, t) l := by
  simp only [PR.bind_assoc, PR.bind_ok]
  refine bind_same rfl fun t l1 _ => ?_
  unfold arrP
  split
  · simp only [PR.bind_assoc, PR.bind_ok]
  · rfl
theorem bind_id {β : Type} (r : PR β) : (r.bind fun p l => .ok p l) = r := by cases r <;> rfl
theorem dkind_fail {n : Nat} {β : Type} {F : β → FM} {X : Nat → Prop} {g m b c d : Nat} (w : World) {l : List Tok} {x : Nat} (h : DT X g m b c d w (.bad l x : PR β) F) :
    Calls Tryz.prog 153 #[.pointer (some ⟨g, 0, none⟩)] w (PostY X g (m - 1) b c d w (.bad l x : PR β) F (typP (n + 1) d)) := by
  have hne := h.err_ne
  have H := hid h
  obtain ⟨i, k, kk, cp, dd, h0, h1, h2, h7, hf⟩ := h.cells
  simp only [PR.err] at h7
  clear h
  go_enter Tryz.func153, Tryz.ntmps153
  go_wp2_with fail
  go_ret
  exact ⟨0, rfl, H.out, fun p l e => (by cases e), St.refl _ _ _⟩
set_option maxHeartbeats 2000000 in
set_option maxRecDepth 100000 in
theorem dkind_name {n : Nat} {β : Type} {a : β} {l : List Tok} {F : β → FM} {X : Nat → Prop} {g m b c d : Nat} (w : World) (h : DT X g m b c d w (.ok a l : PR β) F) (hn : 8 * m + 4 ≤ n + 1) (hbc : b + 16 * (n + 1) + 16 ≤ c) (hc8 : c ≤ 8000000) (hnm : isName l = true) :
    Calls Tryz.prog 153 #[.pointer (some ⟨g, 0, none⟩)] w (PostY X g (m - 1) b c d w (.ok a l : PR β) F (typP (n + 1) d)) := by
  have hg := h.lt
  obtain ⟨hD, hlm, hd32, hbc', hc9⟩ := h
  have hw := hD.wf
  have hp := hw.pos
  have hb3 : 3 ≤ b := by have := hD.pot; omega
  have hR : (typP (n + 1) d l).bind (fun y l => .ok (a, y) l) = (((refP n d l).bind fun t l => .ok (a, t) l).bind fun p l => arrP n d p l) := by
    rw [arr_eq, typ_elem (by unfold begT; rw [hnm]; simp) (name_tyW hnm), elemP, ref_single hw hnm (by omega)]
  have HR := hid hR
  have HNM := hid (dnamed_any w hD)
  have H : Hid (DT X g m b (c - 1) d w (.ok a l : PR β) F) := hid ⟨hD, hlm, hd32, by omega, by omega⟩
  rw [hnm] at HNM
  have HN := hid hnm
  obtain ⟨i, nn, kk, cp, q0, q1, q2, q7, qf, -⟩ := hD.look
  clear hD hR hnm
  go_enter Tryz.func153, Tryz.ntmps153
  go_wp2_with (first | (go_at_call 103; go_must (refine HNM.out.mono ?_; rintro e w1 ⟨rfl, hb1⟩; have H1 := hid (H.out.below hb1); have HS1 : Hid (St layD g w w1) := hid (St.below hg hb1); have C1 := hid (dref_any w1 H1.out HN.out (show 8 * m + 3 ≤ n by omega) (by omega) (by omega)); clear hb1)) | (go_at_call 193; go_must (refine C1.out.mono ?_; rintro e w2 ⟨v, ks, rfl, hT, hV, hN, hE, hS⟩; obtain ⟨va, vc, rfl⟩ := ownsRow_shape hV; have hb2 := below_box w2 (.cells #[.int .i64 10, .int .i64 0, .bool false, .string (bs (hd l).tk.t), .slice va ks.length vc, .int .i64 (-1), .int .i64 (-1), .slice none 0 0] 149); have hS2 := St.below (L := layD) hT.lt hb2; have HS2 := hid (HS1.out.trans (hS.trans hS2)); have C2 := hid (darray_any (dbracket_any (dexpr_any n)) ⟨10, 0, false, (hd l).tk.t, ks, -1, -1, []⟩ _ _ _ _ _ _ _ _ _ (hT.below hb2) ⟨.slice va ks.length vc, .slice none 0 0, rfl, RowR.below hV hb2, hN.stay (hS2.pub X), World.ownsRow_nil _ _ _ _, Nest.none _ _ _⟩ (fun p l' e => by rw [(hE p l' e).2, (hE p l' e).1]) (by omega) (by omega) (by omega)); have hk1 := heap_alloc_new w2 (.cells #[.int .i64 10, .int .i64 0, .bool false, .string (bs (hd l).tk.t), .slice va ks.length vc, .int .i64 (-1), .int .i64 (-1), .slice none 0 0] 149); obtain ⟨⟨d0, d1, d2, d3, d4, d5, d6, d7⟩, df, dl⟩ := cells8 hk1; clear hT hV hN hE hS hb2 hS2 hk1)) | (go_at_call 194; go_must (refine C2.out.mono ?_; rintro e w3 ⟨k, rfl, hT, hk, hS⟩)))
  go_ret
  refine PostY.of hT (fun p => p) (by rw [PR.bind_ok, HR.out, bind_id]) (fun p l' e => ⟨rfl, hk p l' e⟩) (Nat.le_refl _) (by omega) (by omega) (by omega) (by omega) (HS2.out.trans hS)
set_option maxRecDepth 100000 in
theorem dkind_no {n : Nat} {β : Type} {a : β} {l : List Tok} {F : β → FM} {X : Nat → Prop} {g m b c d : Nat} (w : World) (h : DT X g m b c d w (.ok a l : PR β) F) (hn : 8 * m + 4 ≤ n + 1) (hbc : b + 16 * (n + 1) + 16 ≤ c) (hc8 : c ≤ 8000000) (hnm : isName l = false) (hbt : begT l = false) :
    Calls Tryz.prog 153 #[.pointer (some ⟨g, 0, none⟩)] w (PostY X g (m - 1) b c d w (.ok a l : PR β) F (typP (n + 1) d)) := by
  have hg := h.lt
  obtain ⟨hD, hlm, hd32, hbc', hc9⟩ := h
  have HT : Hid (typP (n + 1) d l = .bad l 4) := hid (typ_no hbt)
  have HNM := hid (dnamed_any w hD)
  rw [hnm] at HNM
  have HTY : Hid (∀ w1, DInv X g b w1 l 0 (d : Int) (F a) → Calls Tryz.prog 195 #[.pointer (some ⟨g, 0, none⟩)] w1 fun e' w' => e' = .returned (.bool false) ∧ Below w1.heap.size w1 w') := hid fun w1 h1 => by
    have := dtyped_any w1 h1
    rw [hbt] at this
    exact this
  obtain ⟨i, nn, kk, cp, q0, q1, q2, q7, qf, -⟩ := hD.look
  have HD := hid hD
  clear hD hnm hbt
  go_enter Tryz.func153, Tryz.ntmps153
  go_wp2_with (first | (go_at_call 103; go_must (refine HNM.out.mono ?_; rintro e w1 ⟨rfl, hb1⟩; have H1 := hid (HD.out.below hb1); have C1 := hid (HTY.out w1 H1.out))) | (go_at_call 195; go_must (refine C1.out.mono ?_; rintro e w2 ⟨rfl, hb2⟩; have H2 := hid (H1.out.below hb2); have C2 := hid (dfail_ok 4 w2 H2.out))) | (go_at_call 56; go_must (refine C2.out.mono ?_; rintro e w3 ⟨rfl, hI, hS⟩)))
  go_ret
  have hr : ((.ok a l : PR β).bind fun a l => (typP (n + 1) d l).bind fun y l => .ok (a, y) l) = (.bad l 4 : PR (β × TA)) := by rw [PR.bind_ok, HT.out]; rfl
  refine ⟨0, rfl, ?_, fun p l' e => (by rw [hr] at e; cases e), ((St.below hg hb1).trans (St.below H1.out.lt hb2)).trans hS⟩
  rw [hr]
  exact ⟨by decide, _, _, hI.mono hbc' hc9⟩
set_option maxHeartbeats 4000000 in
set_option maxRecDepth 100000 in
theorem dkind_bytes {n : Nat} {β : Type} {a : β} {l : List Tok} {F : β → FM} {X : Nat → Prop} {g m b c d : Nat} (w : World) (h : DT X g m b c d w (.ok a l : PR β) F) (hn : 8 * m + 4 ≤ n + 1) (hbc : b + 16 * (n + 1) + 16 ≤ c) (hc8 : c ≤ 8000000) (h0 : (hd l).tk.t = kBytes) :
    Calls Tryz.prog 153 #[.pointer (some ⟨g, 0, none⟩)] w (PostY X g (m - 1) b c d w (.ok a l : PR β) F (typP (n + 1) d)) := by
  have hg := h.lt
  obtain ⟨hD, hlm, hd32, hbc', hc9⟩ := h
  have hw := hD.wf
  have hp := hw.pos
  have hb3 : 3 ≤ b := by have := hD.pot; omega
  have hbt : begT l = true := begT_word h0 (by decide)
  have hnm : isName l = false := name_word h0 (by decide)
  have hwt : WF l.tail := hw.isT (g := kBytes) (by rw [isT_of h0]; decide) (by decide)
  have HT := hid (typ_kBytes (n := n) (d := d) h0)
  obtain ⟨t, ht⟩ : ∃ t, (hd l).tk.t = t := ⟨_, rfl⟩
  have b0 : ((bs t).toList == [98, 121, 116, 101, 115]) = true := (beq_l t _).trans (decide_eq_true (by rw [← ht, h0]; rfl))
  have b1 : ((bs t).toList == [122, 101, 114, 111]) = false := (beq_l t _).trans (decide_eq_false (by rw [← ht, h0]; decide))
  have b2 : ((bs t).toList == [115, 107, 105, 112]) = false := (beq_l t _).trans (decide_eq_false (by rw [← ht, h0]; decide))
  have b3 : ((bs t).toList == [119, 105, 110, 100, 111, 119]) = false := (beq_l t _).trans (decide_eq_false (by rw [← ht, h0]; decide))
  have b4 : ((bs t).toList == [97, 116]) = false := (beq_l t _).trans (decide_eq_false (by rw [← ht, h0]; decide))
  have b5 : ((bs t).toList == [114, 101, 115, 116]) = false := (beq_l t _).trans (decide_eq_false (by rw [← ht, h0]; decide))
  have b6 : ((bs t).toList == [116, 97, 105, 108]) = false := (beq_l t _).trans (decide_eq_false (by rw [← ht, h0]; decide))
  have b7 : ((bs t).toList == [110, 111, 110, 101]) = false := (beq_l t _).trans (decide_eq_false (by rw [← ht, h0]; decide))
  have b8 : ((bs t).toList == [115, 119, 105, 116, 99, 104]) = false := (beq_l t _).trans (decide_eq_false (by rw [← ht, h0]; decide))
  have htl : l.tail.length = l.length - 1 := List.length_tail
  have HNM := hid (dnamed_any w hD)
  rw [hnm] at HNM
  have HTY : Hid (∀ w1, DInv X g b w1 l 0 (d : Int) (F a) → Calls Tryz.prog 195 #[.pointer (some ⟨g, 0, none⟩)] w1 fun e' w' => e' = .returned (.bool true) ∧ Below w1.heap.size w1 w') := hid fun w1 h1 => by
    have := dtyped_any w1 h1
    rw [hbt] at this
    exact this
  obtain ⟨i, nn, kk, cp, q0, q1, q2, q7, qf, -⟩ := hD.look
  have HD := hid hD
  clear hD hnm hbt
  go_enter Tryz.func153, Tryz.ntmps153
  go_wp2_with (first | (go_at_call 103; go_must (refine HNM.out.mono ?_; rintro e w1 ⟨rfl, hb1⟩; have H1 := hid (HD.out.below hb1); have C1 := hid (HTY.out w1 H1.out); have HS1 : Hid (St layD g w w1) := hid (St.below hg hb1); clear hb1)) | (go_at_call 195; go_must (refine C1.out.mono ?_; rintro e w2 ⟨rfl, hb2⟩; have H2 := hid (H1.out.below hb2); have HS2 := hid (HS1.out.trans (St.below H1.out.lt hb2)); clear hb2 q0 q1 q2 q7 qf; obtain ⟨i, nn, kk, cp, q0, q1, q2, q7, qf, qi, qc, qm, qkg, qkl, t0, t1, t2, t3, t4⟩ := H2.out.look; rw [ht] at t1; unfold maxLen at qm; have qin : (i : Int) < (nn : Int) := (by omega))))
  go_quiet (fail)
  generalize hW : World.drewN _ _ = W3
  have hB3 : Below w2.heap.size w2 W3 := by rw [← hW]; exact below_drewN _ _ _
  have H3 := H2.out.below hB3
  have HS3 := hid (HS2.out.trans (St.below H2.out.lt hB3))
  clear q0 q1 q2 q7 qf qi qc qm qkg qkl t0 t1 t2 t3 t4 qin hW hB3
  obtain ⟨i, nn, kk, cp, q0, q1, q2, q7, qf, qi, qc, qm, -⟩ := H3.look
  unfold maxLen at qm
  have hi1 : IntKind.i64.wrap ((i : Int) + 1) = (i : Int) + 1 := IntWalk.i64_in _ (by omega)
  have HN := H3.next hwt q1
  have HS4 := hid (HS3.out.trans HN.2)
  have H4 : Hid (DT X g (m - 1) (b - 3) (c - 1) d (W3.setCell ⟨g, 1, none⟩ (.int .i64 ((i : Int) + 1))) (.ok () l.tail : PR Unit) (fun _ => F a)) := hid ⟨HN.1, by omega, hd32, by omega, by omega⟩
  have P5 := hid (H4.out.startH #[.int .i64 0, .int .i64 0, .bool false, .string ⟨#[]⟩, .slice none 0 0, .int .i64 (-1), .int .i64 (-1), .slice none 0 0] 149 168 2 (by decide) W3.heap.size (by simp [World.setCell]))
  have hk5 := (P5.out.bx _ List.mem_cons_self).1
  clear H3 HN
  clear hk5
  have C5 := hid (dbracket_any (dexpr_any n) _ _ _ _ _ _ _ _ _ _ P5.out.dt (by omega) (by omega) (by omega))
  go_wp2_with (first | (go_at_call 196; (first | (refine C5.out.mono ?_; rintro e w6 ⟨kx, rfl, hT, hk, hS⟩; have HKX := hid hk; clear hk; have P6 := hid (P5.out.step any_stable hT hS); clear hT hS; obtain ⟨⟨d0, d1, d2, d3, d4, d5, d6, d7⟩, df, dl⟩ := cells8 (P6.out.bx _ List.mem_cons_self).1; have P7 : Hid (DP _ g _ _ _ _ _ _ _ _ [(W3.heap.size, #[.int .i64 0, .int .i64 0, .bool false, .string ⟨#[]⟩, .slice none 0 0, .int .i64 (kx : Int), .int .i64 (-1), .slice none 0 0], 149)] _ _ _ _ _ _) := hid (P6.out.set any_stable (by simp) (by decide : 5 < 8) (.int .i64 (kx : Int))); have P8 : Hid (DP _ g _ _ _ _ _ _ _ _ [(W3.heap.size, #[.int .i64 1, .int .i64 0, .bool false, .string ⟨#[]⟩, .slice none 0 0, .int .i64 (kx : Int), .int .i64 (-1), .slice none 0 0], 149)] _ _ _ _ _ _) := hid (P7.out.set any_stable (by simp) (by decide : 0 < 8) (.int .i64 1)); have C10 := hid (dlay_leaf 1 0 false [] (kx : Int) (-1) _ P8.out.dt.bareV.bare (by omega))))) | (go_at_call 198; (first | (refine C10.out.mono ?_; rintro e w11 ⟨k6, rfl, hT, hk, hS⟩))))
  go_ret
  refine PostY.of hT (fun q => (a, TA.idx 1 q.2)) (by rw [PR.bind_ok, HT.out]; simp only [PR.bind_assoc, PR.bind_ok]) (fun q l' e => ?_) (by omega) (by omega) (by omega) (by omega) (by omega) ((HS4.out.trans P8.out.st).trans hS)
  rw [hk q l' e, HKX.out q l' e]
  exact ⟨rfl, rfl⟩
set_option maxHeartbeats 4000000 in
set_option maxRecDepth 100000 in
theorem dkind_zero {n : Nat} {β : Type} {a : β} {l : List Tok} {F : β → FM} {X : Nat → Prop} {g m b c d : Nat} (w : World) (h : DT X g m b c d w (.ok a l : PR β) F) (hn : 8 * m + 4 ≤ n + 1) (hbc : b + 16 * (n + 1) + 16 ≤ c) (hc8 : c ≤ 8000000) (h0 : (hd l).tk.t = kZero) :
    Calls Tryz.prog 153 #[.pointer (some ⟨g, 0, none⟩)] w (PostY X g (m - 1) b c d w (.ok a l : PR β) F (typP (n + 1) d)) := by
  have hg := h.lt
  obtain ⟨hD, hlm, hd32, hbc', hc9⟩ := h
  have hw := hD.wf
  have hp := hw.pos
  have hb3 : 3 ≤ b := by have := hD.pot; omega
  have hbt : begT l = true := begT_word h0 (by decide)
  have hnm : isName l = false := name_word h0 (by decide)
  have hwt : WF l.tail := hw.isT (g := kZero) (by rw [isT_of h0]; decide) (by decide)
  have HT := hid (typ_kZero (n := n) (d := d) h0)
  obtain ⟨t, ht⟩ : ∃ t, (hd l).tk.t = t := ⟨_, rfl⟩
  have b0 : ((bs t).toList == [98, 121, 116, 101, 115]) = false := (beq_l t _).trans (decide_eq_false (by rw [← ht, h0]; decide))
  have b1 : ((bs t).toList == [122, 101, 114, 111]) = true := (beq_l t _).trans (decide_eq_true (by rw [← ht, h0]; rfl))
  have b2 : ((bs t).toList == [115, 107, 105, 112]) = false := (beq_l t _).trans (decide_eq_false (by rw [← ht, h0]; decide))
  have b3 : ((bs t).toList == [119, 105, 110, 100, 111, 119]) = false := (beq_l t _).trans (decide_eq_false (by rw [← ht, h0]; decide))
  have b4 : ((bs t).toList == [97, 116]) = false := (beq_l t _).trans (decide_eq_false (by rw [← ht, h0]; decide))
  have b5 : ((bs t).toList == [114, 101, 115, 116]) = false := (beq_l t _).trans (decide_eq_false (by rw [← ht, h0]; decide))
  have b6 : ((bs t).toList == [116, 97, 105, 108]) = false := (beq_l t _).trans (decide_eq_false (by rw [← ht, h0]; decide))
  have b7 : ((bs t).toList == [110, 111, 110, 101]) = false := (beq_l t _).trans (decide_eq_false (by rw [← ht, h0]; decide))
  have b8 : ((bs t).toList == [115, 119, 105, 116, 99, 104]) = false := (beq_l t _).trans (decide_eq_false (by rw [← ht, h0]; decide))
  have htl : l.tail.length = l.length - 1 := List.length_tail
  have HNM := hid (dnamed_any w hD)
  rw [hnm] at HNM
  have HTY : Hid (∀ w1, DInv X g b w1 l 0 (d : Int) (F a) → Calls Tryz.prog 195 #[.pointer (some ⟨g, 0, none⟩)] w1 fun e' w' => e' = .returned (.bool true) ∧ Below w1.heap.size w1 w') := hid fun w1 h1 => by
    have := dtyped_any w1 h1
    rw [hbt] at this
    exact this
  obtain ⟨i, nn, kk, cp, q0, q1, q2, q7, qf, -⟩ := hD.look
  have HD := hid hD
  clear hD hnm hbt
  go_enter Tryz.func153, Tryz.ntmps153
  go_wp2_with (first | (go_at_call 103; go_must (refine HNM.out.mono ?_; rintro e w1 ⟨rfl, hb1⟩; have H1 := hid (HD.out.below hb1); have C1 := hid (HTY.out w1 H1.out); have HS1 : Hid (St layD g w w1) := hid (St.below hg hb1); clear hb1)) | (go_at_call 195; go_must (refine C1.out.mono ?_; rintro e w2 ⟨rfl, hb2⟩; have H2 := hid (H1.out.below hb2); have HS2 := hid (HS1.out.trans (St.below H1.out.lt hb2)); clear hb2 q0 q1 q2 q7 qf; obtain ⟨i, nn, kk, cp, q0, q1, q2, q7, qf, qi, qc, qm, qkg, qkl, t0, t1, t2, t3, t4⟩ := H2.out.look; rw [ht] at t1; unfold maxLen at qm; have qin : (i : Int) < (nn : Int) := (by omega))))
  go_quiet (fail)
  generalize hW : World.drewN _ _ = W3
  have hB3 : Below w2.heap.size w2 W3 := by rw [← hW]; exact below_drewN _ _ _
  have H3 := H2.out.below hB3
  have HS3 := hid (HS2.out.trans (St.below H2.out.lt hB3))
  clear q0 q1 q2 q7 qf qi qc qm qkg qkl t0 t1 t2 t3 t4 qin hW hB3
  obtain ⟨i, nn, kk, cp, q0, q1, q2, q7, qf, qi, qc, qm, -⟩ := H3.look
  unfold maxLen at qm
  have hi1 : IntKind.i64.wrap ((i : Int) + 1) = (i : Int) + 1 := IntWalk.i64_in _ (by omega)
  have HN := H3.next hwt q1
  have HS4 := hid (HS3.out.trans HN.2)
  have H4 : Hid (DT X g (m - 1) (b - 3) (c - 1) d (W3.setCell ⟨g, 1, none⟩ (.int .i64 ((i : Int) + 1))) (.ok () l.tail : PR Unit) (fun _ => F a)) := hid ⟨HN.1, by omega, hd32, by omega, by omega⟩
  have P5 := hid (H4.out.startH #[.int .i64 0, .int .i64 0, .bool false, .string ⟨#[]⟩, .slice none 0 0, .int .i64 (-1), .int .i64 (-1), .slice none 0 0] 149 168 2 (by decide) W3.heap.size (by simp [World.setCell]))
  have hk5 := (P5.out.bx _ List.mem_cons_self).1
  clear H3 HN
  clear hk5
  have C5 := hid (dbracket_any (dexpr_any n) _ _ _ _ _ _ _ _ _ _ P5.out.dt (by omega) (by omega) (by omega))
  go_wp2_with (first | (go_at_call 196; (first | (refine C5.out.mono ?_; rintro e w6 ⟨kx, rfl, hT, hk, hS⟩; have HKX := hid hk; clear hk; have P6 := hid (P5.out.step any_stable hT hS); clear hT hS; obtain ⟨⟨d0, d1, d2, d3, d4, d5, d6, d7⟩, df, dl⟩ := cells8 (P6.out.bx _ List.mem_cons_self).1; have P7 : Hid (DP _ g _ _ _ _ _ _ _ _ [(W3.heap.size, #[.int .i64 0, .int .i64 0, .bool false, .string ⟨#[]⟩, .slice none 0 0, .int .i64 (kx : Int), .int .i64 (-1), .slice none 0 0], 149)] _ _ _ _ _ _) := hid (P6.out.set any_stable (by simp) (by decide : 5 < 8) (.int .i64 (kx : Int))); have P8 : Hid (DP _ g _ _ _ _ _ _ _ _ [(W3.heap.size, #[.int .i64 1, .int .i64 0, .bool false, .string ⟨#[]⟩, .slice none 0 0, .int .i64 (kx : Int), .int .i64 (-1), .slice none 0 0], 149)] _ _ _ _ _ _) := hid (P7.out.set any_stable (by simp) (by decide : 0 < 8) (.int .i64 1)); have P9 : Hid (DP _ g _ _ _ _ _ _ _ _ [(W3.heap.size, #[.int .i64 2, .int .i64 0, .bool false, .string ⟨#[]⟩, .slice none 0 0, .int .i64 (kx : Int), .int .i64 (-1), .slice none 0 0], 149)] _ _ _ _ _ _) := hid (P8.out.set any_stable (by simp) (by decide : 0 < 8) (.int .i64 2)); obtain ⟨⟨e0, e1, e2, e3, e4, e5, e6, e7⟩, ef, el⟩ := cells8 (P9.out.bx _ List.mem_cons_self).1; have C10 := hid (dlay_leaf 2 0 false [] (kx : Int) (-1) _ P9.out.dt.bareV.bare (by omega))))) | (go_at_call 198; (first | (refine C10.out.mono ?_; rintro e w11 ⟨k6, rfl, hT, hk, hS⟩))))
  go_ret
  refine PostY.of hT (fun q => (a, TA.idx 2 q.2)) (by rw [PR.bind_ok, HT.out]; simp only [PR.bind_assoc, PR.bind_ok]) (fun q l' e => ?_) (by omega) (by omega) (by omega) (by omega) (by omega) ((HS4.out.trans P9.out.st).trans hS)
  rw [hk q l' e, HKX.out q l' e]
  exact ⟨rfl, rfl⟩
set_option maxHeartbeats 4000000 in
set_option maxRecDepth 100000 in
theorem dkind_skip {n : Nat} {β : Type} {a : β} {l : List Tok} {F : β → FM} {X : Nat → Prop} {g m b c d : Nat} (w : World) (h : DT X g m b c d w (.ok a l : PR β) F) (hn : 8 * m + 4 ≤ n + 1) (hbc : b + 16 * (n + 1) + 16 ≤ c) (hc8 : c ≤ 8000000) (h0 : (hd l).tk.t = kSkip) :
    Calls Tryz.prog 153 #[.pointer (some ⟨g, 0, none⟩)] w (PostY X g (m - 1) b c d w (.ok a l : PR β) F (typP (n + 1) d)) := by
  have hg := h.lt
  obtain ⟨hD, hlm, hd32, hbc', hc9⟩ := h
  have hw := hD.wf
  have hp := hw.pos
  have hb3 : 3 ≤ b := by have := hD.pot; omega
  have hbt : begT l = true := begT_word h0 (by decide)
  have hnm : isName l = false := name_word h0 (by decide)
  have hwt : WF l.tail := hw.isT (g := kSkip) (by rw [isT_of h0]; decide) (by decide)
  have HT := hid (typ_kSkip (n := n) (d := d) h0)
  obtain ⟨t, ht⟩ : ∃ t, (hd l).tk.t = t := ⟨_, rfl⟩
  have b0 : ((bs t).toList == [98, 121, 116, 101, 115]) = false := (beq_l t _).trans (decide_eq_false (by rw [← ht, h0]; decide))
  have b1 : ((bs t).toList == [122, 101, 114, 111]) = false := (beq_l t _).trans (decide_eq_false (by rw [← ht, h0]; decide))
  have b2 : ((bs t).toList == [115, 107, 105, 112]) = true := (beq_l t _).trans (decide_eq_true (by rw [← ht, h0]; rfl))
  have b3 : ((bs t).toList == [119, 105, 110, 100, 111, 119]) = false := (beq_l t _).trans (decide_eq_false (by rw [← ht, h0]; decide))
  have b4 : ((bs t).toList == [97, 116]) = false := (beq_l t _).trans (decide_eq_false (by rw [← ht, h0]; decide))
  have b5 : ((bs t).toList == [114, 101, 115, 116]) = false := (beq_l t _).trans (decide_eq_false (by rw [← ht, h0]; decide))
  have b6 : ((bs t).toList == [116, 97, 105, 108]) = false := (beq_l t _).trans (decide_eq_false (by rw [← ht, h0]; decide))
  have b7 : ((bs t).toList == [110, 111, 110, 101]) = false := (beq_l t _).trans (decide_eq_false (by rw [← ht, h0]; decide))
  have b8 : ((bs t).toList == [115, 119, 105, 116, 99, 104]) = false := (beq_l t _).trans (decide_eq_false (by rw [← ht, h0]; decide))
  have htl : l.tail.length = l.length - 1 := List.length_tail
  have HNM := hid (dnamed_any w hD)
  rw [hnm] at HNM
  have HTY : Hid (∀ w1, DInv X g b w1 l 0 (d : Int) (F a) → Calls Tryz.prog 195 #[.pointer (some ⟨g, 0, none⟩)] w1 fun e' w' => e' = .returned (.bool true) ∧ Below w1.heap.size w1 w') := hid fun w1 h1 => by
    have := dtyped_any w1 h1
    rw [hbt] at this
    exact this
  obtain ⟨i, nn, kk, cp, q0, q1, q2, q7, qf, -⟩ := hD.look
  have HD := hid hD
  clear hD hnm hbt
  go_enter Tryz.func153, Tryz.ntmps153
  go_wp2_with (first | (go_at_call 103; go_must (refine HNM.out.mono ?_; rintro e w1 ⟨rfl, hb1⟩; have H1 := hid (HD.out.below hb1); have C1 := hid (HTY.out w1 H1.out); have HS1 : Hid (St layD g w w1) := hid (St.below hg hb1); clear hb1)) | (go_at_call 195; go_must (refine C1.out.mono ?_; rintro e w2 ⟨rfl, hb2⟩; have H2 := hid (H1.out.below hb2); have HS2 := hid (HS1.out.trans (St.below H1.out.lt hb2)); clear hb2 q0 q1 q2 q7 qf; obtain ⟨i, nn, kk, cp, q0, q1, q2, q7, qf, qi, qc, qm, qkg, qkl, t0, t1, t2, t3, t4⟩ := H2.out.look; rw [ht] at t1; unfold maxLen at qm; have qin : (i : Int) < (nn : Int) := (by omega))))
  go_quiet (fail)
  generalize hW : World.drewN _ _ = W3
  have hB3 : Below w2.heap.size w2 W3 := by rw [← hW]; exact below_drewN _ _ _
  have H3 := H2.out.below hB3
  have HS3 := hid (HS2.out.trans (St.below H2.out.lt hB3))
  clear q0 q1 q2 q7 qf qi qc qm qkg qkl t0 t1 t2 t3 t4 qin hW hB3
  obtain ⟨i, nn, kk, cp, q0, q1, q2, q7, qf, qi, qc, qm, -⟩ := H3.look
  unfold maxLen at qm
  have hi1 : IntKind.i64.wrap ((i : Int) + 1) = (i : Int) + 1 := IntWalk.i64_in _ (by omega)
  have HN := H3.next hwt q1
  have HS4 := hid (HS3.out.trans HN.2)
  have H4 : Hid (DT X g (m - 1) (b - 3) (c - 1) d (W3.setCell ⟨g, 1, none⟩ (.int .i64 ((i : Int) + 1))) (.ok () l.tail : PR Unit) (fun _ => F a)) := hid ⟨HN.1, by omega, hd32, by omega, by omega⟩
  have P5 := hid (H4.out.startH #[.int .i64 0, .int .i64 0, .bool false, .string ⟨#[]⟩, .slice none 0 0, .int .i64 (-1), .int .i64 (-1), .slice none 0 0] 149 168 2 (by decide) W3.heap.size (by simp [World.setCell]))
  have hk5 := (P5.out.bx _ List.mem_cons_self).1
  clear H3 HN
  clear hk5
  have C5 := hid (dbracket_any (dexpr_any n) _ _ _ _ _ _ _ _ _ _ P5.out.dt (by omega) (by omega) (by omega))
  go_wp2_with (first | (go_at_call 196; (first | (refine C5.out.mono ?_; rintro e w6 ⟨kx, rfl, hT, hk, hS⟩; have HKX := hid hk; clear hk; have P6 := hid (P5.out.step any_stable hT hS); clear hT hS; obtain ⟨⟨d0, d1, d2, d3, d4, d5, d6, d7⟩, df, dl⟩ := cells8 (P6.out.bx _ List.mem_cons_self).1; have P7 : Hid (DP _ g _ _ _ _ _ _ _ _ [(W3.heap.size, #[.int .i64 0, .int .i64 0, .bool false, .string ⟨#[]⟩, .slice none 0 0, .int .i64 (kx : Int), .int .i64 (-1), .slice none 0 0], 149)] _ _ _ _ _ _) := hid (P6.out.set any_stable (by simp) (by decide : 5 < 8) (.int .i64 (kx : Int))); have P8 : Hid (DP _ g _ _ _ _ _ _ _ _ [(W3.heap.size, #[.int .i64 1, .int .i64 0, .bool false, .string ⟨#[]⟩, .slice none 0 0, .int .i64 (kx : Int), .int .i64 (-1), .slice none 0 0], 149)] _ _ _ _ _ _) := hid (P7.out.set any_stable (by simp) (by decide : 0 < 8) (.int .i64 1)); have P9 : Hid (DP _ g _ _ _ _ _ _ _ _ [(W3.heap.size, #[.int .i64 3, .int .i64 0, .bool false, .string ⟨#[]⟩, .slice none 0 0, .int .i64 (kx : Int), .int .i64 (-1), .slice none 0 0], 149)] _ _ _ _ _ _) := hid (P8.out.set any_stable (by simp) (by decide : 0 < 8) (.int .i64 3)); obtain ⟨⟨e0, e1, e2, e3, e4, e5, e6, e7⟩, ef, el⟩ := cells8 (P9.out.bx _ List.mem_cons_self).1; have C10 := hid (dlay_leaf 3 0 false [] (kx : Int) (-1) _ P9.out.dt.bareV.bare (by omega))))) | (go_at_call 198; (first | (refine C10.out.mono ?_; rintro e w11 ⟨k6, rfl, hT, hk, hS⟩))))
  go_ret
  refine PostY.of hT (fun q => (a, TA.idx 3 q.2)) (by rw [PR.bind_ok, HT.out]; simp only [PR.bind_assoc, PR.bind_ok]) (fun q l' e => ?_) (by omega) (by omega) (by omega) (by omega) (by omega) ((HS4.out.trans P9.out.st).trans hS)
  rw [hk q l' e, HKX.out q l' e]
  exact ⟨rfl, rfl⟩
set_option maxHeartbeats 4000000 in
set_option maxRecDepth 100000 in
theorem dkind_window {n : Nat} {β : Type} {a : β} {l : List Tok} {F : β → FM} {X : Nat → Prop} {g m b c d : Nat} (w : World) (h : DT X g m b c d w (.ok a l : PR β) F) (hn : 8 * m + 4 ≤ n + 1) (hbc : b + 16 * (n + 1) + 16 ≤ c) (hc8 : c ≤ 8000000) (IN : DN n) (h0 : (hd l).tk.t = kWindow) :
    Calls Tryz.prog 153 #[.pointer (some ⟨g, 0, none⟩)] w (PostY X g (m - 1) b c d w (.ok a l : PR β) F (typP (n + 1) d)) := by
  have hg := h.lt
  obtain ⟨hD, hlm, hd32, hbc', hc9⟩ := h
  have hw := hD.wf
  have hp := hw.pos
  have hb3 : 3 ≤ b := by have := hD.pot; omega
  have hbt : begT l = true := begT_word h0 (by decide)
  have hnm : isName l = false := name_word h0 (by decide)
  have hwt : WF l.tail := hw.isT (g := kWindow) (by rw [isT_of h0]; decide) (by decide)
  have HT := hid (typ_kWindow (n := n) (d := d) h0)
  obtain ⟨t, ht⟩ : ∃ t, (hd l).tk.t = t := ⟨_, rfl⟩
  have b0 : ((bs t).toList == [98, 121, 116, 101, 115]) = false := (beq_l t _).trans (decide_eq_false (by rw [← ht, h0]; decide))
  have b1 : ((bs t).toList == [122, 101, 114, 111]) = false := (beq_l t _).trans (decide_eq_false (by rw [← ht, h0]; decide))
  have b2 : ((bs t).toList == [115, 107, 105, 112]) = false := (beq_l t _).trans (decide_eq_false (by rw [← ht, h0]; decide))
  have b3 : ((bs t).toList == [119, 105, 110, 100, 111, 119]) = true := (beq_l t _).trans (decide_eq_true (by rw [← ht, h0]; rfl))
  have b4 : ((bs t).toList == [97, 116]) = false := (beq_l t _).trans (decide_eq_false (by rw [← ht, h0]; decide))
  have b5 : ((bs t).toList == [114, 101, 115, 116]) = false := (beq_l t _).trans (decide_eq_false (by rw [← ht, h0]; decide))
  have b6 : ((bs t).toList == [116, 97, 105, 108]) = false := (beq_l t _).trans (decide_eq_false (by rw [← ht, h0]; decide))
  have b7 : ((bs t).toList == [110, 111, 110, 101]) = false := (beq_l t _).trans (decide_eq_false (by rw [← ht, h0]; decide))
  have b8 : ((bs t).toList == [115, 119, 105, 116, 99, 104]) = false := (beq_l t _).trans (decide_eq_false (by rw [← ht, h0]; decide))
  have htl : l.tail.length = l.length - 1 := List.length_tail
  have HNM := hid (dnamed_any w hD)
  rw [hnm] at HNM
  have HTY : Hid (∀ w1, DInv X g b w1 l 0 (d : Int) (F a) → Calls Tryz.prog 195 #[.pointer (some ⟨g, 0, none⟩)] w1 fun e' w' => e' = .returned (.bool true) ∧ Below w1.heap.size w1 w') := hid fun w1 h1 => by
    have := dtyped_any w1 h1
    rw [hbt] at this
    exact this
  obtain ⟨i, nn, kk, cp, q0, q1, q2, q7, qf, -⟩ := hD.look
  have HD := hid hD
  clear hD hnm hbt
  go_enter Tryz.func153, Tryz.ntmps153
  go_wp2_with (first | (go_at_call 103; go_must (refine HNM.out.mono ?_; rintro e w1 ⟨rfl, hb1⟩; have H1 := hid (HD.out.below hb1); have C1 := hid (HTY.out w1 H1.out); have HS1 : Hid (St layD g w w1) := hid (St.below hg hb1); clear hb1)) | (go_at_call 195; go_must (refine C1.out.mono ?_; rintro e w2 ⟨rfl, hb2⟩; have H2 := hid (H1.out.below hb2); have HS2 := hid (HS1.out.trans (St.below H1.out.lt hb2)); clear hb2 q0 q1 q2 q7 qf; obtain ⟨i, nn, kk, cp, q0, q1, q2, q7, qf, qi, qc, qm, qkg, qkl, t0, t1, t2, t3, t4⟩ := H2.out.look; rw [ht] at t1; unfold maxLen at qm; have qin : (i : Int) < (nn : Int) := (by omega))))
  go_quiet (fail)
  generalize hW : World.drewN _ _ = W3
  have hB3 : Below w2.heap.size w2 W3 := by rw [← hW]; exact below_drewN _ _ _
  have H3 := H2.out.below hB3
  have HS3 := hid (HS2.out.trans (St.below H2.out.lt hB3))
  clear q0 q1 q2 q7 qf qi qc qm qkg qkl t0 t1 t2 t3 t4 qin hW hB3
  obtain ⟨i, nn, kk, cp, q0, q1, q2, q7, qf, qi, qc, qm, -⟩ := H3.look
  unfold maxLen at qm
  have hi1 : IntKind.i64.wrap ((i : Int) + 1) = (i : Int) + 1 := IntWalk.i64_in _ (by omega)
  have HN := H3.next hwt q1
  have HS4 := hid (HS3.out.trans HN.2)
  have H4 : Hid (DT X g (m - 1) (b - 3) (c - 1) d (W3.setCell ⟨g, 1, none⟩ (.int .i64 ((i : Int) + 1))) (.ok () l.tail : PR Unit) (fun _ => F a)) := hid ⟨HN.1, by omega, hd32, by omega, by omega⟩
  have P5 := hid (H4.out.startH #[.int .i64 0, .int .i64 0, .bool false, .string ⟨#[]⟩, .slice none 0 0, .int .i64 (-1), .int .i64 (-1), .slice none 0 0] 149 168 2 (by decide) W3.heap.size (by simp [World.setCell]))
  have hk5 := (P5.out.bx _ List.mem_cons_self).1
  clear H3 HN
  clear hk5
  have C5 := hid (dbracket_any (dexpr_any n) _ _ _ _ _ _ _ _ _ _ P5.out.dt (by omega) (by omega) (by omega))
  go_wp2_with (first | (go_at_call 196; (first | (refine C5.out.mono ?_; rintro e w6 ⟨kx, rfl, hT, hk, hS⟩; have HKX := hid hk; clear hk; have P6 := hid (P5.out.step any_stable hT hS); clear hT hS; obtain ⟨⟨d0, d1, d2, d3, d4, d5, d6, d7⟩, df, dl⟩ := cells8 (P6.out.bx _ List.mem_cons_self).1; have P7 : Hid (DP _ g _ _ _ _ _ _ _ _ [(W3.heap.size, #[.int .i64 0, .int .i64 0, .bool false, .string ⟨#[]⟩, .slice none 0 0, .int .i64 (kx : Int), .int .i64 (-1), .slice none 0 0], 149)] _ _ _ _ _ _) := hid (P6.out.set any_stable (by simp) (by decide : 5 < 8) (.int .i64 (kx : Int))); have P8 : Hid (DP _ g _ _ _ _ _ _ _ _ [(W3.heap.size, #[.int .i64 1, .int .i64 0, .bool false, .string ⟨#[]⟩, .slice none 0 0, .int .i64 (kx : Int), .int .i64 (-1), .slice none 0 0], 149)] _ _ _ _ _ _) := hid (P7.out.set any_stable (by simp) (by decide : 0 < 8) (.int .i64 1)); have P9 : Hid (DP _ g _ _ _ _ _ _ _ _ [(W3.heap.size, #[.int .i64 7, .int .i64 0, .bool false, .string ⟨#[]⟩, .slice none 0 0, .int .i64 (kx : Int), .int .i64 (-1), .slice none 0 0], 149)] _ _ _ _ _ _) := hid (P8.out.set any_stable (by simp) (by decide : 0 < 8) (.int .i64 7)); have C9 := hid (IN _ _ _ _ _ _ _ _ _ _ P9.out.dt (by omega) (by omega) (by omega))))) | (go_at_call 197; (first | ((with_reducible refine C9.out.mono ?_); rintro e w10 ⟨kt, rfl, hT, hk, hS⟩; have HK := hid hk; clear hk; have P10 := hid (P9.out.step any_stable hT hS); clear hT hS; clear d0 d1 d2 d3 d4 d5 d6 d7 df dl; obtain ⟨⟨d0, d1, d2, d3, d4, d5, d6, d7⟩, df, dl⟩ := cells8 (P10.out.bx _ List.mem_cons_self).1; have P11 : Hid (DP _ g _ _ _ _ _ _ _ _ [(W3.heap.size, #[.int .i64 7, .int .i64 0, .bool false, .string ⟨#[]⟩, .slice none 0 0, .int .i64 (kx : Int), .int .i64 (kt : Int), .slice none 0 0], 149)] _ _ _ _ _ _) := hid (P10.out.set any_stable (by simp) (by decide : 6 < 8) (.int .i64 (kt : Int))); have C11 := hid (dlay_leaf 7 0 false [] (kx : Int) (kt : Int) _ P11.out.dt.bareV.bare (by omega))))) | (go_at_call 198; (first | (refine C11.out.mono ?_; rintro e w12 ⟨k6, rfl, hT, hk, hS⟩))))
  go_ret
  refine PostY.of hT (fun q => (a, TA.win 7 q.1.2 q.2)) (by rw [PR.bind_ok, HT.out]; simp only [PR.bind_assoc, PR.bind_ok]) (fun q l' e => ?_) (by omega) (by omega) (by omega) (by omega) (by omega) ((HS4.out.trans P11.out.st).trans hS)
  have hk2 := HK.out q l' e
  obtain ⟨l3, e2, -⟩ := pair_ok e
  rw [hk q l' e, hk2, HKX.out q.1 l3 e2]
  exact ⟨rfl, rfl⟩
set_option maxHeartbeats 4000000 in
set_option maxRecDepth 100000 in
theorem dkind_at {n : Nat} {β : Type} {a : β} {l : List Tok} {F : β → FM} {X : Nat → Prop} {g m b c d : Nat} (w : World) (h : DT X g m b c d w (.ok a l : PR β) F) (hn : 8 * m + 4 ≤ n + 1) (hbc : b + 16 * (n + 1) + 16 ≤ c) (hc8 : c ≤ 8000000) (IN : DN n) (h0 : (hd l).tk.t = kAt) :
    Calls Tryz.prog 153 #[.pointer (some ⟨g, 0, none⟩)] w (PostY X g (m - 1) b c d w (.ok a l : PR β) F (typP (n + 1) d)) := by
  have hg := h.lt
  obtain ⟨hD, hlm, hd32, hbc', hc9⟩ := h
  have hw := hD.wf
  have hp := hw.pos
  have hb3 : 3 ≤ b := by have := hD.pot; omega
  have hbt : begT l = true := begT_word h0 (by decide)
  have hnm : isName l = false := name_word h0 (by decide)
  have hwt : WF l.tail := hw.isT (g := kAt) (by rw [isT_of h0]; decide) (by decide)
  have HT := hid (typ_kAt (n := n) (d := d) h0)
  obtain ⟨t, ht⟩ : ∃ t, (hd l).tk.t = t := ⟨_, rfl⟩
  have b0 : ((bs t).toList == [98, 121, 116, 101, 115]) = false := (beq_l t _).trans (decide_eq_false (by rw [← ht, h0]; decide))
  have b1 : ((bs t).toList == [122, 101, 114, 111]) = false := (beq_l t _).trans (decide_eq_false (by rw [← ht, h0]; decide))
  have b2 : ((bs t).toList == [115, 107, 105, 112]) = false := (beq_l t _).trans (decide_eq_false (by rw [← ht, h0]; decide))
  have b3 : ((bs t).toList == [119, 105, 110, 100, 111, 119]) = false := (beq_l t _).trans (decide_eq_false (by rw [← ht, h0]; decide))
  have b4 : ((bs t).toList == [97, 116]) = true := (beq_l t _).trans (decide_eq_true (by rw [← ht, h0]; rfl))
  have b5 : ((bs t).toList == [114, 101, 115, 116]) = false := (beq_l t _).trans (decide_eq_false (by rw [← ht, h0]; decide))
  have b6 : ((bs t).toList == [116, 97, 105, 108]) = false := (beq_l t _).trans (decide_eq_false (by rw [← ht, h0]; decide))
  have b7 : ((bs t).toList == [110, 111, 110, 101]) = false := (beq_l t _).trans (decide_eq_false (by rw [← ht, h0]; decide))
  have b8 : ((bs t).toList == [115, 119, 105, 116, 99, 104]) = false := (beq_l t _).trans (decide_eq_false (by rw [← ht, h0]; decide))
  have htl : l.tail.length = l.length - 1 := List.length_tail
  have HNM := hid (dnamed_any w hD)
  rw [hnm] at HNM
  have HTY : Hid (∀ w1, DInv X g b w1 l 0 (d : Int) (F a) → Calls Tryz.prog 195 #[.pointer (some ⟨g, 0, none⟩)] w1 fun e' w' => e' = .returned (.bool true) ∧ Below w1.heap.size w1 w') := hid fun w1 h1 => by
    have := dtyped_any w1 h1
    rw [hbt] at this
    exact this
  obtain ⟨i, nn, kk, cp, q0, q1, q2, q7, qf, -⟩ := hD.look
  have HD := hid hD
  clear hD hnm hbt
  go_enter Tryz.func153, Tryz.ntmps153
  go_wp2_with (first | (go_at_call 103; go_must (refine HNM.out.mono ?_; rintro e w1 ⟨rfl, hb1⟩; have H1 := hid (HD.out.below hb1); have C1 := hid (HTY.out w1 H1.out); have HS1 : Hid (St layD g w w1) := hid (St.below hg hb1); clear hb1)) | (go_at_call 195; go_must (refine C1.out.mono ?_; rintro e w2 ⟨rfl, hb2⟩; have H2 := hid (H1.out.below hb2); have HS2 := hid (HS1.out.trans (St.below H1.out.lt hb2)); clear hb2 q0 q1 q2 q7 qf; obtain ⟨i, nn, kk, cp, q0, q1, q2, q7, qf, qi, qc, qm, qkg, qkl, t0, t1, t2, t3, t4⟩ := H2.out.look; rw [ht] at t1; unfold maxLen at qm; have qin : (i : Int) < (nn : Int) := (by omega))))
  go_quiet (fail)
  generalize hW : World.drewN _ _ = W3
  have hB3 : Below w2.heap.size w2 W3 := by rw [← hW]; exact below_drewN _ _ _
  have H3 := H2.out.below hB3
  have HS3 := hid (HS2.out.trans (St.below H2.out.lt hB3))
  clear q0 q1 q2 q7 qf qi qc qm qkg qkl t0 t1 t2 t3 t4 qin hW hB3
  obtain ⟨i, nn, kk, cp, q0, q1, q2, q7, qf, qi, qc, qm, -⟩ := H3.look
  unfold maxLen at qm
  have hi1 : IntKind.i64.wrap ((i : Int) + 1) = (i : Int) + 1 := IntWalk.i64_in _ (by omega)
  have HN := H3.next hwt q1
  have HS4 := hid (HS3.out.trans HN.2)
  have H4 : Hid (DT X g (m - 1) (b - 3) (c - 1) d (W3.setCell ⟨g, 1, none⟩ (.int .i64 ((i : Int) + 1))) (.ok () l.tail : PR Unit) (fun _ => F a)) := hid ⟨HN.1, by omega, hd32, by omega, by omega⟩
  have P5 := hid (H4.out.startH #[.int .i64 0, .int .i64 0, .bool false, .string ⟨#[]⟩, .slice none 0 0, .int .i64 (-1), .int .i64 (-1), .slice none 0 0] 149 168 2 (by decide) W3.heap.size (by simp [World.setCell]))
  have hk5 := (P5.out.bx _ List.mem_cons_self).1
  clear H3 HN
  clear hk5
  have C5 := hid (dbracket_any (dexpr_any n) _ _ _ _ _ _ _ _ _ _ P5.out.dt (by omega) (by omega) (by omega))
  go_wp2_with (first | (go_at_call 196; (first | (refine C5.out.mono ?_; rintro e w6 ⟨kx, rfl, hT, hk, hS⟩; have HKX := hid hk; clear hk; have P6 := hid (P5.out.step any_stable hT hS); clear hT hS; obtain ⟨⟨d0, d1, d2, d3, d4, d5, d6, d7⟩, df, dl⟩ := cells8 (P6.out.bx _ List.mem_cons_self).1; have P7 : Hid (DP _ g _ _ _ _ _ _ _ _ [(W3.heap.size, #[.int .i64 0, .int .i64 0, .bool false, .string ⟨#[]⟩, .slice none 0 0, .int .i64 (kx : Int), .int .i64 (-1), .slice none 0 0], 149)] _ _ _ _ _ _) := hid (P6.out.set any_stable (by simp) (by decide : 5 < 8) (.int .i64 (kx : Int))); have P8 : Hid (DP _ g _ _ _ _ _ _ _ _ [(W3.heap.size, #[.int .i64 1, .int .i64 0, .bool false, .string ⟨#[]⟩, .slice none 0 0, .int .i64 (kx : Int), .int .i64 (-1), .slice none 0 0], 149)] _ _ _ _ _ _) := hid (P7.out.set any_stable (by simp) (by decide : 0 < 8) (.int .i64 1)); have P9 : Hid (DP _ g _ _ _ _ _ _ _ _ [(W3.heap.size, #[.int .i64 8, .int .i64 0, .bool false, .string ⟨#[]⟩, .slice none 0 0, .int .i64 (kx : Int), .int .i64 (-1), .slice none 0 0], 149)] _ _ _ _ _ _) := hid (P8.out.set any_stable (by simp) (by decide : 0 < 8) (.int .i64 8)); have C9 := hid (IN _ _ _ _ _ _ _ _ _ _ P9.out.dt (by omega) (by omega) (by omega))))) | (go_at_call 197; (first | ((with_reducible refine C9.out.mono ?_); rintro e w10 ⟨kt, rfl, hT, hk, hS⟩; have HK := hid hk; clear hk; have P10 := hid (P9.out.step any_stable hT hS); clear hT hS; clear d0 d1 d2 d3 d4 d5 d6 d7 df dl; obtain ⟨⟨d0, d1, d2, d3, d4, d5, d6, d7⟩, df, dl⟩ := cells8 (P10.out.bx _ List.mem_cons_self).1; have P11 : Hid (DP _ g _ _ _ _ _ _ _ _ [(W3.heap.size, #[.int .i64 8, .int .i64 0, .bool false, .string ⟨#[]⟩, .slice none 0 0, .int .i64 (kx : Int), .int .i64 (kt : Int), .slice none 0 0], 149)] _ _ _ _ _ _) := hid (P10.out.set any_stable (by simp) (by decide : 6 < 8) (.int .i64 (kt : Int))); have C11 := hid (dlay_leaf 8 0 false [] (kx : Int) (kt : Int) _ P11.out.dt.bareV.bare (by omega))))) | (go_at_call 198; (first | (refine C11.out.mono ?_; rintro e w12 ⟨k6, rfl, hT, hk, hS⟩))))
  go_ret
  refine PostY.of hT (fun q => (a, TA.win 8 q.1.2 q.2)) (by rw [PR.bind_ok, HT.out]; simp only [PR.bind_assoc, PR.bind_ok]) (fun q l' e => ?_) (by omega) (by omega) (by omega) (by omega) (by omega) ((HS4.out.trans P11.out.st).trans hS)
  have hk2 := HK.out q l' e
  obtain ⟨l3, e2, -⟩ := pair_ok e
  rw [hk q l' e, hk2, HKX.out q.1 l3 e2]
  exact ⟨rfl, rfl⟩
set_option maxHeartbeats 4000000 in
set_option maxRecDepth 100000 in
theorem dkind_rest {n : Nat} {β : Type} {a : β} {l : List Tok} {F : β → FM} {X : Nat → Prop} {g m b c d : Nat} (w : World) (h : DT X g m b c d w (.ok a l : PR β) F) (hn : 8 * m + 4 ≤ n + 1) (hbc : b + 16 * (n + 1) + 16 ≤ c) (hc8 : c ≤ 8000000) (IN : DN n) (h0 : (hd l).tk.t = kRest) :
    Calls Tryz.prog 153 #[.pointer (some ⟨g, 0, none⟩)] w (PostY X g (m - 1) b c d w (.ok a l : PR β) F (typP (n + 1) d)) := by
  have hg := h.lt
  obtain ⟨hD, hlm, hd32, hbc', hc9⟩ := h
  have hw := hD.wf
  have hp := hw.pos
  have hb3 : 3 ≤ b := by have := hD.pot; omega
  have hbt : begT l = true := begT_word h0 (by decide)
  have hnm : isName l = false := name_word h0 (by decide)
  have hwt : WF l.tail := hw.isT (g := kRest) (by rw [isT_of h0]; decide) (by decide)
  have HT := hid (typ_kRest (n := n) (d := d) h0)
  obtain ⟨t, ht⟩ : ∃ t, (hd l).tk.t = t := ⟨_, rfl⟩
  have b0 : ((bs t).toList == [98, 121, 116, 101, 115]) = false := (beq_l t _).trans (decide_eq_false (by rw [← ht, h0]; decide))
  have b1 : ((bs t).toList == [122, 101, 114, 111]) = false := (beq_l t _).trans (decide_eq_false (by rw [← ht, h0]; decide))
  have b2 : ((bs t).toList == [115, 107, 105, 112]) = false := (beq_l t _).trans (decide_eq_false (by rw [← ht, h0]; decide))
  have b3 : ((bs t).toList == [119, 105, 110, 100, 111, 119]) = false := (beq_l t _).trans (decide_eq_false (by rw [← ht, h0]; decide))
  have b4 : ((bs t).toList == [97, 116]) = false := (beq_l t _).trans (decide_eq_false (by rw [← ht, h0]; decide))
  have b5 : ((bs t).toList == [114, 101, 115, 116]) = true := (beq_l t _).trans (decide_eq_true (by rw [← ht, h0]; rfl))
  have b6 : ((bs t).toList == [116, 97, 105, 108]) = false := (beq_l t _).trans (decide_eq_false (by rw [← ht, h0]; decide))
  have b7 : ((bs t).toList == [110, 111, 110, 101]) = false := (beq_l t _).trans (decide_eq_false (by rw [← ht, h0]; decide))
  have b8 : ((bs t).toList == [115, 119, 105, 116, 99, 104]) = false := (beq_l t _).trans (decide_eq_false (by rw [← ht, h0]; decide))
  have htl : l.tail.length = l.length - 1 := List.length_tail
  have HNM := hid (dnamed_any w hD)
  rw [hnm] at HNM
  have HTY : Hid (∀ w1, DInv X g b w1 l 0 (d : Int) (F a) → Calls Tryz.prog 195 #[.pointer (some ⟨g, 0, none⟩)] w1 fun e' w' => e' = .returned (.bool true) ∧ Below w1.heap.size w1 w') := hid fun w1 h1 => by
    have := dtyped_any w1 h1
    rw [hbt] at this
    exact this
  obtain ⟨i, nn, kk, cp, q0, q1, q2, q7, qf, -⟩ := hD.look
  have HD := hid hD
  clear hD hnm hbt
  go_enter Tryz.func153, Tryz.ntmps153
  go_wp2_with (first | (go_at_call 103; go_must (refine HNM.out.mono ?_; rintro e w1 ⟨rfl, hb1⟩; have H1 := hid (HD.out.below hb1); have C1 := hid (HTY.out w1 H1.out); have HS1 : Hid (St layD g w w1) := hid (St.below hg hb1); clear hb1)) | (go_at_call 195; go_must (refine C1.out.mono ?_; rintro e w2 ⟨rfl, hb2⟩; have H2 := hid (H1.out.below hb2); have HS2 := hid (HS1.out.trans (St.below H1.out.lt hb2)); clear hb2 q0 q1 q2 q7 qf; obtain ⟨i, nn, kk, cp, q0, q1, q2, q7, qf, qi, qc, qm, qkg, qkl, t0, t1, t2, t3, t4⟩ := H2.out.look; rw [ht] at t1; unfold maxLen at qm; have qin : (i : Int) < (nn : Int) := (by omega))))
  go_quiet (fail)
  generalize hW : World.drewN _ _ = W3
  have hB3 : Below w2.heap.size w2 W3 := by rw [← hW]; exact below_drewN _ _ _
  have H3 := H2.out.below hB3
  have HS3 := hid (HS2.out.trans (St.below H2.out.lt hB3))
  clear q0 q1 q2 q7 qf qi qc qm qkg qkl t0 t1 t2 t3 t4 qin hW hB3
  obtain ⟨i, nn, kk, cp, q0, q1, q2, q7, qf, qi, qc, qm, -⟩ := H3.look
  unfold maxLen at qm
  have hi1 : IntKind.i64.wrap ((i : Int) + 1) = (i : Int) + 1 := IntWalk.i64_in _ (by omega)
  have HN := H3.next hwt q1
  have HS4 := hid (HS3.out.trans HN.2)
  have H4 : Hid (DT X g (m - 1) (b - 3) (c - 1) d (W3.setCell ⟨g, 1, none⟩ (.int .i64 ((i : Int) + 1))) (.ok () l.tail : PR Unit) (fun _ => F a)) := hid ⟨HN.1, by omega, hd32, by omega, by omega⟩
  have P5 := hid (H4.out.startH #[.int .i64 6, .int .i64 0, .bool false, .string ⟨#[]⟩, .slice none 0 0, .int .i64 (-1), .int .i64 (-1), .slice none 0 0] 149 168 2 (by decide) W3.heap.size (by simp [World.setCell]))
  have hk5 := (P5.out.bx _ List.mem_cons_self).1
  clear H3 HN
  clear hk5
  have P6 := P5
  have C6 := hid (IN _ _ _ _ _ _ _ _ _ _ P6.out.dt (by omega) (by omega) (by omega))
  go_wp2_with (first | (go_at_call 197; (first | ((with_reducible refine C6.out.mono ?_); rintro e w7 ⟨kt, rfl, hT, hk, hS⟩; have HK := hid hk; clear hk; have P7 := hid (P6.out.step any_stable hT hS); clear hT hS; obtain ⟨⟨d0, d1, d2, d3, d4, d5, d6, d7⟩, df, dl⟩ := cells8 (P7.out.bx _ List.mem_cons_self).1; have P8 : Hid (DP _ g _ _ _ _ _ _ _ _ [(W3.heap.size, #[.int .i64 6, .int .i64 0, .bool false, .string ⟨#[]⟩, .slice none 0 0, .int .i64 (-1), .int .i64 (kt : Int), .slice none 0 0], 149)] _ _ _ _ _ _) := hid (P7.out.set any_stable (by simp) (by decide : 6 < 8) (.int .i64 (kt : Int))); have C8 := hid (dlay_leaf 6 0 false [] (-1) (kt : Int) _ P8.out.dt.bareV.bare (by omega))))) | (go_at_call 198; (first | (refine C8.out.mono ?_; rintro e w9 ⟨k6, rfl, hT, hk, hS⟩))))
  go_ret
  refine PostY.of hT (fun q => (a, TA.rest q.2)) (by rw [PR.bind_ok, HT.out]; simp only [PR.bind_assoc, PR.bind_ok]) (fun q l' e => ?_) (by omega) (by omega) (by omega) (by omega) (by omega) ((HS4.out.trans P8.out.st).trans hS)
  rw [hk q l' e, HK.out q l' e]
  exact ⟨rfl, rfl⟩
set_option maxHeartbeats 4000000 in
set_option maxRecDepth 100000 in
theorem dkind_tail {n : Nat} {β : Type} {a : β} {l : List Tok} {F : β → FM} {X : Nat → Prop} {g m b c d : Nat} (w : World) (h : DT X g m b c d w (.ok a l : PR β) F) (hn : 8 * m + 4 ≤ n + 1) (hbc : b + 16 * (n + 1) + 16 ≤ c) (hc8 : c ≤ 8000000) (h0 : (hd l).tk.t = kTail) :
    Calls Tryz.prog 153 #[.pointer (some ⟨g, 0, none⟩)] w (PostY X g (m - 1) b c d w (.ok a l : PR β) F (typP (n + 1) d)) := by
  have hg := h.lt
  obtain ⟨hD, hlm, hd32, hbc', hc9⟩ := h
  have hw := hD.wf
  have hp := hw.pos
  have hb3 : 3 ≤ b := by have := hD.pot; omega
  have hbt : begT l = true := begT_word h0 (by decide)
  have hnm : isName l = false := name_word h0 (by decide)
  have hwt : WF l.tail := hw.isT (g := kTail) (by rw [isT_of h0]; decide) (by decide)
  have HT := hid (typ_kTail (n := n) (d := d) h0)
  obtain ⟨t, ht⟩ : ∃ t, (hd l).tk.t = t := ⟨_, rfl⟩
  have b0 : ((bs t).toList == [98, 121, 116, 101, 115]) = false := (beq_l t _).trans (decide_eq_false (by rw [← ht, h0]; decide))
  have b1 : ((bs t).toList == [122, 101, 114, 111]) = false := (beq_l t _).trans (decide_eq_false (by rw [← ht, h0]; decide))
  have b2 : ((bs t).toList == [115, 107, 105, 112]) = false := (beq_l t _).trans (decide_eq_false (by rw [← ht, h0]; decide))
  have b3 : ((bs t).toList == [119, 105, 110, 100, 111, 119]) = false := (beq_l t _).trans (decide_eq_false (by rw [← ht, h0]; decide))
  have b4 : ((bs t).toList == [97, 116]) = false := (beq_l t _).trans (decide_eq_false (by rw [← ht, h0]; decide))
  have b5 : ((bs t).toList == [114, 101, 115, 116]) = false := (beq_l t _).trans (decide_eq_false (by rw [← ht, h0]; decide))
  have b6 : ((bs t).toList == [116, 97, 105, 108]) = true := (beq_l t _).trans (decide_eq_true (by rw [← ht, h0]; rfl))
  have b7 : ((bs t).toList == [110, 111, 110, 101]) = false := (beq_l t _).trans (decide_eq_false (by rw [← ht, h0]; decide))
  have b8 : ((bs t).toList == [115, 119, 105, 116, 99, 104]) = false := (beq_l t _).trans (decide_eq_false (by rw [← ht, h0]; decide))
  have htl : l.tail.length = l.length - 1 := List.length_tail
  have HNM := hid (dnamed_any w hD)
  rw [hnm] at HNM
  have HTY : Hid (∀ w1, DInv X g b w1 l 0 (d : Int) (F a) → Calls Tryz.prog 195 #[.pointer (some ⟨g, 0, none⟩)] w1 fun e' w' => e' = .returned (.bool true) ∧ Below w1.heap.size w1 w') := hid fun w1 h1 => by
    have := dtyped_any w1 h1
    rw [hbt] at this
    exact this
  obtain ⟨i, nn, kk, cp, q0, q1, q2, q7, qf, -⟩ := hD.look
  have HD := hid hD
  clear hD hnm hbt
  go_enter Tryz.func153, Tryz.ntmps153
  go_wp2_with (first | (go_at_call 103; go_must (refine HNM.out.mono ?_; rintro e w1 ⟨rfl, hb1⟩; have H1 := hid (HD.out.below hb1); have C1 := hid (HTY.out w1 H1.out); have HS1 : Hid (St layD g w w1) := hid (St.below hg hb1); clear hb1)) | (go_at_call 195; go_must (refine C1.out.mono ?_; rintro e w2 ⟨rfl, hb2⟩; have H2 := hid (H1.out.below hb2); have HS2 := hid (HS1.out.trans (St.below H1.out.lt hb2)); clear hb2 q0 q1 q2 q7 qf; obtain ⟨i, nn, kk, cp, q0, q1, q2, q7, qf, qi, qc, qm, qkg, qkl, t0, t1, t2, t3, t4⟩ := H2.out.look; rw [ht] at t1; unfold maxLen at qm; have qin : (i : Int) < (nn : Int) := (by omega))))
  go_quiet (fail)
  generalize hW : World.drewN _ _ = W3
  have hB3 : Below w2.heap.size w2 W3 := by rw [← hW]; exact below_drewN _ _ _
  have H3 := H2.out.below hB3
  have HS3 := hid (HS2.out.trans (St.below H2.out.lt hB3))
  clear q0 q1 q2 q7 qf qi qc qm qkg qkl t0 t1 t2 t3 t4 qin hW hB3
  obtain ⟨i, nn, kk, cp, q0, q1, q2, q7, qf, qi, qc, qm, -⟩ := H3.look
  unfold maxLen at qm
  have hi1 : IntKind.i64.wrap ((i : Int) + 1) = (i : Int) + 1 := IntWalk.i64_in _ (by omega)
  have HN := H3.next hwt q1
  have HS4 := hid (HS3.out.trans HN.2)
  have H4 : Hid (DT X g (m - 1) (b - 3) (c - 1) d (W3.setCell ⟨g, 1, none⟩ (.int .i64 ((i : Int) + 1))) (.ok () l.tail : PR Unit) (fun _ => F a)) := hid ⟨HN.1, by omega, hd32, by omega, by omega⟩
  have P5 := hid (H4.out.startH #[.int .i64 4, .int .i64 0, .bool false, .string ⟨#[]⟩, .slice none 0 0, .int .i64 (-1), .int .i64 (-1), .slice none 0 0] 149 168 2 (by decide) W3.heap.size (by simp [World.setCell]))
  have hk5 := (P5.out.bx _ List.mem_cons_self).1
  clear H3 HN
  have P6 := P5
  obtain ⟨⟨d0, d1, d2, d3, d4, d5, d6, d7⟩, df, dl⟩ := cells8 hk5
  clear hk5
  have C6 := hid (dlay_leaf 4 0 false [] (-1) (-1) _ P6.out.dt.bareV.bare (by omega))
  go_wp2_with (first | (go_at_call 198; (first | (refine C6.out.mono ?_; rintro e w7 ⟨k6, rfl, hT, hk, hS⟩))))
  go_ret
  refine PostY.of hT (fun q => (a, TA.leaf 4)) (by rw [PR.bind_ok, HT.out]; rfl) (fun q l' e => ?_) (by omega) (by omega) (by omega) (by omega) (by omega) ((HS4.out.trans P6.out.st).trans hS)
  rw [hk q l' e]
  exact ⟨rfl, rfl⟩
set_option maxHeartbeats 4000000 in
set_option maxRecDepth 100000 in
theorem dkind_none {n : Nat} {β : Type} {a : β} {l : List Tok} {F : β → FM} {X : Nat → Prop} {g m b c d : Nat} (w : World) (h : DT X g m b c d w (.ok a l : PR β) F) (hn : 8 * m + 4 ≤ n + 1) (hbc : b + 16 * (n + 1) + 16 ≤ c) (hc8 : c ≤ 8000000) (h0 : (hd l).tk.t = kNone) :
    Calls Tryz.prog 153 #[.pointer (some ⟨g, 0, none⟩)] w (PostY X g (m - 1) b c d w (.ok a l : PR β) F (typP (n + 1) d)) := by
  have hg := h.lt
  obtain ⟨hD, hlm, hd32, hbc', hc9⟩ := h
  have hw := hD.wf
  have hp := hw.pos
  have hb3 : 3 ≤ b := by have := hD.pot; omega
  have hbt : begT l = true := begT_word h0 (by decide)
  have hnm : isName l = false := name_word h0 (by decide)
  have hwt : WF l.tail := hw.isT (g := kNone) (by rw [isT_of h0]; decide) (by decide)
  have HT := hid (typ_kNone (n := n) (d := d) h0)
  obtain ⟨t, ht⟩ : ∃ t, (hd l).tk.t = t := ⟨_, rfl⟩
  have b0 : ((bs t).toList == [98, 121, 116, 101, 115]) = false := (beq_l t _).trans (decide_eq_false (by rw [← ht, h0]; decide))
  have b1 : ((bs t).toList == [122, 101, 114, 111]) = false := (beq_l t _).trans (decide_eq_false (by rw [← ht, h0]; decide))
  have b2 : ((bs t).toList == [115, 107, 105, 112]) = false := (beq_l t _).trans (decide_eq_false (by rw [← ht, h0]; decide))
  have b3 : ((bs t).toList == [119, 105, 110, 100, 111, 119]) = false := (beq_l t _).trans (decide_eq_false (by rw [← ht, h0]; decide))
  have b4 : ((bs t).toList == [97, 116]) = false := (beq_l t _).trans (decide_eq_false (by rw [← ht, h0]; decide))
  have b5 : ((bs t).toList == [114, 101, 115, 116]) = false := (beq_l t _).trans (decide_eq_false (by rw [← ht, h0]; decide))
  have b6 : ((bs t).toList == [116, 97, 105, 108]) = false := (beq_l t _).trans (decide_eq_false (by rw [← ht, h0]; decide))
  have b7 : ((bs t).toList == [110, 111, 110, 101]) = true := (beq_l t _).trans (decide_eq_true (by rw [← ht, h0]; rfl))
  have b8 : ((bs t).toList == [115, 119, 105, 116, 99, 104]) = false := (beq_l t _).trans (decide_eq_false (by rw [← ht, h0]; decide))
  have htl : l.tail.length = l.length - 1 := List.length_tail
  have HNM := hid (dnamed_any w hD)
  rw [hnm] at HNM
  have HTY : Hid (∀ w1, DInv X g b w1 l 0 (d : Int) (F a) → Calls Tryz.prog 195 #[.pointer (some ⟨g, 0, none⟩)] w1 fun e' w' => e' = .returned (.bool true) ∧ Below w1.heap.size w1 w') := hid fun w1 h1 => by
    have := dtyped_any w1 h1
    rw [hbt] at this
    exact this
  obtain ⟨i, nn, kk, cp, q0, q1, q2, q7, qf, -⟩ := hD.look
  have HD := hid hD
  clear hD hnm hbt
  go_enter Tryz.func153, Tryz.ntmps153
  go_wp2_with (first | (go_at_call 103; go_must (refine HNM.out.mono ?_; rintro e w1 ⟨rfl, hb1⟩; have H1 := hid (HD.out.below hb1); have C1 := hid (HTY.out w1 H1.out); have HS1 : Hid (St layD g w w1) := hid (St.below hg hb1); clear hb1)) | (go_at_call 195; go_must (refine C1.out.mono ?_; rintro e w2 ⟨rfl, hb2⟩; have H2 := hid (H1.out.below hb2); have HS2 := hid (HS1.out.trans (St.below H1.out.lt hb2)); clear hb2 q0 q1 q2 q7 qf; obtain ⟨i, nn, kk, cp, q0, q1, q2, q7, qf, qi, qc, qm, qkg, qkl, t0, t1, t2, t3, t4⟩ := H2.out.look; rw [ht] at t1; unfold maxLen at qm; have qin : (i : Int) < (nn : Int) := (by omega))))
  go_quiet (fail)
  generalize hW : World.drewN _ _ = W3
  have hB3 : Below w2.heap.size w2 W3 := by rw [← hW]; exact below_drewN _ _ _
  have H3 := H2.out.below hB3
  have HS3 := hid (HS2.out.trans (St.below H2.out.lt hB3))
  clear q0 q1 q2 q7 qf qi qc qm qkg qkl t0 t1 t2 t3 t4 qin hW hB3
  obtain ⟨i, nn, kk, cp, q0, q1, q2, q7, qf, qi, qc, qm, -⟩ := H3.look
  unfold maxLen at qm
  have hi1 : IntKind.i64.wrap ((i : Int) + 1) = (i : Int) + 1 := IntWalk.i64_in _ (by omega)
  have HN := H3.next hwt q1
  have HS4 := hid (HS3.out.trans HN.2)
  have H4 : Hid (DT X g (m - 1) (b - 3) (c - 1) d (W3.setCell ⟨g, 1, none⟩ (.int .i64 ((i : Int) + 1))) (.ok () l.tail : PR Unit) (fun _ => F a)) := hid ⟨HN.1, by omega, hd32, by omega, by omega⟩
  have P5 := hid (H4.out.startH #[.int .i64 11, .int .i64 0, .bool false, .string ⟨#[]⟩, .slice none 0 0, .int .i64 (-1), .int .i64 (-1), .slice none 0 0] 149 168 2 (by decide) W3.heap.size (by simp [World.setCell]))
  have hk5 := (P5.out.bx _ List.mem_cons_self).1
  clear H3 HN
  have P6 := P5
  obtain ⟨⟨d0, d1, d2, d3, d4, d5, d6, d7⟩, df, dl⟩ := cells8 hk5
  clear hk5
  have C6 := hid (dlay_leaf 11 0 false [] (-1) (-1) _ P6.out.dt.bareV.bare (by omega))
  go_wp2_with (first | (go_at_call 198; (first | (refine C6.out.mono ?_; rintro e w7 ⟨k6, rfl, hT, hk, hS⟩))))
  go_ret
  refine PostY.of hT (fun q => (a, TA.leaf 11)) (by rw [PR.bind_ok, HT.out]; rfl) (fun q l' e => ?_) (by omega) (by omega) (by omega) (by omega) (by omega) ((HS4.out.trans P6.out.st).trans hS)
  rw [hk q l' e]
  exact ⟨rfl, rfl⟩
set_option maxHeartbeats 4000000 in
set_option maxRecDepth 100000 in
theorem dkind_switch {n : Nat} {β : Type} {a : β} {l : List Tok} {F : β → FM} {X : Nat → Prop} {g m b c d : Nat} (w : World) (h : DT X g m b c d w (.ok a l : PR β) F) (hn : 8 * m + 4 ≤ n + 1) (hbc : b + 16 * (n + 1) + 16 ≤ c) (hc8 : c ≤ 8000000) (IS : DS n) (h0 : (hd l).tk.t = kSwitch) :
    Calls Tryz.prog 153 #[.pointer (some ⟨g, 0, none⟩)] w (PostY X g (m - 1) b c d w (.ok a l : PR β) F (typP (n + 1) d)) := by
  have hg := h.lt
  obtain ⟨hD, hlm, hd32, hbc', hc9⟩ := h
  have hw := hD.wf
  have hp := hw.pos
  have hb3 : 3 ≤ b := by have := hD.pot; omega
  have hbt : begT l = true := begT_word h0 (by decide)
  have hnm : isName l = false := name_word h0 (by decide)
  have hwt : WF l.tail := hw.isT (g := kSwitch) (by rw [isT_of h0]; decide) (by decide)
  have HT := hid (typ_kSwitch (n := n) (d := d) h0)
  obtain ⟨t, ht⟩ : ∃ t, (hd l).tk.t = t := ⟨_, rfl⟩
  have b0 : ((bs t).toList == [98, 121, 116, 101, 115]) = false := (beq_l t _).trans (decide_eq_false (by rw [← ht, h0]; decide))
  have b1 : ((bs t).toList == [122, 101, 114, 111]) = false := (beq_l t _).trans (decide_eq_false (by rw [← ht, h0]; decide))
  have b2 : ((bs t).toList == [115, 107, 105, 112]) = false := (beq_l t _).trans (decide_eq_false (by rw [← ht, h0]; decide))
  have b3 : ((bs t).toList == [119, 105, 110, 100, 111, 119]) = false := (beq_l t _).trans (decide_eq_false (by rw [← ht, h0]; decide))
  have b4 : ((bs t).toList == [97, 116]) = false := (beq_l t _).trans (decide_eq_false (by rw [← ht, h0]; decide))
  have b5 : ((bs t).toList == [114, 101, 115, 116]) = false := (beq_l t _).trans (decide_eq_false (by rw [← ht, h0]; decide))
  have b6 : ((bs t).toList == [116, 97, 105, 108]) = false := (beq_l t _).trans (decide_eq_false (by rw [← ht, h0]; decide))
  have b7 : ((bs t).toList == [110, 111, 110, 101]) = false := (beq_l t _).trans (decide_eq_false (by rw [← ht, h0]; decide))
  have b8 : ((bs t).toList == [115, 119, 105, 116, 99, 104]) = true := (beq_l t _).trans (decide_eq_true (by rw [← ht, h0]; rfl))
  have htl : l.tail.length = l.length - 1 := List.length_tail
  have HNM := hid (dnamed_any w hD)
  rw [hnm] at HNM
  have HTY : Hid (∀ w1, DInv X g b w1 l 0 (d : Int) (F a) → Calls Tryz.prog 195 #[.pointer (some ⟨g, 0, none⟩)] w1 fun e' w' => e' = .returned (.bool true) ∧ Below w1.heap.size w1 w') := hid fun w1 h1 => by
    have := dtyped_any w1 h1
    rw [hbt] at this
    exact this
  obtain ⟨i, nn, kk, cp, q0, q1, q2, q7, qf, -⟩ := hD.look
  have HD := hid hD
  clear hD hnm hbt
  go_enter Tryz.func153, Tryz.ntmps153
  go_wp2_with (first | (go_at_call 103; go_must (refine HNM.out.mono ?_; rintro e w1 ⟨rfl, hb1⟩; have H1 := hid (HD.out.below hb1); have C1 := hid (HTY.out w1 H1.out); have HS1 : Hid (St layD g w w1) := hid (St.below hg hb1); clear hb1)) | (go_at_call 195; go_must (refine C1.out.mono ?_; rintro e w2 ⟨rfl, hb2⟩; have H2 := hid (H1.out.below hb2); have HS2 := hid (HS1.out.trans (St.below H1.out.lt hb2)); clear hb2 q0 q1 q2 q7 qf; obtain ⟨i, nn, kk, cp, q0, q1, q2, q7, qf, qi, qc, qm, qkg, qkl, t0, t1, t2, t3, t4⟩ := H2.out.look; rw [ht] at t1; unfold maxLen at qm; have qin : (i : Int) < (nn : Int) := (by omega))))
  go_quiet (fail)
  generalize hW : World.drewN _ _ = W3
  have hB3 : Below w2.heap.size w2 W3 := by rw [← hW]; exact below_drewN _ _ _
  have H3 := H2.out.below hB3
  have HS3 := hid (HS2.out.trans (St.below H2.out.lt hB3))
  clear q0 q1 q2 q7 qf qi qc qm qkg qkl t0 t1 t2 t3 t4 qin hW hB3
  obtain ⟨i, nn, kk, cp, q0, q1, q2, q7, qf, qi, qc, qm, -⟩ := H3.look
  unfold maxLen at qm
  have hi1 : IntKind.i64.wrap ((i : Int) + 1) = (i : Int) + 1 := IntWalk.i64_in _ (by omega)
  have HN := H3.next hwt q1
  have HS4 := hid (HS3.out.trans HN.2)
  have H4 : Hid (DT X g (m - 1) (b - 3) (c - 1) d (W3.setCell ⟨g, 1, none⟩ (.int .i64 ((i : Int) + 1))) (.ok () l.tail : PR Unit) (fun _ => F a)) := hid ⟨HN.1, by omega, hd32, by omega, by omega⟩
  have P5 := hid (H4.out.startH #[.int .i64 0, .int .i64 0, .bool false, .string ⟨#[]⟩, .slice none 0 0, .int .i64 (-1), .int .i64 (-1), .slice none 0 0] 149 168 2 (by decide) W3.heap.size (by simp [World.setCell]))
  have hk5 := (P5.out.bx _ List.mem_cons_self).1
  clear H3 HN
  clear hk5
  have C5 := hid (IS _ _ _ _ _ _ _ _ _ _ _ P5.out.dt (by omega) (by omega) (by omega))
  go_wp2_with (first | (go_at_call 199; (first | (refine C5.out.mono ?_; rintro e w6 ⟨k6, rfl, hT, hk, hS⟩))))
  go_ret
  refine PostY.of hT.bareV.bare (fun q => (a, q.2)) (by rw [PR.bind_ok, HT.out]; simp only [PR.bind_assoc, PR.bind_ok]) (fun q l' e => ?_) (by omega) (by omega) (by omega) (by omega) (by omega) ((HS4.out.trans P5.out.st).trans hS)
  rw [hk q l' e]
  exact ⟨rfl, rfl⟩
set_option maxHeartbeats 4000000 in
set_option maxRecDepth 100000 in
theorem dkind_int {n : Nat} {β : Type} {a : β} {l : List Tok} {F : β → FM} {X : Nat → Prop} {g m b c d : Nat} (w : World) (h : DT X g m b c d w (.ok a l : PR β) F) (hn : 8 * m + 4 ≤ n + 1) (hbc : b + 16 * (n + 1) + 16 ≤ c) (hc8 : c ≤ 8000000) {z : Nat} {li : Bool} (h0 : intW (hd l).tk.t = some (z, li)) :
    Calls Tryz.prog 153 #[.pointer (some ⟨g, 0, none⟩)] w (PostY X g (m - 1) b c d w (.ok a l : PR β) F (typP (n + 1) d)) := by
  have hg := h.lt
  obtain ⟨hD, hlm, hd32, hbc', hc9⟩ := h
  have hw := hD.wf
  have hp := hw.pos
  have hb3 : 3 ≤ b := by have := hD.pot; omega
  have hbt : begT l = true := int_begT h0
  have hnm : isName l = false := int_name h0
  have hwt : WF l.tail := hw.tailT (intW_ne h0)
  have hR : (typP (n + 1) d l).bind (fun y l => .ok (a, y) l) = (.ok (a, TA.int z li) l.tail : PR (β × TA)).bind fun p l => arrP n d p l := by
    have := arr_eq (n := n) (d := d) a (.ok (TA.int z li) l.tail)
    rw [typ_elem hbt (int_word h0), elemP, singleP, h0]
    exact this.symm
  have HR := hid hR
  obtain ⟨t, ht⟩ : ∃ t, (hd l).tk.t = t := ⟨_, rfl⟩
  have HI : Hid (∀ w, Calls Tryz.prog 120 #[.string (bs t)] w fun e w' => e = .returned (.tuple #[.int .i64 (z : Int), .bool li]) ∧ Below w.heap.size w w') := hid fun w => by
    have := refInteger_any t w
    rw [← ht, h0] at this
    rw [← ht]
    exact this
  have b0 : ((bs t).toList == [98, 121, 116, 101, 115]) = false := (beq_l t _).trans (decide_eq_false (by rw [← ht]; exact int_word h0 kBytes (by decide)))
  have b1 : ((bs t).toList == [122, 101, 114, 111]) = false := (beq_l t _).trans (decide_eq_false (by rw [← ht]; exact int_word h0 kZero (by decide)))
  have b2 : ((bs t).toList == [115, 107, 105, 112]) = false := (beq_l t _).trans (decide_eq_false (by rw [← ht]; exact int_word h0 kSkip (by decide)))
  have b3 : ((bs t).toList == [119, 105, 110, 100, 111, 119]) = false := (beq_l t _).trans (decide_eq_false (by rw [← ht]; exact int_word h0 kWindow (by decide)))
  have b4 : ((bs t).toList == [97, 116]) = false := (beq_l t _).trans (decide_eq_false (by rw [← ht]; exact int_word h0 kAt (by decide)))
  have b5 : ((bs t).toList == [114, 101, 115, 116]) = false := (beq_l t _).trans (decide_eq_false (by rw [← ht]; exact int_word h0 kRest (by decide)))
  have b6 : ((bs t).toList == [116, 97, 105, 108]) = false := (beq_l t _).trans (decide_eq_false (by rw [← ht]; exact int_word h0 kTail (by decide)))
  have b7 : ((bs t).toList == [110, 111, 110, 101]) = false := (beq_l t _).trans (decide_eq_false (by rw [← ht]; exact int_word h0 kNone (by decide)))
  have b8 : ((bs t).toList == [115, 119, 105, 116, 99, 104]) = false := (beq_l t _).trans (decide_eq_false (by rw [← ht]; exact int_word h0 kSwitch (by decide)))
  clear hR
  have htl : l.tail.length = l.length - 1 := List.length_tail
  have HNM := hid (dnamed_any w hD)
  rw [hnm] at HNM
  have HTY : Hid (∀ w1, DInv X g b w1 l 0 (d : Int) (F a) → Calls Tryz.prog 195 #[.pointer (some ⟨g, 0, none⟩)] w1 fun e' w' => e' = .returned (.bool true) ∧ Below w1.heap.size w1 w') := hid fun w1 h1 => by
    have := dtyped_any w1 h1
    rw [hbt] at this
    exact this
  obtain ⟨i, nn, kk, cp, q0, q1, q2, q7, qf, -⟩ := hD.look
  have HD := hid hD
  clear hD hnm hbt
  go_enter Tryz.func153, Tryz.ntmps153
  go_wp2_with (first | (go_at_call 103; go_must (refine HNM.out.mono ?_; rintro e w1 ⟨rfl, hb1⟩; have H1 := hid (HD.out.below hb1); have C1 := hid (HTY.out w1 H1.out); have HS1 : Hid (St layD g w w1) := hid (St.below hg hb1); clear hb1)) | (go_at_call 195; go_must (refine C1.out.mono ?_; rintro e w2 ⟨rfl, hb2⟩; have H2 := hid (H1.out.below hb2); have HS2 := hid (HS1.out.trans (St.below H1.out.lt hb2)); clear hb2 q0 q1 q2 q7 qf; obtain ⟨i, nn, kk, cp, q0, q1, q2, q7, qf, qi, qc, qm, qkg, qkl, t0, t1, t2, t3, t4⟩ := H2.out.look; rw [ht] at t1; unfold maxLen at qm; have qin : (i : Int) < (nn : Int) := (by omega))))
  go_quiet (fail)
  generalize hW : World.drewN _ _ = W3
  have hB3 : Below w2.heap.size w2 W3 := by rw [← hW]; exact below_drewN _ _ _
  have H3 := H2.out.below hB3
  have HS3 := hid (HS2.out.trans (St.below H2.out.lt hB3))
  clear q0 q1 q2 q7 qf qi qc qm qkg qkl t0 t1 t2 t3 t4 qin hW hB3
  obtain ⟨i, nn, kk, cp, q0, q1, q2, q7, qf, qi, qc, qm, -⟩ := H3.look
  unfold maxLen at qm
  have hi1 : IntKind.i64.wrap ((i : Int) + 1) = (i : Int) + 1 := IntWalk.i64_in _ (by omega)
  have HN := H3.next hwt q1
  have HS4 := hid (HS3.out.trans HN.2)
  have H4 : Hid (DT X g (m - 1) (b - 3) (c - 1) d (W3.setCell ⟨g, 1, none⟩ (.int .i64 ((i : Int) + 1))) (.ok () l.tail : PR Unit) (fun _ => F a)) := hid ⟨HN.1, by omega, hd32, by omega, by omega⟩
  have P5 := hid (H4.out.startH #[.int .i64 0, .int .i64 0, .bool false, .string ⟨#[]⟩, .slice none 0 0, .int .i64 (-1), .int .i64 (-1), .slice none 0 0] 149 168 2 (by decide) W3.heap.size (by simp [World.setCell]))
  have hk5 := (P5.out.bx _ List.mem_cons_self).1
  clear H3 HN
  clear hk5
  have hn5 : 8 * (m - 1) + 2 ≤ n := by omega
  have hb5 : b - 3 + 16 * n + 9 ≤ c - 1 := by omega
  have hc5 : c - 1 + 1 ≤ 8000000 := by omega
  go_wp2_with (first | (go_at_call 120; (first | (refine (HI.out _).mono ?_; rintro e w6 ⟨rfl, hb6⟩; have P6 := hid (P5.out.below any_stable hb6); clear hb6; obtain ⟨⟨d0, d1, d2, d3, d4, d5, d6, d7⟩, df, dl⟩ := cells8 (P6.out.bx _ List.mem_cons_self).1; have P7 : Hid (DP _ g _ _ _ _ _ _ _ _ [(W3.heap.size, #[.int .i64 0, .int .i64 (z : Int), .bool false, .string ⟨#[]⟩, .slice none 0 0, .int .i64 (-1), .int .i64 (-1), .slice none 0 0], 149)] _ _ _ _ _ _) := hid (P6.out.set any_stable (by simp) (by decide : 1 < 8) (.int .i64 (z : Int))); have P8 : Hid (DP _ g _ _ _ _ _ _ _ _ [(W3.heap.size, #[.int .i64 0, .int .i64 (z : Int), .bool li, .string ⟨#[]⟩, .slice none 0 0, .int .i64 (-1), .int .i64 (-1), .slice none 0 0], 149)] _ _ _ _ _ _) := hid (P7.out.set any_stable (by simp) (by decide : 2 < 8) (.bool li)); have C8 := hid (darray_any (β := β) (r := .ok (a, TA.int z li) l.tail) (F := F) (dbracket_any (dexpr_any n)) ⟨0, z, li, [], [], -1, -1, []⟩ _ _ _ _ _ _ _ _ _ (DT.map P8.out.dt.bareV.bare (fun _ => (a, TA.int z li)) rfl fun _ _ _ => rfl) ⟨.slice none 0 0, .slice none 0 0, rfl, World.ownsRow_nil _ _ _ _, Nest.none _ _ _, World.ownsRow_nil _ _ _ _, Nest.none _ _ _⟩ (fun p l' e => (by cases e; rfl)) hn5 hb5 hc5)))) | (go_at_call 194; (first | (refine C8.out.mono ?_; rintro e w9 ⟨k6, rfl, hT, hk, hS⟩))))
  go_ret
  refine PostY.of hT (fun p => p) (by rw [PR.bind_ok, HR.out, bind_id]) (fun p l' e => ⟨rfl, hk p l' e⟩) (by omega) (by omega) (by omega) (by omega) (by omega) ((HS4.out.trans P8.out.st).trans hS)
theorem dkind_step {n : Nat} (IN : DN n) (IS : DS n) : DK (n + 1) := by
  intro β r F X g m b c d w h hn hbc hc8
  cases r with
  | bad l x => exact dkind_fail w h
  | ok a l =>
    cases hnm : isName l
    · cases hbt : begT l
      · exact dkind_no w h hn hbc hc8 hnm hbt
      · rcases begT_cases hbt hnm with ⟨u, hu, h0⟩ | ⟨⟨z, li⟩, h0⟩
        · simp only [tyW, List.mem_cons, List.mem_nil_iff, or_false] at hu
          rcases hu with rfl | rfl | rfl | rfl | rfl | rfl | rfl | rfl | rfl
          · exact dkind_bytes w h hn hbc hc8 h0
          · exact dkind_zero w h hn hbc hc8 h0
          · exact dkind_skip w h hn hbc hc8 h0
          · exact dkind_window w h hn hbc hc8 IN h0
          · exact dkind_at w h hn hbc hc8 IN h0
          · exact dkind_rest w h hn hbc hc8 IN h0
          · exact dkind_tail w h hn hbc hc8 h0
          · exact dkind_none w h hn hbc hc8 h0
          · exact dkind_switch w h hn hbc hc8 IS h0
        · exact dkind_int w h hn hbc hc8 h0
    · exact dkind_name w h hn hbc hc8 hnm
theorem dtypes_all : ∀ n, ∀ j, j ≤ n → DK j ∧ DN j ∧ DS j := by
  intro n
  induction n with
  | zero =>
    intro j hj
    obtain rfl : j = 0 := by omega
    exact ⟨fun β r F X g m b c d w h hn => absurd hn (by omega), fun β r F X g m b c d w h hn => absurd hn (by omega), fun β a l F X g m b c d w h hn => absurd hn (by omega)⟩
  | succ n ih =>
    intro j hj
    by_cases h : j ≤ n
    · exact ih j h
    · obtain rfl : j = n + 1 := by omega
      obtain ⟨i1, i2, i3⟩ := ih n (Nat.le_refl _)
      refine ⟨dkind_step i2 i3, dinner_step i1, ?_⟩
      cases n with
      | zero => exact fun β a l F X g m b c d w h hn => absurd hn (by omega)
      | succ n => exact dchoice_step fun j hj => (ih j (by omega)).2.1
theorem dkind_any (n : Nat) : DK n := (dtypes_all n n (Nat.le_refl _)).1
end Go.Proofs.YthcdohggffpopaaGreatDoor
