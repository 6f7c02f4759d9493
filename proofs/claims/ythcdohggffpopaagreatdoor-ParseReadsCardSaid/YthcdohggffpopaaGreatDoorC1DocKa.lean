/- Layer 7: the document's parser: packs, first. -/
import Derived.Test.YthcdohggffpopaaGreatDoorC1DocJ
import Derived.Deep.RegionHeld3
import Derived.Deep.RegionWith
namespace Go.Proofs.YthcdohggffpopaaGreatDoor
open Go.Lib (hid)
open Go.ChangeShapes Go.WideShapes Go.ChangeAt Go.RowKit
theorem name_brace {l : List Tok} (hw : WF l) (h : isName l = true) : isT sRc l = false := by
  have h0 := name_ne h
  rcases hw.cases with ⟨h1, _⟩ | ⟨h1, _⟩
  · rw [h1] at h0; cases h0
  · exact decide_eq_false (h1.br h0)
def subsQ (j : Nat) (q : Bool) (ss : List (List UInt8 × Nat)) (l : List Tok) : PR (List (List UInt8 × Nat)) := if q = true then (if isName l = true then roomP ss.length l else .ok () l).bind fun _ l1 => (subP l1).bind fun x l2 => subsL j (ss ++ [x]) l2 else (need sRc l).bind fun _ l1 => .ok ss l1
theorem subs_step {j : Nat} {ss : List (List UInt8 × Nat)} {l : List Tok} (hw : WF l) : subsL (j + 1) ss l = subsQ j (isName l) ss l := by
  rw [subsL]
  unfold subsQ
  cases hn : isName l
  · rw [if_neg (by decide : ¬ false = true)]
    unfold need
    split
    · rfl
    · rfl
  · rw [if_neg (by rw [name_brace hw hn]; decide), if_pos rfl, if_pos rfl]
    unfold expectP
    rw [if_pos rfl, PR.bind_ok]
    exact bind_same rfl fun _ l1 e => by
      obtain ⟨rfl, _⟩ := room_same e
      rfl
theorem pack_eq {n z : Nat} {li : Bool} {l : List Tok} (h : intW (hd l).tk.t = some (z, li)) : packP n l = (need sLc l.tail).bind fun _ l1 => (subsQ n true [] l1).bind fun ss l3 => .ok (.pack z li ss) l3 := by
  unfold packP
  rw [h]
  refine bind_same rfl fun _ l1 _ => ?_
  unfold subsQ
  rw [if_pos rfl]
  have e0 : (if isName l1 = true then roomP ([] : List (List UInt8 × Nat)).length l1 else .ok () l1) = .ok () l1 := by split <;> rfl
  rw [e0, PR.bind_ok, PR.bind_assoc]
  rfl
def subD (ss : List (List UInt8 × Nat)) (l : List Tok) : PR ((List (List UInt8 × Nat) × List UInt8) × Nat) :=
  ((((((if isName l = true then roomP ss.length l else .ok () l).bind fun _ l => .ok ss l).bind fun a l => (nameP l).bind fun y l => .ok (a, y) l).bind fun a l => (need sColon l).bind fun _ l => .ok a l).bind fun a l => (numP l).bind fun y l => .ok (a, y) l).bind fun a l => (need sSemi l).bind fun _ l => .ok a l)
def subJ (q : (List (List UInt8 × Nat) × List UInt8) × Nat) : List (List UInt8 × Nat) := q.1.1 ++ [(q.1.2, min q.2 1048576)]
theorem subs_chain (j : Nat) (ss : List (List UInt8 × Nat)) (l : List Tok) : subsQ j true ss l = (subD ss l).bind fun q l => subsL j (subJ q) l := by
  unfold subsQ subD subP subJ
  rw [if_pos rfl]
  simp only [PR.bind_assoc, PR.bind_ok]
theorem subs_next {j : Nat} {r5 : PR ((List (List UInt8 × Nat) × List UInt8) × Nat)} {q : Bool} (hw : ∀ p l, r5 = .ok p l → WF l) (hq : isName r5.rest = q) : (r5.bind fun q l => subsL (j + 1) (subJ q) l) = (r5.bind fun q l => .ok (subJ q) l).bind fun ss l => subsQ j q ss l := by
  cases r5 with
  | bad l x => rfl
  | ok p l =>
    rw [PR.bind_ok, PR.bind_ok, PR.bind_ok, ← hq]
    exact subs_step (hw p l rfl)
theorem packS_keep {g kk i nn cp : Nat} {t : List UInt8} {W w w' : World} (h0 : w.cell? ⟨g, 0, none⟩ = some (.slice (some ⟨kk, 0, none⟩) nn cp)) (h1 : w.cell? ⟨g, 1, none⟩ = some (.int .i64 (i : Int))) (h2 : w.cell? ⟨kk, i * 5 + 1, none⟩ = some (.string (bs t))) (h3 : g < w.heap.size) (h4 : kk < w.heap.size) (h5 : Below W.heap.size W w) (hb : Below w.heap.size w w') :
    w'.cell? ⟨g, 0, none⟩ = some (.slice (some ⟨kk, 0, none⟩) nn cp) ∧ w'.cell? ⟨g, 1, none⟩ = some (.int .i64 (i : Int)) ∧ w'.cell? ⟨kk, i * 5 + 1, none⟩ = some (.string (bs t)) ∧ g < w'.heap.size ∧ kk < w'.heap.size ∧ Below W.heap.size W w' :=
  ⟨(hb.cell (p := ⟨g, 0, none⟩) h3).trans h0, (hb.cell (p := ⟨g, 1, none⟩) h3).trans h1, (hb.cell (p := ⟨kk, i * 5 + 1, none⟩) h4).trans h2, Nat.lt_of_lt_of_le h3 hb.size, Nat.lt_of_lt_of_le h4 hb.size, chain h5 (Nat.le_refl _) hb⟩
theorem dnamed_dt {β : Type} {X : Nat → Prop} {g m b c d : Nat} {r : PR β} {F : β → FM} (w : World) (h : DT X g m b c d w r F) {q : Bool} (hq : isName r.rest = q) :
    Calls Tryz.prog 103 #[.pointer (some ⟨g, 0, none⟩)] w fun e' w' => e' = .returned (.bool q) ∧ Below w.heap.size w w' := by
  subst hq
  obtain ⟨_, _, _, hI⟩ := h.inv
  exact dnamed_any w hI
theorem info_dsub : (Tryz.prog.info? 201).map (fun i => (i.zero, i.size, i.bytes)) = some (some (.agg #[.string ⟨#[]⟩, .int .i64 0]), 2, 24) := by kernel_rfl
def subCells (ks : List (List UInt8 × Nat)) : List Value := ks.flatMap fun c => [Value.string (bs c.1), Value.int .i64 (c.2 : Int)]
theorem subCells_snoc (ks : List (List UInt8 × Nat)) (s : List UInt8) (k : Nat) : subCells (ks ++ [(s, k)]) = subCells ks ++ [Value.string (bs s), Value.int .i64 (k : Int)] := by unfold subCells; rw [List.flatMap_append]; rfl
def PostI {β : Type} (X : Nat → Prop) (g m b c d : Nat) (w : World) (r : PR β) (F : β → FM) (P : List Tok → PR IA) (e : Ending) (w' : World) : Prop :=
  ∃ (c0 c1 c2 c3 c4 c5 c6 c7 c8 : Value) (y : IM), e = .returned (.agg #[c0, c1, c2, c3, c4, c5, c6, c7, c8]) ∧ DT X g m b c d w' (r.bind fun a l => (P l).bind fun y l => .ok (a, y) l) (fun p => (F p.1).setG (putI p.2 (F p.1).g).1) ∧ Irep layD (Pub X layD g w') w' [c0, c1, c2, c3, c4, c5, c6, c7, c8] y ∧
    (∀ p l, (r.bind fun a l => (P l).bind fun y l => .ok (a, y) l) = .ok p l → y = (putI p.2 (F p.1).g).2) ∧ St layD g w w'
set_option maxHeartbeats 4000000 in
set_option maxRecDepth 100000 in
theorem dpack_none {n : Nat} {β : Type} {a : β} {l : List Tok} {F : β → FM} {X : Nat → Prop} {g m b c d : Nat} (w : World) (h : DT X g m b c d w (.ok a l : PR β) F) (hpk : isT kPack l = true) (hn : m + 2 ≤ n) (hc8 : c ≤ 8000000) (hi : intW (hd l.tail).tk.t = none) :
    Calls Tryz.prog 104 #[.pointer (some ⟨g, 0, none⟩)] w (PostI X g (m - 1) b c d w (.ok a l : PR β) F fun l => packP n l.tail) := by
  have hg := h.lt
  have hX0 : ∀ k, X k → k < w.heap.size := fun k hk => (h.out hk).lt
  obtain ⟨hD, hlm, hd32, hbc', hc9⟩ := h
  have hw := hD.wf
  have hp := hw.pos
  have hb3 : 3 ≤ b := by have := hD.pot; omega
  have hwt := hw.isT hpk (by decide)
  have hpt := hwt.pos
  have htl : l.tail.length = l.length - 1 := List.length_tail
  have HR : Hid (packP n l.tail = .bad l.tail 4) := hid (by unfold packP; rw [hi])
  have HI : Hid (∀ w, Calls Tryz.prog 120 #[.string (bs (hd l.tail).tk.t)] w fun e w' => e = .returned (.tuple #[.int .i64 0, .bool false]) ∧ Below w.heap.size w w') := hid fun w => by
    have := refInteger_any (hd l.tail).tk.t w
    rw [hi] at this
    exact this
  have P1 := hid ((DT.ok hD hd32 hlm hbc' hc9).start #[.string ⟨#[]⟩, .int .i64 0, .int .i64 0, .string ⟨#[]⟩, .string ⟨#[]⟩, .int .i64 0, .int .i64 0, .bool false, .slice none 0 0] 70 201 2 (by decide))
  have C1 := hid (dtake_lit kPack (by decide) ⟨#[112, 97, 99, 107]⟩ rfl _ P1.out.dt)
  clear hD
  go_enter Tryz.func104, Tryz.ntmps104
  go_wp2_with (first | (go_at_call 52; (first | ((with_reducible refine C1.out.mono ?_); rintro e w2 ⟨rfl, hT, hS⟩; have P2 := hid (P1.out.step any_stable hT hS); clear hT hS; have P3 := hid ((P2.out.to (fun h => h.take_yes hpk)).box any_stable #[.string ⟨#[]⟩, .int .i64 (-1), .int .i64 0, .string ⟨#[]⟩, .string ⟨#[]⟩, .int .i64 (-1), .int .i64 0, .bool false, .slice none 0 0] 70 (by decide)); obtain ⟨i, nn, kk, cp, q0, q1, q2, q7, qf, qi, qc, qm, qkg, qkl, t0, t1, t2, t3, t4⟩ := P3.out.dt.1.look; unfold maxLen at qm; have qin : (i : Int) < (nn : Int) := (by omega); have hlt : w.heap.size < w2.heap.size := (Array.getElem?_eq_some_iff.1 (P2.out.bx _ List.mem_cons_self).1).1))))
  have hln : 1 ≤ nn := by omega
  generalize hW3 : w2.alloc (.cells #[.string ⟨#[]⟩, .int .i64 (-1), .int .i64 0, .string ⟨#[]⟩, .string ⟨#[]⟩, .int .i64 (-1), .int .i64 0, .bool false, .slice none 0 0] 70) = W3 at *
  have hg3 := P3.out.dt.lt
  have hz := packS_keep q0 q1 t1 hg3 qkl (Below.refl W3.heap.size W3) (Below.refl W3.heap.size W3).drew
  obtain ⟨s0, s1, s2, s3, s4, s5⟩ := hz
  clear q0 q1 q2 q7 t0 t1 t2 t3 t4
  go_region_held3 (fun w' => w'.cell? ⟨g, 0, none⟩ = some (.slice (some ⟨kk, 0, none⟩) nn cp) ∧ w'.cell? ⟨g, 1, none⟩ = some (.int .i64 (i : Int)) ∧ w'.cell? ⟨kk, i * 5 + 1, none⟩ = some (.string (bs (hd l.tail).tk.t)) ∧ g < w'.heap.size ∧ kk < w'.heap.size ∧ Below W3.heap.size W3 w')
    (first | exact ⟨s0, s1, s2, s3, s4, s5⟩ | (go_split_ands; exact packS_keep (by assumption) (by assumption) (by assumption) (by assumption) (by assumption) (by assumption) (by assumption)) | go_keep)
    (first | (go_at_call 120; refine (HI.out _).mono ?_; rintro e w4 ⟨rfl, hb4⟩))
  rename_i hHeld
  have P4 := hid (P3.out.below any_stable hHeld.2.2.2.2.2)
  clear hHeld hb4 s0 s1 s2 s3 s4 s5 qf qi qc qm qkg qkl qin
  obtain ⟨i, nn, kk, cp, q0, q1, q2, q7, qf, qi, qc, qm, qkg, qkl, t0, t1, t2, t3, t4⟩ := P4.out.dt.1.look
  unfold maxLen at qm
  have qin : (i : Int) < (nn : Int) := by omega
  go_wp2_with fail
  go_quiet (fail)
  generalize hW : World.drewN _ _ = W5
  have P5 := hid (P4.out.below any_stable (show Below w4.heap.size w4 W5 by rw [← hW]; exact below_drewN _ _ _))
  have C5 := hid (dfail_ok 4 W5 P5.out.dt.1)
  clear hW q0 q1 q2 q7 qf qi qc qm qkg qkl t0 t1 t2 t3 t4 qin
  go_wp2_with (go_at_call 56; go_must (refine C5.out.mono ?_; rintro e w6 ⟨rfl, hI, hS⟩; have P6 := hid (P5.out.step (r' := (.bad l.tail 4 : PR (β × IA))) (F' := fun p => F p.1) (m' := m) (b' := b) (c' := c) (d' := d) any_stable ⟨by decide, _, _, hI.mono (by omega) (by omega)⟩ hS); obtain ⟨⟨d0, d1, d2, d3, d4, d5, d6, d7, d8⟩, df, dl⟩ := cells9 (P6.out.bx _ List.mem_cons_self).1; obtain ⟨⟨e0, e1, e2, e3, e4, e5, e6, e7, e8⟩, ef, el⟩ := cells9 (P6.out.bx _ (List.mem_cons_of_mem _ List.mem_cons_self)).1; clear hI hS))
  have P7 := P6.out.out9 any_stable (List.mem_cons_of_mem _ List.mem_cons_self) (.string ⟨#[]⟩) (.int .i64 (-1)) (.int .i64 0) (.string ⟨#[]⟩) (.string ⟨#[]⟩) (.int .i64 (-1)) (.int .i64 0) (.bool false) (.slice none 0 0)
  have hr : ((.ok a l : PR β).bind fun a l => (packP n l.tail).bind fun y l => .ok (a, y) l) = (.bad l.tail 4 : PR (β × IA)) := by rw [PR.bind_ok, HR.out]; rfl
  refine bodyPost_ret (v := .agg #[.string ⟨#[]⟩, .int .i64 (-1), .int .i64 0, .string ⟨#[]⟩, .string ⟨#[]⟩, .int .i64 (-1), .int .i64 0, .bool false, .slice none 0 0]) (by simp [results, Tryz.results104, go_sem, e0, e1, e2, e3, e4, e5, e6, e7, e8]) rfl ⟨_, _, _, _, _, _, _, _, _, ⟨[], -1, 0, [], [], -1, 0, false, []⟩, rfl, ?_, ⟨_, rfl, World.ownsRow_nil _ _ _ _, Nest.none _ _ _⟩, fun p l' e => (by rw [hr] at e; cases e), P7.st⟩
  rw [hr]
  exact P7.dt.weak fun k hk => .inl (.inl (.inl hk))
end Go.Proofs.YthcdohggffpopaaGreatDoor
