/- Layer 7: the document's parser: structs' names with arguments. -/
import Derived.Test.YthcdohggffpopaaGreatDoorC1DocE
namespace Go.Proofs.YthcdohggffpopaaGreatDoor
open Go.Lib (hid)
open Go.ChangeShapes Go.WideShapes Go.ChangeAt Go.RowKit
theorem list_one {P : Program} {w : World} {ops : Array Oper} {rest : List Oper} {o : Oper} {a : Act} {Q : Exit → Act → World → Prop} (hgd : o.guard = none) (s x : Operand) (t : TypeId)
    (ho : o.op = .call { callee := .builtin .append, args := #[s, x], argTypes := #[t, t] })
    (e : TypeId) (i : TypeInfo) (z : Value) (size bytes : Nat) (ht : P.underlying t = some (.slice e)) (hi : P.info? e = some i) (hz : i.zero = some z)
    (hsize : i.size = size) (hby : i.bytes = bytes) (hzs : z.cells.size = size) (hpos : 0 < size)
    (v : Value) (n : Nat) (xs : List Value) (hs : a.eval s = v) (hown : w.ownsRow 0 e size v n xs)
    (H c : Nat) (news : List Value) (hx : a.eval x = .slice (some ⟨H, 0, none⟩) 1 c) (hl : news.length = size) (hh : w.heap[H]? = some (.cells news.toArray e (0, 0))) (h1 : ∀ u ∈ news, u.oneCell' = true)
    (h63 : n + 1 ≤ maxLen) (hbytes : (n + 1) * bytes ≤ 140737488355328)
    (h : ∀ v' w', w'.ownsRow 0 e size v' (n + 1) (xs ++ news) → w.grownBy w' v.ownBlock → (v'.ownBlock = v.ownBlock ∨ v'.ownBlock = some w.heap.size) → wpList P ops Q rest (a.put o.dst v') w') : wpList P ops Q (o :: rest) a w :=
  wpList_plain hgd fun K hK => by
    obtain ⟨v', w', hr, h2, h3, _, h5⟩ := run_append_own_at (P := P) w 0 t o.type e i z size bytes ht hi hz hsize hby hzs hpos v n xs hown ⟨H, 0, none⟩ 1 c news (by omega)
      (fun j u hu => by
        rw [show (⟨H, 0, none⟩ : Addr).add j = ⟨H, j, none⟩ from by unfold Addr.add; split <;> simp_all, cell_of_row _ _ _ _ _ (0, 0) hh]
        simpa using hu) h1 h63 hbytes (Nat.zero_le _)
    have hKK := hK _ _ (h v' w' h2 h3 h5)
    unfold Oper.wp execOp
    simp only [ho, resolve, invoke, builtin, Sem.run_bind, Sem.run_pure, Result.andThen_ok, List.map_toArray, List.map_cons, List.map_nil, hs, hx, hr]
    exact hKK
theorem info_int1 : (Tryz.prog.info? 3).map (fun i => (i.zero, i.size, i.bytes)) = some (some (.int .i64 0), 1, 8) := by kernel_rfl
def Mine (X : Nat → Prop) (w w' : World) : Prop := ∀ k, X k → w'.heap[k]? = w.heap[k]?
theorem Mine.trans {X : Nat → Prop} {w w' w'' : World} (h : Mine X w w') (k : Mine X w' w'') : Mine X w w'' := fun i hi => (k i hi).trans (h i hi)
section
variable {β : Type} {X : Nat → Prop} {g m b c d : Nat} {w w' : World} {r : PR β} {F : β → FM}
theorem DT.mine (h : DT X g m b c d w r F) (hS : St layD g w w') : Mine X w w' := fun _ hk => h.own hk hS
theorem DT.out (h : DT X g m b c d w r F) {k : Nat} (hk : X k) : Out layD g w k := by
  obtain ⟨_, _, _, h⟩ := h.inv
  exact h.priv k hk
theorem DT.mineB (h : DT X g m b c d w r F) (hb : Below w.heap.size w w') : Mine X w w' := fun k hk => hb.block k (h.out hk).lt
end
theorem IntsV.mine {X : Nat → Prop} {w w' : World} {v : Value} {l : List Nat} (h : IntsV w v l) (k : Mine (wthV X v) w w') : IntsV w' v l := ownsRow_same h fun g hg => k g (.inr hg)
def refP (n d : Nat) (l : List Tok) : PR TA :=
  if isT sLp l.tail = true then (argD n [] d l.tail.tail).bind fun es l2 => (need sRp l2).bind fun _ l3 => .ok (.ref (hd l).tk.t es) l3 else .ok (.ref (hd l).tk.t []) l.tail
theorem DT.set8 {β : Type} {X : Nat → Prop} {g m b c d : Nat} {w : World} {r : PR β} {F : β → FM} (h : DT X g m b c d w r F) {k : Nat} (hk : X k) (c0 c1 c2 c3 c4 c5 c6 c7 : Value) : DT X g m b c d (Go.Proofs.YthcdohggffpopaaGreatDoor.set8 w k c0 c1 c2 c3 c4 c5 c6 c7) r F :=
  (((((((h.local hk _ _).local hk _ _).local hk _ _).local hk _ _).local hk _ _).local hk _ _).local hk _ _).local hk _ _
theorem StD.set8 {g k : Nat} {W w : World} (h : St layD g W w) (hg : g < W.heap.size) (hk : W.heap.size ≤ k) (c0 c1 c2 c3 c4 c5 c6 c7 : Value) : St layD g W (Go.Proofs.YthcdohggffpopaaGreatDoor.set8 w k c0 c1 c2 c3 c4 c5 c6 c7) :=
  (((((((h.fresh hg hk _ _).fresh hg hk _ _).fresh hg hk _ _).fresh hg hk _ _).fresh hg hk _ _).fresh hg hk _ _).fresh hg hk _ _).fresh hg hk _ _
theorem heap_set8 {w : World} {k i : Nat} (h : i ≠ k) (c0 c1 c2 c3 c4 c5 c6 c7 : Value) : (Go.Proofs.YthcdohggffpopaaGreatDoor.set8 w k c0 c1 c2 c3 c4 c5 c6 c7).heap[i]? = w.heap[i]? := by
  unfold Go.Proofs.YthcdohggffpopaaGreatDoor.set8
  iterate 8 rw [Below.heap_setCell _ _ _ _ h]
def TypC (k : Nat) (w : World) (c0 c1 c2 c3 c4 c5 c6 c7 : Value) : Prop := w.heap[k]? = some (.cells #[c0, c1, c2, c3, c4, c5, c6, c7] 149 (0, 0))
set_option maxHeartbeats 4000000 in
set_option maxRecDepth 100000 in
theorem dref_any {n : Nat} {β : Type} {a : β} {l : List Tok} {F : β → FM} {X : Nat → Prop} {g m b c d : Nat} (w : World) (h : DT X g m b c d w (.ok a l : PR β) F) (hname : isName l = true) (hn : 8 * m + 3 ≤ n) (hbc : b + 16 * n + 16 ≤ c) (hc8 : c ≤ 8000000) :
    Calls Tryz.prog 193 #[.pointer (some ⟨g, 0, none⟩)] w fun e' w' => ∃ v ks, e' = .returned (.agg #[.int .i64 10, .int .i64 0, .bool false, .string (bs (hd l).tk.t), v, .int .i64 (-1), .int .i64 (-1), .slice none 0 0]) ∧
      DT X g (m - 1) (b - 3) c d w' ((refP n d l).bind fun t l => .ok (a, t) l) (fun p => (F p.1).setG (singleM p.2 (F p.1).g).1) ∧ IntsV w' v ks ∧ Nest (Pub X layD g w') v ∧
      (∀ p l', ((refP n d l).bind fun t l => .ok (a, t) l) = .ok p l' → (singleM p.2 (F p.1).g).2 = ⟨10, 0, false, (hd l).tk.t, ks, -1, -1, []⟩ ∧ putT p.2 (F p.1).g = ((singleM p.2 (F p.1).g).1.addT (singleM p.2 (F p.1).g).2, [])) ∧ St layD g w w' := by
  have hg := h.lt
  have hXlt : ∀ k, X k → k < w.heap.size := fun k hk => (h.out hk).lt
  obtain ⟨hD, hlm, hd32, hbc', hc9⟩ := h
  have hw := hD.wf
  have hp := hw.pos
  have hb3 : 3 ≤ b := by have := hD.pot; omega
  have hwt := hw.isName hname
  have htl : l.tail.length = l.length - 1 := List.length_tail
  have hpt := hwt.pos
  have h0 : DT (wth X w.heap.size) g m b c d (w.alloc (.cells #[.int .i64 0, .int .i64 0, .bool false, .string ⟨#[]⟩, .slice none 0 0, .int .i64 0, .int .i64 0, .slice none 0 0] 149)) (.ok () l : PR Unit) (fun _ => F a) :=
    (DT.ok hD hd32 hlm hbc' hc9).hide _
  have hs0 : St layD g w (w.alloc (.cells #[.int .i64 0, .int .i64 0, .bool false, .string ⟨#[]⟩, .slice none 0 0, .int .i64 0, .int .i64 0, .slice none 0 0] 149)) := St.below hg (below_box _ _)
  have hk0 := heap_alloc_new w (.cells #[.int .i64 0, .int .i64 0, .bool false, .string ⟨#[]⟩, .slice none 0 0, .int .i64 0, .int .i64 0, .slice none 0 0] 149)
  have CN := dname_any _ h0
  have hnm : ((.ok () l : PR Unit).bind fun a l => (nameP l).bind fun y l => .ok (a, y) l) = .ok ((), (hd l).tk.t) l.tail := by rw [PR.bind_ok]; unfold nameP; rw [if_pos hname]; rfl
  rw [hnm] at CN
  have HCN := hid CN
  have H0 := hid h0
  have HS0 := hid hs0
  have HK0 := hid hk0
  clear CN h0 hs0 hk0 hnm hD
  obtain ⟨t, ht⟩ : ∃ t, (hd l).tk.t = t := ⟨_, rfl⟩
  rw [ht] at HCN ⊢
  have HT1 : Hid (∀ w1, DT (wth X w.heap.size) g (m - 1) (b - 3) c d w1 (.ok ((), t) l.tail : PR (Unit × List UInt8)) (fun p => F a) → DT (wth (wth X w.heap.size) w1.heap.size) g (m - 1) (b - 3) c d (w1.alloc (.cells #[.int .i64 10, .int .i64 0, .bool false, .string (bs t), .slice none 0 0, .int .i64 (-1), .int .i64 (-1), .slice none 0 0] 149)) (.ok () l.tail : PR Unit) (fun _ => F a)) := hid fun w1 h => DT.hide (DT.map h (fun _ => ()) rfl fun _ _ _ => rfl) _
  cases hq : isT sLp l.tail
  · have HR : Hid (refP n d l = .ok (.ref t []) l.tail) := hid (by unfold refP; rw [if_neg (by rw [hq]; decide), ht])
    rw [HR.out]
    go_enter Tryz.func193, Tryz.ntmps193
    go_wp2_with (first | (go_at_call 53; go_must (refine HCN.out.mono ?_; rintro e w1 ⟨s, rfl, hT1, hs1, hS1⟩; obtain rfl : s = t := hs1 _ _ rfl; have hc0 := (H0.out.own (.inr rfl) hS1).trans HK0.out; have HT2 := hid (HT1.out w1 hT1); have HC : Hid (Calls Tryz.prog 50 #[.pointer (some ⟨g, 0, none⟩), .string ⟨#[40]⟩] (w1.alloc (.cells #[.int .i64 10, .int .i64 0, .bool false, .string (bs s), .slice none 0 0, .int .i64 (-1), .int .i64 (-1), .slice none 0 0] 149)) fun e' w' => e' = .returned (.bool (isT sLp l.tail)) ∧ Below (w1.alloc (.cells #[.int .i64 10, .int .i64 0, .bool false, .string (bs s), .slice none 0 0, .int .i64 (-1), .int .i64 (-1), .slice none 0 0] 149)).heap.size (w1.alloc (.cells #[.int .i64 10, .int .i64 0, .bool false, .string (bs s), .slice none 0 0, .int .i64 (-1), .int .i64 (-1), .slice none 0 0] 149)) w') := hid (dis_any sLp (by decide) _ HT2.out.1); rw [hq] at HC; have hk1 := heap_alloc_new w1 (.cells #[.int .i64 10, .int .i64 0, .bool false, .string (bs s), .slice none 0 0, .int .i64 (-1), .int .i64 (-1), .slice none 0 0] 149); have HC0 := hid hc0; have HC1 := hid hk1; have hg1 := hT1.lt; have hz1 := hS1.size; clear hT1 hs1 hc0 hk1)) | (go_at_call 50; go_must (refine HC.out.mono ?_; rintro e w2 ⟨rfl, hb2⟩; have M2 := hid (HT2.out.mineB hb2); have hc1 := (M2.out _ (.inr rfl)).trans HC1.out; have hc0 := (M2.out _ (.inl (.inr rfl))).trans ((Below.heap_alloc _ _ _ (by simp at hz1; omega)).trans HC0.out); obtain ⟨⟨a0, a1, a2, a3, a4, a5, a6, a7⟩, af, al⟩ := cells8 hc0; obtain ⟨⟨d0, d1, d2, d3, d4, d5, d6, d7⟩, df, dl⟩ := cells8 hc1; clear hc0 hc1)))
    refine bodyPost_ret (v := .agg #[.int .i64 10, .int .i64 0, .bool false, .string (bs s), .slice none 0 0, .int .i64 (-1), .int .i64 (-1), .slice none 0 0]) (by simp [results, Tryz.results193, go_sem, a0, a1, a2, a3, a4, a5, a6, a7]) rfl ⟨.slice none 0 0, [], rfl, ?_, World.ownsRow_nil _ _ _ _, Nest.none _ _ _, fun p l' e => (by cases e; exact ⟨rfl, rfl⟩), StD.set8 (((HS0.out.trans hS1).trans (St.below hg1 (below_box w1 _))).trans (St.below HT2.out.lt hb2)) hg (Nat.le_refl _) _ _ _ _ _ _ _ _⟩
    exact DT.map (DT.set8 (HT2.out.below hb2) (k := w.heap.size) (.inl (.inr rfl)) (.int .i64 10) (.int .i64 0) (.bool false) (.string (bs s)) (.slice none 0 0) (.int .i64 (-1)) (.int .i64 (-1)) (.slice none 0 0)).bare.bare (fun _ => (a, TA.ref s [])) rfl fun _ _ _ => rfl
  · have HR : Hid (refP n d l = (argD n [] d l.tail.tail).bind fun es l2 => (need sRp l2).bind fun _ l3 => .ok (.ref t es) l3) := hid (by unfold refP; rw [if_pos hq, ht])
    have hwtt := hwt.isT hq (by decide)
    have httl : l.tail.tail.length = l.tail.length - 1 := List.length_tail
    obtain ⟨R, hR⟩ : ∃ R, argD n [] d l.tail.tail = R := ⟨_, rfl⟩
    have HA := hid hR.symm
    rw [hR] at HR
    clear hR
    go_enter Tryz.func193, Tryz.ntmps193
    go_wp2_with (first | (go_at_call 53; go_must (refine HCN.out.mono ?_; rintro e w1 ⟨s, rfl, hT1, hs1, hS1⟩; obtain rfl : s = t := hs1 _ _ rfl; have hc0 := (H0.out.own (.inr rfl) hS1).trans HK0.out; have HT2 := hid (HT1.out w1 hT1); have HC : Hid (Calls Tryz.prog 50 #[.pointer (some ⟨g, 0, none⟩), .string ⟨#[40]⟩] (w1.alloc (.cells #[.int .i64 10, .int .i64 0, .bool false, .string (bs s), .slice none 0 0, .int .i64 (-1), .int .i64 (-1), .slice none 0 0] 149)) fun e' w' => e' = .returned (.bool (isT sLp l.tail)) ∧ Below (w1.alloc (.cells #[.int .i64 10, .int .i64 0, .bool false, .string (bs s), .slice none 0 0, .int .i64 (-1), .int .i64 (-1), .slice none 0 0] 149)).heap.size (w1.alloc (.cells #[.int .i64 10, .int .i64 0, .bool false, .string (bs s), .slice none 0 0, .int .i64 (-1), .int .i64 (-1), .slice none 0 0] 149)) w') := hid (dis_any sLp (by decide) _ HT2.out.1); rw [hq] at HC; have hk1 := heap_alloc_new w1 (.cells #[.int .i64 10, .int .i64 0, .bool false, .string (bs s), .slice none 0 0, .int .i64 (-1), .int .i64 (-1), .slice none 0 0] 149); have HC0 := hid hc0; have HC1 := hid hk1; have hg1 := hT1.lt; have hz1 := hS1.size; clear hT1 hs1 hc0 hk1)) | (go_at_call 50; go_must (refine HC.out.mono ?_; rintro e w2 ⟨rfl, hb2⟩; have M2 := hid (HT2.out.mineB hb2); have HT3 := hid (HT2.out.below hb2); have HC3 : Hid (Calls Tryz.prog 52 #[.pointer (some ⟨g, 0, none⟩), .string ⟨#[40]⟩] w2 fun e' w' => e' = .returned (.tuple #[]) ∧ DT _ g (m - 1 - 1) (b - 3 - 3) c d w' ((.ok () l.tail : PR Unit).bind fun a l => (need sLp l).bind fun _ l => .ok a l) (fun _ => F a) ∧ St layD g w2 w') := hid (dtake_any sLp (by decide) w2 HT3.out))) | (go_at_call 52; go_must (refine HC3.out.mono ?_; rintro e w3 ⟨rfl, hT3, hS3⟩; have HT4 := hid (hT3.take_yes hq); have M3 := hid (M2.out.trans (HT3.out.mine hS3)); clear hT3)))
    obtain ⟨k1, hk1⟩ : ∃ k1, w1.heap.size = k1 := ⟨_, rfl⟩
    have hB1 := below_box w1 (.cells #[.int .i64 10, .int .i64 0, .bool false, .string (bs s), .slice none 0 0, .int .i64 (-1), .int .i64 (-1), .slice none 0 0] 149)
    have HK1 : Hid (TypC k1 w3 (.int .i64 10) (.int .i64 0) (.bool false) (.string (bs s)) (.slice none 0 0) (.int .i64 (-1)) (.int .i64 (-1)) (.slice none 0 0)) := hid (by rw [← hk1]; exact (M3.out _ (.inr rfl)).trans HC1.out)
    have HK0' : Hid (TypC w.heap.size w3 (.int .i64 0) (.int .i64 0) (.bool false) (.string ⟨#[]⟩) (.slice none 0 0) (.int .i64 0) (.int .i64 0) (.slice none 0 0)) := hid ((M3.out _ (.inl (.inr rfl))).trans ((hB1.block w.heap.size (by simp at hz1; omega)).trans HC0.out))
    have HSS : Hid (St layD g w w3) := hid ((((HS0.out.trans hS1).trans (St.below hg1 hB1)).trans (St.below HT2.out.lt hb2)).trans hS3)
    have hk01 : w.heap.size < k1 := by simp at hz1; omega
    rw [hk1] at HT4 ⊢
    clear hB1 hk1 HC3 HC HC0 HC1 HK0 M2 M3 HT3 HT2 hb2 hS1 hS3 hz1 hg1 HCN HT1 HS0 H0
    go_loopw [5] (fun s5 wr => ∃ (q : Bool) (rr : PR (List EA)) (v : Value) (ks : List Nat), s5 = .bool q ∧ DT (wthV (wth (wth X w.heap.size) k1) v) g (m - 1 - 1) (b - 3 - 3) c d wr rr (fun es => (F a).setG (putEs es (F a).g).1) ∧
      TypC k1 wr (.int .i64 10) (.int .i64 0) (.bool false) (.string (bs s)) v (.int .i64 (-1)) (.int .i64 (-1)) (.slice none 0 0) ∧ TypC w.heap.size wr (.int .i64 0) (.int .i64 0) (.bool false) (.string ⟨#[]⟩) (.slice none 0 0) (.int .i64 0) (.int .i64 0) (.slice none 0 0) ∧ IntsV wr v ks ∧ (∀ k, v.ownBlock = some k → w.heap.size ≤ k) ∧ ks.length ≤ 65 ∧ (∀ es l1, rr = .ok es l1 → ks = (putEs es (F a).g).2 ∧ ks.length = es.length ∧ es.length ≤ 64) ∧ St layD g w wr ∧ Hid (R = rr.bind fun es l1 => if q = true then argD n es d l1 else .ok es l1)) (fun _ wr => tokD g wr)
    case atStart =>
      refine ⟨true, .ok [] l.tail.tail, .slice none 0 0, [], rfl, DT.nilV (DT.map HT4.out (fun _ => []) rfl fun _ _ _ => rfl) _ _, HK1.out, HK0'.out, World.ownsRow_nil _ _ _ _, (fun k hk => by cases hk), by simp, ?_, HSS.out, hid (by rw [HA.out]; rfl)⟩
      intro es l1 e
      cases e
      exact ⟨rfl, rfl, by simp⟩
    case round =>
      obtain ⟨q, rr, v, ks, rfl, hT, hk1, hk0, hV, hvb, hks, hes, hS, HRR⟩ := hrel
      have hne1 : v.ownBlock ≠ some k1 := ownsRow_off hV hk1 (by decide)
      have hne0 : v.ownBlock ≠ some w.heap.size := ownsRow_off hV hk0 (by decide)
      obtain ⟨va, vc, rfl⟩ := ownsRow_shape hV
      by_cases hgo : q = true ∧ ∃ es l1, rr = .ok es l1
      · obtain ⟨rfl, es, l1, rfl⟩ := hgo
        have htk := hid (tokD_ok hT)
        obtain ⟨hks2, hkl, hel⟩ := hes es l1 rfl
        have hlm1 := hT.2.1
        have hw1 := hT.1.wf
        have hp1 := hw1.pos
        obtain ⟨Q3, hQ3⟩ : ∃ Q3 : PR (List EA × EA), ((if begE l1 = true then roomP es.length l1 else .ok () l1).bind fun _ l2 => (bin n 1 d l2).bind fun e l3 => .ok (es, e) l3) = Q3 := ⟨_, rfl⟩
        have HR2 : Hid (R = Q3.bind fun p l3 => if isT sComma l3 = true then argD n (p.1 ++ [p.2]) d l3.tail else .ok (p.1 ++ [p.2]) l3) := hid (by
          rw [HRR.out, ← hQ3]
          simp only [PR.bind_assoc, PR.bind_ok, if_true]
          exact argD_step hw1 (by omega))
        have hO := doperand_any wr hT.1
        obtain ⟨i, nn, kk, cp, -, -, -, q7, qf, -⟩ := hT.1.look
        obtain ⟨i0, hi, hz0, hz1, hz2⟩ := info_parts info_int1
        have HT := hid hT
        have HK1 := hid hk1
        have HK0 := hid hk0
        have HV := hid hV
        have HKS := hid hks2
        have HQ3 := hid hQ3
        have HKL := hid hkl
        have HW1 := hid hw1
        have hkl64 : ks.length ≤ 64 := by omega
        clear hT hk1 hk0 hV hes HRR hks2 hw1 hQ3 hkl
        cases hb : begE l1
        · rw [hb] at hO
          have HO := hid hO
          have HB := hid hb
          clear hO hb
          have HXX : Hid (∀ w5, DT (wthV (wth (wth X w.heap.size) k1) (.slice va ks.length vc)) g (m - 1 - 1) (b - 3 - 3) c d w5 (.ok es l1 : PR (List EA)) (fun es => (F a).setG (putEs es (F a).g).1) → Calls Tryz.prog 155 #[.pointer (some ⟨g, 0, none⟩), .int .i64 1] w5 fun e' w' => ∃ k : Nat, e' = .returned (.int .i64 (k : Int)) ∧ DT (wthV (wth (wth X w.heap.size) k1) (.slice va ks.length vc)) g (m - 1 - 1 - 1) (b - 3 - 3) c d w' Q3 (fun p => (F a).setG (putE p.2 (putEs p.1 (F a).g).1)) ∧ (∀ p l, Q3 = .ok p l → k = (putE p.2 (putEs p.1 (F a).g).1).x) ∧ St layD g w5 w') := hid fun w5 h5 => by
            have hQ : ((.ok es l1 : PR (List EA)).bind fun a l => (bin n 1 d l).bind fun y l => .ok (a, y) l) = Q3 := by
              rw [← HQ3.out, if_neg (by rw [HB.out]; decide), PR.bind_ok, PR.bind_ok]
            have := dexpr_any n _ _ _ _ _ _ _ c d w5 h5 (by omega) (by omega) hc8
            refine this.mono ?_
            rintro e' w' ⟨k, rfl, h1, h2, h3⟩
            rw [hQ] at h1 h2
            exact ⟨k, rfl, h1, h2, h3⟩
          have HP : Hid (∀ p l3, Q3 = .ok p l3 → p.1 = es ∧ es.length < 64 ∧ l3.length < l1.length) := hid (by
            intro p l3 e
            rw [← HQ3.out, if_neg (by rw [HB.out]; decide), PR.bind_ok, bin_no HW1.out (by omega) HB.out] at e
            cases e)
          cases hc : isT sComma Q3.rest
          all_goals
            go_wp2_with (first | (go_at_call 229; go_must (refine HO.out.mono ?_; rintro e w4 ⟨rfl, hb4⟩; have M4 := hid (HT.out.mineB hb4); have HT4 := hid (HT.out.below hb4); have HS4 := hid (hS.trans (St.below HT.out.lt hb4)); have HX := hid (HXX.out w4 HT4.out); clear hb4)) | (go_at_call 155; go_must (refine HX.out.mono ?_; rintro e w6 ⟨kx, rfl, hT6, hkx, hS6⟩; have M6 := hid (M4.out.trans (HT4.out.mine hS6)); have HS6 := hid (HS4.out.trans hS6); have HT6 := hid hT6; have HKX := hid hkx; have hc1 := (M6.out _ (.inl (.inr rfl))).trans HK1.out; have HC1 := hid hc1; have HC0 := hid ((M6.out _ (.inl (.inl (.inr rfl)))).trans HK0.out); have HV6 := hid (HV.out.mine M6.out); obtain ⟨⟨d0, d1, d2, d3, d4, d5, d6, d7⟩, df, dl⟩ := cells8 hc1; clear hT6 hkx hS6 hc1)) | (refine list_one rfl _ _ 85 rfl 3 i0 _ 1 8 Tryz.underlying85 hi hz0 hz1 hz2 rfl (by decide) (.slice va ks.length vc) ks.length (ks.map fun n : Nat => Value.int .i64 (n : Int)) rfl (RowR.below (show w6.ownsRow 0 3 1 _ _ _ from HV6.out) (below_box w6 _)) _ _ [.int .i64 (kx : Int)] rfl rfl (heap_alloc_new w6 _) (fun u hu => by rw [List.mem_singleton.1 hu]; rfl) (by unfold maxLen; omega) (by omega) ?_; intro v' w7 hown hgrow hat; obtain ⟨va', vc', rfl⟩ := ownsRow_shape hown; have hB6 := below_box w6 (.cells #[.int .i64 (kx : Int)] 3); have hc1 := (hgrow.block k1 (Nat.lt_of_lt_of_le dl hB6.size) (fun e => hne1 e.symm)).trans ((hB6.block k1 dl).trans HC1.out); have hc0 := (hgrow.block w.heap.size (Nat.lt_of_lt_of_le (Nat.lt_trans hk01 dl) hB6.size) (fun e => hne0 e.symm)).trans ((hB6.block w.heap.size (Nat.lt_trans hk01 dl)).trans HC0.out); have HT7 := hid ((HT6.out.below hB6).grow hgrow hat fun k hk => (World.ownsRow.lt hown k hk).2); have HT8 := hid (HT7.out.local (k := k1) (.inl (.inr rfl)) 4 (.slice va' (ks.length + 1) vc')); have HS8 := hid (((HS6.out.trans (St.below HT6.out.lt hB6)).grown hg hgrow hvb).fresh (B := k1) hg (Nat.le_of_lt hk01) 4 (.slice va' (ks.length + 1) vc')); have hne7 : (Value.slice va' (ks.length + 1) vc').ownBlock ≠ some k1 := ownsRow_off hown hc1 (by decide); have HV8 : Hid (IntsV (w7.setCell ⟨k1, 4, none⟩ (.slice va' (ks.length + 1) vc')) (.slice va' (ks.length + 1) vc') (ks ++ [kx])) := hid (by (unfold IntsV; rw [List.length_append, List.map_append]; exact ownsRow_same hown fun i hi' => Below.heap_setCell _ _ _ _ (show i ≠ k1 from fun e => hne7 (by rw [← e]; exact hi')))); have HK18 : Hid (TypC k1 (w7.setCell ⟨k1, 4, none⟩ (.slice va' (ks.length + 1) vc')) (.int .i64 10) (.int .i64 0) (.bool false) (.string (bs s)) (.slice va' (ks.length + 1) vc') (.int .i64 (-1)) (.int .i64 (-1)) (.slice none 0 0)) := hid (cell_set_row hc1 (by simp) _); have HK08 : Hid (TypC w.heap.size (w7.setCell ⟨k1, 4, none⟩ (.slice va' (ks.length + 1) vc')) (.int .i64 0) (.int .i64 0) (.bool false) (.string ⟨#[]⟩) (.slice none 0 0) (.int .i64 0) (.int .i64 0) (.slice none 0 0)) := hid ((Below.heap_setCell _ _ _ _ (show w.heap.size ≠ k1 from by omega)).trans hc0); have hvb8 : ∀ k, (Value.slice va' (ks.length + 1) vc').ownBlock = some k → w.heap.size ≤ k := (fun k hk => by (rcases hat with e | e; (exact hvb k (e ▸ hk)); (rw [e, Option.some.injEq] at hk; have := hB6.size; omega))); obtain ⟨bb8, dd8, ff8, hI8⟩ := HT8.out.inv; have HCm : Hid (Calls Tryz.prog 50 #[.pointer (some ⟨g, 0, none⟩), .string ⟨#[44]⟩] (w7.setCell ⟨k1, 4, none⟩ (.slice va' (ks.length + 1) vc')) fun e' w' => e' = .returned (.bool (isT sComma Q3.rest)) ∧ Below (w7.setCell ⟨k1, 4, none⟩ (.slice va' (ks.length + 1) vc')).heap.size (w7.setCell ⟨k1, 4, none⟩ (.slice va' (ks.length + 1) vc')) w') := hid (dis_any sComma (by decide) _ hI8); rw [hc] at HCm; have HVB8 := hid hvb8; clear d0 d1 d2 d3 d4 d5 d6 d7 df; obtain ⟨⟨d0, d1, d2, d3, d4, d5, d6, d7⟩, df, dl7⟩ := cells8 hc1; clear hown hgrow hat hB6 hc1 hc0 hne7 hvb8 hI8) | (go_at_call 50; go_must (refine HCm.out.mono ?_; rintro e w9 ⟨rfl, hb9⟩; have M9 := hid (HT8.out.mineB hb9); have HT9 := hid (HT8.out.below hb9); have HS9 := hid (HS8.out.trans (St.below HT8.out.lt hb9)); have HTK9 : Hid (Calls Tryz.prog 52 #[.pointer (some ⟨g, 0, none⟩), .string ⟨#[44]⟩] w9 fun e' w' => e' = .returned (.tuple #[]) ∧ DT _ g (m - 1 - 1 - 1 - 1) (b - 3 - 3 - 3) c d w' (Q3.bind fun a l => (need sComma l).bind fun _ l => .ok a l) (fun p => (F a).setG (putE p.2 (putEs p.1 (F a).g).1)) ∧ St layD g w9 w') := hid (dtake_any sComma (by decide) w9 HT9.out); clear hb9)) | (go_at_call 52; go_must (refine HTK9.out.mono ?_; rintro e w10 ⟨rfl, hT10, hS10⟩)))
          · refine ⟨⟨false, Q3.bind fun p l => .ok (p.1 ++ [p.2]) l, .slice va' (ks.length + 1) vc', ks ++ [kx], rfl, (DT.map HT9.out (fun p => p.1 ++ [p.2]) rfl fun p l _ => by rw [putEs_snoc]; rfl).mono (by omega) (by omega) (by omega) (by omega) (by omega), (M9.out _ (.inl (.inr rfl))).trans HK18.out, (M9.out _ (.inl (.inl (.inr rfl)))).trans HK08.out, HV8.out.mine M9.out, HVB8.out, by simp; omega, ?_, HS9.out, hid ?_⟩, ?_⟩
            · intro es' l' e
              obtain ⟨p, e1, rfl⟩ := map_ok e
              obtain ⟨h1, h2, -⟩ := HP.out p l' e1
              have h3 := HKX.out p l' e1
              rw [h1] at h3 ⊢
              rw [putEs_snoc, h3, HKS.out]
              refine ⟨rfl, ?_, ?_⟩
              · simp [putEs_length]
              · simp; omega
            · rw [HR2.out]
              cases hQ : Q3 with
              | bad l2 x => rfl
              | ok p l3 =>
                rw [hQ] at hc
                simp only [PR.rest] at hc
                rw [PR.bind_ok, PR.bind_ok, PR.bind_ok, if_neg (by rw [hc]; decide), if_neg (by decide)]
            · have h9 := HT9.out
              have hp' := HP.out
              rw [htk.out]
              cases hQ : Q3 with
              | bad l2 x => rw [hQ] at h9; rw [tokD_bad h9]; omega
              | ok p l3 => rw [hQ] at h9; rw [tokD_ok h9]; have := (hp' p l3 hQ).2.2; omega
          · have M10 := hid (M9.out.trans (HT9.out.mine hS10))
            refine ⟨⟨true, (Q3.bind fun a l => (need sComma l).bind fun _ l => .ok a l).bind fun p l => .ok (p.1 ++ [p.2]) l, .slice va' (ks.length + 1) vc', ks ++ [kx], rfl, (DT.map hT10 (fun p => p.1 ++ [p.2]) rfl fun p l _ => by rw [putEs_snoc]; rfl).mono (by omega) (by omega) (by omega) (by omega) (by omega), (M10.out _ (.inl (.inr rfl))).trans HK18.out, (M10.out _ (.inl (.inl (.inr rfl)))).trans HK08.out, HV8.out.mine M10.out, HVB8.out, by simp; omega, ?_, HS9.out.trans hS10, hid ?_⟩, ?_⟩
            · intro es' l' e
              obtain ⟨p, e1, rfl⟩ := map_ok e
              obtain ⟨l4, e1⟩ := keep_ok e1
              obtain ⟨h1, h2, -⟩ := HP.out p l4 e1
              have h3 := HKX.out p l4 e1
              rw [h1] at h3 ⊢
              rw [putEs_snoc, h3, HKS.out]
              refine ⟨rfl, ?_, ?_⟩
              · simp [putEs_length]
              · simp; omega
            · rw [HR2.out]
              cases hQ : Q3 with
              | bad l2 x => rfl
              | ok p l3 =>
                rw [hQ] at hc
                simp only [PR.rest] at hc
                have hnd : need sComma l3 = .ok () l3.tail := by unfold need; rw [if_pos hc]
                rw [PR.bind_ok, PR.bind_ok, if_pos hc, hnd]
                rfl
            · have h9 := hT10
              have hp' := HP.out
              rw [htk.out]
              cases hQ : Q3 with
              | bad l2 x => rw [hQ] at h9; rw [tokD_bad h9]; omega
              | ok p l3 =>
                rw [hQ] at h9 hc
                simp only [PR.rest] at hc
                have hnd : need sComma l3 = .ok () l3.tail := by unfold need; rw [if_pos hc]
                rw [PR.bind_ok, hnd, PR.bind_ok] at h9
                rw [tokD_ok h9]
                have := (hp' p l3 hQ).2.2
                have : l3.tail.length = l3.length - 1 := List.length_tail
                omega
        · rw [hb] at hO
          have HO := hid hO
          have HB := hid hb
          clear hO hb
          have HXX : Hid (∀ w5, DT (wthV (wth (wth X w.heap.size) k1) (.slice va ks.length vc)) g (m - 1 - 1) (b - 3 - 3) c d w5 ((.ok es l1 : PR (List EA)).bind fun a l => (roomP ks.length l).bind fun _ l => .ok a l) (fun es => (F a).setG (putEs es (F a).g).1) → Calls Tryz.prog 155 #[.pointer (some ⟨g, 0, none⟩), .int .i64 1] w5 fun e' w' => ∃ k : Nat, e' = .returned (.int .i64 (k : Int)) ∧ DT (wthV (wth (wth X w.heap.size) k1) (.slice va ks.length vc)) g (m - 1 - 1 - 1) (b - 3 - 3) c d w' Q3 (fun p => (F a).setG (putE p.2 (putEs p.1 (F a).g).1)) ∧ (∀ p l, Q3 = .ok p l → k = (putE p.2 (putEs p.1 (F a).g).1).x) ∧ St layD g w5 w') := hid fun w5 h5 => by
            have hQ : (((.ok es l1 : PR (List EA)).bind fun a l => (roomP ks.length l).bind fun _ l => .ok a l).bind fun a l => (bin n 1 d l).bind fun y l => .ok (a, y) l) = Q3 := by
              rw [← HQ3.out, if_pos HB.out, HKL.out]
              simp only [PR.bind_assoc, PR.bind_ok]
            have := dexpr_any n _ _ _ _ _ _ _ c d w5 h5 (by omega) (by omega) hc8
            refine this.mono ?_
            rintro e' w' ⟨k, rfl, h1, h2, h3⟩
            rw [hQ] at h1 h2
            exact ⟨k, rfl, h1, h2, h3⟩
          have HP : Hid (∀ p l3, Q3 = .ok p l3 → p.1 = es ∧ es.length < 64 ∧ l3.length < l1.length) := hid (by
            intro p l3 e
            rw [← HQ3.out, if_pos HB.out] at e
            cases hr : roomP es.length l1 with
            | bad l2 x => rw [hr] at e; cases e
            | ok u l2 =>
              obtain ⟨rfl, h64⟩ := room_same hr
              rw [hr, PR.bind_ok] at e
              cases hbn : bin n 1 d l2 with
              | bad l4 x => rw [hbn] at e; cases e
              | ok y l4 =>
                rw [hbn] at e
                cases e
                exact ⟨rfl, h64, (bin_wf (Nat.le_refl _) HW1.out hbn).1⟩)
          cases hc : isT sComma Q3.rest
          all_goals
            go_wp2_with (first | (go_at_call 229; go_must (refine HO.out.mono ?_; rintro e w4 ⟨rfl, hb4⟩; have M4 := hid (HT.out.mineB hb4); have HT4 := hid (HT.out.below hb4); have HS4 := hid (hS.trans (St.below HT.out.lt hb4)); have hc1 := (M4.out _ (.inl (.inr rfl))).trans HK1.out; obtain ⟨⟨d0, d1, d2, d3, d4, d5, d6, d7⟩, df, dl⟩ := cells8 hc1; have HRM := hid (droom_any ks.length w4 HT4.out); clear hc1 hb4)) | (go_at_call 51; go_must (refine HRM.out.mono ?_; rintro e w5 ⟨rfl, hT5, hS5⟩; have M5 := hid (M4.out.trans (HT4.out.mine hS5)); have HS5 := hid (HS4.out.trans hS5); have HX := hid (HXX.out w5 hT5); have HT5 := hid hT5; clear hT5 hS5 d0 d1 d2 d3 d4 d5 d6 d7 df dl)) | (go_at_call 155; go_must (refine HX.out.mono ?_; rintro e w6 ⟨kx, rfl, hT6, hkx, hS6⟩; have M6 := hid (M5.out.trans (HT5.out.mine hS6)); have HS6 := hid (HS5.out.trans hS6); have HT6 := hid hT6; have HKX := hid hkx; have hc1 := (M6.out _ (.inl (.inr rfl))).trans HK1.out; have HC1 := hid hc1; have HC0 := hid ((M6.out _ (.inl (.inl (.inr rfl)))).trans HK0.out); have HV6 := hid (HV.out.mine M6.out); obtain ⟨⟨d0, d1, d2, d3, d4, d5, d6, d7⟩, df, dl⟩ := cells8 hc1; clear hT6 hkx hS6 hc1)) | (refine list_one rfl _ _ 85 rfl 3 i0 _ 1 8 Tryz.underlying85 hi hz0 hz1 hz2 rfl (by decide) (.slice va ks.length vc) ks.length (ks.map fun n : Nat => Value.int .i64 (n : Int)) rfl (RowR.below (show w6.ownsRow 0 3 1 _ _ _ from HV6.out) (below_box w6 _)) _ _ [.int .i64 (kx : Int)] rfl rfl (heap_alloc_new w6 _) (fun u hu => by rw [List.mem_singleton.1 hu]; rfl) (by unfold maxLen; omega) (by omega) ?_; intro v' w7 hown hgrow hat; obtain ⟨va', vc', rfl⟩ := ownsRow_shape hown; have hB6 := below_box w6 (.cells #[.int .i64 (kx : Int)] 3); have hc1 := (hgrow.block k1 (Nat.lt_of_lt_of_le dl hB6.size) (fun e => hne1 e.symm)).trans ((hB6.block k1 dl).trans HC1.out); have hc0 := (hgrow.block w.heap.size (Nat.lt_of_lt_of_le (Nat.lt_trans hk01 dl) hB6.size) (fun e => hne0 e.symm)).trans ((hB6.block w.heap.size (Nat.lt_trans hk01 dl)).trans HC0.out); have HT7 := hid ((HT6.out.below hB6).grow hgrow hat fun k hk => (World.ownsRow.lt hown k hk).2); have HT8 := hid (HT7.out.local (k := k1) (.inl (.inr rfl)) 4 (.slice va' (ks.length + 1) vc')); have HS8 := hid (((HS6.out.trans (St.below HT6.out.lt hB6)).grown hg hgrow hvb).fresh (B := k1) hg (Nat.le_of_lt hk01) 4 (.slice va' (ks.length + 1) vc')); have hne7 : (Value.slice va' (ks.length + 1) vc').ownBlock ≠ some k1 := ownsRow_off hown hc1 (by decide); have HV8 : Hid (IntsV (w7.setCell ⟨k1, 4, none⟩ (.slice va' (ks.length + 1) vc')) (.slice va' (ks.length + 1) vc') (ks ++ [kx])) := hid (by (unfold IntsV; rw [List.length_append, List.map_append]; exact ownsRow_same hown fun i hi' => Below.heap_setCell _ _ _ _ (show i ≠ k1 from fun e => hne7 (by rw [← e]; exact hi')))); have HK18 : Hid (TypC k1 (w7.setCell ⟨k1, 4, none⟩ (.slice va' (ks.length + 1) vc')) (.int .i64 10) (.int .i64 0) (.bool false) (.string (bs s)) (.slice va' (ks.length + 1) vc') (.int .i64 (-1)) (.int .i64 (-1)) (.slice none 0 0)) := hid (cell_set_row hc1 (by simp) _); have HK08 : Hid (TypC w.heap.size (w7.setCell ⟨k1, 4, none⟩ (.slice va' (ks.length + 1) vc')) (.int .i64 0) (.int .i64 0) (.bool false) (.string ⟨#[]⟩) (.slice none 0 0) (.int .i64 0) (.int .i64 0) (.slice none 0 0)) := hid ((Below.heap_setCell _ _ _ _ (show w.heap.size ≠ k1 from by omega)).trans hc0); have hvb8 : ∀ k, (Value.slice va' (ks.length + 1) vc').ownBlock = some k → w.heap.size ≤ k := (fun k hk => by (rcases hat with e | e; (exact hvb k (e ▸ hk)); (rw [e, Option.some.injEq] at hk; have := hB6.size; omega))); obtain ⟨bb8, dd8, ff8, hI8⟩ := HT8.out.inv; have HCm : Hid (Calls Tryz.prog 50 #[.pointer (some ⟨g, 0, none⟩), .string ⟨#[44]⟩] (w7.setCell ⟨k1, 4, none⟩ (.slice va' (ks.length + 1) vc')) fun e' w' => e' = .returned (.bool (isT sComma Q3.rest)) ∧ Below (w7.setCell ⟨k1, 4, none⟩ (.slice va' (ks.length + 1) vc')).heap.size (w7.setCell ⟨k1, 4, none⟩ (.slice va' (ks.length + 1) vc')) w') := hid (dis_any sComma (by decide) _ hI8); rw [hc] at HCm; have HVB8 := hid hvb8; clear d0 d1 d2 d3 d4 d5 d6 d7 df; obtain ⟨⟨d0, d1, d2, d3, d4, d5, d6, d7⟩, df, dl7⟩ := cells8 hc1; clear hown hgrow hat hB6 hc1 hc0 hne7 hvb8 hI8) | (go_at_call 50; go_must (refine HCm.out.mono ?_; rintro e w9 ⟨rfl, hb9⟩; have M9 := hid (HT8.out.mineB hb9); have HT9 := hid (HT8.out.below hb9); have HS9 := hid (HS8.out.trans (St.below HT8.out.lt hb9)); have HTK9 : Hid (Calls Tryz.prog 52 #[.pointer (some ⟨g, 0, none⟩), .string ⟨#[44]⟩] w9 fun e' w' => e' = .returned (.tuple #[]) ∧ DT _ g (m - 1 - 1 - 1 - 1) (b - 3 - 3 - 3) c d w' (Q3.bind fun a l => (need sComma l).bind fun _ l => .ok a l) (fun p => (F a).setG (putE p.2 (putEs p.1 (F a).g).1)) ∧ St layD g w9 w') := hid (dtake_any sComma (by decide) w9 HT9.out); clear hb9)) | (go_at_call 52; go_must (refine HTK9.out.mono ?_; rintro e w10 ⟨rfl, hT10, hS10⟩)))
          · refine ⟨⟨false, Q3.bind fun p l => .ok (p.1 ++ [p.2]) l, .slice va' (ks.length + 1) vc', ks ++ [kx], rfl, (DT.map HT9.out (fun p => p.1 ++ [p.2]) rfl fun p l _ => by rw [putEs_snoc]; rfl).mono (by omega) (by omega) (by omega) (by omega) (by omega), (M9.out _ (.inl (.inr rfl))).trans HK18.out, (M9.out _ (.inl (.inl (.inr rfl)))).trans HK08.out, HV8.out.mine M9.out, HVB8.out, by simp; omega, ?_, HS9.out, hid ?_⟩, ?_⟩
            · intro es' l' e
              obtain ⟨p, e1, rfl⟩ := map_ok e
              obtain ⟨h1, h2, -⟩ := HP.out p l' e1
              have h3 := HKX.out p l' e1
              rw [h1] at h3 ⊢
              rw [putEs_snoc, h3, HKS.out]
              refine ⟨rfl, ?_, ?_⟩
              · simp [putEs_length]
              · simp; omega
            · rw [HR2.out]
              cases hQ : Q3 with
              | bad l2 x => rfl
              | ok p l3 =>
                rw [hQ] at hc
                simp only [PR.rest] at hc
                rw [PR.bind_ok, PR.bind_ok, PR.bind_ok, if_neg (by rw [hc]; decide), if_neg (by decide)]
            · have h9 := HT9.out
              have hp' := HP.out
              rw [htk.out]
              cases hQ : Q3 with
              | bad l2 x => rw [hQ] at h9; rw [tokD_bad h9]; omega
              | ok p l3 => rw [hQ] at h9; rw [tokD_ok h9]; have := (hp' p l3 hQ).2.2; omega
          · have M10 := hid (M9.out.trans (HT9.out.mine hS10))
            refine ⟨⟨true, (Q3.bind fun a l => (need sComma l).bind fun _ l => .ok a l).bind fun p l => .ok (p.1 ++ [p.2]) l, .slice va' (ks.length + 1) vc', ks ++ [kx], rfl, (DT.map hT10 (fun p => p.1 ++ [p.2]) rfl fun p l _ => by rw [putEs_snoc]; rfl).mono (by omega) (by omega) (by omega) (by omega) (by omega), (M10.out _ (.inl (.inr rfl))).trans HK18.out, (M10.out _ (.inl (.inl (.inr rfl)))).trans HK08.out, HV8.out.mine M10.out, HVB8.out, by simp; omega, ?_, HS9.out.trans hS10, hid ?_⟩, ?_⟩
            · intro es' l' e
              obtain ⟨p, e1, rfl⟩ := map_ok e
              obtain ⟨l4, e1⟩ := keep_ok e1
              obtain ⟨h1, h2, -⟩ := HP.out p l4 e1
              have h3 := HKX.out p l4 e1
              rw [h1] at h3 ⊢
              rw [putEs_snoc, h3, HKS.out]
              refine ⟨rfl, ?_, ?_⟩
              · simp [putEs_length]
              · simp; omega
            · rw [HR2.out]
              cases hQ : Q3 with
              | bad l2 x => rfl
              | ok p l3 =>
                rw [hQ] at hc
                simp only [PR.rest] at hc
                have hnd : need sComma l3 = .ok () l3.tail := by unfold need; rw [if_pos hc]
                rw [PR.bind_ok, PR.bind_ok, if_pos hc, hnd]
                rfl
            · have h9 := hT10
              have hp' := HP.out
              rw [htk.out]
              cases hQ : Q3 with
              | bad l2 x => rw [hQ] at h9; rw [tokD_bad h9]; omega
              | ok p l3 =>
                rw [hQ] at h9 hc
                simp only [PR.rest] at hc
                have hnd : need sComma l3 = .ok () l3.tail := by unfold need; rw [if_pos hc]
                rw [PR.bind_ok, hnd, PR.bind_ok] at h9
                rw [tokD_ok h9]
                have := (hp' p l3 hQ).2.2
                have : l3.tail.length = l3.length - 1 := List.length_tail
                omega
      · have HRx : Hid (R = rr) := hid (by
          rw [HRR.out]
          cases rr with
          | bad l1 x => rfl
          | ok es l1 =>
            have : q = false := by cases q with
              | false => rfl
              | true => exact absurd ⟨rfl, es, l1, rfl⟩ hgo
            subst this; rfl)
        have hstop : q = false ∨ (q = true ∧ ((rr.err : Int) == 0) = false) := by
          cases q with
          | false => exact .inl rfl
          | true =>
            cases rr with
            | ok es l1 => exact absurd ⟨rfl, es, l1, rfl⟩ hgo
            | bad l1 x => exact .inr ⟨rfl, by rw [beq_eq_false_iff_ne]; have := hT.1; simp only [PR.err]; omega⟩
        obtain ⟨bb, dd, ff, hI⟩ := hT.inv
        obtain ⟨i, nn, kk, cp, -, -, -, q7, qf, -⟩ := hI.look
        have HTK : Hid (Calls Tryz.prog 52 #[.pointer (some ⟨g, 0, none⟩), .string ⟨#[41]⟩] wr fun e' w' => e' = .returned (.tuple #[]) ∧ DT _ g (m - 1 - 1 - 1) (b - 3 - 3 - 3) c d w' (rr.bind fun a l => (need sRp l).bind fun _ l => .ok a l) (fun es => (F a).setG (putEs es (F a).g).1) ∧ St layD g wr w') := hid (dtake_any sRp (by decide) wr hT)
        have HT := hid hT
        have HK1 := hid hk1
        have HK0 := hid hk0
        have HV := hid hV
        have HES := hid hes
        clear hI hT hk1 hk0 hV hes hgo HRR
        rcases hstop with rfl | ⟨rfl, hz⟩
        all_goals
          go_wp2_with (go_at_call 52; go_must (refine HTK.out.mono ?_; rintro e w5 ⟨rfl, hT5, hS5⟩; have M5 := hid (HT.out.mine hS5); have hc1 := (M5.out _ (.inl (.inr rfl))).trans HK1.out; have hc0 := (M5.out _ (.inl (.inl (.inr rfl)))).trans HK0.out; have HV5 := hid (HV.out.mine M5.out); have HT5 := hid hT5; obtain ⟨⟨a0, a1, a2, a3, a4, a5, a6, a7⟩, af, al⟩ := cells8 hc0; obtain ⟨⟨d0, d1, d2, d3, d4, d5, d6, d7⟩, df, dl⟩ := cells8 hc1; clear hc0 hc1 hT5))
          have q2 := DT.set8 HT5.out (k := w.heap.size) (.inl (.inl (.inr rfl))) (.int .i64 10) (.int .i64 0) (.bool false) (.string (bs s)) (.slice va ks.length vc) (.int .i64 (-1)) (.int .i64 (-1)) (.slice none 0 0)
          refine bodyPost_ret (v := .agg #[.int .i64 10, .int .i64 0, .bool false, .string (bs s), .slice va ks.length vc, .int .i64 (-1), .int .i64 (-1), .slice none 0 0]) (by simp [results, Tryz.results193, go_sem, a0, a1, a2, a3, a4, a5, a6, a7]) rfl ⟨.slice va ks.length vc, ks, rfl, ?_, ?_, ?_, ?_, StD.set8 (hS.trans hS5) hg (Nat.le_refl _) _ _ _ _ _ _ _ _⟩
          · refine (DT.map q2.bareV.bare.bare (fun es => (a, TA.ref s es)) ?_ fun _ _ _ => rfl).mono (by omega) (by omega) (by omega) (by omega) (by omega)
            rw [HR.out, HRx.out]
            simp only [PR.bind_assoc, PR.bind_ok]
          · exact ownsRow_same HV5.out fun i hi => heap_set8 (show i ≠ w.heap.size from fun e => hne0 (by rw [← e]; exact hi)) _ _ _ _ _ _ _ _
          · exact fun i hi => ⟨q2.out (.inr hi), fun hx => by have := hXlt i hx; have := hvb i hi; omega⟩
          · intro p l' e
            rw [HR.out, HRx.out] at e
            simp only [PR.bind_assoc, PR.bind_ok] at e
            cases hrr : rr with
            | bad l1 x => rw [hrr] at e; cases e
            | ok es l1 =>
              rw [hrr, PR.bind_ok] at e
              cases hnd : need sRp l1 with
              | bad l2 x => rw [hnd] at e; cases e
              | ok u l2 =>
                rw [hnd] at e
                cases e
                rw [(HES.out es l1 hrr).1]
                exact ⟨rfl, rfl⟩
end Go.Proofs.YthcdohggffpopaaGreatDoor
