/- Layer 7: the document's Parse. -/
import Derived.Test.YthcdohggffpopaaGreatDoorC1DocRe
import Derived.Test.YthcdohggffpopaaGreatDoorC1DocT
import Derived.Test.YthcdohggffpopaaGreatDoorC1LexF
import Derived.Test.YthcdohggffpopaaGreatDoorC1LexQ
import Derived.Test.YthcdohggffpopaaGreatDoorC1LexV
import Derived.Test.YthcdohggffpopaaGreatDoorC1ParPa
import Derived.BigQuiet
import Derived.Deep.QuietTactic
import Derived.RegionTactic
import Derived.BigRegion
namespace Go.Proofs.YthcdohggffpopaaGreatDoor
open Go.Lib (hid)
open Go.ChangeShapes Go.WideShapes Go.ChangeAt Go.RowKit
def DocPost (r : FR) (e : Ending) (w' : World) : Prop :=
  match r with
  | .ok f => ∃ a1 c1 a2 c2 a3 c3 a4 c4, e = .returned (.tuple #[.agg #[.slice a1 f.cs.length c1, .slice a2 f.ss.length c2, .slice a3 f.g.xs.length c3, .slice a4 f.g.ts.length c4], .agg #[.int .i64 0, .int .i64 0], .int .i64 0]) ∧
      SlR 2 CoC w' (.slice a1 f.cs.length c1) f.cs ∧ SlR 3 SrC w' (.slice a2 f.ss.length c2) f.ss ∧ SlR 5 XrC w' (.slice a3 f.g.xs.length c3) f.g.xs ∧ SlR 8 TrC w' (.slice a4 f.g.ts.length c4) f.g.ts
  | .bad p x => e = .returned (.tuple #[.agg #[.slice none 0 0, .slice none 0 0, .slice none 0 0, .slice none 0 0], .agg #[.int .i64 (p.1 : Nat), .int .i64 (p.2 : Nat)], .int .i64 (x : Nat)])
theorem fileP_eq8 (ts : List Tok) : fileP ts = fileL (fuel ts) [] [] ts := by unfold fileP; rfl
theorem DInv.slC {X : Nat → Prop} {g b : Nat} {w : World} {l : List Tok} {e : Nat} {d : Int} {f : FM} {v : Value} (h : DInv X g b w l e d f) (hv : w.cell? ⟨g, 3, none⟩ = some v) : SlR 2 CoC w v f.cs := by
  obtain ⟨a1, c1, a2, c2, a3, c3, a4, c4, z3, z4, z5, z6, s1, s2, s3, s4⟩ := h.file
  rw [z3] at hv; cases hv; exact s1
theorem DInv.slS {X : Nat → Prop} {g b : Nat} {w : World} {l : List Tok} {e : Nat} {d : Int} {f : FM} {v : Value} (h : DInv X g b w l e d f) (hv : w.cell? ⟨g, 4, none⟩ = some v) : SlR 3 SrC w v f.ss := by
  obtain ⟨a1, c1, a2, c2, a3, c3, a4, c4, z3, z4, z5, z6, s1, s2, s3, s4⟩ := h.file
  rw [z4] at hv; cases hv; exact s2
theorem DInv.slX {X : Nat → Prop} {g b : Nat} {w : World} {l : List Tok} {e : Nat} {d : Int} {f : FM} {v : Value} (h : DInv X g b w l e d f) (hv : w.cell? ⟨g, 5, none⟩ = some v) : SlR 5 XrC w v f.g.xs := by
  obtain ⟨a1, c1, a2, c2, a3, c3, a4, c4, z3, z4, z5, z6, s1, s2, s3, s4⟩ := h.file
  rw [z5] at hv; cases hv; exact s3
theorem DInv.slT {X : Nat → Prop} {g b : Nat} {w : World} {l : List Tok} {e : Nat} {d : Int} {f : FM} {v : Value} (h : DInv X g b w l e d f) (hv : w.cell? ⟨g, 6, none⟩ = some v) : SlR 8 TrC w v f.g.ts := by
  obtain ⟨a1, c1, a2, c2, a3, c3, a4, c4, z3, z4, z5, z6, s1, s2, s3, s4⟩ := h.file
  rw [z6] at hv; cases hv; exact s4
theorem St0.base {L : Lay} {g B : Nat} {W w' : World} (h : St0 L g W w') (hO : ∀ b, b < B → Out L g W b) : Below B W w' := ⟨h.os, h.tape, h.output, h.size, fun b hb => (h.stay b (hO b hb)).1⟩
theorem ne_addr {g k : Nat} (h : g ≠ k) (i j : Nat) : (⟨k, i, none⟩ : Addr) ≠ ⟨g, j, none⟩ := fun e => h (congrArg Addr.block e).symm
theorem ne_addr' {g k : Nat} (h : g ≠ k) (i j : Nat) : (⟨g, j, none⟩ : Addr) ≠ ⟨k, i, none⟩ := fun e => h (congrArg Addr.block e)
theorem DInv.tokX {X : Nat → Prop} {g b : Nat} {w : World} {l : List Tok} {e : Nat} {d : Int} {f : FM} (h : DInv X g b w l e d f) {k n c : Nat} (hv : w.cell? ⟨g, 0, none⟩ = some (.slice (some ⟨k, 0, none⟩) n c)) : ¬ X k := by
  obtain ⟨L, i, a, c', vc, vs, vx, vt, hh, h1, h2, h3, h4, h5⟩ := h.mem
  rw [cell_of_row _ _ _ _ _ (0, 0) hh] at hv
  simp only [List.getElem?_toArray, List.getElem?_cons_zero, Option.some.injEq, Value.slice.injEq] at hv
  have hd := h.wf.hd
  rw [← h3, List.getElem?_drop] at hd
  obtain ⟨k', e1, hk, _⟩ := h4 _ _ hd
  rw [hv.1] at e1
  simp only [Option.some.injEq, Addr.mk.injEq, and_true] at e1
  rw [e1]
  exact hk.2
theorem info_dconst : (Tryz.prog.info? 130).map (fun i => (i.zero, i.size, i.bytes)) = some (some (.agg #[.string ⟨#[]⟩, .int .u64 0]), 2, 24) := by kernel_rfl
theorem info_dstruct : (Tryz.prog.info? 58).map (fun i => (i.zero, i.size, i.bytes)) = some (some (.agg #[.string ⟨#[]⟩, .slice none 0 0, .slice none 0 0]), 3, 64) := by kernel_rfl
theorem frozen_of_block8 {w w' : World} {g : Nat} (h : w'.heap[g]? = w.heap[g]?) (j : Nat) : w'.frozen? ⟨g, j, none⟩ = w.frozen? ⟨g, j, none⟩ := by simp [World.frozen?, h]
theorem DT.off3 {β : Type} {X : Nat → Prop} {g m b c d : Nat} {w : World} {r : PR β} {F : β → FM} (h : DT X g m b c d w r F) {v : Value} (hv : w.cell? ⟨g, 3, none⟩ = some v) : v.ownBlock ≠ some g := by
  obtain ⟨b', d', f', hI⟩ := h.inv
  obtain ⟨L, i, a, c', vc, vs, vx, vt, hh, h1, h2, h3, h4, h5⟩ := hI.mem
  rw [cell_of_row _ _ _ _ _ (0, 0) hh] at hv
  simp only [List.getElem?_toArray, List.getElem?_cons_succ, List.getElem?_cons_zero, Option.some.injEq] at hv
  rw [← hv]; exact h5.c.off hh (by decide)
theorem DT.off4 {β : Type} {X : Nat → Prop} {g m b c d : Nat} {w : World} {r : PR β} {F : β → FM} (h : DT X g m b c d w r F) {v : Value} (hv : w.cell? ⟨g, 4, none⟩ = some v) : v.ownBlock ≠ some g := by
  obtain ⟨b', d', f', hI⟩ := h.inv
  obtain ⟨L, i, a, c', vc, vs, vx, vt, hh, h1, h2, h3, h4, h5⟩ := hI.mem
  rw [cell_of_row _ _ _ _ _ (0, 0) hh] at hv
  simp only [List.getElem?_toArray, List.getElem?_cons_succ, List.getElem?_cons_zero, Option.some.injEq] at hv
  rw [← hv]; exact h5.s.off hh (by decide)
theorem DT.frz {β : Type} {X : Nat → Prop} {g m b c d : Nat} {w : World} {r : PR β} {F : β → FM} (h : DT X g m b c d w r F) : ∀ j, w.frozen? ⟨g, j, none⟩ = false := by
  obtain ⟨b', d', f', hI⟩ := h.inv
  obtain ⟨i, n, k, cp, h0, h1, h2, h7, hf, _⟩ := hI.look
  exact hf
theorem cells2P {T : TypeId} {w : World} {k : Nat} {v0 v1 : Value} (h : w.heap[k]? = some (.cells #[v0, v1] T (0, 0))) : w.cell? ⟨k, 0, none⟩ = some v0 ∧ w.cell? ⟨k, 1, none⟩ = some v1 ∧ w.frozen? ⟨k, 0, none⟩ = false ∧ w.frozen? ⟨k, 1, none⟩ = false := by
  refine ⟨?_, ?_, by simp [World.frozen?, h], by simp [World.frozen?, h]⟩ <;> (rw [cell_of_row _ _ _ _ _ (0, 0) h]; rfl)
theorem cells4P {T : TypeId} {w : World} {k : Nat} {v0 v1 v2 v3 : Value} (h : w.heap[k]? = some (.cells #[v0, v1, v2, v3] T (0, 0))) : (w.cell? ⟨k, 0, none⟩ = some v0 ∧ w.cell? ⟨k, 1, none⟩ = some v1 ∧ w.cell? ⟨k, 2, none⟩ = some v2 ∧ w.cell? ⟨k, 3, none⟩ = some v3) ∧ ∀ j, w.frozen? ⟨k, j, none⟩ = false := by
  refine ⟨⟨?_, ?_, ?_, ?_⟩, fun j => ?_⟩
  · rw [cell_of_row _ _ _ _ _ (0, 0) h]; rfl
  · rw [cell_of_row _ _ _ _ _ (0, 0) h]; rfl
  · rw [cell_of_row _ _ _ _ _ (0, 0) h]; rfl
  · rw [cell_of_row _ _ _ _ _ (0, 0) h]; rfl
  · simp [World.frozen?, h]
set_option maxHeartbeats 16000000 in
set_option maxRecDepth 100000 in
theorem dparse_any (s : ByteArray) (w : World) :
    Calls Tryz.prog 15 #[.string s] w fun e w' => DocPost (parseL s.data.toList) e w' ∧ Below w.heap.size w w' := by
  have hB0 : Below w.heap.size w ((w.alloc (.cells #[.slice none 0 0, .slice none 0 0, .slice none 0 0, .slice none 0 0] 33)).alloc (.cells #[.int .i64 0, .int .i64 0] 34)) := (below_box _ _).alloc (by simp) _
  have h0 := heap_alloc_new w (.cells #[.slice none 0 0, .slice none 0 0, .slice none 0 0, .slice none 0 0] 33)
  have hs0 : (w.alloc (.cells #[.slice none 0 0, .slice none 0 0, .slice none 0 0, .slice none 0 0] 33)).heap.size = w.heap.size + 1 := by simp
  have h1 := heap_alloc_new (w.alloc (.cells #[.slice none 0 0, .slice none 0 0, .slice none 0 0, .slice none 0 0] 33)) (.cells #[.int .i64 0, .int .i64 0] 34)
  rw [hs0] at h1
  have h0 : ((w.alloc (.cells #[.slice none 0 0, .slice none 0 0, .slice none 0 0, .slice none 0 0] 33)).alloc (.cells #[.int .i64 0, .int .i64 0] 34)).heap[w.heap.size]? = some (.cells #[.slice none 0 0, .slice none 0 0, .slice none 0 0, .slice none 0 0] 33 (0, 0)) := by rw [Below.heap_alloc _ _ _ (by omega)]; exact h0
  have HB0 := hid hB0
  have HX0 := hid h0
  have HY0 := hid h1
  have CL := hid (refLex_any s ((w.alloc (.cells #[.slice none 0 0, .slice none 0 0, .slice none 0 0, .slice none 0 0] 33)).alloc (.cells #[.int .i64 0, .int .i64 0] 34)))
  have hz0 : ((w.alloc (.cells #[.slice none 0 0, .slice none 0 0, .slice none 0 0, .slice none 0 0] 33)).alloc (.cells #[.int .i64 0, .int .i64 0] 34)).heap.size = w.heap.size + 2 := by simp
  have HP : Hid (parseL s.data.toList = match lexL s.data.toList with
    | .bad p e => .bad p e
    | .ok ts => match fileP ts with
      | .ok a _ => .ok (putF a.1 a.2)
      | .bad l e => .bad (hd l).p e) := hid rfl
  have HNE : Hid (∀ p x, lexL s.data.toList = .bad p x → x ≠ 0) := hid fun p x h => (lexL_bad_at h).2
  have HWF : Hid (∀ ts, lexL s.data.toList = .ok ts → WF ts ∧ ts.length ≤ 16385) := hid fun ts h => ⟨lexL_wf h, (lexL_all h).1⟩
  generalize lexL s.data.toList = r at CL HP HWF HNE
  clear hB0 h0 h1 hs0
  go_enter Tryz.func15, Tryz.ntmps15
  go_wp2_with fail
  generalize ((w.alloc (.cells #[.slice none 0 0, .slice none 0 0, .slice none 0 0, .slice none 0 0] 33)).alloc (.cells #[.int .i64 0, .int .i64 0] 34)) = W0 at CL HB0 HX0 HY0 hz0 ⊢
  refine CL.out.mono ?_
  rintro e w1 ⟨v, rfl, hT, hb⟩
  clear CL
  have hB1 := hb
  have hsz : w.heap.size + 2 ≤ w1.heap.size := by have := hb.size; omega
  cases r with
  | bad p x =>
    obtain ⟨p1, p2⟩ := p
    have hx : x ≠ 0 := HNE.out _ _ rfl
    have hxI : ((x : Int) != 0) = true := by simp; omega
    have HX1 := ((hb.trans (below_box w1 (.cells #[.int .i64 (p1 : Nat), .int .i64 (p2 : Nat)] 34) |>.mono hb.size)).block w.heap.size (by omega)).trans HX0.out
    have HY1 := ((hb.trans (below_box w1 (.cells #[.int .i64 (p1 : Nat), .int .i64 (p2 : Nat)] 34) |>.mono hb.size)).block (w.heap.size + 1) (by omega)).trans HY0.out
    have HZ1 := heap_alloc_new w1 (.cells #[.int .i64 (p1 : Nat), .int .i64 (p2 : Nat)] 34)
    have HB1 := hid (HB0.out.trans ((hb.trans (below_box w1 (.cells #[.int .i64 (p1 : Nat), .int .i64 (p2 : Nat)] 34) |>.mono hb.size)).mono HB0.out.size))
    have HXh := hid HX1
    have HYh := hid HY1
    have HZh := hid HZ1
    have hne : Hid (w1.heap.size ≠ w.heap.size ∧ w1.heap.size ≠ w.heap.size + 1) := hid ⟨by omega, by omega⟩
    clear hT hb hB1 HX1 HY1 HZ1 HX0 HY0 HB0 HWF HNE hz0 hx
    dsimp only [LR.pos, LR.err]
    have hsz2 : (w1.alloc (.cells #[.int .i64 (p1 : Nat), .int .i64 (p2 : Nat)] 34)).heap.size = w1.heap.size + 1 := by simp
    go_wp2_with fail
    generalize w1.alloc (.cells #[.int .i64 (p1 : Nat), .int .i64 (p2 : Nat)] 34) = W2 at HB1 HXh HYh HZh hsz2 ⊢
    obtain ⟨⟨x0, x1, x2, x3⟩, xf⟩ := cells4P HXh.out
    obtain ⟨y0, y1, y2, y3⟩ := cells2P HYh.out
    obtain ⟨z0, z1, z2, z3⟩ := cells2P HZh.out
    have xf0 := xf 0
    have xf1 := xf 1
    have xf2 := xf 2
    have xf3 := xf 3
    have hn1 := hne.out.1
    have hn2 := hne.out.2
    go_region
    all_goals go_wp2_with fail
    all_goals
      refine bodyPost_ret (v := .tuple #[.agg #[.slice none 0 0, .slice none 0 0, .slice none 0 0, .slice none 0 0], .agg #[.int .i64 (p1 : Nat), .int .i64 (p2 : Nat)], .int .i64 (x : Nat)]) (by simp [results, Tryz.results15, go_sem, x0, x1, x2, x3, y0, y1]) rfl ⟨?_, ?_⟩
      · rw [HP.out]; rfl
      · repeat (first | with_reducible exact HB1.out | with_reducible exact Nat.le_refl _ | with_reducible exact Nat.le_succ _ | with_reducible refine Below.drew ?_ | with_reducible refine Below.setCell ?_ ?_ _)
  | ok ts =>
    obtain ⟨hwf, hlen⟩ := HWF.out ts rfl
    obtain ⟨R, hR⟩ : ∃ R, fileP ts = R := ⟨_, rfl⟩
    have HR := hid hR.symm
    have HX1 := ((hb.trans (below_box w1 (.cells #[.int .i64 0, .int .i64 0] 34) |>.mono hb.size)).block w.heap.size (by omega)).trans HX0.out
    have HY1 := ((hb.trans (below_box w1 (.cells #[.int .i64 0, .int .i64 0] 34) |>.mono hb.size)).block (w.heap.size + 1) (by omega)).trans HY0.out
    have HB1 := hid (HB0.out.trans ((hb.trans (below_box w1 (.cells #[.int .i64 0, .int .i64 0] 34) |>.mono hb.size)).mono HB0.out.size))
    have hsh : ∃ a c, v = .slice a ts.length c := by
      rcases id hT.2 with ⟨h1, h2⟩ | ⟨g, cap, cur, hv, _⟩
      · exact absurd (List.eq_nil_of_length_eq_zero h2) hwf.ne
      · exact ⟨_, _, hv⟩
    have hT2 := hT.alloc (.cells #[.int .i64 0, .int .i64 0] 34)
    have hsz2 : (w1.alloc (.cells #[.int .i64 0, .int .i64 0] 34)).heap.size = w1.heap.size + 1 := by simp
    have DS := hid (DInv.start (X := fun k => k = w.heap.size ∨ k = w.heap.size + 1) (fun k h => by rcases h with rfl | rfl <;> omega) (by omega) hT2 hwf hlen)
    have HXh := hid HX1
    have HYh := hid HY1
    have HO : Hid (∀ b, b < (w1.alloc (.cells #[.int .i64 0, .int .i64 0] 34)).heap.size → Out layD (w1.alloc (.cells #[.int .i64 0, .int .i64 0] 34)).heap.size ((w1.alloc (.cells #[.int .i64 0, .int .i64 0] 34)).alloc (.cells #[v, .int .i64 0, .int .i64 0, .slice none 0 0, .slice none 0 0, .slice none 0 0, .slice none 0 0, .int .i64 0] 124)) b) := hid fun b hb => out_newD hb
    dsimp only [LR.pos, LR.err]
    clear hT hb hB1 HX1 HY1 HX0 HY0 HB0 HWF HNE hT2 hR hsz2
    obtain ⟨va, vc, rfl⟩ := hsh
    go_wp2_with fail
    have hw2 : w.heap.size + 2 ≤ (w1.alloc (.cells #[.int .i64 0, .int .i64 0] 34)).heap.size := by simp; omega
    have hq2 : (w1.alloc (.cells #[.int .i64 0, .int .i64 0] 34)).heap.size = w1.heap.size + 1 := by simp
    generalize w1.alloc (.cells #[.int .i64 0, .int .i64 0] 34) = W2 at DS HB1 HXh HYh HO hw2 hq2 ⊢
    have HXW := hid ((Below.heap_alloc W2 (.cells #[.slice va ts.length vc, .int .i64 0, .int .i64 0, .slice none 0 0, .slice none 0 0, .slice none 0 0, .slice none 0 0, .int .i64 0] 124) w.heap.size (by omega)).trans HXh.out)
    have HYW := hid ((Below.heap_alloc W2 (.cells #[.slice va ts.length vc, .int .i64 0, .int .i64 0, .slice none 0 0, .slice none 0 0, .slice none 0 0, .slice none 0 0, .int .i64 0] 124) (w.heap.size + 1) (by omega)).trans HYh.out)
    have HB3 := hid (HB1.out.alloc (by omega) (.cells #[.slice va ts.length vc, .int .i64 0, .int .i64 0, .slice none 0 0, .slice none 0 0, .slice none 0 0, .slice none 0 0, .int .i64 0] 124))
    obtain ⟨g, hg⟩ : ∃ g, W2.heap.size = g := ⟨_, rfl⟩
    rw [hg] at DS HO hw2 hq2
    rw [← hq2]
    clear hq2
    generalize W2.alloc (.cells #[.slice va ts.length vc, .int .i64 0, .int .i64 0, .slice none 0 0, .slice none 0 0, .slice none 0 0, .slice none 0 0, .int .i64 0] 124) = W3 at DS HO HXW HYW HB3 ⊢
    clear HXh HYh HB1 hg
    obtain ⟨C, hC⟩ : ∃ C, C = 3 * ts.length + 16 * fuel ts + 40 := ⟨_, rfl⟩
    have hfu : fuel ts = 8 * ts.length + 20 := rfl
    have hts := hwf.pos
    go_loopw [9] (fun s9 wr => ∃ (rr : PR (List (List UInt8 × Nat) × List SA)) (j : Nat), DT (fun k => k = w.heap.size ∨ k = w.heap.size + 1) g ts.length (3 * ts.length) C 0 wr rr (fun p => putF p.1 p.2) ∧ St0 layD g W3 wr ∧ (∀ p l, rr = .ok p l → 8 * l.length + 9 ≤ j ∧ p.1.length ≤ 64 ∧ p.2.length ≤ 64) ∧ j ≤ fuel ts ∧ Hid (R = rr.bind fun p l => fileL j p.1 p.2 l)) (fun _ wr => tokD g wr)
    case atStart =>
      refine ⟨.ok ([], []) ts, fuel ts, ⟨DS.out, Nat.le_refl _, by decide, by omega, by omega⟩, .refl _ _ _, ?_, Nat.le_refl _, hid ?_⟩
      · intro p l e
        cases e
        exact ⟨by omega, by simp, by simp⟩
      · rw [HR.out, PR.bind_ok, fileP_eq8]
    case round =>
      obtain ⟨rr, j, hD, hS0, hok, hj, HRR⟩ := hrel
      clear DS
      by_cases hrr : ∃ p l, rr = .ok p l
      rotate_left
      · obtain ⟨l, x, rfl⟩ : ∃ l x, rr = .bad l x := by
          cases rr with
          | ok p l => exact absurd ⟨p, l, rfl⟩ hrr
          | bad l x => exact ⟨l, x, rfl⟩
        have hz := hD.err_eq
        obtain ⟨b', d', f', hI⟩ := hD.inv
        obtain ⟨i9, n9, k9, c9, e0, e1, -, e7, ef, e3, e4, e5, -, e6, -, -, -, y3, y4⟩ := hI.look
        have hltI : (i9 : Int) < (n9 : Int) := by have := hI.wf.pos; omega
        have hX4 := ((hS0.stay w.heap.size (HO.out _ (by omega))).1).trans HXW.out
        have hY4 := ((hS0.stay (w.heap.size + 1) (HO.out _ (by omega))).1).trans HYW.out
        obtain ⟨⟨x0, x1, x2, x3⟩, xf⟩ := cells4P hX4
        obtain ⟨t0, t1, t2, t3⟩ := cells2P hY4
        have xf0 := xf 0
        have xf1 := xf 1
        have xf2 := xf 2
        have xf3 := xf 3
        have HW2 := hid hw2
        have hkX := hI.tokX e0
        have hg0 : ¬ g = w.heap.size := by omega
        have hg1 : ¬ g = w.heap.size + 1 := by omega
        have hg2 : ¬ w.heap.size = g := by omega
        have hg3 : ¬ w.heap.size + 1 = g := by omega
        have hk0 : ¬ k9 = w.heap.size := fun e => hkX (.inl e)
        have hk1 : ¬ k9 = w.heap.size + 1 := fun e => hkX (.inr e)
        have hk2 : ¬ w.heap.size = k9 := fun e => hkX (.inl e.symm)
        have hk4 : ¬ w.heap.size + 1 = k9 := fun e => hkX (.inr e.symm)
        have HR1 : Hid (R = .bad l x) := hid (by rw [HRR.out]; rfl)
        have hb4 := hid (HB3.out.trans (hS0.base fun b hb => HO.out b (by have := HW2.out; omega)) : Below w.heap.size w wr)
        simp only [PR.err, PR.rest] at e7 e3 y3 y4
        clear hX4 hY4 xf hI hD hS0 hok hrr HRR hw2 hkX
        go_wp2_with fail
        go_region
        all_goals go_wp2_with fail
        all_goals
          refine bodyPost_ret (v := .tuple #[.agg #[.slice none 0 0, .slice none 0 0, .slice none 0 0, .slice none 0 0], .agg #[.int .i64 ((hd l).p.1 : Nat), .int .i64 ((hd l).p.2 : Nat)], .int .i64 (x : Nat)]) (by simp [results, Tryz.results15, go_sem, x0, x1, x2, x3, t0, t1]) rfl ⟨?_, ?_⟩
          · rw [HP.out]
            show DocPost (match fileP ts with | .ok a _ => .ok (putF a.1 a.2) | .bad l e => .bad (hd l).p e) _ _
            rw [← HR.out, HR1.out]
            rfl
          · have hb5 := hb4.out
            repeat (first | with_reducible exact hb5 | with_reducible exact Nat.le_refl _ | with_reducible exact Nat.le_succ _ | with_reducible refine Below.drew ?_ | with_reducible refine Below.setCell ?_ ?_ _)
      obtain ⟨⟨cs, ss⟩, l, rfl⟩ := hrr
      obtain ⟨hjl, hcs, hss⟩ := hok _ _ rfl
      dsimp only at hcs hss
      obtain ⟨j, rfl⟩ : ∃ j', j = j' + 1 := ⟨j - 1, by omega⟩
      have hwl := hD.1.wf
      have hlp := hwl.pos
      have htk := hid (tokD_ok hD)
      obtain ⟨a1, c1, a2, c2, u3, u4⟩ := hD.two
      change wr.cell? _ = some (.slice a1 cs.length c1) at u3
      obtain ⟨i, nn, kk, cp, dd, -, -, -, q7, qf⟩ := hD.cells
      simp only [PR.err] at q7
      have D1 := hid (DT.again hD)
      have hlm := hD.2.1
      have T1 := hid hS0
      rw [PR.bind_ok] at HRR
      dsimp only at HRR
      clear hok hD hS0
      cases f1 : isT kConst l
      rotate_left
      · have hk3 : (hd l).tk.k ≠ 3 := by
          rcases hwl.cases with ⟨h1, _⟩ | ⟨h1, _⟩
          · unfold isT at f1
            rw [h1] at f1
            exact absurd f1 (by decide)
          · have := h1.k; omega
        have f2 : isT kStruct l = false := by
          unfold isT at *
          simp only [decide_eq_true_eq] at f1
          simp only [decide_eq_false_iff_not]
          rw [f1]
          decide
        have HR1 : Hid (R = (roomP cs.length l).bind fun _ _ => (constP l).bind fun c l1 => fileL j (cs ++ [c]) ss l1) := hid (by rw [HRR.out, fileL, if_neg hk3, if_pos f1])
        have HF2 := hid f2
        have C1 := hid (dis_lit kConst (by decide) ⟨#[99, 111, 110, 115, 116]⟩ rfl _ D1.out (show isT kConst (PR.ok (cs, ss) l : PR (List (List UInt8 × Nat) × List SA)).rest = true from f1))
        obtain ⟨i0, hi0, hz0, hz1, hz2⟩ := info_parts info_dconst
        clear HRR hk3 f1 f2 u4
        go_wp2_with (first | (go_at_call 50; (first | ((with_reducible refine C1.out.mono ?_); rintro e w2 ⟨rfl, hb⟩; have D2 := hid (D1.out.below hb); have T2 := hid (T1.out.trans (.below D1.out.lt hb)); have U3 := (hb.cell (p := ⟨g, 3, none⟩) D1.out.lt).trans u3; clear hb u3 q7 qf; have C2 := hid (dis_lit kStruct (by decide) ⟨#[115, 116, 114, 117, 99, 116]⟩ rfl _ D2.out (show isT kStruct (PR.ok (cs, ss) l : PR (List (List UInt8 × Nat) × List SA)).rest = false from HF2.out))) | ((with_reducible refine C2.out.mono ?_); rintro e w3 ⟨rfl, hb⟩; have D3 := hid (D2.out.below hb); have T3 := hid (T2.out.trans (.below D2.out.lt hb)); have u3 := (hb.cell (p := ⟨g, 3, none⟩) D2.out.lt).trans U3; clear hb U3; have C3 := hid (droom_any cs.length _ D3.out)))) | (go_at_call 51; (first | ((with_reducible refine C3.out.mono ?_); rintro e w4 ⟨rfl, hT, hS⟩; have D4 := hid hT; have T4 := hid (T3.out.trans hS.toSt0); have L4 := hid hS; clear hT hS; have HU3 := hid u3; clear u3; have C4 := hid (dtake_lit kConst (by decide) ⟨#[99, 111, 110, 115, 116]⟩ rfl _ D4.out)))) | (go_at_call 52; (first | ((with_reducible refine C4.out.mono ?_); rintro e w5 ⟨rfl, hT, hS⟩; have D5 := hid hT; have T5 := hid (T4.out.trans hS.toSt0); have L5 := hid (L4.out.trans hS); clear hT hS; have C5 := hid (dname_any _ D5.out)) | ((with_reducible refine C6.out.mono ?_); rintro e w7 ⟨rfl, hT, hS⟩; have D7 := hid hT; have T7 := hid (T6.out.trans hS.toSt0); have L7 := hid (L6.out.trans hS); clear hT hS; have C7 := hid (dnum_any _ D7.out)) | ((with_reducible refine C8.out.mono ?_); rintro e w9 ⟨rfl, hT, hS⟩; have D9 := hid hT; have T9 := hid (T8.out.trans hS.toSt0); have L9 := hid (L8.out.trans hS); clear hT hS; have u9 : w9.cell? ⟨g, 3, none⟩ = some (.slice a1 cs.length c1) := (L9.out.keep 3 (by decide)).trans HU3.out; have hne9 := D9.out.off3 u9; have hfz9 := D9.out.frz; obtain ⟨css, qown, PUSH⟩ := D9.out.pushC (γ := List (List UInt8 × Nat) × List SA) u9 (by omega) (s1, k1); have QOWN := hid qown; have HPU := hid PUSH; clear qown PUSH))) | (go_at_call 53; (first | ((with_reducible refine C5.out.mono ?_); rintro e w6 ⟨s1, rfl, hT, hs, hS⟩; have D6 := hid hT; have T6 := hid (T5.out.trans hS.toSt0); have L6 := hid (L5.out.trans hS); clear hT hS; have HS1 := hid hs; clear hs; have C6 := hid (dtake_lit sEq (by decide) ⟨#[61]⟩ rfl _ D6.out)))) | (go_at_call 54; (first | ((with_reducible refine C7.out.mono ?_); rintro e w8 ⟨k1, rfl, hT, hs, hS⟩; have D8 := hid hT; have T8 := hid (T7.out.trans hS.toSt0); have L8 := hid (L7.out.trans hS); clear hT hS; have HS2 := hid hs; clear hs; have C8 := hid (dtake_lit sSemi (by decide) ⟨#[59]⟩ rfl _ D8.out)))) | (at_builtin; refine list_one rfl _ _ 28 rfl 130 i0 _ 2 24 Tryz.underlying28 hi0 hz0 hz1 hz2 rfl (by decide) (.slice a1 cs.length c1) cs.length css.flatten rfl (RowR.below QOWN.out (below_box w9 _)) _ _ [.string (bs s1), .int .u64 (k1 : Int)] rfl rfl (heap_alloc_new w9 _) (fun u hu => by (simp only [List.mem_cons, List.mem_nil_iff, or_false] at hu; rcases hu with rfl | rfl <;> rfl)) (by unfold maxLen; omega) (by omega) ?_; intro v' w10 hown hgrow hat; obtain ⟨va', vc', rfl⟩ := ownsRow_shape hown; have hw10 := grown_cell (below_box w9 (.cells #[.string (bs s1), .int .u64 (k1 : Int)] 130)) D9.out.lt hgrow hne9; have v3 : w10.cell? ⟨g, 3, none⟩ = some (.slice a1 cs.length c1) := (World.cell?_of_block (a := ⟨g, 3, none⟩) hw10).trans u9; have vf : w10.frozen? ⟨g, 3, none⟩ = false := (frozen_of_block8 hw10 3).trans (hfz9 3); have HOW := hid hown; have HGR := hid hgrow; have HAT := hid hat; clear hown hgrow hat hw10 u9 hfz9))
        have HF : Hid (∀ q l', (((((((.ok (cs, ss) l : PR (List (List UInt8 × Nat) × List SA)).bind fun a l => (roomP cs.length l).bind fun _ l => .ok a l).bind fun a l => (need kConst l).bind fun _ l => .ok a l).bind fun a l => (nameP l).bind fun y l => .ok (a, y) l).bind fun a l => (need sEq l).bind fun _ l => .ok a l).bind fun a l => (numP l).bind fun y l => .ok (a, y) l).bind fun a l => (need sSemi l).bind fun _ l => .ok a l) = .ok q l' → q.1.1 = (cs, ss) ∧ q.1.2 = s1 ∧ q.2 = k1 ∧ cs.length < 64) := hid fun q l' e => by
          obtain ⟨l1, e1⟩ := keep_ok e
          have h2 := HS2.out q l1 e1
          obtain ⟨l2, e2, _⟩ := pair_ok e1
          obtain ⟨l3, e3⟩ := keep_ok e2
          have h1 := HS1.out q.1 l3 e3
          obtain ⟨l4, e4, _⟩ := pair_ok e3
          obtain ⟨l5, e5⟩ := keep_ok e4
          obtain ⟨h3, _, h4⟩ := room_ok e5
          exact ⟨h3, h1.symm, h2.symm, h4⟩
        have HDT := hid (HPU.out (fun q => (q.1.1.1 ++ [(q.1.2, q.2)], q.1.1.2)) (fun p => putF p.1 p.2) _ _ _ (below_box w9 _) HOW.out HGR.out HAT.out (fun q l' e => by
          obtain ⟨h1, h2, h3, _⟩ := HF.out q l' e
          rw [h1, h2, h3]
          exact (putF_const cs ss (s1, k1)).symm))
        have hle := hid (tokD_le HDT.out.1)
        go_roundw
        case rel =>
          have hmm := D9.out
          refine ⟨_, j, HDT.out.1.mono (by omega) (by omega) (by omega) (by omega) (by omega), T9.out.trans HDT.out.2, ?_, by omega, hid ?_⟩
          · intro p l' e
            obtain ⟨q, e', rfl⟩ := map_ok e
            obtain ⟨h1, h2, h3, h4⟩ := HF.out q l' e'
            rw [e'] at hmm
            have hmm := hmm.2.1
            refine ⟨by omega, ?_, ?_⟩
            · rw [h1]; simp only [List.length_append, List.length_singleton]; omega
            · rw [h1]; exact hss
          · rw [HR1.out]
            unfold constP
            rcases hrm : roomP cs.length l with ⟨u, l7⟩ | ⟨l7, x7⟩
            · obtain ⟨rfl, _⟩ := room_same hrm
              simp only [PR.bind_assoc, PR.bind_ok, hrm]
            · simp only [PR.bind_assoc, PR.bind_ok, PR.bind_bad, hrm]
        case measure =>
          have := hle.out
          rw [htk.out]
          omega
      · have HF1 := hid f1
        have C1 := hid (dis_lit kConst (by decide) ⟨#[99, 111, 110, 115, 116]⟩ rfl _ D1.out (show isT kConst (PR.ok (cs, ss) l : PR (List (List UInt8 × Nat) × List SA)).rest = false from f1))
        cases f2 : isT kStruct l
        · have HF2 := hid f2
          have b3 : (((hd l).tk.k : Int) == 3) = decide ((hd l).tk.k = 3) := beq_nat (hd l).tk.k 3
          by_cases hk3 : (hd l).tk.k = 3
          · rw [decide_eq_true hk3] at b3
            have HR1 : Hid (R = .ok (cs, ss) l) := hid (by rw [HRR.out, fileL, if_pos hk3])
            clear HRR hk3 f1 f2 u3 u4
            go_wp2_with (go_at_call 50; (first | ((with_reducible refine C1.out.mono ?_); rintro e w2 ⟨rfl, hb⟩; have D2 := hid (D1.out.below hb); have T2 := hid (T1.out.trans (.below D1.out.lt hb)); clear hb q7 qf; have C2 := hid (dis_lit kStruct (by decide) ⟨#[115, 116, 114, 117, 99, 116]⟩ rfl _ D2.out (show isT kStruct (PR.ok (cs, ss) l : PR (List (List UInt8 × Nat) × List SA)).rest = false from HF2.out))) | ((with_reducible refine C2.out.mono ?_); rintro e w3 ⟨rfl, hb⟩; have D3 := hid (D2.out.below hb); have T3 := hid (T2.out.trans (.below D2.out.lt hb)); clear hb; obtain ⟨i9, n9, k9, c9, e0, e1, -, e7, ef, e3, e4, e5, -, e6, y0, -⟩ := D3.out.1.look; have hltI : (i9 : Int) < (n9 : Int) := by omega)))
            go_quiet (fail)
            have D4 := hid (D3.out.below (below_drewN w3.heap.size w3 nq))
            have T4 := hid (T3.out.trans (.below D3.out.lt (below_drewN w3.heap.size w3 nq)))
            generalize w3.drewN nq = w4 at D4 T4 ⊢
            obtain ⟨b1, r1, b2, r2, b3', r3, b4, r4, z3, z4, z5, z6, -, -, -, -⟩ := D4.out.1.file
            have hX4 := ((T4.out.stay w.heap.size (HO.out _ (by omega))).1).trans HXW.out
            have hY4 := ((T4.out.stay (w.heap.size + 1) (HO.out _ (by omega))).1).trans HYW.out
            obtain ⟨⟨x0, x1, x2, x3⟩, xf⟩ := cells4P hX4
            obtain ⟨t0, t1, t2, t3⟩ := cells2P hY4
            have xf0 := xf 0
            have xf1 := xf 1
            have xf2 := xf 2
            have xf3 := xf 3
            have HW2 := hid hw2
            clear hX4 hY4 xf e0 e1 e7 ef e3 e4 e5 e6 y0 hltI D1 D2 D3 T1 T2 T3 C1 C2
            dsimp only at z3 z4 z5 z6
            go_wp2_with fail
            refine bodyPost_ret (v := .tuple #[.agg #[.slice b1 (putF cs ss).cs.length r1, .slice b2 (putF cs ss).ss.length r2, .slice b3' (putF cs ss).g.xs.length r3, .slice b4 (putF cs ss).g.ts.length r4], .agg #[.int .i64 0, .int .i64 0], .int .i64 0]) (by simp [results, Tryz.results15, go_sem, x0, x1, x2, x3, t0, t1]) rfl ⟨?_, ?_⟩
            · rw [HP.out]
              show DocPost (match fileP ts with | .ok a _ => .ok (putF a.1 a.2) | .bad l e => .bad (hd l).p e) _ _
              rw [← HR.out, HR1.out]
              have hg0 : g ≠ w.heap.size := by have := HW2.out; omega
              have hg1 : g ≠ w.heap.size + 1 := by have := HW2.out; omega
              refine ⟨b1, r1, b2, r2, b3', r3, b4, r4, rfl, ?_, ?_, ?_, ?_⟩
              · refine DInv.slC (g := g) (X := fun k => k = w.heap.size ∨ k = w.heap.size + 1) (f := putF cs ss) ((((((D4.out.1.local (k := w.heap.size) (.inl rfl) 0 _).local (k := w.heap.size) (.inl rfl) 1 _).local (k := w.heap.size) (.inl rfl) 2 _).local (k := w.heap.size) (.inl rfl) 3 _).local (k := w.heap.size + 1) (.inr rfl) 0 _).local (k := w.heap.size + 1) (.inr rfl) 1 _) ?_
                repeat (first | with_reducible exact z3 | with_reducible refine (World.cell?_setCell_other _ _ _ _ ?_).trans ?_ | with_reducible exact ne_addr hg0 _ _ | with_reducible exact ne_addr hg1 _ _ | with_reducible exact ne_addr' hg0 _ _ | with_reducible exact ne_addr' hg1 _ _)
              · refine DInv.slS (g := g) (X := fun k => k = w.heap.size ∨ k = w.heap.size + 1) (f := putF cs ss) ((((((D4.out.1.local (k := w.heap.size) (.inl rfl) 0 _).local (k := w.heap.size) (.inl rfl) 1 _).local (k := w.heap.size) (.inl rfl) 2 _).local (k := w.heap.size) (.inl rfl) 3 _).local (k := w.heap.size + 1) (.inr rfl) 0 _).local (k := w.heap.size + 1) (.inr rfl) 1 _) ?_
                repeat (first | with_reducible exact z4 | with_reducible refine (World.cell?_setCell_other _ _ _ _ ?_).trans ?_ | with_reducible exact ne_addr hg0 _ _ | with_reducible exact ne_addr hg1 _ _ | with_reducible exact ne_addr' hg0 _ _ | with_reducible exact ne_addr' hg1 _ _)
              · refine DInv.slX (g := g) (X := fun k => k = w.heap.size ∨ k = w.heap.size + 1) (f := putF cs ss) ((((((D4.out.1.local (k := w.heap.size) (.inl rfl) 0 _).local (k := w.heap.size) (.inl rfl) 1 _).local (k := w.heap.size) (.inl rfl) 2 _).local (k := w.heap.size) (.inl rfl) 3 _).local (k := w.heap.size + 1) (.inr rfl) 0 _).local (k := w.heap.size + 1) (.inr rfl) 1 _) ?_
                repeat (first | with_reducible exact z5 | with_reducible refine (World.cell?_setCell_other _ _ _ _ ?_).trans ?_ | with_reducible exact ne_addr hg0 _ _ | with_reducible exact ne_addr hg1 _ _ | with_reducible exact ne_addr' hg0 _ _ | with_reducible exact ne_addr' hg1 _ _)
              · refine DInv.slT (g := g) (X := fun k => k = w.heap.size ∨ k = w.heap.size + 1) (f := putF cs ss) ((((((D4.out.1.local (k := w.heap.size) (.inl rfl) 0 _).local (k := w.heap.size) (.inl rfl) 1 _).local (k := w.heap.size) (.inl rfl) 2 _).local (k := w.heap.size) (.inl rfl) 3 _).local (k := w.heap.size + 1) (.inr rfl) 0 _).local (k := w.heap.size + 1) (.inr rfl) 1 _) ?_
                repeat (first | with_reducible exact z6 | with_reducible refine (World.cell?_setCell_other _ _ _ _ ?_).trans ?_ | with_reducible exact ne_addr hg0 _ _ | with_reducible exact ne_addr hg1 _ _ | with_reducible exact ne_addr' hg0 _ _ | with_reducible exact ne_addr' hg1 _ _)
            · have hb4 : Below w.heap.size w w4 := HB3.out.trans (T4.out.base fun b hb => HO.out b (by have := HW2.out; omega))
              repeat (first | with_reducible exact hb4 | with_reducible exact Nat.le_refl _ | with_reducible exact Nat.le_succ _ | with_reducible refine Below.drew ?_ | with_reducible refine Below.setCell ?_ ?_ _)
          · rw [decide_eq_false hk3] at b3
            have HR1 : Hid (R = .bad l 4) := hid (by rw [HRR.out, fileL, if_neg hk3, if_neg (by rw [f1]; decide), if_neg (by rw [f2]; decide)])
            clear HRR hk3 f1 f2 u3 u4
            go_wp2_with (go_at_call 50; (first | ((with_reducible refine C1.out.mono ?_); rintro e w2 ⟨rfl, hb⟩; have D2 := hid (D1.out.below hb); have T2 := hid (T1.out.trans (.below D1.out.lt hb)); clear hb q7 qf; have C2 := hid (dis_lit kStruct (by decide) ⟨#[115, 116, 114, 117, 99, 116]⟩ rfl _ D2.out (show isT kStruct (PR.ok (cs, ss) l : PR (List (List UInt8 × Nat) × List SA)).rest = false from HF2.out))) | ((with_reducible refine C2.out.mono ?_); rintro e w3 ⟨rfl, hb⟩; have D3 := hid (D2.out.below hb); have T3 := hid (T2.out.trans (.below D2.out.lt hb)); clear hb; obtain ⟨i9, n9, k9, c9, e0, e1, -, e7, ef, e3, e4, e5, -, e6, y0, -⟩ := D3.out.1.look; have hltI : (i9 : Int) < (n9 : Int) := by omega)))
            go_quiet (fail)
            have D4 := hid (D3.out.below (below_drewN w3.heap.size w3 nq))
            have T4 := hid (T3.out.trans (.below D3.out.lt (below_drewN w3.heap.size w3 nq)))
            have C4 := hid (dfail_ok 4 _ D4.out.1)
            have hfl := D4.out.2
            go_wp2_with (go_at_call 56; (refine C4.out.mono ?_); rintro e w5 ⟨rfl, hI, hS⟩; have HI5 := hid hI; have T5 := hid (T4.out.trans hS.toSt0); clear hI hS)
            have D5 : Hid (DT (fun k => k = w.heap.size ∨ k = w.heap.size + 1) g ts.length (3 * ts.length) C 0 w5 (.bad l 4 : PR (List (List UInt8 × Nat) × List SA)) (fun p => putF p.1 p.2)) := hid ⟨by decide, _, _, HI5.out.mono (by omega) (by omega)⟩
            have htb := tokD_bad D5.out
            go_roundw
            case rel => exact ⟨_, j, D5.out, T5.out, fun p l e => (by cases e), by omega, hid (by rw [HR1.out]; rfl)⟩
            case measure => rw [htk.out, htb]; omega
        · have HF2 := hid f2
          have hk3 : (hd l).tk.k ≠ 3 := by
            rcases hwl.cases with ⟨h1, _⟩ | ⟨h1, _⟩
            · unfold isT at f2
              rw [h1] at f2
              exact absurd f2 (by decide)
            · have := h1.k; omega
          have HR1 : Hid (R = (roomP ss.length l).bind fun _ _ => (structP j l).bind fun s l1 => fileL j cs (ss ++ [s]) l1) := hid (by rw [HRR.out, fileL, if_neg hk3, if_neg (by rw [f1]; decide), if_pos f2])
          obtain ⟨i0, hi0, hz0, hz1, hz2⟩ := info_parts info_dstruct
          have hsl : (putF cs ss).ss.length = ss.length := putSs_length ss gm0
          change wr.cell? _ = some (.slice a2 (putF cs ss).ss.length c2) at u4
          rw [hsl] at u4
          have HSL := hid hsl
          clear HRR hk3 f1 f2 u3 hsl
          go_wp2_with (first | (go_at_call 50; (first | ((with_reducible refine C1.out.mono ?_); rintro e w2 ⟨rfl, hb⟩; have D2 := hid (D1.out.below hb); have T2 := hid (T1.out.trans (.below D1.out.lt hb)); have U4 := (hb.cell (p := ⟨g, 4, none⟩) D1.out.lt).trans u4; clear hb q7 qf u4; have C2 := hid (dis_lit kStruct (by decide) ⟨#[115, 116, 114, 117, 99, 116]⟩ rfl _ D2.out (show isT kStruct (PR.ok (cs, ss) l : PR (List (List UInt8 × Nat) × List SA)).rest = true from HF2.out))) | ((with_reducible refine C2.out.mono ?_); rintro e w3 ⟨rfl, hb⟩; have D3 := hid (D2.out.below hb); have T3 := hid (T2.out.trans (.below D2.out.lt hb)); have v4 := (hb.cell (p := ⟨g, 4, none⟩) D2.out.lt).trans U4; clear hb U4; have C3 := hid (droom_any ss.length _ D3.out)))) | (go_at_call 51; (first | ((with_reducible refine C3.out.mono ?_); rintro e w4 ⟨rfl, hT, hS⟩; have D4 := hid hT; have T4 := hid (T3.out.trans hS.toSt0); have L4 := hid hS; clear hT hS; have V4 := hid v4; clear v4; have C4 := hid (drecord_any (n := j) _ D4.out (by rw [room_rest]; exact HF2.out) (by omega) (by omega) (by omega) (by omega) (by omega))))) | (go_at_call 55; (first | ((with_reducible refine C4.out.mono ?_); rintro e w5 ⟨x0, x1, x2, y, rfl, hT, hR, hy, hS⟩; have D5 := hid hT; have T5 := hid (T4.out.trans hS.toSt0); have L5 := hid (L4.out.trans hS); have HY := hid hy; obtain ⟨pv, iv, ec, hp, -, hi, -⟩ := id hR; simp only [List.cons.injEq, and_true] at ec; obtain ⟨rfl, rfl, rfl⟩ := ec; obtain ⟨pa, pc, rfl⟩ := ownsRow_shape hp; obtain ⟨ia, ic, rfl⟩ := RowR.shape hi; have HREP := hid hR; clear hT hS hR hy hp hi))))
          have HX6 := heap_alloc_new w5 (.cells #[.string (bs y.s), .slice pa y.ps.length pc, .slice ia y.is.length ic] 58)
          have D6 := hid (D5.out.below (below_box w5 (.cells #[.string (bs y.s), .slice pa y.ps.length pc, .slice ia y.is.length ic] 58)))
          have T6 := hid (T5.out.trans (.below D5.out.lt (below_box w5 (.cells #[.string (bs y.s), .slice pa y.ps.length pc, .slice ia y.is.length ic] 58))))
          have HREP6 := hid (Srep.kept layD _ _ _ _ _ _ HREP.out ((St0.below (L := layD) D5.out.lt (below_box w5 (.cells #[.string (bs y.s), .slice pa y.ps.length pc, .slice ia y.is.length ic] 58))).pub (fun k => k = w.heap.size ∨ k = w.heap.size + 1)))
          have u6 := ((below_box w5 (.cells #[.string (bs y.s), .slice pa y.ps.length pc, .slice ia y.is.length ic] 58)).cell (p := ⟨g, 4, none⟩) D5.out.lt).trans ((L5.out.keep 4 (by decide)).trans V4.out)
          have HFS : Hid (∀ q l', (((.ok (cs, ss) l : PR (List (List UInt8 × Nat) × List SA)).bind fun a l => (roomP ss.length l).bind fun _ l => .ok a l).bind fun a l => (structP j l).bind fun y l => .ok (a, y) l) = .ok q l' → q.1 = (cs, ss) ∧ ss.length < 64) := hid fun q l' e => by
            obtain ⟨l1, e1, _⟩ := pair_ok e
            obtain ⟨h3, _, h4⟩ := room_ok e1
            exact ⟨h3, h4⟩
          have HM5 : Hid (∀ q l', (((.ok (cs, ss) l : PR (List (List UInt8 × Nat) × List SA)).bind fun a l => (roomP ss.length l).bind fun _ l => .ok a l).bind fun a l => (structP j l).bind fun y l => .ok (a, y) l) = .ok q l' → l'.length ≤ l.length - 1) := hid fun q l' e => by
            have hmm := D5.out
            rw [e] at hmm
            exact hmm.2.1
          obtain ⟨K, hK⟩ : ∃ K, w5.heap.size = K := ⟨_, rfl⟩
          generalize w5.alloc (.cells #[.string (bs y.s), .slice pa y.ps.length pc, .slice ia y.is.length ic] 58) = w6 at HX6 D6 T6 HREP6 u6 ⊢
          rw [hK] at HX6 ⊢
          clear hK D1 D2 D3 D4 D5 T1 T2 T3 T4 T5 C1 C2 C3 C4 L4 L5 V4 HREP
          obtain ⟨⟨m0, m1, m2⟩, mf, ml⟩ := cells3 HX6
          have hne6 := D6.out.off4 u6
          have hfz6 := D6.out.frz
          obtain ⟨css, qown, PUSH⟩ := D6.out.pushS (γ := List (List UInt8 × Nat) × List SA) u6 (by omega) HREP6.out
          have BB := hid (((below_box w6 (.cells #[.string (bs y.s), .slice pa y.ps.length pc, .slice ia y.is.length ic] 58)).drew) : Below w6.heap.size w6 (w6.alloc (.cells #[.string (bs y.s), .slice pa y.ps.length pc, .slice ia y.is.length ic] 58)).drew)
          have HQ := hid (RowR.below qown BB.out)
          have HN : Hid ((w6.alloc (.cells #[.string (bs y.s), .slice pa y.ps.length pc, .slice ia y.is.length ic] 58)).drew.heap[w6.heap.size]? = some (.cells (List.toArray [.string (bs y.s), .slice pa y.ps.length pc, .slice ia y.is.length ic]) 58 (0, 0))) := hid (heap_alloc_new w6 (.cells #[.string (bs y.s), .slice pa y.ps.length pc, .slice ia y.is.length ic] 58))
          have HPU := hid PUSH
          have u6' := ((below_box w6 (.cells #[.string (bs y.s), .slice pa y.ps.length pc, .slice ia y.is.length ic] 58)).cell (p := ⟨g, 4, none⟩) D6.out.lt).trans u6
          clear qown PUSH HX6 HREP6
          go_region_law (refine step_one _ rfl _ _ 29 rfl 58 i0 _ 3 64 Tryz.underlying29 hi0 hz0 hz1 hz2 rfl (by decide) (.slice a2 ss.length c2) ss.length css.flatten rfl HQ.out _ _ [.string (bs y.s), .slice pa y.ps.length pc, .slice ia y.is.length ic] rfl rfl HN.out (fun u hu => by (simp only [List.mem_cons, List.mem_nil_iff, or_false] at hu; rcases hu with rfl | rfl | rfl <;> rfl)) (by unfold maxLen; omega) (by omega) ?_; intro v' w9 hown hgrow hat; obtain ⟨va', vc', rfl⟩ := ownsRow_shape hown; have hw9 := grown_cell BB.out D6.out.lt hgrow hne6; have k1 : w9.cell? ⟨g, 4, none⟩ = some (.slice a2 ss.length c2) := (World.cell?_of_block (a := ⟨g, 4, none⟩) hw9).trans u6; have k2 : w9.frozen? ⟨g, 4, none⟩ = false := (frozen_of_block8 hw9 4).trans (hfz6 4); have HOW := hid hown; have HGR := hid hgrow; have HAT := hid hat; clear hown hgrow hat hw9)
          all_goals
            have HDT := hid (HPU.out (fun q => (q.1.1, q.1.2 ++ [q.2])) (fun p => putF p.1 p.2) _ _ _ BB.out HOW.out HGR.out HAT.out (fun q l' e => by
              rw [HY.out q l' e, ← putF_struct]))
            have hle := hid (tokD_le HDT.out.1)
            go_wp2_with fail
            go_roundw
            case rel =>
              refine ⟨_, j, HDT.out.1.mono (by omega) (by omega) (by omega) (by omega) (by omega), T6.out.trans HDT.out.2, ?_, by omega, hid ?_⟩
              · intro p l' e
                obtain ⟨q, e', rfl⟩ := map_ok e
                obtain ⟨h1, h4⟩ := HFS.out q l' e'
                have hmm := HM5.out q l' e'
                refine ⟨by omega, ?_, ?_⟩
                · rw [h1]; exact hcs
                · rw [h1]; simp only [List.length_append, List.length_singleton]; omega
              · rw [HR1.out]
                rcases hrm : roomP ss.length l with ⟨u, l7⟩ | ⟨l7, x7⟩
                · obtain ⟨rfl, _⟩ := room_same hrm
                  simp only [PR.bind_assoc, PR.bind_ok, hrm]
                · simp only [PR.bind_assoc, PR.bind_ok, PR.bind_bad, hrm]
            case measure =>
              have := hle.out
              rw [htk.out]
              omega
end Go.Proofs.YthcdohggffpopaaGreatDoor
