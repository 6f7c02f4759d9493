/- Layer 8: the printer's small steps: expect, put, number. · Layer 8: the printer as it goes: what a function leaves that writes. · Layer 8: the printer's expressions. -/
import Derived.Test.YtomimkgaelkaoaaGreatDoorC13ShN
import Derived.Recover
import Derived.Defers
import Derived.Great.BuildSlice
import Derived.Deep.WholeRow
set_option linter.unusedVariables false
set_option linter.unusedSimpArgs false
namespace Go.Proofs.YtomimkgaelkaoaaGreatDoor
open Go.Lib (hid)
open Go.ChangeShapes Go.WideShapes Go.ChangeAt Go.RowKit
def noT : List PanicEntry := [{ v := .iface 200 (.agg #[]), recovered := false }]
def PutQ (B g : Nat) (f : Value) (w : World) (r : Option (List UInt8)) (e : Ending) (w' : World) : Prop :=
 match r with
 | some l => e = .returned (.tuple #[]) ∧ Pr B g f l w' ∧ l.length ≤ maxText ∧ Fr B g w w'
 | none => e = .panicked noT ∧ Fr B g w w'
set_option maxHeartbeats 1000000 in
theorem sexp_yes (g : Nat) (w : World) : Calls Tryz.prog 87 #[.pointer (some ⟨g, 0, none⟩), .bool true] w fun e w' => e = .returned (.tuple #[]) ∧ w = w' := by
 go_enter Tryz.func87, Tryz.ntmps87
 go_wp2
 go_end0
 exact ⟨rfl, rfl⟩
set_option maxHeartbeats 1000000 in
theorem sexp_no (g : Nat) (w : World) : Calls Tryz.prog 87 #[.pointer (some ⟨g, 0, none⟩), .bool false] w fun e w' => e = .panicked noT ∧ w = w' := by
 go_enter Tryz.func87, Tryz.ntmps87
 go_wp2
 exact ⟨rfl, rfl, rfl⟩
theorem wPut_yes {s l : List UInt8} (h : l.length + s.length ≤ maxText) : wPut s l = some (l ++ s) := by unfold wPut; rw [if_pos h]
theorem wPut_no {s l : List UInt8} (h : ¬ l.length + s.length ≤ maxText) : wPut s l = none := by unfold wPut; rw [if_neg h]
def TxR (k : Nat) (ss : List (List UInt8)) (w : World) : Prop := w.heap[k]? = some (.cells (ss.map fun s => Value.string (bs s)).toArray 9 (0, 0))
theorem TxR.at {k : Nat} {ss : List (List UInt8)} {w : World} (h : TxR k ss w) {i : Nat} {s : List UInt8} (hs : ss[i]? = some s) : w.cell? ⟨k, i, none⟩ = some (.string (bs s)) := by
 rw [cell_of_row _ _ _ _ _ (0, 0) h]
 simp [hs]
theorem TxR.keep {B g k : Nat} {ss : List (List UInt8)} {w w' : World} (h : TxR k ss w) (hg : k ≠ g) (hf : Fr B g w w') : TxR k ss w' := hf.keep _ _ _ _ h hg (by decide)
set_option maxHeartbeats 4000000 in
set_option maxRecDepth 100000 in
theorem put_any {B g : Nat} {f : Value} {l : List UInt8} (ss : List (List UInt8)) (k : Nat) (w : World) (h : Pr B g f l w) (hl : l.length ≤ maxText) (hs : TxR k ss w) (hkg : k ≠ g) (hn : ss.length ≤ 100) :
  Calls Tryz.prog 88 #[.pointer (some ⟨g, 0, none⟩), .slice (some ⟨k, 0, none⟩) ss.length ss.length] w (PutQ B g f w (wPuts ss l)) := by
 obtain ⟨R, hR⟩ : ∃ R, wPuts ss l = R := ⟨_, rfl⟩
 have HR := hid hR
 rw [hR]
 have H := hid h
 have HS := hid hs
 have HL := hid hl
 clear h hs hR hl
 go_enter Tryz.func88, Tryz.ntmps88
 go_wp2_with fail
 go_loopw [8] (fun s8 wr => ∃ (i : Nat) (l' : List UInt8), s8 = .int .i64 (i : Int) ∧ i ≤ ss.length ∧ Pr B g f l' wr ∧ l'.length ≤ maxText ∧ Fr B g w wr ∧ Hid (wPuts (ss.drop i) l' = R)) (fun s8 _ => ss.length - (match s8 with | .int _ i => i.toNat | _ => 0))
 case atStart => exact ⟨0, l, rfl, Nat.zero_le _, H.out, HL.out, Fr.refl _ _ _, hid (by rw [List.drop_zero]; exact HR.out)⟩
 case round =>
  obtain ⟨i, l', rfl, hi, hP, hl', hF, HRR⟩ := hrel
  by_cases hlt : i < ss.length
  ·obtain ⟨s, hs⟩ : ∃ s, ss[i]? = some s := ⟨ss[i], List.getElem?_eq_getElem hlt⟩
   have hd : ss.drop i = s :: ss.drop (i + 1) := by
    rw [List.drop_eq_getElem_cons hlt]
    congr 1
    exact (List.getElem?_eq_some_iff.1 hs).2
   have hc := (HS.out.keep hkg hF).at hs
   have hcd : ∀ n, (wr.drewN n).cell? ⟨k, i, none⟩ = some (.string (bs s)) := fun n => hc
   have hsz : (bs s).size = s.length := by simp [bs, ByteArray.size]
   have CL := hid (Len_any wr hP)
   have HP := hid hP
   have HF := hid hF
   have HD := hid hd
   have HL := hid hl'
   have hM : l'.length ≤ 16384 := hl'
   by_cases hfit : l'.length + s.length ≤ 16384
   ·have CW := hid (WriteString_any s wr hP (by omega))
    have hq : (s.length : Int) ≤ 16384 - (l'.length : Int) := by omega
    have hw : IntKind.i64.wrap (16384 - (l'.length : Int)) = 16384 - (l'.length : Int) := IntWalk.i64_in _ (by omega)
    clear hP hF hd hs hl'
    go_wp2_with (first | (go_at_call 131; go_must (refine CL.out.mono ?_; rintro e w' ⟨rfl, rfl⟩)) | (go_at_call 87; go_must (refine (sexp_yes g _).mono ?_; rintro e w' ⟨rfl, rfl⟩)) | (go_at_call 132; go_must (refine CW.out.mono ?_; rintro e w' ⟨⟨v1, v2, rfl⟩, hP2, hF2⟩)))
    go_roundw
    case rel => exact ⟨i + 1, l' ++ s, rfl, by omega, hP2, by rw [List.length_append]; exact hfit, HF.out.trans hF2, hid (by
     rw [← HRR.out, HD.out]
     show _ = wSeq (wPut s) (wPuts _) l'
     unfold wSeq
     rw [wPut_yes hfit]
     rfl)⟩
    case measure => simp; omega
   ·have hq : decide ((s.length : Int) ≤ 16384 - (l'.length : Int)) = false := decide_eq_false (by omega)
    have hw : IntKind.i64.wrap (16384 - (l'.length : Int)) = 16384 - (l'.length : Int) := IntWalk.i64_in _ (by omega)
    have hr : R = none := by
     rw [← HRR.out, HD.out]
     show wSeq (wPut s) (wPuts _) l' = none
     unfold wSeq
     rw [wPut_no hfit]
     rfl
    subst hr
    clear hP hF hd hs hl' HR HRR
    go_wp2_with (first | (go_at_call 131; go_must (refine CL.out.mono ?_; rintro e w' ⟨rfl, rfl⟩)) | (go_at_call 87; go_must (refine (sexp_no g _).mono ?_; rintro e w' ⟨rfl, rfl⟩)))
    exact ⟨rfl, rfl, HF.out⟩
  ·have hi2 : i = ss.length := by omega
   have hr : R = some l' := by
    rw [← HRR.out, hi2, List.drop_length]
    rfl
   subst hr
   clear HR HRR
   go_wp2_with fail
   go_end0
   exact ⟨rfl, hP, hl', hF⟩
end Go.Proofs.YtomimkgaelkaoaaGreatDoor
namespace Go.Proofs.YtomimkgaelkaoaaGreatDoor
open Go.Lib (hid)
open Go.ChangeShapes Go.WideShapes Go.ChangeAt Go.RowKit
structure SW (W0 : World) (g : Nat) (f : Value) (W : World) (l : List UInt8) (w : World) : Prop where
 pr : Pr W0.heap.size g f l w
 len : l.length ≤ maxText
 fr : Fr W0.heap.size g W w
 base : Below W0.heap.size W0 w
def PostW (W0 : World) (g : Nat) (f : Value) (W : World) (r : Option (List UInt8)) (e : Ending) (w' : World) : Prop :=
 match r with
 | some l => e = .returned (.tuple #[]) ∧ SW W0 g f W l w'
 | none => e = .panicked noT ∧ Fr W0.heap.size g W w'
section
variable {W0 : World} {g : Nat} {f : Value} {W w w' : World} {l l' : List UInt8}
theorem SW.start (h : SW W0 g f W l w) : SW W0 g f w l w := ⟨h.pr, h.len, .refl _ _ _, h.base⟩
theorem SW.next (h : SW W0 g f W l w) (k : SW W0 g f w l' w') : SW W0 g f W l' w' := ⟨k.pr, k.len, h.fr.trans k.fr, k.base⟩
theorem SW.lo (h : SW W0 g f W l w) : W0.heap.size ≤ w.heap.size := h.base.size
theorem SW.keep (h : SW W0 g f W l w) (hb : Below w.heap.size w w') : SW W0 g f W l w' := ⟨h.pr.keep hb, h.len, h.fr.trans (.of hb h.lo), h.base.trans (hb.mono h.lo)⟩
theorem SW.alloc (h : SW W0 g f W l w) (o : Obj) : SW W0 g f W l (w.alloc o) := h.keep (below_box w o)
theorem SW.ne (h : SW W0 g f W l w) : w.heap.size ≠ g := fun e => by have := h.pr.lt; omega
theorem step_none {a b : OW} {R : Option (List UInt8)} (h : wSeq a b l = R) (ha : a l = none) : R = none := by rw [← h]; unfold wSeq; rw [ha]; rfl
theorem step_some {a b : OW} {R : Option (List UInt8)} (h : wSeq a b l = R) (ha : a l = some l') : b l' = R := by rw [← h]; unfold wSeq; rw [ha]; rfl
end
theorem TxR.new (w : World) (ss : List (List UInt8)) : TxR w.heap.size ss (w.alloc (.cells (ss.map fun s => Value.string (bs s)).toArray 9)) := heap_alloc_new w _
theorem shPut {W0 : World} {g : Nat} {f : Value} {W w : World} {l : List UInt8} (h : SW W0 g f W l w) (ss : List (List UInt8)) (hn : ss.length ≤ 100) (n : Nat) (hnn : n = ss.length) (cs : Array Value) (hcs : (ss.map fun s => Value.string (bs s)).toArray = cs) (K : Nat) (hK : w.heap.size = K) :
  Calls Tryz.prog 88 #[.pointer (some ⟨g, 0, none⟩), .slice (some ⟨K, 0, none⟩) n n] (w.alloc (.cells cs 9)) (PostW W0 g f w (wPuts ss l)) := by
 subst hnn hcs hK
 have h1 := h.alloc (.cells (ss.map fun s => Value.string (bs s)).toArray 9)
 refine (put_any ss w.heap.size _ h1.pr h.len (TxR.new w ss) h.ne hn).mono ?_
 intro e w' hp
 have hf : Fr W0.heap.size g w (w.alloc (.cells (ss.map fun s => Value.string (bs s)).toArray 9)) := Fr.of (below_box w _) h.lo
 cases hr : wPuts ss l with
 | none => rw [hr] at hp; exact ⟨hp.1, hf.trans hp.2⟩
 | some l2 => rw [hr] at hp; exact ⟨hp.1, hp.2.1, hp.2.2.1, hf.trans hp.2.2.2, h1.base.trans hp.2.2.2.below⟩
theorem wPuts_one (s : List UInt8) : wPuts [s] = wPut s := by
 show wSeq (wPut s) some = _
 funext t; unfold wSeq; cases wPut s t <;> rfl
set_option maxHeartbeats 4000000 in
set_option maxRecDepth 100000 in
theorem shNum {W0 : World} {g : Nat} {f : Value} {W w : World} {l : List UInt8} (hN : NEnv W0) (h : SW W0 g f W l w) (n : Nat) (hn : n < 18446744073709551616) :
  Calls Tryz.prog 89 #[.pointer (some ⟨g, 0, none⟩), .int .u64 (n : Int)] w (PostW W0 g f w (wNum n l)) := by
 have C := hid (FormatUint_any n hn w (hN.below h.base))
 have S0 := hid h.start
 obtain ⟨R, hR⟩ : ∃ R, wNum n l = R := ⟨_, rfl⟩
 have HR0 : Hid (wSeq (wPuts [decL n]) some l = R) := hid (by rw [wPuts_one, wSeq_some]; exact hR)
 rw [hR]
 clear h hR hN
 go_enter Tryz.func89, Tryz.ntmps89
 go_wp2_with (first | (go_at_call 133; go_must (refine C.out.mono ?_; rintro e w1 ⟨rfl, hb⟩; have S1 := hid (S0.out.keep hb); clear hb)) | (go_at_call 88; go_must (refine (shPut S1.out [decL n] (by simp) 1 rfl _ rfl _ rfl).mono ?_; intro e w' hp; rcases hr : wPuts [decL n] l with _ | l2; (· rw [hr] at hp; obtain ⟨rfl, hf⟩ := hp; obtain rfl := step_none HR0.out hr; exact ⟨rfl, rfl, S1.out.fr.trans hf⟩); rw [hr] at hp; obtain ⟨rfl, h1⟩ := hp; have S2 := hid (S1.out.next h1); have HR2 := hid (step_some HR0.out hr); clear hr h1)))
 obtain rfl := HR2.out
 go_end0
 exact ⟨rfl, S2.out⟩
end Go.Proofs.YtomimkgaelkaoaaGreatDoor
namespace Go.Proofs.YtomimkgaelkaoaaGreatDoor
open Go.Lib (hid)
open Go.ChangeShapes Go.WideShapes Go.ChangeAt Go.RowKit
def InC (_ : World) (c : List Value) (n : Int) : Prop := c = [.int .i64 n]
theorem InC.kept : KeptB InC := fun _ _ _ _ _ h => h
def XgC (w : World) (c : List Value) (x : XG) : Prop := ∃ kv, c = [.int .i64 x.k, .string (bs x.op), .int .u64 (x.n : Int), .string (bs x.s), kv] ∧ SlR 1 InC w kv x.kids
def TgC (w : World) (c : List Value) (x : TG) : Prop := ∃ av cv, c = [.int .i64 x.k, .int .i64 (x.size : Int), .bool x.little, .string (bs x.s), av, .int .i64 x.e, .int .i64 x.i, cv] ∧ SlR 1 IntC w av x.args ∧ SlR 2 CaC w cv x.cs
theorem XgC.kept : KeptB XgC := fun _ _ _ _ hb ⟨kv, h, h1⟩ => ⟨kv, h, h1.below InC.kept hb⟩
theorem TgC.kept : KeptB TgC := fun _ _ _ _ hb ⟨av, cv, h, h1, h2⟩ => ⟨av, cv, h, h1.below IntC.kept hb, h2.below CaC.kept hb⟩
structure GfOK (f : GF) : Prop where
 xs : f.xs.length ≤ 100000
 ts : f.ts.length ≤ 100000
 n : ∀ x ∈ f.xs, x.n < 18446744073709551616
 cn : ∀ t ∈ f.ts, ∀ c ∈ t.cs, c.1 < 18446744073709551616
 k : ∀ c ∈ f.cs, c.2 < 18446744073709551616
 b : ∀ s ∈ f.ss, ∀ x ∈ s.is, ∀ u ∈ x.subs, u.2 < 9223372036854775808
 al : ∀ t ∈ f.ts, t.args.length < 9223372036854775808
 cl : ∀ t ∈ f.ts, t.cs.length < 9223372036854775808
def FileG (G : Nat) (w : World) (f : GF) : Prop := ∃ v0 vc vs vx vt v5, w.heap[G]? = some (.cells #[v0, vc, vs, vx, vt, v5] 103 (0, 0)) ∧ SlR 2 CoC w vc f.cs ∧ SlR 3 SrC w vs f.ss ∧ SlR 5 XgC w vx f.xs ∧ SlR 8 TgC w vt f.ts
theorem FileG.lt {g : Nat} {w : World} {f : GF} (h : FileG g w f) : g < w.heap.size := by
 obtain ⟨v0, vc, vs, vx, vt, v5, h1, _⟩ := h
 exact (Array.getElem?_eq_some_iff.1 h1).1
theorem FileG.below {g : Nat} {w w' : World} {f : GF} (h : FileG g w f) (hb : Below w.heap.size w w') : FileG g w' f := by
 have hg := h.lt
 obtain ⟨v0, vc, vs, vx, vt, v5, h1, h2, h3, h4, h5⟩ := h
 exact ⟨v0, vc, vs, vx, vt, v5, (hb.block g hg).trans h1, h2.below CoC.kept hb, h3.below SrC.kept hb, h4.below XgC.kept hb, h5.below TgC.kept hb⟩
theorem FileG.look {g : Nat} {w : World} {f : GF} (h : FileG g w f) : ∃ ac cc bs' cs ax cx at' ct, w.cell? ⟨g, 1, none⟩ = some (.slice ac f.cs.length cc) ∧ w.cell? ⟨g, 2, none⟩ = some (.slice bs' f.ss.length cs) ∧ w.cell? ⟨g, 3, none⟩ = some (.slice ax f.xs.length cx) ∧ w.cell? ⟨g, 4, none⟩ = some (.slice at' f.ts.length ct) ∧
  SlR 2 CoC w (.slice ac f.cs.length cc) f.cs ∧ SlR 3 SrC w (.slice bs' f.ss.length cs) f.ss ∧ SlR 5 XgC w (.slice ax f.xs.length cx) f.xs ∧ SlR 8 TgC w (.slice at' f.ts.length ct) f.ts ∧ g < w.heap.size := by
 have hg := h.lt
 obtain ⟨v0, vc, vs, vx, vt, v5, h1, h2, h3, h4, h5⟩ := h
 obtain ⟨ac, cc, rfl, _⟩ := h2.shape
 obtain ⟨bs', cs, rfl, _⟩ := h3.shape
 obtain ⟨ax, cx, rfl, _⟩ := h4.shape
 obtain ⟨at', ct, rfl, _⟩ := h5.shape
 refine ⟨ac, cc, bs', cs, ax, cx, at', ct, ?_, ?_, ?_, ?_, h2, h3, h4, h5, hg⟩
 all_goals
  rw [cell_of_row _ _ _ _ _ (0, 0) h1]
  rfl
theorem xg_at {w : World} {a : Option Addr} {n c : Nat} {l : List XG} (h : SlR 5 XgC w (.slice a n c) l) {i : Nat} {x : XG} (hx : l[i]? = some x) : ∃ k kv, a = some ⟨k, 0, none⟩ ∧ k < w.heap.size ∧ w.cell? ⟨k, i * 5, none⟩ = some (.int .i64 x.k) ∧ w.cell? ⟨k, i * 5 + 1, none⟩ = some (.string (bs x.op)) ∧
  w.cell? ⟨k, i * 5 + 2, none⟩ = some (.int .u64 (x.n : Int)) ∧ w.cell? ⟨k, i * 5 + 3, none⟩ = some (.string (bs x.s)) ∧ w.cell? ⟨k, i * 5 + 4, none⟩ = some kv ∧ SlR 1 InC w kv x.kids := by
 obtain ⟨k, cs, e, hk, hl, hc, kv, rfl, h1⟩ := h.at hx
 exact ⟨k, kv, e, hk, hc 0 (by decide), hc 1 (by decide), hc 2 (by decide), hc 3 (by decide), hc 4 (by decide), h1⟩
theorem tg_at {w : World} {a : Option Addr} {n c : Nat} {l : List TG} (h : SlR 8 TgC w (.slice a n c) l) {i : Nat} {x : TG} (hx : l[i]? = some x) : ∃ k av cv, a = some ⟨k, 0, none⟩ ∧ k < w.heap.size ∧ w.cell? ⟨k, i * 8, none⟩ = some (.int .i64 x.k) ∧ w.cell? ⟨k, i * 8 + 1, none⟩ = some (.int .i64 (x.size : Int)) ∧
  w.cell? ⟨k, i * 8 + 2, none⟩ = some (.bool x.little) ∧ w.cell? ⟨k, i * 8 + 3, none⟩ = some (.string (bs x.s)) ∧ w.cell? ⟨k, i * 8 + 4, none⟩ = some av ∧ w.cell? ⟨k, i * 8 + 5, none⟩ = some (.int .i64 x.e) ∧ w.cell? ⟨k, i * 8 + 6, none⟩ = some (.int .i64 x.i) ∧ w.cell? ⟨k, i * 8 + 7, none⟩ = some cv ∧
  SlR 1 IntC w av x.args ∧ SlR 2 CaC w cv x.cs := by
 obtain ⟨k, cs, e, hk, hl, hc, av, cv, rfl, h1, h2⟩ := h.at hx
 exact ⟨k, av, cv, e, hk, hc 0 (by decide), hc 1 (by decide), hc 2 (by decide), hc 3 (by decide), hc 4 (by decide), hc 5 (by decide), hc 6 (by decide), hc 7 (by decide), h1, h2⟩
theorem in_at {w : World} {a : Option Addr} {n c : Nat} {l : List Int} (h : SlR 1 InC w (.slice a n c) l) {i : Nat} {x : Int} (hx : l[i]? = some x) : ∃ k, a = some ⟨k, 0, none⟩ ∧ k < w.heap.size ∧ w.cell? ⟨k, i, none⟩ = some (.int .i64 x) := by
 obtain ⟨k, cs, e, hk, hl, hc, rfl⟩ := h.at hx
 have := hc 0 (by decide)
 rw [Nat.mul_one, Nat.add_zero] at this
 exact ⟨k, e, hk, this⟩
def fp (G : Nat) : Value := .pointer (some ⟨G, 1, none⟩)
theorem SW.file {W0 : World} {g G : Nat} {W w : World} {l : List UInt8} (h : SW W0 g (fp G) W l w) : w.cell? ⟨g, 0, none⟩ = some (.pointer (some ⟨G, 1, none⟩)) := by
 obtain ⟨p, v, _, h1, _⟩ := h.pr.cells
 exact h1
theorem cells5 {T : TypeId} {w : World} {k : Nat} {v0 v1 v2 v3 v4 : Value} (h : w.heap[k]? = some (.cells #[v0, v1, v2, v3, v4] T (0, 0))) :
  (w.cell? ⟨k, 0, none⟩ = some v0 ∧ w.cell? ⟨k, 1, none⟩ = some v1 ∧ w.cell? ⟨k, 2, none⟩ = some v2 ∧ w.cell? ⟨k, 3, none⟩ = some v3 ∧ w.cell? ⟨k, 4, none⟩ = some v4) ∧ (∀ j, w.frozen? ⟨k, j, none⟩ = false) ∧ k < w.heap.size := by
 refine ⟨⟨?_, ?_, ?_, ?_, ?_⟩, fun j => by simp [World.frozen?, h], (Array.getElem?_eq_some_iff.1 h).1⟩ <;> (rw [cell_of_row _ _ _ _ _ (0, 0) h]; rfl)
theorem at_list8 {P : Program} {w : World} {ops : Array Oper} {rest : List Oper} {o : Oper} {a : Act} {Q : Exit → Act → World → Prop} (h : wpList P ops Q (o :: rest) a w) : wpList P ops Q (o :: rest) a w := h
theorem row_one8 {l : List Value} (h : ∀ u ∈ l, u.oneCell' = true) : l.toArray.all (fun v => v.oneCell') = true := by
 rw [← Array.all_toList]
 exact List.all_eq_true.2 h
theorem size_expr : (Tryz.prog.info? 40).map (·.size) = some 5 := by kernel_rfl
theorem xg_one (a : Int) (b : ByteArray) (c : Int) (d : ByteArray) (q : Option Addr) (n m : Nat) : #[Value.int .i64 a, Value.string b, Value.int .u64 c, Value.string d, Value.slice q n m].all (fun v => v.oneCell') = true := row_one8 (l := [Value.int .i64 a, Value.string b, Value.int .u64 c, Value.string d, Value.slice q n m]) fun u hu => by
 simp only [List.mem_cons, List.mem_nil_iff, or_false] at hu
 rcases hu with rfl | rfl | rfl | rfl | rfl <;> rfl
def PostX8 (W0 : World) (g : Nat) (W : World) (l : List UInt8) (xs : List XG) (at' : Int) (lim : Int) (e : Ending) (w' : World) : Prop :=
 if 0 ≤ at' ∧ at' < lim then
  ∃ x kv, xs[at'.toNat]? = some x ∧ e = .returned (.agg #[.int .i64 x.k, .string (bs x.op), .int .u64 (x.n : Int), .string (bs x.s), kv]) ∧ SlR 1 InC W0 kv x.kids ∧ Below W.heap.size W w'
 else e = .panicked noT ∧ Below W.heap.size W w'
set_option maxHeartbeats 4000000 in
set_option maxRecDepth 100000 in
theorem shExprAt {W0 : World} {g G : Nat} {F : GF} {W w : World} {l : List UInt8} (hF : FileG G W0 F) (h : SW W0 g (fp G) W l w) (at' lim : Int) (hlim : lim ≤ F.xs.length) (hG : GfOK F) :
  Calls Tryz.prog 91 #[.pointer (some ⟨g, 0, none⟩), .int .i64 at', .int .i64 lim] w (PostX8 W0 g w l F.xs at' lim) := by
 have hxl := hG.xs
 by_cases hin : 0 ≤ at' ∧ at' < lim
 ·obtain ⟨n, rfl⟩ : ∃ n : Nat, at' = n := ⟨at'.toNat, by omega⟩
  have hn : n < F.xs.length := by omega
  have hx : F.xs[n]? = some F.xs[n] := List.getElem?_eq_getElem hn
  obtain ⟨ac, cc, bs', cs, ax, cx, at2, ct, -, -, h3, -, -, -, h7, -, hGl⟩ := hF.look
  obtain ⟨k, kv, rfl, hk, c0, c1, c2, c3, c4, hkv⟩ := xg_at h7 hx
  obtain ⟨ak, ck, rfl, -⟩ := hkv.shape
  have RD : Hid (∀ w1, Below W0.heap.size W0 w1 → w1.cell? ⟨G, 3, none⟩ = some (.slice (some ⟨k, 0, none⟩) F.xs.length cx) ∧ w1.cell? ⟨k, n * 5, none⟩ = some (.int .i64 F.xs[n].k) ∧ w1.cell? ⟨k, n * 5 + 1, none⟩ = some (.string (bs F.xs[n].op)) ∧ w1.cell? ⟨k, n * 5 + 2, none⟩ = some (.int .u64 (F.xs[n].n : Int)) ∧ w1.cell? ⟨k, n * 5 + 3, none⟩ = some (.string (bs F.xs[n].s)) ∧ w1.cell? ⟨k, n * 5 + 4, none⟩ = some (.slice ak F.xs[n].kids.length ck)) := hid fun w1 hb =>
   ⟨(hb.cell (p := ⟨G, 3, none⟩) hGl).trans h3, (hb.cell (p := ⟨k, n * 5, none⟩) hk).trans c0, (hb.cell (p := ⟨k, n * 5 + 1, none⟩) hk).trans c1, (hb.cell (p := ⟨k, n * 5 + 2, none⟩) hk).trans c2, (hb.cell (p := ⟨k, n * 5 + 3, none⟩) hk).trans c3, (hb.cell (p := ⟨k, n * 5 + 4, none⟩) hk).trans c4⟩
  have S0 := hid h.start
  have HKV := hid hkv
  have hlt : (n : Int) < lim := hin.2
  have hnl : (n : Int) < (F.xs.length : Int) := by omega
  have HX := hid hx
  have HI := hid hin
  generalize F.xs[n] = x at *
  clear hin hn hx h3 h7 c0 c1 c2 c3 c4 hkv h hF hG hxl hlim hk hGl
  go_enter Tryz.func91, Tryz.ntmps91
  go_wp2_with (first | (go_at_call 87; go_must (refine (sexp_yes g _).mono ?_; rintro e w' ⟨rfl, rfl⟩; have S1 := hid (S0.out.alloc (.cells #[.int .i64 0, .string ⟨#[]⟩, .int .u64 0, .string ⟨#[]⟩, .slice none 0 0] 40)); have q := S1.out.file; obtain ⟨q0, q1, q2, q3, q4, q5⟩ := RD.out _ S1.out.base; have HBX := hid (heap_alloc_new w (.cells #[.int .i64 0, .string ⟨#[]⟩, .int .u64 0, .string ⟨#[]⟩, .slice none 0 0] 40)))) | ((with_reducible refine at_list8 ?_); refine wpList_store_rowTo rfl 40 _ _ rfl rfl w.heap.size #[.int .i64 x.k, .string (bs x.op), .int .u64 (x.n : Int), .string (bs x.s), .slice ak x.kids.length ck] rfl rfl 40 _ HBX.out size_expr rfl (xg_one _ _ _ _ _ _ _) ?_; rw [World.setRow_alloc_new]))
  refine bodyPost_ret (results_cell_row rfl _ _ w.heap.size 40 #[.int .i64 x.k, .string (bs x.op), .int .u64 (x.n : Int), .string (bs x.s), .slice ak x.kids.length ck] (0, 0) _ rfl (heap_alloc_new w _) Tryz.underlying40 rfl size_expr) rfl ?_
  unfold PostX8
  rw [if_pos HI.out]
  exact ⟨x, _, HX.out, rfl, HKV.out, below_box w _⟩
 ·have HI := hid hin
  have hpost : Hid (PostX8 W0 g w l F.xs at' lim (.panicked noT) (w.alloc (.cells #[.int .i64 0, .string ⟨#[]⟩, .int .u64 0, .string ⟨#[]⟩, .slice none 0 0] 40))) := hid (by
   unfold PostX8
   rw [if_neg hin]
   exact ⟨rfl, below_box w _⟩)
  clear h hF hG hxl hlim
  by_cases h0 : 0 ≤ at'
  ·have h1 : decide (at' < lim) = false := decide_eq_false (by omega)
   clear hin
   go_enter Tryz.func91, Tryz.ntmps91
   go_wp2_with (go_at_call 87; go_must (refine (sexp_no g _).mono ?_; rintro e w' ⟨rfl, rfl⟩))
   exact ⟨rfl, hpost.out⟩
  ·have h1 : decide (0 ≤ at') = false := decide_eq_false h0
   clear hin h0
   go_enter Tryz.func91, Tryz.ntmps91
   go_wp2_with (go_at_call 87; go_must (refine (sexp_no g _).mono ?_; rintro e w' ⟨rfl, rfl⟩))
   exact ⟨rfl, hpost.out⟩
end Go.Proofs.YtomimkgaelkaoaaGreatDoor
