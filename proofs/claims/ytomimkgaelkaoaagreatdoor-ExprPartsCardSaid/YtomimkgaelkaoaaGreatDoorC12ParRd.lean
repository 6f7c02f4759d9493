/- Layer 7: what is read of a File in memory, whoever made it. -/
import Derived.Test.YtomimkgaelkaoaaGreatDoorC12ParFi
import Derived.Test.YtomimkgaelkaoaaGreatDoorC12ParLv
set_option linter.unusedVariables false
set_option linter.unusedSimpArgs false
namespace Go.Proofs.YtomimkgaelkaoaaGreatDoor
open Go.ChangeShapes Go.WideShapes Go.ChangeAt Go.RowKit
theorem flat_at {α : Type} (size : Nat) : ∀ (cs : List (List α)), (∀ c ∈ cs, c.length = size) → ∀ i j, j < size → cs.flatten[i * size + j]? = (cs[i]?).bind (fun c => c[j]?)
 | [], _, i, j, _ => by simp
 | c :: r, h, 0, j, hj => by
  have hc := h c (by simp)
  rw [List.flatten_cons, List.getElem?_append_left (by omega)]
  simp
 | c :: r, h, i + 1, j, hj => by
  have hc := h c (by simp)
  have e : (i + 1) * size + j = size + (i * size + j) := by rw [Nat.add_mul]; omega
  rw [List.flatten_cons, List.getElem?_append_right (by omega), e, hc, show size + (i * size + j) - size = i * size + j from by omega, flat_at size r (fun x hx => h x (by simp [hx])) i j hj]
  rfl
def SlR {α : Type} (size : Nat) (rep : World → List Value → α → Prop) (w : World) (v : Value) (l : List α) : Prop :=
 ∃ a c, v = .slice a l.length c ∧ l.length ≤ c ∧ c ≤ maxLen ∧ ∀ (i : Nat) x, l[i]? = some x → ∃ k cs, a = some ⟨k, 0, none⟩ ∧ k < w.heap.size ∧ cs.length = size ∧ (∀ j, j < size → w.cell? ⟨k, i * size + j, none⟩ = cs[j]?) ∧ rep w cs x
def KeptB {α : Type} (rep : World → List Value → α → Prop) : Prop := ∀ (w w' : World) (cs : List Value) (x : α), Below w.heap.size w w' → rep w cs x → rep w' cs x
theorem SlR.below {α : Type} {size : Nat} {rep : World → List Value → α → Prop} (hk : KeptB rep) {w w' : World} {v : Value} {l : List α} (h : SlR size rep w v l) (hb : Below w.heap.size w w') : SlR size rep w' v l := by
 obtain ⟨a, c, h1, h2, h3, h4⟩ := h
 refine ⟨a, c, h1, h2, h3, fun i x hx => ?_⟩
 obtain ⟨k, cs, k1, k2, k3, k4, k5⟩ := h4 i x hx
 exact ⟨k, cs, k1, Nat.lt_of_lt_of_le k2 hb.size, k3, fun j hj => (hb.cell (p := ⟨k, _, none⟩) k2).trans (k4 j hj), hk _ _ _ _ hb k5⟩
theorem SlR.shape {α : Type} {size : Nat} {rep : World → List Value → α → Prop} {w : World} {v : Value} {l : List α} (h : SlR size rep w v l) : ∃ a c, v = .slice a l.length c ∧ l.length ≤ c ∧ c ≤ maxLen := by
 obtain ⟨a, c, h1, h2, h3, h4⟩ := h
 exact ⟨a, c, h1, h2, h3⟩
theorem SlR.at {α : Type} {size : Nat} {rep : World → List Value → α → Prop} {w : World} {a : Option Addr} {n c : Nat} {l : List α} (h : SlR size rep w (.slice a n c) l) {i : Nat} {x : α} (hx : l[i]? = some x) :
  ∃ k cs, a = some ⟨k, 0, none⟩ ∧ k < w.heap.size ∧ cs.length = size ∧ (∀ j, j < size → w.cell? ⟨k, i * size + j, none⟩ = cs[j]?) ∧ rep w cs x := by
 obtain ⟨a', c', h1, h2, h3, h4⟩ := h
 simp only [Value.slice.injEq] at h1
 obtain ⟨rfl, rfl, rfl⟩ := h1
 exact h4 i x hx
theorem SlR.of {α : Type} {size : Nat} {rep : World → List Value → α → Prop} {w : World} {v : Value} {l : List α} {E : TypeId} {cs : List (List Value)} (h0 : w.ownsRow 0 E size v l.length cs.flatten) (h1 : cs.length = l.length) (h2 : ∀ c ∈ cs, c.length = size)
  (h3 : ∀ (i : Nat) c x, cs[i]? = some c → l[i]? = some x → rep w c x) : SlR size rep w v l := by
 have h0' := h0
 obtain ⟨hn, h | ⟨g, cap, cur, hv, hg, hh, hc1, hc2⟩⟩ := h0
 ·obtain ⟨rfl, h⟩ := h
  have : l = [] := List.eq_nil_of_length_eq_zero h
  subst this
  exact ⟨none, 0, rfl, Nat.le_refl _, by unfold maxLen; omega, fun i x hx => by simp at hx⟩
 ·subst hv
  refine ⟨some ⟨g, 0, none⟩, cap, rfl, ?_, ?_, fun i x hx => ?_⟩
  ·exact hc1
  ·exact hc2.1
  ·have hi := (List.getElem?_eq_some_iff.1 hx).1
   have hci : i < cs.length := by omega
   have hc : cs[i]? = some cs[i] := List.getElem?_eq_getElem hci
   refine ⟨g, cs[i], rfl, (World.ownsRow.lt h0' g rfl).2, h2 _ (List.getElem_mem hci), fun j hj => ?_, h3 i _ x hc hx⟩
   rw [World.ownsRow.cellAt h0' (i * size + j) ?_, flat_at size cs h2 i j hj, hc]
   ·rfl
   ·have : (i + 1) * size ≤ l.length * size := Nat.mul_le_mul_right size (by omega)
    rw [Nat.add_mul] at this; omega
theorem SlR.ofMap {α : Type} {size : Nat} {w : World} {v : Value} {l : List α} {E : TypeId} {F : α → List Value} (h : w.ownsRow 0 E size v l.length (l.flatMap F)) (hf : ∀ x, (F x).length = size) : SlR size (fun _ c x => c = F x) w v l := by
 refine SlR.of (E := E) (cs := l.map F) (by rw [← List.flatMap_def]; exact h) (by simp) (fun c hc => ?_) fun i c x hc hx => ?_
 ·obtain ⟨x, _, rfl⟩ := List.mem_map.1 hc; exact hf x
 ·rw [List.getElem?_map, hx] at hc
  cases hc; rfl
theorem RowR.sl {α : Type} {rep : (Nat → Prop) → World → List Value → α → Prop} {rep' : World → List Value → α → Prop} {E : TypeId} {size : Nat} {P : Nat → Prop} {w : World} {v : Value} {l : List α} (h : RowR rep E size P w v l) (hr : ∀ c x, rep P w c x → rep' w c x) : SlR size rep' w v l := by
 obtain ⟨cs, h1, h2, h3, h4⟩ := h
 exact SlR.of h1 h2 h3 fun i c x hc hx => hr _ _ (h4 i c x hc hx)
def IntC (_ : World) (c : List Value) (n : Nat) : Prop := c = [.int .i64 (n : Int)]
def StrC (_ : World) (c : List Value) (s : List UInt8) : Prop := c = [.string (bs s)]
def CaC (_ : World) (c : List Value) (x : Nat × Nat) : Prop := c = [.int .u64 (x.1 : Int), .int .i64 (x.2 : Int)]
def SuC (_ : World) (c : List Value) (x : List UInt8 × Nat) : Prop := c = [.string (bs x.1), .int .i64 (x.2 : Int)]
def CoC (_ : World) (c : List Value) (x : List UInt8 × Nat) : Prop := c = [.string (bs x.1), .int .u64 (x.2 : Int)]
def XrC (w : World) (c : List Value) (x : XM) : Prop := ∃ kv, c = [.int .i64 (x.k : Int), .string (bs x.op), .int .u64 (x.n : Int), .string (bs x.s), kv] ∧ SlR 1 IntC w kv x.kids
def TrC (w : World) (c : List Value) (x : TM) : Prop := ∃ av cv, c = [.int .i64 (x.k : Int), .int .i64 (x.size : Int), .bool x.little, .string (bs x.s), av, .int .i64 x.e, .int .i64 x.i, cv] ∧ SlR 1 IntC w av x.args ∧ SlR 2 CaC w cv x.cs
def IrC (w : World) (c : List Value) (x : IM) : Prop := ∃ sv, c = [.string (bs x.s), .int .i64 x.t, .int .i64 (x.der : Int), .string (bs x.a), .string (bs x.b), .int .i64 x.wh, .int .i64 (x.size : Int), .bool x.little, sv] ∧ SlR 2 SuC w sv x.subs
def SrC (w : World) (c : List Value) (x : SM) : Prop := ∃ pv iv, c = [.string (bs x.s), pv, iv] ∧ SlR 1 StrC w pv x.ps ∧ SlR 9 IrC w iv x.is
theorem IntC.kept : KeptB IntC := fun _ _ _ _ _ h => h
theorem StrC.kept : KeptB StrC := fun _ _ _ _ _ h => h
theorem CaC.kept : KeptB CaC := fun _ _ _ _ _ h => h
theorem SuC.kept : KeptB SuC := fun _ _ _ _ _ h => h
theorem CoC.kept : KeptB CoC := fun _ _ _ _ _ h => h
theorem XrC.kept : KeptB XrC := fun _ _ _ _ hb ⟨kv, h, h1⟩ => ⟨kv, h, h1.below IntC.kept hb⟩
theorem TrC.kept : KeptB TrC := fun _ _ _ _ hb ⟨av, cv, h, h1, h2⟩ => ⟨av, cv, h, h1.below IntC.kept hb, h2.below CaC.kept hb⟩
theorem IrC.kept : KeptB IrC := fun _ _ _ _ hb ⟨sv, h, h1⟩ => ⟨sv, h, h1.below SuC.kept hb⟩
theorem SrC.kept : KeptB SrC := fun _ _ _ _ hb ⟨pv, iv, h, h1, h2⟩ => ⟨pv, iv, h, h1.below StrC.kept hb, h2.below IrC.kept hb⟩
theorem IntsV.sl {w : World} {v : Value} {l : List Nat} (h : IntsV w v l) : SlR 1 IntC w v l := by
 unfold IntsV at h
 rw [List.map_eq_flatMap] at h
 exact SlR.ofMap h fun _ => rfl
theorem StrsV.sl {w : World} {v : Value} {l : List (List UInt8)} (h : StrsV w v l) : SlR 1 StrC w v l := by
 unfold StrsV at h
 rw [List.map_eq_flatMap] at h
 exact SlR.ofMap h fun _ => rfl
theorem CasesV.sl {L : Lay} {w : World} {v : Value} {l : List (Nat × Nat)} (h : CasesV L w v l) : SlR 2 CaC w v l := SlR.ofMap h fun _ => rfl
theorem SubsV.sl {L : Lay} {w : World} {v : Value} {l : List (List UInt8 × Nat)} (h : SubsV L w v l) : SlR 2 SuC w v l := SlR.ofMap h fun _ => rfl
def FileR (g : Nat) (w : World) (f : FM) : Prop := ∃ v0 vc vs vx vt v5, w.heap[g]? = some (.cells #[v0, vc, vs, vx, vt, v5] 103 (0, 0)) ∧ SlR 2 CoC w vc f.cs ∧ SlR 3 SrC w vs f.ss ∧ SlR 5 XrC w vx f.g.xs ∧ SlR 8 TrC w vt f.g.ts
theorem FileR.lt {g : Nat} {w : World} {f : FM} (h : FileR g w f) : g < w.heap.size := by
 obtain ⟨v0, vc, vs, vx, vt, v5, h1, _⟩ := h
 exact (Array.getElem?_eq_some_iff.1 h1).1
theorem FileR.below {g : Nat} {w w' : World} {f : FM} (h : FileR g w f) (hb : Below w.heap.size w w') : FileR g w' f := by
 have hg := h.lt
 obtain ⟨v0, vc, vs, vx, vt, v5, h1, h2, h3, h4, h5⟩ := h
 exact ⟨v0, vc, vs, vx, vt, v5, (hb.block g hg).trans h1, h2.below CoC.kept hb, h3.below SrC.kept hb, h4.below XrC.kept hb, h5.below TrC.kept hb⟩
theorem PInv.file {X : Nat → Prop} {g b : Nat} {w : World} {l : List Tok} {d : Nat} {f : FM} (h : PInv X g b w l d f) : FileR g w f := by
 obtain ⟨a, c', vc, vs, vx, vt, hh, h1, h2, h3, h4⟩ := h.mem
 refine ⟨_, vc, vs, vx, vt, _, hh, h4.c.sl fun c x h => h, h4.s.sl ?_, h4.x.sl ?_, h4.t.sl ?_⟩
 ·rintro c x ⟨pv, iv, e, p1, _, p2, _⟩
  exact ⟨pv, iv, e, p1.sl, p2.sl fun c x ⟨sv, e, q, _⟩ => ⟨sv, e, q.sl⟩⟩
 ·rintro c x ⟨kv, e, p1, _⟩
  exact ⟨kv, e, p1.sl⟩
 ·rintro c x ⟨av, cv, e, p1, _, p2, _⟩
  exact ⟨av, cv, e, p1.sl, p2.sl⟩
theorem FileR.look {g : Nat} {w : World} {f : FM} (h : FileR g w f) : ∃ ac cc bs' cs ax cx at' ct, w.cell? ⟨g, 1, none⟩ = some (.slice ac f.cs.length cc) ∧ w.cell? ⟨g, 2, none⟩ = some (.slice bs' f.ss.length cs) ∧ w.cell? ⟨g, 3, none⟩ = some (.slice ax f.g.xs.length cx) ∧ w.cell? ⟨g, 4, none⟩ = some (.slice at' f.g.ts.length ct) ∧
  SlR 2 CoC w (.slice ac f.cs.length cc) f.cs ∧ SlR 3 SrC w (.slice bs' f.ss.length cs) f.ss ∧ SlR 5 XrC w (.slice ax f.g.xs.length cx) f.g.xs ∧ SlR 8 TrC w (.slice at' f.g.ts.length ct) f.g.ts ∧ g < w.heap.size := by
 have hg := h.lt
 obtain ⟨v0, vc, vs, vx, vt, v5, h1, h2, h3, h4, h5⟩ := h
 obtain ⟨ac, cc, rfl, _⟩ := h2.shape
 obtain ⟨bs', cs, rfl, _⟩ := h3.shape
 obtain ⟨ax, cx, rfl, _⟩ := h4.shape
 obtain ⟨at', ct, rfl, _⟩ := h5.shape
 refine ⟨ac, cc, bs', cs, ax, cx, at', ct, ?_, ?_, ?_, ?_, h2, h3, h4, h5, hg⟩
 all_goals
  rw [cell_of_row _ _ _ _ _ (0, 0) h1]
  rfl
theorem xs_at {w : World} {a : Option Addr} {n c : Nat} {l : List XM} (h : SlR 5 XrC w (.slice a n c) l) {i : Nat} {x : XM} (hx : l[i]? = some x) : ∃ k kv, a = some ⟨k, 0, none⟩ ∧ k < w.heap.size ∧ w.cell? ⟨k, i * 5, none⟩ = some (.int .i64 (x.k : Int)) ∧ w.cell? ⟨k, i * 5 + 1, none⟩ = some (.string (bs x.op)) ∧
  w.cell? ⟨k, i * 5 + 2, none⟩ = some (.int .u64 (x.n : Int)) ∧ w.cell? ⟨k, i * 5 + 3, none⟩ = some (.string (bs x.s)) ∧ w.cell? ⟨k, i * 5 + 4, none⟩ = some kv ∧ SlR 1 IntC w kv x.kids := by
 obtain ⟨k, cs, e, hk, hl, hc, kv, rfl, h1⟩ := h.at hx
 exact ⟨k, kv, e, hk, hc 0 (by decide), hc 1 (by decide), hc 2 (by decide), hc 3 (by decide), hc 4 (by decide), h1⟩
theorem ts_at {w : World} {a : Option Addr} {n c : Nat} {l : List TM} (h : SlR 8 TrC w (.slice a n c) l) {i : Nat} {x : TM} (hx : l[i]? = some x) : ∃ k av cv, a = some ⟨k, 0, none⟩ ∧ k < w.heap.size ∧ w.cell? ⟨k, i * 8, none⟩ = some (.int .i64 (x.k : Int)) ∧ w.cell? ⟨k, i * 8 + 1, none⟩ = some (.int .i64 (x.size : Int)) ∧
  w.cell? ⟨k, i * 8 + 2, none⟩ = some (.bool x.little) ∧ w.cell? ⟨k, i * 8 + 3, none⟩ = some (.string (bs x.s)) ∧ w.cell? ⟨k, i * 8 + 4, none⟩ = some av ∧ w.cell? ⟨k, i * 8 + 5, none⟩ = some (.int .i64 x.e) ∧ w.cell? ⟨k, i * 8 + 6, none⟩ = some (.int .i64 x.i) ∧ w.cell? ⟨k, i * 8 + 7, none⟩ = some cv ∧
  SlR 1 IntC w av x.args ∧ SlR 2 CaC w cv x.cs := by
 obtain ⟨k, cs, e, hk, hl, hc, av, cv, rfl, h1, h2⟩ := h.at hx
 exact ⟨k, av, cv, e, hk, hc 0 (by decide), hc 1 (by decide), hc 2 (by decide), hc 3 (by decide), hc 4 (by decide), hc 5 (by decide), hc 6 (by decide), hc 7 (by decide), h1, h2⟩
end Go.Proofs.YtomimkgaelkaoaaGreatDoor
