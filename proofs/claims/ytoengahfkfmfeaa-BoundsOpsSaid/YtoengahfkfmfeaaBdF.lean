/- Layer 11: the ranges of places in a map; the range of an expression by those of its operands. -/
import Derived.Test.YtoengahfkfmfeaaBdE
import Derived.Test.YtoengahfkfmfeaaExE
import Derived.Deep.RegionHeld3
set_option linter.unusedVariables false
set_option linter.unusedSimpArgs false
namespace Go.Proofs.Ytoengahfkfmfeaa
open Go.ChangeShapes Go.WideShapes Go.ChangeAt Go.RowKit

/-- A Range, as a map's element. -/
def rngElem (v : Value) : Option (DataW Unit × List MemPlace) :=
  match v with
  | .agg cs => (match cs.toList with
    | [.int .u64 n, .int .u64 e] => some (.agg [.lit (.int .u64 n), .lit (.int .u64 e)], [])
    | _ => none)
  | _ => none
def rngD (x : Int × Int) : DataW Unit := .agg [.lit (.int .u64 x.1), .lit (.int .u64 x.2)]
def rngV (x : Int × Int) : Value := .agg #[.int .u64 x.1, .int .u64 x.2]
theorem rngElem_mk (x : Int × Int) : rngElem (rngV x) = some (rngD x, []) := rfl
theorem rngElem_inv {v : Value} {x : Int × Int} {ps : List MemPlace} (h : rngElem v = some (rngD x, ps)) : v = rngV x := by
  unfold rngElem at h
  split at h
  · rename_i cs
    split at h
    · rename_i n e hc
      have : cs = #[.int .u64 n, .int .u64 e] := by
        have := congrArg List.toArray hc
        simpa using this
      subst this
      simp [rngD] at h
      obtain ⟨⟨rfl, rfl⟩, _⟩ := h
      rfl
    · cases h
  · cases h
/-- Block b says the ranges of places: G, from 0 to 0 where it says nothing. -/
def RngM (w : World) (b n : Nat) (G : Int → Int × Int) : Prop :=
  ∃ D : DataW Unit, w.ownsMap Try.prog 3 rngElem b n D ∧ ∀ k, D.atKey (.int .i64 k) (rngD (0, 0)) = rngD (G k)
theorem RngM.lt {w : World} {b n : Nat} {S : Int → Int × Int} (h : RngM w b n S) : b < w.heap.size := by obtain ⟨D, h1, _⟩ := h; exact h1.lt
theorem RngM.kept {w w' : World} {row : Option Nat} {b n : Nat} {S : Int → Int × Int} (h : RngM w b n S) (hg : w.grownBy w' row) (hne : some b ≠ row) : RngM w' b n S := by
  obtain ⟨D, h1, h2⟩ := h; exact ⟨D, h1.kept hg hne, h2⟩
theorem RngM.below {w w' : World} {B b n : Nat} {S : Int → Int × Int} (h : RngM w b n S) (hb : Below B w w') (hB : b < B) : RngM w' b n S := by
  obtain ⟨D, ⟨es, clock, q1, q2⟩, h2⟩ := h
  exact ⟨D, ⟨es, clock, (hb.block b hB).trans q1, q2⟩, h2⟩
theorem RngM.made (w : World) : RngM (w.alloc (.map #[] 0)) w.heap.size 0 (fun _ => (0, 0)) :=
  ⟨_, World.ownsMap_made w _ _ _, fun k => by simp [DataW.atKey]⟩
theorem RngM.look {w : World} {b n : Nat} {S : Int → Int × Int} (h : RngM w b n S) {k : Int} (hk : -9223372036854775808 ≤ k ∧ k ≤ 9223372036854775807) :
    (Instr.lookup 88 (.map (some b)) (.int .i64 k) false).run Try.prog w = .ok (.agg #[.int .u64 (S k).1, .int .u64 (S k).2]) w := by
  obtain ⟨D, h1, h2⟩ := h
  obtain ⟨v, ps, q1, q2⟩ := h1.lookup keyedI Try.underlying88 (Try.zeroValue25 w) (rngElem_mk (0, 0)) (keyI hk)
  rw [h2] at q2
  rw [q1, rngElem_inv q2]
  rfl
theorem RngM.put {w : World} {b n : Nat} {S : Int → Int × Int} (h : RngM w b n S) (hn : n < maxLen) {k : Int} (hk : -9223372036854775808 ≤ k ∧ k ≤ 9223372036854775807) (x : Int × Int) :
    ∃ w', (Instr.mapUpdate 88 (.map (some b)) (.int .i64 k) (.agg #[.int .u64 x.1, .int .u64 x.2])).run Try.prog w = .ok () w' ∧ RngM w' b (n + 1) (fun j => if j = k then x else S j) ∧ w.grownBy w' (some b) := by
  obtain ⟨D, h1, h2⟩ := h
  obtain ⟨w', q1, q2, q3⟩ := h1.update keyedI Try.underlying88 hn (keyI hk) (rngElem_mk x)
  refine ⟨w', q1, ⟨_, q2, fun j => ?_⟩, q3⟩
  by_cases e : j = k
  · subst e; rw [Maps.atKey_put_same h1.isMap (isKeyI j)]; simp
  · rw [Maps.atKey_put_other (litI_ne e), h2]; simp [e]
theorem RngM.eq {w : World} {b n : Nat} {S T : Int → Int × Int} (h : RngM w b n S) (e : ∀ k, S k = T k) : RngM w b n T := by rw [← funext e]; exact h
theorem not_any (a b : Int) (w : World) :
    Calls Try.prog 56 #[.agg #[.int .u64 a, .int .u64 b]] w fun e w' => e = .returned (.agg #[.int .u64 (notB (a, b)).1, .int .u64 (notB (a, b)).2]) ∧ Below w.heap.size w w' := by
  have B0 := Lib.hid (two_below w (.cells #[.int .u64 a, .int .u64 b] 25) (.cells #[.int .u64 0, .int .u64 0] 25))
  have D1 : Hid (Duo ((w.alloc (.cells #[.int .u64 a, .int .u64 b] 25)).alloc (.cells #[.int .u64 0, .int .u64 0] 25)) (w.heap.size + 1) 25 (.int .u64 0) (.int .u64 0)) := Lib.hid (by
    have := World.alloc_heap_new (w.alloc (.cells #[.int .u64 a, .int .u64 b] 25)) (.cells #[.int .u64 0, .int .u64 0] 25)
    rwa [World.size_alloc] at this)
  have d0 : Duo ((w.alloc (.cells #[.int .u64 a, .int .u64 b] 25)).alloc (.cells #[.int .u64 0, .int .u64 0] 25)) w.heap.size 25 (.int .u64 a) (.int .u64 b) := (Below.heap_alloc _ _ _ (by simp)).trans (World.alloc_heap_new w _)
  have c0 := d0.c0
  have c1 := d0.c1
  have c2 := D1.out.c0
  have c3 := D1.out.c1
  have f0 := Duo.fz D1.out 0
  have f1 := Duo.fz D1.out 1
  have hlt := D1.out.lt
  clear d0
  by_cases h0 : a = 0
  · subst h0
    by_cases h1 : b = 0
    · subst h1
      go_enter Try.func56, Try.ntmps56
      go_upto_region 1 with fail
      generalize (w.alloc (.cells #[.int .u64 0, .int .u64 0] 25)).alloc (.cells #[.int .u64 0, .int .u64 0] 25) = W at *
      go_wp2_with (go_at_call 15; refine (Point_any _ _).mono ?_; rintro e W2 ⟨rfl, hb⟩; have D2 := Duo.keep D1.out hb hlt; have c2 := D2.c0; have c3 := D2.c1; have f0 := Duo.fz D2 0; have f1 := Duo.fz D2 1; have B2 := Lib.hid (chain2 B0.out hb); have D2 := Lib.hid D2)
      have q := Duo.sets D2.out (.int .u64 1) (.int .u64 1)
      exact bodyPost_ret (v := .agg #[.int .u64 1, .int .u64 1]) (by simp [results, Try.results56, go_sem, q.c0, q.c1]) rfl ⟨rfl, bset2 B2.out (Nat.le_succ _) _ _⟩
    · have e : notB (0, b) = (0, 1) := by simp [notB, h1]
      rw [e]
      go_enter Try.func56, Try.ntmps56
      go_upto_region 1 with fail
      generalize (w.alloc (.cells #[.int .u64 0, .int .u64 b] 25)).alloc (.cells #[.int .u64 0, .int .u64 0] 25) = W at *
      go_wp2_with fail
      have q := Duo.sets D1.out (.int .u64 0) (.int .u64 1)
      exact bodyPost_ret (v := .agg #[.int .u64 0, .int .u64 1]) (by simp [results, Try.results56, go_sem, q.c0, q.c1]) rfl ⟨rfl, bset2 B0.out (Nat.le_succ _) _ _⟩
  · have e : notB (a, b) = (0, 0) := by simp [notB, h0]
    rw [e]
    go_enter Try.func56, Try.ntmps56
    go_upto_region 1 with fail
    generalize (w.alloc (.cells #[.int .u64 a, .int .u64 b] 25)).alloc (.cells #[.int .u64 0, .int .u64 0] 25) = W at *
    go_wp2_with (go_at_call 15; refine (Point_any _ _).mono ?_; rintro e W2 ⟨rfl, hb⟩; have D2 := Duo.keep D1.out hb hlt; have c2 := D2.c0; have c3 := D2.c1; have f0 := Duo.fz D2 0; have f1 := Duo.fz D2 1; have B2 := Lib.hid (chain2 B0.out hb); have D2 := Lib.hid D2)
    have q := Duo.sets D2.out (.int .u64 0) (.int .u64 0)
    exact bodyPost_ret (v := .agg #[.int .u64 0, .int .u64 0]) (by simp [results, Try.results56, go_sem, q.c0, q.c1]) rfl ⟨rfl, bset2 B2.out (Nat.le_succ _) _ _⟩
/-- What rangeOf answers. -/
def RangePost (x : XE) (R : RngL) (G : Int → Int × Int) (q : Ending) : Prop := ∃ u v, q = .returned (.tuple #[.agg #[.int .u64 u, .int .u64 v], .bool (ofX x R (fun k => some (G k))).isSome]) ∧ ∀ r, ofX x R (fun k => some (G k)) = some r → r = (u, v)
theorem rangePost_some {x : XE} {R : RngL} {G : Int → Int × Int} {u v : Int} (h : ofX x R (fun k => some (G k)) = some (u, v)) : RangePost x R G (.returned (.tuple #[.agg #[.int .u64 u, .int .u64 v], .bool true])) := ⟨u, v, by rw [h]; rfl, fun r hr => by rw [h] at hr; cases hr; rfl⟩
set_option maxHeartbeats 4000000 in
set_option maxRecDepth 100000 in
theorem rangeOf_any (x : XE) (kv : Value) (R : RngL) (sv : Value) (b n : Nat) (G : Int → Int × Int) (w : World) (hk : KidR w kv x.kids) (he : RngAt w.heap.size w sv R) (hm : RngM w b n G) (ho : (opsX x).isSome = true) (hG : ∀ k, WR (G k)) :
    Calls Try.prog 32 #[.agg #[.int .i64 x.k, .string (bs x.op), .int .u64 x.n, .string (bs x.s), kv], sv, .map (some b)] w fun q w' => RangePost x R G q ∧ Below w.heap.size w w' := by
  have H0 : ∀ u v, ofX x R (fun k => some (G k)) = some (u, v) → RangePost x R G (.returned (.tuple #[.agg #[.int .u64 u, .int .u64 v], .bool true])) := fun u v h => rangePost_some h
  have H4 : ∀ q, x.k = 1 → NamePost R x.s q → RangePost x R G q := fun q h1 h => by
    have e : ofX x R (fun k => some (G k)) = nameB R x.s := by unfold ofX; rw [if_neg (by omega), if_pos h1]
    unfold RangePost; rw [e]; exact h
  have H5 : x.k = 3 → ∀ k0 k1, x.kids = [k0, k1] → ∀ r, opB x.op (G k0) (G k1) = r → RangePost x R G (optE r) := fun h3 k0 k1 hk r hr => by
    have e : ofX x R (fun k => some (G k)) = r := by unfold ofX; rw [if_neg (by omega), if_neg (by omega), if_neg (by omega), hk]; exact hr
    unfold RangePost; rw [e]; exact ⟨_, _, rfl, fun r' h => by rw [h]; rfl⟩
  have H6 : x.k = 2 → ∀ k0, x.kids = [k0] → RangePost x R G (.returned (.tuple #[.agg #[.int .u64 (notB ((G k0).1, (G k0).2)).1, .int .u64 (notB ((G k0).1, (G k0).2)).2], .bool true])) := fun h2 k0 hk => by
    refine H0 _ _ ?_
    unfold ofX; rw [if_neg (by omega), if_neg (by omega), if_pos h2, hk]; rfl
  have H7 : x.k = 0 → RangePost x R G (.returned (.tuple #[.agg #[.int .u64 x.n, .int .u64 x.n], .bool true])) := fun h0 => H0 _ _ (by unfold ofX; rw [if_pos h0])
  have hv : ∃ a l c, sv = .slice a l c := by obtain ⟨a, c, rfl, _⟩ := he; exact ⟨_, _, _, rfl⟩
  have hkv : ∃ a l c, kv = .slice a l c := by obtain ⟨a, c, rfl, _⟩ := hk; exact ⟨_, _, _, rfl⟩
  have H1 := Lib.hid fun h => kids1 (x := x) ho h
  have H2 := Lib.hid fun h => kids2 (x := x) ho h
  have H3 := Lib.hid (show x.k = 0 ∨ x.k = 1 ∨ x.k = 2 ∨ x.k = 3 from by
    by_cases a : x.k = 0 ∨ x.k = 1
    · omega
    by_cases b : x.k = 2
    · omega
    by_cases c : x.k = 3
    · omega
    unfold opsX at ho
    simp [a, b, c] at ho)
  have CN := Lib.hid fun (w' : World) (h : RngAt w'.heap.size w' sv R) => named_any sv R x.s w' h
  have CO := Lib.hid fun (u v : Int) (w' : World) => bOp_any (bs x.op) (G u) (G v) (hG u) (hG v) w'
  have H4 := Lib.hid H4
  have H5 := Lib.hid H5
  have H6 := Lib.hid H6
  have H7 := Lib.hid H7
  clear H0
  obtain ⟨O, hO⟩ : ∃ O, bs x.op = O := ⟨_, rfl⟩
  obtain ⟨S, hS⟩ : ∃ S, bs x.s = S := ⟨_, rfl⟩
  rw [show (⟨x.s.toArray⟩ : ByteArray) = S from hS] at CN
  rw [show (bs x.op).toList = x.op from by rw [ByteArray.toList_eq]; rfl, hO] at CO
  rw [hO, hS]
  clear hO hS
  generalize RangePost x R G = PP at H4 H5 H6 H7 ⊢
  have hb1 : Below w.heap.size w ((w.alloc (.cells #[.int .i64 x.k, .string O, .int .u64 x.n, .string S, kv] 83)).alloc (.cells #[.int .u64 0, .int .u64 0] 25)) := two_below _ _ _
  have K1 := Lib.hid (hk.below hb1)
  have V1 := Lib.hid (hm.below hb1 hm.lt)
  have E1 := Lib.hid (he.below hb1)
  have HB := Lib.hid hb1
  have hbm := Lib.hid (Nat.lt_succ_of_lt hm.lt)
  have hkb : Hid (∀ p : Addr, (∃ l c, kv = .slice (some p) l c) → 0 < x.kids.length → p.block < w.heap.size + 1) := Lib.hid fun p ⟨l, c, e⟩ h0 => by
    obtain ⟨a', c', e2, h2, h3⟩ := hk
    obtain ⟨y, hy⟩ : ∃ y, x.kids[0]? = some y := ⟨_, List.getElem?_eq_getElem h0⟩
    obtain ⟨⟨q, q1, q2, q3⟩, q4⟩ := h3 0 y hy
    rw [e] at e2
    simp only [Value.slice.injEq] at e2
    rw [← e2.1] at q1
    cases q1
    exact Nat.lt_succ_of_lt q2
  clear hk hm he ho hG hb1
  obtain ⟨sa, sl, sc, rfl⟩ := hv
  obtain ⟨ka, kl, kc, rfl⟩ := hkv
  obtain ⟨k, op, m, s, kids⟩ := x
  simp only at K1 V1 E1 HB H1 H2 H3 H4 H5 H6 H7 CN CO hkb ⊢
  have D2 := Lib.hid (show Duo ((w.alloc (.cells #[.int .i64 k, .string O, .int .u64 m, .string S, .slice ka kl kc] 83)).alloc (.cells #[.int .u64 0, .int .u64 0] 25)) (w.heap.size + 1) 25 (.int .u64 0) (.int .u64 0) from by
    have := World.alloc_heap_new (w.alloc (.cells #[.int .i64 k, .string O, .int .u64 m, .string S, .slice ka kl kc] 83)) (.cells #[.int .u64 0, .int .u64 0] 25)
    rwa [World.size_alloc] at this)
  have B5 := (Below.heap_alloc (w.alloc (.cells #[.int .i64 k, .string O, .int .u64 m, .string S, .slice ka kl kc] 83)) (.cells #[.int .u64 0, .int .u64 0] 25) w.heap.size (by simp)).trans (World.alloc_heap_new w _)
  have hsz : ((w.alloc (.cells #[.int .i64 k, .string O, .int .u64 m, .string S, .slice ka kl kc] 83)).alloc (.cells #[.int .u64 0, .int .u64 0] 25)).heap.size = w.heap.size + 2 := by simp
  go_enter Try.func32, Try.ntmps32
  go_upto_region 1 with fail
  generalize (w.alloc (.cells #[.int .i64 k, .string O, .int .u64 m, .string S, .slice ka kl kc] 83)).alloc (.cells #[.int .u64 0, .int .u64 0] 25) = W at *
  have c0 : W.cell? ⟨w.heap.size, 0, none⟩ = some (.int .i64 k) := by simp [World.cell?, B5]
  have c1 : W.cell? ⟨w.heap.size, 1, none⟩ = some (.string O) := by simp [World.cell?, B5]
  have c2 : W.cell? ⟨w.heap.size, 2, none⟩ = some (.int .u64 m) := by simp [World.cell?, B5]
  have c3 : W.cell? ⟨w.heap.size, 3, none⟩ = some (.string S) := by simp [World.cell?, B5]
  have c4 : W.cell? ⟨w.heap.size, 4, none⟩ = some (.slice ka kl kc) := by simp [World.cell?, B5]
  clear B5
  have KP : Hid (∀ W2, Below W.heap.size W W2 → Duo W2 (w.heap.size + 1) 25 (.int .u64 0) (.int .u64 0) ∧ Below w.heap.size w W2) := Lib.hid fun W2 hb => ⟨Duo.keep D2.out hb (by omega), HB.out.trans (hb.mono HB.out.size)⟩
  by_cases h0 : k = 0
  · subst h0
    go_wp2_with (go_at_call 15; refine (Point_any _ _).mono ?_; rintro e W2 ⟨rfl, hb⟩; obtain ⟨D3, B3⟩ := KP.out W2 hb; have d2 := D3.c0; have d3 := D3.c1; have f0 := Duo.fz D3 0; have f1 := Duo.fz D3 1; have B3 := Lib.hid B3; have D3 := Lib.hid D3; clear hb)
    have q := Duo.sets D3.out (.int .u64 m) (.int .u64 m)
    exact bodyPost_ret (v := .tuple #[.agg #[.int .u64 m, .int .u64 m], .bool true]) (by simp [results, Try.results32, go_sem, q.c0, q.c1]) rfl ⟨H7.out (by trivial), bset2 B3.out (Nat.le_succ _) _ _⟩
  by_cases h1 : k = 1
  · subst h1
    have EW : RngAt W.heap.size W (.slice sa sl sc) R := by
      obtain ⟨a, c, q1, q2, q3⟩ := E1.out
      exact ⟨a, c, q1, q2, fun i x hx => by obtain ⟨k, k1, k2, k3⟩ := q3 i x hx; exact ⟨k, k1, by omega, k3⟩⟩
    have CC := Lib.hid (CN.out W EW)
    clear EW
    go_wp2_with (go_at_call 55; refine CC.out.mono ?_; rintro e W2 ⟨⟨u, v, rfl, hr⟩, hb⟩; obtain ⟨D3, B3⟩ := KP.out W2 hb; have d2 := D3.c0; have d3 := D3.c1; have f0 := Duo.fz D3 0; have f1 := Duo.fz D3 1; have B3 := Lib.hid B3; have D3 := Lib.hid D3; have HR := Lib.hid hr; clear hb hr)
    have q := Duo.sets D3.out (.int .u64 u) (.int .u64 v)
    exact bodyPost_ret (v := .tuple #[.agg #[.int .u64 u, .int .u64 v], .bool (nameB R s).isSome]) (by simp [results, Try.results32, go_sem, q.c0, q.c1]) rfl ⟨H4.out _ (by trivial) ⟨u, v, rfl, HR.out⟩, bset2 B3.out (Nat.le_succ _) _ _⟩
  by_cases h2 : k = 2
  · subst h2
    obtain ⟨k0, rfl⟩ := H1.out rfl
    obtain ⟨p, rfl, ck, r1, r2⟩ := kid_at K1.out (j := 0) rfl
    obtain rfl := kid_len K1.out
    rw [show p.add 0 = p from rfl] at ck
    have LK := V1.out.look ⟨r1, r2⟩
    go_wp2_with (go_at_call 56; refine (not_any _ _ _).mono ?_; rintro e W2 ⟨rfl, hb⟩; obtain ⟨D3, B3⟩ := KP.out W2 hb; have d2 := D3.c0; have d3 := D3.c1; have f0 := Duo.fz D3 0; have f1 := Duo.fz D3 1; have B3 := Lib.hid B3; have D3 := Lib.hid D3; clear hb)
    have q := Duo.sets D3.out (.int .u64 (notB ((G k0).1, (G k0).2)).1) (.int .u64 (notB ((G k0).1, (G k0).2)).2)
    exact bodyPost_ret (v := .tuple #[.agg #[.int .u64 (notB ((G k0).1, (G k0).2)).1, .int .u64 (notB ((G k0).1, (G k0).2)).2], .bool true]) (by simp [results, Try.results32, go_sem, q.c0, q.c1]) rfl ⟨H6.out (by trivial) _ rfl, bset2 B3.out (Nat.le_succ _) _ _⟩
  · obtain rfl : k = 3 := by have := H3.out; omega
    obtain ⟨k0, k1, rfl⟩ := H2.out rfl
    obtain ⟨p, rfl, ck, r1, r2⟩ := kid_at K1.out (j := 0) rfl
    obtain ⟨p', hp', ck1, r3, r4⟩ := kid_at K1.out (j := 1) rfl
    cases hp'
    obtain rfl := kid_len K1.out
    rw [show p.add 0 = p from rfl] at ck
    rw [show p.add 1 = ⟨p.block, p.off + 1, none⟩ from rfl] at ck1
    have hbb : b < w.heap.size + 1 := hbm.out
    have hpb : p.block < w.heap.size + 1 := hkb.out p ⟨_, _, rfl⟩ (by simp)
    have CP := Lib.hid (CO.out k0 k1)
    obtain ⟨ob, hob⟩ : ∃ ob, opB op (G k0) (G k1) = ob := ⟨_, rfl⟩
    have HR := Lib.hid (H5.out rfl k0 k1 rfl ob hob)
    rw [hob] at CP
    clear hob
    go_wp2_with fail
    have KS : Hid (∀ w', Below (w.heap.size + 1) W w' → (fun w' => w'.cell? ⟨w.heap.size, 1, none⟩ = some (.string O) ∧ w'.cell? ⟨w.heap.size, 4, none⟩ = some (.slice (some p) 2 kc) ∧ w'.cell? p = some (.int .i64 k0) ∧ w'.cell? ⟨p.block, p.off + 1, none⟩ = some (.int .i64 k1) ∧ (Instr.lookup 88 (.map (some b)) (.int .i64 k0) false).run Try.prog w' = .ok (.agg #[.int .u64 (G k0).1, .int .u64 (G k0).2]) w' ∧ (Instr.lookup 88 (.map (some b)) (.int .i64 k1) false).run Try.prog w' = .ok (.agg #[.int .u64 (G k1).1, .int .u64 (G k1).2]) w' ∧ Below (w.heap.size + 1) W w') w') := Lib.hid fun w' hb => ⟨(hb.cell (p := ⟨w.heap.size, 1, none⟩) (Nat.lt_succ_self _)).trans c1, (hb.cell (p := ⟨w.heap.size, 4, none⟩) (Nat.lt_succ_self _)).trans c4, (hb.cell hpb).trans ck, (hb.cell (p := ⟨p.block, p.off + 1, none⟩) hpb).trans ck1, (V1.out.below hb hbb).look ⟨r1, r2⟩, (V1.out.below hb hbb).look ⟨r3, r4⟩, hb⟩
    have S0 := KS.out W (Below.refl _ _)
    have hW2 : w.heap.size + 1 ≤ W.heap.size := by omega
    have KD : Hid (∀ w', (fun w' => w'.cell? ⟨w.heap.size, 1, none⟩ = some (.string O) ∧ w'.cell? ⟨w.heap.size, 4, none⟩ = some (.slice (some p) 2 kc) ∧ w'.cell? p = some (.int .i64 k0) ∧ w'.cell? ⟨p.block, p.off + 1, none⟩ = some (.int .i64 k1) ∧ (Instr.lookup 88 (.map (some b)) (.int .i64 k0) false).run Try.prog w' = .ok (.agg #[.int .u64 (G k0).1, .int .u64 (G k0).2]) w' ∧ (Instr.lookup 88 (.map (some b)) (.int .i64 k1) false).run Try.prog w' = .ok (.agg #[.int .u64 (G k1).1, .int .u64 (G k1).2]) w' ∧ Below (w.heap.size + 1) W w') w' → (fun w' => w'.cell? ⟨w.heap.size, 1, none⟩ = some (.string O) ∧ w'.cell? ⟨w.heap.size, 4, none⟩ = some (.slice (some p) 2 kc) ∧ w'.cell? p = some (.int .i64 k0) ∧ w'.cell? ⟨p.block, p.off + 1, none⟩ = some (.int .i64 k1) ∧ (Instr.lookup 88 (.map (some b)) (.int .i64 k0) false).run Try.prog w' = .ok (.agg #[.int .u64 (G k0).1, .int .u64 (G k0).2]) w' ∧ (Instr.lookup 88 (.map (some b)) (.int .i64 k1) false).run Try.prog w' = .ok (.agg #[.int .u64 (G k1).1, .int .u64 (G k1).2]) w' ∧ Below (w.heap.size + 1) W w') w'.drew) := Lib.hid fun w' h => KS.out _ h.2.2.2.2.2.2.drew
    have KC : Hid (∀ w' w'', (fun w' => w'.cell? ⟨w.heap.size, 1, none⟩ = some (.string O) ∧ w'.cell? ⟨w.heap.size, 4, none⟩ = some (.slice (some p) 2 kc) ∧ w'.cell? p = some (.int .i64 k0) ∧ w'.cell? ⟨p.block, p.off + 1, none⟩ = some (.int .i64 k1) ∧ (Instr.lookup 88 (.map (some b)) (.int .i64 k0) false).run Try.prog w' = .ok (.agg #[.int .u64 (G k0).1, .int .u64 (G k0).2]) w' ∧ (Instr.lookup 88 (.map (some b)) (.int .i64 k1) false).run Try.prog w' = .ok (.agg #[.int .u64 (G k1).1, .int .u64 (G k1).2]) w' ∧ Below (w.heap.size + 1) W w') w' → Below w'.heap.size w' w'' → (fun w' => w'.cell? ⟨w.heap.size, 1, none⟩ = some (.string O) ∧ w'.cell? ⟨w.heap.size, 4, none⟩ = some (.slice (some p) 2 kc) ∧ w'.cell? p = some (.int .i64 k0) ∧ w'.cell? ⟨p.block, p.off + 1, none⟩ = some (.int .i64 k1) ∧ (Instr.lookup 88 (.map (some b)) (.int .i64 k0) false).run Try.prog w' = .ok (.agg #[.int .u64 (G k0).1, .int .u64 (G k0).2]) w' ∧ (Instr.lookup 88 (.map (some b)) (.int .i64 k1) false).run Try.prog w' = .ok (.agg #[.int .u64 (G k1).1, .int .u64 (G k1).2]) w' ∧ Below (w.heap.size + 1) W w') w'') := Lib.hid fun w' w'' h hb => KS.out _ (h.2.2.2.2.2.2.trans (hb.mono (Nat.le_trans hW2 h.2.2.2.2.2.2.size)))
    have KE : Hid (∀ w' u v, (fun w' => w'.cell? ⟨w.heap.size, 1, none⟩ = some (.string O) ∧ w'.cell? ⟨w.heap.size, 4, none⟩ = some (.slice (some p) 2 kc) ∧ w'.cell? p = some (.int .i64 k0) ∧ w'.cell? ⟨p.block, p.off + 1, none⟩ = some (.int .i64 k1) ∧ (Instr.lookup 88 (.map (some b)) (.int .i64 k0) false).run Try.prog w' = .ok (.agg #[.int .u64 (G k0).1, .int .u64 (G k0).2]) w' ∧ (Instr.lookup 88 (.map (some b)) (.int .i64 k1) false).run Try.prog w' = .ok (.agg #[.int .u64 (G k1).1, .int .u64 (G k1).2]) w' ∧ Below (w.heap.size + 1) W w') w' → (fun w' => w'.cell? ⟨w.heap.size, 1, none⟩ = some (.string O) ∧ w'.cell? ⟨w.heap.size, 4, none⟩ = some (.slice (some p) 2 kc) ∧ w'.cell? p = some (.int .i64 k0) ∧ w'.cell? ⟨p.block, p.off + 1, none⟩ = some (.int .i64 k1) ∧ (Instr.lookup 88 (.map (some b)) (.int .i64 k0) false).run Try.prog w' = .ok (.agg #[.int .u64 (G k0).1, .int .u64 (G k0).2]) w' ∧ (Instr.lookup 88 (.map (some b)) (.int .i64 k1) false).run Try.prog w' = .ok (.agg #[.int .u64 (G k1).1, .int .u64 (G k1).2]) w' ∧ Below (w.heap.size + 1) W w') ((w'.setCell ⟨w.heap.size + 1, 0, none⟩ u).setCell ⟨w.heap.size + 1, 1, none⟩ v)) := Lib.hid fun w' u v h => KS.out _ ((h.2.2.2.2.2.2.setCell (p := ⟨w.heap.size + 1, 0, none⟩) (Nat.le_refl _) _).setCell (p := ⟨w.heap.size + 1, 1, none⟩) (Nat.le_refl _) _)
    go_region_held3 (fun w' => w'.cell? ⟨w.heap.size, 1, none⟩ = some (.string O) ∧ w'.cell? ⟨w.heap.size, 4, none⟩ = some (.slice (some p) 2 kc) ∧ w'.cell? p = some (.int .i64 k0) ∧ w'.cell? ⟨p.block, p.off + 1, none⟩ = some (.int .i64 k1) ∧ (Instr.lookup 88 (.map (some b)) (.int .i64 k0) false).run Try.prog w' = .ok (.agg #[.int .u64 (G k0).1, .int .u64 (G k0).2]) w' ∧ (Instr.lookup 88 (.map (some b)) (.int .i64 k1) false).run Try.prog w' = .ok (.agg #[.int .u64 (G k1).1, .int .u64 (G k1).2]) w' ∧ Below (w.heap.size + 1) W w')
      (first | assumption | exact KD.out _ (by assumption) | exact KE.out _ _ _ (by assumption) | exact KC.out _ _ (by assumption) (by assumption) | exact KD.out _ S0)
      (first | (go_at_call 9; refine (CP.out _).mono ?_; rintro e W2 ⟨rfl, hb⟩; obtain ⟨D3, B3⟩ := KP.out W2 ((Below.refl _ W).drew.trans hb); have d2 := D3.c0; have d3 := D3.c1; have f0 := Duo.fz D3 0; have f1 := Duo.fz D3 1; have B3 := Lib.hid B3; have D3 := Lib.hid D3))
    all_goals
      clear KS KD KC KE S0
      go_wp2_with fail
      have q := Duo.sets D3.out (.int .u64 (ob.getD (0, 0)).1) (.int .u64 (ob.getD (0, 0)).2)
      exact bodyPost_ret (v := .tuple #[.agg #[.int .u64 (ob.getD (0, 0)).1, .int .u64 (ob.getD (0, 0)).2], .bool ob.isSome]) (by simp [results, Try.results32, go_sem, q.c0, q.c1]) rfl ⟨HR.out, bset2 B3.out (Nat.le_succ _) _ _⟩
end Go.Proofs.Ytoengahfkfmfeaa
