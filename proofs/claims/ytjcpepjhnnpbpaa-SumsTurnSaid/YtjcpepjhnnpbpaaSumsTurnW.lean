/- Layer 4's law SumsTurn. -/
import Derived.Test.YtjcpepjhnnpbpaaSumsE
import Derived.Test.YtjcpepjhnnpbpaaArr3
import Derived.Deep.RegionHeld3
import Derived.StillTailTactics
import Derived.Laws.IdiomStrings
namespace Go.Proofs.Ytjcpepjhnnpbpaa
open Go.ChangeShapes Go.WideShapes Go.ChangeAt Go.RowKit
set_option linter.unusedVariables false

theorem min_nat (a b : Nat) : ∃ p : Nat, (if (b : Int) < a then (b : Int) else a) = p ∧ p ≤ a ∧ p ≤ b := by
  split
  · exact ⟨b, rfl, by omega, by omega⟩
  · exact ⟨a, rfl, by omega, by omega⟩

theorem extract_size (a : ByteArray) {p : Nat} (h : p ≤ a.size) : (a.extract 0 p).size = p := by simp; omega

theorem box_cells {w w3 : World} {v0 v1 : Value} {t : TypeId} (h : Below (w.alloc (.cells #[v0, v1] t)).heap.size (w.alloc (.cells #[v0, v1] t)) w3) :
    w3.cell? ⟨w.heap.size, 0, none⟩ = some v0 ∧ w3.cell? ⟨w.heap.size, 1, none⟩ = some v1 ∧ w.heap.size < w3.heap.size := by
  have hs := h.size
  simp at hs
  refine ⟨(h.cell (by simp)).trans ?_, (h.cell (by simp)).trans ?_, by omega⟩
  all_goals
    rw [cell_of_row _ _ _ _ _ (0, 0) (heap_alloc_new w _)]
    rfl

theorem below_drew {B : Nat} {a w : World} (h : Below B a w) : Below B a w.drew := ⟨h.os, h.tape, h.output, h.size, h.block⟩

/-- From the head of block g on lie the bytes l, and they may be written. -/
def Bs (g : Nat) (l : List UInt8) (w : World) : Prop := g < w.heap.size ∧ ∀ j (hj : j < l.length), w.cell? ⟨g, j, none⟩ = some (.int .u8 (l[j].toNat : Int)) ∧ w.frozen? ⟨g, j, none⟩ = false
theorem Bs.below {g B : Nat} {l : List UInt8} {w w' : World} (h : Bs g l w) (hb : Below B w w') (hg : g < B) : Bs g l w' :=
  ⟨Nat.lt_of_lt_of_le h.1 hb.size, fun j hj => ⟨(hb.cell (p := ⟨g, j, none⟩) hg).trans (h.2 j hj).1, (hb.frozen (p := ⟨g, j, none⟩) hg).trans (h.2 j hj).2⟩⟩
theorem Bs.keep {g : Nat} {l : List UInt8} {w w' : World} (h : Bs g l w) (hb : Below w.heap.size w w') : Bs g l w' := h.below hb h.1
theorem Bs.drewN {g : Nat} {l : List UInt8} {w : World} (h : Bs g l w) (n : Nat) : Bs g l (w.drewN n) := h
theorem Bs.other {g : Nat} {l : List UInt8} {w : World} (h : Bs g l w) (p : Addr) (hp : p.block ≠ g) (v : Value) : Bs g l (w.setCell p v) :=
  ⟨by simpa [World.setCell] using h.1, fun j hj => ⟨by rw [World.cell?_setCell_other _ _ _ _ (by rintro rfl; exact hp rfl)]; exact (h.2 j hj).1, by rw [World.frozen?_setCell]; exact (h.2 j hj).2⟩⟩
theorem Bs.set {g : Nat} {l : List UInt8} {w : World} (h : Bs g l w) (i : Nat) (c : UInt8) : Bs g (l.set i c) (w.setCell ⟨g, i, none⟩ (.int .u8 (c.toNat : Int))) :=
  ⟨by simpa [World.setCell] using h.1, fun j hj => by
    rw [List.length_set] at hj
    refine ⟨?_, by rw [World.frozen?_setCell]; exact (h.2 j hj).2⟩
    rw [List.getElem_set]
    by_cases e : i = j
    · subst e
      rw [World.cell?_setCell_same _ _ _ (h.2 i hj).1, if_pos rfl]
    · rw [World.cell?_setCell_other _ _ _ _ (by intro x; exact e (by injection x)), (h.2 j hj).1, if_neg e]⟩

theorem bytes_of (l : ByteArray) (w : World) : ∃ (cap : Nat) (w' : World), (convert 9 35 (.string l)).run Try.prog w = .ok (.slice (some ⟨w.heap.size, 0, none⟩) l.size cap) w' ∧ w'.heap.size = w.heap.size + 1 ∧ Below w.heap.size w w' ∧ Bs w.heap.size l.data.toList w' := by
  have h := run_bytes_of_string w _ _ _ l Try.underlying9 Try.underlying35 Try.underlying5
  generalize grownCap w l.size 0 5 = cap at h
  have hz : ∀ o, (w.drew.alloc o).heap.size = w.heap.size + 1 := fun o => World.size_alloc w.drew o
  refine ⟨_, _, h, hz _, (below_drew (Below.refl _ _)).alloc (Nat.le_refl _) _, by rw [hz]; omega, fun j hj => ?_⟩
  have hl : j < l.data.size := by simpa using hj
  have e : (w.drew.alloc (.cells (bytesRow l cap) 5 ((bytesRow l cap).size, (bytesRow l cap).size + 1))).heap[w.heap.size]? = some (.cells (bytesRow l cap) 5 ((bytesRow l cap).size, (bytesRow l cap).size + 1)) := heap_alloc_new w.drew _
  refine ⟨?_, ?_⟩
  · rw [cell_of_row _ _ j _ _ _ e, bytesRow, Array.getElem?_append_left (by simpa using hl), Array.getElem?_map, Array.getElem?_eq_getElem hl]
    rfl
  · refine (World.frozen?_alloc_mark w.drew _ _ _ _ j).trans ?_
    have : ¬ (bytesRow l cap).size ≤ j := by
      have : (bytesRow l cap).size = l.data.size + (cap - l.size) := by simp [bytesRow]
      omega
    simp [this]

theorem xor_u8 (u c : UInt8) : bits .xor .u8 (u.toNat : Int) (c.toNat : Int) = ((u ^^^ c).toNat : Int) := by
  rw [u8_xor_nat _ _ u.toNat_lt c.toNat_lt, UInt8.toNat_xor]

/-- 'string(b)' of such a block. -/
theorem Bs.text {g n cap : Nat} {l : List UInt8} (hn : n = l.length) {w : World} (h : Bs g l w) : (convert 35 9 (.slice (some ⟨g, 0, none⟩) n cap)).run Try.prog w = .ok (.string ⟨l.toArray⟩) w := by
  subst hn
  refine run_convert_bytes_back w _ _ _ _ cap l Try.underlying35 Try.underlying5 Try.underlying9 fun j hj => ?_
  rw [show (⟨g, 0, none⟩ : Addr).add j = ⟨g, j, none⟩ from by unfold Addr.add; split <;> simp_all]
  exact (h.2 j hj).1

/-- What is held while the four checksums are made. -/
theorem turnS_keep {w0 w w' : World} {g q : Nat} {l m : List UInt8} (hb : Below w.heap.size w w') (h1 : Bs g l w) (h2 : Bs q m w) (h3 : Below w0.heap.size w0 w) : Bs g l w' ∧ Bs q m w' ∧ Below w0.heap.size w0 w' :=
  ⟨h1.keep hb, h2.keep hb, chain4 h3 (Nat.le_refl _) hb⟩

set_option maxRecDepth 100000 in
theorem SumsTurn_walk (a0 : ByteArray) (a1 : ByteArray) (x2a x2b : Int) (w : World) (w0 : a0.size ≤ maxLen) (w1 : a1.size ≤ maxLen) (w2a : (Lit.int .u8 x2a).wf = true) (w2b : (Lit.int .u8 x2b).wf = true) :
    Calls Try.prog 6 #[.string a0, .string a1, .agg #[.int .u8 x2a, .int .u8 x2b]] w fun e w' => e = .returned (.bool true) ∧ Below w.heap.size w w' := by
  unfold maxLen at w0 w1
  obtain ⟨p, ep, p1, p2⟩ := min_nat a0.size 100
  obtain ⟨q, eq, q1, q2⟩ := min_nat a1.size 100
  simp only [Int.cast_ofNat_Int] at ep eq
  go_enter Try.func6, Try.ntmps6
  go_wp2_with fail
  go_quiet (fail)
  go_wp2_with fail
  have s1 := extract_size a0 p1
  have s2 := extract_size a1 q1
  generalize a0.extract 0 p = S at s1 ⊢
  generalize a1.extract 0 q = T at s2 ⊢
  obtain ⟨n, en, n1, n2⟩ := min_nat p q
  have en' : (if q < p then (q : Int) else (p : Int)) = n := by rw [← en]; simp only [Int.ofNat_lt]
  clear ep eq w0 w1
  go_quiet (fail)
  go_wp2_with fail
  have s3 := extract_size S (show n ≤ S.size by omega)
  have s4 := extract_size T (show n ≤ T.size by omega)
  generalize S.extract 0 n = l at s3 ⊢
  generalize T.extract 0 n = m at s4 ⊢
  have hn : n ≤ 100 := by omega
  clear en en' n1 n2 s1 s2 p1 p2 q1 q2
  refine (wakes_any _).mono ?_; rintro e wa ⟨rfl, ba⟩
  obtain ⟨c0, c1, c2⟩ := box_cells (w := w) (v0 := .int .u8 x2a) (v1 := .int .u8 x2b) (t := 34) (w3 := wa) ⟨ba.os, ba.tape, ba.output, ba.size, ba.block⟩
  have bA : Below w.heap.size w wa := chain4 (b := w.alloc (.cells #[.int .u8 x2a, .int .u8 x2b] 34)) ((Below.refl _ _).alloc (Nat.le_refl _) _) (Nat.le_refl _) ⟨ba.os, ba.tape, ba.output, ba.size, ba.block⟩
  clear ba
  by_cases hn0 : n = 0
  · have d0 : ((n : Int) == 0) = true := by simp [hn0]
    go_wp2_with fail
    refine (wakes_any _).mono ?_; rintro e wb ⟨rfl, bb⟩
    go_wp2_with fail
    go_ret
    exact ⟨rfl, chain4 bA (Nat.le_refl _) bb⟩
  have d0 : ((n : Int) == 0) = false := by simp; omega
  by_cases hx0 : x2b = 0
  · have d1 : (x2b == 0) = true := by simp [hx0]
    go_wp2_with fail
    refine (wakes_any _).mono ?_; rintro e wb ⟨rfl, bb⟩
    go_wp2_with fail
    go_ret
    exact ⟨rfl, chain4 bA (Nat.le_refl _) bb⟩
  have d1 : (x2b == 0) = false := by simpa using hx0
  have ux := bounds_u8 w2a
  have uy := bounds_u8 w2b
  obtain ⟨xa, rfl⟩ := Int.eq_ofNat_of_zero_le ux.1
  obtain ⟨xb, rfl⟩ := Int.eq_ofNat_of_zero_le uy.1
  obtain ⟨i, ei, hi⟩ : ∃ i : Nat, (xa : Int) % (n : Int) = i ∧ i < n := ⟨xa % n, by simp, Nat.mod_lt _ (by omega)⟩
  obtain ⟨ca, wA, rA, sA, bA1, hA⟩ := bytes_of l wa
  obtain ⟨cb, wB, rB, sB, bB1, hB⟩ := bytes_of m wA
  rw [s3] at rA
  rw [s4] at rB
  have RA := Lib.hid rA
  have RB := Lib.hid rB
  have hA1 := hA.keep bB1
  have bB := chain4 (chain4 bA (Nat.le_refl _) bA1) (Nat.le_refl _) bB1
  have cB := (chain4 bA1 (Nat.le_refl _) bB1).cell (p := ⟨w.heap.size, 1, none⟩) c2
  rw [c1] at cB
  rw [sA] at hB
  clear rA rB hA bA bA1 bB1
  go_wp2_with (first | (simp only [RA.out]) | (simp only [RB.out]))
  clear RA RB sA sB c0 c1
  have hab := c2
  generalize wa.heap.size = a at *
  obtain ⟨c, hc⟩ : ∃ c : UInt8, c.toNat = xb := ⟨UInt8.ofNat xb, by rw [UInt8.toNat_ofNat']; omega⟩
  subst hc
  have lL : l.data.toList.length = n := by simpa using s3
  have lM : m.data.toList.length = n := by simpa using s4
  have hcu := hA1.2 i (by rw [lL]; exact hi)
  have hcv := hB.2 i (by rw [lM]; exact hi)
  obtain ⟨u, hu⟩ : ∃ u, u = l.data.toList[i]'(by rw [lL]; exact hi) := ⟨_, rfl⟩
  obtain ⟨v, hv⟩ : ∃ v, v = m.data.toList[i]'(by rw [lM]; exact hi) := ⟨_, rfl⟩
  rw [← hu] at hcu
  rw [← hv] at hcv
  obtain ⟨hcu1, hcu2⟩ := hcu
  have hii : (i : Int) < n := by omega
  have bu := u.toNat_lt
  have bv := v.toNat_lt
  have bc := c.toNat_lt
  have xu := xor_u8 u c
  have xv := xor_u8 v c
  obtain ⟨d, hd⟩ : ∃ d, d = u ^^^ c := ⟨_, rfl⟩
  obtain ⟨f, hf⟩ : ∃ f, f = v ^^^ c := ⟨_, rfl⟩
  rw [← hd] at xu
  rw [← hf] at xv
  have bd := d.toNat_lt
  have bf := f.toNat_lt
  have HD := Lib.hid hd
  have HF := Lib.hid hf
  clear hd hf
  have HU := Lib.hid hu
  have HV := Lib.hid hv
  have hba : w.heap.size < a := by have := hab; omega
  clear hu hv ux uy w2a w2b ei
  go_still_tail 8, (by kernel_rfl)
  change wpList _ _ _ _ _ wB.drew
  have hA2 : Bs a l.data.toList wB.drew := hA1
  have hB2 : Bs (a + 1) m.data.toList wB.drew := hB
  have cB2 : wB.drew.cell? ⟨w.heap.size, 1, none⟩ = some (.int .u8 c.toNat) := cB
  have hf2 : wB.drew.frozen? ⟨a, i, none⟩ = false := hcu2
  have hc2 : wB.drew.cell? ⟨a, i, none⟩ = some (.int .u8 u.toNat) := hcu1
  have bB2 := below_drew bB
  clear hA1 hB cB hcu1 hcu2 bB hcv
  generalize wB.drew = W2 at hA2 hB2 cB2 hf2 hc2 bB2 ⊢
  go_wp2_with fail
  have hA3 := hA2.set i d
  have hB3 := hB2.other ⟨a, i, none⟩ (by show a ≠ a + 1; omega) (.int .u8 (d.toNat : Int))
  have cB3 : (W2.setCell ⟨a, i, none⟩ (.int .u8 (d.toNat : Int))).cell? ⟨w.heap.size, 1, none⟩ = some (.int .u8 c.toNat) := by
    rw [World.cell?_setCell_other _ _ _ _ (by intro x; injection x; omega)]; exact cB2
  have bB3 := bB2.setCell (p := ⟨a, i, none⟩) (by show w.heap.size ≤ a; omega) (.int .u8 (d.toNat : Int))
  obtain ⟨hcv1, hcv2⟩ := hB3.2 i (by rw [lM]; exact hi)
  rw [← HV.out] at hcv1
  clear hA2 hB2 cB2 hf2 hc2 bB2
  generalize W2.setCell ⟨a, i, none⟩ (.int .u8 (d.toNat : Int)) = W3 at hA3 hB3 cB3 bB3 hcv1 hcv2 ⊢
  go_still_tail 8, (by kernel_rfl)
  change wpList _ _ _ _ _ W3.drew
  have hA4 : Bs a (l.data.toList.set i d) W3.drew := hA3
  have hB4 : Bs (a + 1) m.data.toList W3.drew := hB3
  have hf4 : W3.drew.frozen? ⟨a + 1, i, none⟩ = false := hcv2
  have hc4 : W3.drew.cell? ⟨a + 1, i, none⟩ = some (.int .u8 v.toNat) := hcv1
  have bB4 := below_drew bB3
  clear hA3 hB3 cB3 hcv1 hcv2 bB3
  generalize W3.drew = W4 at hA4 hB4 hf4 hc4 bB4 ⊢
  go_wp2_with fail
  have hB5 := hB4.set i f
  have hA5 := hA4.other ⟨a + 1, i, none⟩ (by show a + 1 ≠ a; omega) (.int .u8 (f.toNat : Int))
  have bB5 := bB4.setCell (p := ⟨a + 1, i, none⟩) (by show w.heap.size ≤ a + 1; omega) (.int .u8 (f.toNat : Int))
  clear hA4 hB4 hf4 hc4 bB4
  generalize W4.setCell ⟨a + 1, i, none⟩ (.int .u8 (f.toNat : Int)) = W at hA5 hB5 bB5 ⊢
  have hl : l.size ≤ maxLen := by unfold maxLen; omega
  have hm : m.size ≤ maxLen := by unfold maxLen; omega
  obtain ⟨L, hL⟩ : ∃ L, L = l.data.toList.set i d := ⟨_, rfl⟩
  obtain ⟨M, hM⟩ : ∃ M, M = m.data.toList.set i f := ⟨_, rfl⟩
  have nL : n = L.length := by rw [hL, List.length_set, lL]
  have nM : n = M.length := by rw [hM, List.length_set, lM]
  have hc1 := fun w => Crc32_any l hl w
  have hc2 := fun w => Crc32_any ⟨L.toArray⟩ (by show L.toArray.size ≤ _; rw [List.size_toArray]; unfold maxLen; omega) w
  have hc3 := fun w => Crc32_any m hm w
  have hc4 := fun w => Crc32_any ⟨M.toArray⟩ (by show M.toArray.size ≤ _; rw [List.size_toArray]; unfold maxLen; omega) w
  have t1 : ∀ w', Bs a L w' → (convert 35 9 (.slice (some ⟨a, 0, none⟩) n ca)).run Try.prog w' = .ok (.string ⟨L.toArray⟩) w' := fun w' h => h.text nL
  have t2 : ∀ w', Bs (a + 1) M w' → (convert 35 9 (.slice (some ⟨a + 1, 0, none⟩) n cb)).run Try.prog w' = .ok (.string ⟨M.toArray⟩) w' := fun w' h => h.text nM
  rw [show (ByteArray.mk L.toArray).data.toList = L from rfl] at hc2
  rw [show (ByteArray.mk M.toArray).data.toList = M from rfl] at hc4
  obtain ⟨y1, hy1, Y1⟩ : ∃ y, y < 4294967296 ∧ Hid (crcV l.data.toList = y) := ⟨crcV l.data.toList, crcV_lt _, Lib.hid rfl⟩
  obtain ⟨y2, hy2, Y2⟩ : ∃ y, y < 4294967296 ∧ Hid (crcV L = y) := ⟨crcV L, crcV_lt _, Lib.hid rfl⟩
  obtain ⟨y3, hy3, Y3⟩ : ∃ y, y < 4294967296 ∧ Hid (crcV m.data.toList = y) := ⟨crcV m.data.toList, crcV_lt _, Lib.hid rfl⟩
  obtain ⟨y4, hy4, Y4⟩ : ∃ y, y < 4294967296 ∧ Hid (crcV M = y) := ⟨crcV M, crcV_lt _, Lib.hid rfl⟩
  rw [Y1.out] at hc1
  rw [Y2.out] at hc2
  rw [Y3.out] at hc3
  rw [Y4.out] at hc4
  obtain ⟨z, hz, Z⟩ : ∃ z, z ≠ 0 ∧ Hid (turned n i c = z) := ⟨turned n i c, turned_ne n i c hi (by rintro rfl; simp at d1), Lib.hid rfl⟩
  have e1 : y1 ^^^ y2 = z := by
    have := crcV_turn l.data.toList i c (by rw [lL]; exact hi)
    rw [List.getElem?_eq_getElem (by rw [lL]; exact hi), Option.getD_some, ← HU.out, ← HD.out, ← hL, lL, Z.out, Y1.out, Y2.out] at this
    exact this
  have e2 : y3 ^^^ y4 = z := by
    have := crcV_turn m.data.toList i c (by rw [lM]; exact hi)
    rw [List.getElem?_eq_getElem (by rw [lM]; exact hi), Option.getD_some, ← HV.out, ← HF.out, ← hM, lM, Z.out, Y3.out, Y4.out] at this
    exact this
  have e3 : bits .xor .u32 (y1 : Int) (y2 : Int) = (z : Int) := by rw [u32_xor_nat _ _ hy1 hy2, e1]
  have e4 : bits .xor .u32 (y3 : Int) (y4 : Int) = (z : Int) := by rw [u32_xor_nat _ _ hy3 hy4, e2]
  have E3 := Lib.hid e3
  have E4 := Lib.hid e4
  have hz0 : ((z : Int) != 0) = true := by rw [bne_iff_ne]; omega
  rw [← hL] at hA5
  rw [← hM] at hB5
  generalize ByteArray.mk L.toArray = lt at hc2 t1
  generalize ByteArray.mk M.toArray = mt at hc4 t2
  have HC1 := Lib.hid hc1; have HC2 := Lib.hid hc2; have HC3 := Lib.hid hc3; have HC4 := Lib.hid hc4
  clear hc1 hc2 hc3 hc4 hL hM e1 e2 e3 e4 hz Y1 Y2 Y3 Y4 HU HV HD HF Z lL lM xu xv nL nM bd bf bu bv bc
  go_region_held3 (fun w' => Bs a L w' ∧ Bs (a + 1) M w' ∧ Below w.heap.size w w')
    (first | exact ⟨hA5, hB5, below_drew bB5⟩ | (go_split_ands; exact turnS_keep (by assumption) (by assumption) (by assumption) (by assumption)) | go_keep)
    (first | ((with_reducible refine (HC1.out _).mono ?_); rintro e1 w5 ⟨rfl, hb5⟩) | ((with_reducible refine (HC2.out _).mono ?_); rintro e2 w6 ⟨rfl, hb6⟩))
  rename_i hHeld
  obtain ⟨hA6, hB6, bB6⟩ := hHeld
  rw [E3.out]
  clear hA5 hB5 bB5 HC1 HC2 E3 t1
  go_wp2_with fail
  go_region_held3 (fun w' => Bs a L w' ∧ Bs (a + 1) M w' ∧ Below w.heap.size w w')
    (first | exact ⟨hA6, hB6, below_drew bB6⟩ | (go_split_ands; exact turnS_keep (by assumption) (by assumption) (by assumption) (by assumption)) | go_keep)
    (first | ((with_reducible refine (HC3.out _).mono ?_); rintro e1 w7 ⟨rfl, hb7⟩) | ((with_reducible refine (HC4.out _).mono ?_); rintro e2 w8 ⟨rfl, hb8⟩))
  rename_i hHeld
  have bB8 := hHeld.2.2
  rw [E4.out]
  clear hHeld hA6 hB6 bB6 HC3 HC4 E4 t2
  have hzz : ((z : Int) == (z : Int)) = true := by simp
  rw [hzz]
  go_wp2_with fail
  go_ret
  exact ⟨rfl, bB8⟩

end Go.Proofs.Ytjcpepjhnnpbpaa
