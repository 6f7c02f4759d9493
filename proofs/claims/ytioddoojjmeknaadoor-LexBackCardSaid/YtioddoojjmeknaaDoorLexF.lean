/- Contracts of layer 6: the document's Lex. -/
import Derived.Test.YtioddoojjmeknaaDoorLexE
import Derived.Test.YtioddoojjmeknaaDoorToks
import Derived.Below
namespace Go.Proofs.YtioddoojjmeknaaDoor
open Go.ChangeShapes Go.WideShapes Go.ChangeAt Go.RowKit
set_option linter.unusedVariables false

def LR.toks : LR → List Tok
  | .ok l => l
  | .bad _ _ => []
def LR.pos : LR → Ps
  | .ok _ => (0, 0)
  | .bad p _ => p
def LR.err : LR → Nat
  | .ok _ => 0
  | .bad _ e => e

/-! No token has a line feed. -/
theorem isW_feed {c : UInt8} (h : isW c = true) : c ≠ 10 := fun e => by subst e; simp [isW, isL, isD] at h
theorem run_feed (l : List UInt8) : (runL l).count 10 = 0 := by
  rw [List.count_eq_zero]
  intro h
  have : (runL l).all isW = true := List.all_takeWhile
  exact isW_feed (List.all_eq_true.1 this _ h) rfl
theorem sgs_feed : sgs.all (fun g => g.count 10 == 0) = true := by decide
theorem sign_feed (l : List UInt8) : (signL l).count 10 = 0 := by
  rcases signF_mem sgs l with h | ⟨h, _⟩
  · unfold signL; rw [h]; rfl
  · exact eq_of_beq (List.all_eq_true.1 sgs_feed _ h)
theorem first_feed (l : List UInt8) : (firstL l).1.t.count 10 = 0 := by
  unfold firstL
  split
  · rfl
  · split
    · unfold wnL
      split
      · split
        · exact run_feed l
        · rfl
      · split
        · rfl
        · exact run_feed l
    · split
      · rfl
      · exact sign_feed l
theorem info_rtok : (Tryd.prog.info? 38).map (fun i => (i.zero, i.size, i.bytes)) = some (some (.agg #[.int .i64 0, .string ⟨#[]⟩, .int .u64 0, .int .i64 0, .int .i64 0]), 5, 48) := by kernel_rfl
theorem info_parts {P : Program} {t : TypeId} {z : Option Value} {n m : Nat} (h : (P.info? t).map (fun i => (i.zero, i.size, i.bytes)) = some (z, n, m)) : ∃ i, P.info? t = some i ∧ i.zero = z ∧ i.size = n ∧ i.bytes = m := by
  obtain ⟨i, h1, h2⟩ := Option.map_eq_some_iff.1 h
  simp only [Prod.mk.injEq] at h2
  exact ⟨i, h1, h2.1, h2.2.1, h2.2.2⟩

/-- The two cells of the call's own result. -/
theorem res2 {w w' : World} {v0 v1 : Value} {t : TypeId} (h : Below (w.alloc (.cells #[v0, v1] t)).heap.size (w.alloc (.cells #[v0, v1] t)) w') :
    w'.cell? ⟨w.heap.size, 0, none⟩ = some v0 ∧ w'.cell? ⟨w.heap.size, 1, none⟩ = some v1 ∧
    w'.frozen? ⟨w.heap.size, 0, none⟩ = false ∧ w'.frozen? ⟨w.heap.size, 1, none⟩ = false ∧ w.heap.size < w'.heap.size := by
  have hz : w.heap.size < w'.heap.size := Nat.lt_of_lt_of_le (by simp) h.size
  have hh : w'.heap[w.heap.size]? = some (.cells #[v0, v1] t (0, 0)) := (h.block w.heap.size (by simp)).trans (heap_alloc_new w _)
  refine ⟨?_, ?_, ?_, ?_, hz⟩
  · rw [cell_of_row _ _ _ _ _ (0, 0) hh]; rfl
  · rw [cell_of_row _ _ _ _ _ (0, 0) hh]; rfl
  · simp [World.frozen?, hh]
  · simp [World.frozen?, hh]
theorem res2_alloc {w w' : World} {v0 v1 : Value} (h0 : w'.cell? ⟨w.heap.size, 0, none⟩ = some v0) (h1 : w'.cell? ⟨w.heap.size, 1, none⟩ = some v1) (hz : w.heap.size < w'.heap.size) (T : Obj) (u0 : Value) :
    (w'.alloc T).cell? ⟨w.heap.size, 0, none⟩ = some v0 ∧ ((w'.setCell ⟨w.heap.size, 0, none⟩ u0).alloc T).cell? ⟨w.heap.size, 1, none⟩ = some v1 := by
  refine ⟨(World.cell?_alloc_lt _ _ _ hz).trans h0, (World.cell?_alloc_lt _ _ _ (by simpa using hz)).trans ?_⟩
  exact (World.cell?_setCell_other _ _ _ _ (by simp)).trans h1
theorem res2_set {w w' : World} {v0 v1 : Value} (h0 : w'.cell? ⟨w.heap.size, 0, none⟩ = some v0) (h1 : w'.cell? ⟨w.heap.size, 1, none⟩ = some v1) (hz : w.heap.size < w'.heap.size) (T : Obj) (u0 u1 : Value) :
    (((w'.setCell ⟨w.heap.size, 0, none⟩ u0).setCell ⟨w.heap.size, 1, none⟩ u1).alloc T).cell? ⟨w.heap.size, 0, none⟩ = some u0 ∧ (((w'.setCell ⟨w.heap.size, 0, none⟩ u0).setCell ⟨w.heap.size, 1, none⟩ u1).alloc T).cell? ⟨w.heap.size, 1, none⟩ = some u1 := by
  have hz' : w.heap.size < ((w'.setCell ⟨w.heap.size, 0, none⟩ u0).setCell ⟨w.heap.size, 1, none⟩ u1).heap.size := by simpa using hz
  refine ⟨(World.cell?_alloc_lt _ _ _ hz').trans ?_, (World.cell?_alloc_lt _ _ _ hz').trans ?_⟩
  · exact (World.cell?_setCell_other _ _ _ _ (by simp)).trans (World.cell?_setCell_same _ _ _ h0)
  · exact World.cell?_setCell_same _ _ _ ((World.cell?_setCell_other _ _ _ _ (by simp)).trans h1)

set_option maxHeartbeats 4000000 in
set_option maxRecDepth 100000 in
theorem refLex_any (s : ByteArray) (w : World) :
    Calls Tryd.prog 9 #[.string s] w fun e w' => ∃ v, e = .returned (.tuple #[v, .agg #[.int .i64 (lexL s.data.toList).pos.1, .int .i64 (lexL s.data.toList).pos.2], .int .i64 (lexL s.data.toList).err]) ∧ Toks 38 w.heap.size w' v (lexL s.data.toList).toks ∧ Below w.heap.size w w' := by
  by_cases hbig : 16384 < s.size
  · have e : lexL s.data.toList = .bad (1, 1) 7 := by unfold lexL; rw [if_pos (by rw [← size_list]; exact hbig)]
    have E := Lib.hid e
    clear e
    go_enter Tryd.func9, Tryd.ntmps9
    go_wp2_with fail
    refine bodyPost_ret (v := .tuple #[.slice none 0 0, .agg #[.int .i64 1, .int .i64 1], .int .i64 7]) (by simp [results, Tryd.results9, go_sem]) rfl ⟨.slice none 0 0, ?_, ?_, ?_⟩
    · rw [E.out]; rfl
    · rw [E.out]; exact Toks.nil _ _ _
    · exact below_box _ _
  · have e : lexL s.data.toList = lexG false (1, 1) s.data.toList := by unfold lexL; rw [if_neg (by rw [← size_list]; exact hbig)]
    obtain ⟨R, hR⟩ : ∃ R, R = lexL s.data.toList := ⟨_, rfl⟩
    have HR : Hid (R = lexG false (1, 1) s.data.toList) := Lib.hid (by rw [hR, e])
    rw [← hR]
    clear hR e
    obtain ⟨i0, hi, hz0, hz1, hz2⟩ := info_parts info_rtok
    go_enter Tryd.func9, Tryd.ntmps9
    go_wp2_with fail
    go_loopw [5, 6, 7, 8] (fun s5 s6 s7 s8 wr => ∃ (k x y : Nat) (acc : List Tok) (v : Value), v = s5 ∧ k ≤ s.size ∧ s8 = .int .i64 k ∧ s6 = .int .i64 x ∧ s7 = .int .i64 y ∧ x ≤ k + 1 ∧ y ≤ k + 1 ∧ acc.length ≤ k ∧ Toks 38 (w.alloc (.cells #[.int .i64 0, .int .i64 0] 29)).heap.size wr v acc ∧ Below (w.alloc (.cells #[.int .i64 0, .int .i64 0] 29)).heap.size (w.alloc (.cells #[.int .i64 0, .int .i64 0] 29)) wr ∧ Hid (R = LR.app acc (lexG false (x, y) (s.data.toList.drop k)))) (fun _ _ _ s8 _ => s.size - (intOf s8).toNat)
    case atStart => exact ⟨0, 1, 1, [], _, rfl, by omega, rfl, rfl, rfl, by omega, by omega, by simp, Toks.nil _ _ _, Below.refl _ _, Lib.hid (by rw [HR.out, LR.app_nil, List.drop_zero])⟩
    case round =>
      obtain ⟨k, x, y, acc, v, rfl, hk, rfl, rfl, rfl, hx, hy, ha, hT, hb, H⟩ := hrel
      have HT := Lib.hid hT
      have HB := Lib.hid hb
      clear hT hb HR
      by_cases hlt : k < s.size
      · have HD := Lib.hid (drop_byte s hlt)
        obtain ⟨c, hc⟩ : ∃ c, s[k] = c := ⟨_, rfl⟩
        rw [hc] at HD
        have e10 : ((c.toNat : Int) == 10) = decide (c = 10) := eq48 c 10 (by decide)
        have e32 : ((c.toNat : Int) == 32) = decide (c = 32) := eq48 c 32 (by decide)
        have e9 : ((c.toNat : Int) == 9) = decide (c = 9) := eq48 c 9 (by decide)
        have e13 : ((c.toNat : Int) == 13) = decide (c = 13) := eq48 c 13 (by decide)
        have e47 : ((c.toNat : Int) == 47) = decide (c = 47) := eq48 c 47 (by decide)
        by_cases h10 : c = 10
        · subst h10
          have HS : Hid (R = LR.app acc (lexG false (x + 1, 1) (s.data.toList.drop (k + 1)))) := Lib.hid (by rw [H.out, HD.out, lexG_blank (by decide)]; rfl)
          clear e10 e32 e9 e13 e47 H HD
          go_wp2_with fail
          go_roundw
          case rel => exact ⟨k + 1, x + 1, 1, acc, _, rfl, by omega, by go_num, by go_num, rfl, by omega, by omega, by omega, HT.out, HB.out, HS⟩
          case measure => simp [intOf]; omega
        · rw [decide_eq_false h10] at e10
          by_cases hbl : c = 32 ∨ c = 9 ∨ c = 13
          · have HS : Hid (R = LR.app acc (lexG false (x, y + 1) (s.data.toList.drop (k + 1)))) := Lib.hid (by
              rw [H.out, HD.out, lexG_blank (by rcases hbl with h | h | h <;> subst h <;> decide)]
              unfold stp
              rw [if_neg h10])
            rcases hbl with h | h | h
            all_goals
              subst h
              clear e10 e32 e9 e13 e47 H HD
              go_wp2_with fail
              go_roundw
              case rel => exact ⟨k + 1, x, y + 1, acc, _, rfl, by omega, by go_num, rfl, by go_num, by omega, by omega, by omega, HT.out, HB.out, HS⟩
              case measure => simp [intOf]; omega
          · have h32 : ¬ c = 32 := fun e => hbl (.inl e)
            have h9 : ¬ c = 9 := fun e => hbl (.inr (.inl e))
            have h13 : ¬ c = 13 := fun e => hbl (.inr (.inr e))
            rw [decide_eq_false h32] at e32
            rw [decide_eq_false h9] at e9
            rw [decide_eq_false h13] at e13
            have HN : Hid (isB c = false) := Lib.hid (by simp [isB, h32, h9, h10, h13])
            clear hbl h32 h9 h13
            by_cases hcm : c = 47 ∧ ∃ h : k + 1 < s.size, s[k + 1] = 47
            · obtain ⟨rfl, h2, hc2⟩ := hcm
              have e2 : (((47 : UInt8).toNat : Int) == 47) = true := by decide
              have HS : Hid (R = LR.app acc (lexG true (x, y) (s.data.toList.drop k))) := Lib.hid (by
                rw [H.out, HD.out, drop_byte s h2, hc2, lexG_open])
              clear e10 e32 e9 e13 e47 H HD HN
              go_wp2_with fail
              go_loop [7, 8] (fun s7 s8 => ∃ (m z : Nat), k ≤ m ∧ m ≤ s.size ∧ s8 = .int .i64 m ∧ s7 = .int .i64 z ∧ z ≤ m + 1 ∧ Hid (k < m ∨ s.data.toList.drop m = s.data.toList.drop k) ∧ Hid (R = LR.app acc (lexG true (x, z) (s.data.toList.drop m)))) (fun _ s8 => s.size - (intOf s8).toNat)
              case atStart => exact ⟨k, y, by omega, by omega, rfl, rfl, by omega, Lib.hid (.inr rfl), HS⟩
              case round =>
                obtain ⟨m, z, hm0, hm, rfl, rfl, hz, HK, HI⟩ := hrel
                by_cases hml : m < s.size
                · obtain ⟨d, hd⟩ : ∃ d, s[m] = d := ⟨_, rfl⟩
                  have HDm := Lib.hid (drop_byte s hml)
                  rw [hd] at HDm
                  have f10 : ((d.toNat : Int) == 10) = decide (d = 10) := eq48 d 10 (by decide)
                  by_cases hd10 : d = 10
                  · subst hd10
                    have HE : Hid (R = LR.app acc (lexG false (x, z) (s.data.toList.drop m))) := Lib.hid (by rw [HI.out, HDm.out, lexG_feed'])
                    have hkm : k < m := by
                      rcases HK.out with h | h
                      · exact h
                      · by_cases h' : k < m
                        · exact h'
                        · obtain rfl : m = k := by omega
                          rw [hc] at hd
                          exact absurd hd (by decide)
                    clear f10 HI HK
                    go_wp2_with fail
                    go_roundw
                    case rel => exact ⟨m, x, z, acc, v, rfl, by omega, rfl, rfl, rfl, by omega, by omega, by omega, HT.out, HB.out, HE⟩
                    case measure => simp [intOf]; omega
                  · rw [decide_eq_false hd10] at f10
                    have HE : Hid (R = LR.app acc (lexG true (x, z + 1) (s.data.toList.drop (m + 1)))) := Lib.hid (by
                      rw [HI.out, HDm.out, lexG_comment hd10]
                      unfold stp
                      rw [if_neg hd10])
                    clear HI HK
                    go_wp2_with fail
                    go_round
                    case rel => exact ⟨m + 1, z + 1, by omega, by omega, by go_num, by go_num, by omega, Lib.hid (.inl (by omega)), HE⟩
                    case measure => simp [intOf]; omega
                · obtain rfl : m = s.size := by omega
                  have HE : Hid (R = LR.app acc (lexG false (x, z) (s.data.toList.drop s.size))) := Lib.hid (by rw [HI.out, drop_end, lexG_nil, lexG_nil])
                  clear HI HK
                  go_wp2_with fail
                  go_roundw
                  case rel => exact ⟨s.size, x, z, acc, v, rfl, by omega, rfl, rfl, rfl, by omega, by omega, by omega, HT.out, HB.out, HE⟩
                  case measure => simp [intOf]; omega
            · have hBare : Bare (s.data.toList.drop k) := by
                rw [HD.out]
                refine bare_cons HN.out fun h => hcm ⟨h.1, ?_⟩
                have h2 := h.2
                have hlt2 : k + 1 < s.size := by
                  apply Classical.byContradiction
                  intro hn
                  rw [List.drop_eq_nil_of_le (by rw [← size_list]; omega)] at h2
                  cases h2
                refine ⟨hlt2, ?_⟩
                rw [drop_byte s hlt2] at h2
                simpa using h2
              have hL : (s.extract k s.size).data.toList = s.data.toList.drop k := by rw [extract_bs, bs_list, List.take_of_length_le (by simp)]
              have hLs : (s.extract k s.size).size = s.size - k := by rw [size_list, hL, List.length_drop, ← size_list]
              have cc := fun w => refOne_any (s.extract k s.size) (by omega) (by omega) w
              rw [hL] at cc
              obtain ⟨q, HQ⟩ : ∃ q, Hid (firstL (s.data.toList.drop k) = q) := ⟨_, Lib.hid rfl⟩
              have hne : s.data.toList.drop k ≠ [] := fun e => by have := congrArg List.length e; rw [List.length_drop, List.length_nil, ← size_list] at this; omega
              have hstep := lexG_token hBare (x, y)
              have hfeed := first_feed (s.data.toList.drop k)
              have hok := fun h => firstL_ok (l := s.data.toList.drop k) h hne
              rw [HQ.out] at cc hstep hfeed hok
              obtain ⟨⟨kk, t, n⟩, e⟩ := q
              simp only [tkV] at cc hstep hfeed hok
              have C := Lib.hid cc
              have HO := Lib.hid hok
              have HST := Lib.hid hstep
              have HFE := Lib.hid hfeed
              have i1 : (k : Int) ≤ s.size := by omega
              clear cc hok hstep hfeed hBare hL hLs hne HQ HN
              have h3 : (c ≠ 47) ∨ (c = 47 ∧ ¬ k + 1 < s.size) ∨ (c = 47 ∧ ∃ (h : k + 1 < s.size) (d : UInt8), s[k + 1] = d ∧ ((d.toNat : Int) == 47) = false) := by
                by_cases h47 : c = 47
                · by_cases h2 : k + 1 < s.size
                  · refine .inr (.inr ⟨h47, h2, _, rfl, ?_⟩)
                    exact (eq48 s[k + 1] 47 (by decide)).trans (decide_eq_false fun h => hcm ⟨h47, h2, h⟩)
                  · exact .inr (.inl ⟨h47, h2⟩)
                · exact .inl h47
              clear hcm
              by_cases he : e = 0
              · subst he
                obtain ⟨o1, o2, o3⟩ := HO.out rfl
                have hpl := o3.length_le
                have htl : t.length ≠ 0 := by simpa using o2
                have hsl := size_list s
                rw [List.length_drop] at hpl
                have HS : Hid (R = LR.app (acc ++ [⟨⟨kk, t, n⟩, (x, y)⟩]) (lexG false (x, y + t.length) (s.data.toList.drop (k + t.length)))) := Lib.hid (by
                  rw [H.out, HST.out, if_neg (by decide), if_neg o1, LR.app_cons, posL_no _ _ HFE.out, List.drop_drop])
                have hbl : (bs t).size = t.length := rfl
                have hkt : k + t.length ≤ s.size := by omega
                clear HO HST HFE H HD o1 o2 o3 hpl hsl
                generalize hm : t.length = m at HS hbl hkt htl
                have hez : (((0 : Nat) : Int) != 0) = false := by decide
                rcases h3 with h3 | ⟨h3, h4⟩ | ⟨h3, h4, d, h5, h6⟩
                all_goals
                  first | rw [decide_eq_false h3] at e47 | rw [decide_eq_true h3] at e47
                  have H3 := Lib.hid h3
                  clear h3
                  go_wp2_with (first | (go_at_call 22; refine (C.out _).mono ?_; rintro e' w' ⟨rfl, hb'⟩; have hb2 := HB.out.trans (hb'.mono HB.out.size); have hT2 := HT.out.below hb' (Nat.le_refl _); have hB2 := Nat.le_trans hb2.size (below_box w' (.cells #[.int .i64 kk, .string (bs t), .int .u64 n, .int .i64 x, .int .i64 y] 38)).size) | (at_builtin; go_loud (refine append_tok rfl _ _ 28 rfl (w.alloc (.cells #[.int .i64 0, .int .i64 0] 29)).heap.size 38 i0 _ 48 Tryd.underlying28 hi hz0 hz1 hz2 rfl v acc ⟨⟨kk, t, n⟩, (x, y)⟩ _ _ _ _ _ rfl rfl (hT2.alloc _) (w'.heap.size + 1) (by simp) _ rfl (by unfold maxLen; omega) (by omega) hB2 ?_); intro v' w3 hT' hb3 hk3; obtain ⟨hc3, hz3⟩ := tok_block (fun g hg => (hT2.lt g hg).2) hk3; have hb4 := (hb2.alloc hb2.size _).trans hb3))
                  go_roundw
                  case rel => exact ⟨k + m, x, y + m, _, v', rfl, by omega, by go_num, rfl, by go_num, by omega, by omega, by rw [List.length_append, List.length_singleton]; omega, hT', hb4, HS⟩
                  case measure => simp [intOf]; omega
              · have HE : Hid (R = .bad (x, y) e) := Lib.hid (by rw [H.out, HST.out, if_pos he]; rfl)
                have hez : ((e : Int) != 0) = true := by simp; omega
                clear HO HST HFE H HD
                rcases h3 with h3 | ⟨h3, h4⟩ | ⟨h3, h4, d, h5, h6⟩
                all_goals
                  first | rw [decide_eq_false h3] at e47 | rw [decide_eq_true h3] at e47
                  have H3 := Lib.hid h3
                  clear h3
                  go_wp2_with (go_at_call 22; refine (C.out _).mono ?_; rintro e' w' ⟨rfl, hb'⟩; have hb2 := HB.out.trans (hb'.mono HB.out.size); obtain ⟨a0, a1, a2, a3, a4⟩ := res2 hb2; have a5 := fun T u => (res2_alloc a0 a1 a4 T u).1; have a6 := fun T u => (res2_alloc a0 a1 a4 T u).2; have A7 := Lib.hid (fun T u0 u1 => res2_set a0 a1 a4 T u0 u1))
                  obtain ⟨b0, b1⟩ := A7.out (.cells #[.int .i64 kk, .string (bs t), .int .u64 n, .int .i64 0, .int .i64 0] 38) (.int .i64 x) (.int .i64 y)
                  refine bodyPost_ret (v := .tuple #[.slice none 0 0, .agg #[.int .i64 x, .int .i64 y], .int .i64 e]) (by simp [results, Tryd.results9, go_sem, b0, b1]) rfl ⟨.slice none 0 0, by rw [HE.out]; rfl, by rw [HE.out]; exact Toks.nil _ _ _, ?_⟩
                  have q : Below w.heap.size w ((w'.setCell ⟨w.heap.size, 0, none⟩ (.int .i64 x)).setCell ⟨w.heap.size, 1, none⟩ (.int .i64 y)) := Below.setCell (Below.setCell (chain (below_box _ _) (Nat.le_refl _) hb2) (Nat.le_refl _) _) (Nat.le_refl _) _
                  exact q.alloc q.size _
      · obtain rfl : k = s.size := by omega
        have HF : Hid (R = .ok (acc ++ [⟨tkEnd, (x, y)⟩])) := Lib.hid (by rw [H.out, drop_end, lexG_nil]; rfl)
        have hT := HT.out
        have hB := HB.out.size
        clear H
        go_wp2_with (at_builtin; refine append_tok rfl _ _ 28 rfl (w.alloc (.cells #[.int .i64 0, .int .i64 0] 29)).heap.size 38 i0 _ 48 Tryd.underlying28 hi hz0 hz1 hz2 rfl v acc ⟨tkEnd, (x, y)⟩ _ _ _ _ _ rfl rfl hT _ rfl _ rfl (by unfold maxLen; omega) (by omega) hB ?_; intro v' w' hT' hb' _; have hb2 := HB.out.trans hb'; obtain ⟨hc, hfz⟩ := bcell hb2)
        refine bodyPost_ret (v := .tuple #[v', .agg #[.int .i64 0, .int .i64 0], .int .i64 0]) (by simp [results, Tryd.results9, go_sem, hc]) rfl ⟨v', by rw [HF.out]; rfl, ?_, ?_⟩
        · rw [HF.out]
          exact ((hT'.low (by simp) _).low (by simp) _).base (by simp)
        · exact Below.setCell (Below.setCell (chain (below_box _ _) (Nat.le_refl _) hb2) (Nat.le_refl _) _) (Nat.le_refl _) _
end Go.Proofs.YtioddoojjmeknaaDoor
