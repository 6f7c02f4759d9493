/- Contracts of layer 6: numbers in sixteens, by Go's library. · Contracts of layer 6: Go's library in this text's words; numbers. · Contracts of layer 6: the first token, by the program; skipping. · Contracts of layer 6: skipping, places, names. · Contracts of layer 6: the place behind a text. -/
import Derived.Test.YtomimkgaelkaoaaGreatDoorC13LexC
import Derived.Lib.ConvBytes
import Derived.Lib.Walk
import Derived.Lib.ParseIntBMem
import Derived.Laws.Strings3
import Derived.Lib.LastIndexByte
import Derived.StillTailTactics
set_option linter.unusedVariables false
set_option linter.unusedSimpArgs false
namespace Go.Proofs.YtomimkgaelkaoaaGreatDoor
open Go.Lib (hid)
open Go.ChangeShapes Go.WideShapes Go.ChangeAt Go.RowKit
set_option maxRecDepth 100000 in
theorem or_low : ∀ n : Nat, n < 256 → (65 ≤ n ∧ n ≤ 70 ∨ 97 ≤ n ∧ n ≤ 102) → bits .or .u8 (n : Int) 32 = (((if 97 ≤ n then n else n + 32) : Nat) : Int) := by decide
theorem lower_any (c : UInt8) (h : isX c = true) (h2 : isD c = false) (w : World) :
    Calls Tryz.prog 299 #[.int .u8 (c.toNat : Int)] w fun e w' => e = .returned (.int .u8 ((dv c : Int) + 87)) ∧ w' = w := by
  have hx := h
  have hd := h2
  simp only [isX, decide_eq_true_eq] at hx
  simp only [isD, decide_eq_false_iff_not] at hd
  have e := or_low c.toNat (by have := c.toNat_lt; omega) (by omega)
  have e2 : (((if 97 ≤ c.toNat then c.toNat else c.toNat + 32) : Nat) : Int) = (dv c : Int) + 87 := by
    unfold dv
    split <;> (try split) <;> omega
  rw [e2] at e
  have HE := hid e
  clear e e2 hx hd h h2
  go_enter Tryz.func299, Tryz.ntmps299
  go_wp2_with (simp only [HE.out])
  go_ret
  exact ⟨rfl, rfl⟩
def ipuV (v : Nat × Nat) : Value := if v.2 = 0 then .tuple #[.int .u64 v.1, .nilIface] else .tuple #[.int .u64 18446744073709551615, .iface 377 (.int .i64 1)]
set_option maxHeartbeats 4000000 in
set_option maxRecDepth 100000 in
theorem ipu16 (t : ByteArray) (hne : t.size ≠ 0) (hmax : t.size ≤ 140737488355328) (hx : t.data.toList.all isX = true) (w : World) :
    Calls Tryz.prog 279 #[.string t, .int .i64 16, .int .i64 64] w fun e w' => e = .returned (ipuV (numV 16 t.data.toList)) ∧ Below w.heap.size w w' := by
  have hemp : t.toList.isEmpty = false := by
    rw [← decide_eq_emptyBytes]
    exact decide_eq_false (fun h => hne (by rw [h]; rfl))
  have hcv := Lib.run_convert_string_bytes (P := Tryz.prog) w 9 202 5 t (u := .string) Tryz.underlying9 Tryz.underlying202 Tryz.underlying5
  have hB : ∀ j, j < t.size → (Lib.bytesWorld w 5 t).cell? ⟨w.heap.size, j, none⟩ = some (.int .u8 (t.data.toList.getD j 0).toNat) := fun j hj => Lib.bytesWorld_cell w 5 t j hj
  have hbl : Below w.heap.size w (Lib.bytesWorld w 5 t) := Lib.bytesWorld_below _ _ _
  obtain ⟨W1, hW1⟩ : ∃ W1, W1 = Lib.bytesWorld w 5 t := ⟨_, rfl⟩
  rw [← hW1] at hcv hB hbl
  clear hW1
  have hmv : IntKind.u64.wrap (IntKind.u64.wrap 18446744073709551616 - 1) = 18446744073709551615 := by
    rw [IntKind.wrap_u64, IntKind.wrap_u64]
    decide
  obtain ⟨v, HV⟩ : ∃ v, Hid (v = valA 16 0 t.data.toList) := ⟨_, hid rfl⟩
  have HX := hid hx
  have HBL := hid hbl
  have HB := hid hB
  clear hx hbl hB
  go_enter Tryz.func279, Tryz.ntmps279
  go_wp2_with fail
  go_loop [12, 13, 101] (fun s12 s13 s101 => ∃ (k : Nat) (a : Int), k ≤ t.size ∧ s12 = .bool false ∧ s13 = .int .u64 a ∧ s101 = .int .i64 k ∧ 0 ≤ a ∧ a < 18446744073709551616 ∧ Hid (v = valA 16 a.toNat (t.data.toList.drop k))) (fun _ _ s101 => t.size - (intOf s101).toNat)
  case atStart => exact ⟨0, 0, by omega, rfl, rfl, rfl, by omega, by omega, hid (by rw [HV.out]; rfl)⟩
  case round =>
    obtain ⟨k, a, hk, rfl, rfl, rfl, ha0, ha1, H⟩ := hrel
    by_cases hlt : k < t.size
    · have hc := HB.out k hlt
      have HD := hid (drop_byte t hlt)
      rw [List.getD_eq_getElem?_getD, byteAt t hlt, Option.getD_some] at hc
      obtain ⟨c, hcc⟩ : ∃ c, t[k] = c := ⟨_, rfl⟩
      rw [hcc] at hc HD
      clear hcc
      have hxc : isX c = true := List.all_eq_true.1 HX.out c (List.mem_of_mem_drop (i := k) (by rw [HD.out]; simp))
      have HS : Hid (v = valA 16 (a.toNat * 16 + dv c) (t.data.toList.drop (k + 1))) := hid (by rw [H.out, HD.out, valA])
      have hle : a.toNat * 16 + dv c ≤ v := by rw [HS.out]; exact valA_le (by omega) _ _
      have hd16 := dv_lt hxc
      have hv := fun h w => lower_any c hxc h w
      have h1 : isD c = true → (48 : Int) ≤ (c.toNat : Int) ∧ (c.toNat : Int) ≤ 57 ∧ (c.toNat : Int) - 48 = (dv c : Int) := fun h => by
        simp only [isD, decide_eq_true_eq] at h
        unfold dv
        rw [if_pos h.2]
        omega
      have h2 : isD c = false → ¬ ((c.toNat : Int) ≤ 57) ∧ ((c.toNat : Int) == 95) = false ∧ 10 ≤ dv c := fun h => by
        simp only [isD, decide_eq_false_iff_not] at h
        simp only [isX, decide_eq_true_eq] at hxc
        refine ⟨by omega, by simp; omega, ?_⟩
        unfold dv
        split <;> (try split) <;> omega
      have h95 : isD c = true → ((c.toNat : Int) == 95) = false := fun h => by
        simp only [isD, decide_eq_true_eq] at h
        simp; omega
      obtain ⟨d, hd⟩ : ∃ d : Nat, dv c = d := ⟨_, rfl⟩
      rw [hd] at HS hle hd16 hv h1 h2
      clear hd H HD hxc
      cases hdd : isD c
      · obtain ⟨q1, q2, q3⟩ := h2 hdd
        have HL := hid (hv hdd)
        clear h1 h2 h95 hdd hv
        by_cases hbig : 18446744073709551616 ≤ a.toNat * 16 + d
        · have HBG : Hid (numV 16 t.data.toList = (0, 5)) := hid (numV_big (by rw [← HV.out]; omega))
          by_cases hcut : 1152921504606846976 ≤ a
          · clear HS hle
            go_wp2_with (go_at_call 299; refine (HL.out _).mono ?_; rintro e w' ⟨rfl, rfl⟩)
            go_ret2
            exact ⟨by rw [HBG.out]; rfl, HBL.out⟩
          · clear HS hle
            omega
        · have hn : a * 16 + (d : Int) < 18446744073709551616 := by omega
          have hcut : ¬ 1152921504606846976 ≤ a := by omega
          have HS' : Hid (v = valA 16 (a * 16 + (d : Int)).toNat (t.data.toList.drop (k + 1))) := hid (by rw [show (a * 16 + (d : Int)).toNat = a.toNat * 16 + d from by omega]; exact HS.out)
          clear hbig hle HS
          go_wp2_with (go_at_call 299; refine (HL.out _).mono ?_; rintro e w' ⟨rfl, rfl⟩)
          refine ⟨⟨k + 1, a * 16 + (d : Int), by omega, rfl, by first | rfl | (congr 1; omega), by go_num, by omega, by omega, HS'⟩, by simp [intOf]; omega⟩
      · obtain ⟨q1, q2, q3⟩ := h1 hdd
        have q4 := h95 hdd
        clear h1 h2 h95 hdd hv
        by_cases hcut : 1152921504606846976 ≤ a
        · have HBG : Hid (numV 16 t.data.toList = (0, 5)) := hid (numV_big (by rw [← HV.out]; omega))
          clear HS hle
          go_wp2_with fail
          go_ret2
          exact ⟨by rw [HBG.out]; rfl, HBL.out⟩
        · have hn : a * 16 + (d : Int) < 18446744073709551616 := by omega
          have HS' : Hid (v = valA 16 (a * 16 + (d : Int)).toNat (t.data.toList.drop (k + 1))) := hid (by rw [show (a * 16 + (d : Int)).toNat = a.toNat * 16 + d from by omega]; exact HS.out)
          clear hle HS
          go_wp2_with fail
          refine ⟨⟨k + 1, a * 16 + (d : Int), by omega, rfl, by first | rfl | (congr 1; omega), by go_num, by omega, by omega, HS'⟩, by simp [intOf]; omega⟩
    · obtain rfl : k = t.size := by omega
      have e := H.out
      rw [drop_end, valA] at e
      have := HV.out
      have e2 := numV_small (b := 16) (l := t.data.toList) (by omega)
      have HE : Hid (numV 16 t.data.toList = (a.toNat, 0)) := hid (by rw [e2, ← HV.out, e])
      have ha : ((a.toNat : Nat) : Int) = a := by omega
      have HA := hid ha
      clear e this e2 H ha
      go_wp2_with fail
      go_ret2
      refine ⟨?_, HBL.out⟩
      rw [HE.out]
      show _ = Ending.returned (.tuple #[.int .u64 ((a.toNat : Nat) : Int), .nilIface])
      rw [HA.out]
      rfl
end Go.Proofs.YtomimkgaelkaoaaGreatDoor
namespace Go.Proofs.YtomimkgaelkaoaaGreatDoor
open Go.Lib (hid)
open Go.ChangeShapes Go.WideShapes Go.ChangeAt Go.RowKit
theorem ascii_of (l : List UInt8) (h : l.all (fun b => decide (b.toNat < 128)) = true) : ∀ (j : Nat) b, l[j]? = some b → b.toNat < 128 := fun j b hb => by
  simpa using List.all_eq_true.1 h b (List.mem_of_getElem? hb)
theorem hasPrefix_any (s g : ByteArray) (w : World) :
    Calls Tryz.prog 116 #[.string s, .string g] w fun e w' => e = .returned (.bool (g.data.toList.isPrefixOf s.data.toList)) ∧ w' = w := Tryz.strings_HasPrefix s g w
theorem trimLeft_any (s cs : ByteArray) (h1 : cs.size < 4294967281) (h2 : cs.data.toList.all (fun b => decide (b.toNat < 128)) = true) (w : World) :
    Calls Tryz.prog 115 #[.string s, .string cs] w fun e w' => e = .returned (.string (bs (s.data.toList.dropWhile (cs.data.toList.contains ·)))) ∧ Below w.heap.size w w' :=
  Any.strings_TrimLeft_laid Tryz.laysTrim (by kernel_rfl) s cs w h1 (ascii_of _ h2)
theorem parseM (l : List UInt8) : ∀ (n : Nat), n < 18446744073709551616 → l.all isD = true →
    Lib.parseUintM (2 ^ 64 - 1) n l = if 18446744073709551616 ≤ valA 10 n l then .range else .ok (valA 10 n l) := by
  induction l with
  | nil => intro n hn _; unfold Lib.parseUintM valA; rw [if_neg (by omega)]
  | cons c r ih =>
    intro n hn h
    simp only [List.all_cons, Bool.and_eq_true] at h
    have hd := h.1
    simp only [isD, decide_eq_true_eq] at hd
    have hv : dv c = c.toNat - 48 := by unfold dv; rw [if_pos hd.2]
    have hle := valA_le (b := 10) (by decide) r (n * 10 + dv c)
    unfold Lib.parseUintM
    rw [if_pos hd]
    unfold valA
    rw [hv] at hle ⊢
    by_cases hcut : 1844674407370955162 ≤ n
    · rw [if_pos hcut, if_pos (by omega)]
    · rw [if_neg hcut]
      by_cases hb : 2 ^ 64 - 1 < n * 10 + (c.toNat - 48)
      · rw [if_pos hb, if_pos (by omega)]
      · rw [if_neg hb]
        exact ih _ (by omega) h.2
theorem parse10 {l : List UInt8} (h0 : l ≠ []) (h : l.all isD = true) : Lib.parseUintB 64 l = if 18446744073709551616 ≤ valA 10 0 l then .range else .ok (valA 10 0 l) := by
  unfold Lib.parseUintB
  rw [if_neg h0]
  exact parseM l 0 (by decide) h
def PU (t : ByteArray) (b : Nat) (w : World) (e : Ending) (w' : World) : Prop :=
  (((numV b t.data.toList).2 = 0 ∧ e = .returned (.tuple #[.int .u64 (numV b t.data.toList).1, .nilIface])) ∨
   ((numV b t.data.toList) = (0, 5) ∧ ∃ N : Nat, e = .returned (.tuple #[.int .u64 18446744073709551615, .iface 379 (.pointer (some ⟨N, 0, none⟩))]))) ∧ Below w.heap.size w w'
theorem pu10 (t : ByteArray) (h0 : t.size ≠ 0) (hs : t.size ≤ 140737488355328) (hx : t.data.toList.all isD = true) (w : World) (hE : Env w) :
    Calls Tryz.prog 233 #[.string t, .int .i64 10, .int .i64 64] w (PU t 10 w) := by
  have hne : t.data.toList ≠ [] := fun e => h0 (by rw [size_list, e]; rfl)
  have hp := parse10 hne hx
  by_cases hb : 18446744073709551616 ≤ valA 10 0 t.data.toList
  · rw [if_pos hb] at hp
    obtain ⟨ev, h1, h2⟩ := hE.range
    refine (Tryz.strconv_ParseUint_10_at64_range t (by omega) hp ev w h1 h2).mono ?_
    rintro e w' ⟨N, rfl, _, _, h⟩
    exact ⟨.inr ⟨numV_big hb, N, rfl⟩, h⟩
  · rw [if_neg hb] at hp
    refine (Tryz.strconv_ParseUint_10_at64_ok t (by omega) _ hp w).mono ?_
    rintro e w' ⟨rfl, h⟩
    have e := numV_small (b := 10) (l := t.data.toList) (by omega)
    refine ⟨.inl ⟨by rw [e], by rw [e]⟩, ?_⟩
    rcases h with rfl | rfl
    · exact Below.refl _ _
    · exact Lib.bytesWorld_below _ _ _
theorem pu16 (t : ByteArray) (h0 : t.size ≠ 0) (hs : t.size ≤ 140737488355328) (hx : t.data.toList.all isX = true) (w : World) (hE : Env w) :
    Calls Tryz.prog 233 #[.string t, .int .i64 16, .int .i64 64] w (PU t 16 w) := by
  have c := ipu16 t h0 hs hx w
  obtain ⟨ev, h1, h2⟩ := hE.range
  rcases numV_two 16 t.data.toList with ⟨n, hn⟩ | hn
  · rw [hn] at c
    have c' : Calls Tryz.prog 279 #[.string t, .int .i64 16, .int .i64 64] w fun e w' => e = .returned (.tuple #[.int .u64 n, .nilIface]) ∧ Below w.heap.size w w' := c
    have C := hid c'
    clear c c'
    go_enter Tryz.func233, Tryz.ntmps233
    go_wp2_with (go_at_call 279; refine C.out.mono ?_; rintro e w' ⟨rfl, hb⟩)
    go_ret2
    exact ⟨.inl ⟨by rw [hn], by rw [hn]; rfl⟩, hb⟩
  · rw [hn] at c
    have c' : Calls Tryz.prog 279 #[.string t, .int .i64 16, .int .i64 64] w fun e w' => e = .returned (.tuple #[.int .u64 18446744073709551615, .iface 377 (.int .i64 1)]) ∧ Below w.heap.size w w' := c
    have C := hid c'
    have hlt : 8 < w.heap.size := World.block_lt_of_cell? w _ h1
    have cT := fun w' (hb : Below w.heap.size w w') => Tryz.strconv_toError_range ⟨#[80, 97, 114, 115, 101, 85, 105, 110, 116]⟩ t 16 64 ev w' (by omega) ((hb.cell (p := ⟨8, 0, none⟩) hlt).trans h1) h2
    have CT := hid cT
    clear c c' cT
    go_enter Tryz.func233, Tryz.ntmps233
    go_wp2_with (first | (go_at_call 279; refine C.out.mono ?_; rintro e w1 ⟨rfl, hb1⟩) | (go_at_call 280; refine (CT.out _ hb1).mono ?_; rintro e w2 ⟨N, rfl, _, _, hb2⟩))
    go_ret2
    exact ⟨.inr ⟨hn, N, rfl⟩, chain hb1 (Nat.le_refl _) hb2⟩
theorem cutPrefix_any (s g : ByteArray) (w : World) :
    Calls Tryz.prog 232 #[.string s, .string g] w fun e w' => e = .returned (.tuple #[.string (bs (if g.data.toList.isPrefixOf s.data.toList = true then s.data.toList.drop g.data.toList.length else s.data.toList)), .bool (g.data.toList.isPrefixOf s.data.toList)]) ∧ w' = w := Tryz.strings_CutPrefix s g w
def tens : ByteArray := ⟨#[48, 49, 50, 51, 52, 53, 54, 55, 56, 57]⟩
def sixteens : ByteArray := ⟨#[48, 49, 50, 51, 52, 53, 54, 55, 56, 57, 97, 98, 99, 100, 101, 102, 65, 66, 67, 68, 69, 70]⟩
theorem tens_isD (c : UInt8) : tens.data.toList.contains c = isD c := by
  have h : ∀ n : Fin 256, tens.data.toList.contains (UInt8.ofNat n.val) = isD (UInt8.ofNat n.val) := by decide +kernel
  have := h ⟨c.toNat, c.toNat_lt⟩
  simpa using this
theorem sixteens_isX (c : UInt8) : sixteens.data.toList.contains c = isX c := by
  have h : ∀ n : Fin 256, sixteens.data.toList.contains (UInt8.ofNat n.val) = isX (UInt8.ofNat n.val) := by decide +kernel
  have := h ⟨c.toNat, c.toNat_lt⟩
  simpa using this
theorem dropWhile_all {p : UInt8 → Bool} {l : List UInt8} : l.dropWhile p = [] ↔ l.all p = true := by
  induction l with
  | nil => simp
  | cons c r ih => cases h : p c <;> simp [List.dropWhile, h, ih]
theorem empty_iff (s : ByteArray) : s.toList.isEmpty = s.data.toList.isEmpty := by rw [ByteArray.toList_eq]
structure Digs (b : Nat) (K t : ByteArray) (r : Nat × Nat) : Prop where
  trim : ∀ w, Calls Tryz.prog 115 #[.string t, .string K] w fun e w' => ∃ x, e = .returned (.string x) ∧ (x.toList.isEmpty = true ↔ t.toList.isEmpty = true ∨ r.2 ≠ 4) ∧ Below w.heap.size w w'
  pu : t.toList.isEmpty = false → r.2 ≠ 4 → ∀ w, Env w → Calls Tryz.prog 233 #[.string t, .int .i64 b, .int .i64 64] w (PU t b w)
  val : t.toList.isEmpty = false → r.2 ≠ 4 → r = numV b t.data.toList
  empty : t.toList.isEmpty = true → r = (0, 4)
  form : r.2 = 4 → r = (0, 4)
theorem digs_of {b : Nat} {K t : ByteArray} {p : UInt8 → Bool} (hK : ∀ c, K.data.toList.contains c = p c) (h1 : K.size < 4294967281) (h2 : K.data.toList.all (fun b => decide (b.toNat < 128)) = true)
    (hp : ∀ w, t.size ≠ 0 → t.data.toList.all p = true → Env w → Calls Tryz.prog 233 #[.string t, .int .i64 b, .int .i64 64] w (PU t b w)) : Digs b K t (numB b p t.data.toList) := by
  have he : t.toList.isEmpty = true ↔ t.data.toList = [] := by rw [empty_iff, List.isEmpty_iff]
  have hr4 : t.data.toList ≠ [] → ((numB b p t.data.toList).2 ≠ 4 ↔ t.data.toList.all p = true) := fun hne => by
    cases hall : t.data.toList.all p with
    | false => rw [numB_no (.inr hall)]; simp
    | true =>
      rw [numB_ok hne hall]
      rcases numV_two b t.data.toList with ⟨n, hn⟩ | hn <;> rw [hn] <;> simp
  refine ⟨fun w => (trimLeft_any t K h1 h2 w).mono ?_, fun h h4 w hE => ?_, fun h h4 => ?_, fun h => ?_, fun h => ?_⟩
  · rintro e w' ⟨rfl, hb⟩
    refine ⟨_, rfl, ?_, hb⟩
    rw [empty_iff, bs_list, List.isEmpty_iff, he]
    simp only [hK]
    rw [dropWhile_all]
    by_cases hne : t.data.toList = []
    · rw [hne]; simp
    · rw [hr4 hne]; simp [hne]
  · have hne : t.data.toList ≠ [] := fun e => by rw [he.2 e] at h; cases h
    exact hp w (fun e => hne (List.eq_nil_of_length_eq_zero (by rw [← size_list]; exact e))) ((hr4 hne).1 h4) hE
  · have hne : t.data.toList ≠ [] := fun e => by rw [he.2 e] at h; cases h
    exact numB_ok hne ((hr4 hne).1 h4)
  · exact numB_no (.inl (he.1 h))
  · by_cases hc : t.data.toList = [] ∨ t.data.toList.all p = false
    · exact numB_no hc
    · have hne : t.data.toList ≠ [] := fun e => hc (.inl e)
      have hall : t.data.toList.all p = true := by cases hx : t.data.toList.all p with | false => exact absurd (.inr hx) hc | true => rfl
      exact absurd h ((hr4 hne).2 hall)
theorem lexNumber_any (s : ByteArray) (hs : s.size ≤ 140737488355328) (w : World) (hE : Env w) :
    Calls Tryz.prog 177 #[.string s] w fun e w' => e = .returned (.tuple #[.int .u64 (numberL s.data.toList).1, .int .i64 (numberL s.data.toList).2]) ∧ Below w.heap.size w w' := by
  obtain ⟨hx, t, b, K, hcut, hbK, D⟩ : ∃ (hx : Bool) (t : ByteArray) (b : Nat) (K : ByteArray),
      (∃ x, (∀ w, Calls Tryz.prog 232 #[.string s, .string ⟨#[48, 120]⟩] w fun e w' => e = .returned (.tuple #[.string x, .bool hx]) ∧ w = w') ∧ (if hx = true then x = t else s = t)) ∧
      (if hx = true then K = sixteens ∧ b = 16 else K = tens ∧ b = 10) ∧ Digs b K t (numberL s.data.toList) := by
    cases hh : hex0 s.data.toList with
    | false =>
      refine ⟨false, s, 10, tens, ⟨bs s.data.toList, fun w => (cutPrefix_any s ⟨#[48, 120]⟩ w).mono ?_, rfl⟩, ⟨rfl, rfl⟩, ?_⟩
      · rintro e w' ⟨rfl, rfl⟩
        have hh' : (⟨#[48, 120]⟩ : ByteArray).data.toList.isPrefixOf s.data.toList = false := hh
        rw [hh']
        exact ⟨rfl, rfl⟩
      · rw [numberL_dec hh]
        exact digs_of tens_isD (by decide) (by decide) fun w h0 hx hE => pu10 s h0 hs hx w hE
    | true =>
      refine ⟨true, bs (s.data.toList.drop 2), 16, sixteens, ⟨bs (s.data.toList.drop 2), fun w => (cutPrefix_any s ⟨#[48, 120]⟩ w).mono ?_, rfl⟩, ⟨rfl, rfl⟩, ?_⟩
      · rintro e w' ⟨rfl, rfl⟩
        have hh' : (⟨#[48, 120]⟩ : ByteArray).data.toList.isPrefixOf s.data.toList = true := hh
        rw [hh', if_pos rfl]
        exact ⟨rfl, rfl⟩
      · rw [numberL_hex hh]
        exact digs_of (t := bs (s.data.toList.drop 2)) sixteens_isX (by decide) (by decide) fun w h0 hx hE => pu16 _ h0 (by rw [bs_size, List.length_drop, ← size_list]; omega) hx w hE
  obtain ⟨x, hcp, hxt⟩ := hcut
  have HC := hid hcp
  have HD := hid D
  have HE := hid hE
  obtain ⟨r, hr⟩ : ∃ r, numberL s.data.toList = r := ⟨_, rfl⟩
  rw [hr] at HD ⊢
  clear hcp D hE hr
  go_enter Tryz.func177, Tryz.ntmps177
  go_upto_if 17 with (go_at_call 232; refine (HC.out _).mono ?_; rintro e w' ⟨rfl, rfl⟩)
  go_cut [4, 5, 6] (fun s4 s5 s6 wx => s4 = .string t ∧ s5 = .string K ∧ s6 = .int .i64 b ∧ wx = w)
  case first =>
    cases hx
    all_goals
      simp only [if_true, if_false, Bool.false_eq_true] at hxt hbK
      obtain ⟨rfl, rfl⟩ := hbK
      subst hxt
      go_wp2_with fail
      go_meet
      exact ⟨rfl, rfl, rfl, rfl⟩
  case rest =>
    obtain ⟨rfl, rfl, rfl, rfl⟩ := hcut
    have HTR := hid HD.out.trim
    cases he : t.toList.isEmpty
    · by_cases h4 : r.2 = 4
      · have HR := hid (HD.out.form h4)
        have HT : Hid (∀ w, Calls Tryz.prog 115 #[.string t, .string K] w fun e w' => ∃ x, e = .returned (.string x) ∧ x.toList.isEmpty = false ∧ Below w.heap.size w w') := hid fun w => (HTR.out w).mono fun e w' ⟨x, h1, h2, h3⟩ => ⟨x, h1, by
          cases hx : x.toList.isEmpty with
          | false => rfl
          | true => rcases h2.1 hx with h | h
                    · rw [he] at h; cases h
                    · exact absurd h4 h, h3⟩
        clear HTR HD h4 hxt hbK
        go_wp2_with (go_at_call 115; refine (HT.out _).mono ?_; rintro e w' ⟨x, rfl, hx, hb⟩)
        go_ret2
        exact ⟨by rw [HR.out]; rfl, hb⟩
      · have HT : Hid (∀ w, Calls Tryz.prog 115 #[.string t, .string K] w fun e w' => ∃ x, e = .returned (.string x) ∧ x.toList.isEmpty = true ∧ Below w.heap.size w w') := hid fun w => (HTR.out w).mono fun e w' ⟨x, h1, h2, h3⟩ => ⟨x, h1, h2.2 (.inr h4), h3⟩
        have hv := HD.out.val he h4
        have hpu := HD.out.pu he h4
        rcases numV_two b t.data.toList with ⟨n, hn⟩ | hn
        · have HP : Hid (∀ w, Env w → Calls Tryz.prog 233 #[.string t, .int .i64 b, .int .i64 64] w fun e w' => e = .returned (.tuple #[.int .u64 n, .nilIface]) ∧ Below w.heap.size w w') := hid fun w hE => (hpu w hE).mono fun e w' ⟨h1, h2⟩ => by
            rcases h1 with ⟨_, h1⟩ | ⟨h1, _⟩
            · rw [hn] at h1; exact ⟨h1, h2⟩
            · rw [hn] at h1; cases h1
          have HR : Hid (r = (n, 0)) := hid (hv.trans hn)
          clear HTR HD hxt hbK hv hpu hn h4
          go_wp2_with (first | (go_at_call 115; refine (HT.out _).mono ?_; rintro e w' ⟨x, rfl, hx, hb⟩) | (go_at_call 233; refine (HP.out _ (HE.out.below hb)).mono ?_; rintro e w2 ⟨rfl, hb2⟩))
          go_ret2
          exact ⟨by rw [HR.out]; rfl, chain hb (Nat.le_refl _) hb2⟩
        · have HP : Hid (∀ w, Env w → Calls Tryz.prog 233 #[.string t, .int .i64 b, .int .i64 64] w fun e w' => ∃ N : Nat, e = .returned (.tuple #[.int .u64 18446744073709551615, .iface 379 (.pointer (some ⟨N, 0, none⟩))]) ∧ Below w.heap.size w w') := hid fun w hE => (hpu w hE).mono fun e w' ⟨h1, h2⟩ => by
            rcases h1 with ⟨h1, _⟩ | ⟨_, N, h1⟩
            · rw [hn] at h1; cases h1
            · exact ⟨N, h1, h2⟩
          have HR : Hid (r = (0, 5)) := hid (hv.trans hn)
          clear HTR HD hxt hbK hv hpu hn h4
          go_wp2_with (first | (go_at_call 115; refine (HT.out _).mono ?_; rintro e w' ⟨x, rfl, hx, hb⟩) | (go_at_call 233; refine (HP.out _ (HE.out.below hb)).mono ?_; rintro e w2 ⟨N, rfl, hb2⟩))
          go_ret2
          exact ⟨by rw [HR.out]; rfl, chain hb (Nat.le_refl _) hb2⟩
    · have HR := hid (HD.out.empty he)
      clear HTR HD hxt hbK
      go_wp2_with fail
      go_ret2
      exact ⟨by rw [HR.out]; rfl, Below.refl _ _⟩
end Go.Proofs.YtomimkgaelkaoaaGreatDoor
namespace Go.Proofs.YtomimkgaelkaoaaGreatDoor
open Go.Lib (hid)
open Go.ChangeShapes Go.WideShapes Go.ChangeAt Go.RowKit
def tkP (t : Tk) (line col : Int) : Value := .agg #[.int .i64 t.k, .string (bs t.t), .int .u64 t.n, .int .i64 line, .int .i64 col]
theorem wn_any (s : ByteArray) (hs : s.size ≤ 140737488355328) (h0 : 0 < s.size) (w : World) (hE : Env w) :
    Calls Tryz.prog 121 #[.string s] w fun e w' => e = .returned (.tuple #[tkP (wnL s.data.toList).1 0 0, .int .i64 (wnL s.data.toList).2]) ∧ Below w.heap.size w w' := by
  have hd0 := drop_byte s h0
  rw [List.drop_zero] at hd0
  have hh : s.data.toList.headD 0 = s[0] := by rw [hd0]; rfl
  have cd := fun w => isDigit_any s[0] w
  cases hd : isD s[0]
  · rw [hd] at cd
    have CD := hid cd
    by_cases h32 : 32 < s.size
    · have HF : Hid (wnL s.data.toList = (tk0, 7)) := hid (by rw [wnL, if_neg (by rw [hh, hd]; decide), if_pos (by rw [← size_list]; exact h32)])
      clear cd hd0 hh hd
      go_enter Tryz.func121, Tryz.ntmps121
      go_wp2_with (go_at_call 176; refine (CD.out _).mono ?_; rintro e w' ⟨rfl, rfl⟩)
      exact bodyPost_ret (v := .tuple #[.agg #[.int .i64 0, .string ⟨#[]⟩, .int .u64 0, .int .i64 0, .int .i64 0], .int .i64 7]) (by simp [results, Tryz.results121, go_sem]) rfl ⟨by rw [HF.out]; rfl, below_box _ _⟩
    · have HF : Hid (wnL s.data.toList = (⟨0, s.data.toList, 0⟩, 0)) := hid (by rw [wnL, if_neg (by rw [hh, hd]; decide), if_neg (by rw [← size_list]; exact h32)])
      clear cd hd0 hh hd
      go_enter Tryz.func121, Tryz.ntmps121
      go_wp2_with (go_at_call 176; refine (CD.out _).mono ?_; rintro e w' ⟨rfl, rfl⟩)
      exact bodyPost_ret (v := .tuple #[.agg #[.int .i64 0, .string s, .int .u64 0, .int .i64 0, .int .i64 0], .int .i64 0]) (by simp [results, Tryz.results121, go_sem]) rfl ⟨by rw [HF.out]; rfl, below_box _ _⟩
  · rw [hd] at cd
    have CD := hid cd
    have c := fun w hE => lexNumber_any s hs w hE
    have hw : wnL s.data.toList = numT s.data.toList (numberL s.data.toList) := wnL_num (by rw [hh]; exact hd)
    obtain ⟨q, hq⟩ : ∃ q, numberL s.data.toList = q := ⟨_, rfl⟩
    rw [hq] at c hw
    obtain ⟨n, e⟩ := q
    have C := hid c
    have HE := hid hE
    clear c hq cd hd0 hh hd hE
    by_cases he : e = 0
    · subst he
      have HW := hid hw
      have e0 : (((0 : Nat) : Int) != 0) = false := by decide
      clear hw
      go_enter Tryz.func121, Tryz.ntmps121
      go_wp2_with (first | (go_at_call 176; refine (CD.out _).mono ?_; rintro e w' ⟨rfl, rfl⟩) | (go_at_call 177; refine (C.out _ (HE.out.alloc _)).mono ?_; rintro e w' ⟨rfl, hb⟩; obtain ⟨hc, hfz⟩ := bcell hb))
      exact bodyPost_ret (v := .tuple #[.agg #[.int .i64 1, .string s, .int .u64 n, .int .i64 0, .int .i64 0], .int .i64 0]) (by simp [results, Tryz.results121, go_sem, hc]) rfl ⟨by rw [HW.out]; rfl, set5 (chain (below_box _ _) (Nat.le_refl _) hb) (Nat.le_refl _) _ _ _ _ _⟩
    · have HW : Hid (wnL s.data.toList = (tk0, e)) := hid (by rw [hw]; unfold numT; rw [if_neg he])
      have e0 : ((e : Int) != 0) = true := by simp; omega
      clear hw
      go_enter Tryz.func121, Tryz.ntmps121
      go_wp2_with (first | (go_at_call 176; refine (CD.out _).mono ?_; rintro e w' ⟨rfl, rfl⟩) | (go_at_call 177; refine (C.out _ (HE.out.alloc _)).mono ?_; rintro e w' ⟨rfl, hb⟩; obtain ⟨hc, hfz⟩ := bcell hb))
      exact bodyPost_ret (v := .tuple #[.agg #[.int .i64 0, .string ⟨#[]⟩, .int .u64 0, .int .i64 0, .int .i64 0], .int .i64 e]) (by simp [results, Tryz.results121, go_sem, hc]) rfl ⟨by rw [HW.out]; rfl, set5 (chain (below_box _ _) (Nat.le_refl _) hb) (Nat.le_refl _) _ _ _ _ _⟩
theorem signF_step {k : Nat} (h : k < 29) (l : List UInt8) : signF (sgs.drop k) l = if (sgs.getD k []).isPrefixOf l = true then sgs.getD k [] else signF (sgs.drop (k + 1)) l := by
  have e : sgs.drop k = sgs.getD k [] :: sgs.drop (k + 1) := by
    have hk : k < sgs.length := h
    rw [List.drop_eq_getElem_cons hk, List.getD_eq_getElem?_getD, List.getElem?_eq_getElem hk]; rfl
  rw [e]; rfl
theorem sgs_ne {k : Nat} (h : k < 29) : sgs.getD k [] ≠ [] := by
  have : ∀ k, k < 29 → sgs.getD k [] ≠ [] := by decide
  exact this k h
theorem run_tab (A : Array Value) (k : Nat) (g : ByteArray) (hk : k < 29) (h : A[k]? = some (.string g)) (W : World) :
    (Instr.index 247 (.agg A) (.int .i64 k)).run Tryz.prog W = .ok (.string g) W := by
  have h1 : (0 : Int) ≤ k ∧ (k : Int) < 29 := by omega
  simp [Instr.index, run_underlying Tryz.underlying247, asIntOf, h, hk, go_sem]
theorem info_signs : (Tryz.prog.info? 247).map (·.size) = some 29 := by kernel_rfl
set_option maxRecDepth 100000 in
theorem first_any (s : ByteArray) (hs : s.size ≤ 140737488355328) (w : World) (hE : Env w) :
    Calls Tryz.prog 74 #[.string s] w fun e w' => e = .returned (.tuple #[tkP (firstL s.data.toList).1 0 0, .int .i64 (firstL s.data.toList).2]) ∧ Below w.heap.size w w' := by
  cases he : s.toList.isEmpty
  · have hne : s.data.toList ≠ [] := fun e => by rw [empty_iff, e] at he; cases he
    have cr := fun w => run_any s hs w
    have hle : (runL s.data.toList).length ≤ s.size := (List.takeWhile_prefix isW).length_le
    have hf : firstL s.data.toList = if runL s.data.toList ≠ [] then wnL (runL s.data.toList) else if signL s.data.toList = [] then (tk0, 4) else (⟨2, signL s.data.toList, 0⟩, 0) := by unfold firstL; rw [if_neg hne]
    by_cases hr : runL s.data.toList = []
    · rw [if_neg (by rw [hr]; exact fun h => h rfl)] at hf
      rw [hr] at cr
      have CR := hid cr
      have HF := hid hf
      have hemp : (bs []).toList.isEmpty = true := by rw [empty_iff]; rfl
      obtain ⟨ts, fr, hsg⟩ := hE.signs
      have hz0 : 2 < w.heap.size := (Array.getElem?_eq_some_iff.1 hsg).1
      have hsg2 := fun O => (Below.heap_alloc w O _ hz0).trans hsg
      obtain ⟨A, HA⟩ : ∃ A, Hid (A = sgA) := ⟨_, hid rfl⟩
      have hat : ∀ j, j < 29 → A[j]? = some (.string (bs (sgs.getD j []))) := fun j h => by rw [HA.out]; exact sgA_at h
      have hsz : (Tryz.prog.info? 247).map (·.size) = some A.size := by rw [HA.out, sgA_size]; exact info_signs
      rw [← HA.out] at hsg2
      have HAT := hid hat
      have HSZ := hid hsz
      have HSG := hid hsg2
      clear cr hf hne hle hr hE hsg hz0 hsg2 hat hsz HA
      go_enter Tryz.func74, Tryz.ntmps74
      go_wp2_with (first | (go_at_call 120; refine (CR.out _).mono ?_; rintro e w' ⟨rfl, rfl⟩) | (refine wpList_load_row rfl 247 _ rfl 2 rfl ts A fr _ (HSG.out _) Tryz.underlying247 rfl HSZ.out ?_))
      go_loop [19] (fun i => ∃ k : Nat, k ≤ 29 ∧ i = .int .i64 k ∧ Hid (signL s.data.toList = signF (sgs.drop k) s.data.toList)) (fun i => 29 - (intOf i).toNat)
      case atStart => exact ⟨0, by omega, rfl, hid rfl⟩
      case round =>
        obtain ⟨k, hk, rfl, H⟩ := hrel
        by_cases hlt : k < 29
        · have ha := HAT.out k hlt
          have hp := hasPrefix_any s (bs (sgs.getD k []))
          have HS := hid (H.out.trans (signF_step hlt s.data.toList))
          have HN := hid (sgs_ne hlt)
          rw [bs_list] at hp
          obtain ⟨g, hg⟩ : ∃ g, sgs.getD k [] = g := ⟨_, rfl⟩
          have HI := hid (run_tab A k (bs g) hlt (by rw [ha, hg]))
          rw [hg] at hp HS HN
          clear ha
          cases hpp : g.isPrefixOf s.data.toList
          all_goals
            rw [hpp] at hp
            have HP := hid hp
            have HQ := hid hpp
            clear hp hpp hg H
            go_wp2_with (first | (go_at_call 116; refine (HP.out _).mono ?_; rintro e w' ⟨rfl, rfl⟩) | simp only [HI.out])
          · go_round
            case rel => exact ⟨k + 1, by omega, by go_num, hid (by rw [HS.out, if_neg (by rw [HQ.out]; decide)])⟩
            case measure => simp [intOf]; omega
          · refine bodyPost_ret (v := .tuple #[.agg #[.int .i64 2, .string (bs g), .int .u64 0, .int .i64 0, .int .i64 0], .int .i64 0]) (by simp [results, Tryz.results74, go_sem]) rfl ⟨?_, below_box _ _⟩
            rw [HF.out, HS.out, if_pos HQ.out, if_neg HN.out]
            rfl
        · obtain rfl : k = 29 := by omega
          have HS : Hid (signL s.data.toList = []) := hid H.out
          clear H
          go_wp2_with fail
          exact bodyPost_ret (v := .tuple #[.agg #[.int .i64 0, .string ⟨#[]⟩, .int .u64 0, .int .i64 0, .int .i64 0], .int .i64 4]) (by simp [results, Tryz.results74, go_sem]) rfl ⟨by rw [HF.out, HS.out, if_pos rfl]; rfl, below_box _ _⟩
    · rw [if_pos hr] at hf
      have cw := fun w hE => wn_any (bs (runL s.data.toList)) (by rw [bs_size]; omega) (by rw [bs_size]; exact List.length_pos_iff.2 hr) w hE
      rw [bs_list, ← hf] at cw
      have hemp : (bs (runL s.data.toList)).toList.isEmpty = false := by
        rw [empty_iff, bs_list]
        cases hx : runL s.data.toList with
        | nil => exact absurd hx hr
        | cons _ _ => rfl
      obtain ⟨q, HQ⟩ : ∃ q, Hid (firstL s.data.toList = q) := ⟨_, hid rfl⟩
      rw [HQ.out] at cw
      obtain ⟨⟨k, t, v⟩, e⟩ := q
      simp only [tkP] at cw
      generalize bs (runL s.data.toList) = r at cr cw hemp
      have CR := hid cr
      have CW := hid cw
      have HE := hid hE
      clear cr cw hf hne hle hr hE
      go_enter Tryz.func74, Tryz.ntmps74
      go_wp2_with (first | (go_at_call 120; refine (CR.out _).mono ?_; rintro e w' ⟨rfl, rfl⟩) | (go_at_call 121; refine (CW.out _ (HE.out.alloc _)).mono ?_; rintro e' w' ⟨rfl, hb⟩; obtain ⟨hc, hfz⟩ := bcell hb))
      exact bodyPost_ret (v := .tuple #[.agg #[.int .i64 k, .string (bs t), .int .u64 v, .int .i64 0, .int .i64 0], .int .i64 e]) (by simp [results, Tryz.results74, go_sem, hc]) rfl ⟨by rw [HQ.out]; rfl, set5 (chain (below_box _ _) (Nat.le_refl _) hb) (Nat.le_refl _) _ _ _ _ _⟩
  · have he' : s.data.toList = [] := by rw [empty_iff, List.isEmpty_iff] at he; exact he
    have HF : Hid (firstL s.data.toList = (tkEnd, 0)) := hid (by rw [he']; rfl)
    clear he'
    go_enter Tryz.func74, Tryz.ntmps74
    go_wp2_with fail
    exact bodyPost_ret (v := .tuple #[.agg #[.int .i64 3, .string ⟨#[]⟩, .int .u64 0, .int .i64 0, .int .i64 0], .int .i64 0]) (by simp [results, Tryz.results74, go_sem]) rfl ⟨by rw [HF.out]; rfl, below_box _ _⟩
end Go.Proofs.YtomimkgaelkaoaaGreatDoor
namespace Go.Proofs.YtomimkgaelkaoaaGreatDoor
open Go.Lib (hid)
open Go.ChangeShapes Go.WideShapes Go.ChangeAt Go.RowKit
def afterF : List UInt8 → List UInt8
  | [] => []
  | c :: r => if c = 10 then r else afterF r
theorem idx_yes (r : List UInt8) : Lib.index (10 :: r) [10] = 0 := by unfold Lib.index; exact if_pos rfl
theorem idx_no {c : UInt8} (h : c ≠ 10) (r : List UInt8) : Lib.index (c :: r) [10] = if Lib.index r [10] == -1 then -1 else Lib.index r [10] + 1 := by
  have h1 : [10].isPrefixOf (c :: r) = false := by
    have : ((10 : UInt8) == c) = false := by simpa using fun e => h e.symm
    simp [List.isPrefixOf, this]
  conv => lhs; unfold Lib.index
  rw [if_neg (by rw [h1]; decide)]
theorem cut_yes {l sep : List UInt8} (h : 0 ≤ Lib.index l sep) : (Lib.cut l sep).2.1 = l.drop ((Lib.index l sep).toNat + sep.length) := by unfold Lib.cut; rw [if_pos h]
theorem cut_no {l sep : List UInt8} (h : ¬ 0 ≤ Lib.index l sep) : (Lib.cut l sep).2.1 = [] := by unfold Lib.cut; rw [if_neg h]
theorem cut_feed : ∀ l : List UInt8, (Lib.cut l [10]).2.1 = afterF l
  | [] => rfl
  | c :: r => by
    have ih := cut_feed r
    unfold afterF
    by_cases hc : c = 10
    · subst hc
      rw [if_pos rfl, cut_yes (by rw [idx_yes]; decide), idx_yes]
      rfl
    · rw [if_neg hc, ← ih]
      have hi := idx_no hc r
      have hg := Lib.index_ge r [10]
      by_cases h1 : Lib.index r [10] = -1
      · rw [h1] at hi
        rw [cut_no (by rw [hi]; decide), cut_no (by rw [h1]; decide)]
      · rw [if_neg (by simpa using h1)] at hi
        rw [cut_yes (by omega), cut_yes (l := r) (by omega), hi]
        show List.drop ((Lib.index r [10] + 1).toNat + 1) (c :: r) = List.drop ((Lib.index r [10]).toNat + 1) r
        rw [show (Lib.index r [10] + 1).toNat + 1 = (Lib.index r [10]).toNat + 1 + 1 from by omega]
        rfl
theorem skip_after : ∀ l : List UInt8, skipM true l = skipM false (afterF l)
  | [] => rfl
  | c :: r => by
    unfold afterF
    rw [skipM]
    by_cases hc : c = 10
    · rw [if_pos hc, if_pos hc]
    · rw [if_neg hc, if_neg hc]; exact skip_after r
theorem after_len : ∀ l : List UInt8, (afterF l).length ≤ l.length
  | [] => Nat.le_refl _
  | c :: r => by
    unfold afterF
    split
    · simp
    · have := after_len r; simp; omega
theorem skip_trim : ∀ l : List UInt8, skipM false l = skipM false (l.dropWhile isB)
  | [] => rfl
  | c :: r => by
    rw [List.dropWhile_cons]
    by_cases hc : isB c = true
    · rw [if_pos hc, skipM, if_pos hc]; exact skip_trim r
    · rw [if_neg hc]
theorem trim_head {l : List UInt8} {c : UInt8} {r : List UInt8} (h : l.dropWhile isB = c :: r) : isB c = false := by
  induction l with
  | nil => simp at h
  | cons d t ih =>
    rw [List.dropWhile_cons] at h
    by_cases hd : isB d = true
    · rw [if_pos hd] at h; exact ih h
    · rw [if_neg hd] at h
      cases h
      simpa using hd
theorem skip_turn (l : List UInt8) : skipM false l = if [47, 47].isPrefixOf (l.dropWhile isB) = true then skipM false (afterF (l.dropWhile isB)) else l.dropWhile isB := by
  rw [skip_trim]
  cases h : l.dropWhile isB with
  | nil => rfl
  | cons c r =>
    have hc := trim_head h
    by_cases h2 : c = 47 ∧ r.head? = some 47
    · obtain ⟨rfl, h3⟩ := h2
      cases r with
      | nil => cases h3
      | cons d t =>
        obtain rfl : d = 47 := by simpa using h3
        rw [if_pos (by rfl), skipM, if_neg (by decide), if_pos ⟨rfl, rfl⟩, skip_after]
        rfl
    · rw [if_neg]
      · exact bare_cons hc h2
      · intro hp
        rw [List.isPrefixOf_iff_prefix] at hp
        cases r with
        | nil => simp at hp
        | cons d t =>
          simp only [List.cons_prefix_cons, List.nil_prefix, and_true] at hp
          exact h2 ⟨hp.1.symm, by rw [← hp.2]; rfl⟩
theorem cut_any (s : ByteArray) (hs : s.size < 4294967281) (w : World) (hE : Env w) :
    Calls Tryz.prog 117 #[.string s, .string ⟨#[10]⟩] w fun e w' => ∃ (x : ByteArray) (f : Bool), e = .returned (.tuple #[.string x, .string (bs (afterF s.data.toList)), .bool f]) ∧ Below w.heap.size w w' := by
  obtain ⟨m, hm⟩ := hE.maxLen
  refine (Tryz.strings_Cut s ⟨#[10]⟩ m w hs hm).mono ?_
  rintro e w' ⟨rfl, n, rfl⟩
  refine ⟨⟨(Lib.cut s.data.toList (⟨#[10]⟩ : ByteArray).data.toList).1.toArray⟩, (Lib.cut s.data.toList (⟨#[10]⟩ : ByteArray).data.toList).2.2, ?_, below_drewN _ _ n⟩
  rw [show (⟨(Lib.cut s.data.toList (⟨#[10]⟩ : ByteArray).data.toList).2.1.toArray⟩ : ByteArray) = bs (afterF s.data.toList) from congrArg bs (cut_feed s.data.toList)]
theorem after_lt {l : List UInt8} (h : [47, 47].isPrefixOf l = true) : (afterF l).length < l.length := by
  rcases l with _ | ⟨x, r⟩
  · simp [List.isPrefixOf] at h
  · rw [List.isPrefixOf_iff_prefix] at h
    simp only [List.cons_prefix_cons] at h
    obtain ⟨rfl, _⟩ := h
    have := after_len r
    unfold afterF
    rw [if_neg (by decide), List.length_cons]
    omega
theorem skip_any (s : ByteArray) (hs : s.size ≤ 140737488) (w : World) (hE : Env w) :
    Calls Tryz.prog 72 #[.string s] w fun e w' => e = .returned (.string (bs (skipM false s.data.toList))) ∧ Below w.heap.size w w' := by
  have HE := hid hE
  clear hE
  go_enter Tryz.func72, Tryz.ntmps72
  go_wp2_with fail
  go_loopw [0] (fun s0 wr => ∃ x : ByteArray, s0 = .string x ∧ x.size ≤ s.size ∧ Hid (skipM false s.data.toList = skipM false x.data.toList) ∧ Below w.heap.size w wr) (fun s0 _ => match s0 with | .string x => x.size | _ => 0)
  case atStart => exact ⟨s, rfl, Nat.le_refl _, hid rfl, Below.refl _ _⟩
  case round =>
    obtain ⟨x, rfl, hx, H, hb⟩ := hrel
    have HB := hid hb
    have ct := fun w => trimLeft_any x ⟨#[32, 9, 10, 13]⟩ (by decide) (by decide) w
    obtain ⟨y, hy⟩ : ∃ y, y = bs (x.data.toList.dropWhile isB) := ⟨_, rfl⟩
    have hyl : y.data.toList = x.data.toList.dropWhile isB := by rw [hy]; rfl
    have hct : ∀ w, Calls Tryz.prog 115 #[.string x, .string ⟨#[32, 9, 10, 13]⟩] w fun e w' => e = .returned (.string y) ∧ Below w.heap.size w w' := fun w => by rw [hy]; exact ct w
    have hys : y.size ≤ x.size := by rw [size_list, hyl, size_list]; exact (List.dropWhile_suffix _).length_le
    have HT := hid (skip_turn x.data.toList)
    have hpr := fun w => hasPrefix_any y ⟨#[47, 47]⟩ w
    have hcu := fun w hE => cut_any y (by omega) w hE
    rw [← hyl] at HT
    have HC := hid hct
    have HU := hid hcu
    clear hb ct hct hcu hy hyl
    cases hp : (⟨#[47, 47]⟩ : ByteArray).data.toList.isPrefixOf y.data.toList
    all_goals
      rw [hp] at hpr
      have HP := hid hpr
      have HQ : Hid ([47, 47].isPrefixOf y.data.toList = _) := hid hp
      clear hpr hp
    · go_wp2_with (first | (go_at_call 115; refine (HC.out _).mono ?_; rintro e w' ⟨rfl, hb'⟩) | (go_at_call 116; refine (HP.out _).mono ?_; rintro e w2 ⟨rfl, rfl⟩))
      go_ret
      refine ⟨retS ?_, chain HB.out (Nat.le_refl _) hb'⟩
      rw [H.out, HT.out, if_neg (by rw [HQ.out]; decide), bs_of]
    · have hlt := after_lt HQ.out
      have hq : (bs (afterF y.data.toList)).size < x.size := by rw [bs_size]; have := size_list y; omega
      clear hlt
      go_wp2_with (first | (go_at_call 115; refine (HC.out _).mono ?_; rintro e w' ⟨rfl, hb'⟩; have hb2 := chain HB.out (Nat.le_refl _) hb') | (go_at_call 116; refine (HP.out _).mono ?_; rintro e w2 ⟨rfl, rfl⟩) | (go_at_call 117; refine (HU.out _ (HE.out.below hb2)).mono ?_; rintro e w3 ⟨x1, f1, rfl, hb3⟩))
      go_roundw
      case rel => exact ⟨_, rfl, by omega, hid (by rw [H.out, HT.out, if_pos HQ.out, bs_list]), chain hb2 (Nat.le_refl _) hb3⟩
      case measure => exact hq
end Go.Proofs.YtomimkgaelkaoaaGreatDoor
namespace Go.Proofs.YtomimkgaelkaoaaGreatDoor
open Go.Lib (hid)
open Go.ChangeShapes Go.WideShapes Go.ChangeAt Go.RowKit
theorem byteBang (s : ByteArray) (j : Nat) (hj : j < s.size) : s.data[j]! = s[j] := by
  simp [getElem!_pos, hj]
  rfl
theorem last_split (s : ByteArray) : (Lib.lastIndexByte s 10 = -1 ∧ s.data.toList.count 10 = 0) ∨
    ∃ (a b : List UInt8), Lib.lastIndexByte s 10 = (a.length : Int) ∧ s.data.toList = a ++ 10 :: b ∧ b.count 10 = 0 := by
  have at10 : ∀ j (h : j < s.size), (((s.data[j]!).toNat : Int) = 10 ↔ s[j] = 10) := fun j h => by
    rw [byteBang s j h, ← UInt8.toNat_inj]
    show ((s[j].toNat : Int) = 10 ↔ s[j].toNat = 10)
    omega
  rcases Lib.lastIdx_spec s 10 s.size with ⟨h1, h2⟩ | ⟨i, hi, h1, h2, h3⟩
  · refine .inl ⟨h1, List.count_eq_zero.2 fun hm => ?_⟩
    obtain ⟨j, hj, he⟩ := List.getElem_of_mem hm
    have hj' : j < s.size := by rw [size_list]; exact hj
    exact h2 j hj' ((at10 j hj').2 he)
  · refine .inr ⟨s.data.toList.take i, s.data.toList.drop (i + 1), ?_, ?_, List.count_eq_zero.2 fun hm => ?_⟩
    · show Lib.lastIdx s 10 s.size = _
      rw [h1, List.length_take, ← size_list, Nat.min_eq_left (by omega)]
    · have hd := drop_byte s hi
      rw [(at10 i hi).1 h2] at hd
      rw [← hd, List.take_append_drop]
    · obtain ⟨j, hj, he⟩ := List.getElem_of_mem hm
      rw [List.length_drop, ← size_list] at hj
      have hj' : i + 1 + j < s.size := by omega
      rw [List.getElem_drop] at he
      exact h3 (i + 1 + j) (by omega) hj' ((at10 _ hj').2 he)
theorem behind_any (p : Ps) (s : ByteArray) (hp1 : p.1 ≤ 1000000) (hp2 : p.2 ≤ 1000000) (hs : s.size ≤ 1000000) (w : World) :
    Calls Tryz.prog 73 #[.agg #[.int .i64 p.1, .int .i64 p.2], .string s] w fun e w' => e = .returned (.agg #[.int .i64 (posL p s.data.toList).1, .int .i64 (posL p s.data.toList).2]) ∧ Below w.heap.size w w' := by
  have hL := fun w => Tryz.strings_LastIndexByte s 10 (by omega) w
  have hC := fun w => Tryz.strings_Count_one s 10 w
  have hcl : s.data.toList.count 10 ≤ s.size := by rw [size_list]; exact List.count_le_length
  have hp := posL_count s.data.toList p
  obtain ⟨x, y⟩ := p
  simp only at hp1 hp2 hp
  rcases last_split s with ⟨h1, h2⟩ | ⟨a, b, h1, h2, h3⟩
  · have hq := posL_no _ (x, y) h2
    rw [h1] at hL
    have HL := hid hL
    have HQ := hid hq
    have HS := hid (size_list s)
    clear hL hC hp hq h1 h2 hcl
    go_enter Tryz.func73, Tryz.ntmps73
    go_wp2_with (go_at_call 118; refine (HL.out _).mono ?_; rintro e w' ⟨rfl, rfl⟩)
    refine bodyPost_ret (v := .agg #[.int .i64 x, .int .i64 ((y : Int) + s.size)]) (by simp [results, Tryz.results73, go_sem]) rfl ⟨?_, (below_box _ _).alloc (below_box _ _).size _⟩
    rw [HQ.out, HS.out]
    rfl
  · have hq : posL (x, y) s.data.toList = (x + s.data.toList.count 10, 1 + b.length) := Prod.ext hp (by rw [h2]; exact posL_last a b (x, y) h3)
    have hsz : s.size = a.length + 1 + b.length := by rw [size_list, h2]; simp; omega
    rw [h1] at hL
    have HC : Hid (∀ w, Calls Tryz.prog 119 #[.string s, .string ⟨#[10]⟩] w fun e w' => e = .returned (.int .i64 (s.data.toList.count 10 : Nat)) ∧ w' = w) := hid hC
    have HL := hid hL
    have HQ := hid hq
    obtain ⟨i, hi⟩ : ∃ i, a.length = i := ⟨_, rfl⟩
    obtain ⟨n, hn⟩ : ∃ n, s.data.toList.count 10 = n := ⟨_, rfl⟩
    obtain ⟨m, hm⟩ : ∃ m, b.length = m := ⟨_, rfl⟩
    rw [hi] at HL hsz
    rw [hn] at HC HQ hcl
    rw [hm] at HQ hsz
    clear hL hC hp hq h1 h2 h3 hi hn hm
    go_enter Tryz.func73, Tryz.ntmps73
    go_wp2_with (go_at_call 118; refine (HL.out _).mono ?_; rintro e w' ⟨rfl, rfl⟩)
    have w1 : IntKind.i64.wrap ((x : Int) + n) = (x : Int) + n := IntWalk.i64_in _ (by omega)
    have w2 : IntKind.i64.wrap ((i : Int) + 1 + m - i) = 1 + (m : Int) := by rw [IntWalk.i64_in _ (by omega)]; omega
    go_region_with (go_at_call 119; refine (HC.out _).mono ?_; rintro e w' ⟨rfl, rfl⟩)
    all_goals
      go_wp2_with fail
      refine bodyPost_ret (v := .agg #[.int .i64 ((x : Int) + n), .int .i64 (1 + (m : Int))]) (by simp [results, Tryz.results73, go_sem]) rfl ⟨?_, ?_⟩
      · rw [HQ.out]
        simp
      · exact Below.drew ((below_box _ _).alloc (below_box _ _).size _)
end Go.Proofs.YtomimkgaelkaoaaGreatDoor
