/- Contracts of layer 6: joining, by the program and by the document. -/
import Derived.Test.YtcdbdfhikbfbpaaGreatDoorLexL
import Derived.Test.YtcdbdfhikbfbpaaGreatDoorTexts
namespace Go.Proofs.YtcdbdfhikbfbpaaGreatDoor
open Go.ChangeShapes Go.WideShapes Go.ChangeAt Go.RowKit
set_option linter.unusedVariables false

/-- The texts of all tokens but the Ends. -/
def textsL (l : List Tok) : List (List UInt8) := (l.filter (fun t => decide (t.tk.k ≠ 3))).map (·.tk.t)
def joinL (l : List Tok) : List UInt8 := Lib.join (textsL l) [32]
theorem textsL_yes (l : List Tok) (t : Tok) (h : t.tk.k ≠ 3) : textsL (l ++ [t]) = textsL l ++ [t.tk.t] := by simp [textsL, h]
theorem textsL_no (l : List Tok) (t : Tok) (h : t.tk.k = 3) : textsL (l ++ [t]) = textsL l := by simp [textsL, h]
theorem textsL_len (l : List Tok) : (textsL l).length ≤ l.length := by unfold textsL; rw [List.length_map]; exact List.length_filter_le _ _
theorem take_tok (l : List Tok) {k : Nat} {t : Tok} (h : l[k]? = some t) : l.take (k + 1) = l.take k ++ [t] := by rw [List.take_add_one, h]; rfl
theorem info_str : (Tryz.prog.info? 9).map (fun i => (i.zero, i.size, i.bytes)) = some (some (.string ⟨#[]⟩), 1, 16) := by kernel_rfl

set_option maxHeartbeats 1000000 in
theorem Join_any (a : Option Addr) (cap : Nat) (l : List Tok) (w : World) (h : TkS w a l) (hl : l.length ≤ 1000000) (hs : (joinL l).length ≤ 140737488355328) :
    Calls Tryz.prog 24 #[.slice a l.length cap] w fun e w' => e = .returned (.string (bs (joinL l))) ∧ Below w.heap.size w w' := by
  obtain ⟨i0, hi, hz0, hz1, hz2⟩ := lexInfo_parts info_str
  have H := Lib.hid h
  clear h
  go_enter Tryz.func24, Tryz.ntmps24
  go_wp2_with fail
  go_loopw [3, 8] (fun s3 s8 wr => ∃ (k : Nat) (v : Value) (xs : List ByteArray), v = s3 ∧ s8 = .int .i64 k ∧ k ≤ l.length ∧ xs.length ≤ k ∧ Texts 9 w.heap.size wr v xs ∧ Below w.heap.size w wr ∧ Hid (xs.map (·.data.toList) = textsL (l.take k))) (fun _ s8 _ => l.length - (intOf s8).toNat)
  case atStart => exact ⟨0, _, [], rfl, rfl, by omega, by simp, Texts.nil _ _ _, Below.refl _ _, Lib.hid rfl⟩
  case round =>
    obtain ⟨k, v, xs, rfl, rfl, hk, hx, hT, hb, HX⟩ := hrel
    have T := Lib.hid hT
    have B := Lib.hid hb
    clear hT hb
    by_cases hlt : k < l.length
    · obtain ⟨t, ht⟩ : ∃ t, l[k]? = some t := ⟨_, List.getElem?_eq_getElem hlt⟩
      obtain ⟨g, rfl, hg, c0, c1, c2, c3, c4⟩ := (H.out.below B.out) k t ht
      have h3 : ((t.tk.k : Int) != 3) = decide (t.tk.k ≠ 3) := by rw [Bool.eq_iff_iff, bne_iff_ne, decide_eq_true_eq]; omega
      have hY : Hid (t.tk.k ≠ 3 → textsL (l.take (k + 1)) = textsL (l.take k) ++ [t.tk.t]) := Lib.hid fun h => by rw [take_tok l ht, textsL_yes _ _ h]
      have hN : Hid (t.tk.k = 3 → textsL (l.take (k + 1)) = textsL (l.take k)) := Lib.hid fun h => by rw [take_tok l ht, textsL_no _ _ h]
      clear ht
      obtain ⟨⟨kk, tt, nn⟩, ⟨x, y⟩⟩ := t
      simp only at c0 c1 c2 c3 c4 h3 hY hN
      cases hd : decide (kk ≠ 3)
      all_goals
        rw [hd] at h3
        have HD := Lib.hid hd
        clear hd
        have T2 := Lib.hid (T.out.alloc (.cells #[.int .i64 kk, .string (bs tt), .int .u64 nn, .int .i64 x, .int .i64 y] 142))
        have B2 := Lib.hid (B.out.alloc B.out.size (.cells #[.int .i64 kk, .string (bs tt), .int .u64 nn, .int .i64 x, .int .i64 y] 142))
        have z2 := B2.out.size
        go_wp2_with (at_builtin; go_must (refine append_text rfl _ _ 58 rfl w.heap.size 9 i0 _ 16 Tryz.underlying58 hi hz0 hz1 hz2 rfl v xs (bs tt) rfl T2.out (wr.heap.size + 1) (by simp) _ rfl (by unfold maxLen; omega) (by omega) z2 ?_; intro v' w3 hT3 hb3; have T3 := Lib.hid hT3; have B3 := Lib.hid (B2.out.trans hb3); clear hT3 hb3))
      · go_roundw
        case rel => exact ⟨k + 1, v, xs, rfl, by go_num, by omega, by omega, T2.out, B2.out, Lib.hid (by rw [HX.out]; exact (hN.out (by simpa using HD.out)).symm)⟩
        case measure => simp [intOf]; omega
      · go_roundw
        case rel => exact ⟨k + 1, v', _, rfl, by go_num, by omega, by rw [List.length_append, List.length_singleton]; omega, T3.out, B3.out, Lib.hid (by rw [List.map_append, HX.out, hY.out (by simpa using HD.out)]; rfl)⟩
        case measure => simp [intOf]; omega
    · obtain rfl : k = l.length := by omega
      rw [List.take_length] at HX
      have hjl : joinL l = Lib.join (xs.map (·.data.toList)) [32] := by unfold joinL; rw [HX.out]
      rcases T.out.form with ⟨rfl, rfl⟩ | ⟨g, c, rfl, hcap, hg, hc⟩
      · have hjn := fun w => Tryz.strings_Join_none none 0 ⟨#[32]⟩ w
        have HJ := Lib.hid hjn
        have HL := Lib.hid hjl
        clear hjn hjl
        go_wp2_with (go_at_call 48; go_must (refine (HJ.out _).mono ?_; rintro e w' ⟨rfl, rfl⟩))
        go_ret
        exact ⟨retS (by rw [HL.out]; rfl), B.out⟩
      · have hjn := Tryz.strings_Join g 0 c xs ⟨#[32]⟩ wr hc hg (by omega) hcap (by rw [hjl] at hs; exact hs)
        have HJ := Lib.hid hjn
        have HL := Lib.hid hjl
        clear hjn hjl hc hg hcap
        go_wp2_with (go_at_call 48; go_must (refine HJ.out.mono ?_; rintro e w' ⟨rfl, hb'⟩))
        go_ret
        exact ⟨retS (by rw [HL.out]; rfl), chain B.out (Nat.le_refl _) hb'⟩
/-- As the document joins: byte texts, one by one. -/
def jstep (a : List UInt8) (t : Tok) : List UInt8 := if t.tk.k = 3 then a else (if a = [] then a else a ++ [32]) ++ t.tk.t
def joinR (l : List Tok) : List UInt8 := l.foldl jstep []
theorem joinR_take (l : List Tok) {k : Nat} {t : Tok} (h : l[k]? = some t) : joinR (l.take (k + 1)) = jstep (joinR (l.take k)) t := by
  unfold joinR
  rw [take_tok l h, List.foldl_append]
  rfl
theorem jstep_len (a : List UInt8) (t : Tok) : (jstep a t).length ≤ a.length + 1 + t.tk.t.length := by
  unfold jstep
  split
  · omega
  · split <;> simp <;> omega

theorem append_list (x y : ByteArray) : (x ++ y).data.toList = x.data.toList ++ y.data.toList := by rw [ByteArray.data_append, Array.toList_append]
end Go.Proofs.YtcdbdfhikbfbpaaGreatDoor
