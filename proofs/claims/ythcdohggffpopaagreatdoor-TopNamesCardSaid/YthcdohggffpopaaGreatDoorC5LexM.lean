/- Slices of strings that a call has made by append, nil let in. · Contracts of layer 6: joining, by the program and by the document. -/
import Derived.Test.YthcdohggffpopaaGreatDoorC5Toks
import Derived.Test.YthcdohggffpopaaGreatDoorC5LexL
set_option linter.unusedVariables false
set_option linter.unusedSimpArgs false
namespace Go.Proofs.YthcdohggffpopaaGreatDoor
open Go.Lib (hid)
open Go.ChangeShapes Go.WideShapes Go.ChangeAt Go.RowKit
def Texts (E : TypeId) (B : Nat) (w : World) (v : Value) (l : List ByteArray) : Prop := w.ownsRow B E 1 v l.length (l.map Value.string)
section
variable {E : TypeId} {B : Nat} {w w' : World} {v : Value} {l : List ByteArray}
theorem Texts.nil (E : TypeId) (B : Nat) (w : World) : Texts E B w (.slice none 0 0) [] := World.ownsRow_nil w B E 1
theorem Texts.lt (h : Texts E B w v l) : ∀ g, v.ownBlock = some g → B ≤ g ∧ g < w.heap.size := World.ownsRow.lt h
theorem Texts.form (h : Texts E B w v l) : (v = .slice none 0 0 ∧ l = []) ∨ ∃ g cap, v = .slice (some ⟨g, 0, none⟩) l.length cap ∧ l.length ≤ cap ∧ g < w.heap.size ∧ ∀ (j : Nat) x, l[j]? = some x → w.cell? ⟨g, 0 + j, none⟩ = some (.string x) := by
 rcases id h.2 with ⟨h1, h2⟩ | ⟨g, cap, cur, hv, hg, hh, hle, r⟩
 ·exact .inl ⟨h1, List.eq_nil_of_length_eq_zero h2⟩
 ·subst hv
  refine .inr ⟨g, cap, rfl, hle, (Array.getElem?_eq_some_iff.1 hh).1, fun j x hx => ?_⟩
  have hj : j < l.length := (List.getElem?_eq_some_iff.1 hx).1
  rw [Nat.zero_add, World.ownsRow.cellAt h j (by omega), List.getElem?_map, hx]
  rfl
theorem Texts.alloc (h : Texts E B w v l) (o : Obj) : Texts E B (w.alloc o) v l := World.ownsRow.alloc h o
end
theorem append_text {P : Program} {w : World} {ops : Array Oper} {rest : List Oper} {o : Oper} {a : Act} {Q : Exit → Act → World → Prop} (hgd : o.guard = none) (s x : Operand) (t : TypeId)
  (ho : o.op = .call { callee := .builtin .append, args := #[s, x], argTypes := #[t, t] })
  (B : Nat) (e : TypeId) (i : TypeInfo) (z : Value) (bytes : Nat) (ht : P.underlying t = some (.slice e)) (hi : P.info? e = some i) (hz : i.zero = some z)
  (hsize : i.size = 1) (hby : i.bytes = bytes) (hzs : z.cells.size = 1)
  (v : Value) (l : List ByteArray) (u : ByteArray) (hs : a.eval s = v) (hown : Texts e B w v l) (H : Nat) (hH : H = w.heap.size) (c : Nat) (hx : a.eval x = .slice (some ⟨H, 0, none⟩) 1 c)
  (h63 : l.length + 1 ≤ maxLen) (hbytes : (l.length + 1) * bytes ≤ 140737488355328) (hbase : B ≤ w.heap.size)
  (h : ∀ v' w', Texts e B w' v' (l ++ [u]) → Below B w w' → wpList P ops Q rest (a.put o.dst v') w') : wpList P ops Q (o :: rest) a (w.alloc (.cells #[.string u] e)) := by
 subst hH
 refine wpList_append_own (w.alloc (.cells #[.string u] e)) hgd s x t ho B e i z 1 bytes ht hi hz hsize hby hzs (by decide) v l.length (l.map Value.string) hs (hown.alloc _)
  ⟨w.heap.size, 0, none⟩ 1 c [.string u] hx rfl (cell_one_new _ _ _) (by simp [Value.oneCell']) h63 hbytes (by simp; omega) ?_
 intro v' w' h1 h2 _
 refine h v' w' ?_ (((Below.refl B w).alloc hbase _).grown h2 (by simp; omega) (fun g hg => (hown.lt g hg).1))
 unfold Texts
 rw [List.length_append, List.map_append]
 exact h1
end Go.Proofs.YthcdohggffpopaaGreatDoor
namespace Go.Proofs.YthcdohggffpopaaGreatDoor
open Go.Lib (hid)
open Go.ChangeShapes Go.WideShapes Go.ChangeAt Go.RowKit
def textsL (l : List Tok) : List (List UInt8) := (l.filter (fun t => decide (t.tk.k ≠ 3))).map (·.tk.t)
def joinL (l : List Tok) : List UInt8 := Lib.join (textsL l) [32]
theorem textsL_yes (l : List Tok) (t : Tok) (h : t.tk.k ≠ 3) : textsL (l ++ [t]) = textsL l ++ [t.tk.t] := by simp [textsL, h]
theorem textsL_no (l : List Tok) (t : Tok) (h : t.tk.k = 3) : textsL (l ++ [t]) = textsL l := by simp [textsL, h]
theorem take_tok (l : List Tok) {k : Nat} {t : Tok} (h : l[k]? = some t) : l.take (k + 1) = l.take k ++ [t] := by rw [List.take_add_one, h]; rfl
theorem info_str : (Tryz.prog.info? 9).map (fun i => (i.zero, i.size, i.bytes)) = some (some (.string ⟨#[]⟩), 1, 16) := by kernel_rfl
set_option maxHeartbeats 1000000 in
theorem Join_any (a : Option Addr) (cap : Nat) (l : List Tok) (w : World) (h : TkS w a l) (hl : l.length ≤ 1000000) (hs : (joinL l).length ≤ 140737488355328) :
  Calls Tryz.prog 44 #[.slice a l.length cap] w fun e w' => e = .returned (.string (bs (joinL l))) ∧ Below w.heap.size w w' := by
 obtain ⟨i0, hi, hz0, hz1, hz2⟩ := lexInfo_parts info_str
 have H := hid h
 clear h
 go_enter Tryz.func44, Tryz.ntmps44
 go_wp2_with fail
 go_loopw [3, 8] (fun s3 s8 wr => ∃ (k : Nat) (v : Value) (xs : List ByteArray), v = s3 ∧ s8 = .int .i64 k ∧ k ≤ l.length ∧ xs.length ≤ k ∧ Texts 9 w.heap.size wr v xs ∧ Below w.heap.size w wr ∧ Hid (xs.map (·.data.toList) = textsL (l.take k))) (fun _ s8 _ => l.length - (intOf s8).toNat)
 case atStart => exact ⟨0, _, [], rfl, rfl, by omega, by simp, Texts.nil _ _ _, Below.refl _ _, hid rfl⟩
 case round =>
  obtain ⟨k, v, xs, rfl, rfl, hk, hx, hT, hb, HX⟩ := hrel
  have T := hid hT
  have B := hid hb
  clear hT hb
  by_cases hlt : k < l.length
  ·obtain ⟨t, ht⟩ : ∃ t, l[k]? = some t := ⟨_, List.getElem?_eq_getElem hlt⟩
   obtain ⟨g, rfl, hg, c0, c1, c2, c3, c4⟩ := (H.out.below B.out) k t ht
   have h3 : ((t.tk.k : Int) != 3) = decide (t.tk.k ≠ 3) := by rw [Bool.eq_iff_iff, bne_iff_ne, decide_eq_true_eq]; omega
   have hY : Hid (t.tk.k ≠ 3 → textsL (l.take (k + 1)) = textsL (l.take k) ++ [t.tk.t]) := hid fun h => by rw [take_tok l ht, textsL_yes _ _ h]
   have hN : Hid (t.tk.k = 3 → textsL (l.take (k + 1)) = textsL (l.take k)) := hid fun h => by rw [take_tok l ht, textsL_no _ _ h]
   clear ht
   obtain ⟨⟨kk, tt, nn⟩, ⟨x, y⟩⟩ := t
   simp only at c0 c1 c2 c3 c4 h3 hY hN
   cases hd : decide (kk ≠ 3)
   all_goals
    rw [hd] at h3
    have HD := hid hd
    clear hd
    have T2 := hid (T.out.alloc (.cells #[.int .i64 kk, .string (bs tt), .int .u64 nn, .int .i64 x, .int .i64 y] 106))
    have B2 := hid (B.out.alloc B.out.size (.cells #[.int .i64 kk, .string (bs tt), .int .u64 nn, .int .i64 x, .int .i64 y] 106))
    have z2 := B2.out.size
    go_wp2_with (at_builtin; go_must (refine append_text rfl _ _ 52 rfl w.heap.size 9 i0 _ 16 Tryz.underlying52 hi hz0 hz1 hz2 rfl v xs (bs tt) rfl T2.out (wr.heap.size + 1) (by simp) _ rfl (by unfold maxLen; omega) (by omega) z2 ?_; intro v' w3 hT3 hb3; have T3 := hid hT3; have B3 := hid (B2.out.trans hb3); clear hT3 hb3))
   ·go_roundw
    case rel => exact ⟨k + 1, v, xs, rfl, by go_num, by omega, by omega, T2.out, B2.out, hid (by rw [HX.out]; exact (hN.out (by simpa using HD.out)).symm)⟩
    case measure => simp [intOf]; omega
   ·go_roundw
    case rel => exact ⟨k + 1, v', _, rfl, by go_num, by omega, by rw [List.length_append, List.length_singleton]; omega, T3.out, B3.out, hid (by rw [List.map_append, HX.out, hY.out (by simpa using HD.out)]; rfl)⟩
    case measure => simp [intOf]; omega
  ·obtain rfl : k = l.length := by omega
   rw [List.take_length] at HX
   have hjl : joinL l = Lib.join (xs.map (·.data.toList)) [32] := by unfold joinL; rw [HX.out]
   rcases T.out.form with ⟨rfl, rfl⟩ | ⟨g, c, rfl, hcap, hg, hc⟩
   ·have hjn := fun w => Tryz.strings_Join_none none 0 ⟨#[32]⟩ w
    have HJ := hid hjn
    have HL := hid hjl
    clear hjn hjl
    go_wp2_with (go_at_call 91; go_must (refine (HJ.out _).mono ?_; rintro e w' ⟨rfl, rfl⟩))
    go_ret
    exact ⟨retS (by rw [HL.out]; rfl), B.out⟩
   ·have hjn := Tryz.strings_Join g 0 c xs ⟨#[32]⟩ wr hc hg (by omega) hcap (by rw [hjl] at hs; exact hs)
    have HJ := hid hjn
    have HL := hid hjl
    clear hjn hjl hc hg hcap
    go_wp2_with (go_at_call 91; go_must (refine HJ.out.mono ?_; rintro e w' ⟨rfl, hb'⟩))
    go_ret
    exact ⟨retS (by rw [HL.out]; rfl), chain B.out (Nat.le_refl _) hb'⟩
end Go.Proofs.YthcdohggffpopaaGreatDoor
