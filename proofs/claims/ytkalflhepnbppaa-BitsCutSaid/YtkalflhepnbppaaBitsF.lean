/- Contracts of layer 3: parts joined; package bits. -/
import Derived.Test.YtkalflhepnbppaaBitsE
namespace Go.Proofs.Ytkalflhepnbppaa
open Go.ChangeShapes Go.WideShapes Go.ChangeAt Go.RowKit
set_option linter.unusedVariables false

/-- Words, each. -/
def U64s (l : List Int) : Prop := ∀ j, j < l.length → 0 ≤ el l j ∧ el l j ≤ 18446744073709551615

open Classical in
/-- What a join returns: the number, and an error's number. -/
noncomputable def joinR (ps : List Int) (t : Int) (l : List Int) : Int × Int :=
  if goesB t l = true ∧ ps.length = l.length then (if ∀ j, j < l.length → goesIn ps l j then ((jn ps l l.length : Nat), 0) else (0, 5)) else (0, 2)
abbrev numOf (r : Int × Int) : Ending := .returned (.tuple #[.int .u64 r.1, .int .i64 r.2])
theorem numOf_mk {r : Int × Int} {x y : Int} (h : r = (x, y)) : Ending.returned (.tuple #[.int .u64 x, .int .i64 y]) = numOf r := by subst h; rfl

theorem Join_no (t : Int) (a b : Option Addr) (ca cb : Nat) (ps l : List Int) (w : World) (hl : l.length ≤ maxLen) (hb : Rd .i64 w b l) (hg : goesB t l = false) :
    Calls Try.prog 16 #[.slice a ps.length ca, .int .i64 t, .slice b l.length cb] w fun e w' => e = numOf (joinR ps t l) ∧ Below w.heap.size w w' := by
  have hr : joinR ps t l = (0, 2) := by unfold joinR; rw [if_neg (by rw [hg]; simp)]
  have C := Lib.hid (Lay_no t b cb l w hl hb hg)
  have HR := Lib.hid hr
  clear hb hg hr
  go_enter Try.func16, Try.ntmps16
  go_wp2_with (refine C.out.mono ?_; rintro e w1 ⟨rfl, rfl⟩)
  go_ret2
  exact ⟨numOf_mk HR.out, Below.refl _ _⟩

theorem Join_len (t : Int) (a b : Option Addr) (ca cb : Nat) (ps l : List Int) (w : World) (hp : ps.length ≤ maxLen) (hb : Rd .i64 w b l) (hg : goesB t l = true) (hlen : ps.length ≠ l.length) :
    Calls Try.prog 16 #[.slice a ps.length ca, .int .i64 t, .slice b l.length cb] w fun e w' => e = numOf (joinR ps t l) ∧ Below w.heap.size w w' := by
  have hr : joinR ps t l = (0, 2) := by unfold joinR; rw [if_neg (by simp [hlen])]
  have C := Lib.hid (Lay_ok t b cb l w hb hg)
  have HR := Lib.hid hr
  have hd : ((ps.length : Int) != (l.length : Int)) = true := by rw [bne_iff_ne]; omega
  have HL := Lib.hid hlen
  clear hb hg hr hlen
  go_enter Try.func16, Try.ntmps16
  go_wp2_with fail
  refine C.out.mono ?_; rintro e w1 ⟨rfl, hfr, hb1⟩
  go_wp2_with fail
  go_ret2
  exact ⟨numOf_mk HR.out, hb1⟩

theorem Fits_in {p d : Nat} (hp : p < 18446744073709551616) (hd : d ≤ 64) (w : World) (v : Bool) (hv : v = decide (p < 2 ^ d)) :
    Calls Try.prog 23 #[.int .u64 p, .int .i64 d] w fun e w' => e = .returned (.bool v) ∧ w = w' := by
  subst hv
  have c := Fits_any p d ⟨by omega, by omega⟩ (wf_i64 (by omega) (by omega)) w
  rw [show decide ((p : Int) ≤ maskV d) = decide (p < 2 ^ d) from by
    rw [decide_eq_decide]
    unfold maskV
    rw [show min (d : Int).toNat 64 = d from by omega]
    have : (2 : Int) ^ d = ((2 ^ d : Nat) : Int) := by simp
    omega] at c
  exact c

theorem or_shl {m p r : Nat} (hm : m < 18446744073709551616) (h : p * 2 ^ r < 18446744073709551616) :
    Value.int .u64 (bits .or .u64 (m : Int) (IntKind.u64.wrap ((p : Int) * 2 ^ r))) = .int .u64 ((m ||| p * 2 ^ r : Nat) : Int) := by
  have e : (p : Int) * 2 ^ r = ((p * 2 ^ r : Nat) : Int) := by simp
  rw [e, show IntKind.u64.wrap ((p * 2 ^ r : Nat) : Int) = ((p * 2 ^ r : Nat) : Int) from by rw [IntKind.wrap_u64]; omega, bits_or_u64_nat m _ hm h]

set_option maxHeartbeats 1000000 in
theorem Join_ok (t : Int) (a b : Option Addr) (ca cb : Nat) (ps l : List Int) (w : World) (ha : Rd .u64 w a ps) (hb : Rd .i64 w b l) (hu : U64s ps) (hg : goesB t l = true) (hlen : ps.length = l.length) :
    Calls Try.prog 16 #[.slice a ps.length ca, .int .i64 t, .slice b l.length cb] w fun e w' => e = numOf (joinR ps t l) ∧ Below w.heap.size w w' := by
  have G := goes_of hg
  obtain ⟨g1, g2⟩ := G.len
  obtain ⟨t1, t2⟩ := G.total
  have C := Lib.hid (Lay_ok t b cb l w hb hg)
  have HG := Lib.hid G
  have HA := Lib.hid ha
  have HU := Lib.hid hu
  have HL := Lib.hid hlen
  have HGB := Lib.hid hg
  rw [hlen]
  clear hb hg G ha hu hlen
  go_enter Try.func16, Try.ntmps16
  go_wp2_with fail
  refine C.out.mono ?_; rintro e w1 ⟨rfl, hfr, hb1⟩
  go_wp2_with fail
  go_loopw [10, 29] (fun x i wr => ∃ (k m : Nat), k ≤ l.length ∧ i = .int .i64 k ∧ x = .int .u64 m ∧ m < 18446744073709551616 ∧ Hid (m = jn ps l k * 2 ^ rst l k) ∧ Hid (∀ j, j < k → goesIn ps l j) ∧ FRow w.heap.size wr w.heap.size l l.length ∧ Below w.heap.size w wr) (fun _ i _ => l.length - (intOf i).toNat)
  case atStart => exact ⟨0, 0, by omega, rfl, rfl, by omega, Lib.hid (by simp [jn]), Lib.hid (fun j hj => absurd hj (by omega)), hfr, hb1⟩
  case round =>
    obtain ⟨k, m, hk, rfl, rfl, hm, HM, HI, hf, hb⟩ := hrel
    by_cases hlt : k < l.length
    · obtain ⟨c0, c1⟩ := hf.cells hlt
      obtain ⟨x, rfl, hx, hc0⟩ := HA.out.at_ (j := k) (by rw [HL.out]; exact hlt)
      have hc : wr.cell? (x.add k) = some (.int .u64 (el ps k)) := by rw [← hc0]; exact hb.cell (by rw [block_add]; exact hx)
      obtain ⟨p, HP, hp⟩ : ∃ p : Nat, Hid (el ps k = p) ∧ p < 18446744073709551616 := by
        have := HU.out k (by rw [HL.out]; exact hlt)
        exact ⟨(el ps k).toNat, Lib.hid (by omega), by omega⟩
      obtain ⟨r, HB, hr⟩ : ∃ r : Nat, Hid (rst l (k + 1) = r) ∧ r ≤ 63 := ⟨_, Lib.hid rfl, (goes_rst_lt HG.out hlt).2.1⟩
      obtain ⟨d, HD, hd1, hd2⟩ : ∃ d : Nat, Hid (wd l k = d) ∧ 1 ≤ d ∧ d ≤ 64 := ⟨_, Lib.hid rfl, (goes_wd HG.out hlt).2⟩
      rw [HB.out] at c0
      rw [(goes_wd HG.out hlt).1, HD.out] at c1
      rw [HP.out] at hc
      clear hc0
      have hxs := hb.size
      have hxw : x.block < wr.heap.size := by omega
      have hca : (wr.alloc (.cells #[.int .i64 r, .int .i64 d] 30)).cell? (x.add k) = some (.int .u64 p) := by
        rw [World.cell?_alloc_lt _ _ _ (by rw [block_add]; exact hxw)]; exact hc
      have hGI : goesIn ps l k ↔ p < 2 ^ d := by unfold goesIn; rw [HP.out, HD.out, Int.toNat_natCast]
      have HGI := Lib.hid hGI
      clear hGI
      by_cases hpd : p < 2 ^ d
      · have hF := fun w => Fits_in hp hd2 w true (by simp [hpd])
        have HF := Lib.hid hF
        have HPD := Lib.hid hpd
        clear hF hpd
        go_wp2_with fail
        go_quiet ((go_at_call 23; exact quiet_left (HF.out _)))
        go_wp2_with fail
        go_quiet (fail)
        go_wp2_with fail
        go_roundw
        case rel =>
          have hj := jn_or (ps := ps) hlt (HGI.out.2 HPD.out)
          rw [HB.out, ← HM.out, HP.out, Int.toNat_natCast] at hj
          have hb3 : p * 2 ^ r < 18446744073709551616 := by
            have h1 : p * 2 ^ r < 2 ^ d * 2 ^ r := Nat.mul_lt_mul_of_pos_right HPD.out (Nat.pow_pos (by decide))
            rw [← Nat.pow_add] at h1
            have h2 := (goes_rst_lt HG.out hlt).1
            rw [HB.out, HD.out] at h2
            exact Nat.lt_of_lt_of_le h1 (show 2 ^ (d + r) ≤ 2 ^ 64 from Nat.pow_le_pow_right (by decide) (by omega))
          refine ⟨k + 1, m ||| p * 2 ^ r, by omega, by go_num, ?_, Nat.or_lt_two_pow (n := 64) hm hb3, Lib.hid (by rw [hj, HB.out]), Lib.hid (fun j hj => ?_), (hf.alloc _).drewN _, below_drewN (hb.alloc hb.size _) _⟩
          · rw [or_shl hm hb3]
          · by_cases e : j = k
            · subst e; exact HGI.out.2 HPD.out
            · exact HI.out j (by omega)
        case measure => simp [intOf]; omega
      · have hF := fun w => Fits_in hp hd2 w false (by simpa using hpd)
        have HF := Lib.hid hF
        have hr : joinR ps t l = (0, 5) := by
          unfold joinR
          rw [if_pos ⟨HGB.out, HL.out⟩, if_neg (fun h => hpd (HGI.out.1 (h k hlt)))]
        have HR := Lib.hid hr
        clear hF hpd hr
        go_wp2_with fail
        go_quiet ((go_at_call 23; exact quiet_left (HF.out _)))
        go_wp2_with fail
        go_ret2
        exact ⟨numOf_mk HR.out, below_drewN (hb.alloc hb.size _) _⟩
    · obtain rfl : k = l.length := by omega
      have hr : joinR ps t l = ((m : Int), 0) := by
        unfold joinR
        rw [if_pos ⟨HGB.out, HL.out⟩, if_pos HI.out]
        rw [HM.out, rst_all]
        simp
      have HR := Lib.hid hr
      clear hr
      go_wp2_with fail
      go_ret2
      exact ⟨numOf_mk HR.out, hb⟩

/-- Parts joined, package bits. -/
theorem Join_any (t : Int) (a b : Option Addr) (ca cb : Nat) (ps l : List Int) (w : World) (hp : ps.length ≤ maxLen) (hl : l.length ≤ maxLen) (ha : Rd .u64 w a ps) (hb : Rd .i64 w b l) (hu : U64s ps) :
    Calls Try.prog 16 #[.slice a ps.length ca, .int .i64 t, .slice b l.length cb] w fun e w' => e = numOf (joinR ps t l) ∧ Below w.heap.size w w' := by
  by_cases hg : goesB t l = true
  · by_cases hlen : ps.length = l.length
    · exact Join_ok t a b ca cb ps l w ha hb hu hg hlen
    · exact Join_len t a b ca cb ps l w hp hb hg hlen
  · exact Join_no t a b ca cb ps l w hl hb (by simpa using hg)

end Go.Proofs.Ytkalflhepnbppaa
