/- Contracts of layer 3: parts joined, by the document. -/
import Derived.Test.YtkalflhepnbppaaBitsG
namespace Go.Proofs.Ytkalflhepnbppaa
open Go.ChangeShapes Go.WideShapes Go.ChangeAt Go.RowKit
set_option linter.unusedVariables false

theorem refJoin_no (t : Int) (a b : Option Addr) (ca cb : Nat) (ps l : List Int) (w : World) (hl : l.length ≤ maxLen) (hb : Rd .i64 w b l) (hg : goesB t l = false) :
    Calls Try.prog 17 #[.slice a ps.length ca, .int .i64 t, .slice b l.length cb] w fun e w' => e = numOf (joinR ps t l) ∧ Below w.heap.size w w' := by
  have hr : joinR ps t l = (0, 2) := by unfold joinR; rw [if_neg (by rw [hg]; simp)]
  have c := refGoes_any t b cb l w hl hb
  rw [hg] at c
  have C := Lib.hid c
  have HR := Lib.hid hr
  clear hb hg hr c
  go_enter Try.func17, Try.ntmps17
  go_wp2_with (refine C.out.mono ?_; rintro e w1 ⟨rfl, rfl⟩)
  go_ret2
  exact ⟨numOf_mk HR.out, Below.refl _ _⟩

theorem refJoin_len (t : Int) (a b : Option Addr) (ca cb : Nat) (ps l : List Int) (w : World) (hl : l.length ≤ maxLen) (hb : Rd .i64 w b l) (hg : goesB t l = true) (hlen : ps.length ≠ l.length) :
    Calls Try.prog 17 #[.slice a ps.length ca, .int .i64 t, .slice b l.length cb] w fun e w' => e = numOf (joinR ps t l) ∧ Below w.heap.size w w' := by
  have hr : joinR ps t l = (0, 2) := by unfold joinR; rw [if_neg (by simp [hlen])]
  have c := refGoes_any t b cb l w hl hb
  rw [hg] at c
  have C := Lib.hid c
  have HR := Lib.hid hr
  have hd : ((ps.length : Int) != (l.length : Int)) = true := by rw [bne_iff_ne]; omega
  have HL := Lib.hid hlen
  clear hb hg hr hlen c
  go_enter Try.func17, Try.ntmps17
  go_wp2_with (refine C.out.mono ?_; rintro e w1 ⟨rfl, rfl⟩)
  go_ret2
  exact ⟨numOf_mk HR.out, Below.refl _ _⟩

theorem low_bit {J p d q : Nat} (hp : p < 2 ^ d) (hq : q < d) : (J * 2 ^ d + p) / 2 ^ q % 2 = p / 2 ^ q % 2 := by
  have h : (J * 2 ^ d + p) % 2 ^ d = p := by rw [Nat.mul_comm, Nat.mul_add_mod, Nat.mod_eq_of_lt hp]
  have h1 := Nat.testBit_mod_two_pow (J * 2 ^ d + p) d q
  rw [h] at h1
  rw [show decide (q < d) = true from by simpa using hq, Bool.true_and] at h1
  simp only [Nat.testBit_eq_decide_div_mod_eq, decide_eq_decide] at h1
  omega
theorem div_up (X q : Nat) : X / 2 ^ q = X / 2 ^ (q + 1) + X / 2 ^ (q + 1) + X / 2 ^ q % 2 := by
  rw [Nat.pow_succ, ← Nat.div_div_eq_div_mul]
  omega

set_option maxHeartbeats 2000000 in
theorem refJoin_ok (t : Int) (a b : Option Addr) (ca cb : Nat) (ps l : List Int) (w : World) (ha : Rd .u64 w a ps) (hb : Rd .i64 w b l) (hu : U64s ps) (hg : goesB t l = true) (hlen : ps.length = l.length) :
    Calls Try.prog 17 #[.slice a ps.length ca, .int .i64 t, .slice b l.length cb] w fun e w' => e = numOf (joinR ps t l) ∧ Below w.heap.size w w' := by
  have G := goes_of hg
  obtain ⟨g1, g2⟩ := G.len
  obtain ⟨t1, t2⟩ := G.total
  have c := refGoes_any t b cb l w (by unfold maxLen; omega) hb
  rw [hg] at c
  have C := Lib.hid c
  have HG := Lib.hid G
  have HA := Lib.hid ha
  have HBB := Lib.hid hb
  have HU := Lib.hid hu
  have HL := Lib.hid hlen
  have HGB := Lib.hid hg
  rw [hlen]
  clear hb hg G ha hu hlen c
  go_enter Try.func17, Try.ntmps17
  go_wp2_with fail
  refine C.out.mono ?_; rintro e w1 ⟨rfl, rfl⟩
  go_wp2_with fail
  go_loopw [9, 10] (fun x i wr => ∃ (k m : Nat), k ≤ l.length ∧ i = .int .i64 k ∧ x = .int .u64 m ∧ m < 18446744073709551616 ∧ Hid (m = jn ps l k) ∧ Hid (∀ j, j < k → goesIn ps l j) ∧ Below w.heap.size w wr) (fun _ i _ => l.length - (intOf i).toNat)
  case atStart => exact ⟨0, 0, by omega, rfl, rfl, by omega, Lib.hid rfl, Lib.hid (fun j hj => absurd hj (by omega)), Below.refl _ _⟩
  case round =>
    obtain ⟨k, m, hk, rfl, rfl, hm, HM, HI, hb⟩ := hrel
    by_cases hlt : k < l.length
    · obtain ⟨x, rfl, hx, hc0⟩ := HA.out.at_ (j := k) (by rw [HL.out]; exact hlt)
      have hc : wr.cell? (x.add k) = some (.int .u64 (el ps k)) := by rw [← hc0]; exact hb.cell (by rw [block_add]; exact hx)
      clear hc0
      obtain ⟨y, rfl, hy, hc0⟩ := HBB.out.at_ hlt
      obtain ⟨p, HP, hp⟩ : ∃ p : Nat, Hid (el ps k = p) ∧ p < 18446744073709551616 := by
        have := HU.out k (by rw [HL.out]; exact hlt)
        exact ⟨(el ps k).toNat, Lib.hid (by omega), by omega⟩
      obtain ⟨d, HD, hd1, hd2⟩ : ∃ d : Nat, Hid (wd l k = d) ∧ 1 ≤ d ∧ d ≤ 64 := ⟨_, Lib.hid rfl, (goes_wd HG.out hlt).2⟩
      rw [(goes_wd HG.out hlt).1, HD.out] at hc0
      rw [HP.out] at hc
      have hGI : goesIn ps l k ↔ p < 2 ^ d := by unfold goesIn; rw [HP.out, HD.out, Int.toNat_natCast]
      have HGI := Lib.hid hGI
      clear hGI
      have HBt := Lib.hid (fun w => refBits_any p ⟨by omega, by omega⟩ w)
      go_wp2_with fail
      refine (HBt.out _).mono ?_; rintro e w3 ⟨rfl, hr3, hb3⟩
      have hcd : w3.cell? (y.add k) = some (.int .i64 d) := by
        rw [← hc0]; exact ((hb3.cell (by rw [block_add]; have := hb.size; omega)).trans (hb.cell (by rw [block_add]; exact hy)))
      have hb4 := chain hb (Nat.le_refl _) hb3
      have HW := Lib.hid hr3
      have HB4 := Lib.hid hb4
      obtain ⟨g, Hg⟩ : ∃ g, Hid (wr.heap.size = g) := ⟨_, Lib.hid rfl⟩
      rw [Hg.out] at HW ⊢
      clear hc0 hc hr3 hb3 hb4 hb
      go_wp2_with fail
      by_cases hpd : p < 2 ^ d
      · have HPD := Lib.hid hpd
        clear hpd
        go_loop [12] (fun i => ∃ q : Nat, d ≤ q ∧ q ≤ 64 ∧ i = .int .i64 q) (fun i => 64 - (intOf i).toNat)
        case atStart => exact ⟨d, by omega, by omega, rfl⟩
        case round =>
          obtain ⟨q, hq1, hq2, rfl⟩ := hrel
          by_cases hlq : q < 64
          · have hcq := HW.out.cell (j := q) (by rw [bitsL_length]; exact hlq)
            rw [bit_el p q hlq, bit_none HPD.out hq1] at hcq
            go_wp2
            go_round
            case rel => exact ⟨q + 1, by omega, by omega, by go_num⟩
            case measure => simp [intOf]; omega
          · obtain rfl : q = 64 := by omega
            obtain ⟨X, HX, hX⟩ : ∃ X : Nat, Hid (jn ps l (k + 1) = X) ∧ X < 18446744073709551616 := by
              refine ⟨_, Lib.hid rfl, ?_⟩
              have h1 := jn_lt HG.out (k + 1) (by omega) (fun j hj => by
                by_cases e : j = k
                · subst e; exact HGI.out.2 HPD.out
                · exact HI.out j (by omega))
              rw [goes_rst_zero HG.out] at h1
              have h2 : jn ps l (k + 1) ≤ jn ps l (k + 1) * 2 ^ rst l (k + 1) := Nat.le_mul_of_pos_right _ (Nat.pow_pos (by decide))
              have h3 : (2 : Nat) ^ t.toNat ≤ 2 ^ 64 := Nat.pow_le_pow_right (by decide) (by omega)
              omega
            have hXe : X = m * 2 ^ d + p := by rw [← HX.out, jn, HD.out, HP.out, Int.toNat_natCast, HM.out]
            have HXE := Lib.hid hXe
            clear hXe
            go_wp2_with fail
            go_loop [9, 13] (fun x i => ∃ (q z : Nat), q ≤ d ∧ i = .int .i64 ((q : Int) - 1) ∧ x = .int .u64 z ∧ z < 18446744073709551616 ∧ Hid (z = X / 2 ^ q)) (fun _ i => (intOf i + 1).toNat)
            case atStart => exact ⟨d, m, by omega, rfl, rfl, hm, Lib.hid (by rw [HXE.out, Nat.mul_comm, Nat.mul_add_div (Nat.pow_pos (by decide)), Nat.div_eq_of_lt HPD.out]; rfl)⟩
            case round =>
              obtain ⟨q, z, hq, rfl, rfl, hz, HZ⟩ := hrel
              by_cases hq0 : 0 < q
              · obtain ⟨r, rfl⟩ : ∃ r, q = r + 1 := ⟨q - 1, by omega⟩
                have e2 : (((r + 1 : Nat) : Int) - 1) = (r : Int) := by omega
                rw [e2]
                clear e2
                have hcr := HW.out.cell (j := r) (by rw [bitsL_length]; omega)
                rw [bit_el p r (by omega)] at hcr
                obtain ⟨u, HUU, hu1⟩ : ∃ u, Hid (p / 2 ^ r % 2 = u) ∧ u ≤ 1 := ⟨_, Lib.hid rfl, by omega⟩
                rw [HUU.out] at hcr
                have hzz : X / 2 ^ r = z + z + u := by rw [div_up, ← HZ.out, HXE.out, low_bit HPD.out (by omega), HUU.out]
                have hbd : z + z + u < 18446744073709551616 := by rw [← hzz]; exact Nat.lt_of_le_of_lt (Nat.div_le_self _ _) hX
                have HZZ := Lib.hid hzz
                clear hzz
                go_wp2
                go_round
                case rel => exact ⟨r, z + z + u, by omega, rfl, by go_num, by omega, Lib.hid HZZ.out.symm⟩
                case measure => simp [intOf]
              · obtain rfl : q = 0 := by omega
                go_wp2_with fail
                go_roundw
                case rel =>
                  exact ⟨k + 1, z, by omega, by go_num, rfl, hz, Lib.hid (by rw [HZ.out, HX.out]; simp), Lib.hid (fun j hj => by
                    by_cases e : j = k
                    · subst e; exact HGI.out.2 HPD.out
                    · exact HI.out j (by omega)), HB4.out⟩
                case measure => simp [intOf]; omega
      · have hr : joinR ps t l = (0, 5) := by
          unfold joinR
          rw [if_pos ⟨HGB.out, HL.out⟩, if_neg (fun h => hpd (HGI.out.1 (h k hlt)))]
        have HR := Lib.hid hr
        have HPD := Lib.hid hpd
        clear hr hpd
        go_loop [12] (fun i => ∃ q : Nat, d ≤ q ∧ q ≤ 64 ∧ i = .int .i64 q ∧ Hid (2 ^ q ≤ p)) (fun i => 64 - (intOf i).toNat)
        case atStart => exact ⟨d, by omega, by omega, rfl, Lib.hid (by have := HPD.out; omega)⟩
        case round =>
          obtain ⟨q, hq1, hq2, rfl, HQ⟩ := hrel
          by_cases hlq : q < 64
          · have hcq := HW.out.cell (j := q) (by rw [bitsL_length]; exact hlq)
            rw [bit_el p q hlq] at hcq
            obtain ⟨v, HV, hv1⟩ : ∃ v, Hid (p / 2 ^ q % 2 = v) ∧ v ≤ 1 := ⟨_, Lib.hid rfl, by omega⟩
            rw [HV.out] at hcq
            by_cases h1 : v = 1
            · subst h1
              go_wp2
              go_ret2
              exact ⟨numOf_mk HR.out, HB4.out⟩
            · obtain rfl : v = 0 := by omega
              clear h1
              go_wp2
              go_round
              case rel => exact ⟨q + 1, by omega, by omega, by go_num, Lib.hid (bit_up HQ.out HV.out)⟩
              case measure => simp [intOf]; omega
          · obtain rfl : q = 64 := by omega
            exact absurd HQ.out (by omega)
    · obtain rfl : k = l.length := by omega
      have hr : joinR ps t l = ((m : Int), 0) := by
        unfold joinR
        rw [if_pos ⟨HGB.out, HL.out⟩, if_pos HI.out, HM.out]
      have HR := Lib.hid hr
      clear hr
      go_wp2_with fail
      go_ret2
      exact ⟨numOf_mk HR.out, hb⟩

/-- Parts joined, by the document. -/
theorem refJoin_any (t : Int) (a b : Option Addr) (ca cb : Nat) (ps l : List Int) (w : World) (hl : l.length ≤ maxLen) (ha : Rd .u64 w a ps) (hb : Rd .i64 w b l) (hu : U64s ps) :
    Calls Try.prog 17 #[.slice a ps.length ca, .int .i64 t, .slice b l.length cb] w fun e w' => e = numOf (joinR ps t l) ∧ Below w.heap.size w w' := by
  by_cases hg : goesB t l = true
  · by_cases hlen : ps.length = l.length
    · exact refJoin_ok t a b ca cb ps l w ha hb hu hg hlen
    · exact refJoin_len t a b ca cb ps l w hl hb hg hlen
  · exact refJoin_no t a b ca cb ps l w hl hb (by simpa using hg)

end Go.Proofs.Ytkalflhepnbppaa
