/- Contracts of layer 11: the document's Op. -/
import Derived.Test.YtoengahfkfmfeaaBdWa
import Derived.Test.YtoengahfkfmfeaaBdWb
import Derived.Test.YtoengahfkfmfeaaBdWc
import Derived.Test.YtoengahfkfmfeaaBdWd
import Derived.Test.YtoengahfkfmfeaaBdWe
import Derived.Test.YtoengahfkfmfeaaBdWf
import Derived.Test.YtoengahfkfmfeaaBdWg
import Derived.Test.YtoengahfkfmfeaaBdWh
import Derived.Test.YtoengahfkfmfeaaBdWi
import Derived.Test.YtoengahfkfmfeaaBdWj
set_option linter.unusedVariables false
set_option linter.unusedSimpArgs false
namespace Go.Proofs.Ytoengahfkfmfeaa
open Go.ChangeShapes Go.WideShapes Go.ChangeAt Go.RowKit

theorem opR_else {l : List UInt8} {a b : Int} (n0 : (l == [43]) = false) (n1 : (l == [42]) = false) (n2 : (l == [60, 60]) = false) (n3 : (l == [45]) = false) (n4 : (l == [47]) = false) (n5 : (l == [37]) = false) (n6 : (l == [62, 62]) = false) (n7 : (l == [38]) = false) (n8 : (l == [124]) = false) : (opR l a b).2 = 4 ∨ (opR l a b).2 = 0 := by
  unfold opR
  rw [if_neg (by rw [n0]; decide), if_neg (by rw [n3]; decide), if_neg (by rw [n1]; decide), if_neg (by rw [n4]; decide), if_neg (by rw [n5]; decide), if_neg (by rw [n2]; decide), if_neg (by rw [n6]; decide), if_neg (by rw [n7]; decide), if_neg (by rw [n8]; decide)]
  have K : ∀ {c : Prop} [Decidable c] {x y : Int × Int}, x.2 = 0 → (y.2 = 4 ∨ y.2 = 0) → (if c then x else y).2 = 4 ∨ (if c then x else y).2 = 0 := by
    intro c _ x y h1 h2
    split
    · exact .inr h1
    · exact h2
  exact K rfl (K rfl (K rfl (K rfl (K rfl (K rfl (K rfl (K rfl (.inl rfl))))))))
theorem refBop_any (s : ByteArray) (a b : Int × Int) (ha : WR a) (hb : WR b) (w : World) :
    Calls Try.prog 10 #[.string s, .agg #[.int .u64 a.1, .int .u64 a.2], .agg #[.int .u64 b.1, .int .u64 b.2]] w fun e w' => e = optE (opB s.toList a b) ∧ Below w.heap.size w w' := by
  by_cases hv : a.1 ≤ a.2
  · by_cases hu : b.1 ≤ b.2
    · by_cases hp : a.1 = a.2
      · by_cases hq : b.1 = b.2
        · by_cases he : (opR s.toList a.1 b.1).2 = 0
          · exact refOp_pt_ok s a b ha hb ⟨hp, hq⟩ he w
          · exact refOp_pt_no s a b ha hb ⟨hp, hq⟩ he w
        · cases n0 : (s.toList == [43]) with
          | true =>
            by_cases he : (opR s.toList a.1 b.1).2 = 0
            · by_cases hf : (opR s.toList a.2 b.2).2 = 0
              · exact refOp_add_okB s a b ha hb hv hu n0 hp hq he hf w
              · exact refOp_add_upB s a b ha hb hv hu n0 hp hq he hf w
            · exact refOp_add_noB s a b ha hb hv hu n0 hp hq he w
          | false =>
          cases n1 : (s.toList == [42]) with
          | true =>
            by_cases he : (opR s.toList a.1 b.1).2 = 0
            · by_cases hf : (opR s.toList a.2 b.2).2 = 0
              · exact refOp_mul_okB s a b ha hb hv hu n0 n1 hp hq he hf w
              · exact refOp_mul_upB s a b ha hb hv hu n0 n1 hp hq he hf w
            · exact refOp_mul_noB s a b ha hb hv hu n0 n1 hp hq he w
          | false =>
          cases n2 : (s.toList == [60, 60]) with
          | true =>
            by_cases he : (opR s.toList a.1 b.1).2 = 0
            · by_cases hf : (opR s.toList a.2 b.2).2 = 0
              · exact refOp_shl_okB s a b ha hb hv hu n0 n1 n2 hp hq he hf w
              · exact refOp_shl_upB s a b ha hb hv hu n0 n1 n2 hp hq he hf w
            · exact refOp_shl_noB s a b ha hb hv hu n0 n1 n2 hp hq he w
          | false =>
          cases n3 : (s.toList == [45]) with
          | true =>
            by_cases h : a.2 < b.1
            · exact refOp_sub_noB s a b ha hb hv hu n0 n1 n2 n3 hp hq h w
            · by_cases g : b.2 < a.1
              · exact refOp_sub_loB s a b ha hb hv hu n0 n1 n2 n3 hp hq h g w
              · exact refOp_sub_zrB s a b ha hb hv hu n0 n1 n2 n3 hp hq h g w
          | false =>
          cases n4 : (s.toList == [47]) with
          | true =>
            by_cases h : b.2 = 0
            · exact refOp_div_noB s a b ha hb hv hu n0 n1 n2 n3 n4 hp hq h w
            · exact refOp_div_okB s a b ha hb hv hu n0 n1 n2 n3 n4 hp hq h w
          | false =>
          cases n5 : (s.toList == [37]) with
          | true =>
            by_cases h : b.2 = 0
            · exact refOp_mod_noB s a b ha hb hv hu n0 n1 n2 n3 n4 n5 hp hq h w
            · exact refOp_mod_okB s a b ha hb hv hu n0 n1 n2 n3 n4 n5 hp hq h w
          | false =>
          cases n6 : (s.toList == [62, 62]) with
          | true =>
            by_cases h : 63 < b.1
            · exact refOp_shr_noB s a b ha hb hv hu n0 n1 n2 n3 n4 n5 n6 hp hq h w
            · exact refOp_shr_okB s a b ha hb hv hu n0 n1 n2 n3 n4 n5 n6 hp hq h w
          | false =>
          cases n7 : (s.toList == [38]) with
          | true =>
            exact refOp_andB s a b ha hb hv hu n0 n1 n2 n3 n4 n5 n6 n7 hp hq w
          | false =>
          cases n8 : (s.toList == [124]) with
          | true =>
            exact refOp_orB s a b ha hb hv hu n0 n1 n2 n3 n4 n5 n6 n7 n8 hp hq w
          | false =>
          rcases opR_else (a := a.1) (b := b.1) n0 n1 n2 n3 n4 n5 n6 n7 n8 with he | he
          · exact refOp_else_noB s a b ha hb hv hu n0 n1 n2 n3 n4 n5 n6 n7 n8 hp hq he w
          · exact refOp_else_okB s a b ha hb hv hu n0 n1 n2 n3 n4 n5 n6 n7 n8 hp hq he w
      · cases n0 : (s.toList == [43]) with
        | true =>
          by_cases he : (opR s.toList a.1 b.1).2 = 0
          · by_cases hf : (opR s.toList a.2 b.2).2 = 0
            · exact refOp_add_okA s a b ha hb hv hu n0 hp he hf w
            · exact refOp_add_upA s a b ha hb hv hu n0 hp he hf w
          · exact refOp_add_noA s a b ha hb hv hu n0 hp he w
        | false =>
        cases n1 : (s.toList == [42]) with
        | true =>
          by_cases he : (opR s.toList a.1 b.1).2 = 0
          · by_cases hf : (opR s.toList a.2 b.2).2 = 0
            · exact refOp_mul_okA s a b ha hb hv hu n0 n1 hp he hf w
            · exact refOp_mul_upA s a b ha hb hv hu n0 n1 hp he hf w
          · exact refOp_mul_noA s a b ha hb hv hu n0 n1 hp he w
        | false =>
        cases n2 : (s.toList == [60, 60]) with
        | true =>
          by_cases he : (opR s.toList a.1 b.1).2 = 0
          · by_cases hf : (opR s.toList a.2 b.2).2 = 0
            · exact refOp_shl_okA s a b ha hb hv hu n0 n1 n2 hp he hf w
            · exact refOp_shl_upA s a b ha hb hv hu n0 n1 n2 hp he hf w
          · exact refOp_shl_noA s a b ha hb hv hu n0 n1 n2 hp he w
        | false =>
        cases n3 : (s.toList == [45]) with
        | true =>
          by_cases h : a.2 < b.1
          · exact refOp_sub_noA s a b ha hb hv hu n0 n1 n2 n3 hp h w
          · by_cases g : b.2 < a.1
            · exact refOp_sub_loA s a b ha hb hv hu n0 n1 n2 n3 hp h g w
            · exact refOp_sub_zrA s a b ha hb hv hu n0 n1 n2 n3 hp h g w
        | false =>
        cases n4 : (s.toList == [47]) with
        | true =>
          by_cases h : b.2 = 0
          · exact refOp_div_noA s a b ha hb hv hu n0 n1 n2 n3 n4 hp h w
          · exact refOp_div_okA s a b ha hb hv hu n0 n1 n2 n3 n4 hp h w
        | false =>
        cases n5 : (s.toList == [37]) with
        | true =>
          by_cases h : b.2 = 0
          · exact refOp_mod_noA s a b ha hb hv hu n0 n1 n2 n3 n4 n5 hp h w
          · exact refOp_mod_okA s a b ha hb hv hu n0 n1 n2 n3 n4 n5 hp h w
        | false =>
        cases n6 : (s.toList == [62, 62]) with
        | true =>
          by_cases h : 63 < b.1
          · exact refOp_shr_noA s a b ha hb hv hu n0 n1 n2 n3 n4 n5 n6 hp h w
          · exact refOp_shr_okA s a b ha hb hv hu n0 n1 n2 n3 n4 n5 n6 hp h w
        | false =>
        cases n7 : (s.toList == [38]) with
        | true =>
          exact refOp_andA s a b ha hb hv hu n0 n1 n2 n3 n4 n5 n6 n7 hp w
        | false =>
        cases n8 : (s.toList == [124]) with
        | true =>
          exact refOp_orA s a b ha hb hv hu n0 n1 n2 n3 n4 n5 n6 n7 n8 hp w
        | false =>
        rcases opR_else (a := a.1) (b := b.1) n0 n1 n2 n3 n4 n5 n6 n7 n8 with he | he
        · exact refOp_else_noA s a b ha hb hv hu n0 n1 n2 n3 n4 n5 n6 n7 n8 hp he w
        · exact refOp_else_okA s a b ha hb hv hu n0 n1 n2 n3 n4 n5 n6 n7 n8 hp he w
    · exact refOp_bad2 s a b ha hb hv hu w
  · exact refOp_bad1 s a b ha hb hv w
end Go.Proofs.Ytoengahfkfmfeaa
