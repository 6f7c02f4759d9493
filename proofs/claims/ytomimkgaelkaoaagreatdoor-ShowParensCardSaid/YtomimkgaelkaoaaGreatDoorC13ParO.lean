/- Layer 7: the program's parser: the words and signs that it asks for. · Layer 7: the program's parser: blocks of the methods' own; indices and arguments. · Layer 7: the program's parser: subs, constants. · Layer 7: the program's parser: arguments. -/
import Derived.Test.YtomimkgaelkaoaaGreatDoorC13ParF
set_option linter.unusedVariables false
set_option linter.unusedSimpArgs false
namespace Go.Proofs.YtomimkgaelkaoaaGreatDoor
open Go.Lib (hid)
open Go.ChangeShapes Go.WideShapes Go.ChangeAt Go.RowKit
section
variable {X : Nat → Prop} {g b : Nat} {l : List Tok} {d : Nat} {f : FM}
theorem need_sLp (w : World) (h : PInv X g b w l d f) : Calls Tryz.prog 122 #[.pointer (some ⟨g, 0, none⟩), .string ⟨#[40]⟩] w (PostP X g (b - 3) w d (need sLp l) (fun _ => .tuple #[]) fun _ => f) := need_any sLp (by decide) w h
theorem need_sRp (w : World) (h : PInv X g b w l d f) : Calls Tryz.prog 122 #[.pointer (some ⟨g, 0, none⟩), .string ⟨#[41]⟩] w (PostP X g (b - 3) w d (need sRp l) (fun _ => .tuple #[]) fun _ => f) := need_any sRp (by decide) w h
theorem need_sLb (w : World) (h : PInv X g b w l d f) : Calls Tryz.prog 122 #[.pointer (some ⟨g, 0, none⟩), .string ⟨#[91]⟩] w (PostP X g (b - 3) w d (need sLb l) (fun _ => .tuple #[]) fun _ => f) := need_any sLb (by decide) w h
theorem need_sRb (w : World) (h : PInv X g b w l d f) : Calls Tryz.prog 122 #[.pointer (some ⟨g, 0, none⟩), .string ⟨#[93]⟩] w (PostP X g (b - 3) w d (need sRb l) (fun _ => .tuple #[]) fun _ => f) := need_any sRb (by decide) w h
theorem need_sLc (w : World) (h : PInv X g b w l d f) : Calls Tryz.prog 122 #[.pointer (some ⟨g, 0, none⟩), .string ⟨#[123]⟩] w (PostP X g (b - 3) w d (need sLc l) (fun _ => .tuple #[]) fun _ => f) := need_any sLc (by decide) w h
theorem need_sColon (w : World) (h : PInv X g b w l d f) : Calls Tryz.prog 122 #[.pointer (some ⟨g, 0, none⟩), .string ⟨#[58]⟩] w (PostP X g (b - 3) w d (need sColon l) (fun _ => .tuple #[]) fun _ => f) := need_any sColon (by decide) w h
theorem need_sSemi (w : World) (h : PInv X g b w l d f) : Calls Tryz.prog 122 #[.pointer (some ⟨g, 0, none⟩), .string ⟨#[59]⟩] w (PostP X g (b - 3) w d (need sSemi l) (fun _ => .tuple #[]) fun _ => f) := need_any sSemi (by decide) w h
theorem need_sEq (w : World) (h : PInv X g b w l d f) : Calls Tryz.prog 122 #[.pointer (some ⟨g, 0, none⟩), .string ⟨#[61]⟩] w (PostP X g (b - 3) w d (need sEq l) (fun _ => .tuple #[]) fun _ => f) := need_any sEq (by decide) w h
theorem need_sDots (w : World) (h : PInv X g b w l d f) : Calls Tryz.prog 122 #[.pointer (some ⟨g, 0, none⟩), .string ⟨#[46, 46]⟩] w (PostP X g (b - 3) w d (need sDots l) (fun _ => .tuple #[]) fun _ => f) := need_any sDots (by decide) w h
theorem need_kConst (w : World) (h : PInv X g b w l d f) : Calls Tryz.prog 122 #[.pointer (some ⟨g, 0, none⟩), .string ⟨#[99, 111, 110, 115, 116]⟩] w (PostP X g (b - 3) w d (need kConst l) (fun _ => .tuple #[]) fun _ => f) := need_any kConst (by decide) w h
theorem need_kStruct (w : World) (h : PInv X g b w l d f) : Calls Tryz.prog 122 #[.pointer (some ⟨g, 0, none⟩), .string ⟨#[115, 116, 114, 117, 99, 116]⟩] w (PostP X g (b - 3) w d (need kStruct l) (fun _ => .tuple #[]) fun _ => f) := need_any kStruct (by decide) w h
theorem takeY_sLp (w : World) (h : PInv X g b w l d f) (ht : isT sLp l = true) : Calls Tryz.prog 125 #[.pointer (some ⟨g, 0, none⟩), .string ⟨#[40]⟩] w fun e' w' => e' = .returned (.bool true) ∧ PInv X g (b - 3) w' l.tail d f ∧ St layP g w w' := take_yes sLp w h ht (by decide)
theorem takeN_sLp (w : World) (h : PInv X g b w l d f) (ht : isT sLp l = false) : Calls Tryz.prog 125 #[.pointer (some ⟨g, 0, none⟩), .string ⟨#[40]⟩] w fun e' w' => e' = .returned (.bool false) ∧ w = w' := take_no sLp w h ht
theorem takeY_sComma (w : World) (h : PInv X g b w l d f) (ht : isT sComma l = true) : Calls Tryz.prog 125 #[.pointer (some ⟨g, 0, none⟩), .string ⟨#[44]⟩] w fun e' w' => e' = .returned (.bool true) ∧ PInv X g (b - 3) w' l.tail d f ∧ St layP g w w' := take_yes sComma w h ht (by decide)
theorem takeN_sComma (w : World) (h : PInv X g b w l d f) (ht : isT sComma l = false) : Calls Tryz.prog 125 #[.pointer (some ⟨g, 0, none⟩), .string ⟨#[44]⟩] w fun e' w' => e' = .returned (.bool false) ∧ w = w' := take_no sComma w h ht
theorem takeY_sRc (w : World) (h : PInv X g b w l d f) (ht : isT sRc l = true) : Calls Tryz.prog 125 #[.pointer (some ⟨g, 0, none⟩), .string ⟨#[125]⟩] w fun e' w' => e' = .returned (.bool true) ∧ PInv X g (b - 3) w' l.tail d f ∧ St layP g w w' := take_yes sRc w h ht (by decide)
theorem takeN_sRc (w : World) (h : PInv X g b w l d f) (ht : isT sRc l = false) : Calls Tryz.prog 125 #[.pointer (some ⟨g, 0, none⟩), .string ⟨#[125]⟩] w fun e' w' => e' = .returned (.bool false) ∧ w = w' := take_no sRc w h ht
theorem takeY_sEq (w : World) (h : PInv X g b w l d f) (ht : isT sEq l = true) : Calls Tryz.prog 125 #[.pointer (some ⟨g, 0, none⟩), .string ⟨#[61]⟩] w fun e' w' => e' = .returned (.bool true) ∧ PInv X g (b - 3) w' l.tail d f ∧ St layP g w w' := take_yes sEq w h ht (by decide)
theorem takeN_sEq (w : World) (h : PInv X g b w l d f) (ht : isT sEq l = false) : Calls Tryz.prog 125 #[.pointer (some ⟨g, 0, none⟩), .string ⟨#[61]⟩] w fun e' w' => e' = .returned (.bool false) ∧ w = w' := take_no sEq w h ht
theorem takeY_kWhere (w : World) (h : PInv X g b w l d f) (ht : isT kWhere l = true) : Calls Tryz.prog 125 #[.pointer (some ⟨g, 0, none⟩), .string ⟨#[119, 104, 101, 114, 101]⟩] w fun e' w' => e' = .returned (.bool true) ∧ PInv X g (b - 3) w' l.tail d f ∧ St layP g w w' := take_yes kWhere w h ht (by decide)
theorem takeN_kWhere (w : World) (h : PInv X g b w l d f) (ht : isT kWhere l = false) : Calls Tryz.prog 125 #[.pointer (some ⟨g, 0, none⟩), .string ⟨#[119, 104, 101, 114, 101]⟩] w fun e' w' => e' = .returned (.bool false) ∧ w = w' := take_no kWhere w h ht
theorem takeY_kPack (w : World) (h : PInv X g b w l d f) (ht : isT kPack l = true) : Calls Tryz.prog 125 #[.pointer (some ⟨g, 0, none⟩), .string ⟨#[112, 97, 99, 107]⟩] w fun e' w' => e' = .returned (.bool true) ∧ PInv X g (b - 3) w' l.tail d f ∧ St layP g w w' := take_yes kPack w h ht (by decide)
theorem takeN_kPack (w : World) (h : PInv X g b w l d f) (ht : isT kPack l = false) : Calls Tryz.prog 125 #[.pointer (some ⟨g, 0, none⟩), .string ⟨#[112, 97, 99, 107]⟩] w fun e' w' => e' = .returned (.bool false) ∧ w = w' := take_no kPack w h ht
theorem takeY_kSizeof (w : World) (h : PInv X g b w l d f) (ht : isT kSizeof l = true) : Calls Tryz.prog 125 #[.pointer (some ⟨g, 0, none⟩), .string ⟨#[115, 105, 122, 101, 111, 102]⟩] w fun e' w' => e' = .returned (.bool true) ∧ PInv X g (b - 3) w' l.tail d f ∧ St layP g w w' := take_yes kSizeof w h ht (by decide)
theorem takeN_kSizeof (w : World) (h : PInv X g b w l d f) (ht : isT kSizeof l = false) : Calls Tryz.prog 125 #[.pointer (some ⟨g, 0, none⟩), .string ⟨#[115, 105, 122, 101, 111, 102]⟩] w fun e' w' => e' = .returned (.bool false) ∧ w = w' := take_no kSizeof w h ht
theorem takeY_kCountof (w : World) (h : PInv X g b w l d f) (ht : isT kCountof l = true) : Calls Tryz.prog 125 #[.pointer (some ⟨g, 0, none⟩), .string ⟨#[99, 111, 117, 110, 116, 111, 102]⟩] w fun e' w' => e' = .returned (.bool true) ∧ PInv X g (b - 3) w' l.tail d f ∧ St layP g w w' := take_yes kCountof w h ht (by decide)
theorem takeN_kCountof (w : World) (h : PInv X g b w l d f) (ht : isT kCountof l = false) : Calls Tryz.prog 125 #[.pointer (some ⟨g, 0, none⟩), .string ⟨#[99, 111, 117, 110, 116, 111, 102]⟩] w fun e' w' => e' = .returned (.bool false) ∧ w = w' := take_no kCountof w h ht
theorem takeY_kCrc32 (w : World) (h : PInv X g b w l d f) (ht : isT kCrc32 l = true) : Calls Tryz.prog 125 #[.pointer (some ⟨g, 0, none⟩), .string ⟨#[99, 114, 99, 51, 50]⟩] w fun e' w' => e' = .returned (.bool true) ∧ PInv X g (b - 3) w' l.tail d f ∧ St layP g w w' := take_yes kCrc32 w h ht (by decide)
theorem takeN_kCrc32 (w : World) (h : PInv X g b w l d f) (ht : isT kCrc32 l = false) : Calls Tryz.prog 125 #[.pointer (some ⟨g, 0, none⟩), .string ⟨#[99, 114, 99, 51, 50]⟩] w fun e' w' => e' = .returned (.bool false) ∧ w = w' := take_no kCrc32 w h ht
theorem takeY_kAdler32 (w : World) (h : PInv X g b w l d f) (ht : isT kAdler32 l = true) : Calls Tryz.prog 125 #[.pointer (some ⟨g, 0, none⟩), .string ⟨#[97, 100, 108, 101, 114, 51, 50]⟩] w fun e' w' => e' = .returned (.bool true) ∧ PInv X g (b - 3) w' l.tail d f ∧ St layP g w w' := take_yes kAdler32 w h ht (by decide)
theorem takeN_kAdler32 (w : World) (h : PInv X g b w l d f) (ht : isT kAdler32 l = false) : Calls Tryz.prog 125 #[.pointer (some ⟨g, 0, none⟩), .string ⟨#[97, 100, 108, 101, 114, 51, 50]⟩] w fun e' w' => e' = .returned (.bool false) ∧ w = w' := take_no kAdler32 w h ht
theorem takeY_kBytes (w : World) (h : PInv X g b w l d f) (ht : isT kBytes l = true) : Calls Tryz.prog 125 #[.pointer (some ⟨g, 0, none⟩), .string ⟨#[98, 121, 116, 101, 115]⟩] w fun e' w' => e' = .returned (.bool true) ∧ PInv X g (b - 3) w' l.tail d f ∧ St layP g w w' := take_yes kBytes w h ht (by decide)
theorem takeN_kBytes (w : World) (h : PInv X g b w l d f) (ht : isT kBytes l = false) : Calls Tryz.prog 125 #[.pointer (some ⟨g, 0, none⟩), .string ⟨#[98, 121, 116, 101, 115]⟩] w fun e' w' => e' = .returned (.bool false) ∧ w = w' := take_no kBytes w h ht
theorem takeY_kZero (w : World) (h : PInv X g b w l d f) (ht : isT kZero l = true) : Calls Tryz.prog 125 #[.pointer (some ⟨g, 0, none⟩), .string ⟨#[122, 101, 114, 111]⟩] w fun e' w' => e' = .returned (.bool true) ∧ PInv X g (b - 3) w' l.tail d f ∧ St layP g w w' := take_yes kZero w h ht (by decide)
theorem takeN_kZero (w : World) (h : PInv X g b w l d f) (ht : isT kZero l = false) : Calls Tryz.prog 125 #[.pointer (some ⟨g, 0, none⟩), .string ⟨#[122, 101, 114, 111]⟩] w fun e' w' => e' = .returned (.bool false) ∧ w = w' := take_no kZero w h ht
theorem takeY_kSkip (w : World) (h : PInv X g b w l d f) (ht : isT kSkip l = true) : Calls Tryz.prog 125 #[.pointer (some ⟨g, 0, none⟩), .string ⟨#[115, 107, 105, 112]⟩] w fun e' w' => e' = .returned (.bool true) ∧ PInv X g (b - 3) w' l.tail d f ∧ St layP g w w' := take_yes kSkip w h ht (by decide)
theorem takeN_kSkip (w : World) (h : PInv X g b w l d f) (ht : isT kSkip l = false) : Calls Tryz.prog 125 #[.pointer (some ⟨g, 0, none⟩), .string ⟨#[115, 107, 105, 112]⟩] w fun e' w' => e' = .returned (.bool false) ∧ w = w' := take_no kSkip w h ht
theorem takeY_kWindow (w : World) (h : PInv X g b w l d f) (ht : isT kWindow l = true) : Calls Tryz.prog 125 #[.pointer (some ⟨g, 0, none⟩), .string ⟨#[119, 105, 110, 100, 111, 119]⟩] w fun e' w' => e' = .returned (.bool true) ∧ PInv X g (b - 3) w' l.tail d f ∧ St layP g w w' := take_yes kWindow w h ht (by decide)
theorem takeN_kWindow (w : World) (h : PInv X g b w l d f) (ht : isT kWindow l = false) : Calls Tryz.prog 125 #[.pointer (some ⟨g, 0, none⟩), .string ⟨#[119, 105, 110, 100, 111, 119]⟩] w fun e' w' => e' = .returned (.bool false) ∧ w = w' := take_no kWindow w h ht
theorem takeY_kAt (w : World) (h : PInv X g b w l d f) (ht : isT kAt l = true) : Calls Tryz.prog 125 #[.pointer (some ⟨g, 0, none⟩), .string ⟨#[97, 116]⟩] w fun e' w' => e' = .returned (.bool true) ∧ PInv X g (b - 3) w' l.tail d f ∧ St layP g w w' := take_yes kAt w h ht (by decide)
theorem takeN_kAt (w : World) (h : PInv X g b w l d f) (ht : isT kAt l = false) : Calls Tryz.prog 125 #[.pointer (some ⟨g, 0, none⟩), .string ⟨#[97, 116]⟩] w fun e' w' => e' = .returned (.bool false) ∧ w = w' := take_no kAt w h ht
theorem takeY_kRest (w : World) (h : PInv X g b w l d f) (ht : isT kRest l = true) : Calls Tryz.prog 125 #[.pointer (some ⟨g, 0, none⟩), .string ⟨#[114, 101, 115, 116]⟩] w fun e' w' => e' = .returned (.bool true) ∧ PInv X g (b - 3) w' l.tail d f ∧ St layP g w w' := take_yes kRest w h ht (by decide)
theorem takeN_kRest (w : World) (h : PInv X g b w l d f) (ht : isT kRest l = false) : Calls Tryz.prog 125 #[.pointer (some ⟨g, 0, none⟩), .string ⟨#[114, 101, 115, 116]⟩] w fun e' w' => e' = .returned (.bool false) ∧ w = w' := take_no kRest w h ht
theorem takeY_kTail (w : World) (h : PInv X g b w l d f) (ht : isT kTail l = true) : Calls Tryz.prog 125 #[.pointer (some ⟨g, 0, none⟩), .string ⟨#[116, 97, 105, 108]⟩] w fun e' w' => e' = .returned (.bool true) ∧ PInv X g (b - 3) w' l.tail d f ∧ St layP g w w' := take_yes kTail w h ht (by decide)
theorem takeN_kTail (w : World) (h : PInv X g b w l d f) (ht : isT kTail l = false) : Calls Tryz.prog 125 #[.pointer (some ⟨g, 0, none⟩), .string ⟨#[116, 97, 105, 108]⟩] w fun e' w' => e' = .returned (.bool false) ∧ w = w' := take_no kTail w h ht
theorem takeY_kNone (w : World) (h : PInv X g b w l d f) (ht : isT kNone l = true) : Calls Tryz.prog 125 #[.pointer (some ⟨g, 0, none⟩), .string ⟨#[110, 111, 110, 101]⟩] w fun e' w' => e' = .returned (.bool true) ∧ PInv X g (b - 3) w' l.tail d f ∧ St layP g w w' := take_yes kNone w h ht (by decide)
theorem takeN_kNone (w : World) (h : PInv X g b w l d f) (ht : isT kNone l = false) : Calls Tryz.prog 125 #[.pointer (some ⟨g, 0, none⟩), .string ⟨#[110, 111, 110, 101]⟩] w fun e' w' => e' = .returned (.bool false) ∧ w = w' := take_no kNone w h ht
theorem takeY_kSwitch (w : World) (h : PInv X g b w l d f) (ht : isT kSwitch l = true) : Calls Tryz.prog 125 #[.pointer (some ⟨g, 0, none⟩), .string ⟨#[115, 119, 105, 116, 99, 104]⟩] w fun e' w' => e' = .returned (.bool true) ∧ PInv X g (b - 3) w' l.tail d f ∧ St layP g w w' := take_yes kSwitch w h ht (by decide)
theorem takeN_kSwitch (w : World) (h : PInv X g b w l d f) (ht : isT kSwitch l = false) : Calls Tryz.prog 125 #[.pointer (some ⟨g, 0, none⟩), .string ⟨#[115, 119, 105, 116, 99, 104]⟩] w fun e' w' => e' = .returned (.bool false) ∧ w = w' := take_no kSwitch w h ht
theorem takeY_kElse (w : World) (h : PInv X g b w l d f) (ht : isT kElse l = true) : Calls Tryz.prog 125 #[.pointer (some ⟨g, 0, none⟩), .string ⟨#[101, 108, 115, 101]⟩] w fun e' w' => e' = .returned (.bool true) ∧ PInv X g (b - 3) w' l.tail d f ∧ St layP g w w' := take_yes kElse w h ht (by decide)
theorem takeN_kElse (w : World) (h : PInv X g b w l d f) (ht : isT kElse l = false) : Calls Tryz.prog 125 #[.pointer (some ⟨g, 0, none⟩), .string ⟨#[101, 108, 115, 101]⟩] w fun e' w' => e' = .returned (.bool false) ∧ w = w' := take_no kElse w h ht
theorem at_kCase (w : World) (h : PInv X g b w l d f) {q : Bool} (ht : isT kCase l = q) : Calls Tryz.prog 75 #[.pointer (some ⟨g, 0, none⟩), .string ⟨#[99, 97, 115, 101]⟩] w fun e' w' => e' = .returned (.bool q) ∧ w = w' := by subst ht; exact atText_any kCase w h
theorem at_kConst (w : World) (h : PInv X g b w l d f) {q : Bool} (ht : isT kConst l = q) : Calls Tryz.prog 75 #[.pointer (some ⟨g, 0, none⟩), .string ⟨#[99, 111, 110, 115, 116]⟩] w fun e' w' => e' = .returned (.bool q) ∧ w = w' := by subst ht; exact atText_any kConst w h
theorem at_kStruct (w : World) (h : PInv X g b w l d f) {q : Bool} (ht : isT kStruct l = q) : Calls Tryz.prog 75 #[.pointer (some ⟨g, 0, none⟩), .string ⟨#[115, 116, 114, 117, 99, 116]⟩] w fun e' w' => e' = .returned (.bool q) ∧ w = w' := by subst ht; exact atText_any kStruct w h
theorem at_kPack (w : World) (h : PInv X g b w l d f) {q : Bool} (ht : isT kPack l = q) : Calls Tryz.prog 75 #[.pointer (some ⟨g, 0, none⟩), .string ⟨#[112, 97, 99, 107]⟩] w fun e' w' => e' = .returned (.bool q) ∧ w = w' := by subst ht; exact atText_any kPack w h
theorem at_sLb (w : World) (h : PInv X g b w l d f) {q : Bool} (ht : isT sLb l = q) : Calls Tryz.prog 75 #[.pointer (some ⟨g, 0, none⟩), .string ⟨#[91]⟩] w fun e' w' => e' = .returned (.bool q) ∧ w = w' := by subst ht; exact atText_any sLb w h
end
end Go.Proofs.YtomimkgaelkaoaaGreatDoor
namespace Go.Proofs.YtomimkgaelkaoaaGreatDoor
open Go.Lib (hid)
open Go.ChangeShapes Go.WideShapes Go.ChangeAt Go.RowKit
def wth (X : Nat → Prop) (k : Nat) : Nat → Prop := fun i => X i ∨ i = k
def wthV (X : Nat → Prop) (v : Value) : Nat → Prop := fun i => X i ∨ v.ownBlock = some i
section
variable {X X' : Nat → Prop} {g b : Nat} {w w' : World} {l : List Tok} {d : Nat} {f : FM}
theorem PInv.move (h : PInv X g b w l d f) (hrow : ∀ k, k < w.heap.size → ¬ Out layP g w k → w'.heap[k]? = w.heap[k]?) (hs : Stay (Pub X layP g w) (Pub X' layP g w') w w') (hp : ∀ k, X' k → Out layP g w' k) : PInv X' g b w' l d f := by
 obtain ⟨a, c, vc, vs, vx, vt, hh, h1, h2, h3, h4⟩ := h.mem
 have hg := h.lt
 have row : ∀ (j : Nat) (v : Value), j ∈ layP.J → #[Value.slice a l.length c, vc, vs, vx, vt, .int .i64 (d : Int)][j]? = some v → ∀ k, v.ownBlock = some k → k < w.heap.size → w'.heap[k]? = w.heap[k]? := fun j v hj hv k hk hl =>
  hrow k hl fun ho => ho.row j hj v (by rw [cell_of_row _ _ _ _ _ (0, 0) hh]; exact hv) hk
 exact ⟨h.wf, h.env.stay hs, ⟨a, c, vc, vs, vx, vt, (hrow g hg fun ho => ho.ne rfl).trans hh, h1, h2, h3.stay hs,
  ⟨h4.c.stay Crep.kept hs fun k hk => row 1 _ (by decide) rfl k hk (h4.c.lt k hk), h4.s.stay (Srep.kept _) hs fun k hk => row 2 _ (by decide) rfl k hk (h4.s.lt k hk), h4.x.stay Xrep.kept hs fun k hk => row 3 _ (by decide) rfl k hk (h4.x.lt k hk), h4.t.stay (Trep.kept _) hs fun k hk => row 4 _ (by decide) rfl k hk (h4.t.lt k hk)⟩⟩, h.dep, h.pot, h.top, h.lc, h.ls, hp⟩
theorem Out.of {k : Nat} (h : Out layP g w k) (hs : w.heap.size ≤ w'.heap.size) (hg : w'.heap[g]? = w.heap[g]?) : Out layP g w' k :=
 ⟨Nat.lt_of_lt_of_le h.lt hs, h.ne, fun j hj v hv => h.row j hj v (by rw [← World.cell?_of_block (a := ⟨g, j, none⟩) hg]; exact hv)⟩
theorem PInv.local (h : PInv X g b w l d f) {k : Nat} (hk : X k) (o : Nat) (u : Value) : PInv X g b (w.setCell ⟨k, o, none⟩ u) l d f := by
 have ho := h.priv k hk
 have hg : (w.setCell ⟨k, o, none⟩ u).heap[g]? = w.heap[g]? := Below.heap_setCell _ _ _ _ fun e => ho.ne e.symm
 have hz : w.heap.size ≤ (w.setCell ⟨k, o, none⟩ u).heap.size := by simp [World.setCell]
 refine h.move (fun i _ hi => Below.heap_setCell _ _ _ _ fun e => hi (by rw [show i = k from e]; exact ho)) (fun i hi => ⟨Below.heap_setCell _ _ _ _ fun e => hi.2 (by rw [show i = k from e]; exact hk), hi.1.of hz hg, hi.2⟩) fun i hi => (h.priv i hi).of hz hg
theorem PInv.hide (h : PInv X g b w l d f) (o : Obj) : PInv (wth X w.heap.size) g b (w.alloc o) l d f := by
 have hb := below_box w o
 have hg : (w.alloc o).heap[g]? = w.heap[g]? := hb.block g h.lt
 refine h.move (fun i hi _ => hb.block i hi) (fun i hi => ⟨hb.block i hi.1.lt, hi.1.of hb.size hg, fun e => e.elim hi.2 fun e => by have := hi.1.lt; omega⟩) fun i hi => hi.elim (fun e => (h.priv i e).of hb.size hg) fun e => by rw [e]; exact h.fresh o
theorem PInv.weak (h : PInv X g b w l d f) (hX : ∀ k, X' k → X k) : PInv X' g b w l d f :=
 h.move (fun _ _ _ => rfl) (fun i hi => ⟨rfl, hi.1, fun e => hi.2 (hX i e)⟩) fun i hi => h.priv i (hX i hi)
theorem PInv.bare {k : Nat} (h : PInv (wth X k) g b w l d f) : PInv X g b w l d f := h.weak fun _ e => .inl e
theorem PInv.bareV {v : Value} (h : PInv (wthV X v) g b w l d f) : PInv X g b w l d f := h.weak fun _ e => .inl e
theorem PInv.nilV (h : PInv X g b w l d f) (n c : Nat) : PInv (wthV X (.slice none n c)) g b w l d f := h.weak fun _ e => e.elim id fun e => by cases e
theorem PInv.toV {k o n c : Nat} (h : PInv (wth X k) g b w l d f) : PInv (wthV X (.slice (some ⟨k, o, none⟩) n c)) g b w l d f := h.weak fun _ e => e.imp id fun e => by simp only [Value.ownBlock, Option.some.injEq] at e; exact e.symm
theorem PInv.grow {v v' : Value} (h : PInv (wthV X v) g b w l d f) (hgrow : w.grownBy w' v.ownBlock) (hat : v'.ownBlock = v.ownBlock ∨ v'.ownBlock = some w.heap.size) (hlt : ∀ k, v'.ownBlock = some k → k < w'.heap.size) : PInv (wthV X v') g b w' l d f := by
 have hv : ∀ k, v.ownBlock = some k → Out layP g w k := fun k hk => h.priv k (.inr hk)
 have hg : w'.heap[g]? = w.heap[g]? := hgrow.block g h.lt fun e => (hv g e.symm).ne rfl
 have fresh : Out layP g (w.alloc (.cells #[] 0)) w.heap.size := h.fresh _
 refine h.move (fun i hi ho => hgrow.block i hi fun e => ho (hv i e.symm)) (fun i hi => ⟨hgrow.block i hi.1.lt fun e => hi.2 (.inr e.symm), hi.1.of hgrow.size hg, fun e => e.elim (fun e => hi.2 (.inl e)) fun e => ?_⟩) fun i hi => hi.elim (fun e => (h.priv i (.inl e)).of hgrow.size hg) fun e => ?_
 ·rcases hat with hat | hat
  ·rw [hat] at e; exact hi.2 (.inr e)
  ·rw [hat, Option.some.injEq] at e; have := hi.1.lt; omega
 ·rcases hat with hat | hat
  ·rw [hat] at e; exact (hv i e).of hgrow.size hg
  ·have hl := hlt i e
   rw [hat, Option.some.injEq] at e
   subst e
   refine ⟨hl, fresh.ne, fun j hj u hu => fresh.row j hj u ?_⟩
   rw [(below_box w _).cell (p := ⟨g, j, none⟩) h.lt, ← hu]
   exact (World.cell?_of_block (a := ⟨g, j, none⟩) hg).symm
theorem PInv.own {k : Nat} (h : PInv X g b w l d f) (hk : X k) (hS : St layP g w w') : w'.heap[k]? = w.heap[k]? := (hS.stay k (h.priv k hk)).1
end
def PostV {α : Type} (X : Nat → Prop) (g b : Nat) (w : World) (d : Nat) (r : PR α) (Rel : α → Value → World → Prop) (F : α → FM) (e : Ending) (w' : World) : Prop :=
 (match r with | .ok a l => ∃ v, e = .returned v ∧ Rel a v w' ∧ PInv X g b w' l d (F a) | .bad l x => e = .panicked (flt l x)) ∧ St layP g w w'
theorem need_len {t : List UInt8} {l l' : List Tok} {u : Unit} (ht : t ≠ []) (hw : WF l) (h : need t l = .ok u l') : l'.length < l.length ∧ WF l' := by
 have := good_need t l ht hw
 rw [h] at this
 exact ⟨by have := this.2; omega, this.1⟩
theorem bin_wf {n v d : Nat} {l l' : List Tok} {a : EA} (hv : 1 ≤ v) (hw : WF l) (h : bin n v d l = .ok a l') : l'.length < l.length ∧ WF l' := by
 have := good_bin n v d l hv hw
 rw [h] at this
 exact ⟨by have := this.2; omega, this.1⟩
set_option maxHeartbeats 1000000 in
set_option maxRecDepth 100000 in
theorem idx_any (n : Nat) {X : Nat → Prop} {g b : Nat} {l : List Tok} {d : Nat} {f : FM} (w : World) (h : PInv X g b w l d f) (hn : 8 * l.length ≤ n + 6) :
  Calls Tryz.prog 236 #[.pointer (some ⟨g, 0, none⟩)] w (PostP X g (b - 3) w d (idxP n d l) (fun a => .int .i64 ((putE a f.g).x : Int)) fun a => f.setG (putE a f.g)) := by
 have htop := h.top
 have c1 := need_sLb w h
 have hw := h.wf
 unfold idxP
 rcases h1 : need sLb l with ⟨u, l1⟩ | ⟨l1, x⟩
 all_goals rw [h1] at c1; have C1 := hid c1; clear c1
 ·obtain ⟨hl1, hw1⟩ := need_len (by decide) hw h1
  rw [PR.bind_ok]
  have c2 : ∀ w1, PInv X g (b - 3) w1 l1 d f → _ := fun w1 hi => expr_any n X g (b - 3) l1 d f w1 hi (by omega)
  rcases h2 : bin n 1 d l1 with ⟨e, l2⟩ | ⟨l2, x⟩
  all_goals rw [h2] at c2; have C2 := hid c2; clear c2
  ·rw [PR.bind_ok]
   have c3 : ∀ w1, PInv X g (b - 3) w1 l2 d (f.setG (putE e f.g)) → _ := fun w1 hi => need_sRb w1 hi
   rcases h3 : need sRb l2 with ⟨u3, l3⟩ | ⟨l3, x⟩
   all_goals
    rw [h3] at c3
    have C3 := hid c3
    clear c3 h1 h2 h3 h
    go_enter Tryz.func236, Tryz.ntmps236
    go_wp2_with (first | (go_at_call 122; first | ((with_reducible refine C1.out.mono ?_); rintro e1 w1 ⟨rfl, hI1, hS1⟩; have D2 := hid (C2.out w1 hI1); clear hI1) | ((with_reducible refine D3.out.mono ?_); rintro e3 w3 ⟨rfl, hI3, hS3⟩)) | (go_at_call 183; go_must (refine D2.out.mono ?_; rintro e2 w2 ⟨rfl, hI2, hS2⟩; have D3 := hid (C3.out w2 hI2); clear hI2)))
   ·go_ret
    exact ⟨rfl, hI3.mono (by omega) (by omega), (hS1.trans hS2).trans hS3⟩
   ·exact ⟨rfl, rfl, trivial, (hS1.trans hS2).trans hS3⟩
  ·rw [PR.bind_bad]
   clear h1 h2 h
   go_enter Tryz.func236, Tryz.ntmps236
   go_wp2_with (first | (go_at_call 122; go_must (refine C1.out.mono ?_; rintro e1 w1 ⟨rfl, hI1, hS1⟩; have D2 := hid (C2.out w1 hI1); clear hI1)) | (go_at_call 183; go_must (refine D2.out.mono ?_; rintro e2 w2 ⟨rfl, hI2, hS2⟩)))
   exact ⟨rfl, rfl, trivial, hS1.trans hS2⟩
 ·rw [PR.bind_bad]
  clear h1 h
  go_enter Tryz.func236, Tryz.ntmps236
  go_wp2_with (go_at_call 122; go_must (refine C1.out.mono ?_; rintro e1 w1 ⟨rfl, hI1, hS1⟩))
  exact ⟨rfl, rfl, trivial, hS1⟩
end Go.Proofs.YtomimkgaelkaoaaGreatDoor
namespace Go.Proofs.YtomimkgaelkaoaaGreatDoor
open Go.Lib (hid)
open Go.ChangeShapes Go.WideShapes Go.ChangeAt Go.RowKit
theorem cells2 {T : TypeId} {w : World} {k : Nat} {v0 v1 : Value} (h : w.heap[k]? = some (.cells #[v0, v1] T (0, 0))) : w.cell? ⟨k, 0, none⟩ = some v0 ∧ w.cell? ⟨k, 1, none⟩ = some v1 ∧ (∀ j, w.frozen? ⟨k, j, none⟩ = false) ∧ k < w.heap.size :=
 ⟨by rw [cell_of_row _ _ _ _ _ (0, 0) h]; rfl, by rw [cell_of_row _ _ _ _ _ (0, 0) h]; rfl, fun j => by simp [World.frozen?, h], (Array.getElem?_eq_some_iff.1 h).1⟩
set_option maxHeartbeats 1000000 in
set_option maxRecDepth 100000 in
theorem sub_any {X : Nat → Prop} {g b : Nat} {l : List Tok} {d : Nat} {f : FM} (w : World) (h : PInv X g b w l d f) :
  Calls Tryz.prog 234 #[.pointer (some ⟨g, 0, none⟩)] w (PostP X g b w d (subP l) (fun x => .agg #[.string (bs x.1), .int .i64 (x.2 : Int)]) fun _ => f) := by
 have hg := h.lt
 have htop := h.top
 have hs0 : St layP g w (w.alloc (.cells #[.string ⟨#[]⟩, .int .i64 0] 131)) := St.below hg (below_box _ _)
 unfold subP
 have c1 : ∀ w1, PInv (wth X w.heap.size) g b w1 l d f → _ := fun w1 hi => name_any w1 hi
 rcases h1 : nameP l with ⟨s, l1⟩ | ⟨lx, xx⟩
 all_goals rw [h1] at c1; have C1 := hid c1; clear c1
 ·rw [PR.bind_ok]
  have D1 := hid (C1.out _ (h.hide (.cells #[.string ⟨#[]⟩, .int .i64 0] 131)))
  clear h1
  have c2 : ∀ w1, PInv (wth X w.heap.size) g (b - 3) w1 l1 d f → _ := fun w1 hi => need_sColon w1 hi
  rcases h2 : need sColon l1 with ⟨u, l2⟩ | ⟨lx, xx⟩
  all_goals rw [h2] at c2; have C2 := hid c2; clear c2
  ·rw [PR.bind_ok]
   clear h2
   have c3 : ∀ w1, PInv (wth X w.heap.size) g (b - 3 - 3) w1 l2 d f → _ := fun w1 hi => number_any w1 hi
   rcases h3 : numP l2 with ⟨v, l3⟩ | ⟨lx, xx⟩
   all_goals rw [h3] at c3; have C3 := hid c3; clear c3
   ·rw [PR.bind_ok]
    clear h3
    have c4 : ∀ w1, PInv (wth X w.heap.size) g (b - 3 - 3 - 3) w1 l3 d f → _ := fun w1 hi => need_sSemi w1 hi
    rcases h4 : need sSemi l3 with ⟨u, l4⟩ | ⟨lx, xx⟩
    all_goals rw [h4] at c4; have C4 := hid c4; clear c4
    ·rw [PR.bind_ok]
     clear h4
     go_enter Tryz.func234, Tryz.ntmps234
     go_wp2_with (first | (go_at_call 123; ((with_reducible refine D1.out.mono ?_); rintro e1 w1 ⟨rfl, hI1, hS1⟩; have D2 := hid (C2.out _ hI1))) | (go_at_call 122; first | ((with_reducible refine D2.out.mono ?_); rintro e2 w2 ⟨rfl, hI2, hS2⟩; have D3 := hid (C3.out _ hI2)) | ((with_reducible refine D4.out.mono ?_); rintro e4 w4 ⟨rfl, hI4, hS4⟩; have q := hs0.trans (((hS1.trans hS2).trans hS3).trans hS4); have ho := ((((hS1.trans hS2).trans hS3).trans hS4).stay _ (h.fresh (.cells #[.string ⟨#[]⟩, .int .i64 0] 131))).1.trans (heap_alloc_new w _); obtain ⟨k0, k1, kf, kl⟩ := cells2 ho; clear ho)) | (go_at_call 124; ((with_reducible refine D3.out.mono ?_); rintro e3 w3 ⟨rfl, hI3, hS3⟩; have D4 := hid (C4.out _ hI3))))
     refine bodyPost_ret (v := .agg #[.string (bs s), .int .i64 (min (v : Int) 1048576)]) (by simp [results, Tryz.results234, go_sem, k0, k1]) rfl ⟨?_, ?_, ?_⟩
     ·show Ending.returned (.agg #[.string (bs s), .int .i64 (min (v : Int) 1048576)]) = .returned (.agg #[.string (bs s), .int .i64 ((min v 1048576 : Nat) : Int)])
      rw [show ((min v 1048576 : Nat) : Int) = min (v : Int) 1048576 from by omega]
     ·exact (((PInv.local hI4 (.inr rfl) _ _).local (.inr rfl) _ _).bare).mono (by omega) htop
     ·exact (q.fresh hg (Nat.le_refl _) _ _).fresh hg (Nat.le_refl _) _ _
    ·rw [PR.bind_bad]
     clear h4
     go_enter Tryz.func234, Tryz.ntmps234
     go_wp2_with (first | (go_at_call 123; ((with_reducible refine D1.out.mono ?_); rintro e1 w1 ⟨rfl, hI1, hS1⟩; have D2 := hid (C2.out _ hI1))) | (go_at_call 122; first | ((with_reducible refine D2.out.mono ?_); rintro e2 w2 ⟨rfl, hI2, hS2⟩; have D3 := hid (C3.out _ hI2)) | ((with_reducible refine D4.out.mono ?_); rintro e4 w4 ⟨rfl, hI4, hS4⟩)) | (go_at_call 124; ((with_reducible refine D3.out.mono ?_); rintro e3 w3 ⟨rfl, hI3, hS3⟩; have D4 := hid (C4.out _ hI3))))
     exact ⟨rfl, rfl, trivial, hs0.trans ((((hS1).trans hS2).trans hS3).trans hS4)⟩
   ·rw [PR.bind_bad]
    clear h3
    go_enter Tryz.func234, Tryz.ntmps234
    go_wp2_with (first | (go_at_call 123; ((with_reducible refine D1.out.mono ?_); rintro e1 w1 ⟨rfl, hI1, hS1⟩; have D2 := hid (C2.out _ hI1))) | (go_at_call 122; ((with_reducible refine D2.out.mono ?_); rintro e2 w2 ⟨rfl, hI2, hS2⟩; have D3 := hid (C3.out _ hI2))) | (go_at_call 124; ((with_reducible refine D3.out.mono ?_); rintro e3 w3 ⟨rfl, hI3, hS3⟩)))
    exact ⟨rfl, rfl, trivial, hs0.trans (((hS1).trans hS2).trans hS3)⟩
  ·rw [PR.bind_bad]
   clear h2
   go_enter Tryz.func234, Tryz.ntmps234
   go_wp2_with (first | (go_at_call 123; ((with_reducible refine D1.out.mono ?_); rintro e1 w1 ⟨rfl, hI1, hS1⟩; have D2 := hid (C2.out _ hI1))) | (go_at_call 122; ((with_reducible refine D2.out.mono ?_); rintro e2 w2 ⟨rfl, hI2, hS2⟩)))
   exact ⟨rfl, rfl, trivial, hs0.trans ((hS1).trans hS2)⟩
 ·rw [PR.bind_bad]
  have D1 := hid (C1.out _ (h.hide (.cells #[.string ⟨#[]⟩, .int .i64 0] 131)))
  clear h1
  go_enter Tryz.func234, Tryz.ntmps234
  go_wp2_with (first | (go_at_call 123; ((with_reducible refine D1.out.mono ?_); rintro e1 w1 ⟨rfl, hI1, hS1⟩)))
  exact ⟨rfl, rfl, trivial, hs0.trans (hS1)⟩
set_option maxHeartbeats 1000000 in
set_option maxRecDepth 100000 in
theorem const_any {X : Nat → Prop} {g b : Nat} {l : List Tok} {d : Nat} {f : FM} (w : World) (h : PInv X g b w l d f) :
  Calls Tryz.prog 77 #[.pointer (some ⟨g, 0, none⟩)] w (PostP X g b w d (constP l) (fun x => .agg #[.string (bs x.1), .int .u64 (x.2 : Int)]) fun _ => f) := by
 have hg := h.lt
 have htop := h.top
 have hs0 : St layP g w (w.alloc (.cells #[.string ⟨#[]⟩, .int .u64 0] 46)) := St.below hg (below_box _ _)
 unfold constP
 have c1 : ∀ w1, PInv (wth X w.heap.size) g b w1 l d f → _ := fun w1 hi => need_kConst w1 hi
 rcases h1 : need kConst l with ⟨u, l1⟩ | ⟨lx, xx⟩
 all_goals rw [h1] at c1; have C1 := hid c1; clear c1
 ·rw [PR.bind_ok]
  have D1 := hid (C1.out _ (h.hide (.cells #[.string ⟨#[]⟩, .int .u64 0] 46)))
  clear h1
  have c2 : ∀ w1, PInv (wth X w.heap.size) g (b - 3) w1 l1 d f → _ := fun w1 hi => name_any w1 hi
  rcases h2 : nameP l1 with ⟨s, l2⟩ | ⟨lx, xx⟩
  all_goals rw [h2] at c2; have C2 := hid c2; clear c2
  ·rw [PR.bind_ok]
   clear h2
   have c3 : ∀ w1, PInv (wth X w.heap.size) g (b - 3 - 3) w1 l2 d f → _ := fun w1 hi => need_sEq w1 hi
   rcases h3 : need sEq l2 with ⟨u, l3⟩ | ⟨lx, xx⟩
   all_goals rw [h3] at c3; have C3 := hid c3; clear c3
   ·rw [PR.bind_ok]
    clear h3
    have c4 : ∀ w1, PInv (wth X w.heap.size) g (b - 3 - 3 - 3) w1 l3 d f → _ := fun w1 hi => number_any w1 hi
    rcases h4 : numP l3 with ⟨v, l4⟩ | ⟨lx, xx⟩
    all_goals rw [h4] at c4; have C4 := hid c4; clear c4
    ·rw [PR.bind_ok]
     clear h4
     have c5 : ∀ w1, PInv (wth X w.heap.size) g (b - 3 - 3 - 3 - 3) w1 l4 d f → _ := fun w1 hi => need_sSemi w1 hi
     rcases h5 : need sSemi l4 with ⟨u, l5⟩ | ⟨lx, xx⟩
     all_goals rw [h5] at c5; have C5 := hid c5; clear c5
     ·rw [PR.bind_ok]
      clear h5
      go_enter Tryz.func77, Tryz.ntmps77
      go_wp2_with (first | (go_at_call 122; first | ((with_reducible refine D1.out.mono ?_); rintro e1 w1 ⟨rfl, hI1, hS1⟩; have D2 := hid (C2.out _ hI1)) | ((with_reducible refine D3.out.mono ?_); rintro e3 w3 ⟨rfl, hI3, hS3⟩; have D4 := hid (C4.out _ hI3)) | ((with_reducible refine D5.out.mono ?_); rintro e5 w5 ⟨rfl, hI5, hS5⟩; have q := hs0.trans ((((hS1.trans hS2).trans hS3).trans hS4).trans hS5); have ho := (((((hS1.trans hS2).trans hS3).trans hS4).trans hS5).stay _ (h.fresh (.cells #[.string ⟨#[]⟩, .int .u64 0] 46))).1.trans (heap_alloc_new w _); obtain ⟨k0, k1, kf, kl⟩ := cells2 ho; clear ho)) | (go_at_call 123; ((with_reducible refine D2.out.mono ?_); rintro e2 w2 ⟨rfl, hI2, hS2⟩; have D3 := hid (C3.out _ hI2))) | (go_at_call 124; ((with_reducible refine D4.out.mono ?_); rintro e4 w4 ⟨rfl, hI4, hS4⟩; have D5 := hid (C5.out _ hI4))))
      refine bodyPost_ret (v := .agg #[.string (bs s), .int .u64 (v : Int)]) (by simp [results, Tryz.results77, go_sem, k0, k1]) rfl ⟨rfl, ?_, ?_⟩
      ·exact (((PInv.local hI5 (.inr rfl) _ _).local (.inr rfl) _ _).bare).mono (by omega) htop
      ·exact (q.fresh hg (Nat.le_refl _) _ _).fresh hg (Nat.le_refl _) _ _
     ·rw [PR.bind_bad]
      clear h5
      go_enter Tryz.func77, Tryz.ntmps77
      go_wp2_with (first | (go_at_call 122; first | ((with_reducible refine D1.out.mono ?_); rintro e1 w1 ⟨rfl, hI1, hS1⟩; have D2 := hid (C2.out _ hI1)) | ((with_reducible refine D3.out.mono ?_); rintro e3 w3 ⟨rfl, hI3, hS3⟩; have D4 := hid (C4.out _ hI3)) | ((with_reducible refine D5.out.mono ?_); rintro e5 w5 ⟨rfl, hI5, hS5⟩)) | (go_at_call 123; ((with_reducible refine D2.out.mono ?_); rintro e2 w2 ⟨rfl, hI2, hS2⟩; have D3 := hid (C3.out _ hI2))) | (go_at_call 124; ((with_reducible refine D4.out.mono ?_); rintro e4 w4 ⟨rfl, hI4, hS4⟩; have D5 := hid (C5.out _ hI4))))
      exact ⟨rfl, rfl, trivial, hs0.trans (((((hS1).trans hS2).trans hS3).trans hS4).trans hS5)⟩
    ·rw [PR.bind_bad]
     clear h4
     go_enter Tryz.func77, Tryz.ntmps77
     go_wp2_with (first | (go_at_call 122; first | ((with_reducible refine D1.out.mono ?_); rintro e1 w1 ⟨rfl, hI1, hS1⟩; have D2 := hid (C2.out _ hI1)) | ((with_reducible refine D3.out.mono ?_); rintro e3 w3 ⟨rfl, hI3, hS3⟩; have D4 := hid (C4.out _ hI3))) | (go_at_call 123; ((with_reducible refine D2.out.mono ?_); rintro e2 w2 ⟨rfl, hI2, hS2⟩; have D3 := hid (C3.out _ hI2))) | (go_at_call 124; ((with_reducible refine D4.out.mono ?_); rintro e4 w4 ⟨rfl, hI4, hS4⟩)))
     exact ⟨rfl, rfl, trivial, hs0.trans ((((hS1).trans hS2).trans hS3).trans hS4)⟩
   ·rw [PR.bind_bad]
    clear h3
    go_enter Tryz.func77, Tryz.ntmps77
    go_wp2_with (first | (go_at_call 122; first | ((with_reducible refine D1.out.mono ?_); rintro e1 w1 ⟨rfl, hI1, hS1⟩; have D2 := hid (C2.out _ hI1)) | ((with_reducible refine D3.out.mono ?_); rintro e3 w3 ⟨rfl, hI3, hS3⟩)) | (go_at_call 123; ((with_reducible refine D2.out.mono ?_); rintro e2 w2 ⟨rfl, hI2, hS2⟩; have D3 := hid (C3.out _ hI2))))
    exact ⟨rfl, rfl, trivial, hs0.trans (((hS1).trans hS2).trans hS3)⟩
  ·rw [PR.bind_bad]
   clear h2
   go_enter Tryz.func77, Tryz.ntmps77
   go_wp2_with (first | (go_at_call 122; ((with_reducible refine D1.out.mono ?_); rintro e1 w1 ⟨rfl, hI1, hS1⟩; have D2 := hid (C2.out _ hI1))) | (go_at_call 123; ((with_reducible refine D2.out.mono ?_); rintro e2 w2 ⟨rfl, hI2, hS2⟩)))
   exact ⟨rfl, rfl, trivial, hs0.trans ((hS1).trans hS2)⟩
 ·rw [PR.bind_bad]
  have D1 := hid (C1.out _ (h.hide (.cells #[.string ⟨#[]⟩, .int .u64 0] 46)))
  clear h1
  go_enter Tryz.func77, Tryz.ntmps77
  go_wp2_with (first | (go_at_call 122; ((with_reducible refine D1.out.mono ?_); rintro e1 w1 ⟨rfl, hI1, hS1⟩)))
  exact ⟨rfl, rfl, trivial, hs0.trans (hS1)⟩
end Go.Proofs.YtomimkgaelkaoaaGreatDoor
namespace Go.Proofs.YtomimkgaelkaoaaGreatDoor
open Go.Lib (hid)
open Go.ChangeShapes Go.WideShapes Go.ChangeAt Go.RowKit
theorem append_one {P : Program} {w : World} {ops : Array Oper} {rest : List Oper} {o : Oper} {a : Act} {Q : Exit → Act → World → Prop} (hgd : o.guard = none) (s x : Operand) (t : TypeId)
  (ho : o.op = .call { callee := .builtin .append, args := #[s, x], argTypes := #[t, t] })
  (e : TypeId) (i : TypeInfo) (z : Value) (size bytes : Nat) (ht : P.underlying t = some (.slice e)) (hi : P.info? e = some i) (hz : i.zero = some z)
  (hsize : i.size = size) (hby : i.bytes = bytes) (hzs : z.cells.size = size) (hpos : 0 < size)
  (v : Value) (n : Nat) (xs : List Value) (hs : a.eval s = v) (hown : w.ownsRow 0 e size v n xs)
  (H c : Nat) (news : List Value) (hx : a.eval x = .slice (some ⟨H, 0, none⟩) 1 c) (hl : news.length = size) (hh : w.heap[H]? = some (.cells news.toArray e (0, 0))) (h1 : ∀ u ∈ news, u.oneCell' = true)
  (h63 : n + 1 ≤ maxLen) (hbytes : (n + 1) * bytes ≤ 140737488355328)
  (h : ∀ v' w', w'.ownsRow 0 e size v' (n + 1) (xs ++ news) → w.grownBy w' v.ownBlock → (v'.ownBlock = v.ownBlock ∨ v'.ownBlock = some w.heap.size) → wpList P ops Q rest (a.put o.dst v') w') : wpList P ops Q (o :: rest) a w := by
 refine wpList_append_own_at w hgd s x t ho 0 e i z size bytes ht hi hz hsize hby hzs hpos v n xs hs hown ⟨H, 0, none⟩ 1 c news hx (by omega) (fun j u hu => ?_) h1 h63 hbytes (Nat.zero_le _) fun v' w' h2 h3 _ h5 => h v' w' h2 h3 h5
 rw [show (⟨H, 0, none⟩ : Addr).add j = ⟨H, j, none⟩ from by unfold Addr.add; split <;> simp_all, cell_of_row _ _ _ _ _ (0, 0) hh]
 simpa using hu
theorem info_int : (Tryz.prog.info? 3).map (fun i => (i.zero, i.size, i.bytes)) = some (some (.int .i64 0), 1, 8) := by kernel_rfl
theorem putEs_len (es : List EA) : ∀ (g : GM) (ks : List Nat), (es.foldl stepE (g, ks)).2.length = ks.length + es.length := by
 induction es with
 | nil => intro g ks; rfl
 | cons e r ih =>
  intro g ks
  rw [List.foldl_cons]
  show (r.foldl stepE (putE e g, ks ++ [(putE e g).x])).2.length = _
  rw [ih, List.length_append, List.length_singleton, List.length_cons]
  omega
theorem putEs_length (es : List EA) (g : GM) : (putEs es g).2.length = es.length := by unfold putEs; rw [putEs_len]; simp
theorem IntsV.snoc {w : World} {v : Value} {ks : List Nat} {x : Nat} (h : w.ownsRow 0 3 1 v (ks.length + 1) (ks.map (fun n : Nat => Value.int .i64 (n : Int)) ++ [.int .i64 (x : Int)])) : IntsV w v (ks ++ [x]) := by
 unfold IntsV
 rw [List.length_append, List.map_append]
 exact h
theorem IntsV.below {w w' : World} {v : Value} {ks : List Nat} (h : IntsV w v ks) (hb : Below w.heap.size w w') : IntsV w' v ks := RowR.below h hb
theorem IntsV.st {X : Nat → Prop} {g b : Nat} {w w' : World} {l : List Tok} {d : Nat} {f : FM} {v : Value} {ks : List Nat} (h : IntsV w v ks) (hI : PInv (wthV X v) g b w l d f) (hS : St layP g w w') : IntsV w' v ks := ownsRow_same h fun k hk => hI.own (.inr hk) hS
set_option maxHeartbeats 4000000 in
set_option maxRecDepth 100000 in
theorem args_any (n : Nat) {X : Nat → Prop} {g b : Nat} {l : List Tok} {d : Nat} {f : FM} (w : World) (h : PInv X g b w l d f) (hn : 8 * l.length + 2 ≤ n) :
  Calls Tryz.prog 305 #[.pointer (some ⟨g, 0, none⟩)] w (PostV X g b w d (argsP n d l) (fun es v w' => IntsV w' v (putEs es f.g).2 ∧ Nest (Pub X layP g w') v) fun es => f.setG (putEs es f.g).1) := by
 have htop := h.top
 have hw := h.wf
 have hg := h.lt
 have hXlt : ∀ k, X k → k < w.heap.size := fun k hk => (h.priv k hk).lt
 have c1 := expr_any n X g b l d f w h hn
 unfold argsP
 rcases h1 : bin n 1 d l with ⟨e0, l1⟩ | ⟨l1, x⟩
 all_goals rw [h1] at c1; have C1 := hid c1; clear c1
 ·obtain ⟨hl1, hw1⟩ := bin_wf (Nat.le_refl _) hw h1
  rw [PR.bind_ok]
  obtain ⟨R, HR⟩ : ∃ R, Hid (R = argsL n [e0] d l1) := ⟨_, hid rfl⟩
  rw [← HR.out]
  obtain ⟨i0, hi, hz0, hz1, hz2⟩ := info_parts info_int
  have HXlt := hid hXlt
  clear h1 h hXlt
  go_enter Tryz.func305, Tryz.ntmps305
  go_wp2_with (go_at_call 183; go_must (refine C1.out.mono ?_; rintro e1 w1 ⟨rfl, hI1, hS1⟩))
  go_loopw [3] (fun s3 wr => ∃ (m : Nat) (es : List EA) (v : Value) (l' : List Tok), v = s3 ∧ PInv (wthV X v) g b wr l' d (f.setG (putEs es f.g).1) ∧ IntsV wr v (putEs es f.g).2 ∧ (∀ i, v.ownBlock = some i → w.heap.size ≤ i) ∧ St layP g w wr ∧ Hid (R = argsL m es d l') ∧ 8 * l'.length + 2 ≤ m ∧ es.length ≤ 64) (fun _ wr => tokN g wr)
  case atStart =>
   have hI2 := hI1.hide (.cells #[.int .i64 ((putE e0 f.g).x : Int)] 3)
   have hs := hS1.size
   exact ⟨n, [e0], _, l1, rfl, hI2.toV, (ints_new (P := fun _ => True) [(putE e0 f.g).x] (by simp) trivial).1, fun i hi => by simp only [Value.ownBlock, Option.some.injEq] at hi; omega, hS1.alloc hI1.lt _, HR, by omega, by simp⟩
  case round =>
   obtain ⟨m, es, v, l', rfl, hI, hV, hlo, hS, H, hm, hes⟩ := hrel
   have hl := hI.wf.pos
   have htok := hid hI.tokN
   obtain ⟨m, rfl⟩ : ∃ m', m = m' + 1 := ⟨m - 1, by omega⟩
   have hpot := hI.pot
   have hw' := hI.wf
   cases e1 : isT sComma l'
   ·have HF : Hid (R = .ok es l') := hid (by rw [H.out, argsL, if_neg (by rw [e1]; decide)])
    have T := hid (takeN_sComma wr hI e1)
    have c3 := need_sRp wr hI
    rcases h3 : need sRp l' with ⟨u, l3⟩ | ⟨l3, x⟩
    all_goals
     rw [h3] at c3
     have C3 := hid c3
     have HV := hid hV
     have HI := hid hI
     have HS := hid hS
     have H3 := hid h3
     clear c3 h3 e1 H hV hI hS
     go_wp2_with (first | (go_at_call 125; go_must (refine T.out.mono ?_; rintro e w' ⟨rfl, rfl⟩)) | (go_at_call 122; go_must (refine C3.out.mono ?_; rintro e3 w3 ⟨rfl, hI3, hS3⟩)))
    ·go_ret
     rw [HF.out, PR.bind_ok, H3.out]
     have hpub : ∀ k, v.ownBlock = some k → Pub X layP g w3 k := fun k hk => ⟨hI3.priv k (.inr hk), fun hx => by have := HXlt.out k hx; have := hlo k hk; omega⟩
     exact ⟨⟨v, rfl, ⟨HV.out.st HI.out hS3, hpub⟩, hI3.bareV.mono (by omega) htop⟩, HS.out.trans hS3⟩
    ·rw [HF.out, PR.bind_ok, H3.out]
     exact ⟨rfl, rfl, HS.out.trans hS3⟩
   ·have htl : l'.tail.length = l'.length - 1 := List.length_tail
    have T := hid (takeY_sComma wr hI e1)
    have hR2 : R = (expectP (begE l'.tail) l'.tail).bind fun _ l1 => (roomP es.length l1).bind fun _ l2 => (bin m 1 d l2).bind fun e l3 => argsL m (es ++ [e]) d l3 := by rw [H.out, argsL, if_pos e1]
    have hwt := hw'.isT e1 (by decide)
    have hsh := ownsRow_shape hV
    obtain ⟨va, vc, hsh⟩ := hsh
    have hkl := putEs_length es f.g
    rw [hkl] at hsh
    have HV := hid hV
    have HI := hid hI
    have HS := hid hS
    have HLO := hid hlo
    clear H hV hI hS hlo
    cases hb : begE l'.tail
    ·have hR3 : R = .bad l'.tail 4 := by rw [hR2, hb]; rfl
     have HR3 := hid hR3
     clear hR2 hR3
     go_wp2_with (first | (go_at_call 125; go_must (refine T.out.mono ?_; rintro e w2 ⟨rfl, hI2, hS2⟩; have cb := begE_any w2 hI2; rw [hb] at cb; have CB := hid cb; have CX := hid (expect_no w2 hI2); clear cb hI2)) | (go_at_call 306; go_must (refine CB.out.mono ?_; rintro e w' ⟨rfl, rfl⟩)) | (go_at_call 127; go_must (refine CX.out.mono ?_; rintro e w' ⟨rfl, rfl⟩)))
     rw [HR3.out, PR.bind_bad]
     exact ⟨rfl, rfl, HS.out.trans hS2⟩
    ·by_cases h64 : 64 ≤ es.length
     ·have hR3 : R = .bad l'.tail 10 := by rw [hR2, hb, show expectP true l'.tail = .ok () l'.tail from rfl, PR.bind_ok, roomP, if_pos h64]; rfl
      have HR3 := hid hR3
      clear hR2 hR3
      subst hsh
      obtain hes64 : es.length = 64 := by omega
      rw [hes64] at *
      go_wp2_with (first | (go_at_call 125; go_must (refine T.out.mono ?_; rintro e w2 ⟨rfl, hI2, hS2⟩; have cb := begE_any w2 hI2; rw [hb] at cb; have CB := hid cb; have CX := hid (expect_yes w2 hI2); have CR := hid (room_any 64 (Nat.le_refl _) w2 hI2); clear cb hI2)) | (go_at_call 306; go_must (refine CB.out.mono ?_; rintro e w' ⟨rfl, rfl⟩)) | (go_at_call 127; go_must (refine CX.out.mono ?_; rintro e w' ⟨rfl, rfl⟩)) | (go_at_call 76; go_must (refine CR.out.mono ?_; rintro e w' ⟨rfl, rfl⟩)))
      rw [HR3.out, PR.bind_bad]
      exact ⟨rfl, rfl, HS.out.trans hS2⟩
     ·rw [hb, show expectP true l'.tail = .ok () l'.tail from rfl, PR.bind_ok, roomP, if_neg h64, PR.bind_ok] at hR2
      have c4 : ∀ w2, PInv (wthV X v) g (b - 3) w2 l'.tail d (f.setG (putEs es f.g).1) → Calls Tryz.prog 183 #[.pointer (some ⟨g, 0, none⟩)] w2 (PostP (wthV X v) g (b - 3) w2 d (bin m 1 d l'.tail) (fun a => .int .i64 ((putE a (putEs es f.g).1).x : Int)) fun a => f.setG (putE a (putEs es f.g).1)) := fun w2 hi => expr_any m (wthV X v) g (b - 3) l'.tail d _ w2 hi (by omega)
      have hwl := hw'.pos
      have hgr := hg
      have HKL : Hid ((putEs es f.g).2.length = es.length) := hid hkl
      clear hkl
      subst hsh
      rcases h4 : bin m 1 d l'.tail with ⟨y, l4⟩ | ⟨l4, x⟩
      all_goals rw [h4] at c4 hR2; have C4 := hid c4; clear c4
      ·obtain ⟨hl4, hw4⟩ := bin_wf (Nat.le_refl _) hwt h4
       rw [PR.bind_ok] at hR2
       have HR3 := hid hR2
       have hpp := putEs_snoc es y f.g
       have HPP := hid hpp
       clear hR2 h4 hpp
       go_wp2_with (first | (go_at_call 125; go_must (refine T.out.mono ?_; rintro e w2 ⟨rfl, hI2, hS2⟩; have cb := begE_any w2 hI2; rw [hb] at cb; have CB := hid cb; have CX := hid (expect_yes w2 hI2); have cr := room_any es.length hes w2 hI2; rw [if_neg h64] at cr; have CR := hid cr; have CE := hid (C4.out w2 hI2); clear cb cr hI2)) | (go_at_call 306; go_must (refine CB.out.mono ?_; rintro e w' ⟨rfl, rfl⟩)) | (go_at_call 127; go_must (refine CX.out.mono ?_; rintro e w' ⟨rfl, rfl⟩)) | (go_at_call 76; go_must (refine CR.out.mono ?_; rintro e w' ⟨rfl, rfl⟩)) | (go_at_call 183; go_must (refine CE.out.mono ?_; rintro e w3 ⟨rfl, hI3, hS3⟩; have HV3 := hid ((HV.out.st HI.out (hS2.trans hS3)).below (below_box w3 (.cells #[.int .i64 ((putE y (putEs es f.g).1).x : Int)] 3))); have HI3 := hid hI3; clear hI3)) | (at_builtin; go_must (refine append_one rfl _ _ 38 rfl 3 i0 _ 1 8 Tryz.underlying38 hi hz0 hz1 hz2 rfl (by decide) (.slice va es.length vc) (putEs es f.g).2.length ((putEs es f.g).2.map fun n : Nat => Value.int .i64 (n : Int)) rfl HV3.out _ _ [.int .i64 ((putE y (putEs es f.g).1).x : Int)] rfl rfl (heap_alloc_new _ _) (by simp [Value.oneCell']) (by rw [HKL.out]; unfold maxLen; omega) (by rw [HKL.out]; omega) ?_; intro v' w4 hown hgrow hat; have HOW := hid hown; have HG := hid hgrow; have HAT := hid hat; clear hown hgrow hat)))
       have hI4 := (HI3.out.below (below_box w3 (.cells #[.int .i64 ((putE y (putEs es f.g).1).x : Int)] 3))).grow HG.out HAT.out (fun k hk => (World.ownsRow.lt HOW.out k hk).2)
       have hV4 := IntsV.snoc HOW.out
       have hlo4 : ∀ i, v'.ownBlock = some i → w.heap.size ≤ i := fun i hi => by
        rcases HAT.out with e | e
        ·exact HLO.out i (by rw [← e]; exact hi)
        ·rw [e, Option.some.injEq] at hi
         have := ((HS.out.trans hS2).trans hS3).size
         simp at hi
         omega
       have hS4 : St layP g w w4 := ((((HS.out.trans hS2).trans hS3).alloc HI3.out.lt _)).grown hgr HG.out fun k hk => HLO.out k hk
       have ht4 := hI4.tokN
       refine ⟨⟨m, es ++ [y], v', l4, rfl, ?_, ?_, hlo4, hS4, hid HR3.out, by omega, by rw [List.length_append, List.length_singleton]; omega⟩, ?_⟩
       ·rw [HPP.out]; exact hI4.mono (by omega) htop
       ·rw [HPP.out]; exact hV4
       ·rw [ht4, htok.out]; omega
      ·rw [PR.bind_bad] at hR2
       have HR3 := hid hR2
       clear hR2 h4
       go_wp2_with (first | (go_at_call 125; go_must (refine T.out.mono ?_; rintro e w2 ⟨rfl, hI2, hS2⟩; have cb := begE_any w2 hI2; rw [hb] at cb; have CB := hid cb; have CX := hid (expect_yes w2 hI2); have cr := room_any es.length hes w2 hI2; rw [if_neg h64] at cr; have CR := hid cr; have CE := hid (C4.out w2 hI2); clear cb cr hI2)) | (go_at_call 306; go_must (refine CB.out.mono ?_; rintro e w' ⟨rfl, rfl⟩)) | (go_at_call 127; go_must (refine CX.out.mono ?_; rintro e w' ⟨rfl, rfl⟩)) | (go_at_call 76; go_must (refine CR.out.mono ?_; rintro e w' ⟨rfl, rfl⟩)) | (go_at_call 183; go_must (refine CE.out.mono ?_; rintro e w3 ⟨rfl, hI3, hS3⟩)))
       rw [HR3.out, PR.bind_bad]
       exact ⟨rfl, rfl, (HS.out.trans hS2).trans hS3⟩
 ·rw [PR.bind_bad]
  clear h1 h
  go_enter Tryz.func305, Tryz.ntmps305
  go_wp2_with (go_at_call 183; go_must (refine C1.out.mono ?_; rintro e1 w1 ⟨rfl, hI1, hS1⟩))
  exact ⟨rfl, rfl, hS1⟩
end Go.Proofs.YtomimkgaelkaoaaGreatDoor
