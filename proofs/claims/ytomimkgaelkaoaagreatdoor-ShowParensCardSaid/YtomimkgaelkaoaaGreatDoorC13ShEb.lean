/- Layer 8: slices.Equal, at the rows that a File has. · Layer 8: the comparison of two parts of a File. -/
import Derived.Test.YtomimkgaelkaoaaGreatDoorC13ShE
import Derived.BigQuiet
import Derived.Test.YtomimkgaelkaoaaGreatDoorC13ShS
set_option linter.unusedVariables false
set_option linter.unusedSimpArgs false
namespace Go.Proofs.YtomimkgaelkaoaaGreatDoor
open Go.Lib (hid)
open Go.ChangeShapes Go.WideShapes Go.ChangeAt Go.RowKit
theorem SlR.lenA {α:Type} {size:Nat} {rep:World→List Value→α→Prop} {w:World} {v:Value} {l:List α} (h:SlR size rep w v l):l.length<9223372036854775808:=by
 obtain ⟨a,c, -,h2,h3, -⟩:=h
 unfold maxLen at h3
 omega
theorem drewN8 {B:Nat} {a w:World} (h:Below B a w) (n:Nat):Below B a (w.drewN n):=h.trans ⟨rfl,rfl,rfl,Nat.le_refl _,fun _ _=>rfl⟩
theorem bs_inj8 {a b:List UInt8} (h:(bs a).toList=(bs b).toList):a=b:=by
 rw [ByteArray.toList_eq,ByteArray.toList_eq,bs_list,bs_list] at h
 exact h
theorem take_snoc8 {α:Type} {l m:List α} {i:Nat} {x y:α} (h:l.take i=m.take i) (hx:l[i]? =some x) (hy:m[i]? =some y) (e:x=y):l.take (i+1)=m.take (i+1):=by
 subst e
 rw [List.take_add_one,List.take_add_one,hx,hy,h]
theorem ne_at8 {α:Type} {l m:List α} {i:Nat} {x y:α} (hx:l[i]? =some x) (hy:m[i]? =some y) (e:x≠y):l≠m:=by
 rintro rfl
 rw [hx] at hy
 exact e (Option.some.inj hy)
theorem eq_take8 {α:Type} {l m:List α} (n:Nat) (h:l.take n=m.take n) (h1:l.length=n) (h2:m.length=n):l=m:=by
 rw [List.take_of_length_le (by omega),List.take_of_length_le (by omega)] at h
 exact h
set_option maxHeartbeats 2000000 in
set_option maxRecDepth 100000 in
theorem sleq_I {W0 w:World} (hb:Below W0.heap.size W0 w) {v1 v2:Value} {l m:List (Int)} (h1:SlR 1 InC W0 v1 l) (h2:SlR 1 InC W0 v2 m):
  Calls Tryz.prog 83 #[v1,v2] w fun e w'=>e= .returned (.bool (decide (l=m)))∧Below w.heap.size w w':=by
 have hn1:=h1.lenA
 have HB:=hid hb
 obtain ⟨a1,c1,rfl, -⟩:=h1.shape
 obtain ⟨a2,c2,rfl, -⟩:=h2.shape
 have H1:=hid h1
 have H2:=hid h2
 have HW:=hid (Below.refl w.heap.size w)
 clear hb h1 h2
 by_cases hl:l.length=m.length
 ·have hlI:((l.length:Int) !=(m.length:Int))=false:=by simp [hl]
  go_enter Tryz.func83, Tryz.ntmps83
  go_wp2_with fail
  clear hlI
  go_loopw [13,5] (fun s13 s5 wr=> ∃i:Nat,s13= .int .i64 (i:Int)∧i≤l.length∧l.take i=m.take i∧Below w.heap.size w wr) (fun s13 _ _=>l.length - (match s13 with| .int _ i=>i.toNat|_=>0))
  case atStart=>exact ⟨0,rfl,Nat.zero_le _,by simp,HW.out⟩
  case round=>
   obtain ⟨i,rfl,hi,htk,hwr⟩:=hrel
   by_cases hlt:i<l.length
   ·have hltI:(i:Int)<(l.length:Int):=by omega
    have hltM:(i:Int)<(m.length:Int):=by omega
    have hw1:IntKind.i64.wrap ((i:Int)+1)=(i:Int)+1:=IntWalk.i64_in _ (by omega)
    obtain ⟨x,hx⟩: ∃x,l[i]? =some x:=⟨l[i],List.getElem?_eq_getElem hlt⟩
    obtain ⟨y,hy⟩: ∃y,m[i]? =some y:=⟨m[i]'(by omega),List.getElem?_eq_getElem (by omega)⟩
    obtain ⟨k1,rfl,hk1,q0⟩:=in_at H1.out hx
    obtain ⟨k2,rfl,hk2,r0⟩:=in_at H2.out hy
    have hb2:=HB.out.trans (hwr.mono HB.out.size)
    have q0:=(hb2.cell (p:=⟨k1,i,none⟩) hk1).trans q0
    have r0:=(hb2.cell (p:=⟨k2,i,none⟩) hk2).trans r0
    have HR:=hid hwr
    have HT:=hid htk
    have HX:=hid hx
    have HY:=hid hy
    clear hb2 hk1 hk2 hwr htk hx hy
    by_cases he:x=y
    ·subst he
     skip
     go_wp2_with fail
     go_quiet (fail)
     go_wp2_with fail
     go_roundw
     case rel=>exact ⟨i+1,by go_num,by omega,take_snoc8 HT.out HX.out HY.out rfl,drewN8 HR.out _⟩
     case measure=>simp;omega
    ·have hd:decide (l=m)=false:=decide_eq_false (ne_at8 HX.out HY.out he)
     have HD:=hid hd
     clear hd
     have hx:(x !=y)=true:=by simp [he]
     go_wp2_with fail
     go_quiet (fail)
     go_wp2_with fail
     go_ret
     exact ⟨by rw [HD.out];rfl,drewN8 HR.out _⟩
   ·have hi2:i=l.length:=by omega
    subst hi2
    have he:l=m:=eq_take8 _ htk rfl hl.symm
    have HR:=hid hwr
    clear hwr htk
    have HD:=hid (decide_eq_true he)
    clear he
    go_wp2_with fail
    go_ret
    exact ⟨by rw [HD.out];rfl,HR.out⟩
 ·have hlI:((l.length:Int) !=(m.length:Int))=true:=by simp;omega
  have he:decide (l=m)=false:=decide_eq_false (fun e=>hl (by rw [e]))
  rw [he]
  clear he hl
  go_enter Tryz.func83, Tryz.ntmps83
  go_wp2_with fail
  go_ret
  exact ⟨rfl,HW.out⟩
set_option maxHeartbeats 2000000 in
set_option maxRecDepth 100000 in
theorem sleq_N {W0 w:World} (hb:Below W0.heap.size W0 w) {v1 v2:Value} {l m:List (Nat)} (h1:SlR 1 IntC W0 v1 l) (h2:SlR 1 IntC W0 v2 m):
  Calls Tryz.prog 83 #[v1,v2] w fun e w'=>e= .returned (.bool (decide (l=m)))∧Below w.heap.size w w':=by
 have hn1:=h1.lenA
 have HB:=hid hb
 obtain ⟨a1,c1,rfl, -⟩:=h1.shape
 obtain ⟨a2,c2,rfl, -⟩:=h2.shape
 have H1:=hid h1
 have H2:=hid h2
 have HW:=hid (Below.refl w.heap.size w)
 clear hb h1 h2
 by_cases hl:l.length=m.length
 ·have hlI:((l.length:Int) !=(m.length:Int))=false:=by simp [hl]
  go_enter Tryz.func83, Tryz.ntmps83
  go_wp2_with fail
  clear hlI
  go_loopw [13,5] (fun s13 s5 wr=> ∃i:Nat,s13= .int .i64 (i:Int)∧i≤l.length∧l.take i=m.take i∧Below w.heap.size w wr) (fun s13 _ _=>l.length - (match s13 with| .int _ i=>i.toNat|_=>0))
  case atStart=>exact ⟨0,rfl,Nat.zero_le _,by simp,HW.out⟩
  case round=>
   obtain ⟨i,rfl,hi,htk,hwr⟩:=hrel
   by_cases hlt:i<l.length
   ·have hltI:(i:Int)<(l.length:Int):=by omega
    have hltM:(i:Int)<(m.length:Int):=by omega
    have hw1:IntKind.i64.wrap ((i:Int)+1)=(i:Int)+1:=IntWalk.i64_in _ (by omega)
    obtain ⟨x,hx⟩: ∃x,l[i]? =some x:=⟨l[i],List.getElem?_eq_getElem hlt⟩
    obtain ⟨y,hy⟩: ∃y,m[i]? =some y:=⟨m[i]'(by omega),List.getElem?_eq_getElem (by omega)⟩
    obtain ⟨k1,rfl,hk1,q0⟩:=ints_at H1.out hx
    obtain ⟨k2,rfl,hk2,r0⟩:=ints_at H2.out hy
    have hb2:=HB.out.trans (hwr.mono HB.out.size)
    have q0:=(hb2.cell (p:=⟨k1,i,none⟩) hk1).trans q0
    have r0:=(hb2.cell (p:=⟨k2,i,none⟩) hk2).trans r0
    have HR:=hid hwr
    have HT:=hid htk
    have HX:=hid hx
    have HY:=hid hy
    clear hb2 hk1 hk2 hwr htk hx hy
    by_cases he:x=y
    ·subst he
     skip
     go_wp2_with fail
     go_quiet (fail)
     go_wp2_with fail
     go_roundw
     case rel=>exact ⟨i+1,by go_num,by omega,take_snoc8 HT.out HX.out HY.out rfl,drewN8 HR.out _⟩
     case measure=>simp;omega
    ·have hd:decide (l=m)=false:=decide_eq_false (ne_at8 HX.out HY.out he)
     have HD:=hid hd
     clear hd
     have hx:((x:Int) !=(y:Int))=true:=bne_iff_ne.2 (by omega)
     go_wp2_with fail
     go_quiet (fail)
     go_wp2_with fail
     go_ret
     exact ⟨by rw [HD.out];rfl,drewN8 HR.out _⟩
   ·have hi2:i=l.length:=by omega
    subst hi2
    have he:l=m:=eq_take8 _ htk rfl hl.symm
    have HR:=hid hwr
    clear hwr htk
    have HD:=hid (decide_eq_true he)
    clear he
    go_wp2_with fail
    go_ret
    exact ⟨by rw [HD.out];rfl,HR.out⟩
 ·have hlI:((l.length:Int) !=(m.length:Int))=true:=by simp;omega
  have he:decide (l=m)=false:=decide_eq_false (fun e=>hl (by rw [e]))
  rw [he]
  clear he hl
  go_enter Tryz.func83, Tryz.ntmps83
  go_wp2_with fail
  go_ret
  exact ⟨rfl,HW.out⟩
set_option maxHeartbeats 2000000 in
set_option maxRecDepth 100000 in
theorem sleq_S {W0 w:World} (hb:Below W0.heap.size W0 w) {v1 v2:Value} {l m:List (List UInt8)} (h1:SlR 1 StrC W0 v1 l) (h2:SlR 1 StrC W0 v2 m):
  Calls Tryz.prog 80 #[v1,v2] w fun e w'=>e= .returned (.bool (decide (l=m)))∧Below w.heap.size w w':=by
 have hn1:=h1.lenA
 have HB:=hid hb
 obtain ⟨a1,c1,rfl, -⟩:=h1.shape
 obtain ⟨a2,c2,rfl, -⟩:=h2.shape
 have H1:=hid h1
 have H2:=hid h2
 have HW:=hid (Below.refl w.heap.size w)
 clear hb h1 h2
 by_cases hl:l.length=m.length
 ·have hlI:((l.length:Int) !=(m.length:Int))=false:=by simp [hl]
  go_enter Tryz.func80, Tryz.ntmps80
  go_wp2_with fail
  clear hlI
  go_loopw [13,5] (fun s13 s5 wr=> ∃i:Nat,s13= .int .i64 (i:Int)∧i≤l.length∧l.take i=m.take i∧Below w.heap.size w wr) (fun s13 _ _=>l.length - (match s13 with| .int _ i=>i.toNat|_=>0))
  case atStart=>exact ⟨0,rfl,Nat.zero_le _,by simp,HW.out⟩
  case round=>
   obtain ⟨i,rfl,hi,htk,hwr⟩:=hrel
   by_cases hlt:i<l.length
   ·have hltI:(i:Int)<(l.length:Int):=by omega
    have hltM:(i:Int)<(m.length:Int):=by omega
    have hw1:IntKind.i64.wrap ((i:Int)+1)=(i:Int)+1:=IntWalk.i64_in _ (by omega)
    obtain ⟨x,hx⟩: ∃x,l[i]? =some x:=⟨l[i],List.getElem?_eq_getElem hlt⟩
    obtain ⟨y,hy⟩: ∃y,m[i]? =some y:=⟨m[i]'(by omega),List.getElem?_eq_getElem (by omega)⟩
    obtain ⟨k1,rfl,hk1,q0⟩:=strs_at H1.out hx
    obtain ⟨k2,rfl,hk2,r0⟩:=strs_at H2.out hy
    have hb2:=HB.out.trans (hwr.mono HB.out.size)
    have q0:=(hb2.cell (p:=⟨k1,i,none⟩) hk1).trans q0
    have r0:=(hb2.cell (p:=⟨k2,i,none⟩) hk2).trans r0
    have HR:=hid hwr
    have HT:=hid htk
    have HX:=hid hx
    have HY:=hid hy
    clear hb2 hk1 hk2 hwr htk hx hy
    by_cases he:x=y
    ·subst he
     have hx:((bs x).toList==(bs x).toList)=true:=by simp
     go_wp2_with fail
     go_quiet (fail)
     go_wp2_with fail
     go_roundw
     case rel=>exact ⟨i+1,by go_num,by omega,take_snoc8 HT.out HX.out HY.out rfl,drewN8 HR.out _⟩
     case measure=>simp;omega
    ·have hd:decide (l=m)=false:=decide_eq_false (ne_at8 HX.out HY.out he)
     have HD:=hid hd
     clear hd
     have hx:((bs x).toList==(bs y).toList)=false:=by rw [ByteArray.toList_eq,ByteArray.toList_eq,bs_list,bs_list];exact beq_eq_false_iff_ne.2 he
     go_wp2_with fail
     go_quiet (fail)
     go_wp2_with fail
     go_ret
     exact ⟨by rw [HD.out];rfl,drewN8 HR.out _⟩
   ·have hi2:i=l.length:=by omega
    subst hi2
    have he:l=m:=eq_take8 _ htk rfl hl.symm
    have HR:=hid hwr
    clear hwr htk
    have HD:=hid (decide_eq_true he)
    clear he
    go_wp2_with fail
    go_ret
    exact ⟨by rw [HD.out];rfl,HR.out⟩
 ·have hlI:((l.length:Int) !=(m.length:Int))=true:=by simp;omega
  have he:decide (l=m)=false:=decide_eq_false (fun e=>hl (by rw [e]))
  rw [he]
  clear he hl
  go_enter Tryz.func80, Tryz.ntmps80
  go_wp2_with fail
  go_ret
  exact ⟨rfl,HW.out⟩
set_option maxHeartbeats 2000000 in
set_option maxRecDepth 100000 in
theorem sleq_C {W0 w:World} (hb:Below W0.heap.size W0 w) {v1 v2:Value} {l m:List (Nat×Nat)} (h1:SlR 2 CaC W0 v1 l) (h2:SlR 2 CaC W0 v2 m):
  Calls Tryz.prog 84 #[v1,v2] w fun e w'=>e= .returned (.bool (decide (l=m)))∧Below w.heap.size w w':=by
 have hn1:=h1.lenA
 have HB:=hid hb
 obtain ⟨a1,c1,rfl, -⟩:=h1.shape
 obtain ⟨a2,c2,rfl, -⟩:=h2.shape
 have H1:=hid h1
 have H2:=hid h2
 have HW:=hid (Below.refl w.heap.size w)
 clear hb h1 h2
 by_cases hl:l.length=m.length
 ·have hlI:((l.length:Int) !=(m.length:Int))=false:=by simp [hl]
  go_enter Tryz.func84, Tryz.ntmps84
  go_wp2_with fail
  clear hlI
  go_loopw [13,5] (fun s13 s5 wr=> ∃i:Nat,s13= .int .i64 (i:Int)∧i≤l.length∧l.take i=m.take i∧Below w.heap.size w wr) (fun s13 _ _=>l.length - (match s13 with| .int _ i=>i.toNat|_=>0))
  case atStart=>exact ⟨0,rfl,Nat.zero_le _,by simp,HW.out⟩
  case round=>
   obtain ⟨i,rfl,hi,htk,hwr⟩:=hrel
   by_cases hlt:i<l.length
   ·have hltI:(i:Int)<(l.length:Int):=by omega
    have hltM:(i:Int)<(m.length:Int):=by omega
    have hw1:IntKind.i64.wrap ((i:Int)+1)=(i:Int)+1:=IntWalk.i64_in _ (by omega)
    obtain ⟨x,hx⟩: ∃x,l[i]? =some x:=⟨l[i],List.getElem?_eq_getElem hlt⟩
    obtain ⟨y,hy⟩: ∃y,m[i]? =some y:=⟨m[i]'(by omega),List.getElem?_eq_getElem (by omega)⟩
    obtain ⟨k1,rfl,hk1,q0,q1⟩:=cas_at H1.out hx
    obtain ⟨k2,rfl,hk2,r0,r1⟩:=cas_at H2.out hy
    have hb2:=HB.out.trans (hwr.mono HB.out.size)
    have q0:=(hb2.cell (p:=⟨k1,i*2,none⟩) hk1).trans q0
    have r0:=(hb2.cell (p:=⟨k2,i*2,none⟩) hk2).trans r0
    have q1:=(hb2.cell (p:=⟨k1,i*2+1,none⟩) hk1).trans q1
    have r1:=(hb2.cell (p:=⟨k2,i*2+1,none⟩) hk2).trans r1
    have HR:=hid hwr
    have HT:=hid htk
    have HX:=hid hx
    have HY:=hid hy
    clear hb2 hk1 hk2 hwr htk hx hy
    by_cases he:x=y
    ·subst he
     skip
     go_wp2_with fail
     go_quiet (fail)
     go_wp2_with fail
     go_roundw
     case rel=>exact ⟨i+1,by go_num,by omega,take_snoc8 HT.out HX.out HY.out rfl,drewN8 HR.out _⟩
     case measure=>simp;omega
    ·have hd:decide (l=m)=false:=decide_eq_false (ne_at8 HX.out HY.out he)
     have HD:=hid hd
     clear hd
     by_cases h1:x.1=y.1
     ·have h2: ¬x.2=y.2:=fun e=>he (Prod.ext h1 e)
      have g1:(x.1:Int)=(y.1:Int):=by rw [h1]
      have g2: ¬(x.2:Int)=(y.2:Int):=by omega
      go_wp2_with fail
      go_quiet (fail)
      go_wp2_with fail
      go_ret
      exact ⟨by rw [HD.out];rfl,drewN8 HR.out _⟩
     ·have g1: ¬(x.1:Int)=(y.1:Int):=by omega
      go_wp2_with fail
      go_quiet (fail)
      go_wp2_with fail
      go_ret
      exact ⟨by rw [HD.out];rfl,drewN8 HR.out _⟩
   ·have hi2:i=l.length:=by omega
    subst hi2
    have he:l=m:=eq_take8 _ htk rfl hl.symm
    have HR:=hid hwr
    clear hwr htk
    have HD:=hid (decide_eq_true he)
    clear he
    go_wp2_with fail
    go_ret
    exact ⟨by rw [HD.out];rfl,HR.out⟩
 ·have hlI:((l.length:Int) !=(m.length:Int))=true:=by simp;omega
  have he:decide (l=m)=false:=decide_eq_false (fun e=>hl (by rw [e]))
  rw [he]
  clear he hl
  go_enter Tryz.func84, Tryz.ntmps84
  go_wp2_with fail
  go_ret
  exact ⟨rfl,HW.out⟩
set_option maxHeartbeats 2000000 in
set_option maxRecDepth 100000 in
theorem sleq_U {W0 w:World} (hb:Below W0.heap.size W0 w) {v1 v2:Value} {l m:List (List UInt8×Nat)} (h1:SlR 2 SuC W0 v1 l) (h2:SlR 2 SuC W0 v2 m):
  Calls Tryz.prog 130 #[v1,v2] w fun e w'=>e= .returned (.bool (decide (l=m)))∧Below w.heap.size w w':=by
 have hn1:=h1.lenA
 have HB:=hid hb
 obtain ⟨a1,c1,rfl, -⟩:=h1.shape
 obtain ⟨a2,c2,rfl, -⟩:=h2.shape
 have H1:=hid h1
 have H2:=hid h2
 have HW:=hid (Below.refl w.heap.size w)
 clear hb h1 h2
 by_cases hl:l.length=m.length
 ·have hlI:((l.length:Int) !=(m.length:Int))=false:=by simp [hl]
  go_enter Tryz.func130, Tryz.ntmps130
  go_wp2_with fail
  clear hlI
  go_loopw [13,5] (fun s13 s5 wr=> ∃i:Nat,s13= .int .i64 (i:Int)∧i≤l.length∧l.take i=m.take i∧Below w.heap.size w wr) (fun s13 _ _=>l.length - (match s13 with| .int _ i=>i.toNat|_=>0))
  case atStart=>exact ⟨0,rfl,Nat.zero_le _,by simp,HW.out⟩
  case round=>
   obtain ⟨i,rfl,hi,htk,hwr⟩:=hrel
   by_cases hlt:i<l.length
   ·have hltI:(i:Int)<(l.length:Int):=by omega
    have hltM:(i:Int)<(m.length:Int):=by omega
    have hw1:IntKind.i64.wrap ((i:Int)+1)=(i:Int)+1:=IntWalk.i64_in _ (by omega)
    obtain ⟨x,hx⟩: ∃x,l[i]? =some x:=⟨l[i],List.getElem?_eq_getElem hlt⟩
    obtain ⟨y,hy⟩: ∃y,m[i]? =some y:=⟨m[i]'(by omega),List.getElem?_eq_getElem (by omega)⟩
    obtain ⟨k1,rfl,hk1,q0,q1⟩:=subs_at H1.out hx
    obtain ⟨k2,rfl,hk2,r0,r1⟩:=subs_at H2.out hy
    have hb2:=HB.out.trans (hwr.mono HB.out.size)
    have q0:=(hb2.cell (p:=⟨k1,i*2,none⟩) hk1).trans q0
    have r0:=(hb2.cell (p:=⟨k2,i*2,none⟩) hk2).trans r0
    have q1:=(hb2.cell (p:=⟨k1,i*2+1,none⟩) hk1).trans q1
    have r1:=(hb2.cell (p:=⟨k2,i*2+1,none⟩) hk2).trans r1
    have HR:=hid hwr
    have HT:=hid htk
    have HX:=hid hx
    have HY:=hid hy
    clear hb2 hk1 hk2 hwr htk hx hy
    by_cases he:x=y
    ·subst he
     skip
     go_wp2_with fail
     go_quiet (fail)
     go_wp2_with fail
     go_roundw
     case rel=>exact ⟨i+1,by go_num,by omega,take_snoc8 HT.out HX.out HY.out rfl,drewN8 HR.out _⟩
     case measure=>simp;omega
    ·have hd:decide (l=m)=false:=decide_eq_false (ne_at8 HX.out HY.out he)
     have HD:=hid hd
     clear hd
     by_cases h1:x.1=y.1
     ·have h2: ¬x.2=y.2:=fun e=>he (Prod.ext h1 e)
      have g1:(bs x.1).toList=(bs y.1).toList:=by rw [h1]
      have g2: ¬(x.2:Int)=(y.2:Int):=by omega
      go_wp2_with fail
      go_quiet (fail)
      go_wp2_with fail
      go_ret
      exact ⟨by rw [HD.out];rfl,drewN8 HR.out _⟩
     ·have g1: ¬(bs x.1).toList=(bs y.1).toList:=fun e=>h1 (bs_inj8 e)
      go_wp2_with fail
      go_quiet (fail)
      go_wp2_with fail
      go_ret
      exact ⟨by rw [HD.out];rfl,drewN8 HR.out _⟩
   ·have hi2:i=l.length:=by omega
    subst hi2
    have he:l=m:=eq_take8 _ htk rfl hl.symm
    have HR:=hid hwr
    clear hwr htk
    have HD:=hid (decide_eq_true he)
    clear he
    go_wp2_with fail
    go_ret
    exact ⟨by rw [HD.out];rfl,HR.out⟩
 ·have hlI:((l.length:Int) !=(m.length:Int))=true:=by simp;omega
  have he:decide (l=m)=false:=decide_eq_false (fun e=>hl (by rw [e]))
  rw [he]
  clear he hl
  go_enter Tryz.func130, Tryz.ntmps130
  go_wp2_with fail
  go_ret
  exact ⟨rfl,HW.out⟩
set_option maxHeartbeats 2000000 in
set_option maxRecDepth 100000 in
theorem sleq_K {W0 w:World} (hb:Below W0.heap.size W0 w) {v1 v2:Value} {l m:List (List UInt8×Nat)} (h1:SlR 2 CoC W0 v1 l) (h2:SlR 2 CoC W0 v2 m):
  Calls Tryz.prog 37 #[v1,v2] w fun e w'=>e= .returned (.bool (decide (l=m)))∧Below w.heap.size w w':=by
 have hn1:=h1.lenA
 have HB:=hid hb
 obtain ⟨a1,c1,rfl, -⟩:=h1.shape
 obtain ⟨a2,c2,rfl, -⟩:=h2.shape
 have H1:=hid h1
 have H2:=hid h2
 have HW:=hid (Below.refl w.heap.size w)
 clear hb h1 h2
 by_cases hl:l.length=m.length
 ·have hlI:((l.length:Int) !=(m.length:Int))=false:=by simp [hl]
  go_enter Tryz.func37, Tryz.ntmps37
  go_wp2_with fail
  clear hlI
  go_loopw [13,5] (fun s13 s5 wr=> ∃i:Nat,s13= .int .i64 (i:Int)∧i≤l.length∧l.take i=m.take i∧Below w.heap.size w wr) (fun s13 _ _=>l.length - (match s13 with| .int _ i=>i.toNat|_=>0))
  case atStart=>exact ⟨0,rfl,Nat.zero_le _,by simp,HW.out⟩
  case round=>
   obtain ⟨i,rfl,hi,htk,hwr⟩:=hrel
   by_cases hlt:i<l.length
   ·have hltI:(i:Int)<(l.length:Int):=by omega
    have hltM:(i:Int)<(m.length:Int):=by omega
    have hw1:IntKind.i64.wrap ((i:Int)+1)=(i:Int)+1:=IntWalk.i64_in _ (by omega)
    obtain ⟨x,hx⟩: ∃x,l[i]? =some x:=⟨l[i],List.getElem?_eq_getElem hlt⟩
    obtain ⟨y,hy⟩: ∃y,m[i]? =some y:=⟨m[i]'(by omega),List.getElem?_eq_getElem (by omega)⟩
    obtain ⟨k1,rfl,hk1,q0,q1⟩:=cos_at H1.out hx
    obtain ⟨k2,rfl,hk2,r0,r1⟩:=cos_at H2.out hy
    have hb2:=HB.out.trans (hwr.mono HB.out.size)
    have q0:=(hb2.cell (p:=⟨k1,i*2,none⟩) hk1).trans q0
    have r0:=(hb2.cell (p:=⟨k2,i*2,none⟩) hk2).trans r0
    have q1:=(hb2.cell (p:=⟨k1,i*2+1,none⟩) hk1).trans q1
    have r1:=(hb2.cell (p:=⟨k2,i*2+1,none⟩) hk2).trans r1
    have HR:=hid hwr
    have HT:=hid htk
    have HX:=hid hx
    have HY:=hid hy
    clear hb2 hk1 hk2 hwr htk hx hy
    by_cases he:x=y
    ·subst he
     skip
     go_wp2_with fail
     go_quiet (fail)
     go_wp2_with fail
     go_roundw
     case rel=>exact ⟨i+1,by go_num,by omega,take_snoc8 HT.out HX.out HY.out rfl,drewN8 HR.out _⟩
     case measure=>simp;omega
    ·have hd:decide (l=m)=false:=decide_eq_false (ne_at8 HX.out HY.out he)
     have HD:=hid hd
     clear hd
     by_cases h1:x.1=y.1
     ·have h2: ¬x.2=y.2:=fun e=>he (Prod.ext h1 e)
      have g1:(bs x.1).toList=(bs y.1).toList:=by rw [h1]
      have g2: ¬(x.2:Int)=(y.2:Int):=by omega
      go_wp2_with fail
      go_quiet (fail)
      go_wp2_with fail
      go_ret
      exact ⟨by rw [HD.out];rfl,drewN8 HR.out _⟩
     ·have g1: ¬(bs x.1).toList=(bs y.1).toList:=fun e=>h1 (bs_inj8 e)
      go_wp2_with fail
      go_quiet (fail)
      go_wp2_with fail
      go_ret
      exact ⟨by rw [HD.out];rfl,drewN8 HR.out _⟩
   ·have hi2:i=l.length:=by omega
    subst hi2
    have he:l=m:=eq_take8 _ htk rfl hl.symm
    have HR:=hid hwr
    clear hwr htk
    have HD:=hid (decide_eq_true he)
    clear he
    go_wp2_with fail
    go_ret
    exact ⟨by rw [HD.out];rfl,HR.out⟩
 ·have hlI:((l.length:Int) !=(m.length:Int))=true:=by simp;omega
  have he:decide (l=m)=false:=decide_eq_false (fun e=>hl (by rw [e]))
  rw [he]
  clear he hl
  go_enter Tryz.func37, Tryz.ntmps37
  go_wp2_with fail
  go_ret
  exact ⟨rfl,HW.out⟩
end Go.Proofs.YtomimkgaelkaoaaGreatDoor
namespace Go.Proofs.YtomimkgaelkaoaaGreatDoor
open Go.Lib (hid)
open Go.ChangeShapes Go.WideShapes Go.ChangeAt Go.RowKit
theorem str_eq8 {a b:List UInt8} (h:a=b):((bs a).toList==(bs b).toList)=true:=by rw [h];simp
theorem str_ne8 {a b:List UInt8} (h: ¬a=b):((bs a).toList==(bs b).toList)=false:=beq_eq_false_iff_ne.2 fun e=>h (bs_inj8 e)
set_option maxHeartbeats 4000000 in
set_option maxRecDepth 100000 in
theorem sameItem {W0 w:World} (hb:Below W0.heap.size W0 w) (x y:IM) {x8 y8:Option Addr} {xc8 yc8:Nat} (hx8:SlR 2 SuC W0 (.slice x8 x.subs.length xc8) x.subs) (hy8:SlR 2 SuC W0 (.slice y8 y.subs.length yc8) y.subs):
  Calls Tryz.prog 82 #[.agg #[.string (bs x.s), .int .i64 x.t, .int .i64 (x.der:Int), .string (bs x.a), .string (bs x.b), .int .i64 x.wh, .int .i64 (x.size:Int), .bool x.little, .slice x8 x.subs.length xc8], .agg #[.string (bs y.s), .int .i64 y.t, .int .i64 (y.der:Int), .string (bs y.a), .string (bs y.b), .int .i64 y.wh, .int .i64 (y.size:Int), .bool y.little, .slice y8 y.subs.length yc8]] w fun e w'=>e= .returned (.bool (decide (x=y)))∧Below w.heap.size w w':=by
 have hx:=heap_alloc_new w (.cells #[.string (bs x.s), .int .i64 x.t, .int .i64 (x.der:Int), .string (bs x.a), .string (bs x.b), .int .i64 x.wh, .int .i64 (x.size:Int), .bool x.little, .slice x8 x.subs.length xc8] 129)
 have hs1:(w.alloc (.cells #[.string (bs x.s), .int .i64 x.t, .int .i64 (x.der:Int), .string (bs x.a), .string (bs x.b), .int .i64 x.wh, .int .i64 (x.size:Int), .bool x.little, .slice x8 x.subs.length xc8] 129)).heap.size=w.heap.size+1:=by simp
 have hy:=heap_alloc_new (w.alloc (.cells #[.string (bs x.s), .int .i64 x.t, .int .i64 (x.der:Int), .string (bs x.a), .string (bs x.b), .int .i64 x.wh, .int .i64 (x.size:Int), .bool x.little, .slice x8 x.subs.length xc8] 129)) (.cells #[.string (bs y.s), .int .i64 y.t, .int .i64 (y.der:Int), .string (bs y.a), .string (bs y.b), .int .i64 y.wh, .int .i64 (y.size:Int), .bool y.little, .slice y8 y.subs.length yc8] 129)
 rw [hs1] at hy
 have hx2:((w.alloc (.cells #[.string (bs x.s), .int .i64 x.t, .int .i64 (x.der:Int), .string (bs x.a), .string (bs x.b), .int .i64 x.wh, .int .i64 (x.size:Int), .bool x.little, .slice x8 x.subs.length xc8] 129)).alloc (.cells #[.string (bs y.s), .int .i64 y.t, .int .i64 (y.der:Int), .string (bs y.a), .string (bs y.b), .int .i64 y.wh, .int .i64 (y.size:Int), .bool y.little, .slice y8 y.subs.length yc8] 129)).heap[w.heap.size]? =some (.cells #[.string (bs x.s), .int .i64 x.t, .int .i64 (x.der:Int), .string (bs x.a), .string (bs x.b), .int .i64 x.wh, .int .i64 (x.size:Int), .bool x.little, .slice x8 x.subs.length xc8] 129 (0,0)):=by rw [Below.heap_alloc _ _ _ (by omega)];exact hx
 have hB:Below w.heap.size w ((w.alloc (.cells #[.string (bs x.s), .int .i64 x.t, .int .i64 (x.der:Int), .string (bs x.a), .string (bs x.b), .int .i64 x.wh, .int .i64 (x.size:Int), .bool x.little, .slice x8 x.subs.length xc8] 129)).alloc (.cells #[.string (bs y.s), .int .i64 y.t, .int .i64 (y.der:Int), .string (bs y.a), .string (bs y.b), .int .i64 y.wh, .int .i64 (y.size:Int), .bool y.little, .slice y8 y.subs.length yc8] 129)):=(below_box _ _).alloc (by simp) _
 have HB:=hid hB
 have HB0:=hid (hb.trans (hB.mono hb.size))
 obtain ⟨⟨a0,a1,a2,a3,a4,a5,a6,a7,a8⟩, -, -⟩:=cells9 hx2
 obtain ⟨⟨b0,b1,b2,b3,b4,b5,b6,b7,b8⟩, -, -⟩:=cells9 hy
 have HX:=hid hx2
 have HY:=hid hy
 have HZ:Hid (w.heap.size<((w.alloc (.cells #[.string (bs x.s), .int .i64 x.t, .int .i64 (x.der:Int), .string (bs x.a), .string (bs x.b), .int .i64 x.wh, .int .i64 (x.size:Int), .bool x.little, .slice x8 x.subs.length xc8] 129)).alloc (.cells #[.string (bs y.s), .int .i64 y.t, .int .i64 (y.der:Int), .string (bs y.a), .string (bs y.b), .int .i64 y.wh, .int .i64 (y.size:Int), .bool y.little, .slice y8 y.subs.length yc8] 129)).heap.size∧w.heap.size+1<((w.alloc (.cells #[.string (bs x.s), .int .i64 x.t, .int .i64 (x.der:Int), .string (bs x.a), .string (bs x.b), .int .i64 x.wh, .int .i64 (x.size:Int), .bool x.little, .slice x8 x.subs.length xc8] 129)).alloc (.cells #[.string (bs y.s), .int .i64 y.t, .int .i64 (y.der:Int), .string (bs y.a), .string (bs y.b), .int .i64 y.wh, .int .i64 (y.size:Int), .bool y.little, .slice y8 y.subs.length yc8] 129)).heap.size):=hid (by simp;omega)
 clear hx hs1 hy hx2 hb hB
 have CL8:=hid fun w' (hb':Below ((w.alloc (.cells #[.string (bs x.s), .int .i64 x.t, .int .i64 (x.der:Int), .string (bs x.a), .string (bs x.b), .int .i64 x.wh, .int .i64 (x.size:Int), .bool x.little, .slice x8 x.subs.length xc8] 129)).alloc (.cells #[.string (bs y.s), .int .i64 y.t, .int .i64 (y.der:Int), .string (bs y.a), .string (bs y.b), .int .i64 y.wh, .int .i64 (y.size:Int), .bool y.little, .slice y8 y.subs.length yc8] 129)).heap.size ((w.alloc (.cells #[.string (bs x.s), .int .i64 x.t, .int .i64 (x.der:Int), .string (bs x.a), .string (bs x.b), .int .i64 x.wh, .int .i64 (x.size:Int), .bool x.little, .slice x8 x.subs.length xc8] 129)).alloc (.cells #[.string (bs y.s), .int .i64 y.t, .int .i64 (y.der:Int), .string (bs y.a), .string (bs y.b), .int .i64 y.wh, .int .i64 (y.size:Int), .bool y.little, .slice y8 y.subs.length yc8] 129)) w')=>sleq_U (HB0.out.trans (hb'.mono HB0.out.size)) hx8 hy8
 clear hx8 hy8
 by_cases h0:x.s=y.s
 rotate_left
 ·have e0:((bs x.s).toList==(bs y.s).toList)=false:=str_ne8 h0
  have HD:Hid (decide (x=y)=false):=hid (decide_eq_false fun e=>h0 (by rw [e]))
  clear h0
  go_enter Tryz.func82, Tryz.ntmps82
  go_wp2_with fail
  go_ret
  exact ⟨by rw [HD.out];rfl,HB.out⟩
 have e0:((bs x.s).toList==(bs y.s).toList)=true:=str_eq8 h0
 by_cases h1:x.t=y.t
 rotate_left
 ·have e1:(((x.t)==(y.t)))=false:=beq_eq_false_iff_ne.2 h1
  have HD:Hid (decide (x=y)=false):=hid (decide_eq_false fun e=>h1 (by rw [e]))
  clear h0 h1
  go_enter Tryz.func82, Tryz.ntmps82
  go_wp2_with fail
  go_ret
  exact ⟨by rw [HD.out];rfl,HB.out⟩
 have e1:(((x.t)==(y.t)))=true:=beq_iff_eq.2 h1
 by_cases h2:x.der=y.der
 rotate_left
 ·have e2:(((x.der:Int)==(y.der:Int)))=false:=beq_eq_false_iff_ne.2 (by omega)
  have HD:Hid (decide (x=y)=false):=hid (decide_eq_false fun e=>h2 (by rw [e]))
  clear h0 h1 h2
  go_enter Tryz.func82, Tryz.ntmps82
  go_wp2_with fail
  go_ret
  exact ⟨by rw [HD.out];rfl,HB.out⟩
 have e2:(((x.der:Int)==(y.der:Int)))=true:=beq_iff_eq.2 (by omega)
 by_cases h3:x.a=y.a
 rotate_left
 ·have e3:((bs x.a).toList==(bs y.a).toList)=false:=str_ne8 h3
  have HD:Hid (decide (x=y)=false):=hid (decide_eq_false fun e=>h3 (by rw [e]))
  clear h0 h1 h2 h3
  go_enter Tryz.func82, Tryz.ntmps82
  go_wp2_with fail
  go_ret
  exact ⟨by rw [HD.out];rfl,HB.out⟩
 have e3:((bs x.a).toList==(bs y.a).toList)=true:=str_eq8 h3
 by_cases h4:x.b=y.b
 rotate_left
 ·have e4:((bs x.b).toList==(bs y.b).toList)=false:=str_ne8 h4
  have HD:Hid (decide (x=y)=false):=hid (decide_eq_false fun e=>h4 (by rw [e]))
  clear h0 h1 h2 h3 h4
  go_enter Tryz.func82, Tryz.ntmps82
  go_wp2_with fail
  go_ret
  exact ⟨by rw [HD.out];rfl,HB.out⟩
 have e4:((bs x.b).toList==(bs y.b).toList)=true:=str_eq8 h4
 by_cases h5:x.wh=y.wh
 rotate_left
 ·have e5:(((x.wh)==(y.wh)))=false:=beq_eq_false_iff_ne.2 h5
  have HD:Hid (decide (x=y)=false):=hid (decide_eq_false fun e=>h5 (by rw [e]))
  clear h0 h1 h2 h3 h4 h5
  go_enter Tryz.func82, Tryz.ntmps82
  go_wp2_with fail
  go_ret
  exact ⟨by rw [HD.out];rfl,HB.out⟩
 have e5:(((x.wh)==(y.wh)))=true:=beq_iff_eq.2 h5
 by_cases h6:x.size=y.size
 rotate_left
 ·have e6:(((x.size:Int)==(y.size:Int)))=false:=beq_eq_false_iff_ne.2 (by omega)
  have HD:Hid (decide (x=y)=false):=hid (decide_eq_false fun e=>h6 (by rw [e]))
  clear h0 h1 h2 h3 h4 h5 h6
  go_enter Tryz.func82, Tryz.ntmps82
  go_wp2_with fail
  go_ret
  exact ⟨by rw [HD.out];rfl,HB.out⟩
 have e6:(((x.size:Int)==(y.size:Int)))=true:=beq_iff_eq.2 (by omega)
 by_cases h7:x.little=y.little
 rotate_left
 ·have e7:(x.little==y.little)=false:=beq_eq_false_iff_ne.2 h7
  have HD:Hid (decide (x=y)=false):=hid (decide_eq_false fun e=>h7 (by rw [e]))
  clear h0 h1 h2 h3 h4 h5 h6 h7
  go_enter Tryz.func82, Tryz.ntmps82
  go_wp2_with fail
  go_ret
  exact ⟨by rw [HD.out];rfl,HB.out⟩
 have e7:(x.little==y.little)=true:=beq_iff_eq.2 h7
 have HD:Hid (decide (x=y)=decide (x.subs=y.subs)):=hid (by
  obtain ⟨u0,u1,u2,u3,u4,u5,u6,u7,u8⟩:=x
  obtain ⟨v0,v1,v2,v3,v4,v5,v6,v7,v8⟩:=y
  simp_all)
 clear h0 h1 h2 h3 h4 h5 h6 h7
 go_enter Tryz.func82, Tryz.ntmps82
 go_wp2_with (go_at_call 130;(with_reducible refine (CL8.out _ (Below.refl _ _)).mono ?_);rintro e w2 ⟨rfl,hb2⟩)
 go_ret
 exact ⟨by rw [HD.out];rfl,HB.out.trans (hb2.mono HB.out.size)⟩
set_option maxHeartbeats 4000000 in
set_option maxRecDepth 100000 in
theorem sameType {W0 w:World} (hb:Below W0.heap.size W0 w) (x y:TG) {x4 y4:Option Addr} {xc4 yc4:Nat} {x7 y7:Option Addr} {xc7 yc7:Nat} (hx4:SlR 1 IntC W0 (.slice x4 x.args.length xc4) x.args) (hy4:SlR 1 IntC W0 (.slice y4 y.args.length yc4) y.args) (hx7:SlR 2 CaC W0 (.slice x7 x.cs.length xc7) x.cs) (hy7:SlR 2 CaC W0 (.slice y7 y.cs.length yc7) y.cs):
  Calls Tryz.prog 43 #[.agg #[.int .i64 x.k, .int .i64 (x.size:Int), .bool x.little, .string (bs x.s), .slice x4 x.args.length xc4, .int .i64 x.e, .int .i64 x.i, .slice x7 x.cs.length xc7], .agg #[.int .i64 y.k, .int .i64 (y.size:Int), .bool y.little, .string (bs y.s), .slice y4 y.args.length yc4, .int .i64 y.e, .int .i64 y.i, .slice y7 y.cs.length yc7]] w fun e w'=>e= .returned (.bool (decide (x=y)))∧Below w.heap.size w w':=by
 have hx:=heap_alloc_new w (.cells #[.int .i64 x.k, .int .i64 (x.size:Int), .bool x.little, .string (bs x.s), .slice x4 x.args.length xc4, .int .i64 x.e, .int .i64 x.i, .slice x7 x.cs.length xc7] 44)
 have hs1:(w.alloc (.cells #[.int .i64 x.k, .int .i64 (x.size:Int), .bool x.little, .string (bs x.s), .slice x4 x.args.length xc4, .int .i64 x.e, .int .i64 x.i, .slice x7 x.cs.length xc7] 44)).heap.size=w.heap.size+1:=by simp
 have hy:=heap_alloc_new (w.alloc (.cells #[.int .i64 x.k, .int .i64 (x.size:Int), .bool x.little, .string (bs x.s), .slice x4 x.args.length xc4, .int .i64 x.e, .int .i64 x.i, .slice x7 x.cs.length xc7] 44)) (.cells #[.int .i64 y.k, .int .i64 (y.size:Int), .bool y.little, .string (bs y.s), .slice y4 y.args.length yc4, .int .i64 y.e, .int .i64 y.i, .slice y7 y.cs.length yc7] 44)
 rw [hs1] at hy
 have hx2:((w.alloc (.cells #[.int .i64 x.k, .int .i64 (x.size:Int), .bool x.little, .string (bs x.s), .slice x4 x.args.length xc4, .int .i64 x.e, .int .i64 x.i, .slice x7 x.cs.length xc7] 44)).alloc (.cells #[.int .i64 y.k, .int .i64 (y.size:Int), .bool y.little, .string (bs y.s), .slice y4 y.args.length yc4, .int .i64 y.e, .int .i64 y.i, .slice y7 y.cs.length yc7] 44)).heap[w.heap.size]? =some (.cells #[.int .i64 x.k, .int .i64 (x.size:Int), .bool x.little, .string (bs x.s), .slice x4 x.args.length xc4, .int .i64 x.e, .int .i64 x.i, .slice x7 x.cs.length xc7] 44 (0,0)):=by rw [Below.heap_alloc _ _ _ (by omega)];exact hx
 have hB:Below w.heap.size w ((w.alloc (.cells #[.int .i64 x.k, .int .i64 (x.size:Int), .bool x.little, .string (bs x.s), .slice x4 x.args.length xc4, .int .i64 x.e, .int .i64 x.i, .slice x7 x.cs.length xc7] 44)).alloc (.cells #[.int .i64 y.k, .int .i64 (y.size:Int), .bool y.little, .string (bs y.s), .slice y4 y.args.length yc4, .int .i64 y.e, .int .i64 y.i, .slice y7 y.cs.length yc7] 44)):=(below_box _ _).alloc (by simp) _
 have HB:=hid hB
 have HB0:=hid (hb.trans (hB.mono hb.size))
 obtain ⟨⟨a0,a1,a2,a3,a4,a5,a6,a7⟩, -, -⟩:=cells8 hx2
 obtain ⟨⟨b0,b1,b2,b3,b4,b5,b6,b7⟩, -, -⟩:=cells8 hy
 have HX:=hid hx2
 have HY:=hid hy
 have HZ:Hid (w.heap.size<((w.alloc (.cells #[.int .i64 x.k, .int .i64 (x.size:Int), .bool x.little, .string (bs x.s), .slice x4 x.args.length xc4, .int .i64 x.e, .int .i64 x.i, .slice x7 x.cs.length xc7] 44)).alloc (.cells #[.int .i64 y.k, .int .i64 (y.size:Int), .bool y.little, .string (bs y.s), .slice y4 y.args.length yc4, .int .i64 y.e, .int .i64 y.i, .slice y7 y.cs.length yc7] 44)).heap.size∧w.heap.size+1<((w.alloc (.cells #[.int .i64 x.k, .int .i64 (x.size:Int), .bool x.little, .string (bs x.s), .slice x4 x.args.length xc4, .int .i64 x.e, .int .i64 x.i, .slice x7 x.cs.length xc7] 44)).alloc (.cells #[.int .i64 y.k, .int .i64 (y.size:Int), .bool y.little, .string (bs y.s), .slice y4 y.args.length yc4, .int .i64 y.e, .int .i64 y.i, .slice y7 y.cs.length yc7] 44)).heap.size):=hid (by simp;omega)
 clear hx hs1 hy hx2 hb hB
 have CL4:=hid fun w' (hb':Below ((w.alloc (.cells #[.int .i64 x.k, .int .i64 (x.size:Int), .bool x.little, .string (bs x.s), .slice x4 x.args.length xc4, .int .i64 x.e, .int .i64 x.i, .slice x7 x.cs.length xc7] 44)).alloc (.cells #[.int .i64 y.k, .int .i64 (y.size:Int), .bool y.little, .string (bs y.s), .slice y4 y.args.length yc4, .int .i64 y.e, .int .i64 y.i, .slice y7 y.cs.length yc7] 44)).heap.size ((w.alloc (.cells #[.int .i64 x.k, .int .i64 (x.size:Int), .bool x.little, .string (bs x.s), .slice x4 x.args.length xc4, .int .i64 x.e, .int .i64 x.i, .slice x7 x.cs.length xc7] 44)).alloc (.cells #[.int .i64 y.k, .int .i64 (y.size:Int), .bool y.little, .string (bs y.s), .slice y4 y.args.length yc4, .int .i64 y.e, .int .i64 y.i, .slice y7 y.cs.length yc7] 44)) w')=>sleq_N (HB0.out.trans (hb'.mono HB0.out.size)) hx4 hy4
 clear hx4 hy4
 have CL7:=hid fun w' (hb':Below ((w.alloc (.cells #[.int .i64 x.k, .int .i64 (x.size:Int), .bool x.little, .string (bs x.s), .slice x4 x.args.length xc4, .int .i64 x.e, .int .i64 x.i, .slice x7 x.cs.length xc7] 44)).alloc (.cells #[.int .i64 y.k, .int .i64 (y.size:Int), .bool y.little, .string (bs y.s), .slice y4 y.args.length yc4, .int .i64 y.e, .int .i64 y.i, .slice y7 y.cs.length yc7] 44)).heap.size ((w.alloc (.cells #[.int .i64 x.k, .int .i64 (x.size:Int), .bool x.little, .string (bs x.s), .slice x4 x.args.length xc4, .int .i64 x.e, .int .i64 x.i, .slice x7 x.cs.length xc7] 44)).alloc (.cells #[.int .i64 y.k, .int .i64 (y.size:Int), .bool y.little, .string (bs y.s), .slice y4 y.args.length yc4, .int .i64 y.e, .int .i64 y.i, .slice y7 y.cs.length yc7] 44)) w')=>sleq_C (HB0.out.trans (hb'.mono HB0.out.size)) hx7 hy7
 clear hx7 hy7
 by_cases h0:x.k=y.k
 rotate_left
 ·have e0:(((x.k)==(y.k)))=false:=beq_eq_false_iff_ne.2 h0
  have HD:Hid (decide (x=y)=false):=hid (decide_eq_false fun e=>h0 (by rw [e]))
  clear h0
  go_enter Tryz.func43, Tryz.ntmps43
  go_wp2_with fail
  go_ret
  exact ⟨by rw [HD.out];rfl,HB.out⟩
 have e0:(((x.k)==(y.k)))=true:=beq_iff_eq.2 h0
 by_cases h1:x.size=y.size
 rotate_left
 ·have e1:(((x.size:Int)==(y.size:Int)))=false:=beq_eq_false_iff_ne.2 (by omega)
  have HD:Hid (decide (x=y)=false):=hid (decide_eq_false fun e=>h1 (by rw [e]))
  clear h0 h1
  go_enter Tryz.func43, Tryz.ntmps43
  go_wp2_with fail
  go_ret
  exact ⟨by rw [HD.out];rfl,HB.out⟩
 have e1:(((x.size:Int)==(y.size:Int)))=true:=beq_iff_eq.2 (by omega)
 by_cases h2:x.little=y.little
 rotate_left
 ·have e2:(x.little==y.little)=false:=beq_eq_false_iff_ne.2 h2
  have HD:Hid (decide (x=y)=false):=hid (decide_eq_false fun e=>h2 (by rw [e]))
  clear h0 h1 h2
  go_enter Tryz.func43, Tryz.ntmps43
  go_wp2_with fail
  go_ret
  exact ⟨by rw [HD.out];rfl,HB.out⟩
 have e2:(x.little==y.little)=true:=beq_iff_eq.2 h2
 by_cases h3:x.s=y.s
 rotate_left
 ·have e3:((bs x.s).toList==(bs y.s).toList)=false:=str_ne8 h3
  have HD:Hid (decide (x=y)=false):=hid (decide_eq_false fun e=>h3 (by rw [e]))
  clear h0 h1 h2 h3
  go_enter Tryz.func43, Tryz.ntmps43
  go_wp2_with fail
  go_ret
  exact ⟨by rw [HD.out];rfl,HB.out⟩
 have e3:((bs x.s).toList==(bs y.s).toList)=true:=str_eq8 h3
 by_cases h4:x.args=y.args
 rotate_left
 ·have e4:decide (x.args=y.args)=false:=decide_eq_false h4
  have HD:Hid (decide (x=y)=false):=hid (decide_eq_false fun e=>h4 (by rw [e]))
  clear h0 h1 h2 h3 h4
  go_enter Tryz.func43, Tryz.ntmps43
  go_wp2_with (go_at_call 83;(with_reducible refine (CL4.out _ (Below.refl _ _)).mono ?_);rintro e w2 ⟨rfl,hb2⟩;have X3:=(hb2.block w.heap.size HZ.out.1).trans HX.out;have Y3:=(hb2.block (w.heap.size+1) HZ.out.2).trans HY.out;clear a0 b0 a1 b1 a2 b2 a3 b3 a4 b4 a5 b5 a6 b6 a7 b7;obtain ⟨⟨a0,a1,a2,a3,a4,a5,a6,a7⟩, -, -⟩:=cells8 X3;obtain ⟨⟨b0,b1,b2,b3,b4,b5,b6,b7⟩, -, -⟩:=cells8 Y3;clear X3 Y3)
  go_ret
  exact ⟨by rw [HD.out];rfl,HB.out.trans (hb2.mono HB.out.size)⟩
 have e4:decide (x.args=y.args)=true:=decide_eq_true h4
 by_cases h5:x.e=y.e
 rotate_left
 ·have e5:(((x.e)==(y.e)))=false:=beq_eq_false_iff_ne.2 h5
  have HD:Hid (decide (x=y)=false):=hid (decide_eq_false fun e=>h5 (by rw [e]))
  clear h0 h1 h2 h3 h4 h5
  go_enter Tryz.func43, Tryz.ntmps43
  go_wp2_with (go_at_call 83;(with_reducible refine (CL4.out _ (Below.refl _ _)).mono ?_);rintro e w2 ⟨rfl,hb2⟩;have X3:=(hb2.block w.heap.size HZ.out.1).trans HX.out;have Y3:=(hb2.block (w.heap.size+1) HZ.out.2).trans HY.out;clear a0 b0 a1 b1 a2 b2 a3 b3 a4 b4 a5 b5 a6 b6 a7 b7;obtain ⟨⟨a0,a1,a2,a3,a4,a5,a6,a7⟩, -, -⟩:=cells8 X3;obtain ⟨⟨b0,b1,b2,b3,b4,b5,b6,b7⟩, -, -⟩:=cells8 Y3;clear X3 Y3)
  go_ret
  exact ⟨by rw [HD.out];rfl,HB.out.trans (hb2.mono HB.out.size)⟩
 have e5:(((x.e)==(y.e)))=true:=beq_iff_eq.2 h5
 by_cases h6:x.i=y.i
 rotate_left
 ·have e6:(((x.i)==(y.i)))=false:=beq_eq_false_iff_ne.2 h6
  have HD:Hid (decide (x=y)=false):=hid (decide_eq_false fun e=>h6 (by rw [e]))
  clear h0 h1 h2 h3 h4 h5 h6
  go_enter Tryz.func43, Tryz.ntmps43
  go_wp2_with (go_at_call 83;(with_reducible refine (CL4.out _ (Below.refl _ _)).mono ?_);rintro e w2 ⟨rfl,hb2⟩;have X3:=(hb2.block w.heap.size HZ.out.1).trans HX.out;have Y3:=(hb2.block (w.heap.size+1) HZ.out.2).trans HY.out;clear a0 b0 a1 b1 a2 b2 a3 b3 a4 b4 a5 b5 a6 b6 a7 b7;obtain ⟨⟨a0,a1,a2,a3,a4,a5,a6,a7⟩, -, -⟩:=cells8 X3;obtain ⟨⟨b0,b1,b2,b3,b4,b5,b6,b7⟩, -, -⟩:=cells8 Y3;clear X3 Y3)
  go_ret
  exact ⟨by rw [HD.out];rfl,HB.out.trans (hb2.mono HB.out.size)⟩
 have e6:(((x.i)==(y.i)))=true:=beq_iff_eq.2 h6
 have HD:Hid (decide (x=y)=decide (x.cs=y.cs)):=hid (by
  obtain ⟨u0,u1,u2,u3,u4,u5,u6,u7⟩:=x
  obtain ⟨v0,v1,v2,v3,v4,v5,v6,v7⟩:=y
  simp_all)
 clear h0 h1 h2 h3 h4 h5 h6
 go_enter Tryz.func43, Tryz.ntmps43
 go_wp2_with (first|(go_at_call 83;(with_reducible refine (CL4.out _ (Below.refl _ _)).mono ?_);rintro e w2 ⟨rfl,hb2⟩;have X3:=(hb2.block w.heap.size HZ.out.1).trans HX.out;have Y3:=(hb2.block (w.heap.size+1) HZ.out.2).trans HY.out;clear a0 b0 a1 b1 a2 b2 a3 b3 a4 b4 a5 b5 a6 b6 a7 b7;obtain ⟨⟨a0,a1,a2,a3,a4,a5,a6,a7⟩, -, -⟩:=cells8 X3;obtain ⟨⟨b0,b1,b2,b3,b4,b5,b6,b7⟩, -, -⟩:=cells8 Y3;clear X3 Y3)|(go_at_call 84;(with_reducible refine (CL7.out _ hb2).mono ?_);rintro e w3 ⟨rfl,hb3⟩))
 go_ret
 exact ⟨by rw [HD.out];rfl,HB.out.trans ((hb2.trans (hb3.mono hb2.size)).mono HB.out.size)⟩
set_option maxHeartbeats 4000000 in
set_option maxRecDepth 100000 in
theorem sameExpr {W0 w:World} (hb:Below W0.heap.size W0 w) (x y:XG) {x4 y4:Option Addr} {xc4 yc4:Nat} (hx4:SlR 1 InC W0 (.slice x4 x.kids.length xc4) x.kids) (hy4:SlR 1 InC W0 (.slice y4 y.kids.length yc4) y.kids):
  Calls Tryz.prog 41 #[.agg #[.int .i64 x.k, .string (bs x.op), .int .u64 (x.n:Int), .string (bs x.s), .slice x4 x.kids.length xc4], .agg #[.int .i64 y.k, .string (bs y.op), .int .u64 (y.n:Int), .string (bs y.s), .slice y4 y.kids.length yc4]] w fun e w'=>e= .returned (.bool (decide (x=y)))∧Below w.heap.size w w':=by
 have hx:=heap_alloc_new w (.cells #[.int .i64 x.k, .string (bs x.op), .int .u64 (x.n:Int), .string (bs x.s), .slice x4 x.kids.length xc4] 40)
 have hs1:(w.alloc (.cells #[.int .i64 x.k, .string (bs x.op), .int .u64 (x.n:Int), .string (bs x.s), .slice x4 x.kids.length xc4] 40)).heap.size=w.heap.size+1:=by simp
 have hy:=heap_alloc_new (w.alloc (.cells #[.int .i64 x.k, .string (bs x.op), .int .u64 (x.n:Int), .string (bs x.s), .slice x4 x.kids.length xc4] 40)) (.cells #[.int .i64 y.k, .string (bs y.op), .int .u64 (y.n:Int), .string (bs y.s), .slice y4 y.kids.length yc4] 40)
 rw [hs1] at hy
 have hx2:((w.alloc (.cells #[.int .i64 x.k, .string (bs x.op), .int .u64 (x.n:Int), .string (bs x.s), .slice x4 x.kids.length xc4] 40)).alloc (.cells #[.int .i64 y.k, .string (bs y.op), .int .u64 (y.n:Int), .string (bs y.s), .slice y4 y.kids.length yc4] 40)).heap[w.heap.size]? =some (.cells #[.int .i64 x.k, .string (bs x.op), .int .u64 (x.n:Int), .string (bs x.s), .slice x4 x.kids.length xc4] 40 (0,0)):=by rw [Below.heap_alloc _ _ _ (by omega)];exact hx
 have hB:Below w.heap.size w ((w.alloc (.cells #[.int .i64 x.k, .string (bs x.op), .int .u64 (x.n:Int), .string (bs x.s), .slice x4 x.kids.length xc4] 40)).alloc (.cells #[.int .i64 y.k, .string (bs y.op), .int .u64 (y.n:Int), .string (bs y.s), .slice y4 y.kids.length yc4] 40)):=(below_box _ _).alloc (by simp) _
 have HB:=hid hB
 have HB0:=hid (hb.trans (hB.mono hb.size))
 obtain ⟨⟨a0,a1,a2,a3,a4⟩, -, -⟩:=cells5 hx2
 obtain ⟨⟨b0,b1,b2,b3,b4⟩, -, -⟩:=cells5 hy
 have HX:=hid hx2
 have HY:=hid hy
 have HZ:Hid (w.heap.size<((w.alloc (.cells #[.int .i64 x.k, .string (bs x.op), .int .u64 (x.n:Int), .string (bs x.s), .slice x4 x.kids.length xc4] 40)).alloc (.cells #[.int .i64 y.k, .string (bs y.op), .int .u64 (y.n:Int), .string (bs y.s), .slice y4 y.kids.length yc4] 40)).heap.size∧w.heap.size+1<((w.alloc (.cells #[.int .i64 x.k, .string (bs x.op), .int .u64 (x.n:Int), .string (bs x.s), .slice x4 x.kids.length xc4] 40)).alloc (.cells #[.int .i64 y.k, .string (bs y.op), .int .u64 (y.n:Int), .string (bs y.s), .slice y4 y.kids.length yc4] 40)).heap.size):=hid (by simp;omega)
 clear hx hs1 hy hx2 hb hB
 have CL4:=hid fun w' (hb':Below ((w.alloc (.cells #[.int .i64 x.k, .string (bs x.op), .int .u64 (x.n:Int), .string (bs x.s), .slice x4 x.kids.length xc4] 40)).alloc (.cells #[.int .i64 y.k, .string (bs y.op), .int .u64 (y.n:Int), .string (bs y.s), .slice y4 y.kids.length yc4] 40)).heap.size ((w.alloc (.cells #[.int .i64 x.k, .string (bs x.op), .int .u64 (x.n:Int), .string (bs x.s), .slice x4 x.kids.length xc4] 40)).alloc (.cells #[.int .i64 y.k, .string (bs y.op), .int .u64 (y.n:Int), .string (bs y.s), .slice y4 y.kids.length yc4] 40)) w')=>sleq_I (HB0.out.trans (hb'.mono HB0.out.size)) hx4 hy4
 clear hx4 hy4
 by_cases h0:x.k=y.k
 rotate_left
 ·have e0:(((x.k)==(y.k)))=false:=beq_eq_false_iff_ne.2 h0
  have HD:Hid (decide (x=y)=false):=hid (decide_eq_false fun e=>h0 (by rw [e]))
  clear h0
  go_enter Tryz.func41, Tryz.ntmps41
  go_wp2_with fail
  go_ret
  exact ⟨by rw [HD.out];rfl,HB.out⟩
 have e0:(((x.k)==(y.k)))=true:=beq_iff_eq.2 h0
 by_cases h1:x.op=y.op
 rotate_left
 ·have e1:((bs x.op).toList==(bs y.op).toList)=false:=str_ne8 h1
  have HD:Hid (decide (x=y)=false):=hid (decide_eq_false fun e=>h1 (by rw [e]))
  clear h0 h1
  go_enter Tryz.func41, Tryz.ntmps41
  go_wp2_with fail
  go_ret
  exact ⟨by rw [HD.out];rfl,HB.out⟩
 have e1:((bs x.op).toList==(bs y.op).toList)=true:=str_eq8 h1
 by_cases h2:x.n=y.n
 rotate_left
 ·have e2:(((x.n:Int)==(y.n:Int)))=false:=beq_eq_false_iff_ne.2 (by omega)
  have HD:Hid (decide (x=y)=false):=hid (decide_eq_false fun e=>h2 (by rw [e]))
  clear h0 h1 h2
  go_enter Tryz.func41, Tryz.ntmps41
  go_wp2_with fail
  go_ret
  exact ⟨by rw [HD.out];rfl,HB.out⟩
 have e2:(((x.n:Int)==(y.n:Int)))=true:=beq_iff_eq.2 (by omega)
 by_cases h3:x.s=y.s
 rotate_left
 ·have e3:((bs x.s).toList==(bs y.s).toList)=false:=str_ne8 h3
  have HD:Hid (decide (x=y)=false):=hid (decide_eq_false fun e=>h3 (by rw [e]))
  clear h0 h1 h2 h3
  go_enter Tryz.func41, Tryz.ntmps41
  go_wp2_with fail
  go_ret
  exact ⟨by rw [HD.out];rfl,HB.out⟩
 have e3:((bs x.s).toList==(bs y.s).toList)=true:=str_eq8 h3
 have HD:Hid (decide (x=y)=decide (x.kids=y.kids)):=hid (by
  obtain ⟨u0,u1,u2,u3,u4⟩:=x
  obtain ⟨v0,v1,v2,v3,v4⟩:=y
  simp_all)
 clear h0 h1 h2 h3
 go_enter Tryz.func41, Tryz.ntmps41
 go_wp2_with (go_at_call 83;(with_reducible refine (CL4.out _ (Below.refl _ _)).mono ?_);rintro e w2 ⟨rfl,hb2⟩)
 go_ret
 exact ⟨by rw [HD.out];rfl,HB.out.trans (hb2.mono HB.out.size)⟩
end Go.Proofs.YtomimkgaelkaoaaGreatDoor
