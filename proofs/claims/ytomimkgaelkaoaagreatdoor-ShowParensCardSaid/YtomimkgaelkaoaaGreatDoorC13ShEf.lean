/- Layer 8: Equal of two Files. -/
import Derived.Test.YtomimkgaelkaoaaGreatDoorC13ShEe
import Derived.Deep.RegionHeld3
set_option linter.unusedVariables false
set_option linter.unusedSimpArgs false
namespace Go.Proofs.YtomimkgaelkaoaaGreatDoor
open Go.Lib (hid)
open Go.ChangeShapes Go.WideShapes Go.ChangeAt Go.RowKit
theorem gf_eq8 {a b:GF}:(a=b)=(a.cs=b.cs∧a.ss=b.ss∧a.xs=b.xs∧a.ts=b.ts):=by
 obtain ⟨a1,a2,a3,a4⟩:=a
 obtain ⟨b1,b2,b3,b4⟩:=b
 simp [GF.mk.injEq]
set_option maxHeartbeats 8000000 in
set_option maxRecDepth 100000 in
theorem Equal_any {g1 g2:Nat} {f1 f2:GF} (w:World) (h1:FileG g1 w f1) (h2:FileG g2 w f2):
  Calls Tryz.prog 12 #[.pointer (some ⟨g1,1,none⟩), .pointer (some ⟨g2,1,none⟩)] w fun e w'=>e= .returned (.bool (decide (f1=f2)))∧Below w.heap.size w w':=by
 obtain ⟨ac,cc,as',cs',ax,cx,at',ct,p1,p2,p3,p4,k1,k2,k3,k4,l1⟩:=h1.look
 obtain ⟨bc,dc,bs',ds',bx,dx,bt',dt,q1,q2,q3,q4,m1,m2,m3,m4,l2⟩:=h2.look
 have RD:Hid (∀w',Below w.heap.size w w'→(w'.cell? ⟨g1,1,none⟩=some (.slice ac f1.cs.length cc)∧w'.cell? ⟨g1,2,none⟩=some (.slice as' f1.ss.length cs')∧w'.cell? ⟨g1,3,none⟩=some (.slice ax f1.xs.length cx)∧w'.cell? ⟨g1,4,none⟩=some (.slice at' f1.ts.length ct))∧(w'.cell? ⟨g2,1,none⟩=some (.slice bc f2.cs.length dc)∧w'.cell? ⟨g2,2,none⟩=some (.slice bs' f2.ss.length ds')∧w'.cell? ⟨g2,3,none⟩=some (.slice bx f2.xs.length dx)∧w'.cell? ⟨g2,4,none⟩=some (.slice bt' f2.ts.length dt))):=hid fun w' hb=>
  ⟨⟨(hb.cell (p:=⟨g1,1,none⟩) l1).trans p1,(hb.cell (p:=⟨g1,2,none⟩) l1).trans p2,(hb.cell (p:=⟨g1,3,none⟩) l1).trans p3,(hb.cell (p:=⟨g1,4,none⟩) l1).trans p4⟩,(hb.cell (p:=⟨g2,1,none⟩) l2).trans q1,(hb.cell (p:=⟨g2,2,none⟩) l2).trans q2,(hb.cell (p:=⟨g2,3,none⟩) l2).trans q3,(hb.cell (p:=⟨g2,4,none⟩) l2).trans q4⟩
 have C1:=hid fun w' (hb:Below w.heap.size w w')=>sleq_K hb k1 m1
 have C2:=hid fun w' (hb:Below w.heap.size w w')=>eqf_Struct hb k2 m2
 have C3:=hid fun w' (hb:Below w.heap.size w w')=>eqf_Expr hb k3 m3
 have C4:=hid fun w' (hb:Below w.heap.size w w')=>eqf_Type hb k4 m4
 clear h1 h2 p1 p2 p3 p4 k1 k2 k3 k4 l1 q1 q2 q3 q4 m1 m2 m3 m4 l2
 obtain ⟨⟨p1,p2,p3,p4⟩,q1,q2,q3,q4⟩:=RD.out _ (Below.refl _ _)
 go_enter Tryz.func12, Tryz.ntmps12
 go_wp2_with fail
 refine wp_region_noPanic ?_
 refine wp_region_held_drew (S:=fun w'=>Below w.heap.size w w') (by kernel_rfl) (Below.refl _ _).drew (fun hHeld=> ?_)
 have HW0:=hid hHeld
 refine wpAnyH_take (i:=0) (oi:= ?oi1) (v:=(.pointer (some ⟨g1,1,none⟩))) ?hi1 (by kernel_rfl) (by kernel_rfl) (by kernel_rfl) (fun _ _ _ h=>h) ?hy1 (by assumption) ?rest1
 case hi1=>(simp only [List.getElem?_toArray,List.getElem?_cons_succ,List.getElem?_cons_zero];rfl)
 case hy1=>exact Or.inl ⟨by rfl,fun w' hS=>by go_simp⟩
 try simp only [Act.put,List.setIfInBounds_toArray,List.set_cons_zero,List.set_cons_succ]
 refine wpAnyH_take (i:=1) (oi:= ?oi2) (v:=(.pointer (some ⟨g1,1,none⟩))) ?hi2 (by kernel_rfl) (by kernel_rfl) (by kernel_rfl) (fun _ _ _ h=>h) ?hy2 (by assumption) ?rest2
 case hi2=>(simp only [List.getElem?_toArray,List.getElem?_cons_succ,List.getElem?_cons_zero];rfl)
 case hy2=>exact Or.inl ⟨by rfl,fun w' hS=>by go_simp⟩
 try simp only [Act.put,List.setIfInBounds_toArray,List.set_cons_zero,List.set_cons_succ]
 refine wpAnyH_take (i:=2) (oi:= ?oi3) (v:=(.pointer (some ⟨g1,1,none⟩))) ?hi3 (by kernel_rfl) (by kernel_rfl) (by kernel_rfl) (fun _ _ _ h=>h) ?hy3 (by assumption) ?rest3
 case hi3=>(simp only [List.getElem?_toArray,List.getElem?_cons_succ,List.getElem?_cons_zero];rfl)
 case hy3=>exact Or.inl ⟨by rfl,fun w' hS=>by go_simp⟩
 try simp only [Act.put,List.setIfInBounds_toArray,List.set_cons_zero,List.set_cons_succ]
 refine wpAnyH_take (i:=3) (oi:= ?oi4) (v:=(.slice ac f1.cs.length cc)) ?hi4 (by kernel_rfl) (by kernel_rfl) (by kernel_rfl) (fun _ _ _ h=>h) ?hy4 (by assumption) ?rest4
 case hi4=>(simp only [List.getElem?_toArray,List.getElem?_cons_succ,List.getElem?_cons_zero];rfl)
 case hy4=>exact Or.inl ⟨by rfl,fun w' hS=>by have hp:=(RD.out w' hS).1.1;go_simp⟩
 try simp only [Act.put,List.setIfInBounds_toArray,List.set_cons_zero,List.set_cons_succ]
 refine wpAnyH_take (i:=4) (oi:= ?oi5) (v:=(.pointer (some ⟨g2,1,none⟩))) ?hi5 (by kernel_rfl) (by kernel_rfl) (by kernel_rfl) (fun _ _ _ h=>h) ?hy5 (by assumption) ?rest5
 case hi5=>(simp only [List.getElem?_toArray,List.getElem?_cons_succ,List.getElem?_cons_zero];rfl)
 case hy5=>exact Or.inl ⟨by rfl,fun w' hS=>by go_simp⟩
 try simp only [Act.put,List.setIfInBounds_toArray,List.set_cons_zero,List.set_cons_succ]
 refine wpAnyH_take (i:=5) (oi:= ?oi6) (v:=(.pointer (some ⟨g2,1,none⟩))) ?hi6 (by kernel_rfl) (by kernel_rfl) (by kernel_rfl) (fun _ _ _ h=>h) ?hy6 (by assumption) ?rest6
 case hi6=>(simp only [List.getElem?_toArray,List.getElem?_cons_succ,List.getElem?_cons_zero];rfl)
 case hy6=>exact Or.inl ⟨by rfl,fun w' hS=>by go_simp⟩
 try simp only [Act.put,List.setIfInBounds_toArray,List.set_cons_zero,List.set_cons_succ]
 refine wpAnyH_take (i:=6) (oi:= ?oi7) (v:=(.pointer (some ⟨g2,1,none⟩))) ?hi7 (by kernel_rfl) (by kernel_rfl) (by kernel_rfl) (fun _ _ _ h=>h) ?hy7 (by assumption) ?rest7
 case hi7=>(simp only [List.getElem?_toArray,List.getElem?_cons_succ,List.getElem?_cons_zero];rfl)
 case hy7=>exact Or.inl ⟨by rfl,fun w' hS=>by go_simp⟩
 try simp only [Act.put,List.setIfInBounds_toArray,List.set_cons_zero,List.set_cons_succ]
 refine wpAnyH_take (i:=7) (oi:= ?oi8) (v:=(.slice bc f2.cs.length dc)) ?hi8 (by kernel_rfl) (by kernel_rfl) (by kernel_rfl) (fun _ _ _ h=>h) ?hy8 (by assumption) ?rest8
 case hi8=>(simp only [List.getElem?_toArray,List.getElem?_cons_succ,List.getElem?_cons_zero];rfl)
 case hy8=>exact Or.inl ⟨by rfl,fun w' hS=>by have hp:=(RD.out w' hS).2.1;go_simp⟩
 try simp only [Act.put,List.setIfInBounds_toArray,List.set_cons_zero,List.set_cons_succ]
 refine wpAnyH_ready (rs:= [8]) (by kernel_rfl) (by simp) ?_
 refine AllReadyH.cons (o:= ?oo9) ?hi9 (fun K hK=> ?_) AllReadyH.nil
 case hi9=>(simp only [List.getElem?_toArray,List.getElem?_cons_succ,List.getElem?_cons_zero];rfl)
 go_simp
 go_at_call 37
 refine (C1.out _ HW0.out).mono ?_
 rintro e w1 ⟨rfl,hb⟩
 have HW1:=hid (HW0.out.trans (hb.mono HW0.out.size))
 clear hb
 rcases hd0:decide (f1.cs=f2.cs) with _|_
 all_goals
  go_simp
  refine hK.out _ _ HW1.out (fun hHeld=> ?_)
  clear hK K
  try simp only [Act.put,List.setIfInBounds_toArray,List.set_cons_zero,List.set_cons_succ]
 ·have HD:Hid (decide (f1=f2)=false):=hid (decide_eq_false fun e=>of_decide_eq_false hd0 (by rw [e]))
  clear hd0
  refine wpAnyH_take (i:=9) (oi:= ?oi10) (v:= .bool false) ?hi10 (by kernel_rfl) (by kernel_rfl) (by kernel_rfl) (fun _ _ _ h=>h) ?hy10 (by assumption) ?rest10
  case hi10=>(simp only [List.getElem?_toArray,List.getElem?_cons_succ,List.getElem?_cons_zero];rfl)
  case hy10=>exact Or.inl ⟨by rfl,fun w' hS=>by go_simp⟩
  try simp only [Act.put,List.setIfInBounds_toArray,List.set_cons_zero,List.set_cons_succ]
  refine wpAnyH_take (i:=10) (oi:= ?oi11) (v:=undef) ?hi11 (by kernel_rfl) (by kernel_rfl) (by kernel_rfl) (fun _ _ _ h=>h) ?hy11 (by assumption) ?rest11
  case hi11=>(simp only [List.getElem?_toArray,List.getElem?_cons_succ,List.getElem?_cons_zero];rfl)
  case hy11=>exact Or.inr ⟨by rfl,rfl⟩
  try simp only [Act.put,List.setIfInBounds_toArray,List.set_cons_zero,List.set_cons_succ]
  refine wpAnyH_take (i:=11) (oi:= ?oi12) (v:=undef) ?hi12 (by kernel_rfl) (by kernel_rfl) (by kernel_rfl) (fun _ _ _ h=>h) ?hy12 (by assumption) ?rest12
  case hi12=>(simp only [List.getElem?_toArray,List.getElem?_cons_succ,List.getElem?_cons_zero];rfl)
  case hy12=>exact Or.inr ⟨by rfl,rfl⟩
  try simp only [Act.put,List.setIfInBounds_toArray,List.set_cons_zero,List.set_cons_succ]
  refine wpAnyH_take (i:=12) (oi:= ?oi13) (v:=undef) ?hi13 (by kernel_rfl) (by kernel_rfl) (by kernel_rfl) (fun _ _ _ h=>h) ?hy13 (by assumption) ?rest13
  case hi13=>(simp only [List.getElem?_toArray,List.getElem?_cons_succ,List.getElem?_cons_zero];rfl)
  case hy13=>exact Or.inr ⟨by rfl,rfl⟩
  try simp only [Act.put,List.setIfInBounds_toArray,List.set_cons_zero,List.set_cons_succ]
  refine wpAnyH_take (i:=13) (oi:= ?oi14) (v:=undef) ?hi14 (by kernel_rfl) (by kernel_rfl) (by kernel_rfl) (fun _ _ _ h=>h) ?hy14 (by assumption) ?rest14
  case hi14=>(simp only [List.getElem?_toArray,List.getElem?_cons_succ,List.getElem?_cons_zero];rfl)
  case hy14=>exact Or.inr ⟨by rfl,rfl⟩
  try simp only [Act.put,List.setIfInBounds_toArray,List.set_cons_zero,List.set_cons_succ]
  refine wpAnyH_take (i:=14) (oi:= ?oi15) (v:=undef) ?hi15 (by kernel_rfl) (by kernel_rfl) (by kernel_rfl) (fun _ _ _ h=>h) ?hy15 (by assumption) ?rest15
  case hi15=>(simp only [List.getElem?_toArray,List.getElem?_cons_succ,List.getElem?_cons_zero];rfl)
  case hy15=>exact Or.inr ⟨by rfl,rfl⟩
  try simp only [Act.put,List.setIfInBounds_toArray,List.set_cons_zero,List.set_cons_succ]
  refine wpAnyH_take (i:=15) (oi:= ?oi16) (v:=undef) ?hi16 (by kernel_rfl) (by kernel_rfl) (by kernel_rfl) (fun _ _ _ h=>h) ?hy16 (by assumption) ?rest16
  case hi16=>(simp only [List.getElem?_toArray,List.getElem?_cons_succ,List.getElem?_cons_zero];rfl)
  case hy16=>exact Or.inr ⟨by rfl,rfl⟩
  try simp only [Act.put,List.setIfInBounds_toArray,List.set_cons_zero,List.set_cons_succ]
  refine wpAnyH_take (i:=16) (oi:= ?oi17) (v:=undef) ?hi17 (by kernel_rfl) (by kernel_rfl) (by kernel_rfl) (fun _ _ _ h=>h) ?hy17 (by assumption) ?rest17
  case hi17=>(simp only [List.getElem?_toArray,List.getElem?_cons_succ,List.getElem?_cons_zero];rfl)
  case hy17=>exact Or.inr ⟨by rfl,rfl⟩
  try simp only [Act.put,List.setIfInBounds_toArray,List.set_cons_zero,List.set_cons_succ]
  refine wpAnyH_take (i:=17) (oi:= ?oi18) (v:=undef) ?hi18 (by kernel_rfl) (by kernel_rfl) (by kernel_rfl) (fun _ _ _ h=>h) ?hy18 (by assumption) ?rest18
  case hi18=>(simp only [List.getElem?_toArray,List.getElem?_cons_succ,List.getElem?_cons_zero];rfl)
  case hy18=>exact Or.inr ⟨by rfl,rfl⟩
  try simp only [Act.put,List.setIfInBounds_toArray,List.set_cons_zero,List.set_cons_succ]
  refine wpAnyH_take (i:=18) (oi:= ?oi19) (v:=undef) ?hi19 (by kernel_rfl) (by kernel_rfl) (by kernel_rfl) (fun _ _ _ h=>h) ?hy19 (by assumption) ?rest19
  case hi19=>(simp only [List.getElem?_toArray,List.getElem?_cons_succ,List.getElem?_cons_zero];rfl)
  case hy19=>exact Or.inr ⟨by rfl,rfl⟩
  try simp only [Act.put,List.setIfInBounds_toArray,List.set_cons_zero,List.set_cons_succ]
  refine wpAnyH_take (i:=19) (oi:= ?oi20) (v:= .bool false) ?hi20 (by kernel_rfl) (by kernel_rfl) (by kernel_rfl) (fun _ _ _ h=>h) ?hy20 (by assumption) ?rest20
  case hi20=>(simp only [List.getElem?_toArray,List.getElem?_cons_succ,List.getElem?_cons_zero];rfl)
  case hy20=>exact Or.inl ⟨by rfl,fun w' hS=>by go_simp⟩
  try simp only [Act.put,List.setIfInBounds_toArray,List.set_cons_zero,List.set_cons_succ]
  refine wpAnyH_take (i:=20) (oi:= ?oi21) (v:= .bool false) ?hi21 (by kernel_rfl) (by kernel_rfl) (by kernel_rfl) (fun _ _ _ h=>h) ?hy21 (by assumption) ?rest21
  case hi21=>(simp only [List.getElem?_toArray,List.getElem?_cons_succ,List.getElem?_cons_zero];rfl)
  case hy21=>exact Or.inl ⟨by rfl,fun w' hS=>by go_simp⟩
  try simp only [Act.put,List.setIfInBounds_toArray,List.set_cons_zero,List.set_cons_succ]
  refine wpAnyH_take (i:=21) (oi:= ?oi22) (v:=undef) ?hi22 (by kernel_rfl) (by kernel_rfl) (by kernel_rfl) (fun _ _ _ h=>h) ?hy22 (by assumption) ?rest22
  case hi22=>(simp only [List.getElem?_toArray,List.getElem?_cons_succ,List.getElem?_cons_zero];rfl)
  case hy22=>exact Or.inr ⟨by rfl,rfl⟩
  try simp only [Act.put,List.setIfInBounds_toArray,List.set_cons_zero,List.set_cons_succ]
  refine wpAnyH_take (i:=22) (oi:= ?oi23) (v:=undef) ?hi23 (by kernel_rfl) (by kernel_rfl) (by kernel_rfl) (fun _ _ _ h=>h) ?hy23 (by assumption) ?rest23
  case hi23=>(simp only [List.getElem?_toArray,List.getElem?_cons_succ,List.getElem?_cons_zero];rfl)
  case hy23=>exact Or.inr ⟨by rfl,rfl⟩
  try simp only [Act.put,List.setIfInBounds_toArray,List.set_cons_zero,List.set_cons_succ]
  refine wpAnyH_take (i:=23) (oi:= ?oi24) (v:=undef) ?hi24 (by kernel_rfl) (by kernel_rfl) (by kernel_rfl) (fun _ _ _ h=>h) ?hy24 (by assumption) ?rest24
  case hi24=>(simp only [List.getElem?_toArray,List.getElem?_cons_succ,List.getElem?_cons_zero];rfl)
  case hy24=>exact Or.inr ⟨by rfl,rfl⟩
  try simp only [Act.put,List.setIfInBounds_toArray,List.set_cons_zero,List.set_cons_succ]
  refine wpAnyH_take (i:=24) (oi:= ?oi25) (v:=undef) ?hi25 (by kernel_rfl) (by kernel_rfl) (by kernel_rfl) (fun _ _ _ h=>h) ?hy25 (by assumption) ?rest25
  case hi25=>(simp only [List.getElem?_toArray,List.getElem?_cons_succ,List.getElem?_cons_zero];rfl)
  case hy25=>exact Or.inr ⟨by rfl,rfl⟩
  try simp only [Act.put,List.setIfInBounds_toArray,List.set_cons_zero,List.set_cons_succ]
  refine wpAnyH_take (i:=25) (oi:= ?oi26) (v:=undef) ?hi26 (by kernel_rfl) (by kernel_rfl) (by kernel_rfl) (fun _ _ _ h=>h) ?hy26 (by assumption) ?rest26
  case hi26=>(simp only [List.getElem?_toArray,List.getElem?_cons_succ,List.getElem?_cons_zero];rfl)
  case hy26=>exact Or.inr ⟨by rfl,rfl⟩
  try simp only [Act.put,List.setIfInBounds_toArray,List.set_cons_zero,List.set_cons_succ]
  refine wpAnyH_take (i:=26) (oi:= ?oi27) (v:=undef) ?hi27 (by kernel_rfl) (by kernel_rfl) (by kernel_rfl) (fun _ _ _ h=>h) ?hy27 (by assumption) ?rest27
  case hi27=>(simp only [List.getElem?_toArray,List.getElem?_cons_succ,List.getElem?_cons_zero];rfl)
  case hy27=>exact Or.inr ⟨by rfl,rfl⟩
  try simp only [Act.put,List.setIfInBounds_toArray,List.set_cons_zero,List.set_cons_succ]
  refine wpAnyH_take (i:=27) (oi:= ?oi28) (v:=undef) ?hi28 (by kernel_rfl) (by kernel_rfl) (by kernel_rfl) (fun _ _ _ h=>h) ?hy28 (by assumption) ?rest28
  case hi28=>(simp only [List.getElem?_toArray,List.getElem?_cons_succ,List.getElem?_cons_zero];rfl)
  case hy28=>exact Or.inr ⟨by rfl,rfl⟩
  try simp only [Act.put,List.setIfInBounds_toArray,List.set_cons_zero,List.set_cons_succ]
  refine wpAnyH_take (i:=28) (oi:= ?oi29) (v:=undef) ?hi29 (by kernel_rfl) (by kernel_rfl) (by kernel_rfl) (fun _ _ _ h=>h) ?hy29 (by assumption) ?rest29
  case hi29=>(simp only [List.getElem?_toArray,List.getElem?_cons_succ,List.getElem?_cons_zero];rfl)
  case hy29=>exact Or.inr ⟨by rfl,rfl⟩
  try simp only [Act.put,List.setIfInBounds_toArray,List.set_cons_zero,List.set_cons_succ]
  refine wpAnyH_take (i:=29) (oi:= ?oi30) (v:=undef) ?hi30 (by kernel_rfl) (by kernel_rfl) (by kernel_rfl) (fun _ _ _ h=>h) ?hy30 (by assumption) ?rest30
  case hi30=>(simp only [List.getElem?_toArray,List.getElem?_cons_succ,List.getElem?_cons_zero];rfl)
  case hy30=>exact Or.inr ⟨by rfl,rfl⟩
  try simp only [Act.put,List.setIfInBounds_toArray,List.set_cons_zero,List.set_cons_succ]
  refine wpAnyH_take (i:=30) (oi:= ?oi31) (v:= .bool false) ?hi31 (by kernel_rfl) (by kernel_rfl) (by kernel_rfl) (fun _ _ _ h=>h) ?hy31 (by assumption) ?rest31
  case hi31=>(simp only [List.getElem?_toArray,List.getElem?_cons_succ,List.getElem?_cons_zero];rfl)
  case hy31=>exact Or.inl ⟨by rfl,fun w' hS=>by go_simp⟩
  try simp only [Act.put,List.setIfInBounds_toArray,List.set_cons_zero,List.set_cons_succ]
  refine wpAnyH_take (i:=31) (oi:= ?oi32) (v:= .bool false) ?hi32 (by kernel_rfl) (by kernel_rfl) (by kernel_rfl) (fun _ _ _ h=>h) ?hy32 (by assumption) ?rest32
  case hi32=>(simp only [List.getElem?_toArray,List.getElem?_cons_succ,List.getElem?_cons_zero];rfl)
  case hy32=>exact Or.inl ⟨by rfl,fun w' hS=>by go_simp⟩
  try simp only [Act.put,List.setIfInBounds_toArray,List.set_cons_zero,List.set_cons_succ]
  refine wpAnyH_take (i:=32) (oi:= ?oi33) (v:=undef) ?hi33 (by kernel_rfl) (by kernel_rfl) (by kernel_rfl) (fun _ _ _ h=>h) ?hy33 (by assumption) ?rest33
  case hi33=>(simp only [List.getElem?_toArray,List.getElem?_cons_succ,List.getElem?_cons_zero];rfl)
  case hy33=>exact Or.inr ⟨by rfl,rfl⟩
  try simp only [Act.put,List.setIfInBounds_toArray,List.set_cons_zero,List.set_cons_succ]
  refine wpAnyH_take (i:=33) (oi:= ?oi34) (v:=undef) ?hi34 (by kernel_rfl) (by kernel_rfl) (by kernel_rfl) (fun _ _ _ h=>h) ?hy34 (by assumption) ?rest34
  case hi34=>(simp only [List.getElem?_toArray,List.getElem?_cons_succ,List.getElem?_cons_zero];rfl)
  case hy34=>exact Or.inr ⟨by rfl,rfl⟩
  try simp only [Act.put,List.setIfInBounds_toArray,List.set_cons_zero,List.set_cons_succ]
  refine wpAnyH_take (i:=34) (oi:= ?oi35) (v:=undef) ?hi35 (by kernel_rfl) (by kernel_rfl) (by kernel_rfl) (fun _ _ _ h=>h) ?hy35 (by assumption) ?rest35
  case hi35=>(simp only [List.getElem?_toArray,List.getElem?_cons_succ,List.getElem?_cons_zero];rfl)
  case hy35=>exact Or.inr ⟨by rfl,rfl⟩
  try simp only [Act.put,List.setIfInBounds_toArray,List.set_cons_zero,List.set_cons_succ]
  refine wpAnyH_take (i:=35) (oi:= ?oi36) (v:=undef) ?hi36 (by kernel_rfl) (by kernel_rfl) (by kernel_rfl) (fun _ _ _ h=>h) ?hy36 (by assumption) ?rest36
  case hi36=>(simp only [List.getElem?_toArray,List.getElem?_cons_succ,List.getElem?_cons_zero];rfl)
  case hy36=>exact Or.inr ⟨by rfl,rfl⟩
  try simp only [Act.put,List.setIfInBounds_toArray,List.set_cons_zero,List.set_cons_succ]
  refine wpAnyH_take (i:=36) (oi:= ?oi37) (v:=undef) ?hi37 (by kernel_rfl) (by kernel_rfl) (by kernel_rfl) (fun _ _ _ h=>h) ?hy37 (by assumption) ?rest37
  case hi37=>(simp only [List.getElem?_toArray,List.getElem?_cons_succ,List.getElem?_cons_zero];rfl)
  case hy37=>exact Or.inr ⟨by rfl,rfl⟩
  try simp only [Act.put,List.setIfInBounds_toArray,List.set_cons_zero,List.set_cons_succ]
  refine wpAnyH_take (i:=37) (oi:= ?oi38) (v:=undef) ?hi38 (by kernel_rfl) (by kernel_rfl) (by kernel_rfl) (fun _ _ _ h=>h) ?hy38 (by assumption) ?rest38
  case hi38=>(simp only [List.getElem?_toArray,List.getElem?_cons_succ,List.getElem?_cons_zero];rfl)
  case hy38=>exact Or.inr ⟨by rfl,rfl⟩
  try simp only [Act.put,List.setIfInBounds_toArray,List.set_cons_zero,List.set_cons_succ]
  refine wpAnyH_take (i:=38) (oi:= ?oi39) (v:=undef) ?hi39 (by kernel_rfl) (by kernel_rfl) (by kernel_rfl) (fun _ _ _ h=>h) ?hy39 (by assumption) ?rest39
  case hi39=>(simp only [List.getElem?_toArray,List.getElem?_cons_succ,List.getElem?_cons_zero];rfl)
  case hy39=>exact Or.inr ⟨by rfl,rfl⟩
  try simp only [Act.put,List.setIfInBounds_toArray,List.set_cons_zero,List.set_cons_succ]
  refine wpAnyH_take (i:=39) (oi:= ?oi40) (v:=undef) ?hi40 (by kernel_rfl) (by kernel_rfl) (by kernel_rfl) (fun _ _ _ h=>h) ?hy40 (by assumption) ?rest40
  case hi40=>(simp only [List.getElem?_toArray,List.getElem?_cons_succ,List.getElem?_cons_zero];rfl)
  case hy40=>exact Or.inr ⟨by rfl,rfl⟩
  try simp only [Act.put,List.setIfInBounds_toArray,List.set_cons_zero,List.set_cons_succ]
  refine wpAnyH_take (i:=40) (oi:= ?oi41) (v:=undef) ?hi41 (by kernel_rfl) (by kernel_rfl) (by kernel_rfl) (fun _ _ _ h=>h) ?hy41 (by assumption) ?rest41
  case hi41=>(simp only [List.getElem?_toArray,List.getElem?_cons_succ,List.getElem?_cons_zero];rfl)
  case hy41=>exact Or.inr ⟨by rfl,rfl⟩
  try simp only [Act.put,List.setIfInBounds_toArray,List.set_cons_zero,List.set_cons_succ]
  refine wpAnyH_take (i:=41) (oi:= ?oi42) (v:= .bool false) ?hi42 (by kernel_rfl) (by kernel_rfl) (by kernel_rfl) (fun _ _ _ h=>h) ?hy42 (by assumption) ?rest42
  case hi42=>(simp only [List.getElem?_toArray,List.getElem?_cons_succ,List.getElem?_cons_zero];rfl)
  case hy42=>exact Or.inl ⟨by rfl,fun w' hS=>by go_simp⟩
  try simp only [Act.put,List.setIfInBounds_toArray,List.set_cons_zero,List.set_cons_succ]
  refine wpAnyH_take (i:=42) (oi:= ?oi43) (v:= .bool false) ?hi43 (by kernel_rfl) (by kernel_rfl) (by kernel_rfl) (fun _ _ _ h=>h) ?hy43 (by assumption) ?rest43
  case hi43=>(simp only [List.getElem?_toArray,List.getElem?_cons_succ,List.getElem?_cons_zero];rfl)
  case hy43=>exact Or.inl ⟨by rfl,fun w' hS=>by go_simp⟩
  try simp only [Act.put,List.setIfInBounds_toArray,List.set_cons_zero,List.set_cons_succ]
  refine wpAnyH_done (by kernel_rfl) ?_ _
  refine NoPanic.normal ?_
  go_wp2_with fail
  go_ret
  exact ⟨by rw [HD.out];rfl,HW1.out⟩
 have h0:=hid (of_decide_eq_true hd0)
 clear hd0
 refine wpAnyH_take (i:=9) (oi:= ?oi44) (v:= .bool true) ?hi44 (by kernel_rfl) (by kernel_rfl) (by kernel_rfl) (fun _ _ _ h=>h) ?hy44 (by assumption) ?rest44
 case hi44=>(simp only [List.getElem?_toArray,List.getElem?_cons_succ,List.getElem?_cons_zero];rfl)
 case hy44=>exact Or.inl ⟨by rfl,fun w' hS=>by go_simp⟩
 try simp only [Act.put,List.setIfInBounds_toArray,List.set_cons_zero,List.set_cons_succ]
 refine wpAnyH_take (i:=10) (oi:= ?oi45) (v:=(.pointer (some ⟨g1,1,none⟩))) ?hi45 (by kernel_rfl) (by kernel_rfl) (by kernel_rfl) (fun _ _ _ h=>h) ?hy45 (by assumption) ?rest45
 case hi45=>(simp only [List.getElem?_toArray,List.getElem?_cons_succ,List.getElem?_cons_zero];rfl)
 case hy45=>exact Or.inl ⟨by rfl,fun w' hS=>by go_simp⟩
 try simp only [Act.put,List.setIfInBounds_toArray,List.set_cons_zero,List.set_cons_succ]
 refine wpAnyH_take (i:=11) (oi:= ?oi46) (v:=(.pointer (some ⟨g1,1,none⟩))) ?hi46 (by kernel_rfl) (by kernel_rfl) (by kernel_rfl) (fun _ _ _ h=>h) ?hy46 (by assumption) ?rest46
 case hi46=>(simp only [List.getElem?_toArray,List.getElem?_cons_succ,List.getElem?_cons_zero];rfl)
 case hy46=>exact Or.inl ⟨by rfl,fun w' hS=>by go_simp⟩
 try simp only [Act.put,List.setIfInBounds_toArray,List.set_cons_zero,List.set_cons_succ]
 refine wpAnyH_take (i:=12) (oi:= ?oi47) (v:=(.pointer (some ⟨g1,2,none⟩))) ?hi47 (by kernel_rfl) (by kernel_rfl) (by kernel_rfl) (fun _ _ _ h=>h) ?hy47 (by assumption) ?rest47
 case hi47=>(simp only [List.getElem?_toArray,List.getElem?_cons_succ,List.getElem?_cons_zero];rfl)
 case hy47=>exact Or.inl ⟨by rfl,fun w' hS=>by go_simp⟩
 try simp only [Act.put,List.setIfInBounds_toArray,List.set_cons_zero,List.set_cons_succ]
 refine wpAnyH_take (i:=13) (oi:= ?oi48) (v:=(.slice as' f1.ss.length cs')) ?hi48 (by kernel_rfl) (by kernel_rfl) (by kernel_rfl) (fun _ _ _ h=>h) ?hy48 (by assumption) ?rest48
 case hi48=>(simp only [List.getElem?_toArray,List.getElem?_cons_succ,List.getElem?_cons_zero];rfl)
 case hy48=>exact Or.inl ⟨by rfl,fun w' hS=>by have hp:=(RD.out w' hS).1.2.1;go_simp⟩
 try simp only [Act.put,List.setIfInBounds_toArray,List.set_cons_zero,List.set_cons_succ]
 refine wpAnyH_take (i:=14) (oi:= ?oi49) (v:=(.pointer (some ⟨g2,1,none⟩))) ?hi49 (by kernel_rfl) (by kernel_rfl) (by kernel_rfl) (fun _ _ _ h=>h) ?hy49 (by assumption) ?rest49
 case hi49=>(simp only [List.getElem?_toArray,List.getElem?_cons_succ,List.getElem?_cons_zero];rfl)
 case hy49=>exact Or.inl ⟨by rfl,fun w' hS=>by go_simp⟩
 try simp only [Act.put,List.setIfInBounds_toArray,List.set_cons_zero,List.set_cons_succ]
 refine wpAnyH_take (i:=15) (oi:= ?oi50) (v:=(.pointer (some ⟨g2,1,none⟩))) ?hi50 (by kernel_rfl) (by kernel_rfl) (by kernel_rfl) (fun _ _ _ h=>h) ?hy50 (by assumption) ?rest50
 case hi50=>(simp only [List.getElem?_toArray,List.getElem?_cons_succ,List.getElem?_cons_zero];rfl)
 case hy50=>exact Or.inl ⟨by rfl,fun w' hS=>by go_simp⟩
 try simp only [Act.put,List.setIfInBounds_toArray,List.set_cons_zero,List.set_cons_succ]
 refine wpAnyH_take (i:=16) (oi:= ?oi51) (v:=(.pointer (some ⟨g2,2,none⟩))) ?hi51 (by kernel_rfl) (by kernel_rfl) (by kernel_rfl) (fun _ _ _ h=>h) ?hy51 (by assumption) ?rest51
 case hi51=>(simp only [List.getElem?_toArray,List.getElem?_cons_succ,List.getElem?_cons_zero];rfl)
 case hy51=>exact Or.inl ⟨by rfl,fun w' hS=>by go_simp⟩
 try simp only [Act.put,List.setIfInBounds_toArray,List.set_cons_zero,List.set_cons_succ]
 refine wpAnyH_take (i:=17) (oi:= ?oi52) (v:=(.slice bs' f2.ss.length ds')) ?hi52 (by kernel_rfl) (by kernel_rfl) (by kernel_rfl) (fun _ _ _ h=>h) ?hy52 (by assumption) ?rest52
 case hi52=>(simp only [List.getElem?_toArray,List.getElem?_cons_succ,List.getElem?_cons_zero];rfl)
 case hy52=>exact Or.inl ⟨by rfl,fun w' hS=>by have hp:=(RD.out w' hS).2.2.1;go_simp⟩
 try simp only [Act.put,List.setIfInBounds_toArray,List.set_cons_zero,List.set_cons_succ]
 refine wpAnyH_ready (rs:= [18]) (by kernel_rfl) (by simp) ?_
 refine AllReadyH.cons (o:= ?oo53) ?hi53 (fun K hK=> ?_) AllReadyH.nil
 case hi53=>(simp only [List.getElem?_toArray,List.getElem?_cons_succ,List.getElem?_cons_zero];rfl)
 go_simp
 go_at_call 38
 refine (C2.out _ HW1.out).mono ?_
 rintro e w2 ⟨rfl,hb⟩
 have HW2:=hid (HW1.out.trans (hb.mono HW1.out.size))
 clear hb
 rcases hd1:decide (f1.ss=f2.ss) with _|_
 all_goals
  go_simp
  refine hK.out _ _ HW2.out (fun hHeld=> ?_)
  clear hK K
  try simp only [Act.put,List.setIfInBounds_toArray,List.set_cons_zero,List.set_cons_succ]
 ·have HD:Hid (decide (f1=f2)=false):=hid (decide_eq_false fun e=>of_decide_eq_false hd1 (by rw [e]))
  clear hd1
  refine wpAnyH_take (i:=19) (oi:= ?oi54) (v:= .bool false) ?hi54 (by kernel_rfl) (by kernel_rfl) (by kernel_rfl) (fun _ _ _ h=>h) ?hy54 (by assumption) ?rest54
  case hi54=>(simp only [List.getElem?_toArray,List.getElem?_cons_succ,List.getElem?_cons_zero];rfl)
  case hy54=>exact Or.inl ⟨by rfl,fun w' hS=>by go_simp⟩
  try simp only [Act.put,List.setIfInBounds_toArray,List.set_cons_zero,List.set_cons_succ]
  refine wpAnyH_take (i:=20) (oi:= ?oi55) (v:= .bool false) ?hi55 (by kernel_rfl) (by kernel_rfl) (by kernel_rfl) (fun _ _ _ h=>h) ?hy55 (by assumption) ?rest55
  case hi55=>(simp only [List.getElem?_toArray,List.getElem?_cons_succ,List.getElem?_cons_zero];rfl)
  case hy55=>exact Or.inl ⟨by rfl,fun w' hS=>by go_simp⟩
  try simp only [Act.put,List.setIfInBounds_toArray,List.set_cons_zero,List.set_cons_succ]
  refine wpAnyH_take (i:=21) (oi:= ?oi56) (v:=undef) ?hi56 (by kernel_rfl) (by kernel_rfl) (by kernel_rfl) (fun _ _ _ h=>h) ?hy56 (by assumption) ?rest56
  case hi56=>(simp only [List.getElem?_toArray,List.getElem?_cons_succ,List.getElem?_cons_zero];rfl)
  case hy56=>exact Or.inr ⟨by rfl,rfl⟩
  try simp only [Act.put,List.setIfInBounds_toArray,List.set_cons_zero,List.set_cons_succ]
  refine wpAnyH_take (i:=22) (oi:= ?oi57) (v:=undef) ?hi57 (by kernel_rfl) (by kernel_rfl) (by kernel_rfl) (fun _ _ _ h=>h) ?hy57 (by assumption) ?rest57
  case hi57=>(simp only [List.getElem?_toArray,List.getElem?_cons_succ,List.getElem?_cons_zero];rfl)
  case hy57=>exact Or.inr ⟨by rfl,rfl⟩
  try simp only [Act.put,List.setIfInBounds_toArray,List.set_cons_zero,List.set_cons_succ]
  refine wpAnyH_take (i:=23) (oi:= ?oi58) (v:=undef) ?hi58 (by kernel_rfl) (by kernel_rfl) (by kernel_rfl) (fun _ _ _ h=>h) ?hy58 (by assumption) ?rest58
  case hi58=>(simp only [List.getElem?_toArray,List.getElem?_cons_succ,List.getElem?_cons_zero];rfl)
  case hy58=>exact Or.inr ⟨by rfl,rfl⟩
  try simp only [Act.put,List.setIfInBounds_toArray,List.set_cons_zero,List.set_cons_succ]
  refine wpAnyH_take (i:=24) (oi:= ?oi59) (v:=undef) ?hi59 (by kernel_rfl) (by kernel_rfl) (by kernel_rfl) (fun _ _ _ h=>h) ?hy59 (by assumption) ?rest59
  case hi59=>(simp only [List.getElem?_toArray,List.getElem?_cons_succ,List.getElem?_cons_zero];rfl)
  case hy59=>exact Or.inr ⟨by rfl,rfl⟩
  try simp only [Act.put,List.setIfInBounds_toArray,List.set_cons_zero,List.set_cons_succ]
  refine wpAnyH_take (i:=25) (oi:= ?oi60) (v:=undef) ?hi60 (by kernel_rfl) (by kernel_rfl) (by kernel_rfl) (fun _ _ _ h=>h) ?hy60 (by assumption) ?rest60
  case hi60=>(simp only [List.getElem?_toArray,List.getElem?_cons_succ,List.getElem?_cons_zero];rfl)
  case hy60=>exact Or.inr ⟨by rfl,rfl⟩
  try simp only [Act.put,List.setIfInBounds_toArray,List.set_cons_zero,List.set_cons_succ]
  refine wpAnyH_take (i:=26) (oi:= ?oi61) (v:=undef) ?hi61 (by kernel_rfl) (by kernel_rfl) (by kernel_rfl) (fun _ _ _ h=>h) ?hy61 (by assumption) ?rest61
  case hi61=>(simp only [List.getElem?_toArray,List.getElem?_cons_succ,List.getElem?_cons_zero];rfl)
  case hy61=>exact Or.inr ⟨by rfl,rfl⟩
  try simp only [Act.put,List.setIfInBounds_toArray,List.set_cons_zero,List.set_cons_succ]
  refine wpAnyH_take (i:=27) (oi:= ?oi62) (v:=undef) ?hi62 (by kernel_rfl) (by kernel_rfl) (by kernel_rfl) (fun _ _ _ h=>h) ?hy62 (by assumption) ?rest62
  case hi62=>(simp only [List.getElem?_toArray,List.getElem?_cons_succ,List.getElem?_cons_zero];rfl)
  case hy62=>exact Or.inr ⟨by rfl,rfl⟩
  try simp only [Act.put,List.setIfInBounds_toArray,List.set_cons_zero,List.set_cons_succ]
  refine wpAnyH_take (i:=28) (oi:= ?oi63) (v:=undef) ?hi63 (by kernel_rfl) (by kernel_rfl) (by kernel_rfl) (fun _ _ _ h=>h) ?hy63 (by assumption) ?rest63
  case hi63=>(simp only [List.getElem?_toArray,List.getElem?_cons_succ,List.getElem?_cons_zero];rfl)
  case hy63=>exact Or.inr ⟨by rfl,rfl⟩
  try simp only [Act.put,List.setIfInBounds_toArray,List.set_cons_zero,List.set_cons_succ]
  refine wpAnyH_take (i:=29) (oi:= ?oi64) (v:=undef) ?hi64 (by kernel_rfl) (by kernel_rfl) (by kernel_rfl) (fun _ _ _ h=>h) ?hy64 (by assumption) ?rest64
  case hi64=>(simp only [List.getElem?_toArray,List.getElem?_cons_succ,List.getElem?_cons_zero];rfl)
  case hy64=>exact Or.inr ⟨by rfl,rfl⟩
  try simp only [Act.put,List.setIfInBounds_toArray,List.set_cons_zero,List.set_cons_succ]
  refine wpAnyH_take (i:=30) (oi:= ?oi65) (v:= .bool false) ?hi65 (by kernel_rfl) (by kernel_rfl) (by kernel_rfl) (fun _ _ _ h=>h) ?hy65 (by assumption) ?rest65
  case hi65=>(simp only [List.getElem?_toArray,List.getElem?_cons_succ,List.getElem?_cons_zero];rfl)
  case hy65=>exact Or.inl ⟨by rfl,fun w' hS=>by go_simp⟩
  try simp only [Act.put,List.setIfInBounds_toArray,List.set_cons_zero,List.set_cons_succ]
  refine wpAnyH_take (i:=31) (oi:= ?oi66) (v:= .bool false) ?hi66 (by kernel_rfl) (by kernel_rfl) (by kernel_rfl) (fun _ _ _ h=>h) ?hy66 (by assumption) ?rest66
  case hi66=>(simp only [List.getElem?_toArray,List.getElem?_cons_succ,List.getElem?_cons_zero];rfl)
  case hy66=>exact Or.inl ⟨by rfl,fun w' hS=>by go_simp⟩
  try simp only [Act.put,List.setIfInBounds_toArray,List.set_cons_zero,List.set_cons_succ]
  refine wpAnyH_take (i:=32) (oi:= ?oi67) (v:=undef) ?hi67 (by kernel_rfl) (by kernel_rfl) (by kernel_rfl) (fun _ _ _ h=>h) ?hy67 (by assumption) ?rest67
  case hi67=>(simp only [List.getElem?_toArray,List.getElem?_cons_succ,List.getElem?_cons_zero];rfl)
  case hy67=>exact Or.inr ⟨by rfl,rfl⟩
  try simp only [Act.put,List.setIfInBounds_toArray,List.set_cons_zero,List.set_cons_succ]
  refine wpAnyH_take (i:=33) (oi:= ?oi68) (v:=undef) ?hi68 (by kernel_rfl) (by kernel_rfl) (by kernel_rfl) (fun _ _ _ h=>h) ?hy68 (by assumption) ?rest68
  case hi68=>(simp only [List.getElem?_toArray,List.getElem?_cons_succ,List.getElem?_cons_zero];rfl)
  case hy68=>exact Or.inr ⟨by rfl,rfl⟩
  try simp only [Act.put,List.setIfInBounds_toArray,List.set_cons_zero,List.set_cons_succ]
  refine wpAnyH_take (i:=34) (oi:= ?oi69) (v:=undef) ?hi69 (by kernel_rfl) (by kernel_rfl) (by kernel_rfl) (fun _ _ _ h=>h) ?hy69 (by assumption) ?rest69
  case hi69=>(simp only [List.getElem?_toArray,List.getElem?_cons_succ,List.getElem?_cons_zero];rfl)
  case hy69=>exact Or.inr ⟨by rfl,rfl⟩
  try simp only [Act.put,List.setIfInBounds_toArray,List.set_cons_zero,List.set_cons_succ]
  refine wpAnyH_take (i:=35) (oi:= ?oi70) (v:=undef) ?hi70 (by kernel_rfl) (by kernel_rfl) (by kernel_rfl) (fun _ _ _ h=>h) ?hy70 (by assumption) ?rest70
  case hi70=>(simp only [List.getElem?_toArray,List.getElem?_cons_succ,List.getElem?_cons_zero];rfl)
  case hy70=>exact Or.inr ⟨by rfl,rfl⟩
  try simp only [Act.put,List.setIfInBounds_toArray,List.set_cons_zero,List.set_cons_succ]
  refine wpAnyH_take (i:=36) (oi:= ?oi71) (v:=undef) ?hi71 (by kernel_rfl) (by kernel_rfl) (by kernel_rfl) (fun _ _ _ h=>h) ?hy71 (by assumption) ?rest71
  case hi71=>(simp only [List.getElem?_toArray,List.getElem?_cons_succ,List.getElem?_cons_zero];rfl)
  case hy71=>exact Or.inr ⟨by rfl,rfl⟩
  try simp only [Act.put,List.setIfInBounds_toArray,List.set_cons_zero,List.set_cons_succ]
  refine wpAnyH_take (i:=37) (oi:= ?oi72) (v:=undef) ?hi72 (by kernel_rfl) (by kernel_rfl) (by kernel_rfl) (fun _ _ _ h=>h) ?hy72 (by assumption) ?rest72
  case hi72=>(simp only [List.getElem?_toArray,List.getElem?_cons_succ,List.getElem?_cons_zero];rfl)
  case hy72=>exact Or.inr ⟨by rfl,rfl⟩
  try simp only [Act.put,List.setIfInBounds_toArray,List.set_cons_zero,List.set_cons_succ]
  refine wpAnyH_take (i:=38) (oi:= ?oi73) (v:=undef) ?hi73 (by kernel_rfl) (by kernel_rfl) (by kernel_rfl) (fun _ _ _ h=>h) ?hy73 (by assumption) ?rest73
  case hi73=>(simp only [List.getElem?_toArray,List.getElem?_cons_succ,List.getElem?_cons_zero];rfl)
  case hy73=>exact Or.inr ⟨by rfl,rfl⟩
  try simp only [Act.put,List.setIfInBounds_toArray,List.set_cons_zero,List.set_cons_succ]
  refine wpAnyH_take (i:=39) (oi:= ?oi74) (v:=undef) ?hi74 (by kernel_rfl) (by kernel_rfl) (by kernel_rfl) (fun _ _ _ h=>h) ?hy74 (by assumption) ?rest74
  case hi74=>(simp only [List.getElem?_toArray,List.getElem?_cons_succ,List.getElem?_cons_zero];rfl)
  case hy74=>exact Or.inr ⟨by rfl,rfl⟩
  try simp only [Act.put,List.setIfInBounds_toArray,List.set_cons_zero,List.set_cons_succ]
  refine wpAnyH_take (i:=40) (oi:= ?oi75) (v:=undef) ?hi75 (by kernel_rfl) (by kernel_rfl) (by kernel_rfl) (fun _ _ _ h=>h) ?hy75 (by assumption) ?rest75
  case hi75=>(simp only [List.getElem?_toArray,List.getElem?_cons_succ,List.getElem?_cons_zero];rfl)
  case hy75=>exact Or.inr ⟨by rfl,rfl⟩
  try simp only [Act.put,List.setIfInBounds_toArray,List.set_cons_zero,List.set_cons_succ]
  refine wpAnyH_take (i:=41) (oi:= ?oi76) (v:= .bool false) ?hi76 (by kernel_rfl) (by kernel_rfl) (by kernel_rfl) (fun _ _ _ h=>h) ?hy76 (by assumption) ?rest76
  case hi76=>(simp only [List.getElem?_toArray,List.getElem?_cons_succ,List.getElem?_cons_zero];rfl)
  case hy76=>exact Or.inl ⟨by rfl,fun w' hS=>by go_simp⟩
  try simp only [Act.put,List.setIfInBounds_toArray,List.set_cons_zero,List.set_cons_succ]
  refine wpAnyH_take (i:=42) (oi:= ?oi77) (v:= .bool false) ?hi77 (by kernel_rfl) (by kernel_rfl) (by kernel_rfl) (fun _ _ _ h=>h) ?hy77 (by assumption) ?rest77
  case hi77=>(simp only [List.getElem?_toArray,List.getElem?_cons_succ,List.getElem?_cons_zero];rfl)
  case hy77=>exact Or.inl ⟨by rfl,fun w' hS=>by go_simp⟩
  try simp only [Act.put,List.setIfInBounds_toArray,List.set_cons_zero,List.set_cons_succ]
  refine wpAnyH_done (by kernel_rfl) ?_ _
  refine NoPanic.normal ?_
  go_wp2_with fail
  go_ret
  exact ⟨by rw [HD.out];rfl,HW2.out⟩
 have h1:=hid (of_decide_eq_true hd1)
 clear hd1
 refine wpAnyH_take (i:=19) (oi:= ?oi78) (v:= .bool true) ?hi78 (by kernel_rfl) (by kernel_rfl) (by kernel_rfl) (fun _ _ _ h=>h) ?hy78 (by assumption) ?rest78
 case hi78=>(simp only [List.getElem?_toArray,List.getElem?_cons_succ,List.getElem?_cons_zero];rfl)
 case hy78=>exact Or.inl ⟨by rfl,fun w' hS=>by go_simp⟩
 try simp only [Act.put,List.setIfInBounds_toArray,List.set_cons_zero,List.set_cons_succ]
 refine wpAnyH_take (i:=20) (oi:= ?oi79) (v:= .bool true) ?hi79 (by kernel_rfl) (by kernel_rfl) (by kernel_rfl) (fun _ _ _ h=>h) ?hy79 (by assumption) ?rest79
 case hi79=>(simp only [List.getElem?_toArray,List.getElem?_cons_succ,List.getElem?_cons_zero];rfl)
 case hy79=>exact Or.inl ⟨by rfl,fun w' hS=>by go_simp⟩
 try simp only [Act.put,List.setIfInBounds_toArray,List.set_cons_zero,List.set_cons_succ]
 refine wpAnyH_take (i:=21) (oi:= ?oi80) (v:=(.pointer (some ⟨g1,1,none⟩))) ?hi80 (by kernel_rfl) (by kernel_rfl) (by kernel_rfl) (fun _ _ _ h=>h) ?hy80 (by assumption) ?rest80
 case hi80=>(simp only [List.getElem?_toArray,List.getElem?_cons_succ,List.getElem?_cons_zero];rfl)
 case hy80=>exact Or.inl ⟨by rfl,fun w' hS=>by go_simp⟩
 try simp only [Act.put,List.setIfInBounds_toArray,List.set_cons_zero,List.set_cons_succ]
 refine wpAnyH_take (i:=22) (oi:= ?oi81) (v:=(.pointer (some ⟨g1,1,none⟩))) ?hi81 (by kernel_rfl) (by kernel_rfl) (by kernel_rfl) (fun _ _ _ h=>h) ?hy81 (by assumption) ?rest81
 case hi81=>(simp only [List.getElem?_toArray,List.getElem?_cons_succ,List.getElem?_cons_zero];rfl)
 case hy81=>exact Or.inl ⟨by rfl,fun w' hS=>by go_simp⟩
 try simp only [Act.put,List.setIfInBounds_toArray,List.set_cons_zero,List.set_cons_succ]
 refine wpAnyH_take (i:=23) (oi:= ?oi82) (v:=(.pointer (some ⟨g1,3,none⟩))) ?hi82 (by kernel_rfl) (by kernel_rfl) (by kernel_rfl) (fun _ _ _ h=>h) ?hy82 (by assumption) ?rest82
 case hi82=>(simp only [List.getElem?_toArray,List.getElem?_cons_succ,List.getElem?_cons_zero];rfl)
 case hy82=>exact Or.inl ⟨by rfl,fun w' hS=>by go_simp⟩
 try simp only [Act.put,List.setIfInBounds_toArray,List.set_cons_zero,List.set_cons_succ]
 refine wpAnyH_take (i:=24) (oi:= ?oi83) (v:=(.slice ax f1.xs.length cx)) ?hi83 (by kernel_rfl) (by kernel_rfl) (by kernel_rfl) (fun _ _ _ h=>h) ?hy83 (by assumption) ?rest83
 case hi83=>(simp only [List.getElem?_toArray,List.getElem?_cons_succ,List.getElem?_cons_zero];rfl)
 case hy83=>exact Or.inl ⟨by rfl,fun w' hS=>by have hp:=(RD.out w' hS).1.2.2.1;go_simp⟩
 try simp only [Act.put,List.setIfInBounds_toArray,List.set_cons_zero,List.set_cons_succ]
 refine wpAnyH_take (i:=25) (oi:= ?oi84) (v:=(.pointer (some ⟨g2,1,none⟩))) ?hi84 (by kernel_rfl) (by kernel_rfl) (by kernel_rfl) (fun _ _ _ h=>h) ?hy84 (by assumption) ?rest84
 case hi84=>(simp only [List.getElem?_toArray,List.getElem?_cons_succ,List.getElem?_cons_zero];rfl)
 case hy84=>exact Or.inl ⟨by rfl,fun w' hS=>by go_simp⟩
 try simp only [Act.put,List.setIfInBounds_toArray,List.set_cons_zero,List.set_cons_succ]
 refine wpAnyH_take (i:=26) (oi:= ?oi85) (v:=(.pointer (some ⟨g2,1,none⟩))) ?hi85 (by kernel_rfl) (by kernel_rfl) (by kernel_rfl) (fun _ _ _ h=>h) ?hy85 (by assumption) ?rest85
 case hi85=>(simp only [List.getElem?_toArray,List.getElem?_cons_succ,List.getElem?_cons_zero];rfl)
 case hy85=>exact Or.inl ⟨by rfl,fun w' hS=>by go_simp⟩
 try simp only [Act.put,List.setIfInBounds_toArray,List.set_cons_zero,List.set_cons_succ]
 refine wpAnyH_take (i:=27) (oi:= ?oi86) (v:=(.pointer (some ⟨g2,3,none⟩))) ?hi86 (by kernel_rfl) (by kernel_rfl) (by kernel_rfl) (fun _ _ _ h=>h) ?hy86 (by assumption) ?rest86
 case hi86=>(simp only [List.getElem?_toArray,List.getElem?_cons_succ,List.getElem?_cons_zero];rfl)
 case hy86=>exact Or.inl ⟨by rfl,fun w' hS=>by go_simp⟩
 try simp only [Act.put,List.setIfInBounds_toArray,List.set_cons_zero,List.set_cons_succ]
 refine wpAnyH_take (i:=28) (oi:= ?oi87) (v:=(.slice bx f2.xs.length dx)) ?hi87 (by kernel_rfl) (by kernel_rfl) (by kernel_rfl) (fun _ _ _ h=>h) ?hy87 (by assumption) ?rest87
 case hi87=>(simp only [List.getElem?_toArray,List.getElem?_cons_succ,List.getElem?_cons_zero];rfl)
 case hy87=>exact Or.inl ⟨by rfl,fun w' hS=>by have hp:=(RD.out w' hS).2.2.2.1;go_simp⟩
 try simp only [Act.put,List.setIfInBounds_toArray,List.set_cons_zero,List.set_cons_succ]
 refine wpAnyH_ready (rs:= [29]) (by kernel_rfl) (by simp) ?_
 refine AllReadyH.cons (o:= ?oo88) ?hi88 (fun K hK=> ?_) AllReadyH.nil
 case hi88=>(simp only [List.getElem?_toArray,List.getElem?_cons_succ,List.getElem?_cons_zero];rfl)
 go_simp
 go_at_call 40
 refine (C3.out _ HW2.out).mono ?_
 rintro e w3 ⟨rfl,hb⟩
 have HW3:=hid (HW2.out.trans (hb.mono HW2.out.size))
 clear hb
 rcases hd2:decide (f1.xs=f2.xs) with _|_
 all_goals
  go_simp
  refine hK.out _ _ HW3.out (fun hHeld=> ?_)
  clear hK K
  try simp only [Act.put,List.setIfInBounds_toArray,List.set_cons_zero,List.set_cons_succ]
 ·have HD:Hid (decide (f1=f2)=false):=hid (decide_eq_false fun e=>of_decide_eq_false hd2 (by rw [e]))
  clear hd2
  refine wpAnyH_take (i:=30) (oi:= ?oi89) (v:= .bool false) ?hi89 (by kernel_rfl) (by kernel_rfl) (by kernel_rfl) (fun _ _ _ h=>h) ?hy89 (by assumption) ?rest89
  case hi89=>(simp only [List.getElem?_toArray,List.getElem?_cons_succ,List.getElem?_cons_zero];rfl)
  case hy89=>exact Or.inl ⟨by rfl,fun w' hS=>by go_simp⟩
  try simp only [Act.put,List.setIfInBounds_toArray,List.set_cons_zero,List.set_cons_succ]
  refine wpAnyH_take (i:=31) (oi:= ?oi90) (v:= .bool false) ?hi90 (by kernel_rfl) (by kernel_rfl) (by kernel_rfl) (fun _ _ _ h=>h) ?hy90 (by assumption) ?rest90
  case hi90=>(simp only [List.getElem?_toArray,List.getElem?_cons_succ,List.getElem?_cons_zero];rfl)
  case hy90=>exact Or.inl ⟨by rfl,fun w' hS=>by go_simp⟩
  try simp only [Act.put,List.setIfInBounds_toArray,List.set_cons_zero,List.set_cons_succ]
  refine wpAnyH_take (i:=32) (oi:= ?oi91) (v:=undef) ?hi91 (by kernel_rfl) (by kernel_rfl) (by kernel_rfl) (fun _ _ _ h=>h) ?hy91 (by assumption) ?rest91
  case hi91=>(simp only [List.getElem?_toArray,List.getElem?_cons_succ,List.getElem?_cons_zero];rfl)
  case hy91=>exact Or.inr ⟨by rfl,rfl⟩
  try simp only [Act.put,List.setIfInBounds_toArray,List.set_cons_zero,List.set_cons_succ]
  refine wpAnyH_take (i:=33) (oi:= ?oi92) (v:=undef) ?hi92 (by kernel_rfl) (by kernel_rfl) (by kernel_rfl) (fun _ _ _ h=>h) ?hy92 (by assumption) ?rest92
  case hi92=>(simp only [List.getElem?_toArray,List.getElem?_cons_succ,List.getElem?_cons_zero];rfl)
  case hy92=>exact Or.inr ⟨by rfl,rfl⟩
  try simp only [Act.put,List.setIfInBounds_toArray,List.set_cons_zero,List.set_cons_succ]
  refine wpAnyH_take (i:=34) (oi:= ?oi93) (v:=undef) ?hi93 (by kernel_rfl) (by kernel_rfl) (by kernel_rfl) (fun _ _ _ h=>h) ?hy93 (by assumption) ?rest93
  case hi93=>(simp only [List.getElem?_toArray,List.getElem?_cons_succ,List.getElem?_cons_zero];rfl)
  case hy93=>exact Or.inr ⟨by rfl,rfl⟩
  try simp only [Act.put,List.setIfInBounds_toArray,List.set_cons_zero,List.set_cons_succ]
  refine wpAnyH_take (i:=35) (oi:= ?oi94) (v:=undef) ?hi94 (by kernel_rfl) (by kernel_rfl) (by kernel_rfl) (fun _ _ _ h=>h) ?hy94 (by assumption) ?rest94
  case hi94=>(simp only [List.getElem?_toArray,List.getElem?_cons_succ,List.getElem?_cons_zero];rfl)
  case hy94=>exact Or.inr ⟨by rfl,rfl⟩
  try simp only [Act.put,List.setIfInBounds_toArray,List.set_cons_zero,List.set_cons_succ]
  refine wpAnyH_take (i:=36) (oi:= ?oi95) (v:=undef) ?hi95 (by kernel_rfl) (by kernel_rfl) (by kernel_rfl) (fun _ _ _ h=>h) ?hy95 (by assumption) ?rest95
  case hi95=>(simp only [List.getElem?_toArray,List.getElem?_cons_succ,List.getElem?_cons_zero];rfl)
  case hy95=>exact Or.inr ⟨by rfl,rfl⟩
  try simp only [Act.put,List.setIfInBounds_toArray,List.set_cons_zero,List.set_cons_succ]
  refine wpAnyH_take (i:=37) (oi:= ?oi96) (v:=undef) ?hi96 (by kernel_rfl) (by kernel_rfl) (by kernel_rfl) (fun _ _ _ h=>h) ?hy96 (by assumption) ?rest96
  case hi96=>(simp only [List.getElem?_toArray,List.getElem?_cons_succ,List.getElem?_cons_zero];rfl)
  case hy96=>exact Or.inr ⟨by rfl,rfl⟩
  try simp only [Act.put,List.setIfInBounds_toArray,List.set_cons_zero,List.set_cons_succ]
  refine wpAnyH_take (i:=38) (oi:= ?oi97) (v:=undef) ?hi97 (by kernel_rfl) (by kernel_rfl) (by kernel_rfl) (fun _ _ _ h=>h) ?hy97 (by assumption) ?rest97
  case hi97=>(simp only [List.getElem?_toArray,List.getElem?_cons_succ,List.getElem?_cons_zero];rfl)
  case hy97=>exact Or.inr ⟨by rfl,rfl⟩
  try simp only [Act.put,List.setIfInBounds_toArray,List.set_cons_zero,List.set_cons_succ]
  refine wpAnyH_take (i:=39) (oi:= ?oi98) (v:=undef) ?hi98 (by kernel_rfl) (by kernel_rfl) (by kernel_rfl) (fun _ _ _ h=>h) ?hy98 (by assumption) ?rest98
  case hi98=>(simp only [List.getElem?_toArray,List.getElem?_cons_succ,List.getElem?_cons_zero];rfl)
  case hy98=>exact Or.inr ⟨by rfl,rfl⟩
  try simp only [Act.put,List.setIfInBounds_toArray,List.set_cons_zero,List.set_cons_succ]
  refine wpAnyH_take (i:=40) (oi:= ?oi99) (v:=undef) ?hi99 (by kernel_rfl) (by kernel_rfl) (by kernel_rfl) (fun _ _ _ h=>h) ?hy99 (by assumption) ?rest99
  case hi99=>(simp only [List.getElem?_toArray,List.getElem?_cons_succ,List.getElem?_cons_zero];rfl)
  case hy99=>exact Or.inr ⟨by rfl,rfl⟩
  try simp only [Act.put,List.setIfInBounds_toArray,List.set_cons_zero,List.set_cons_succ]
  refine wpAnyH_take (i:=41) (oi:= ?oi100) (v:= .bool false) ?hi100 (by kernel_rfl) (by kernel_rfl) (by kernel_rfl) (fun _ _ _ h=>h) ?hy100 (by assumption) ?rest100
  case hi100=>(simp only [List.getElem?_toArray,List.getElem?_cons_succ,List.getElem?_cons_zero];rfl)
  case hy100=>exact Or.inl ⟨by rfl,fun w' hS=>by go_simp⟩
  try simp only [Act.put,List.setIfInBounds_toArray,List.set_cons_zero,List.set_cons_succ]
  refine wpAnyH_take (i:=42) (oi:= ?oi101) (v:= .bool false) ?hi101 (by kernel_rfl) (by kernel_rfl) (by kernel_rfl) (fun _ _ _ h=>h) ?hy101 (by assumption) ?rest101
  case hi101=>(simp only [List.getElem?_toArray,List.getElem?_cons_succ,List.getElem?_cons_zero];rfl)
  case hy101=>exact Or.inl ⟨by rfl,fun w' hS=>by go_simp⟩
  try simp only [Act.put,List.setIfInBounds_toArray,List.set_cons_zero,List.set_cons_succ]
  refine wpAnyH_done (by kernel_rfl) ?_ _
  refine NoPanic.normal ?_
  go_wp2_with fail
  go_ret
  exact ⟨by rw [HD.out];rfl,HW3.out⟩
 have h2:=hid (of_decide_eq_true hd2)
 clear hd2
 refine wpAnyH_take (i:=30) (oi:= ?oi102) (v:= .bool true) ?hi102 (by kernel_rfl) (by kernel_rfl) (by kernel_rfl) (fun _ _ _ h=>h) ?hy102 (by assumption) ?rest102
 case hi102=>(simp only [List.getElem?_toArray,List.getElem?_cons_succ,List.getElem?_cons_zero];rfl)
 case hy102=>exact Or.inl ⟨by rfl,fun w' hS=>by go_simp⟩
 try simp only [Act.put,List.setIfInBounds_toArray,List.set_cons_zero,List.set_cons_succ]
 refine wpAnyH_take (i:=31) (oi:= ?oi103) (v:= .bool true) ?hi103 (by kernel_rfl) (by kernel_rfl) (by kernel_rfl) (fun _ _ _ h=>h) ?hy103 (by assumption) ?rest103
 case hi103=>(simp only [List.getElem?_toArray,List.getElem?_cons_succ,List.getElem?_cons_zero];rfl)
 case hy103=>exact Or.inl ⟨by rfl,fun w' hS=>by go_simp⟩
 try simp only [Act.put,List.setIfInBounds_toArray,List.set_cons_zero,List.set_cons_succ]
 refine wpAnyH_take (i:=32) (oi:= ?oi104) (v:=(.pointer (some ⟨g1,1,none⟩))) ?hi104 (by kernel_rfl) (by kernel_rfl) (by kernel_rfl) (fun _ _ _ h=>h) ?hy104 (by assumption) ?rest104
 case hi104=>(simp only [List.getElem?_toArray,List.getElem?_cons_succ,List.getElem?_cons_zero];rfl)
 case hy104=>exact Or.inl ⟨by rfl,fun w' hS=>by go_simp⟩
 try simp only [Act.put,List.setIfInBounds_toArray,List.set_cons_zero,List.set_cons_succ]
 refine wpAnyH_take (i:=33) (oi:= ?oi105) (v:=(.pointer (some ⟨g1,1,none⟩))) ?hi105 (by kernel_rfl) (by kernel_rfl) (by kernel_rfl) (fun _ _ _ h=>h) ?hy105 (by assumption) ?rest105
 case hi105=>(simp only [List.getElem?_toArray,List.getElem?_cons_succ,List.getElem?_cons_zero];rfl)
 case hy105=>exact Or.inl ⟨by rfl,fun w' hS=>by go_simp⟩
 try simp only [Act.put,List.setIfInBounds_toArray,List.set_cons_zero,List.set_cons_succ]
 refine wpAnyH_take (i:=34) (oi:= ?oi106) (v:=(.pointer (some ⟨g1,4,none⟩))) ?hi106 (by kernel_rfl) (by kernel_rfl) (by kernel_rfl) (fun _ _ _ h=>h) ?hy106 (by assumption) ?rest106
 case hi106=>(simp only [List.getElem?_toArray,List.getElem?_cons_succ,List.getElem?_cons_zero];rfl)
 case hy106=>exact Or.inl ⟨by rfl,fun w' hS=>by go_simp⟩
 try simp only [Act.put,List.setIfInBounds_toArray,List.set_cons_zero,List.set_cons_succ]
 refine wpAnyH_take (i:=35) (oi:= ?oi107) (v:=(.slice at' f1.ts.length ct)) ?hi107 (by kernel_rfl) (by kernel_rfl) (by kernel_rfl) (fun _ _ _ h=>h) ?hy107 (by assumption) ?rest107
 case hi107=>(simp only [List.getElem?_toArray,List.getElem?_cons_succ,List.getElem?_cons_zero];rfl)
 case hy107=>exact Or.inl ⟨by rfl,fun w' hS=>by have hp:=(RD.out w' hS).1.2.2.2;go_simp⟩
 try simp only [Act.put,List.setIfInBounds_toArray,List.set_cons_zero,List.set_cons_succ]
 refine wpAnyH_take (i:=36) (oi:= ?oi108) (v:=(.pointer (some ⟨g2,1,none⟩))) ?hi108 (by kernel_rfl) (by kernel_rfl) (by kernel_rfl) (fun _ _ _ h=>h) ?hy108 (by assumption) ?rest108
 case hi108=>(simp only [List.getElem?_toArray,List.getElem?_cons_succ,List.getElem?_cons_zero];rfl)
 case hy108=>exact Or.inl ⟨by rfl,fun w' hS=>by go_simp⟩
 try simp only [Act.put,List.setIfInBounds_toArray,List.set_cons_zero,List.set_cons_succ]
 refine wpAnyH_take (i:=37) (oi:= ?oi109) (v:=(.pointer (some ⟨g2,1,none⟩))) ?hi109 (by kernel_rfl) (by kernel_rfl) (by kernel_rfl) (fun _ _ _ h=>h) ?hy109 (by assumption) ?rest109
 case hi109=>(simp only [List.getElem?_toArray,List.getElem?_cons_succ,List.getElem?_cons_zero];rfl)
 case hy109=>exact Or.inl ⟨by rfl,fun w' hS=>by go_simp⟩
 try simp only [Act.put,List.setIfInBounds_toArray,List.set_cons_zero,List.set_cons_succ]
 refine wpAnyH_take (i:=38) (oi:= ?oi110) (v:=(.pointer (some ⟨g2,4,none⟩))) ?hi110 (by kernel_rfl) (by kernel_rfl) (by kernel_rfl) (fun _ _ _ h=>h) ?hy110 (by assumption) ?rest110
 case hi110=>(simp only [List.getElem?_toArray,List.getElem?_cons_succ,List.getElem?_cons_zero];rfl)
 case hy110=>exact Or.inl ⟨by rfl,fun w' hS=>by go_simp⟩
 try simp only [Act.put,List.setIfInBounds_toArray,List.set_cons_zero,List.set_cons_succ]
 refine wpAnyH_take (i:=39) (oi:= ?oi111) (v:=(.slice bt' f2.ts.length dt)) ?hi111 (by kernel_rfl) (by kernel_rfl) (by kernel_rfl) (fun _ _ _ h=>h) ?hy111 (by assumption) ?rest111
 case hi111=>(simp only [List.getElem?_toArray,List.getElem?_cons_succ,List.getElem?_cons_zero];rfl)
 case hy111=>exact Or.inl ⟨by rfl,fun w' hS=>by have hp:=(RD.out w' hS).2.2.2.2;go_simp⟩
 try simp only [Act.put,List.setIfInBounds_toArray,List.set_cons_zero,List.set_cons_succ]
 refine wpAnyH_ready (rs:= [40]) (by kernel_rfl) (by simp) ?_
 refine AllReadyH.cons (o:= ?oo112) ?hi112 (fun K hK=> ?_) AllReadyH.nil
 case hi112=>(simp only [List.getElem?_toArray,List.getElem?_cons_succ,List.getElem?_cons_zero];rfl)
 go_simp
 go_at_call 42
 refine (C4.out _ HW3.out).mono ?_
 rintro e w4 ⟨rfl,hb⟩
 have HW4:=hid (HW3.out.trans (hb.mono HW3.out.size))
 clear hb
 rcases hd3:decide (f1.ts=f2.ts) with _|_
 all_goals
  go_simp
  refine hK.out _ _ HW4.out (fun hHeld=> ?_)
  clear hK K
  try simp only [Act.put,List.setIfInBounds_toArray,List.set_cons_zero,List.set_cons_succ]
 ·have HD:Hid (decide (f1=f2)=false):=hid (decide_eq_false fun e=>of_decide_eq_false hd3 (by rw [e]))
  clear hd3
  refine wpAnyH_take (i:=41) (oi:= ?oi113) (v:= .bool false) ?hi113 (by kernel_rfl) (by kernel_rfl) (by kernel_rfl) (fun _ _ _ h=>h) ?hy113 (by assumption) ?rest113
  case hi113=>(simp only [List.getElem?_toArray,List.getElem?_cons_succ,List.getElem?_cons_zero];rfl)
  case hy113=>exact Or.inl ⟨by rfl,fun w' hS=>by go_simp⟩
  try simp only [Act.put,List.setIfInBounds_toArray,List.set_cons_zero,List.set_cons_succ]
  refine wpAnyH_take (i:=42) (oi:= ?oi114) (v:= .bool false) ?hi114 (by kernel_rfl) (by kernel_rfl) (by kernel_rfl) (fun _ _ _ h=>h) ?hy114 (by assumption) ?rest114
  case hi114=>(simp only [List.getElem?_toArray,List.getElem?_cons_succ,List.getElem?_cons_zero];rfl)
  case hy114=>exact Or.inl ⟨by rfl,fun w' hS=>by go_simp⟩
  try simp only [Act.put,List.setIfInBounds_toArray,List.set_cons_zero,List.set_cons_succ]
  refine wpAnyH_done (by kernel_rfl) ?_ _
  refine NoPanic.normal ?_
  go_wp2_with fail
  go_ret
  exact ⟨by rw [HD.out];rfl,HW4.out⟩
 have h3:=hid (of_decide_eq_true hd3)
 clear hd3
 refine wpAnyH_take (i:=41) (oi:= ?oi115) (v:= .bool true) ?hi115 (by kernel_rfl) (by kernel_rfl) (by kernel_rfl) (fun _ _ _ h=>h) ?hy115 (by assumption) ?rest115
 case hi115=>(simp only [List.getElem?_toArray,List.getElem?_cons_succ,List.getElem?_cons_zero];rfl)
 case hy115=>exact Or.inl ⟨by rfl,fun w' hS=>by go_simp⟩
 try simp only [Act.put,List.setIfInBounds_toArray,List.set_cons_zero,List.set_cons_succ]
 refine wpAnyH_take (i:=42) (oi:= ?oi116) (v:= .bool true) ?hi116 (by kernel_rfl) (by kernel_rfl) (by kernel_rfl) (fun _ _ _ h=>h) ?hy116 (by assumption) ?rest116
 case hi116=>(simp only [List.getElem?_toArray,List.getElem?_cons_succ,List.getElem?_cons_zero];rfl)
 case hy116=>exact Or.inl ⟨by rfl,fun w' hS=>by go_simp⟩
 try simp only [Act.put,List.setIfInBounds_toArray,List.set_cons_zero,List.set_cons_succ]
 have HD:Hid (decide (f1=f2)=true):=hid (decide_eq_true (by rw [gf_eq8];exact ⟨h0.out,h1.out,h2.out,h3.out⟩))
 refine wpAnyH_done (by kernel_rfl) ?_ _
 refine NoPanic.normal ?_
 go_wp2_with fail
 go_ret
 exact ⟨by rw [HD.out];rfl,HW4.out⟩
end Go.Proofs.YtomimkgaelkaoaaGreatDoor
