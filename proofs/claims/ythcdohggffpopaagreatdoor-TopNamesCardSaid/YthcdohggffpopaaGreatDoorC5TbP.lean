/- Layer 7, the mathematics: where tokens stand makes no difference to a parser. No program. · TopBlanks, the mathematics: tokens with any gaps behind them are read as the same tokens. No program. -/
import Derived.Test.YthcdohggffpopaaGreatDoorC5ParseP
import Derived.Test.YthcdohggffpopaaGreatDoorC5ShL
import Derived.Test.YthcdohggffpopaaGreatDoorC5LexQ
import Derived.Test.YthcdohggffpopaaGreatDoorC5LexY
import Derived.Test.YthcdohggffpopaaGreatDoorC5ParTok
import Derived.Test.YthcdohggffpopaaGreatDoorC5ParLv
set_option linter.unusedVariables false
set_option linter.unusedSimpArgs false
namespace Go.Proofs.YthcdohggffpopaaGreatDoor
def PR.mp {α:Type} (g:Tok→Tok):PR α→PR α
 | .ok a l=> .ok a (l.map g)
 | .bad l e=> .bad (l.map g) e
section
variable {g:Tok→Tok} (hg: ∀t,(g t).tk=t.tk)
include hg
theorem hd_mp (l:List Tok):(hd (l.map g)).tk=(hd l).tk:=by
 cases l with
 |nil=>rfl
 |cons a r=>exact hg a
omit hg in
theorem tail_mp (l:List Tok):(l.map g).tail=l.tail.map g:=by cases l<;>rfl
omit hg in
theorem bind_mp {α β:Type} {r:PR α} {f' f:α→List Tok→PR β} (h: ∀a l,f' a (l.map g)=(f a l).mp g):(r.mp g).bind f'=(r.bind f).mp g:=by
 cases r with
 |ok a l=>exact h a l
 |bad l e=>rfl
theorem isT_mp (k:List UInt8) (l:List Tok):isT k (l.map g)=isT k l:=by unfold isT;rw [hd_mp hg]
theorem isName_mp (l:List Tok):isName (l.map g)=isName l:=by unfold isName;rw [hd_mp hg]
theorem isNum_mp (l:List Tok):isNum (l.map g)=isNum l:=by unfold isNum;rw [hd_mp hg]
theorem begE_mp (l:List Tok):begE (l.map g)=begE l:=by unfold begE;rw [isT_mp hg,isT_mp hg,isNum_mp hg,isName_mp hg]
theorem begT_mp (l:List Tok):begT (l.map g)=begT l:=by unfold begT;rw [hd_mp hg,isName_mp hg]
theorem derK_mp (l:List Tok):derK (l.map g)=derK l:=by unfold derK;simp only [isT_mp hg]
theorem need_mp (k:List UInt8) (l:List Tok):need k (l.map g)=(need k l).mp g:=by
 unfold need;rw [isT_mp hg,tail_mp];split<;>rfl
theorem name_mp (l:List Tok):nameP (l.map g)=(nameP l).mp g:=by
 unfold nameP;rw [isName_mp hg,tail_mp,hd_mp hg];split<;>rfl
theorem num_mp (l:List Tok):numP (l.map g)=(numP l).mp g:=by
 unfold numP;rw [isNum_mp hg,tail_mp,hd_mp hg];split<;>rfl
omit hg in
theorem expect_mp (b:Bool) (l:List Tok):expectP b (l.map g)=(expectP b l).mp g:=by unfold expectP;split<;>rfl
omit hg in
theorem room_mp (k:Nat) (l:List Tok):roomP k (l.map g)=(roomP k l).mp g:=by unfold roomP;split<;>rfl
omit hg in
theorem enter_mp (b:Bool) (d:Nat) (l:List Tok):enterP b d (l.map g)=(enterP b d l).mp g:=by
 unfold enterP;split
 ·rfl
 ·split<;>rfl
theorem expr_mp: ∀n,(∀d l,unary n d (l.map g)=(unary n d l).mp g)∧(∀v d l,bin n v d (l.map g)=(bin n v d l).mp g)∧(∀v d a l,loopB n v d a (l.map g)=(loopB n v d a l).mp g)
 |0=>⟨fun d l=>by rw [unary,unary];rfl,fun v d l=>by rw [bin,bin];rfl,fun v d a l=>by rw [loopB,loopB];rfl⟩
 |n+1=>by
  obtain ⟨i1,i2,i3⟩:=expr_mp n
  refine ⟨fun d l=> ?_,fun v d l=> ?_,fun v d a l=> ?_⟩
  ·rw [unary,unary,isT_mp hg,isT_mp hg,isNum_mp hg,isName_mp hg,tail_mp,hd_mp hg,begE_mp hg]
   split
   ·rw [enter_mp];refine bind_mp fun _ l1=> ?_
    rw [i1];exact bind_mp fun a l2=>rfl
   split
   ·rw [enter_mp];refine bind_mp fun _ l1=> ?_
    rw [i2];refine bind_mp fun a l2=> ?_
    rw [need_mp hg];exact bind_mp fun _ l3=>rfl
   split
   ·rfl
   split<;>rfl
  ·rw [bin,bin,i1];exact bind_mp fun a l1=>i3 v d a l1
  ·rw [loopB,loopB,hd_mp hg,tail_mp]
   split
   ·rw [i2];exact bind_mp fun b l1=>i3 _ _ _ _
   ·rfl
theorem bin_mp (n v d:Nat) (l:List Tok):bin n v d (l.map g)=(bin n v d l).mp g:=(expr_mp hg n).2.1 v d l
theorem idx_mp (n d:Nat) (l:List Tok):idxP n d (l.map g)=(idxP n d l).mp g:=by
 unfold idxP
 rw [need_mp hg];refine bind_mp fun _ l1=> ?_
 rw [bin_mp hg];refine bind_mp fun e l2=> ?_
 rw [need_mp hg];exact bind_mp fun _ l3=>rfl
theorem argsL_mp: ∀(n:Nat) es d l,argsL n es d (l.map g)=(argsL n es d l).mp g
 |0,_,_,_=>by rw [argsL,argsL];rfl
 |n+1,es,d,l=>by
  rw [argsL,argsL,isT_mp hg,tail_mp,begE_mp hg]
  split
  ·rw [expect_mp];refine bind_mp fun _ l1=> ?_
   rw [room_mp];refine bind_mp fun _ l2=> ?_
   rw [bin_mp hg];exact bind_mp fun e l3=>argsL_mp n _ _ _
  ·rfl
theorem args_mp (n d:Nat) (l:List Tok):argsP n d (l.map g)=(argsP n d l).mp g:=by
 unfold argsP
 rw [bin_mp hg];refine bind_mp fun e l1=> ?_
 rw [argsL_mp hg];refine bind_mp fun es l2=> ?_
 rw [need_mp hg];exact bind_mp fun _ l3=>rfl
theorem single_mp (n d:Nat) (l:List Tok):singleP n d (l.map g)=(singleP n d l).mp g:=by
 unfold singleP
 rw [hd_mp hg,tail_mp]
 split
 ·rfl
 ·rw [isT_mp hg,tail_mp]
  split
  ·rw [args_mp hg];exact bind_mp fun es l1=>rfl
  ·rfl
theorem elem_mp (n d:Nat) (l:List Tok):elemP n d (l.map g)=(elemP n d l).mp g:=by
 unfold elemP
 rw [single_mp hg];refine bind_mp fun t l1=> ?_
 rw [isT_mp hg]
 split
 ·rw [idx_mp hg];exact bind_mp fun e l2=>rfl
 ·rfl
theorem types_mp: ∀n,(∀d l,typP n d (l.map g)=(typP n d l).mp g)∧(∀d l,innerP n d (l.map g)=(innerP n d l).mp g)∧(∀d l,branchP n d (l.map g)=(branchP n d l).mp g)∧
  (∀d k cs l,casesL n d k cs (l.map g)=(casesL n d k cs l).mp g)∧(∀d l,switchP n d (l.map g)=(switchP n d l).mp g)
 |0=>⟨fun d l=>by rw [typP,typP];rfl,fun d l=>by rw [innerP,innerP];rfl,fun d l=>by rw [branchP,branchP];rfl,fun d k cs l=>by rw [casesL,casesL];rfl,fun d l=>by rw [switchP,switchP];rfl⟩
 |n+1=>by
  obtain ⟨i1,i2,i3,i4,i5⟩:=types_mp n
  refine ⟨fun d l=> ?_,fun d l=> ?_,fun d l=> ?_,fun d k cs l=> ?_,fun d l=> ?_⟩
  ·rw [typP,typP]
   simp only [isT_mp hg,tail_mp,begT_mp hg]
   split
   ·rfl
   split
   ·rw [idx_mp hg];exact bind_mp fun e l1=>rfl
   split
   ·rw [idx_mp hg];exact bind_mp fun e l1=>rfl
   split
   ·rw [idx_mp hg];exact bind_mp fun e l1=>rfl
   split
   ·rw [idx_mp hg];refine bind_mp fun e l1=> ?_
    rw [i2];exact bind_mp fun t l2=>rfl
   split
   ·rw [idx_mp hg];refine bind_mp fun e l1=> ?_
    rw [i2];exact bind_mp fun t l2=>rfl
   split
   ·rw [i2];exact bind_mp fun t l2=>rfl
   split
   ·rfl
   split
   ·rfl
   split
   ·exact i5 d _
   ·exact elem_mp hg n d l
  ·rw [innerP,innerP,begT_mp hg,enter_mp];exact bind_mp fun _ l1=>i1 _ _
  ·rw [branchP,branchP,need_mp hg];refine bind_mp fun _ l1=> ?_
   rw [i2];refine bind_mp fun t l2=> ?_
   rw [need_mp hg];exact bind_mp fun _ l3=>rfl
  ·rw [casesL,casesL,isT_mp hg,tail_mp]
   split
   ·rw [room_mp];refine bind_mp fun _ _=> ?_
    rw [num_mp hg];refine bind_mp fun v l1=> ?_
    rw [i3];exact bind_mp fun t l2=>i4 _ _ _ _
   ·rfl
  ·rw [switchP,switchP,need_mp hg];refine bind_mp fun _ l1=> ?_
   rw [bin_mp hg];refine bind_mp fun e l2=> ?_
   rw [need_mp hg];refine bind_mp fun _ l3=> ?_
   rw [need_mp hg];refine bind_mp fun _ l4=> ?_
   rw [i4];refine bind_mp fun cs l5=> ?_
   rw [isT_mp hg,tail_mp]
   split
   ·rw [i3];refine bind_mp fun t l6=> ?_
    rw [need_mp hg];exact bind_mp fun _ l7=>rfl
   ·rw [need_mp hg];exact bind_mp fun _ l7=>rfl
theorem der_mp (l:List Tok):derP (l.map g)=(derP l).mp g:=by
 unfold derP
 rw [derK_mp hg,tail_mp]
 split
 ·rfl
 rw [need_mp hg];refine bind_mp fun _ l1=> ?_
 rw [name_mp hg];refine bind_mp fun a l2=> ?_
 split
 ·rw [need_mp hg];exact bind_mp fun _ l3=>rfl
 ·rw [need_mp hg];refine bind_mp fun _ l3=> ?_
  rw [name_mp hg];refine bind_mp fun b l4=> ?_
  rw [need_mp hg];exact bind_mp fun _ l5=>rfl
theorem optD_mp (l:List Tok):optD (l.map g)=(optD l).mp g:=by
 unfold optD
 rw [isT_mp hg,tail_mp]
 split
 ·exact der_mp hg _
 ·rfl
theorem optW_mp (n:Nat) (l:List Tok):optW n (l.map g)=(optW n l).mp g:=by
 unfold optW
 rw [isT_mp hg,tail_mp]
 split
 ·rw [bin_mp hg];exact bind_mp fun e l1=>rfl
 ·rfl
theorem field_mp (n:Nat) (l:List Tok):fieldP n (l.map g)=(fieldP n l).mp g:=by
 unfold fieldP
 rw [name_mp hg];refine bind_mp fun s l1=> ?_
 rw [need_mp hg];refine bind_mp fun _ l2=> ?_
 rw [(types_mp hg n).1];refine bind_mp fun t l3=> ?_
 rw [optD_mp hg];refine bind_mp fun d l4=> ?_
 rw [optW_mp hg];refine bind_mp fun w l5=> ?_
 rw [need_mp hg];exact bind_mp fun _ l6=>rfl
theorem sub_mp (l:List Tok):subP (l.map g)=(subP l).mp g:=by
 unfold subP
 rw [name_mp hg];refine bind_mp fun s l1=> ?_
 rw [need_mp hg];refine bind_mp fun _ l2=> ?_
 rw [num_mp hg];refine bind_mp fun v l3=> ?_
 rw [need_mp hg];exact bind_mp fun _ l4=>rfl
theorem subsL_mp: ∀(n:Nat) ss l,subsL n ss (l.map g)=(subsL n ss l).mp g
 |0,_,_=>by rw [subsL,subsL];rfl
 |n+1,ss,l=>by
  rw [subsL,subsL,isT_mp hg,tail_mp,isName_mp hg]
  split
  ·rfl
  ·rw [expect_mp];refine bind_mp fun _ _=> ?_
   rw [room_mp];refine bind_mp fun _ _=> ?_
   rw [sub_mp hg];exact bind_mp fun x l1=>subsL_mp n _ _
theorem pack_mp (n:Nat) (l:List Tok):packP n (l.map g)=(packP n l).mp g:=by
 unfold packP
 rw [hd_mp hg,tail_mp]
 split
 ·rfl
 ·rw [need_mp hg];refine bind_mp fun _ l1=> ?_
  rw [sub_mp hg];refine bind_mp fun x l2=> ?_
  rw [subsL_mp hg];exact bind_mp fun ss l3=>rfl
theorem item_mp (n:Nat) (l:List Tok):itemP n (l.map g)=(itemP n l).mp g:=by
 unfold itemP
 rw [isT_mp hg,tail_mp]
 split
 ·exact pack_mp hg _ _
 ·exact field_mp hg _ _
theorem itemsL_mp: ∀(n:Nat) is l,itemsL n is (l.map g)=(itemsL n is l).mp g
 |0,_,_=>by rw [itemsL,itemsL];rfl
 |n+1,is,l=>by
  rw [itemsL,itemsL,isT_mp hg,tail_mp,isName_mp hg,isT_mp hg]
  split
  ·rfl
  ·rw [expect_mp];refine bind_mp fun _ _=> ?_
   rw [room_mp];refine bind_mp fun _ _=> ?_
   rw [item_mp hg];exact bind_mp fun x l1=>itemsL_mp n _ _
theorem paramsL_mp: ∀(n:Nat) ps l,paramsL n ps (l.map g)=(paramsL n ps l).mp g
 |0,_,_=>by rw [paramsL,paramsL];rfl
 |n+1,ps,l=>by
  rw [paramsL,paramsL,isT_mp hg,tail_mp,isName_mp hg]
  split
  ·rw [expect_mp];refine bind_mp fun _ l1=> ?_
   rw [room_mp];refine bind_mp fun _ l2=> ?_
   rw [name_mp hg];exact bind_mp fun x l3=>paramsL_mp n _ _
  ·rfl
theorem optP_mp (n:Nat) (l:List Tok):optP n (l.map g)=(optP n l).mp g:=by
 unfold optP
 rw [isT_mp hg,tail_mp]
 split
 ·unfold paramsP
  rw [name_mp hg];refine bind_mp fun s l1=> ?_
  rw [paramsL_mp hg];refine bind_mp fun ps l2=> ?_
  rw [need_mp hg];exact bind_mp fun _ l3=>rfl
 ·rfl
theorem struct_mp (n:Nat) (l:List Tok):structP n (l.map g)=(structP n l).mp g:=by
 unfold structP
 rw [need_mp hg];refine bind_mp fun _ l1=> ?_
 rw [name_mp hg];refine bind_mp fun s l2=> ?_
 rw [optP_mp hg];refine bind_mp fun ps l3=> ?_
 rw [need_mp hg];refine bind_mp fun _ l4=> ?_
 rw [itemsL_mp hg];exact bind_mp fun is l5=>rfl
theorem const_mp (l:List Tok):constP (l.map g)=(constP l).mp g:=by
 unfold constP
 rw [need_mp hg];refine bind_mp fun _ l1=> ?_
 rw [name_mp hg];refine bind_mp fun s l2=> ?_
 rw [need_mp hg];refine bind_mp fun _ l3=> ?_
 rw [num_mp hg];refine bind_mp fun v l4=> ?_
 rw [need_mp hg];exact bind_mp fun _ l5=>rfl
theorem file_mp: ∀(n:Nat) cs ss l,fileL n cs ss (l.map g)=(fileL n cs ss l).mp g
 |0,_,_,_=>by rw [fileL,fileL];rfl
 |n+1,cs,ss,l=>by
  rw [fileL,fileL,hd_mp hg,isT_mp hg,isT_mp hg]
  split
  ·rfl
  split
  ·rw [room_mp];refine bind_mp fun _ _=> ?_
   rw [const_mp hg];exact bind_mp fun c l1=>file_mp n _ _ _
  split
  ·rw [room_mp];refine bind_mp fun _ _=> ?_
   rw [struct_mp hg];exact bind_mp fun s l1=>file_mp n _ _ _
  ·rfl
end
def bare0 (t:Tok):Tok:=⟨t.tk,(0,0)⟩
theorem bare_map (l:List Tok):l.map bare0=(l.map (·.tk)).map fun v=>⟨v,(0,0)⟩:=by rw [List.map_map];rfl
theorem file_same {l l':List Tok} (h:l.map (·.tk)=l'.map (·.tk)) (n:Nat) (cs:List (List UInt8×Nat)) (ss:List SA):(fileL n cs ss l).mp bare0=(fileL n cs ss l').mp bare0:=by
 rw [←file_mp (g:=bare0) (fun t=>rfl),←file_mp (g:=bare0) (fun t=>rfl),bare_map,bare_map,h]
theorem file_same_ok {l l' r:List Tok} (h:l.map (·.tk)=l'.map (·.tk)) {n:Nat} {cs:List (List UInt8×Nat)} {ss:List SA} {a} (e:fileL n cs ss l= .ok a r): ∃r',fileL n cs ss l'= .ok a r':=by
 have:=file_same h n cs ss
 rw [e] at this
 cases h':fileL n cs ss l' with
 |ok a' r'=>rw [h'] at this;simp only [PR.mp,PR.ok.injEq] at this;rw [this.1];exact ⟨_,rfl⟩
 |bad r' e'=>rw [h'] at this;cases this
end Go.Proofs.YthcdohggffpopaaGreatDoor
namespace Go.Proofs.YthcdohggffpopaaGreatDoor
theorem lexL_room {s:List UInt8} {ts:List Tok} (h:lexL s= .ok ts):ts.length≤s.length+1∧sumL ts≤s.length:=by
 unfold lexL at h
 split at h
 ·cases h
 ·obtain ⟨h1,h2, -⟩:=lexG_all _ _ _ s ts (Nat.le_refl _) h
  exact ⟨h1,h2⟩
end Go.Proofs.YthcdohggffpopaaGreatDoor
