/- TopNames, the mathematics: a parser of tokens whose names are renamed gives the tree whose names are renamed. No program. · TopNames, the mathematics: names with a letter more behind them; the File of the renamed tokens; the text of them. No program. -/
import Derived.Test.YthcdohggffpopaaGreatDoorC5ParseP
import Derived.Test.YthcdohggffpopaaGreatDoorC5TbP
import Derived.Test.YthcdohggffpopaaGreatDoorC5ShV
set_option linter.unusedVariables false
set_option linter.unusedSimpArgs false
namespace Go.Proofs.YthcdohggffpopaaGreatDoor
def KSL:List (List UInt8):=kwL++ [sExcl,sLp,sRp,sLb,sRb,sLc,sRc,sComma,sColon,sSemi,sEq,sDots]
class InKS (k:List UInt8):Prop where
 h:k∈KSL
instance:InKS kConst:=⟨by decide⟩
instance:InKS kStruct:=⟨by decide⟩
instance:InKS kPack:=⟨by decide⟩
instance:InKS kWhere:=⟨by decide⟩
instance:InKS kSizeof:=⟨by decide⟩
instance:InKS kCountof:=⟨by decide⟩
instance:InKS kCrc32:=⟨by decide⟩
instance:InKS kAdler32:=⟨by decide⟩
instance:InKS kBytes:=⟨by decide⟩
instance:InKS kZero:=⟨by decide⟩
instance:InKS kSkip:=⟨by decide⟩
instance:InKS kWindow:=⟨by decide⟩
instance:InKS kAt:=⟨by decide⟩
instance:InKS kRest:=⟨by decide⟩
instance:InKS kTail:=⟨by decide⟩
instance:InKS kNone:=⟨by decide⟩
instance:InKS kSwitch:=⟨by decide⟩
instance:InKS kCase:=⟨by decide⟩
instance:InKS kElse:=⟨by decide⟩
instance:InKS sExcl:=⟨by decide⟩
instance:InKS sLp:=⟨by decide⟩
instance:InKS sRp:=⟨by decide⟩
instance:InKS sLb:=⟨by decide⟩
instance:InKS sRb:=⟨by decide⟩
instance:InKS sLc:=⟨by decide⟩
instance:InKS sRc:=⟨by decide⟩
instance:InKS sComma:=⟨by decide⟩
instance:InKS sColon:=⟨by decide⟩
instance:InKS sSemi:=⟨by decide⟩
instance:InKS sEq:=⟨by decide⟩
instance:InKS sDots:=⟨by decide⟩
structure Rn (r:List UInt8→List UInt8) (g:Tok→Tok):Prop where
 k: ∀t,(g t).tk.k=t.tk.k
 n: ∀t,(g t).tk.n=t.tk.n
 t: ∀t,(g t).tk.t=r t.tk.t
 is: ∀s,∀k∈KSL,(r s=k↔s=k)
 kw: ∀s,isKw (r s)=isKw s
 iw: ∀s,intW (r s)=intW s
 lv: ∀s,levelL (r s)=levelL s
 op: ∀s,1≤levelL s→r s=s
 ty: ∀s,tyW.contains (r s)=tyW.contains s
 nil:r []= []
def rE (r:List UInt8→List UInt8):EA→EA
 | .num n=> .num n
 | .name s=> .name (r s)
 | .not a=> .not (rE r a)
 | .bin op a b=> .bin op (rE r a) (rE r b)
def rT (r:List UInt8→List UInt8):TA→TA
 | .int z li=> .int z li
 | .ref s es=> .ref (r s) (es.map (rE r))
 | .idx k e=> .idx k (rE r e)
 | .win k e t=> .win k (rE r e) (rT r t)
 | .rest t=> .rest (rT r t)
 | .leaf k=> .leaf k
 | .arr t e=> .arr (rT r t) (rE r e)
 | .sw e cs els=> .sw (rE r e) (rT r cs) (rT r els)
 | .nil=> .nil
 | .snoc cs n t=> .snoc (rT r cs) n (rT r t)
def rD (r:List UInt8→List UInt8) (d:DA):DA:=⟨d.k,r d.a,r d.b⟩
def rP (r:List UInt8→List UInt8) (x:List UInt8×Nat):List UInt8×Nat:=(r x.1,x.2)
def rI (r:List UInt8→List UInt8):IA→IA
 | .field s t d wh=> .field (r s) (rT r t) (rD r d) (wh.map (rE r))
 | .pack z li subs=> .pack z li (subs.map (rP r))
def rS (r:List UInt8→List UInt8) (s:SA):SA:=⟨r s.s,s.ps.map r,s.is.map (rI r)⟩
def PR.mq {α:Type} (φ:α→α) (g:Tok→Tok):PR α→PR α
 | .ok a l=> .ok (φ a) (l.map g)
 | .bad l e=> .bad (l.map g) e
section
variable {r:List UInt8→List UInt8} {g:Tok→Tok} (H:Rn r g)
include H
theorem hd_k (l:List Tok):(hd (l.map g)).tk.k=(hd l).tk.k:=by
 cases l with
 |nil=>rfl
 |cons a r=>exact H.k a
theorem hd_n (l:List Tok):(hd (l.map g)).tk.n=(hd l).tk.n:=by
 cases l with
 |nil=>rfl
 |cons a r=>exact H.n a
theorem hd_t (l:List Tok):(hd (l.map g)).tk.t=r (hd l).tk.t:=by
 cases l with
 |nil=>exact H.nil.symm
 |cons a r=>exact H.t a
omit H in
theorem tail_mq (l:List Tok):(l.map g).tail=l.tail.map g:=by cases l<;>rfl
omit H in
theorem bind_mq {α β:Type} {φ:α→α} {ψ:β→β} {r:PR α} {f' f:α→List Tok→PR β} (h: ∀a l,f' (φ a) (l.map g)=(f a l).mq ψ g):(r.mq φ g).bind f'=(r.bind f).mq ψ g:=by
 cases r with
 |ok a l=>exact h a l
 |bad l e=>rfl
theorem isT_mq (k:List UInt8) [hk:InKS k] (l:List Tok):isT k (l.map g)=isT k l:=by
 unfold isT
 rw [hd_t H]
 exact decide_eq_decide.2 (H.is _ _ hk.h)
theorem isName_mq (l:List Tok):isName (l.map g)=isName l:=by unfold isName;rw [hd_k H,hd_t H,H.kw]
theorem isNum_mq (l:List Tok):isNum (l.map g)=isNum l:=by unfold isNum;rw [hd_k H]
theorem begE_mq (l:List Tok):begE (l.map g)=begE l:=by unfold begE;rw [isT_mq H,isT_mq H,isNum_mq H,isName_mq H]
theorem begT_mq (l:List Tok):begT (l.map g)=begT l:=by unfold begT;rw [hd_t H,H.ty,H.iw,isName_mq H]
theorem derK_mq (l:List Tok):derK (l.map g)=derK l:=by unfold derK;rw [isT_mq H,isT_mq H,isT_mq H,isT_mq H]
theorem need_mq (k:List UInt8) [hk:InKS k] (l:List Tok):need k (l.map g)=(need k l).mq id g:=by
 unfold need;rw [isT_mq H,tail_mq];split<;>rfl
theorem name_mq (l:List Tok):nameP (l.map g)=(nameP l).mq r g:=by
 unfold nameP;rw [isName_mq H,tail_mq,hd_t H];split<;>rfl
theorem num_mq (l:List Tok):numP (l.map g)=(numP l).mq id g:=by
 unfold numP;rw [isNum_mq H,tail_mq,hd_n H];split<;>rfl
omit H in
theorem expect_mq (b:Bool) (l:List Tok):expectP b (l.map g)=(expectP b l).mq id g:=by unfold expectP;split<;>rfl
omit H in
theorem room_mq (k:Nat) (l:List Tok):roomP k (l.map g)=(roomP k l).mq id g:=by unfold roomP;split<;>rfl
omit H in
theorem enter_mq (b:Bool) (d:Nat) (l:List Tok):enterP b d (l.map g)=(enterP b d l).mq id g:=by
 unfold enterP;split
 ·rfl
 ·split<;>rfl
theorem expr_mq: ∀n,(∀d l,unary n d (l.map g)=(unary n d l).mq (rE r) g)∧(∀v d l,1≤v→bin n v d (l.map g)=(bin n v d l).mq (rE r) g)∧(∀v d a l,1≤v→loopB n v d (rE r a) (l.map g)=(loopB n v d a l).mq (rE r) g)
 |0=>⟨fun d l=>by rw [unary,unary];rfl,fun v d l _=>by rw [bin,bin];rfl,fun v d a l _=>by rw [loopB,loopB];rfl⟩
 |n+1=>by
  obtain ⟨i1,i2,i3⟩:=expr_mq n
  refine ⟨fun d l=> ?_,fun v d l hv=> ?_,fun v d a l hv=> ?_⟩
  ·rw [unary,unary,isT_mq H,isT_mq H,isNum_mq H,isName_mq H,tail_mq,hd_t H,hd_n H,begE_mq H]
   split
   ·rw [enter_mq];refine bind_mq fun _ l1=> ?_
    rw [i1];exact bind_mq fun a l2=>rfl
   split
   ·rw [enter_mq];refine bind_mq fun _ l1=> ?_
    rw [i2 _ _ _ (Nat.le_refl _)];refine bind_mq fun a l2=> ?_
    rw [need_mq H];exact bind_mq fun _ l3=>rfl
   split
   ·rfl
   split<;>rfl
  ·rw [bin,bin,i1];exact bind_mq fun a l1=>i3 v d a l1 hv
  ·rw [loopB,loopB,hd_t H,H.lv,tail_mq]
   split
   ·rename_i hle
    rw [i2 _ _ _ (by omega),H.op _ (Nat.le_trans hv hle)]
    exact bind_mq fun b l1=>i3 _ _ (.bin _ a b) _ hv
   ·rfl
theorem bin_mq (n v d:Nat) (l:List Tok) (hv:1≤v):bin n v d (l.map g)=(bin n v d l).mq (rE r) g:=(expr_mq H n).2.1 v d l hv
theorem idx_mq (n d:Nat) (l:List Tok):idxP n d (l.map g)=(idxP n d l).mq (rE r) g:=by
 unfold idxP
 rw [need_mq H];refine bind_mq fun _ l1=> ?_
 rw [bin_mq H _ _ _ _ (Nat.le_refl _)];refine bind_mq fun e l2=> ?_
 rw [need_mq H];exact bind_mq fun _ l3=>rfl
theorem argsL_mq: ∀(n:Nat) es d l,argsL n (es.map (rE r)) d (l.map g)=(argsL n es d l).mq (List.map (rE r)) g
 |0,_,_,_=>by rw [argsL,argsL];rfl
 |n+1,es,d,l=>by
  rw [argsL,argsL,isT_mq H,tail_mq,begE_mq H,List.length_map]
  split
  ·rw [expect_mq];refine bind_mq fun _ l1=> ?_
   rw [room_mq];refine bind_mq fun _ l2=> ?_
   rw [bin_mq H _ _ _ _ (Nat.le_refl _)];refine bind_mq fun e l3=> ?_
   have:=argsL_mq n (es++ [e]) d l3
   rw [List.map_append] at this
   exact this
  ·rfl
theorem args_mq (n d:Nat) (l:List Tok):argsP n d (l.map g)=(argsP n d l).mq (List.map (rE r)) g:=by
 unfold argsP
 rw [bin_mq H _ _ _ _ (Nat.le_refl _)];refine bind_mq fun e l1=> ?_
 have:=argsL_mq H n [e] d l1
 rw [List.map_cons,List.map_nil] at this
 rw [this];refine bind_mq fun es l2=> ?_
 rw [need_mq H];exact bind_mq fun _ l3=>rfl
theorem single_mq (n d:Nat) (l:List Tok):singleP n d (l.map g)=(singleP n d l).mq (rT r) g:=by
 unfold singleP
 rw [hd_t H,H.iw,tail_mq]
 split
 ·rfl
 ·rw [isT_mq H,tail_mq]
  split
  ·rw [args_mq H];exact bind_mq fun es l1=>rfl
  ·rfl
theorem elem_mq (n d:Nat) (l:List Tok):elemP n d (l.map g)=(elemP n d l).mq (rT r) g:=by
 unfold elemP
 rw [single_mq H];refine bind_mq fun t l1=> ?_
 rw [isT_mq H]
 split
 ·rw [idx_mq H];exact bind_mq fun e l2=>rfl
 ·rfl
theorem types_mq: ∀n,(∀d l,typP n d (l.map g)=(typP n d l).mq (rT r) g)∧(∀d l,innerP n d (l.map g)=(innerP n d l).mq (rT r) g)∧(∀d l,branchP n d (l.map g)=(branchP n d l).mq (rT r) g)∧
  (∀d k cs l,casesL n d k (rT r cs) (l.map g)=(casesL n d k cs l).mq (rT r) g)∧(∀d l,switchP n d (l.map g)=(switchP n d l).mq (rT r) g)
 |0=>⟨fun d l=>by rw [typP,typP];rfl,fun d l=>by rw [innerP,innerP];rfl,fun d l=>by rw [branchP,branchP];rfl,fun d k cs l=>by rw [casesL,casesL];rfl,fun d l=>by rw [switchP,switchP];rfl⟩
 |n+1=>by
  obtain ⟨i1,i2,i3,i4,i5⟩:=types_mq n
  refine ⟨fun d l=> ?_,fun d l=> ?_,fun d l=> ?_,fun d k cs l=> ?_,fun d l=> ?_⟩
  ·rw [typP,typP,isT_mq H kBytes,isT_mq H kZero,isT_mq H kSkip,isT_mq H kWindow,isT_mq H kAt,isT_mq H kRest,isT_mq H kTail,isT_mq H kNone,isT_mq H kSwitch,tail_mq,begT_mq H]
   split
   ·rfl
   split
   ·rw [idx_mq H];exact bind_mq fun e l1=>rfl
   split
   ·rw [idx_mq H];exact bind_mq fun e l1=>rfl
   split
   ·rw [idx_mq H];exact bind_mq fun e l1=>rfl
   split
   ·rw [idx_mq H];refine bind_mq fun e l1=> ?_
    rw [i2];exact bind_mq fun t l2=>rfl
   split
   ·rw [idx_mq H];refine bind_mq fun e l1=> ?_
    rw [i2];exact bind_mq fun t l2=>rfl
   split
   ·rw [i2];exact bind_mq fun t l2=>rfl
   split
   ·rfl
   split
   ·rfl
   split
   ·exact i5 d _
   ·exact elem_mq H n d l
  ·rw [innerP,innerP,begT_mq H,enter_mq];exact bind_mq fun _ l1=>i1 _ _
  ·rw [branchP,branchP,need_mq H];refine bind_mq fun _ l1=> ?_
   rw [i2];refine bind_mq fun t l2=> ?_
   rw [need_mq H];exact bind_mq fun _ l3=>rfl
  ·rw [casesL,casesL,isT_mq H,tail_mq]
   split
   ·rw [room_mq];refine bind_mq fun _ _=> ?_
    rw [num_mq H];refine bind_mq fun v l1=> ?_
    rw [i3];exact bind_mq fun t l2=>i4 _ _ (.snoc cs v t) _
   ·rfl
  ·rw [switchP,switchP,need_mq H];refine bind_mq fun _ l1=> ?_
   rw [bin_mq H _ _ _ _ (Nat.le_refl _)];refine bind_mq fun e l2=> ?_
   rw [need_mq H];refine bind_mq fun _ l3=> ?_
   rw [need_mq H];refine bind_mq fun _ l4=> ?_
   rw [show (TA.nil)=rT r .nil from rfl,i4];refine bind_mq fun cs l5=> ?_
   rw [isT_mq H,tail_mq]
   split
   ·rw [i3];refine bind_mq fun t l6=> ?_
    rw [need_mq H];exact bind_mq fun _ l7=>rfl
   ·rw [need_mq H];exact bind_mq fun _ l7=>rfl
theorem der_mq (l:List Tok):derP (l.map g)=(derP l).mq (rD r) g:=by
 unfold derP
 rw [derK_mq H,tail_mq]
 split
 ·rfl
 rw [need_mq H];refine bind_mq fun _ l1=> ?_
 rw [name_mq H];refine bind_mq fun a l2=> ?_
 split
 ·rw [need_mq H];exact bind_mq fun _ l3=>by show PR.ok _ _=PR.ok _ _;unfold rD;rw [H.nil]
 ·rw [need_mq H];refine bind_mq fun _ l3=> ?_
  rw [name_mq H];refine bind_mq fun b l4=> ?_
  rw [need_mq H];exact bind_mq fun _ l5=>rfl
theorem optD_mq (l:List Tok):optD (l.map g)=(optD l).mq (rD r) g:=by
 unfold optD
 rw [isT_mq H,tail_mq]
 split
 ·exact der_mq H _
 ·show PR.ok _ _=PR.ok _ _;unfold rD;rw [H.nil]
theorem optW_mq (n:Nat) (l:List Tok):optW n (l.map g)=(optW n l).mq (Option.map (rE r)) g:=by
 unfold optW
 rw [isT_mq H,tail_mq]
 split
 ·rw [bin_mq H _ _ _ _ (Nat.le_refl _)];exact bind_mq fun e l1=>rfl
 ·rfl
theorem field_mq (n:Nat) (l:List Tok):fieldP n (l.map g)=(fieldP n l).mq (rI r) g:=by
 unfold fieldP
 rw [name_mq H];refine bind_mq fun s l1=> ?_
 rw [need_mq H];refine bind_mq fun _ l2=> ?_
 rw [(types_mq H n).1];refine bind_mq fun t l3=> ?_
 rw [optD_mq H];refine bind_mq fun d l4=> ?_
 rw [optW_mq H];refine bind_mq fun w l5=> ?_
 rw [need_mq H];exact bind_mq fun _ l6=>rfl
theorem sub_mq (l:List Tok):subP (l.map g)=(subP l).mq (rP r) g:=by
 unfold subP
 rw [name_mq H];refine bind_mq fun s l1=> ?_
 rw [need_mq H];refine bind_mq fun _ l2=> ?_
 rw [num_mq H];refine bind_mq fun v l3=> ?_
 rw [need_mq H];exact bind_mq fun _ l4=>rfl
theorem subsL_mq: ∀(n:Nat) ss l,subsL n (ss.map (rP r)) (l.map g)=(subsL n ss l).mq (List.map (rP r)) g
 |0,_,_=>by rw [subsL,subsL];rfl
 |n+1,ss,l=>by
  rw [subsL,subsL,isT_mq H,tail_mq,isName_mq H,List.length_map]
  split
  ·rfl
  ·rw [expect_mq];refine bind_mq fun _ _=> ?_
   rw [room_mq];refine bind_mq fun _ _=> ?_
   rw [sub_mq H];refine bind_mq fun x l1=> ?_
   have:=subsL_mq n (ss++ [x]) l1
   rw [List.map_append] at this
   exact this
theorem pack_mq (n:Nat) (l:List Tok):packP n (l.map g)=(packP n l).mq (rI r) g:=by
 unfold packP
 rw [hd_t H,H.iw,tail_mq]
 split
 ·rfl
 ·rw [need_mq H];refine bind_mq fun _ l1=> ?_
  rw [sub_mq H];refine bind_mq fun x l2=> ?_
  have:=subsL_mq H n [x] l2
  rw [List.map_cons,List.map_nil] at this
  rw [this];exact bind_mq fun ss l3=>rfl
theorem item_mq (n:Nat) (l:List Tok):itemP n (l.map g)=(itemP n l).mq (rI r) g:=by
 unfold itemP
 rw [isT_mq H,tail_mq]
 split
 ·exact pack_mq H _ _
 ·exact field_mq H _ _
theorem itemsL_mq: ∀(n:Nat) is l,itemsL n (is.map (rI r)) (l.map g)=(itemsL n is l).mq (List.map (rI r)) g
 |0,_,_=>by rw [itemsL,itemsL];rfl
 |n+1,is,l=>by
  rw [itemsL,itemsL,isT_mq H sRc,tail_mq,isName_mq H,isT_mq H kPack,List.length_map]
  split
  ·rfl
  ·rw [expect_mq];refine bind_mq fun _ _=> ?_
   rw [room_mq];refine bind_mq fun _ _=> ?_
   rw [item_mq H];refine bind_mq fun x l1=> ?_
   have:=itemsL_mq n (is++ [x]) l1
   rw [List.map_append] at this
   exact this
theorem paramsL_mq: ∀(n:Nat) ps l,paramsL n (ps.map r) (l.map g)=(paramsL n ps l).mq (List.map r) g
 |0,_,_=>by rw [paramsL,paramsL];rfl
 |n+1,ps,l=>by
  rw [paramsL,paramsL,isT_mq H,tail_mq,isName_mq H,List.length_map]
  split
  ·rw [expect_mq];refine bind_mq fun _ l1=> ?_
   rw [room_mq];refine bind_mq fun _ l2=> ?_
   rw [name_mq H];refine bind_mq fun x l3=> ?_
   have:=paramsL_mq n (ps++ [x]) l3
   rw [List.map_append] at this
   exact this
  ·rfl
theorem optP_mq (n:Nat) (l:List Tok):optP n (l.map g)=(optP n l).mq (List.map r) g:=by
 unfold optP
 rw [isT_mq H,tail_mq]
 split
 ·unfold paramsP
  rw [name_mq H];refine bind_mq fun s l1=> ?_
  have:=paramsL_mq H n [s] l1
  rw [List.map_cons,List.map_nil] at this
  rw [this];refine bind_mq fun ps l2=> ?_
  rw [need_mq H];exact bind_mq fun _ l3=>rfl
 ·rfl
theorem struct_mq (n:Nat) (l:List Tok):structP n (l.map g)=(structP n l).mq (rS r) g:=by
 unfold structP
 rw [need_mq H];refine bind_mq fun _ l1=> ?_
 rw [name_mq H];refine bind_mq fun s l2=> ?_
 rw [optP_mq H];refine bind_mq fun ps l3=> ?_
 rw [need_mq H];refine bind_mq fun _ l4=> ?_
 rw [show ([]:List IA)=([]:List IA).map (rI r) from rfl,itemsL_mq H];exact bind_mq fun is l5=>rfl
theorem const_mq (l:List Tok):constP (l.map g)=(constP l).mq (rP r) g:=by
 unfold constP
 rw [need_mq H];refine bind_mq fun _ l1=> ?_
 rw [name_mq H];refine bind_mq fun s l2=> ?_
 rw [need_mq H];refine bind_mq fun _ l3=> ?_
 rw [num_mq H];refine bind_mq fun v l4=> ?_
 rw [need_mq H];exact bind_mq fun _ l5=>rfl
theorem file_mq: ∀(n:Nat) cs ss l,fileL n (cs.map (rP r)) (ss.map (rS r)) (l.map g)=(fileL n cs ss l).mq (fun p=>(p.1.map (rP r),p.2.map (rS r))) g
 |0,_,_,_=>by rw [fileL,fileL];rfl
 |n+1,cs,ss,l=>by
  rw [fileL,fileL,hd_k H,isT_mq H kConst,isT_mq H kStruct,List.length_map,List.length_map]
  split
  ·rfl
  split
  ·rw [room_mq];refine bind_mq fun _ _=> ?_
   rw [const_mq H];refine bind_mq fun c l1=> ?_
   have:=file_mq n (cs++ [c]) ss l1
   rw [List.map_append] at this
   exact this
  split
  ·rw [room_mq];refine bind_mq fun _ _=> ?_
   rw [struct_mq H];refine bind_mq fun s l1=> ?_
   have:=file_mq n cs (ss++ [s]) l1
   rw [List.map_append] at this
   exact this
  ·rfl
end
end Go.Proofs.YthcdohggffpopaaGreatDoor
namespace Go.Proofs.YthcdohggffpopaaGreatDoor
section
variable (r:List UInt8→List UInt8)
def rX (x:XM):XM:=⟨x.k,x.op,x.n,r x.s,x.kids⟩
def rTm (t:TM):TM:=⟨t.k,t.size,t.little,r t.s,t.args,t.e,t.i,t.cs⟩
def rG (g:GM):GM:=⟨g.xs.map (rX r),g.ts.map (rTm r)⟩
def rIm (y:IM):IM:=⟨r y.s,y.t,y.der,r y.a,r y.b,y.wh,y.size,y.little,y.subs.map (rP r)⟩
def rSm (s:SM):SM:=⟨r s.s,s.ps.map r,s.is.map (rIm r)⟩
def rF (f:FM):FM:=⟨f.cs.map (rP r),f.ss.map (rSm r),rG r f.g⟩
variable {r} (hn:r []= [])
theorem rG_x (g:GM):(rG r g).x=g.x:=by simp [rG,GM.x]
theorem rG_t (g:GM):(rG r g).t=g.t:=by simp [rG,GM.t]
theorem rG_addX (g:GM) (x:XM):rG r (g.addX x)=(rG r g).addX (rX r x):=by simp [rG,GM.addX]
theorem rG_addT (g:GM) (t:TM):rG r (g.addT t)=(rG r g).addT (rTm r t):=by simp [rG,GM.addT]
theorem isNil_r: ∀(t:TA),(rT r t).isNil=t.isNil
 | .int _ _=>rfl
 | .ref _ _=>rfl
 | .idx _ _=>rfl
 | .win _ _ _=>rfl
 | .rest _=>rfl
 | .leaf _=>rfl
 | .arr _ _=>rfl
 | .sw _ _ _=>rfl
 | .nil=>rfl
 | .snoc _ _ _=>rfl
include hn
theorem putE_r: ∀(e:EA) (g:GM),putE (rE r e) (rG r g)=rG r (putE e g)
 | .num n,g=>by rw [rE,putE,putE,rG_addX];simp [rX,hn]
 | .name s,g=>by rw [rE,putE,putE,rG_addX];rfl
 | .not a,g=>by rw [rE,putE,putE,putE_r a g,rG_addX,rG_x];simp [rX,hn]
 | .bin op a b,g=>by rw [rE,putE,putE,putE_r a g,putE_r b _,rG_addX,rG_x,rG_x];simp [rX,hn]
theorem putEs_r: ∀(l:List EA) (s:GM×List Nat),(l.map (rE r)).foldl stepE (rG r s.1,s.2)=(rG r (l.foldl stepE s).1,(l.foldl stepE s).2)
 | [],s=>rfl
 |e::l,s=>by
  rw [List.map_cons,List.foldl_cons,List.foldl_cons,←putEs_r l (stepE s e)]
  unfold stepE
  rw [putE_r hn,rG_x]
theorem putT_r: ∀(t:TA) (g:GM),putT (rT r t) (rG r g)=(rG r (putT t g).1,(putT t g).2)
 | .int z li,g=>by rw [rT,putT,putT,rG_addT];simp [rTm,hn]
 | .ref s es,g=>by
  have h:putEs (es.map (rE r)) (rG r g)=(rG r (putEs es g).1,(putEs es g).2):=putEs_r hn es (g, [])
  rw [rT,putT,putT,h,rG_addT];rfl
 | .idx k e,g=>by rw [rT,putT,putT,putE_r hn,rG_addT,rG_x];simp [rTm,hn]
 | .win k e t,g=>by rw [rT,putT,putT,putE_r hn,putT_r t _,rG_addT,rG_x,rG_t];simp [rTm,hn]
 | .rest t,g=>by rw [rT,putT,putT,putT_r t g,rG_addT,rG_t];simp [rTm,hn]
 | .leaf k,g=>by rw [rT,putT,putT,rG_addT];simp [rTm,hn]
 | .arr t e,g=>by rw [rT,putT,putT,putT_r t g,putE_r hn,rG_addT,rG_x,rG_t];simp [rTm,hn]
 | .sw e cs els,g=>by rw [rT,putT,putT,putE_r hn,putT_r cs _,putT_r els _,rG_addT,rG_x,rG_t,isNil_r];simp [rTm,hn]
 | .nil,g=>by rw [rT,putT,putT]
 | .snoc cs n t,g=>by rw [rT,putT,putT,putT_r cs g,putT_r t _,rG_t]
theorem putI_r (x:IA) (g:GM):putI (rI r x) (rG r g)=(rG r (putI x g).1,rIm r (putI x g).2):=by
 cases x with
 |pack z li subs=>simp [rI,putI,rIm,hn]
 |field s t d wh=>
  cases wh with
  |none=>simp [rI,putI,putW,whI,rIm,putT_r hn,rG_t,rD]
  |some e=>simp [rI,putI,putW,whI,rIm,putT_r hn,rG_t,rG_x,putE_r hn,rD]
theorem putIs_r: ∀(l:List IA) (s:GM×List IM),(l.map (rI r)).foldl stepI (rG r s.1,s.2.map (rIm r))=(rG r (l.foldl stepI s).1,(l.foldl stepI s).2.map (rIm r))
 | [],s=>rfl
 |x::l,s=>by
  rw [List.map_cons,List.foldl_cons,List.foldl_cons,←putIs_r l (stepI s x)]
  unfold stepI
  rw [putI_r hn,List.map_append];rfl
theorem putSs_r: ∀(l:List SA) (s:GM×List SM),(l.map (rS r)).foldl stepS (rG r s.1,s.2.map (rSm r))=(rG r (l.foldl stepS s).1,(l.foldl stepS s).2.map (rSm r))
 | [],s=>rfl
 |x::l,s=>by
  have h:putIs (x.is.map (rI r)) (rG r s.1)=(rG r (putIs x.is s.1).1,(putIs x.is s.1).2.map (rIm r)):=putIs_r hn x.is (s.1, [])
  have h2:putS (rS r x) (rG r s.1)=(rG r (putS x s.1).1,rSm r (putS x s.1).2):=by
   unfold putS rS
   rw [h];rfl
  rw [List.map_cons,List.foldl_cons,List.foldl_cons,←putSs_r l (stepS s x)]
  unfold stepS
  rw [h2,List.map_append];rfl
theorem putF_r (cs:List (List UInt8×Nat)) (ss:List SA):putF (cs.map (rP r)) (ss.map (rS r))=rF r (putF cs ss):=by
 have h:putSs (ss.map (rS r)) gm0=(rG r (putSs ss gm0).1,(putSs ss gm0).2.map (rSm r)):=putSs_r hn ss (gm0, [])
 unfold putF rF
 rw [h]
end
def Cz (s:List UInt8):Bool:=nameB s && !isKw s && !isKw (s++ [122])
def rz (s:List UInt8):List UInt8:=if Cz s=true then s++ [122] else s
def gz (t:Tok):Tok:=⟨⟨t.tk.k,rz t.tk.t,t.tk.n⟩,t.p⟩
theorem Cz_of {s:List UInt8} (h:Cz s=true):NameOK s∧isKw s=false∧isKw (s++ [122])=false:=by
 unfold Cz at h
 simp only [Bool.and_eq_true,Bool.not_eq_true'] at h
 exact ⟨nameB_ok h.1.1,h.1.2,h.2⟩
theorem kw_mem {s:List UInt8} (h:isKw s=false):s ∉ kwL∧intW s=none:=by
 unfold isKw at h
 rw [Bool.or_eq_false_iff] at h
 refine ⟨fun hm=> ?_, ?_⟩
 ·have:=List.contains_iff_mem.2 hm
  rw [this] at h;cases h.1
 ·cases hi:intW s with
  |none=>rfl
  |some q=>rw [hi] at h;cases h.2
theorem sign_head: ∀k∈ [sExcl,sLp,sRp,sLb,sRb,sLc,sRc,sComma,sColon,sSemi,sEq,sDots],isW (k.headD 0)=false:=by decide
theorem op_headz: ∀x∈opsL,isW (x.1.headD 0)=false:=by decide
theorem level_zero {s:List UInt8} (h:isW (s.headD 0)=true):levelL s=0:=by
 unfold levelL
 have:opsL.find? (fun x=>x.1==s)=none:=by
  rw [List.find?_eq_none]
  intro x hx e
  have e:x.1=s:=by simpa using e
  rw [←e,op_headz x hx] at h
  cases h
 rw [this];rfl
theorem name_head {s:List UInt8} (h:NameOK s):isW (s.headD 0)=true:=by
 cases s with
 |nil=>exact absurd rfl h.ne
 |cons c t=>exact h.w c (by simp)
theorem name_head_z {s:List UInt8} (h:NameOK s):isW ((s++ [122]).headD 0)=true:=by
 cases s with
 |nil=>exact absurd rfl h.ne
 |cons c t=>exact h.w c (by simp)
theorem ks_no {s:List UInt8} (h:isW (s.headD 0)=true) (hk:isKw s=false): ∀k∈KSL,s≠k:=by
 intro k hm e
 subst e
 rcases List.mem_append.1 hm with hm|hm
 ·exact (kw_mem hk).1 hm
 ·rw [sign_head _ hm] at h;cases h
theorem ty_sub: ∀k∈tyW,k∈kwL:=by decide
theorem ty_no {s:List UInt8} (hk:isKw s=false):tyW.contains s=false:=by
 cases h:tyW.contains s with
 |false=>rfl
 |true=>exact absurd (ty_sub _ (List.contains_iff_mem.1 h)) (kw_mem hk).1
theorem rz_rn:Rn rz gz where
 k _:=rfl
 n _:=rfl
 t _:=rfl
 is s k hk:=by
  unfold rz
  split
  ·rename_i h
   obtain ⟨h1,h2,h3⟩:=Cz_of h
   exact ⟨fun e=>absurd e (ks_no (name_head_z h1) h3 k hk),fun e=>absurd e (ks_no (name_head h1) h2 k hk)⟩
  ·exact Iff.rfl
 kw s:=by
  unfold rz
  split
  ·rename_i h
   obtain ⟨h1,h2,h3⟩:=Cz_of h
   rw [h2,h3]
  ·rfl
 iw s:=by
  unfold rz
  split
  ·rename_i h
   obtain ⟨h1,h2,h3⟩:=Cz_of h
   rw [(kw_mem h2).2,(kw_mem h3).2]
  ·rfl
 lv s:=by
  unfold rz
  split
  ·rename_i h
   obtain ⟨h1,h2,h3⟩:=Cz_of h
   rw [level_zero (name_head h1),level_zero (name_head_z h1)]
  ·rfl
 op s hs:=by
  unfold rz
  split
  ·rename_i h
   obtain ⟨h1,h2,h3⟩:=Cz_of h
   rw [level_zero (name_head h1)] at hs
   omega
  ·rfl
 ty s:=by
  unfold rz
  split
  ·rename_i h
   obtain ⟨h1,h2,h3⟩:=Cz_of h
   rw [ty_no h2,ty_no h3]
  ·rfl
 nil:=by decide
def lawz (t:Tok):Tok:=if t.tk.k=0∧isKw t.tk.t=false then ⟨⟨t.tk.k,t.tk.t++ [122],t.tk.n⟩,t.p⟩ else t
def OkZ (t:Tok):Prop:=t.tk.k=0→isKw t.tk.t=false→t.tk.t.length<32∧isKw (t.tk.t++ [122])=false
def LexT (t:Tok):Prop:=t.tk=tkEnd∨GoodV t.tk
theorem num_digit {V:Tk} (h:GoodV V) (hk:V.k=1):isD (V.t.headD 0)=true:=by
 obtain ⟨h1, -⟩:=h.2 [] (.inl rfl)
 rw [List.append_nil] at h1
 unfold firstL at h1
 by_cases h0:V.t= []
 ·rw [if_pos h0] at h1
  have:V=tkEnd:=(congrArg Prod.fst h1).symm
  rw [this] at hk;cases hk
 ·rw [if_neg h0] at h1
  by_cases hr:runL V.t≠ []
  ·rw [if_pos hr] at h1
   have he:(wnL (runL V.t)).2=0:=by rw [h1]
   have ht:=(wnL_cases _ he).1
   rw [h1] at ht
   have ht:V.t=runL V.t:=ht
   rw [←ht] at h1
   unfold wnL at h1
   by_cases hd:isD (V.t.headD 0)=true
   ·exact hd
   ·rw [if_neg hd] at h1
    split at h1
    ·have:=congrArg Prod.snd h1;cases this
    ·have:=congrArg (fun q=>q.1.k) h1
     simp only at this
     omega
  ·rw [if_neg hr] at h1
   split at h1
   ·have:=congrArg Prod.snd h1;cases this
   ·have:=congrArg (fun q=>q.1.k) h1
    simp only at this
    omega
theorem sign_run {V:Tk} (h:GoodV V) (hk:V.k=2):runL V.t= []:=by
 obtain ⟨h1, -⟩:=h.2 [] (.inl rfl)
 rw [List.append_nil] at h1
 unfold firstL at h1
 by_cases h0:V.t= []
 ·rw [h0];rfl
 ·rw [if_neg h0] at h1
  by_cases hr:runL V.t≠ []
  ·rw [if_pos hr] at h1
   unfold wnL at h1
   split at h1
   ·split at h1
    ·have:=congrArg (fun q=>q.1.k) h1;simp only at this;omega
    ·rename_i h5;exact absurd (congrArg Prod.snd h1) h5
   ·split at h1
    ·have:=congrArg Prod.snd h1;cases this
    ·have:=congrArg (fun q=>q.1.k) h1;simp only at this;omega
  ·exact Classical.not_not.1 hr
theorem Cz_no_num {s:List UInt8} (h:isD (s.headD 0)=true):Cz s=false:=by
 unfold Cz nameB;rw [h];simp
theorem Cz_no_sign {s:List UInt8} (h:runL s= []):Cz s=false:=by
 cases hc:Cz s with
 |false=>rfl
 |true=>
  obtain ⟨h1, -⟩:=Cz_of hc
  cases s with
  |nil=>exact absurd rfl h1.ne
  |cons c t=>
   unfold runL at h
   rw [List.takeWhile_cons,if_pos (h1.w c (by simp))] at h
   cases h
theorem kinds {V:Tk} (h:GoodV V):V.k=0∨V.k=1∨V.k=2:=by
 obtain ⟨h1, -⟩:=h.2 [] (.inl rfl)
 rw [List.append_nil] at h1
 unfold firstL at h1
 by_cases h0:V.t= []
 ·rw [if_pos h0] at h1
  have:V=tkEnd:=(congrArg Prod.fst h1).symm
  exact absurd (by rw [this];rfl) h.1
 ·rw [if_neg h0] at h1
  by_cases hr:runL V.t≠ []
  ·rw [if_pos hr] at h1
   unfold wnL at h1
   split at h1
   ·split at h1
    ·exact .inr (.inl (congrArg (fun q=>q.1.k) h1).symm)
    ·rename_i h5;exact absurd (congrArg Prod.snd h1) h5
   ·split at h1
    ·have:=congrArg Prod.snd h1;cases this
    ·exact .inl (congrArg (fun q=>q.1.k) h1).symm
  ·rw [if_neg hr] at h1
   split at h1
   ·have:=congrArg Prod.snd h1;cases this
   ·exact .inr (.inr (congrArg (fun q=>q.1.k) h1).symm)
theorem lawz_gz {t:Tok} (h:LexT t) (o:OkZ t):lawz t=gz t:=by
 unfold lawz gz rz
 rcases h with h|h
 ·rw [h,if_neg (by rintro ⟨h0, -⟩;cases h0),if_neg (by decide)]
  obtain ⟨tk,p⟩:=t
  have h:tk=tkEnd:=h
  rw [h]
 ·obtain ⟨⟨k,s,n⟩,p⟩:=t
  have hn:=(good_tkv (p:=p) h).1
  rcases kinds h with hk|hk|hk
  ·have hk:k=0:=hk
   subst hk
   have hn:=hn rfl
   by_cases hkw:isKw s=false
   ·obtain ⟨h1,h2⟩:=o rfl hkw
    have hc:Cz s=true:=by
     have hb:nameB s=true:=by
      unfold nameB
      have h1:=hn.d
      have h3:=hn.len
      have h4:s.all isW=true:=List.all_eq_true.2 hn.w
      have h5:=hn.ne
      simp only [Bool.and_eq_true,decide_eq_true_eq,Bool.not_eq_true']
      exact ⟨⟨⟨h5,h4⟩,h1⟩,h3⟩
     unfold Cz
     have h2:isKw (s++ [122])=false:=h2
     rw [hb,hkw,h2];rfl
    rw [if_pos ⟨rfl,hkw⟩,if_pos hc]
   ·rw [if_neg (fun q=>hkw q.2),if_neg (fun hc=>hkw (Cz_of hc).2.1)]
  ·have hk:k=1:=hk
   subst hk
   rw [if_neg (by rintro ⟨h0, -⟩;cases h0),if_neg (by rw [Cz_no_num (num_digit h rfl)];decide)]
  ·have hk:k=2:=hk
   subst hk
   rw [if_neg (by rintro ⟨h0, -⟩;cases h0),if_neg (by rw [Cz_no_sign (sign_run h rfl)];decide)]
theorem gz_good {t:Tok} (h:GoodV t.tk) (o:OkZ t):GoodV (gz t).tk:=by
 obtain ⟨⟨k,s,n⟩,p⟩:=t
 by_cases hc:Cz s=true
 ·obtain ⟨h1,h2,h3⟩:=Cz_of hc
  have hk:k=0:=by
   rcases kinds h with hk|hk|hk
   ·exact hk
   ·have hk:k=1:=hk
    subst hk
    have:=Cz_no_num (num_digit h rfl)
    rw [this] at hc;cases hc
   ·have hk:k=2:=hk
    subst hk
    have:=Cz_no_sign (sign_run h rfl)
    rw [this] at hc;cases hc
  subst hk
  have hl:=(o rfl h2).1
  have hl:s.length<32:=hl
  -- the token as it is
  have hw:=h.2 [] (.inl rfl)
  have hw:=hw.1
  rw [List.append_nil] at hw
  have hn:n=0:=by
   unfold firstL at hw
   have hr:runL s=s:=by have q:=run_rest (rest:= []) h1.w (.inl rfl);rwa [List.append_nil] at q
   have hw:(if s= [] then (tkEnd,0) else if runL s≠ [] then wnL (runL s) else if signL s= [] then (tk0,4) else (⟨2,signL s,0⟩,0))=(⟨0,s,n⟩,0):=hw
   rw [if_neg h1.ne,hr,if_pos h1.ne] at hw
   unfold wnL at hw
   rw [if_neg (by rw [h1.d];decide),if_neg (by omega)] at hw
   have:=congrArg (fun q=>q.1.n) hw
   exact this.symm
  subst hn
  have hz: ∀x∈s++ [122],isW x=true:=by
   intro x hx
   rcases List.mem_append.1 hx with hx|hx
   ·exact h1.w x hx
   ·rw [List.mem_singleton.1 hx];decide
  have hd:isD ((s++ [122]).headD 0)=false:=by
   cases s with
   |nil=>exact absurd rfl h1.ne
   |cons c q=>exact h1.d
  have hwn:wnL (s++ [122])=(⟨0,s++ [122],0⟩,0):=by
   unfold wnL
   rw [if_neg (by rw [hd];decide),if_neg (by rw [List.length_append,List.length_singleton];omega)]
  have:=good_run (R:=s++ [122]) (by simp) hz (by rw [hwn])
  rw [hwn] at this
  have e:(gz ⟨⟨0,s,0⟩,p⟩).tk=⟨0,s++ [122],0⟩:=by unfold gz rz;rw [if_pos hc]
  rw [e];exact this
 ·have e:(gz ⟨⟨k,s,n⟩,p⟩).tk=⟨k,s,n⟩:=by unfold gz rz;rw [if_neg hc]
  rw [e];exact h
theorem lexL_goodV {s:List UInt8} {ts:List Tok} (h:lexL s= .ok ts): ∃i e,ts=i++ [e]∧e.tk=tkEnd∧∀t∈i,GoodV t.tk:=by
 unfold lexL at h
 split at h
 ·cases h
 ·obtain ⟨Vs,e1,e2⟩:=lexG_good _ _ _ s ts (Nat.le_refl _) h
  obtain ⟨i,e,rfl,hi,he⟩: ∃i e,ts=i++ [e]∧i.map (·.tk)=Vs∧e.tk=tkEnd:=by
   obtain ⟨i,x,rfl,hi,hx⟩:=List.map_eq_append_iff.1 e1
   obtain ⟨e,q,rfl,he,hq⟩:=List.map_eq_cons_iff.1 hx
   obtain rfl:=List.map_eq_nil_iff.1 hq
   exact ⟨i,e,rfl,hi,he⟩
  refine ⟨i,e,rfl,he,fun t ht=>e2 _ ?_⟩
  rw [←hi];exact List.mem_map_of_mem ht
theorem join_good {i:List Tok} {e:Tok} (he:e.tk=tkEnd) (hg: ∀t∈i,GoodV t.tk) (hl:(joinL (i++ [e])).length≤16384): ∃us,lexL (joinL (i++ [e]))= .ok us∧us.map (·.tk)=(i++ [e]).map (·.tk):=by
 have et:textsL (i++ [e])=(i.map (·.tk)).map (·.t):=by
  rw [textsL_map,List.map_append,List.filter_append,List.filter_eq_self.2 (fun V hV=>by
   obtain ⟨t,ht,rfl⟩:=List.mem_map.1 hV
   simpa using (hg t ht).1)]
  simp [he,tkEnd]
 have ej:joinL (i++ [e])=Lib.join ((i.map (·.tk)).map (·.t)) [32]:=by unfold joinL;rw [et]
 have hgV: ∀V∈i.map (·.tk),GoodV V:=fun V hV=>by
  obtain ⟨t,ht,rfl⟩:=List.mem_map.1 hV
  exact hg t ht
 rw [show (i++ [e]).map (·.tk)=i.map (·.tk)++ [tkEnd] by rw [List.map_append,List.map_cons,List.map_nil,he]]
 unfold lexL
 rw [if_neg (by omega),ej]
 generalize i.map (·.tk)=Vs at hgV ⊢
 cases Vs with
 |nil=>exact ⟨[⟨tkEnd,(1,1)⟩],by rw [show Lib.join (([]:List Tk).map (·.t)) [32]= [] from rfl,lexG_nil],rfl⟩
 |cons V Vs=>
  obtain ⟨g1,g2⟩:=hgV V List.mem_cons_self
  have hr:Lib.joinTail [32] (Vs.map (·.t))= []∨∃r,Lib.joinTail [32] (Vs.map (·.t))=32::r:=by
   cases Vs with
   |nil=>exact .inl rfl
   |cons a r=>exact .inr ⟨_,by simp [Lib.joinTail];rfl⟩
  obtain ⟨f1,f2⟩:=g2 _ hr
  obtain ⟨us,i1,i2⟩:=good_tail Vs (fun x hx=>hgV x (List.mem_cons_of_mem _ hx)) (posL (1,1) V.t)
  refine ⟨⟨V,(1,1)⟩::us, ?_,by rw [List.map_cons,i2];rfl⟩
  rw [List.map_cons,Lib.join_cons,lexG_token f2,f1]
  simp only [ne_eq,not_true_eq_false,if_false,if_neg g1,List.drop_left,i1]
  rfl
theorem sumL_z: ∀(l:List Tok),sumL (l.map gz)≤sumL l+l.length
 | []=>by simp [sumL]
 |t::l=>by
  have h:=sumL_z l
  have h1:(gz t).tk.t.length≤t.tk.t.length+1:=by
   show (rz t.tk.t).length≤_
   unfold rz
   split
   ·rw [List.length_append];simp
   ·omega
  simp only [List.map_cons,sumL,List.length_cons];omega
theorem names_parse {s:List UInt8} {ts:List Tok} {f:FM} (hs:s.length≤1500) (h:lexL s= .ok ts) (hp:parseL s= .ok f) (o: ∀t∈ts,OkZ t):ts.map lawz=ts.map gz∧(joinL (ts.map gz)).length≤16384∧parseL (joinL (ts.map gz))= .ok (rF rz f):=by
 obtain ⟨i,e,rfl,he,hi⟩:=lexL_goodV h
 obtain ⟨hr1,hr2⟩:=lexL_room h
 have hlaw:(i++ [e]).map lawz=(i++ [e]).map gz:=List.map_congr_left fun t ht=>lawz_gz (by
  rcases List.mem_append.1 ht with ht|ht
  ·exact .inr (hi t ht)
  ·rw [List.mem_singleton.1 ht];exact .inl he) (o t ht)
 have hlen:(joinL ((i++ [e]).map gz)).length≤16384:=by
  have h1:=join_len ((i++ [e]).map gz)
  have h2:=sumL_z (i++ [e])
  rw [List.length_map] at h1
  omega
 refine ⟨hlaw,hlen, ?_⟩
 have hge:(gz e).tk=tkEnd:=by
  show (⟨e.tk.k,rz e.tk.t,e.tk.n⟩:Tk)=tkEnd
  rw [he];decide
 obtain ⟨us,hu1,hu2⟩:=join_good (i:=i.map gz) (e:=gz e) hge (fun t ht=>by
  obtain ⟨t0,h0,rfl⟩:=List.mem_map.1 ht
  exact gz_good (hi t0 h0) (o t0 (by simp [h0]))) (by rw [List.map_append,List.map_cons,List.map_nil] at hlen;exact hlen)
 have e2:i.map gz++ [gz e]=(i++ [e]).map gz:=by simp
 rw [e2] at hu1 hu2
 unfold parseL at hp ⊢
 rw [h] at hp
 rw [hu1]
 dsimp only at hp ⊢
 cases hf:fileP (i++ [e]) with
 |bad l x=>rw [hf] at hp;cases hp
 |ok a l=>
  rw [hf] at hp
  simp only [FR.ok.injEq] at hp
  have hq:=file_mq rz_rn (fuel (i++ [e])) [] [] (i++ [e])
  rw [show fileL (fuel (i++ [e])) [] [] (i++ [e])= .ok a l from hf] at hq
  obtain ⟨r',hr'⟩:=file_same_ok (l:=(i++ [e]).map gz) (l':=us) hu2.symm hq
  have hful:fuel us=fuel (i++ [e]):=by
   have:=congrArg List.length hu2
   simp only [List.length_map] at this
   unfold fuel;rw [this]
  unfold fileP
  rw [hful]
  have hr':fileL (fuel (i++ [e])) [] [] us= .ok (a.1.map (rP rz),a.2.map (rS rz)) r':=hr'
  rw [hr']
  simp only [FR.ok.injEq]
  rw [putF_r (by decide),hp]
end Go.Proofs.YthcdohggffpopaaGreatDoor
