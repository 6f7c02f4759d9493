/- Layer 7, the mathematics: where tokens stand makes no difference to a parser. No program. · Layer 10, mathematics (for ExprParts): the tokens of a text in front of a bracket that closes do not hang on what follows. No program. · Layer 10, mathematics (for ExprParts): what an expression's parse takes does not hang on the closing bracket behind it. No program. · Layer 10, mathematics (for ExprParts): what an expression's parse leaves is an end of what it was given. No program. · Layer 10, mathematics (for ExprParts): the tokens of the law's texts. No program. · Layer 10, mathematics (for ExprParts): the File of a text that begins 'struct S { a: bytes['. No program. · Layer 10, mathematics (for ExprParts): the whole's expression. No program. · Layer 10, mathematics (for ExprParts): the Files of both parts and of the whole. No program. -/
import Derived.Test.YtomimkgaelkaoaaGreatDoorC13ParseP
import Derived.Test.YtomimkgaelkaoaaGreatDoorC13LexP
import Derived.Test.YtomimkgaelkaoaaGreatDoorC13LexQ
import Derived.Test.YtomimkgaelkaoaaGreatDoorC13ExAa
import Derived.Test.YtomimkgaelkaoaaGreatDoorC13ParLv
import Derived.KernelRfl
set_option linter.unusedVariables false
set_option linter.unusedSimpArgs false
namespace Go.Proofs.YtomimkgaelkaoaaGreatDoor
def PR.mp {α:Type} (g:Tok→Tok):PR α→PR α
 | .ok a l=> .ok a (l.map g)
 | .bad l e=> .bad (l.map g) e
section
variable {g:Tok→Tok} (hg: ∀t,(g t).tk=t.tk)
include hg
theorem hd_mp (l:List Tok):(hd (l.map g)).tk=(hd l).tk:=by
 cases l with
 |nil=>rfl
 |cons a r=>exact hg a
omit hg in
theorem tail_mp (l:List Tok):(l.map g).tail=l.tail.map g:=by cases l<;>rfl
omit hg in
theorem bind_mp {α β:Type} {r:PR α} {f' f:α→List Tok→PR β} (h: ∀a l,f' a (l.map g)=(f a l).mp g):(r.mp g).bind f'=(r.bind f).mp g:=by
 cases r with
 |ok a l=>exact h a l
 |bad l e=>rfl
theorem isT_mp (k:List UInt8) (l:List Tok):isT k (l.map g)=isT k l:=by unfold isT;rw [hd_mp hg]
theorem isName_mp (l:List Tok):isName (l.map g)=isName l:=by unfold isName;rw [hd_mp hg]
theorem isNum_mp (l:List Tok):isNum (l.map g)=isNum l:=by unfold isNum;rw [hd_mp hg]
theorem begE_mp (l:List Tok):begE (l.map g)=begE l:=by unfold begE;rw [isT_mp hg,isT_mp hg,isNum_mp hg,isName_mp hg]
theorem begT_mp (l:List Tok):begT (l.map g)=begT l:=by unfold begT;rw [hd_mp hg,isName_mp hg]
theorem derK_mp (l:List Tok):derK (l.map g)=derK l:=by unfold derK;simp only [isT_mp hg]
theorem need_mp (k:List UInt8) (l:List Tok):need k (l.map g)=(need k l).mp g:=by
 unfold need;rw [isT_mp hg,tail_mp];split<;>rfl
theorem name_mp (l:List Tok):nameP (l.map g)=(nameP l).mp g:=by
 unfold nameP;rw [isName_mp hg,tail_mp,hd_mp hg];split<;>rfl
theorem num_mp (l:List Tok):numP (l.map g)=(numP l).mp g:=by
 unfold numP;rw [isNum_mp hg,tail_mp,hd_mp hg];split<;>rfl
omit hg in
theorem expect_mp (b:Bool) (l:List Tok):expectP b (l.map g)=(expectP b l).mp g:=by unfold expectP;split<;>rfl
omit hg in
theorem room_mp (k:Nat) (l:List Tok):roomP k (l.map g)=(roomP k l).mp g:=by unfold roomP;split<;>rfl
omit hg in
theorem enter_mp (b:Bool) (d:Nat) (l:List Tok):enterP b d (l.map g)=(enterP b d l).mp g:=by
 unfold enterP;split
 ·rfl
 ·split<;>rfl
theorem expr_mp: ∀n,(∀d l,unary n d (l.map g)=(unary n d l).mp g)∧(∀v d l,bin n v d (l.map g)=(bin n v d l).mp g)∧(∀v d a l,loopB n v d a (l.map g)=(loopB n v d a l).mp g)
 |0=>⟨fun d l=>by rw [unary,unary];rfl,fun v d l=>by rw [bin,bin];rfl,fun v d a l=>by rw [loopB,loopB];rfl⟩
 |n+1=>by
  obtain ⟨i1,i2,i3⟩:=expr_mp n
  refine ⟨fun d l=> ?_,fun v d l=> ?_,fun v d a l=> ?_⟩
  ·rw [unary,unary,isT_mp hg,isT_mp hg,isNum_mp hg,isName_mp hg,tail_mp,hd_mp hg,begE_mp hg]
   split
   ·rw [enter_mp];refine bind_mp fun _ l1=> ?_
    rw [i1];exact bind_mp fun a l2=>rfl
   split
   ·rw [enter_mp];refine bind_mp fun _ l1=> ?_
    rw [i2];refine bind_mp fun a l2=> ?_
    rw [need_mp hg];exact bind_mp fun _ l3=>rfl
   split
   ·rfl
   split<;>rfl
  ·rw [bin,bin,i1];exact bind_mp fun a l1=>i3 v d a l1
  ·rw [loopB,loopB,hd_mp hg,tail_mp]
   split
   ·rw [i2];exact bind_mp fun b l1=>i3 _ _ _ _
   ·rfl
theorem bin_mp (n v d:Nat) (l:List Tok):bin n v d (l.map g)=(bin n v d l).mp g:=(expr_mp hg n).2.1 v d l
theorem idx_mp (n d:Nat) (l:List Tok):idxP n d (l.map g)=(idxP n d l).mp g:=by
 unfold idxP
 rw [need_mp hg];refine bind_mp fun _ l1=> ?_
 rw [bin_mp hg];refine bind_mp fun e l2=> ?_
 rw [need_mp hg];exact bind_mp fun _ l3=>rfl
theorem argsL_mp: ∀(n:Nat) es d l,argsL n es d (l.map g)=(argsL n es d l).mp g
 |0,_,_,_=>by rw [argsL,argsL];rfl
 |n+1,es,d,l=>by
  rw [argsL,argsL,isT_mp hg,tail_mp,begE_mp hg]
  split
  ·rw [expect_mp];refine bind_mp fun _ l1=> ?_
   rw [room_mp];refine bind_mp fun _ l2=> ?_
   rw [bin_mp hg];exact bind_mp fun e l3=>argsL_mp n _ _ _
  ·rfl
theorem args_mp (n d:Nat) (l:List Tok):argsP n d (l.map g)=(argsP n d l).mp g:=by
 unfold argsP
 rw [bin_mp hg];refine bind_mp fun e l1=> ?_
 rw [argsL_mp hg];refine bind_mp fun es l2=> ?_
 rw [need_mp hg];exact bind_mp fun _ l3=>rfl
theorem single_mp (n d:Nat) (l:List Tok):singleP n d (l.map g)=(singleP n d l).mp g:=by
 unfold singleP
 rw [hd_mp hg,tail_mp]
 split
 ·rfl
 ·rw [isT_mp hg,tail_mp]
  split
  ·rw [args_mp hg];exact bind_mp fun es l1=>rfl
  ·rfl
theorem elem_mp (n d:Nat) (l:List Tok):elemP n d (l.map g)=(elemP n d l).mp g:=by
 unfold elemP
 rw [single_mp hg];refine bind_mp fun t l1=> ?_
 rw [isT_mp hg]
 split
 ·rw [idx_mp hg];exact bind_mp fun e l2=>rfl
 ·rfl
theorem types_mp: ∀n,(∀d l,typP n d (l.map g)=(typP n d l).mp g)∧(∀d l,innerP n d (l.map g)=(innerP n d l).mp g)∧(∀d l,branchP n d (l.map g)=(branchP n d l).mp g)∧
  (∀d k cs l,casesL n d k cs (l.map g)=(casesL n d k cs l).mp g)∧(∀d l,switchP n d (l.map g)=(switchP n d l).mp g)
 |0=>⟨fun d l=>by rw [typP,typP];rfl,fun d l=>by rw [innerP,innerP];rfl,fun d l=>by rw [branchP,branchP];rfl,fun d k cs l=>by rw [casesL,casesL];rfl,fun d l=>by rw [switchP,switchP];rfl⟩
 |n+1=>by
  obtain ⟨i1,i2,i3,i4,i5⟩:=types_mp n
  refine ⟨fun d l=> ?_,fun d l=> ?_,fun d l=> ?_,fun d k cs l=> ?_,fun d l=> ?_⟩
  ·rw [typP,typP]
   simp only [isT_mp hg,tail_mp,begT_mp hg]
   split
   ·rfl
   split
   ·rw [idx_mp hg];exact bind_mp fun e l1=>rfl
   split
   ·rw [idx_mp hg];exact bind_mp fun e l1=>rfl
   split
   ·rw [idx_mp hg];exact bind_mp fun e l1=>rfl
   split
   ·rw [idx_mp hg];refine bind_mp fun e l1=> ?_
    rw [i2];exact bind_mp fun t l2=>rfl
   split
   ·rw [idx_mp hg];refine bind_mp fun e l1=> ?_
    rw [i2];exact bind_mp fun t l2=>rfl
   split
   ·rw [i2];exact bind_mp fun t l2=>rfl
   split
   ·rfl
   split
   ·rfl
   split
   ·exact i5 d _
   ·exact elem_mp hg n d l
  ·rw [innerP,innerP,begT_mp hg,enter_mp];exact bind_mp fun _ l1=>i1 _ _
  ·rw [branchP,branchP,need_mp hg];refine bind_mp fun _ l1=> ?_
   rw [i2];refine bind_mp fun t l2=> ?_
   rw [need_mp hg];exact bind_mp fun _ l3=>rfl
  ·rw [casesL,casesL,isT_mp hg,tail_mp]
   split
   ·rw [room_mp];refine bind_mp fun _ _=> ?_
    rw [num_mp hg];refine bind_mp fun v l1=> ?_
    rw [i3];exact bind_mp fun t l2=>i4 _ _ _ _
   ·rfl
  ·rw [switchP,switchP,need_mp hg];refine bind_mp fun _ l1=> ?_
   rw [bin_mp hg];refine bind_mp fun e l2=> ?_
   rw [need_mp hg];refine bind_mp fun _ l3=> ?_
   rw [need_mp hg];refine bind_mp fun _ l4=> ?_
   rw [i4];refine bind_mp fun cs l5=> ?_
   rw [isT_mp hg,tail_mp]
   split
   ·rw [i3];refine bind_mp fun t l6=> ?_
    rw [need_mp hg];exact bind_mp fun _ l7=>rfl
   ·rw [need_mp hg];exact bind_mp fun _ l7=>rfl
theorem der_mp (l:List Tok):derP (l.map g)=(derP l).mp g:=by
 unfold derP
 rw [derK_mp hg,tail_mp]
 split
 ·rfl
 rw [need_mp hg];refine bind_mp fun _ l1=> ?_
 rw [name_mp hg];refine bind_mp fun a l2=> ?_
 split
 ·rw [need_mp hg];exact bind_mp fun _ l3=>rfl
 ·rw [need_mp hg];refine bind_mp fun _ l3=> ?_
  rw [name_mp hg];refine bind_mp fun b l4=> ?_
  rw [need_mp hg];exact bind_mp fun _ l5=>rfl
theorem optD_mp (l:List Tok):optD (l.map g)=(optD l).mp g:=by
 unfold optD
 rw [isT_mp hg,tail_mp]
 split
 ·exact der_mp hg _
 ·rfl
theorem optW_mp (n:Nat) (l:List Tok):optW n (l.map g)=(optW n l).mp g:=by
 unfold optW
 rw [isT_mp hg,tail_mp]
 split
 ·rw [bin_mp hg];exact bind_mp fun e l1=>rfl
 ·rfl
theorem field_mp (n:Nat) (l:List Tok):fieldP n (l.map g)=(fieldP n l).mp g:=by
 unfold fieldP
 rw [name_mp hg];refine bind_mp fun s l1=> ?_
 rw [need_mp hg];refine bind_mp fun _ l2=> ?_
 rw [(types_mp hg n).1];refine bind_mp fun t l3=> ?_
 rw [optD_mp hg];refine bind_mp fun d l4=> ?_
 rw [optW_mp hg];refine bind_mp fun w l5=> ?_
 rw [need_mp hg];exact bind_mp fun _ l6=>rfl
theorem sub_mp (l:List Tok):subP (l.map g)=(subP l).mp g:=by
 unfold subP
 rw [name_mp hg];refine bind_mp fun s l1=> ?_
 rw [need_mp hg];refine bind_mp fun _ l2=> ?_
 rw [num_mp hg];refine bind_mp fun v l3=> ?_
 rw [need_mp hg];exact bind_mp fun _ l4=>rfl
theorem subsL_mp: ∀(n:Nat) ss l,subsL n ss (l.map g)=(subsL n ss l).mp g
 |0,_,_=>by rw [subsL,subsL];rfl
 |n+1,ss,l=>by
  rw [subsL,subsL,isT_mp hg,tail_mp,isName_mp hg]
  split
  ·rfl
  ·rw [expect_mp];refine bind_mp fun _ _=> ?_
   rw [room_mp];refine bind_mp fun _ _=> ?_
   rw [sub_mp hg];exact bind_mp fun x l1=>subsL_mp n _ _
theorem pack_mp (n:Nat) (l:List Tok):packP n (l.map g)=(packP n l).mp g:=by
 unfold packP
 rw [hd_mp hg,tail_mp]
 split
 ·rfl
 ·rw [need_mp hg];refine bind_mp fun _ l1=> ?_
  rw [sub_mp hg];refine bind_mp fun x l2=> ?_
  rw [subsL_mp hg];exact bind_mp fun ss l3=>rfl
theorem item_mp (n:Nat) (l:List Tok):itemP n (l.map g)=(itemP n l).mp g:=by
 unfold itemP
 rw [isT_mp hg,tail_mp]
 split
 ·exact pack_mp hg _ _
 ·exact field_mp hg _ _
theorem itemsL_mp: ∀(n:Nat) is l,itemsL n is (l.map g)=(itemsL n is l).mp g
 |0,_,_=>by rw [itemsL,itemsL];rfl
 |n+1,is,l=>by
  rw [itemsL,itemsL,isT_mp hg,tail_mp,isName_mp hg,isT_mp hg]
  split
  ·rfl
  ·rw [expect_mp];refine bind_mp fun _ _=> ?_
   rw [room_mp];refine bind_mp fun _ _=> ?_
   rw [item_mp hg];exact bind_mp fun x l1=>itemsL_mp n _ _
theorem paramsL_mp: ∀(n:Nat) ps l,paramsL n ps (l.map g)=(paramsL n ps l).mp g
 |0,_,_=>by rw [paramsL,paramsL];rfl
 |n+1,ps,l=>by
  rw [paramsL,paramsL,isT_mp hg,tail_mp,isName_mp hg]
  split
  ·rw [expect_mp];refine bind_mp fun _ l1=> ?_
   rw [room_mp];refine bind_mp fun _ l2=> ?_
   rw [name_mp hg];exact bind_mp fun x l3=>paramsL_mp n _ _
  ·rfl
theorem optP_mp (n:Nat) (l:List Tok):optP n (l.map g)=(optP n l).mp g:=by
 unfold optP
 rw [isT_mp hg,tail_mp]
 split
 ·unfold paramsP
  rw [name_mp hg];refine bind_mp fun s l1=> ?_
  rw [paramsL_mp hg];refine bind_mp fun ps l2=> ?_
  rw [need_mp hg];exact bind_mp fun _ l3=>rfl
 ·rfl
theorem struct_mp (n:Nat) (l:List Tok):structP n (l.map g)=(structP n l).mp g:=by
 unfold structP
 rw [need_mp hg];refine bind_mp fun _ l1=> ?_
 rw [name_mp hg];refine bind_mp fun s l2=> ?_
 rw [optP_mp hg];refine bind_mp fun ps l3=> ?_
 rw [need_mp hg];refine bind_mp fun _ l4=> ?_
 rw [itemsL_mp hg];exact bind_mp fun is l5=>rfl
theorem const_mp (l:List Tok):constP (l.map g)=(constP l).mp g:=by
 unfold constP
 rw [need_mp hg];refine bind_mp fun _ l1=> ?_
 rw [name_mp hg];refine bind_mp fun s l2=> ?_
 rw [need_mp hg];refine bind_mp fun _ l3=> ?_
 rw [num_mp hg];refine bind_mp fun v l4=> ?_
 rw [need_mp hg];exact bind_mp fun _ l5=>rfl
theorem file_mp: ∀(n:Nat) cs ss l,fileL n cs ss (l.map g)=(fileL n cs ss l).mp g
 |0,_,_,_=>by rw [fileL,fileL];rfl
 |n+1,cs,ss,l=>by
  rw [fileL,fileL,hd_mp hg,isT_mp hg,isT_mp hg]
  split
  ·rfl
  split
  ·rw [room_mp];refine bind_mp fun _ _=> ?_
   rw [const_mp hg];exact bind_mp fun c l1=>file_mp n _ _ _
  split
  ·rw [room_mp];refine bind_mp fun _ _=> ?_
   rw [struct_mp hg];exact bind_mp fun s l1=>file_mp n _ _ _
  ·rfl
end
def bare0 (t:Tok):Tok:=⟨t.tk,(0,0)⟩
theorem bare_map (l:List Tok):l.map bare0=(l.map (·.tk)).map fun v=>⟨v,(0,0)⟩:=by rw [List.map_map];rfl
theorem file_same {l l':List Tok} (h:l.map (·.tk)=l'.map (·.tk)) (n:Nat) (cs:List (List UInt8×Nat)) (ss:List SA):(fileL n cs ss l).mp bare0=(fileL n cs ss l').mp bare0:=by
 rw [←file_mp (g:=bare0) (fun t=>rfl),←file_mp (g:=bare0) (fun t=>rfl),bare_map,bare_map,h]
theorem file_same_ok {l l' r:List Tok} (h:l.map (·.tk)=l'.map (·.tk)) {n:Nat} {cs:List (List UInt8×Nat)} {ss:List SA} {a} (e:fileL n cs ss l= .ok a r): ∃r',fileL n cs ss l'= .ok a r':=by
 have:=file_same h n cs ss
 rw [e] at this
 cases h':fileL n cs ss l' with
 |ok a' r'=>rw [h'] at this;simp only [PR.mp,PR.ok.injEq] at this;rw [this.1];exact ⟨_,rfl⟩
 |bad r' e'=>rw [h'] at this;cases this
end Go.Proofs.YtomimkgaelkaoaaGreatDoor
namespace Go.Proofs.YtomimkgaelkaoaaGreatDoor
def Solo (c:UInt8):Prop:=c=93∨c=41∨c=91
theorem run_solo {c:UInt8} (h:Solo c) (r:List UInt8): ∀a:List UInt8,runL (a++c::r)=runL a
 | []=>by rcases h with rfl|rfl|rfl<;>rfl
 |x::a=>by
  have ih:=run_solo h r a
  unfold runL at ih ⊢
  rw [List.cons_append,List.takeWhile_cons,List.takeWhile_cons,ih]
def goodSg (g:List UInt8):Bool:=match g with| [_]=>true| [_,b]=>b !=93 && b !=41 && b !=91|_=>false
theorem pre_solo {c:UInt8} (h:Solo c) (x:UInt8) (s r:List UInt8) {g:List UInt8} (hg:goodSg g=true):g.isPrefixOf (x::(s++c::r))=g.isPrefixOf (x::s):=by
 match g,hg with
 | [a],_=>simp [List.isPrefixOf]
 | [a,b],hg=>
  cases s with
  |nil=>
   simp [goodSg] at hg
   rcases h with rfl|rfl|rfl<;>simp [List.isPrefixOf,hg]
  |cons y s=>simp [List.isPrefixOf]
theorem signF_solo {c:UInt8} (h:Solo c) (x:UInt8) (s r:List UInt8): ∀gs:List (List UInt8),gs.all goodSg=true→signF gs (x::(s++c::r))=signF gs (x::s)
 | [],_=>rfl
 |g::gs,hg=>by
  rw [List.all_cons,Bool.and_eq_true] at hg
  unfold signF
  rw [pre_solo h x s r hg.1,signF_solo h x s r gs hg.2]
theorem first_solo {c:UInt8} (h:Solo c) (x:UInt8) (s r:List UInt8):firstL (x::(s++c::r))=firstL (x::s):=by
 unfold firstL signL
 have e:=run_solo h r (x::s)
 rw [List.cons_append] at e
 rw [if_neg (List.cons_ne_nil _ _),e,signF_solo h x s r sgs (by decide),if_neg (List.cons_ne_nil _ _)]
theorem lex_solo2: ∀(n:Nat) (b:Bool) (s:List UInt8),s.length≤n→
  (∃Vs b',∀p,∃ts p',ts.map (·.tk)=Vs∧∀c r,Solo c→lexG b p (s++c::r)=LR.app ts (lexG b' p' (c::r)))∨(∀p,∃q e,∀c r,Solo c→lexG b p (s++c::r)= .bad q e)
 |_,b, [],_=> .inl ⟨[],b,fun p=>⟨[],p,rfl,fun c r _=>(LR.app_nil _).symm⟩⟩
 |n+1,true,x::s,hn=>by
  have hn':s.length≤n:=by simpa using hn
  by_cases hx:x=10
  ·subst hx
   rcases lex_solo2 n false s hn' with ⟨Vs,b',h⟩|h
   ·exact .inl ⟨Vs,b',fun p=>by obtain ⟨ts,p',hm,h⟩:=h (stp p 10);exact ⟨ts,p',hm,fun c r hc=>by rw [List.cons_append,lexG_feed,h c r hc]⟩⟩
   ·exact .inr fun p=>by obtain ⟨q,e,h⟩:=h (stp p 10);exact ⟨q,e,fun c r hc=>by rw [List.cons_append,lexG_feed,h c r hc]⟩
  ·rcases lex_solo2 n true s hn' with ⟨Vs,b',h⟩|h
   ·exact .inl ⟨Vs,b',fun p=>by obtain ⟨ts,p',hm,h⟩:=h (stp p x);exact ⟨ts,p',hm,fun c r hc=>by rw [List.cons_append,lexG_comment hx,h c r hc]⟩⟩
   ·exact .inr fun p=>by obtain ⟨q,e,h⟩:=h (stp p x);exact ⟨q,e,fun c r hc=>by rw [List.cons_append,lexG_comment hx,h c r hc]⟩
 |n+1,false,x::s,hn=>by
  have hn':s.length≤n:=by simpa using hn
  by_cases hb:isB x=true
  ·rcases lex_solo2 n false s hn' with ⟨Vs,b',h⟩|h
   ·exact .inl ⟨Vs,b',fun p=>by obtain ⟨ts,p',hm,h⟩:=h (stp p x);exact ⟨ts,p',hm,fun c r hc=>by rw [List.cons_append,lexG_blank hb,h c r hc]⟩⟩
   ·exact .inr fun p=>by obtain ⟨q,e,h⟩:=h (stp p x);exact ⟨q,e,fun c r hc=>by rw [List.cons_append,lexG_blank hb,h c r hc]⟩
  by_cases ho:x=47∧s.head? =some 47
  ·obtain ⟨rfl,hs⟩:=ho
   obtain ⟨s',rfl⟩: ∃s',s=47::s':=by cases s with|nil=>simp at hs|cons y s'=>simp at hs;exact ⟨s',by rw [hs]⟩
   rcases lex_solo2 n true (47::s') hn' with ⟨Vs,b',h⟩|h
   ·exact .inl ⟨Vs,b',fun p=>by obtain ⟨ts,p',hm,h⟩:=h (stp p 47);exact ⟨ts,p',hm,fun c r hc=>by rw [←h c r hc,List.cons_append,List.cons_append,lexG_open,lexG_comment (by decide)]⟩⟩
   ·exact .inr fun p=>by obtain ⟨q,e,h⟩:=h (stp p 47);exact ⟨q,e,fun c r hc=>by rw [←h c r hc,List.cons_append,List.cons_append,lexG_open,lexG_comment (by decide)]⟩
  have hbare: ∀c r,Solo c→Bare (x::(s++c::r)):=fun c r hc=>bare_cons (by simpa using hb) (by
   rintro ⟨hx,hh⟩
   cases s with
   |nil=>simp at hh;subst hh;rcases hc with h|h|h<;>simp at h
   |cons y s'=>exact ho ⟨hx,by simpa using hh⟩)
  by_cases hf:(firstL (x::s)).2=0
  ·obtain ⟨h3,ht,hp⟩:=firstL_ok hf (by simp)
   have hl:(firstL (x::s)).1.t.length≤(x::s).length:=hp.length_le
   have hpos:0<(firstL (x::s)).1.t.length:=List.length_pos_iff.2 ht
   have hd:((x::s).drop (firstL (x::s)).1.t.length).length≤n:=by rw [List.length_drop];simp at hn ⊢;omega
   have key: ∀p c r,Solo c→lexG false p (x::(s++c::r))=(lexG false (posL p (firstL (x::s)).1.t) ((x::s).drop (firstL (x::s)).1.t.length++c::r)).cons ⟨(firstL (x::s)).1,p⟩:=fun p c r hc=>by
    rw [lexG_token (hbare c r hc),first_solo hc,if_neg (by simpa using hf),if_neg h3,←List.cons_append,List.drop_append_of_le_length hl]
   rcases lex_solo2 n false _ hd with ⟨Vs,b',h⟩|h
   ·exact .inl ⟨(firstL (x::s)).1::Vs,b',fun p=>by
     obtain ⟨ts,p',hm,h⟩:=h (posL p (firstL (x::s)).1.t)
     exact ⟨⟨(firstL (x::s)).1,p⟩::ts,p',by rw [List.map_cons,hm],fun c r hc=>by rw [List.cons_append,key p c r hc,h c r hc,LR.cons_app]⟩⟩
   ·exact .inr fun p=>by
     obtain ⟨q,e,h⟩:=h (posL p (firstL (x::s)).1.t)
     exact ⟨q,e,fun c r hc=>by rw [List.cons_append,key p c r hc,h c r hc];rfl⟩
  ·exact .inr fun p=>⟨p,_,fun c r hc=>by rw [List.cons_append,lexG_token (hbare c r hc),first_solo hc,if_pos (by simpa using hf)]⟩
def Fix (g:UInt8):Prop:=g=91∨g=93∨g=40∨g=41∨g=59∨g=125
theorem first_fix {g:UInt8} (h:Fix g) (r:List UInt8):firstL (g::r)=(⟨2, [g],0⟩,0):=by
 rcases h with rfl|rfl|rfl|rfl|rfl|rfl<;>simp [firstL,runL,isW,isL,isD,signL,signF,sgs,List.isPrefixOf,List.takeWhile_cons]
theorem lex_fix {g:UInt8} (h:Fix g) (p:Ps) (r:List UInt8):lexG false p (g::r)=(lexG false (posL p [g]) r).cons ⟨⟨2, [g],0⟩,p⟩:=by
 have hb:Bare (g::r):=by rcases h with rfl|rfl|rfl|rfl|rfl|rfl<;>exact bare_cons (by decide) (by simp)
 rw [lexG_token hb,first_fix h]
 rfl
def headB:List UInt8:= [115,116,114,117,99,116,32,83,32,123,32,97,58,32,98,121,116,101,115]
def headV:List Tk:= [⟨0, [115,116,114,117,99,116],0⟩,⟨0, [83],0⟩,⟨2, [123],0⟩,⟨0, [97],0⟩,⟨2, [58],0⟩,⟨0, [98,121,116,101,115],0⟩]
def tksR:LR→List Tk
 | .ok l=>l.map (·.tk)
 | .bad _ _=> []
theorem tksR_app (ts:List Tok) (l:List Tok):tksR (LR.app ts (.ok l))=ts.map (·.tk)++l.map (·.tk):=by simp [tksR,LR.app]
theorem head_lex: ∃ts p',ts.map (·.tk)=headV∧∀r,lexG false (1,1) (headB++91::r)=LR.app ts (lexG false p' (91::r)):=by
 have d0:tksR (lexG false (1,1) (headB++91:: []))=headV++ [⟨2, [91],0⟩,tkEnd]:=by decide+kernel
 have d1:tksR (lexG false (1,1) (headB++91:: [91]))=headV++ [⟨2, [91],0⟩,⟨2, [91],0⟩,tkEnd]:=by decide+kernel
 rcases lex_solo2 _ false headB (Nat.le_refl _) with ⟨Vs,b',h⟩|h
 ·obtain ⟨ts,p',hm,h⟩:=h (1,1)
  have h0:=h 91 [] (.inr (.inr rfl))
  have h1:=h 91 [91] (.inr (.inr rfl))
  rw [h0] at d0
  rw [h1] at d1
  cases b' with
  |true=>
   rw [lexG_comment (by decide),lexG_nil,tksR_app] at d0
   rw [lexG_comment (by decide),lexG_comment (by decide),lexG_nil,tksR_app] at d1
   have:=congrArg List.length (d0.symm.trans d1)
   simp at this
  |false=>
   rw [lex_fix (.inl rfl),lexG_nil,show LR.cons ⟨⟨2, [91],0⟩,p'⟩ (.ok [⟨tkEnd,posL p' [91]⟩])= .ok [⟨⟨2, [91],0⟩,p'⟩,⟨tkEnd,posL p' [91]⟩] from rfl,tksR_app] at d0
   refine ⟨ts,p', ?_,fun r=>h 91 r (.inr (.inr rfl))⟩
   rw [List.map_cons,List.map_cons,List.map_nil] at d0
   exact List.append_cancel_right d0
 ·obtain ⟨q,e,h⟩:=h (1,1)
  rw [h 91 [] (.inr (.inr rfl))] at d0
  simp [tksR,headV] at d0
end Go.Proofs.YtomimkgaelkaoaaGreatDoor
namespace Go.Proofs.YtomimkgaelkaoaaGreatDoor
theorem pr_inv {α β:Type} {r:PR α} {f:α→List Tok→PR β} {b:β} {l:List Tok} (h:r.bind f= .ok b l): ∃a l1,r= .ok a l1∧f a l1= .ok b l:=by
 cases r with
 |ok a l1=>exact ⟨a,l1,rfl,h⟩
 |bad l1 e=>simp [PR.bind] at h
theorem need_ok {g:List UInt8} {l l':List Tok} {u:Unit} (h:need g l= .ok u l'):isT g l=true∧l'=l.tail:=by
 unfold need at h
 split at h
 ·rename_i h1
  cases h
  exact ⟨h1,rfl⟩
 ·cases h
theorem enter_end10 {b:Bool} {d:Nat} {l l':List Tok} {u:Unit} (h:enterP b d l= .ok u l'):l'=l:=by
 unfold enterP at h
 split at h
 ·cases h
 ·split at h<;>cases h
  rfl
end Go.Proofs.YtomimkgaelkaoaaGreatDoor
namespace Go.Proofs.YtomimkgaelkaoaaGreatDoor
theorem tail_suf (l:List Tok): ∃c,l=c++l.tail:=by
 cases l with
 |nil=>exact ⟨[],rfl⟩
 |cons t u=>exact ⟨[t],rfl⟩
theorem suf_trans {a b c:List Tok} (h: ∃x,a=x++b) (k: ∃y,b=y++c): ∃z,a=z++c:=by
 obtain ⟨x,rfl⟩:=h
 obtain ⟨y,rfl⟩:=k
 exact ⟨x++y,by rw [List.append_assoc]⟩
theorem expr_suf: ∀n:Nat,
  (∀d l a l',unary n d l= .ok a l'→∃c,l=c++l')∧(∀v d l a l',bin n v d l= .ok a l'→∃c,l=c++l')∧(∀v d e l a l',loopB n v d e l= .ok a l'→∃c,l=c++l')
 |0=>⟨fun d l a l' h=>by simp [unary] at h,fun v d l a l' h=>by simp [bin] at h,fun v d e l a l' h=>by simp [loopB] at h⟩
 |n+1=>by
  obtain ⟨U,V,L⟩:=expr_suf n
  refine ⟨fun d l a l' h=> ?_,fun v d l a l' h=> ?_,fun v d e l a l' h=> ?_⟩
  ·unfold unary at h
   split at h
   ·obtain ⟨_,l1,h1,h⟩:=pr_inv h
    obtain rfl:=enter_end10 h1
    obtain ⟨a1,l2,h2,h⟩:=pr_inv h
    cases h
    exact suf_trans (tail_suf l) (U _ _ _ _ h2)
   split at h
   ·obtain ⟨_,l1,h1,h⟩:=pr_inv h
    obtain rfl:=enter_end10 h1
    obtain ⟨a1,l2,h2,h⟩:=pr_inv h
    obtain ⟨_,l3,h3,h⟩:=pr_inv h
    cases h
    obtain ⟨-,rfl⟩:=need_ok h3
    exact suf_trans (tail_suf l) (suf_trans (V _ _ _ _ _ h2) (tail_suf l2))
   split at h
   ·cases h
    exact tail_suf l
   split at h
   ·cases h
    exact tail_suf l
   ·cases h
  ·unfold bin at h
   obtain ⟨a1,l1,h1,h⟩:=pr_inv h
   exact suf_trans (U _ _ _ _ h1) (L _ _ _ _ _ _ h)
  ·unfold loopB at h
   split at h
   ·obtain ⟨a1,l1,h1,h⟩:=pr_inv h
    exact suf_trans (tail_suf l) (suf_trans (V _ _ _ _ _ h1) (L _ _ _ _ _ _ h))
   ·cases h
    exact ⟨[],rfl⟩
end Go.Proofs.YtomimkgaelkaoaaGreatDoor
namespace Go.Proofs.YtomimkgaelkaoaaGreatDoor
def Inner (s:List UInt8) (V:List Tk) (b:Bool):Prop:= ∀p,∃us p',us.map (·.tk)=V∧∀c r,Solo c→lexG false p (s++c::r)=LR.app us (lexG b p' (c::r))
def tkS (g:UInt8):Tk:=⟨2, [g],0⟩
def tailV:List Tk:= [tkS 93,tkS 59,tkS 125,tkEnd]
theorem tail_lex (p:Ps): ∃us,lexG false p [93,59,32,125]= .ok us∧us.map (·.tk)=tailV:=by
 rw [lex_fix (.inr (.inl rfl)),lex_fix (.inr (.inr (.inr (.inr (.inl rfl))))),lexG_blank (by decide),lex_fix (.inr (.inr (.inr (.inr (.inr rfl))))),lexG_nil]
 exact ⟨_,rfl,rfl⟩
theorem tail_comment (p:Ps): ∃us,lexG true p [93,59,32,125]= .ok us∧us.map (·.tk)= [tkEnd]:=by
 rw [lexG_comment (by decide),lexG_comment (by decide),lexG_comment (by decide),lexG_comment (by decide),lexG_nil]
 exact ⟨_,rfl,rfl⟩
theorem app_ok {a:List Tok} {r:LR} {ts:List Tok} (h:LR.app a r= .ok ts): ∃us,r= .ok us∧ts=a++us:=by
 cases r with
 |ok l=>cases h;exact ⟨l,rfl,rfl⟩
 |bad p e=>cases h
theorem lexL_ok {s:List UInt8} {ts:List Tok} (h:lexL s= .ok ts):lexG false (1,1) s= .ok ts:=by
 unfold lexL at h
 split at h
 ·cases h
 ·exact h
def text1 (s:List UInt8):List UInt8:=headB++91::(s++ [93,59,32,125])
theorem text1_lex {s:List UInt8} {ts:List Tok} (h:lexL (text1 s)= .ok ts): ∃V b,Inner s V b∧ts.map (·.tk)=headV++tkS 91::(V++if b=true then [tkEnd] else tailV):=by
 have g1:=lexL_ok h
 obtain ⟨th,p',hm,hh⟩:=head_lex
 unfold text1 at g1
 rw [hh,lex_fix (.inl rfl)] at g1
 obtain ⟨u1,g2,rfl⟩:=app_ok g1
 obtain ⟨u2,g3,rfl⟩:=LR.cons_ok g2
 rcases lex_solo2 _ false s (Nat.le_refl _) with ⟨V,b,hI⟩|hI
 ·refine ⟨V,b,hI, ?_⟩
  obtain ⟨us,p3,hm3,h3⟩:=hI (posL p' [91])
  rw [h3 93 _ (.inl rfl)] at g3
  obtain ⟨u3,g4,rfl⟩:=app_ok g3
  cases b with
  |true=>
   obtain ⟨u4,h4,hm4⟩:=tail_comment p3
   rw [h4] at g4
   cases g4
   simp [hm,hm3,hm4,tkS]
  |false=>
   obtain ⟨u4,h4,hm4⟩:=tail_lex p3
   rw [h4] at g4
   cases g4
   simp [hm,hm3,hm4,tkS]
 ·obtain ⟨q,e,hI⟩:=hI (posL p' [91])
  rw [hI 93 _ (.inl rfl)] at g3
  cases g3
end Go.Proofs.YtomimkgaelkaoaaGreatDoor
namespace Go.Proofs.YtomimkgaelkaoaaGreatDoor
theorem items_pre: ∀(n:Nat) (is is':List IA) (l l':List Tok),itemsL n is l= .ok is' l'→∃m,is'=is++m
 |0,_,_,_,_,h=>by simp [itemsL] at h
 |n+1,is,is',l,l',h=>by
  unfold itemsL at h
  split at h
  ·cases h;exact ⟨[],by simp⟩
  ·obtain ⟨_,_,_,h⟩:=pr_inv h
   obtain ⟨_,_,_,h⟩:=pr_inv h
   obtain ⟨x,l1,_,h⟩:=pr_inv h
   obtain ⟨m,rfl⟩:=items_pre n _ _ _ _ h
   exact ⟨x::m,by simp⟩
theorem file_pre: ∀(n:Nat) (cs:List (List UInt8×Nat)) (ss:List SA) (l:List Tok) (cs':List (List UInt8×Nat)) (ss':List SA) (l':List Tok),fileL n cs ss l= .ok (cs',ss') l'→∃m,ss'=ss++m
 |0,_,_,_,_,_,_,h=>by simp [fileL] at h
 |n+1,cs,ss,l,cs',ss',l',h=>by
  unfold fileL at h
  split at h
  ·cases h;exact ⟨[],by simp⟩
  split at h
  ·obtain ⟨_,_,_,h⟩:=pr_inv h
   obtain ⟨x,l1,_,h⟩:=pr_inv h
   exact file_pre n _ _ _ _ _ _ h
  split at h
  ·obtain ⟨_,_,_,h⟩:=pr_inv h
   obtain ⟨x,l1,_,h⟩:=pr_inv h
   obtain ⟨m,rfl⟩:=file_pre n _ _ _ _ _ _ h
   exact ⟨x::m,by simp⟩
  ·cases h
theorem name_ok {l l':List Tok} {s:List UInt8} (h:nameP l= .ok s l'):s=(hd l).tk.t∧l'=l.tail:=by
 unfold nameP at h
 split at h
 ·cases h;exact ⟨rfl,rfl⟩
 ·cases h
theorem file_inv {n:Nat} {cs:List (List UInt8×Nat)} {ss:List SA} {r rest l:List Tok} {p0 p1 p2 p3 p4 p5 p6:Ps}
  (h:fileL n [] [] (⟨⟨0, [115,116,114,117,99,116],0⟩,p0⟩::⟨⟨0, [83],0⟩,p1⟩::⟨⟨2, [123],0⟩,p2⟩::⟨⟨0, [97],0⟩,p3⟩::⟨⟨2, [58],0⟩,p4⟩::⟨⟨0, [98,121,116,101,115],0⟩,p5⟩::⟨⟨2, [91],0⟩,p6⟩::rest)= .ok (cs,ss) r):
  ∃n1 E l1 d wh is ss',bin n1 1 0 rest= .ok E l1∧isT sRb l1=true∧ss=⟨[83], [], .field [97] (.idx 1 E) d wh::is⟩::ss'∧(l1.tail.map (·.tk)= [tkS 59,tkS 125,tkEnd]→wh=none∧is= []∧ss'= []):=by
 cases n with
 |zero=>simp [fileL] at h
 |succ n=>
  unfold fileL at h
  rw [if_neg (by simp [hd]),if_neg (by simp [isT,hd,kConst]),if_pos (by simp [isT,hd,kStruct])] at h
  obtain ⟨_,_,e1,h⟩:=pr_inv h
  obtain ⟨s,l1,hs,h⟩:=pr_inv h
  obtain ⟨ms,rfl⟩:=file_pre _ _ _ _ _ _ _ h
  unfold structP at hs
  obtain ⟨_,k1,q1,hs⟩:=pr_inv hs
  obtain ⟨-,rfl⟩:=need_ok q1
  obtain ⟨_,k2,q2,hs⟩:=pr_inv hs
  obtain ⟨rfl,rfl⟩:=name_ok q2
  obtain ⟨ps,k3,q3,hs⟩:=pr_inv hs
  simp only [List.tail_cons] at q3
  unfold optP at q3
  rw [if_neg (by simp [isT,hd,sLp])] at q3
  cases q3
  obtain ⟨_,k4,q4,hs⟩:=pr_inv hs
  obtain ⟨-,rfl⟩:=need_ok q4
  obtain ⟨is,k5,q5,hs⟩:=pr_inv hs
  cases hs
  simp only [List.tail_cons] at q5
  cases n with
  |zero=>simp [itemsL] at q5
  |succ n=>
   unfold itemsL at q5
   rw [if_neg (by simp [isT,hd,sRc])] at q5
   obtain ⟨_,_,_,q5⟩:=pr_inv q5
   obtain ⟨_,_,_,q5⟩:=pr_inv q5
   obtain ⟨x,k6,q6,q5⟩:=pr_inv q5
   obtain ⟨mi,rfl⟩:=items_pre _ _ _ _ _ q5
   unfold itemP at q6
   rw [if_neg (by simp [isT,hd,kPack])] at q6
   unfold fieldP at q6
   obtain ⟨_,k7,q7,q6⟩:=pr_inv q6
   obtain ⟨rfl,rfl⟩:=name_ok q7
   obtain ⟨_,k8,q8,q6⟩:=pr_inv q6
   obtain ⟨-,rfl⟩:=need_ok q8
   obtain ⟨t,k9,q9,q6⟩:=pr_inv q6
   obtain ⟨d,k10,q10,q6⟩:=pr_inv q6
   obtain ⟨w,k11,q11,q6⟩:=pr_inv q6
   obtain ⟨_,k12,q12,q6⟩:=pr_inv q6
   cases q6
   simp only [List.tail_cons] at q9
   cases n with
   |zero=>simp [typP] at q9
   |succ n=>
    unfold typP at q9
    rw [if_neg (by simp [begT,tyW,hd,kBytes]),if_pos (by simp [isT,hd,kBytes])] at q9
    obtain ⟨E,k13,q13,q9⟩:=pr_inv q9
    cases q9
    unfold idxP at q13
    obtain ⟨_,k14,q14,z1⟩:=pr_inv q13
    obtain ⟨-,rfl⟩:=need_ok q14
    obtain ⟨E',k15,q15,z2⟩:=pr_inv z1
    obtain ⟨_,k16,q16,z3⟩:=pr_inv z2
    cases z3
    obtain ⟨q17,rfl⟩:=need_ok q16
    refine ⟨_,_,_,d,w,mi,ms,q15,q17,by simp [hd],fun hl=> ?_⟩
    obtain ⟨a1,a2,a3,e4,b1,b2,b3⟩: ∃a1 a2 a3:Tok,k15.tail= [a1,a2,a3]∧a1.tk=tkS 59∧a2.tk=tkS 125∧a3.tk=tkEnd:=by
     generalize k15.tail=z at hl
     rcases z with _|⟨a1,_|⟨a2,_|⟨a3,_|⟨a4,r⟩⟩⟩⟩<;>simp at hl
     exact ⟨a1,a2,a3,rfl,hl.1,hl.2.1,hl.2.2⟩
    rw [e4] at q10
    unfold optD at q10
    rw [if_neg (by simp [isT,hd,b1,tkS,sEq])] at q10
    cases q10
    unfold optW at q11
    rw [if_neg (by simp [isT,hd,b1,tkS,kWhere])] at q11
    cases q11
    obtain ⟨-,e5⟩:=need_ok q12
    subst e5
    rw [List.tail_cons] at q5
    have e6:mi= []∧l1= [a3]:=by
     rename_i n3
     unfold itemsL at q5
     rw [if_pos (by simp [isT,hd,b2,tkS,sRc])] at q5
     simp at q5
     exact ⟨q5.1,q5.2.symm⟩
    obtain ⟨rfl,rfl⟩:=e6
    refine ⟨rfl,rfl, ?_⟩
    unfold fileL at h
    rw [if_pos (by simp [hd,b3,tkEnd])] at h
    simp at h
    exact h.1.2
end Go.Proofs.YtomimkgaelkaoaaGreatDoor
namespace Go.Proofs.YtomimkgaelkaoaaGreatDoor
end Go.Proofs.YtomimkgaelkaoaaGreatDoor
namespace Go.Proofs.YtomimkgaelkaoaaGreatDoor
theorem parse_fl {s:List UInt8} {f:FM} (h:parseL s= .ok f): ∃ts cs ss l,lexL s= .ok ts∧fileL (fuel ts) [] [] ts= .ok (cs,ss) l∧f=putF cs ss:=by
 unfold parseL at h
 cases hl:lexL s with
 |bad p e=>rw [hl] at h;cases h
 |ok ts=>
  rw [hl] at h
  dsimp only at h
  cases hf:fileP ts with
  |bad l e=>rw [hf] at h;cases h
  |ok a l=>
   rw [hf] at h
   obtain ⟨cs,ss⟩:=a
   cases h
   exact ⟨ts,cs,ss,l,rfl,hf,rfl⟩
def atK (V:List Tk):List Tok:=V.map fun v=>⟨v,(0,0)⟩
theorem atK_tk (V:List Tk):(atK V).map (·.tk)=V:=by
 unfold atK
 rw [List.map_map]
 exact List.map_id' V
theorem atK_app (V W:List Tk):atK (V++W)=atK V++atK W:=List.map_append
def oneF (cs:List (List UInt8×Nat)) (E:EA) (d:DA):FM:=putF cs [⟨[83], [], [.field [97] (.idx 1 E) d none]⟩]
def endV (b:Bool):List Tk:=if b=true then [tkEnd] else tailV
theorem oneF_type (cs:List (List UInt8×Nat)) (E:EA) (d:DA): ∃x:Nat,(oneF cs E d).g.ts= [⟨1,0,false, [], [],(x:Int), -1, []⟩]∧x<(oneF cs E d).g.xs.length∧∀e,evalL ((oneF cs E d).g.xs.map XM.xe) (x:Int) e=evT E e:=by
 have hg:(oneF cs E d).g=(putE E gm0).addT ⟨1,0,false, [], [],(putE E gm0).x, -1, []⟩:=rfl
 have ht: ∀(e:EA) (g:GM),(putE e g).ts=g.ts:=fun e=>by
  induction e with
  |num n=>intro g;rfl
  |name s=>intro g;rfl
  |not a ih=>intro g;simp only [putE,GM.addX];exact ih g
  |bin op a b iha ihb=>intro g;simp only [putE,GM.addX];rw [ihb,iha]
 refine ⟨(putE E gm0).x, ?_, ?_,fun e=> ?_⟩
 ·rw [hg]
  show (putE E gm0).ts++_=_
  rw [ht]
  rfl
 ·rw [hg];exact putE_x E gm0
 ·rw [hg];exact evalL_put E e gm0
end Go.Proofs.YtomimkgaelkaoaaGreatDoor
