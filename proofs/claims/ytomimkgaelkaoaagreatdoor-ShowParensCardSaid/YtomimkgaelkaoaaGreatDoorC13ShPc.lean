/- Layer 8, mathematics (for ShowParens): an expression with each of its parts in parentheses is read as the same tree, or is too deep. No program. · Layer 8, mathematics (for ShowParens): the Files of a text and of its expression's text in parentheses. No program. · Layer 8, mathematics (for ShowParens): the text of the File of a short text is short. No program. -/
import Derived.Test.YtomimkgaelkaoaaGreatDoorC13ShR
import Derived.Test.YtomimkgaelkaoaaGreatDoorC13ExDd
import Derived.Test.YtomimkgaelkaoaaGreatDoorC13ShV
set_option linter.unusedVariables false
set_option linter.unusedSimpArgs false
namespace Go.Proofs.YtomimkgaelkaoaaGreatDoor
def fullE:EA→List UInt8
 | .num n=>decL n
 | .name s=>s
 | .not a=> [33]++([40]++(fullE a++ [41]))
 | .bin op a b=> [40]++(fullE a++([41]++(op++([40]++(fullE b++ [41])))))
def ktU:EA→List Tk
 | .num n=> [nmT n]
 | .name s=> [wd s]
 | .not a=> [sg [33]]++([sg [40]]++(ktU a++ [sg [41]]))
 | .bin op a b=> [sg [40]]++(ktU a++([sg [41]]++([sg op]++([sg [40]]++(ktU b++ [sg [41]])))))
theorem lx_op40 (g:List UInt8) (hg:g∈sgs):Lx g [sg g] fun rest=> ∃r,rest=40::r:=lx_sign (fun e=>absurd hg (by rw [e];decide)) fun rest h=>by
 obtain ⟨r,rfl⟩:=h
 simp only [sgs,List.mem_cons,List.mem_nil_iff,or_false] at hg
 rcases hg with rfl|rfl|rfl|rfl|rfl|rfl|rfl|rfl|rfl|rfl|rfl|rfl|rfl|rfl|rfl|rfl|rfl|rfl|rfl|rfl|rfl|rfl|rfl|rfl|rfl|rfl|rfl|rfl|rfl<;>exact ⟨rfl,rfl,rfl⟩
theorem nw_41 (rest:List UInt8):NW ([41]++rest):=(rfl:isW 41=false)
theorem lxU: ∀e:EA,VE e→Lx (fullE e) (ktU e) NW
 | .num n,v=>lx_num v
 | .name s,v=>lx_name v.1
 | .not a,v=>lx_excl.app ((lx_one 40 (by simp)).app (((lxU a v).app (lx_one 41 (by simp)) fun rest _=>nw_41 rest).weak fun r _=>trivial) fun _ _=>trivial) fun rest _=>by show (40:UInt8)≠61;decide
 | .bin op a b,v=>(lx_one 40 (by simp)).app ((lxU a v.2.1).app ((lx_one 41 (by simp)).app ((lx_op40 op (op_sign v.1).1).app ((lx_one 40 (by simp)).app (((lxU b v.2.2).app (lx_one 41 (by simp)) fun rest _=>nw_41 rest).weak fun r _=>trivial) fun _ _=>trivial) fun rest _=>⟨_,rfl⟩) fun _ _=>trivial) fun rest _=>by rw [List.append_assoc];exact nw_41 _) fun _ _=>trivial
theorem begU: ∀(e:EA),VE e→∀(x r:List Tok) (rest:List Tk),x.map (·.tk)=ktU e++rest→begE (x++r)=true∧x≠ []
 | .num n,v,x,r,rest,h=>by
  obtain ⟨t,x2,rfl,h1, -⟩:=tk_cons h
  refine ⟨?_,by simp⟩
  unfold begE isNum
  rw [List.cons_append,show hd (t::(x2++r))=t from rfl,h1]
  simp [nmT]
 | .name s,v,x,r,rest,h=>by
  obtain ⟨t,x2,rfl,h1, -⟩:=tk_cons h
  refine ⟨?_,by simp⟩
  unfold begE isName
  rw [List.cons_append,show hd (t::(x2++r))=t from rfl,h1]
  simp [wd,v.2]
 | .not a,v,x,r,rest,h=>by
  obtain ⟨t,x2,rfl,h1, -⟩:=tk_cons h
  refine ⟨?_,by simp⟩
  unfold begE
  rw [List.cons_append,isT_hd (g:=sExcl) (by rw [h1];rfl)]
  rfl
 | .bin op a b,v,x,r,rest,h=>by
  obtain ⟨t,x2,rfl,h1, -⟩:=tk_cons h
  refine ⟨?_,by simp⟩
  unfold begE
  rw [List.cons_append,isT_hd (g:=sLp) (by rw [h1];rfl)]
  simp
def Or8 (r:PR EA) (e:EA) (l:List Tok):Prop:=r= .ok e l∨∃l',r= .bad l' 8
theorem Or8.bind {r:PR EA} {e e':EA} {l l':List Tok} {f:EA→List Tok→PR EA} (h:Or8 r e l) (k:Or8 (f e l) e' l'):Or8 (r.bind f) e' l':=by
 rcases h with rfl|⟨m,rfl⟩
 ·exact k
 ·exact .inr ⟨m,rfl⟩
theorem enter8 {d:Nat} {l m l':List Tok} {e:EA} {f:Unit→List Tok→PR EA} (h:begE l=true) (k:Or8 (f () m) e l'):Or8 ((enterP (begE l) d m).bind f) e l':=by
 unfold enterP
 rw [if_neg (by rw [h];decide)]
 split
 ·exact .inr ⟨_,rfl⟩
 ·exact k
theorem loop8 {n v d:Nat} {a:EA} {l:List Tok} (hn:1≤n) (hv:1≤v) (h:levelL (hd l).tk.t=0):Or8 (loopB n v d a l) a l:=by
 cases n with
 |zero=>omega
 |succ n=>left;unfold loopB;rw [if_neg (by omega)]
theorem paren8 {n d:Nat} {e:EA} {x r:List Tok} {p q:Tok} (hn:1≤n) (hp:p.tk=sg [40]) (hq:q.tk=sg [41]) (hb:begE (x++q::r)=true) (h: ∀n',n'+1=n→∀d,Or8 (bin n' 1 d (x++q::r)) e (q::r)):Or8 (unary n d (p::(x++q::r))) e r:=by
 cases n with
 |zero=>omega
 |succ n=>
  unfold unary
  rw [if_neg (by rw [isT_no8 (by rw [hp];decide)];decide),if_pos (isT_hd (by rw [hp];rfl)),List.tail_cons]
  refine enter8 hb ((h n rfl (d+1)).bind ?_)
  rw [need_hd (by rw [hq];rfl)]
  exact .inl rfl
theorem rtU: ∀(e:EA),VE e→∀(n d:Nat) (x r:List Tok),2*x.length+4≤n→x.map (·.tk)=ktU e→levelL (hd r).tk.t=0→Or8 (bin n 1 d (x++r)) e r
 | .num k,v,n,d,x,r,hn,h,h0=>by
  obtain ⟨t,x2,rfl,h1,h2⟩:=tk_cons h
  obtain rfl:=tk_nil h2
  obtain ⟨n,rfl⟩: ∃m,n=m+2:=⟨n - 2,by omega⟩
  unfold bin
  refine Or8.bind (e:= .num k) (l:=r) (.inl ?_) (loop8 (by omega) (Nat.le_refl _) h0)
  unfold unary
  rw [List.cons_append,List.nil_append]
  rw [if_neg (by rw [isT_no8 (by rw [h1];exact fun e=>absurd ((decL_facts v).2.1 33 (by rw [show decL k= [33] from e];simp)).1 (by decide))];decide)]
  rw [if_neg (by rw [isT_no8 (by rw [h1];exact fun e=>absurd ((decL_facts v).2.1 40 (by rw [show decL k= [40] from e];simp)).1 (by decide))];decide)]
  rw [if_pos (by unfold isNum;rw [show hd (t::r)=t from rfl,h1];rfl),show hd (t::r)=t from rfl,h1]
  rfl
 | .name s,v,n,d,x,r,hn,h,h0=>by
  obtain ⟨t,x2,rfl,h1,h2⟩:=tk_cons h
  obtain rfl:=tk_nil h2
  obtain ⟨n,rfl⟩: ∃m,n=m+2:=⟨n - 2,by omega⟩
  unfold bin
  refine Or8.bind (e:= .name s) (l:=r) (.inl ?_) (loop8 (by omega) (Nat.le_refl _) h0)
  unfold unary
  rw [List.cons_append,List.nil_append]
  rw [if_neg (by rw [isT_no8 (by rw [h1];exact fun e=>absurd (v.1.w 33 (by rw [show s= [33] from e];simp)) (by decide))];decide)]
  rw [if_neg (by rw [isT_no8 (by rw [h1];exact fun e=>absurd (v.1.w 40 (by rw [show s= [40] from e];simp)) (by decide))];decide)]
  rw [if_neg (by unfold isNum;rw [show hd (t::r)=t from rfl,h1];simp [wd]),if_pos (by unfold isName;rw [show hd (t::r)=t from rfl,h1];simp [wd,v.2]),show hd (t::r)=t from rfl,h1]
  rfl
 | .not a,v,n,d,x,r,hn,h,h0=>by
  obtain ⟨t,x2,rfl,h1,h2⟩:=tk_cons (b:= [sg [40]]++(ktU a++ [sg [41]])) h
  obtain ⟨p,x3,rfl,hp,h3⟩:=tk_cons (b:=ktU a++ [sg [41]]) h2
  obtain ⟨y,z,rfl,hy,hz⟩:=tk_split h3
  obtain ⟨q,w,rfl,hq,hw⟩:=tk_cons hz
  obtain rfl:=tk_nil hw
  simp only [List.length_cons,List.length_append,List.length_nil] at hn
  obtain ⟨n,rfl⟩: ∃m,n=m+3:=⟨n - 3,by omega⟩
  unfold bin
  refine Or8.bind (e:= .not a) (l:=r) ?_ (loop8 (by omega) (Nat.le_refl _) h0)
  unfold unary
  rw [show t::p::(y++ [q])++r=t::p::(y++q::r) from by simp,if_pos (isT_hd (by rw [h1];rfl)),List.tail_cons]
  refine enter8 (by unfold begE;rw [isT_hd (g:=sLp) (by rw [hp];rfl)];simp) ?_
  refine Or8.bind (e:=a) (l:=r) (paren8 (by omega) hp hq ((begU a v y (q::r) [] (by rw [hy,List.append_nil])).1) fun n' hn' d'=>rtU a v n' d' y (q::r) (by omega) hy (level_rp hq)) (.inl rfl)
 | .bin op a b,v,n,d,x,r,hn,h,h0=>by
  obtain ⟨p,x2,rfl,hp,h2⟩:=tk_cons (b:=ktU a++([sg [41]]++([sg op]++([sg [40]]++(ktU b++ [sg [41]]))))) h
  obtain ⟨y,z,rfl,hy,hz⟩:=tk_split h2
  obtain ⟨q,w,rfl,hq,hw⟩:=tk_cons (b:= [sg op]++([sg [40]]++(ktU b++ [sg [41]]))) hz
  obtain ⟨o,w2,rfl,ho,hw2⟩:=tk_cons (b:= [sg [40]]++(ktU b++ [sg [41]])) hw
  obtain ⟨p',w3,rfl,hp',hw3⟩:=tk_cons (b:=ktU b++ [sg [41]]) hw2
  obtain ⟨y',z',rfl,hy',hz'⟩:=tk_split hw3
  obtain ⟨q',w4,rfl,hq',hw4⟩:=tk_cons hz'
  obtain rfl:=tk_nil hw4
  simp only [List.length_cons,List.length_append,List.length_nil] at hn
  obtain ⟨n,rfl⟩: ∃m,n=m+4:=⟨n - 4,by omega⟩
  rw [show p::(y++q::o::p'::(y'++ [q']))++r=p::(y++q::(o::p'::(y'++q'::r))) from by simp]
  unfold bin
  refine Or8.bind (e:=a) (l:=o::p'::(y'++q'::r)) (paren8 (by omega) hp hq ((begU a v.2.1 y _ [] (by rw [hy,List.append_nil])).1) fun n' hn' d'=>rtU a v.2.1 n' d' y _ (by omega) hy (level_rp hq)) ?_
  unfold loopB
  rw [show (hd (o::p'::(y'++q'::r))).tk.t=op from by rw [show hd (o::p'::(y'++q'::r))=o from rfl,ho];rfl,if_pos v.1,List.tail_cons]
  refine Or8.bind (e:=b) (l:=r) ?_ (loop8 (by omega) (Nat.le_refl _) h0)
  unfold bin
  refine Or8.bind (e:=b) (l:=r) (paren8 (by omega) hp' hq' ((begU b v.2.2 y' _ [] (by rw [hy',List.append_nil])).1) fun n' hn' d'=>rtU b v.2.2 n' d' y' _ (by omega) hy' (level_rp hq')) (loop8 (by omega) (by omega) h0)
end Go.Proofs.YtomimkgaelkaoaaGreatDoor
namespace Go.Proofs.YtomimkgaelkaoaaGreatDoor
def nodes:EA→Nat
 | .num _=>1
 | .name _=>1
 | .not a=>nodes a+1
 | .bin _ a b=>nodes a+nodes b+1
theorem sgs_len40: ∀g∈sgs,g.length≤2:=by decide
theorem decD_len: ∀(f n:Nat),(decD f n).length≤f
 |0,_=>Nat.le_refl _
 |f+1,n=>by
  unfold decD
  split
  ·simp
  ·have:=decD_len f (n / 10)
   rw [List.length_append];simp only [List.length_cons,List.length_nil];omega
theorem full_len: ∀e:EA,VE e→(fullE e).length≤40*nodes e
 | .num n,v=>by have:=decD_len 20 n;show (decL n).length≤40*1;unfold decL;omega
 | .name s,v=>by have:=v.1.len;show s.length≤40*1;omega
 | .not a,v=>by
  have:=full_len a v
  simp only [fullE,nodes,List.length_append,List.length_cons,List.length_nil];omega
 | .bin op a b,v=>by
  have h1:=full_len a v.2.1
  have h2:=full_len b v.2.2
  have h3:=sgs_len40 op (op_sign v.1).1
  simp only [fullE,nodes,List.length_append,List.length_cons,List.length_nil];omega
theorem nodes_xs: ∀(e:EA) (g:GM),(putE e g).xs.length=g.xs.length+nodes e
 | .num n,g=>by simp [putE,GM.addX,nodes]
 | .name s,g=>by simp [putE,GM.addX,nodes]
 | .not a,g=>by simp only [putE,GM.addX,nodes,List.length_append,nodes_xs a g,List.length_cons,List.length_nil];omega
 | .bin op a b,g=>by simp only [putE,GM.addX,nodes,List.length_append,nodes_xs b,nodes_xs a g,List.length_cons,List.length_nil];omega
theorem parens_file {s:List UInt8} {f:FM} (h:parseL (text1 s)= .ok f):
  ∃(E:EA) (x:Nat),VE E∧f.g.ts[0]? =some ⟨1,0,false, [], [],(x:Int), -1, []⟩∧AtE f.g.xs E x∧nodes E≤f.g.xs.length:=by
 obtain ⟨ts,cs,ss,l,hl,hf,rfl⟩:=parse_fl h
 obtain ⟨V,b, -,ht⟩:=text1_lex hl
 obtain ⟨-,h2, -, -⟩:=ok_file _ [] [] ts (cs,ss) l ⟨lexL_allV hl,lexL_wf hl⟩ (fun c hc=>by cases hc) (fun c hc=>by cases hc) (by simp) (by simp) hf
 obtain ⟨r',hf2⟩:=file_same_ok (l':=atK (headV++tkS 91::(V++endV b))) (by rw [atK_tk];exact ht) hf
 obtain ⟨n1,E,l1,d,wh,is,ss', -, -,rfl, -⟩:=file_inv (l:= []) (rest:=atK (V++endV b)) (p0:=(0,0)) (p1:=(0,0)) (p2:=(0,0)) (p3:=(0,0)) (p4:=(0,0)) (p5:=(0,0)) (p6:=(0,0)) hf2
 have hv:VE E:=((h2 _ (List.mem_cons_self)).1.2.2.2 _ List.mem_cons_self).2.2.1
 obtain ⟨x,k1, -, -⟩:=file_first (k:=1) (E:=E) .idx cs [83] [97] [] d wh is ss' []
 have hx:GExt ((putE E gm0).addT ⟨1,0,false, [], [],(putE E gm0).x, -1, []⟩) (putF cs (⟨[83], [], .field [97] (.idx 1 E) d wh::is⟩::ss')).g:=
  (((begins_ext .idx).trans (ext_W wh _)).trans (ext_Is' is (stepI (gm0, []) (.field [97] (.idx 1 E) d wh)))).trans (ext_Ss' ss' (stepS (gm0, []) ⟨[83], [], .field [97] (.idx 1 E) d wh::is⟩))
 obtain ⟨⟨a,ha⟩,⟨c,hc⟩⟩:=hx
 have ht0: ∀(e:EA) (g:GM),(putE e g).ts=g.ts:=fun e=>by
  induction e with
  |num n=>intro g;rfl
  |name s=>intro g;rfl
  |not a ih=>intro g;simp only [putE,GM.addX];exact ih g
  |bin op a b iha ihb=>intro g;simp only [putE,GM.addX];rw [ihb,iha]
 refine ⟨E,(putE E gm0).x,hv, ?_, ?_, ?_⟩
 ·rw [hc]
  simp [GM.addT,ht0,gm0]
 ·rw [ha]
  exact AtE.more (putE_at E gm0).2
 ·rw [ha]
  have:=nodes_xs E gm0
  simp only [GM.addT,List.length_append]
  omega
theorem parens_full {E:EA} (v:VE E) (hn:nodes E≤40):parseL (text1 (fullE E))= .ok (oneF [] E ⟨0, [], []⟩)∨∃p,parseL (text1 (fullE E))= .bad p 8:=by
 have hlen:(text1 (fullE E)).length≤16384:=by
  have:=full_len E v
  simp only [text1,headB,List.length_append,List.length_cons,List.length_nil]
  omega
 obtain ⟨th,p',hm,hh⟩:=head_lex
 obtain ⟨us,h1,h2⟩:=lxU E v [93,59,32,125] (show isW 93=false from rfl) tailV tail_lex (posL p' [91])
 have hl:lexL (text1 (fullE E))= .ok (th++⟨tkS 91,p'⟩::us):=by
  unfold lexL
  rw [if_neg (by omega)]
  unfold text1
  rw [hh,lex_fix (.inl rfl),h1]
  rfl
 have htk:(th++⟨tkS 91,p'⟩::us).map (·.tk)=headV++tkS 91::(ktU E++tailV):=by rw [List.map_append,hm,List.map_cons,h2]
 obtain ⟨x,z,rfl,hx,hz⟩:=tk_split h2
 generalize hT:th++⟨tkS 91,p'⟩::(x++z)=T at hl htk
 have hfu:8*x.length+28≤fuel T:=by
  rw [←hT]
  simp only [fuel,List.length_append,List.length_cons]
  omega
 unfold parseL
 rw [hl]
 dsimp only
 unfold fileP
 obtain ⟨a1,z1,rfl,e1,hz1⟩:=tk_cons hz
 obtain ⟨a2,z2,rfl,e2,hz2⟩:=tk_cons hz1
 obtain ⟨a3,z3,rfl,e3,hz3⟩:=tk_cons hz2
 obtain ⟨a4,z4,rfl,e4,hz4⟩:=tk_cons hz3
 obtain rfl:=tk_nil hz4
 obtain ⟨t0,y0,rfl,g0,hy0⟩:=tk_cons hm
 obtain ⟨t1,y1,rfl,g1,hy1⟩:=tk_cons hy0
 obtain ⟨t2,y2,rfl,g2,hy2⟩:=tk_cons hy1
 obtain ⟨t3,y3,rfl,g3,hy3⟩:=tk_cons hy2
 obtain ⟨t4,y4,rfl,g4,hy4⟩:=tk_cons hy3
 obtain ⟨t5,y5,rfl,g5,hy5⟩:=tk_cons hy4
 obtain rfl:=tk_nil hy5
 obtain ⟨n,hn⟩: ∃n,fuel T=n+4:=⟨fuel T - 4,by omega⟩
 have hb:Or8 (bin (n+1) 1 0 (x++a1::a2::a3:: [a4])) E (a1::a2::a3:: [a4]):=rtU E v (n+1) 0 x _ (by omega) hx (by rw [show hd (a1::a2::a3:: [a4])=a1 from rfl,e1];rfl)
 have hty:typP (n+2) 0 (t5::⟨tkS 91,p'⟩::(x++a1::a2::a3:: [a4]))= .ok (.idx 1 E) (a2::a3:: [a4])∨∃m,typP (n+2) 0 (t5::⟨tkS 91,p'⟩::(x++a1::a2::a3:: [a4]))= .bad m 8:=by
  unfold typP
  rw [if_neg (by unfold begT;rw [show hd (t5::⟨tkS 91,p'⟩::(x++a1::a2::a3:: [a4]))=t5 from rfl,g5];simp [tyW,kBytes]),if_pos (isT_hd (by rw [g5];rfl)),List.tail_cons]
  unfold idxP
  rw [need_hd (g:=sLb) rfl,PR.bind_ok]
  rcases hb with e|⟨m,e⟩
  ·rw [e,PR.bind_ok,need_hd (by rw [e1];rfl),PR.bind_ok,PR.bind_ok];exact .inl rfl
  ·rw [e,PR.bind_bad,PR.bind_bad];exact .inr ⟨m,rfl⟩
 have hfi:fieldP (n+2) (t3::t4::t5::⟨tkS 91,p'⟩::(x++a1::a2::a3:: [a4]))= .ok (.field [97] (.idx 1 E) ⟨0, [], []⟩ none) (a3:: [a4])∨∃m,fieldP (n+2) (t3::t4::t5::⟨tkS 91,p'⟩::(x++a1::a2::a3:: [a4]))= .bad m 8:=by
  unfold fieldP nameP
  rw [if_pos (by unfold isName;rw [show hd (t3::t4::t5::⟨tkS 91,p'⟩::(x++a1::a2::a3:: [a4]))=t3 from rfl,g3];decide),PR.bind_ok,show hd (t3::t4::t5::⟨tkS 91,p'⟩::(x++a1::a2::a3:: [a4]))=t3 from rfl,g3,List.tail_cons,need_hd (by rw [g4];rfl),PR.bind_ok]
  rcases hty with e|⟨m,e⟩
  ·rw [e,PR.bind_ok]
   unfold optD
   rw [if_neg (by rw [isT_no8 (by rw [e2];decide)];decide),PR.bind_ok]
   unfold optW
   rw [if_neg (by rw [isT_no8 (by rw [e2];decide)];decide),PR.bind_ok,need_hd (by rw [e2];rfl),PR.bind_ok]
   exact .inl rfl
  ·rw [e];exact .inr ⟨m,rfl⟩
 have hit:itemsL (n+3) [] (t3::t4::t5::⟨tkS 91,p'⟩::(x++a1::a2::a3:: [a4]))= .ok [.field [97] (.idx 1 E) ⟨0, [], []⟩ none] [a4]∨∃m,itemsL (n+3) [] (t3::t4::t5::⟨tkS 91,p'⟩::(x++a1::a2::a3:: [a4]))= .bad m 8:=by
  unfold itemsL
  rw [if_neg (by rw [isT_no8 (by rw [g3];decide)];decide)]
  unfold expectP
  rw [if_pos (by unfold isName;rw [show hd (t3::t4::t5::⟨tkS 91,p'⟩::(x++a1::a2::a3:: [a4]))=t3 from rfl,g3];rfl),PR.bind_ok]
  unfold roomP
  rw [if_neg (by simp),PR.bind_ok]
  unfold itemP
  rw [if_neg (by rw [isT_no8 (by rw [g3];decide)];decide)]
  rcases hfi with e|⟨m,e⟩
  ·rw [e,PR.bind_ok]
   unfold itemsL
   rw [if_pos (isT_hd (by rw [e3];rfl))]
   exact .inl rfl
  ·rw [e];exact .inr ⟨m,rfl⟩
 have key:fileL (n+4) [] [] (t0::t1::t2::t3::t4::t5::⟨tkS 91,p'⟩::(x++a1::a2::a3:: [a4]))= .ok ([], [⟨[83], [], [.field [97] (.idx 1 E) ⟨0, [], []⟩ none]⟩]) [a4]∨∃m,fileL (n+4) [] [] (t0::t1::t2::t3::t4::t5::⟨tkS 91,p'⟩::(x++a1::a2::a3:: [a4]))= .bad m 8:=by
  unfold fileL
  rw [if_neg (by rw [show hd (t0::t1::t2::t3::t4::t5::⟨tkS 91,p'⟩::(x++a1::a2::a3:: [a4]))=t0 from rfl,g0];decide),if_neg (by rw [isT_no8 (by rw [g0];decide)];decide),if_pos (isT_hd (by rw [g0];rfl))]
  unfold roomP
  rw [if_neg (by simp),PR.bind_ok]
  unfold structP
  rw [need_hd (by rw [g0];rfl),PR.bind_ok]
  unfold nameP
  rw [if_pos (by unfold isName;rw [show hd (t1::t2::t3::t4::t5::⟨tkS 91,p'⟩::(x++a1::a2::a3:: [a4]))=t1 from rfl,g1];decide),PR.bind_ok,show hd (t1::t2::t3::t4::t5::⟨tkS 91,p'⟩::(x++a1::a2::a3:: [a4]))=t1 from rfl,g1,List.tail_cons]
  unfold optP
  rw [if_neg (by rw [isT_no8 (by rw [g2];decide)];decide),PR.bind_ok,need_hd (by rw [g2];rfl),PR.bind_ok]
  rcases hit with e|⟨m,e⟩
  ·rw [e,PR.bind_ok,PR.bind_ok]
   unfold fileL
   rw [if_pos (by rw [show hd [a4]=a4 from rfl,e4];rfl)]
   exact .inl rfl
  ·rw [e];exact .inr ⟨m,rfl⟩
 rw [hn,←hT]
 simp only [List.cons_append,List.nil_append]
 rcases key with e|⟨m,e⟩
 ·rw [e];exact .inl rfl
 ·rw [e];exact .inr ⟨_,rfl⟩
end Go.Proofs.YtomimkgaelkaoaaGreatDoor
namespace Go.Proofs.YtomimkgaelkaoaaGreatDoor
def wt:List Tok→Nat
 | []=>0
 |t::l=>t.tk.t.length+10+wt l
theorem wt_app: ∀a b:List Tok,wt (a++b)=wt a+wt b
 | [],b=>by simp [wt]
 |t::a,b=>by simp only [List.cons_append,wt,wt_app a b];omega
theorem wt_suf {l l':List Tok} (h: ∃c,l=c++l'):wt l'≤wt l:=by
 obtain ⟨c,rfl⟩:=h
 rw [wt_app];omega
theorem wt_eq: ∀l:List Tok,wt l=sumL l+10*l.length
 | []=>rfl
 |t::l=>by simp only [wt,sumL,List.length_cons,wt_eq l];omega
theorem wt_hd {l:List Tok} (h:(hd l).tk.k≠3):(hd l).tk.t.length+10+wt l.tail=wt l:=by
 cases l with
 |nil=>exact absurd rfl h
 |cons t l=>rfl
theorem wt_isT {g:List UInt8} {l:List Tok} (h:isT g l=true) (hg:g≠ []):g.length+10+wt l.tail=wt l:=by
 unfold isT at h
 have h:(hd l).tk.t=g:=by simpa using h
 cases l with
 |nil=>exact absurd h.symm hg
 |cons t l=>rw [←h];rfl
theorem wt_need {g:List UInt8} {l l':List Tok} {u:Unit} (hg:g≠ []) (h:need g l= .ok u l'):wt l'+g.length+10=wt l:=by
 obtain ⟨h1,rfl⟩:=need_ok h
 have:=wt_isT h1 hg
 omega
theorem wt_name {l l':List Tok} {s:List UInt8} (h:nameP l= .ok s l'):s.length+10+wt l'=wt l:=by
 unfold nameP at h
 split at h
 ·rename_i h1
  cases h
  refine wt_hd ?_
  unfold isName at h1
  simp only [Bool.and_eq_true,decide_eq_true_eq] at h1
  omega
 ·cases h
theorem wt_num {l l':List Tok} {v:Nat} (h:numP l= .ok v l'):10+wt l'≤wt l:=by
 unfold numP at h
 split at h
 ·rename_i h1
  cases h
  unfold isNum at h1
  have:=wt_hd (l:=l) (by have e:(hd l).tk.k=1:=(by simpa using h1);omega)
  omega
 ·cases h
theorem sub_wt {l l':List Tok} {a:List UInt8×Nat} (h:subP l= .ok a l'):(prSub a).length+wt l'≤wt l:=by
 unfold subP at h
 obtain ⟨s,k1,q1,h⟩:=pr_inv h
 obtain ⟨_,k2,q2,h⟩:=pr_inv h
 obtain ⟨v,k3,q3,h⟩:=pr_inv h
 obtain ⟨_,k4,q4,h⟩:=pr_inv h
 cases h
 have h1:=wt_name q1
 have h2:=wt_need (by decide) q2
 have h3:=wt_num q3
 have h4:=wt_need (by decide) q4
 have h5:=decD_len 20 (min v 1048576)
 simp only [prSub,decL,List.length_append,List.length_cons,List.length_nil]
 omega
theorem subs_wt: ∀(n:Nat) (ss ss':List (List UInt8×Nat)) (l l':List Tok),subsL n ss l= .ok ss' l'→(ss'.flatMap prSub).length+wt l'≤(ss.flatMap prSub).length+wt l
 |0,_,_,_,_,h=>by simp [subsL] at h
 |n+1,ss,ss',l,l',h=>by
  unfold subsL at h
  split at h
  ·cases h
   have:=wt_suf (tail_suf l)
   omega
  ·obtain ⟨_,k1,q1,h⟩:=pr_inv h
   obtain ⟨_,k2,q2,h⟩:=pr_inv h
   obtain ⟨x,k3,q3,h⟩:=pr_inv h
   have:=subs_wt n _ _ _ _ h
   have:=sub_wt q3
   simp only [List.flatMap_append,List.flatMap_cons,List.flatMap_nil,List.length_append,List.length_nil] at*
   omega
theorem wordN_len (z:Nat) (li:Bool):(wordN z li).length≤5:=by
 unfold wordN
 repeat' split
 all_goals decide
theorem pack_wt {n:Nat} {l l':List Tok} {a:IA} (hl:isT kPack l=true) (h:packP n l.tail= .ok a l'):(prI a).length+3+wt l'≤wt l:=by
 have h0:=wt_isT hl (by decide)
 unfold packP at h
 split at h
 ·cases h
 ·rename_i z li hw
  obtain ⟨_,k1,q1,h⟩:=pr_inv h
  obtain ⟨x,k2,q2,h⟩:=pr_inv h
  obtain ⟨ss,k3,q3,h⟩:=pr_inv h
  cases h
  have h1:=wt_need (by decide) q1
  have h2:=sub_wt q2
  have h3:=subs_wt _ _ _ _ _ q3
  have h4:10+wt l.tail.tail≤wt l.tail:=by
   cases hx:l.tail with
   |nil=>rw [hx] at hw;simp [hd,tkEnd,intW,intsL] at hw
   |cons t u=>simp only [wt,List.tail_cons];omega
  have h5:=wordN_len z li
  simp only [List.flatMap_cons,List.flatMap_nil,List.append_nil] at h3
  have e0:kPack.length=4:=rfl
  have e1:sLc.length=1:=rfl
  simp only [prI,List.length_append,List.length_cons,List.length_nil]
  omega
def isPk:IA→Bool
 | .field .. =>false
 | .pack .. =>true
def itT (is:List IA):Nat:=(is.flatMap fun x=> [32,32]++(prI x++ [10])).length
theorem itT_snoc (is:List IA) (x:IA):itT (is++ [x])=itT is+((prI x).length+3):=by
 simp only [itT,List.flatMap_append,List.flatMap_cons,List.flatMap_nil,List.length_append,List.length_cons,List.length_nil]
 omega
theorem items_wt: ∀(n:Nat) (is is':List IA) (l l':List Tok),itemsL n is l= .ok is' l'→(∀m,is'=is++m→∀x∈m,isPk x=true)→itT is'+wt l'≤itT is+wt l
 |0,_,_,_,_,h,_=>by simp [itemsL] at h
 |n+1,is,is',l,l',h,hp=>by
  unfold itemsL at h
  split at h
  ·cases h
   have:=wt_suf (tail_suf l)
   omega
  ·obtain ⟨_,k1,q1,h⟩:=pr_inv h
   obtain ⟨_,k2,q2,h⟩:=pr_inv h
   obtain ⟨x,k3,q3,h⟩:=pr_inv h
   have i1:=items_wt n _ _ _ _ h (fun m e y hy=>hp (x::m) (by rw [e];simp) y (List.mem_cons_of_mem _ hy))
   obtain ⟨m,e⟩:=items_pre _ _ _ _ _ h
   have hx:=hp (x::m) (by rw [e];simp) x List.mem_cons_self
   rw [itT_snoc] at i1
   unfold itemP at q3
   by_cases hk:isT kPack l=true
   ·rw [if_pos hk] at q3
    have:=pack_wt hk q3
    omega
   ·rw [if_neg hk] at q3
    unfold fieldP at q3
    obtain ⟨_,_,_,q3⟩:=pr_inv q3
    obtain ⟨_,_,_,q3⟩:=pr_inv q3
    obtain ⟨_,_,_,q3⟩:=pr_inv q3
    obtain ⟨_,_,_,q3⟩:=pr_inv q3
    obtain ⟨_,_,_,q3⟩:=pr_inv q3
    obtain ⟨_,_,_,q3⟩:=pr_inv q3
    cases q3
    cases hx
theorem der_suf {l l':List Tok} {d:DA} (h:derP l= .ok d l'): ∃c,l=c++l':=by
 unfold derP at h
 split at h
 ·cases h
 ·obtain ⟨_,k1,q1,h⟩:=pr_inv h
  obtain ⟨a,k2,q2,h⟩:=pr_inv h
  obtain ⟨-,rfl⟩:=need_ok q1
  obtain ⟨-,rfl⟩:=name_ok q2
  have s0:=suf_trans (tail_suf l) (suf_trans (tail_suf l.tail) (tail_suf l.tail.tail))
  split at h
  ·obtain ⟨_,k3,q3,h⟩:=pr_inv h
   cases h
   obtain ⟨-,rfl⟩:=need_ok q3
   exact suf_trans s0 (tail_suf _)
  ·obtain ⟨_,k3,q3,h⟩:=pr_inv h
   obtain ⟨b,k4,q4,h⟩:=pr_inv h
   obtain ⟨_,k5,q5,h⟩:=pr_inv h
   cases h
   obtain ⟨-,rfl⟩:=need_ok q3
   obtain ⟨-,rfl⟩:=name_ok q4
   obtain ⟨-,rfl⟩:=need_ok q5
   exact suf_trans s0 (suf_trans (tail_suf _) (suf_trans (tail_suf _) (tail_suf _)))
theorem optD_suf {l l':List Tok} {d:DA} (h:optD l= .ok d l'): ∃c,l=c++l':=by
 unfold optD at h
 split at h
 ·exact suf_trans (tail_suf l) (der_suf h)
 ·cases h;exact ⟨[],rfl⟩
theorem optW_suf {n:Nat} {l l':List Tok} {w:Option EA} (h:optW n l= .ok w l'): ∃c,l=c++l':=by
 unfold optW at h
 split at h
 ·obtain ⟨e,k1,q1,h⟩:=pr_inv h
  cases h
  exact suf_trans (tail_suf l) ((expr_suf n).2.1 _ _ _ _ _ q1)
 ·cases h;exact ⟨[],rfl⟩
theorem file_items {n:Nat} {cs:List (List UInt8×Nat)} {ss:List SA} {r rest:List Tok} {p0 p1 p2 p3 p4 p5 p6:Ps}
  (h:fileL n [] [] (⟨⟨0, [115,116,114,117,99,116],0⟩,p0⟩::⟨⟨0, [83],0⟩,p1⟩::⟨⟨2, [123],0⟩,p2⟩::⟨⟨0, [97],0⟩,p3⟩::⟨⟨2, [58],0⟩,p4⟩::⟨⟨0, [98,121,116,101,115],0⟩,p5⟩::⟨⟨2, [91],0⟩,p6⟩::rest)= .ok (cs,ss) r):
  ∃E d wh is ss' n2 l2 l3,ss=⟨[83], [], .field [97] (.idx 1 E) d wh::is⟩::ss'∧itemsL n2 [.field [97] (.idx 1 E) d wh] l2= .ok (.field [97] (.idx 1 E) d wh::is) l3∧wt l2≤wt rest:=by
 cases n with
 |zero=>simp [fileL] at h
 |succ n=>
  unfold fileL at h
  rw [if_neg (by simp [hd]),if_neg (by simp [isT,hd,kConst]),if_pos (by simp [isT,hd,kStruct])] at h
  obtain ⟨_,_,e1,h⟩:=pr_inv h
  obtain ⟨s,l1,hs,h⟩:=pr_inv h
  obtain ⟨ms,rfl⟩:=file_pre _ _ _ _ _ _ _ h
  unfold structP at hs
  obtain ⟨_,k1,q1,hs⟩:=pr_inv hs
  obtain ⟨-,rfl⟩:=need_ok q1
  obtain ⟨_,k2,q2,hs⟩:=pr_inv hs
  obtain ⟨rfl,rfl⟩:=name_ok q2
  obtain ⟨ps,k3,q3,hs⟩:=pr_inv hs
  simp only [List.tail_cons] at q3
  unfold optP at q3
  rw [if_neg (by simp [isT,hd,sLp])] at q3
  cases q3
  obtain ⟨_,k4,q4,hs⟩:=pr_inv hs
  obtain ⟨-,rfl⟩:=need_ok q4
  obtain ⟨is,k5,q5,hs⟩:=pr_inv hs
  cases hs
  simp only [List.tail_cons] at q5
  cases n with
  |zero=>simp [itemsL] at q5
  |succ n=>
   unfold itemsL at q5
   rw [if_neg (by simp [isT,hd,sRc])] at q5
   obtain ⟨_,_,_,q5⟩:=pr_inv q5
   obtain ⟨_,_,_,q5⟩:=pr_inv q5
   obtain ⟨x,k6,q6,q5⟩:=pr_inv q5
   obtain ⟨mi,rfl⟩:=items_pre _ _ _ _ _ q5
   unfold itemP at q6
   rw [if_neg (by simp [isT,hd,kPack])] at q6
   unfold fieldP at q6
   obtain ⟨_,k7,q7,q6⟩:=pr_inv q6
   obtain ⟨rfl,rfl⟩:=name_ok q7
   obtain ⟨_,k8,q8,q6⟩:=pr_inv q6
   obtain ⟨-,rfl⟩:=need_ok q8
   obtain ⟨t,k9,q9,q6⟩:=pr_inv q6
   obtain ⟨d,k10,q10,q6⟩:=pr_inv q6
   obtain ⟨w,k11,q11,q6⟩:=pr_inv q6
   obtain ⟨_,k12,q12,q6⟩:=pr_inv q6
   cases q6
   simp only [List.tail_cons] at q9
   cases n with
   |zero=>simp [typP] at q9
   |succ n=>
    unfold typP at q9
    rw [if_neg (by simp [begT,tyW,hd,kBytes]),if_pos (by simp [isT,hd,kBytes])] at q9
    obtain ⟨E,k13,q13,q9⟩:=pr_inv q9
    cases q9
    unfold idxP at q13
    obtain ⟨_,k14,q14,z1⟩:=pr_inv q13
    obtain ⟨-,rfl⟩:=need_ok q14
    obtain ⟨E',k15,q15,z2⟩:=pr_inv z1
    obtain ⟨_,k16,q16,z3⟩:=pr_inv z2
    cases z3
    obtain ⟨q17,rfl⟩:=need_ok q16
    refine ⟨E,d,w,mi,ms,_,_,_,by simp [hd],q5, ?_⟩
    have s1:=optD_suf q10
    have s2:=optW_suf q11
    obtain ⟨-,e5⟩:=need_ok q12
    subst e5
    exact wt_suf (suf_trans ((expr_suf _).2.1 _ _ _ _ _ q15) (suf_trans (tail_suf _) (suf_trans s1 (suf_trans s2 (tail_suf _)))))
theorem pr_len: ∀e:EA,VE e→(prE e).length≤43*nodes e
 | .num n,v=>by have:=decD_len 20 n;show (decL n).length≤43*1;unfold decL;omega
 | .name s,v=>by have:=v.1.len;show s.length≤43*1;omega
 | .not a,v=>by
  have:=pr_len a v
  have h:(paren (low 9 a) (prE a)).length≤(prE a).length+2:=by unfold paren;split<;>simp
  simp only [prE,nodes,List.length_append,List.length_cons,List.length_nil];omega
 | .bin op a b,v=>by
  have h1:=pr_len a v.2.1
  have h2:=pr_len b v.2.2
  have h3:=sgs_len40 op (op_sign v.1).1
  have h4:(paren (low (levelL op) a) (prE a)).length≤(prE a).length+2:=by unfold paren;split<;>simp
  have h5:(paren (low (levelL op+1) b) (prE b)).length≤(prE b).length+2:=by unfold paren;split<;>simp
  simp only [prE,nodes,List.length_append,List.length_cons,List.length_nil];omega
theorem ext_len {g g':GM} (h:GExt g g'):g.xs.length≤g'.xs.length∧g.ts.length≤g'.ts.length:=by
 obtain ⟨⟨a,h1⟩,⟨b,h2⟩⟩:=h
 rw [h1,h2,List.length_append,List.length_append];omega
theorem addT_lenP (g:GM) (t:TM):(g.addT t).ts.length=g.ts.length+1:=by simp [GM.addT]
theorem putT_one: ∀(t:TA) (g:GM),OkT t false→g.ts.length+1≤(putT t g).1.ts.length
 | .int z li,g,_=>by simp only [putT,addT_lenP];omega
 | .ref s es,g,_=>by have:=(ext_len (ext_Es es g)).2;simp only [putT,addT_lenP];omega
 | .idx k e,g,_=>by have:=(ext_len (ext_E e g)).2;simp only [putT,addT_lenP];omega
 | .win k e t,g,_=>by have:=(ext_len ((ext_E e g).trans (ext_T t _))).2;simp only [putT,addT_lenP];omega
 | .rest t,g,_=>by have:=(ext_len (ext_T t g)).2;simp only [putT,addT_lenP];omega
 | .leaf k,g,_=>by simp only [putT,addT_lenP];omega
 | .arr t e,g,_=>by have:=(ext_len ((ext_T t g).trans (ext_E e _))).2;simp only [putT,addT_lenP];omega
 | .sw e cs els,g,_=>by have:=(ext_len (((ext_E e g).trans (ext_T cs _)).trans (ext_T els _))).2;simp only [putT,addT_lenP];omega
 | .nil,g,h=>by simp [OkT] at h
 | .snoc cs n t,g,h=>by simp [OkT] at h
theorem fold_one: ∀(is:List IA) (s:GM×List IM),(∀x∈is,OkI x)→(∃x∈is,isPk x=false)→s.1.ts.length+1≤(is.foldl stepI s).1.ts.length
 | [],s,_,⟨x,hx,_⟩=>by cases hx
 |x::is,s,ho,hp=>by
  have e1:s.1.ts.length≤(stepI s x).1.ts.length:=(ext_len (ext_I x s.1)).2
  by_cases hx:isPk x=false
  ·have e2:s.1.ts.length+1≤(stepI s x).1.ts.length:=by
    cases x with
    |pack z li subs=>cases hx
    |field u t d wh=>
     have h1:=putT_one t s.1 (ho _ List.mem_cons_self).1
     have h2:=(ext_len (ext_W wh (putT t s.1).1)).2
     exact Nat.le_trans h1 h2
   have h3:=(ext_len (ext_Is' is (stepI s x))).2
   exact Nat.le_trans e2 h3
  ·obtain ⟨y,hy,hq⟩:=hp
   rcases List.mem_cons.1 hy with rfl|hy
   ·exact absurd hq hx
   ·have:=fold_one is (stepI s x) (fun z hz=>ho z (List.mem_cons_of_mem _ hz)) ⟨y,hy,hq⟩
    exact Nat.le_trans (by omega) this
theorem putSs_lenP: ∀(l:List SA) (s:GM×List SM),(l.foldl stepS s).2.length=s.2.length+l.length
 | [],s=>rfl
 |x::l,s=>by
  rw [List.foldl_cons,putSs_lenP l]
  simp only [stepS,List.length_append,List.length_cons,List.length_nil];omega
theorem consts_len: ∀l:List (List UInt8×Nat),(∀c∈l,VC c)→(l.flatMap prC).length≤63*l.length
 | [],_=>by simp
 |c::l,h=>by
  have h1:=consts_len l fun x hx=>h x (List.mem_cons_of_mem _ hx)
  have h2:=(h c List.mem_cons_self).1.len
  have h3:=decD_len 20 c.2
  have e0:kConst.length=5:=rfl
  simp only [List.flatMap_cons,List.length_append,prC,decL,List.length_cons,List.length_nil]
  omega
def whN:Option EA→Nat
 |none=>0
 |some e=>nodes e
theorem parens_short {s:List UInt8} {f:FM} (h:parseL (text1 s)= .ok f) (hs:s.length≤300) (h1:f.ss.length=1) (h2:f.g.ts.length=1) (h3:f.g.xs.length≤40):
  ∃cs ss,f=putF cs ss∧(∀c∈cs,VC c)∧(∀x∈ss,PS x)∧cs.length≤64∧ss.length≤64∧(prF cs ss).length≤16384:=by
 obtain ⟨ts,cs,ss,l,hl,hf,rfl⟩:=parse_fl h
 obtain ⟨V,b, -,ht⟩:=text1_lex hl
 obtain ⟨o1,o2,o3,o4⟩:=ok_file _ [] [] ts (cs,ss) l ⟨lexL_allV hl,lexL_wf hl⟩ (fun c hc=>by cases hc) (fun c hc=>by cases hc) (by simp) (by simp) hf
 refine ⟨cs,ss,rfl,o1,o2,o3,o4, ?_⟩
 obtain ⟨r',hf2⟩:=file_same_ok (l':=atK (headV++tkS 91::(V++endV b))) (by rw [atK_tk];exact ht) hf
 obtain ⟨E,d,wh,is,ss',n2,l2,l3,rfl,q1,q2⟩:=file_items (rest:=atK (V++endV b)) (p0:=(0,0)) (p1:=(0,0)) (p2:=(0,0)) (p3:=(0,0)) (p4:=(0,0)) (p5:=(0,0)) (p6:=(0,0)) hf2
 obtain rfl:ss'= []:=by
  have:=putSs_lenP (⟨[83], [], .field [97] (.idx 1 E) d wh::is⟩::ss') (gm0, [])
  have e:(putF cs (⟨[83], [], .field [97] (.idx 1 E) d wh::is⟩::ss')).ss.length=_:=this
  rw [h1] at e
  simp at e
  exact e
 have hps:=o2 _ List.mem_cons_self
 have hpk: ∀x∈is,isPk x=true:=by
  intro x hx
  cases hq:isPk x with
  |true=>rfl
  |false=>
   exfalso
   have k:=fold_one is (stepI (gm0, []) (.field [97] (.idx 1 E) d wh)) (fun y hy=>hps.2.1 y (List.mem_cons_of_mem _ hy)) ⟨x,hx,hq⟩
   have k0:=fold_one [.field [97] (.idx 1 E) d wh] (gm0, []) (fun y hy=>hps.2.1 y (by rw [List.mem_singleton.1 hy];exact List.mem_cons_self)) ⟨_,List.mem_singleton.2 rfl,rfl⟩
   have e:(putF cs [⟨[83], [], .field [97] (.idx 1 E) d wh::is⟩]).g.ts.length=(is.foldl stepI (stepI (gm0, []) (.field [97] (.idx 1 E) d wh))).1.ts.length:=rfl
   have k1:gm0.ts.length+1≤(stepI (gm0, []) (.field [97] (.idx 1 E) d wh)).1.ts.length:=k0
   omega
 have q3:=items_wt _ _ _ _ _ q1 (fun m e x hx=>hpk x (by rw [show is=m from List.cons.inj e|>.2];exact hx))
 have nx:(putE E gm0).xs.length=nodes E:=(nodes_xs E gm0).trans (Nat.zero_add _)
 have hx:nodes E+whN wh≤40:=by
  have e1:(stepI (gm0, []) (.field [97] (.idx 1 E) d wh)).1.xs.length=nodes E+whN wh:=by
   cases wh with
   |none=>
    exact nx
   |some e=>
    refine (nodes_xs e ((putE E gm0).addT _)).trans ?_
    show (putE E gm0).xs.length+nodes e=_
    rw [nx]
    rfl
  have e2:=(ext_len (ext_Is' is (stepI (gm0, []) (.field [97] (.idx 1 E) d wh)))).1
  have e3:(putF cs [⟨[83], [], .field [97] (.idx 1 E) d wh::is⟩]).g.xs.length=(is.foldl stepI (stepI (gm0, []) (.field [97] (.idx 1 E) d wh))).1.xs.length:=rfl
  omega
 have hv:=hps.1.2.2.2 _ List.mem_cons_self
 have p1:=pr_len E hv.2.2.1
 have p2:(prWh wh).length≤7+43*whN wh:=by
  cases wh with
  |none=>simp [prWh]
  |some e=>
   have:=pr_len e (hv.2.2.2.2 e rfl)
   have e0:dWhere.length=7:=rfl
   simp only [prWh,whN,List.length_append];omega
 have p3:(prDer d).length≤90:=by
  obtain ⟨d1,d2,d3, -, -⟩:=hv.2.2.2.1
  unfold prDer
  split
  ·simp
  ·rename_i hk
   have a1:=(d2 hk).1.len
   have a2:(dDer d.k).length≤11:=by unfold dDer;split<;>(try split)<;>(try split)<;>simp
   split
   ·simp only [List.length_append,List.length_cons,List.length_nil];omega
   ·rename_i hk2
    have a3:=(d3 (by omega)).1.len
    simp only [List.length_append,List.length_cons,List.length_nil];omega
 have p4:=consts_len cs o1
 have p5:wt (atK (V++endV b))≤3574:=by
  have w1:=wt_eq ts
  obtain ⟨l1,l2', -⟩:=lexG_all _ _ _ _ ts (Nat.le_refl _) (lexL_ok hl)
  have w2: ∀a b:List Tok,a.map (·.tk)=b.map (·.tk)→wt a=wt b:=by
   intro a
   induction a with
   |nil=>intro b h;rw [(List.map_eq_nil_iff.1 h.symm)]
   |cons x a ih=>
    intro b h
    cases b with
    |nil=>cases h
    |cons y b=>
     rw [List.map_cons,List.map_cons] at h
     injection h with h1 h2
     simp only [wt,h1,ih b h2]
  have w3:=w2 ts (atK (headV++tkS 91::(V++endV b))) (by rw [atK_tk];exact ht)
  have w4:wt (atK (V++endV b))≤wt (atK (headV++tkS 91::(V++endV b))):=wt_suf ⟨atK (headV++ [tkS 91]),by rw [←atK_app];simp⟩
  have w5:(text1 s).length=s.length+24:=by simp [text1,headB]
  omega
 have o3':cs.length≤64:=o3
 have e0:kStruct.length=6:=rfl
 have e1:itT [.field [97] (.idx 1 E) d wh]=(prI (.field [97] (.idx 1 E) d wh)).length+3:=by simp [itT]
 have e2:(prI (.field [97] (.idx 1 E) d wh)).length≤2500:=by
  have:kBytes.length=5:=rfl
  simp only [prI,prT,prIdx,idxWord,if_true,List.length_append,List.length_cons,List.length_nil]
  omega
 have e3:((IA.field [97] (.idx 1 E) d wh::is).flatMap fun x=> [32,32]++(prI x++ [10])).length=itT (IA.field [97] (.idx 1 E) d wh::is):=rfl
 simp only [prF,List.flatMap_cons,List.flatMap_nil,List.append_nil,prS,prL,List.length_append,List.length_cons,List.length_nil] at e3 ⊢
 omega
theorem first_text {f:FM} {E:EA} {x:Nat} (h0:f.g.ts[0]? =some ⟨1,0,false, [], [],(x:Int), -1, []⟩) (ha:AtE f.g.xs E x):typW f.gf.xs f.gf.ts f.gf.ts.length 0=wPut (prIdx kBytes E):=
 typW_top (xs:=f.g.xs) (ts:=f.g.ts) (t:= .idx 1 E) (k:=0) ⟨rfl, .inl rfl⟩ ⟨x,h0,ha⟩
theorem text_len (E:EA) (v:VE E) (hn:nodes E≤40):(prIdx kBytes E).length≤16384:=by
 have:=pr_len E v
 have e:kBytes.length=5:=rfl
 simp only [prIdx,List.length_append,List.length_cons,List.length_nil]
 omega
theorem one_at (E:EA) (d:DA): ∃x:Nat,(oneF [] E d).g.ts= [⟨1,0,false, [], [],(x:Int), -1, []⟩]∧AtE (oneF [] E d).g.xs E x∧(oneF [] E d).g.xs.length=nodes E:=by
 have hg:(oneF [] E d).g=(putE E gm0).addT ⟨1,0,false, [], [],(putE E gm0).x, -1, []⟩:=rfl
 obtain ⟨x,h1, -, -⟩:=oneF_type [] E d
 have hx:x=(putE E gm0).x:=by
  rw [hg] at h1
  have h2:=congrArg List.getLast? h1
  simp only [GM.addT,List.getLast?_append,List.getLast?_singleton,Option.some_or,Option.some.injEq,TM.mk.injEq,Int.natCast_inj] at h2
  exact h2.2.2.2.2.2.1.symm
 refine ⟨x,h1, ?_, ?_⟩
 ·rw [hg,hx];exact (putE_at E gm0).2
 ·rw [hg];exact (nodes_xs E gm0).trans (Nat.zero_add _)
theorem one_short (E:EA) (v:VE E) (hn:nodes E≤40):(prF [] [⟨[83], [], [.field [97] (.idx 1 E) ⟨0, [], []⟩ none]⟩]).length≤16384:=by
 have:=pr_len E v
 have e:kBytes.length=5:=rfl
 have e0:kStruct.length=6:=rfl
 simp only [prF,List.flatMap_cons,List.flatMap_nil,List.append_nil,List.nil_append,prS,prL,prI,prT,prIdx,idxWord,prDer,prWh,if_true,List.length_append,List.length_cons,List.length_nil]
 omega
end Go.Proofs.YtomimkgaelkaoaaGreatDoor
