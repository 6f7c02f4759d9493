/- Layer 8, the mathematics: what the text of a tree is read as: its tokens. No program. -/
import Derived.Test.YtomimkgaelkaoaaGreatDoorC13ShT
set_option linter.unusedVariables false
set_option linter.unusedSimpArgs false
namespace Go.Proofs.YtomimkgaelkaoaaGreatDoor
def Lx (txt:List UInt8) (ts:List Tk) (C:List UInt8→Prop):Prop:=
 ∀rest,C rest→∀Vs,(∀p,∃us,lexG false p rest= .ok us∧us.map (·.tk)=Vs)→∀p,∃us,lexG false p (txt++rest)= .ok us∧us.map (·.tk)=ts++Vs
def AnyR (_:List UInt8):Prop:=True
def NW (rest:List UInt8):Prop:=isW (rest.headD 0)=false
def NE (rest:List UInt8):Prop:=rest.headD 0≠61
theorem Lx.app {a b:List UInt8} {ts us:List Tk} {A B:List UInt8→Prop} (h:Lx a ts A) (k:Lx b us B) (hab: ∀rest,B rest→A (b++rest)):Lx (a++b) (ts++us) B:=fun rest hB Vs hV p=>by
 rw [List.append_assoc,List.append_assoc]
 exact h (b++rest) (hab rest hB) (us++Vs) (k rest hB Vs hV) p
theorem Lx.nil (C:List UInt8→Prop):Lx [] [] C:=fun rest _ Vs hV p=>hV p
theorem Lx.weak {a:List UInt8} {ts:List Tk} {A B:List UInt8→Prop} (h:Lx a ts A) (hBA: ∀r,B r→A r):Lx a ts B:=fun rest hB=>h rest (hBA rest hB)
theorem lx_blank (c:UInt8) (h:isB c=true):Lx [c] [] AnyR:=fun rest _ Vs hV p=>by
 show ∃us,lexG false p (c::rest)=_∧_
 rw [lexG_blank h]
 exact hV _
theorem lx_tok {g:List UInt8} {V:Tk} {C:List UInt8→Prop} (hg:V.t=g) (hk:V.k≠3) (h: ∀rest,C rest→firstL (g++rest)=(V,0)∧Bare (g++rest)):Lx g [V] C:=fun rest hC Vs hV p=>by
 obtain ⟨h1,h2⟩:=h rest hC
 rw [lexG_token h2,h1,if_neg (by simp),if_neg hk]
 show ∃us,(lexG false (posL p V.t) ((g++rest).drop V.t.length)).cons ⟨V,p⟩=_∧_
 rw [hg,List.drop_left]
 obtain ⟨us,e1,e2⟩:=hV (posL p g)
 rw [e1]
 exact ⟨_,rfl,by rw [List.map_cons,e2];rfl⟩
def sg (g:List UInt8):Tk:=⟨2,g,0⟩
def wd (s:List UInt8):Tk:=⟨0,s,0⟩
def nmT (n:Nat):Tk:=⟨1,decL n,n⟩
theorem run_nw {R rest:List UInt8} (hR: ∀x∈R,isW x=true) (h:NW rest):runL (R++rest)=R:=by
 unfold runL
 rw [List.takeWhile_append_of_pos hR]
 cases rest with
 |nil=>simp
 |cons c r=>rw [List.takeWhile_cons,if_neg (by rw [show isW c=false from h];decide),List.append_nil]
theorem isW_plain {c:UInt8} (h:isW c=true):isB c=false∧c≠47:=by
 constructor
 ·cases hb:isB c
  ·rfl
  ·exfalso
   simp only [isB,List.contains_iff_mem,List.mem_cons,List.mem_nil_iff,or_false] at hb
   rcases hb with rfl|rfl|rfl|rfl<;>exact absurd h (by decide)
 ·rintro rfl;exact absurd h (by decide)
theorem lx_run {R:List UInt8} {V:Tk} (h1:R≠ []) (h2: ∀x∈R,isW x=true) (h3:wnL R=(V,0)) (ht:V.t=R) (hk:V.k≠3):Lx R [V] NW:=lx_tok ht hk fun rest hr=>by
 constructor
 ·have hne:R++rest≠ []:=by simp [h1]
  unfold firstL
  rw [if_neg hne,run_nw h2 hr,if_pos h1,h3]
 ·cases R with
  |nil=>exact absurd rfl h1
  |cons c r=>
   have:=isW_plain (h2 c List.mem_cons_self)
   exact bare_cons this.1 fun e=>this.2 e.1
theorem lx_sign {g:List UInt8} {C:List UInt8→Prop} (h1:g≠ []) (h: ∀rest,C rest→signL (g++rest)=g∧runL (g++rest)= []∧Bare (g++rest)):Lx g [sg g] C:=lx_tok rfl (by decide:(2:Nat)≠3) fun rest hr=>by
 obtain ⟨e1,e2,e3⟩:=h rest hr
 refine ⟨?_,e3⟩
 unfold firstL
 rw [if_neg (by simp [h1]),e2,if_neg (fun e=>e rfl),e1,if_neg h1]
 rfl
theorem lx_one (c:UInt8) (h:c=40∨c=41∨c=91∨c=93∨c=123∨c=125∨c=58∨c=59∨c=44):Lx [c] [sg [c]] AnyR:=lx_sign (by simp) fun rest _=>by
 rcases h with rfl|rfl|rfl|rfl|rfl|rfl|rfl|rfl|rfl<;>exact ⟨rfl,rfl,rfl⟩
theorem lx_dots:Lx [46,46] [sg [46,46]] AnyR:=lx_sign (by simp) fun rest _=>⟨rfl,rfl,rfl⟩
theorem lx_excl:Lx [33] [sg [33]] NE:=lx_sign (by simp) fun rest h=>by
 cases rest with
 |nil=>exact ⟨rfl,rfl,rfl⟩
 |cons c r=>
  have hc:c≠61:=h
  refine ⟨?_,rfl,rfl⟩
  have e:([33,61]:List UInt8).isPrefixOf (33::c::r)=false:=by
   simp only [List.isPrefixOf,BEq.rfl,Bool.true_and,Bool.and_true]
   rw [beq_eq_false_iff_ne];exact fun e=>hc e.symm
  show signF sgs (33::c::r)= [33]
  unfold sgs
  rw [signF,if_neg (show ¬(([46,46]:List UInt8).isPrefixOf (33::c::r))=true from Bool.false_ne_true),signF,if_neg (show ¬(([61,61]:List UInt8).isPrefixOf (33::c::r))=true from Bool.false_ne_true),signF,if_neg (by rw [e];decide)]
  rfl
theorem lx_op (g:List UInt8) (hg:g∈sgs):Lx (g++ [32]) [sg g] AnyR:=by
 have h:Lx g [sg g] fun rest=> ∃r,rest=32::r:=lx_sign (fun e=>absurd hg (by rw [e];decide)) fun rest h=>by
  obtain ⟨r,rfl⟩:=h
  simp only [sgs,List.mem_cons,List.mem_nil_iff,or_false] at hg
  rcases hg with rfl|rfl|rfl|rfl|rfl|rfl|rfl|rfl|rfl|rfl|rfl|rfl|rfl|rfl|rfl|rfl|rfl|rfl|rfl|rfl|rfl|rfl|rfl|rfl|rfl|rfl|rfl|rfl|rfl<;>exact ⟨rfl,rfl,rfl⟩
 exact h.app (lx_blank 32 (by decide)) fun rest _=>⟨rest,rfl⟩
theorem valA_app8 (b:Nat): ∀(l r:List UInt8) (n:Nat),valA b n (l++r)=valA b (valA b n l) r
 | [],_,_=>rfl
 |c::l,r,n=>by rw [List.cons_append,valA,valA,valA_app8 b l r]
theorem digit_facts: ∀k<10,isD (UInt8.ofNat (48+k))=true∧isW (UInt8.ofNat (48+k))=true∧dv (UInt8.ofNat (48+k))=k∧UInt8.ofNat (48+k)≠120:=by decide
theorem decD_facts: ∀(f n:Nat),n<10 ^ (f+1)→decD (f+1) n≠ []∧(∀c∈decD (f+1) n,isD c=true∧isW c=true∧c≠120)∧valA 10 0 (decD (f+1) n)=n
 |0,n,h=>by
  have hn:n<10:=by omega
  obtain ⟨h1,h2,h3,h4⟩:=digit_facts n hn
  rw [decD,if_pos hn]
  refine ⟨by simp,fun c hc=> ?_, ?_⟩
  ·rw [List.mem_singleton.1 hc];exact ⟨h1,h2,h4⟩
  ·show 0*10+dv _=n
   rw [h3];omega
 |f+1,n,h=>by
  by_cases hn:n<10
  ·obtain ⟨h1,h2,h3,h4⟩:=digit_facts n hn
   rw [decD,if_pos hn]
   refine ⟨by simp,fun c hc=> ?_, ?_⟩
   ·rw [List.mem_singleton.1 hc];exact ⟨h1,h2,h4⟩
   ·show 0*10+dv _=n
    rw [h3];omega
  ·obtain ⟨h1,h2,h3,h4⟩:=digit_facts (n % 10) (Nat.mod_lt _ (by omega))
   have hd:n / 10<10 ^ (f+1):=by
    rw [Nat.pow_succ] at h
    omega
   obtain ⟨i1,i2,i3⟩:=decD_facts f (n / 10) hd
   rw [decD,if_neg hn]
   refine ⟨by simp,fun c hc=> ?_, ?_⟩
   ·rcases List.mem_append.1 hc with hc|hc
    ·exact i2 c hc
    ·rw [List.mem_singleton.1 hc];exact ⟨h1,h2,h4⟩
   ·rw [valA_app8,i3]
    show n / 10*10+dv _=n
    rw [h3];omega
theorem decL_facts {n:Nat} (h:n<18446744073709551616):decL n≠ []∧(∀c∈decL n,isD c=true∧isW c=true∧c≠120)∧valA 10 0 (decL n)=n:=decD_facts 19 n (by omega)
theorem decL_wn {n:Nat} (h:n<18446744073709551616):wnL (decL n)=(nmT n,0):=by
 obtain ⟨h1,h2,h3⟩:=decL_facts h
 have hp:([48,120]:List UInt8).isPrefixOf (decL n)=false:=by
  cases hp:([48,120]:List UInt8).isPrefixOf (decL n)
  ·rfl
  ·exfalso
   obtain ⟨t,e⟩:=prefix_of_isPrefixOf hp
   have:=(h2 120 (by rw [←e];simp)).2.2
   exact this rfl
 have hh:isD ((decL n).headD 0)=true:=by
  cases hl:decL n with
  |nil=>exact absurd hl h1
  |cons c r=>exact (h2 c (by rw [hl];simp)).1
 have ha:(decL n).all isD=true:=List.all_eq_true.2 fun c hc=>(h2 c hc).1
 have hn:numberL (decL n)=(n,0):=by
  unfold numberL numB
  rw [if_neg (by rw [hp];decide),if_neg (by simp [h1,ha]),h3,if_neg (by omega)]
 unfold wnL
 rw [if_pos hh,hn,if_pos rfl]
 rfl
theorem lx_num {n:Nat} (h:n<18446744073709551616):Lx (decL n) [nmT n] NW:=
 lx_run (decL_facts h).1 (fun c hc=>((decL_facts h).2.1 c hc).2.1) (decL_wn h) rfl (by decide:(1:Nat)≠3)
structure NameOK (s:List UInt8):Prop where
 ne:s≠ []
 w: ∀x∈s,isW x=true
 d:isD (s.headD 0)=false
 len:s.length≤32
theorem lx_name {s:List UInt8} (h:NameOK s):Lx s [wd s] NW:=lx_run h.ne h.w (by
 unfold wnL
 rw [if_neg (by rw [h.d];decide),if_neg (by have:=h.len;omega)]
 rfl) rfl (by decide:(0:Nat)≠3)
def nameB (s:List UInt8):Bool:=decide (s≠ []) && s.all isW && !isD (s.headD 0) && decide (s.length≤32)
theorem nameB_ok {s:List UInt8} (h:nameB s=true):NameOK s:=by
 unfold nameB at h
 simp only [Bool.and_eq_true,decide_eq_true_eq,Bool.not_eq_true'] at h
 exact ⟨h.1.1.1,List.all_eq_true.1 h.1.1.2,h.1.2,h.2⟩
theorem lx_kw {s:List UInt8} (h:nameB s=true):Lx s [wd s] NW:=lx_name (nameB_ok h)
theorem lx_kwb {s:List UInt8} (h:nameB s=true):Lx (s++ [32]) [wd s] AnyR:=by
 have:=(lx_kw h).app (lx_blank 32 (by decide)) fun rest _=>(rfl:isW 32=false)
 exact this
def VE:EA→Prop
 | .num n=>n<18446744073709551616
 | .name s=>NameOK s∧isKw s=false
 | .not a=>VE a
 | .bin op a b=>1≤levelL op∧VE a∧VE b
def ktPar (b:Bool) (ts:List Tk):List Tk:=if b=true then sg [40]::(ts++ [sg [41]]) else ts
def ktE:EA→List Tk
 | .num n=> [nmT n]
 | .name s=> [wd s]
 | .not a=>sg [33]::ktPar (low 9 a) (ktE a)
 | .bin op a b=>ktPar (low (levelL op) a) (ktE a)++(sg op::ktPar (low (levelL op+1) b) (ktE b))
theorem op_sign {op:List UInt8} (h:1≤levelL op):op∈sgs∧op≠ []:=by
 unfold levelL at h
 cases hf:opsL.find? (fun x=>x.1==op) with
 |none=>rw [hf] at h;simp at h
 |some x=>
  have h1:=List.find?_some hf
  have h2:=List.mem_of_find?_eq_some hf
  have e:x.1=op:=by simpa using h1
  have key: ∀x∈opsL,x.1∈sgs∧x.1≠ []:=by decide
  rw [←e]
  exact key x h2
def HdE (s:List UInt8):Prop:= ∃c r,s=c::r∧c≠61
theorem HdE.app {s:List UInt8} (h:HdE s) (t:List UInt8):HdE (s++t):=by
 obtain ⟨c,r,rfl,hc⟩:=h
 exact ⟨c,r++t,rfl,hc⟩
theorem HdE.paren {s:List UInt8} (h:HdE s) (b:Bool):HdE (paren b s):=by
 unfold Go.Proofs.YtomimkgaelkaoaaGreatDoor.paren
 split
 ·exact ⟨40,s++ [41],rfl,by decide⟩
 ·exact h
theorem HdE.ne {s:List UInt8} (h:HdE s) (rest:List UInt8):NE (s++rest):=by
 obtain ⟨c,r,rfl,hc⟩:=h
 exact hc
theorem lx_paren {s:List UInt8} {ts:List Tk} (h:Lx s ts NW) (b:Bool):Lx (paren b s) (ktPar b ts) NW:=by
 unfold paren ktPar
 split
 ·have:=(((lx_one 40 (by simp)).app h fun _ _=>trivial).app (lx_one 41 (by simp)) fun rest _=>(rfl:isW 41=false)).weak (B:=NW) fun _ _=>trivial
  exact this
 ·exact h
theorem lxE: ∀e:EA,VE e→Lx (prE e) (ktE e) NW∧HdE (prE e)
 | .num n,v=>by
  refine ⟨lx_num v, ?_⟩
  obtain ⟨h1,h2, -⟩:=decL_facts v
  cases hl:decL n with
  |nil=>exact absurd hl h1
  |cons c r=>
   refine ⟨c,r,hl, ?_⟩
   rintro rfl
   exact absurd (h2 61 (by rw [hl];simp)).1 (by decide)
 | .name s,v=>by
  refine ⟨lx_name v.1, ?_⟩
  cases hs:s with
  |nil=>exact absurd hs v.1.ne
  |cons c r=>
   refine ⟨c,r,rfl, ?_⟩
   rintro rfl
   exact absurd (v.1.w 61 (by rw [hs];simp)) (by decide)
 | .not a,v=>by
  obtain ⟨h1,h2⟩:=lxE a v
  exact ⟨lx_excl.app (lx_paren h1 _) fun rest _=>(h2.paren _).ne rest,⟨33,_,rfl,by decide⟩⟩
 | .bin op a b,v=>by
  obtain ⟨h1,h2⟩:=lxE a v.2.1
  obtain ⟨h3,h4⟩:=lxE b v.2.2
  obtain ⟨o1,o2⟩:=op_sign v.1
  refine ⟨?_,(h2.paren _).app _⟩
  have hb:Lx ([32]++(op++ [32])) [sg op] AnyR:=(lx_blank 32 (by decide)).app (lx_op op o1) fun _ _=>trivial
  have:=(lx_paren h1 (low (levelL op) a)).app (hb.app (lx_paren h3 (low (levelL op+1) b)) fun _ _=>trivial) fun rest _=>(rfl:isW 32=false)
  have e:prE (.bin op a b)=paren (low (levelL op) a) (prE a)++([32]++(op++ [32])++paren (low (levelL op+1) b) (prE b)):=by
   simp only [prE,List.append_assoc]
  rw [e]
  exact this
theorem int_wd8: ∀q∈intsL.map (·.2),nameB (wordN q.1 q.2)=true∧intW (wordN q.1 q.2)=some q∧tyW.contains (wordN q.1 q.2)=false∧kwL.contains (wordN q.1 q.2)=false:=by decide
def VT:TA→Prop
 | .int z li=>(z,li)∈intsL.map (·.2)
 | .ref s es=>NameOK s∧isKw s=false∧∀e∈es,VE e
 | .idx k e=>VE e
 | .win k e t=>VE e∧VT t
 | .rest t=>VT t
 | .leaf _=>True
 | .arr t e=>VT t∧VE e
 | .sw e cs els=>VE e∧VT cs∧VT els
 | .nil=>True
 | .snoc cs n t=>VT cs∧n<18446744073709551616∧VT t
def ktL {α:Type} (g:α→List Tk):List α→List Tk
 | []=> []
 |x::r=>sg [40]::(g x++((r.flatMap fun y=>sg [44]::g y)++ [sg [41]]))
def ktIdx (w:Tk) (e:EA):List Tk:=w::sg [91]::(ktE e++ [sg [93]])
def ktT:TA→List Tk
 | .int z li=> [wd (wordN z li)]
 | .ref s es=>wd s::ktL ktE es
 | .idx k e=>ktIdx (wd (idxWord k)) e
 | .win k e t=>ktIdx (wd (idxWord k)) e++ktT t
 | .rest t=>wd kRest::ktT t
 | .leaf k=> [wd (if k=4 then kTail else kNone)]
 | .arr t e=>ktT t++(sg [91]::(ktE e++ [sg [93]]))
 | .sw e cs els=>wd kSwitch::sg [40]::(ktE e++(sg [41]::sg [123]::(ktT cs++((if els.isNil=true then [] else wd kElse::sg [58]::(ktT els++ [sg [59]]))++ [sg [125]]))))
 | .nil=> []
 | .snoc cs n t=>ktT cs++(wd kCase::nmT n::sg [58]::(ktT t++ [sg [59]]))
theorem lx_more {α:Type} {f:α→List UInt8} {g:α→List Tk}: ∀(l:List α),(∀x∈l,Lx (f x) (g x) NW)→∀rest,NW rest→NW ((l.flatMap fun y=> [44,32]++f y)++rest)
 | [],_,rest,h=>h
 |_::_,_,_,_=>(rfl:isW 44=false)
theorem lx_commas {α:Type} {f:α→List UInt8} {g:α→List Tk}: ∀(l:List α),(∀x∈l,Lx (f x) (g x) NW)→Lx (l.flatMap fun y=> [44,32]++f y) (l.flatMap fun y=>sg [44]::g y) NW
 | [],_=> .nil _
 |x::l,h=>by
  have h1:=((lx_one 44 (by simp)).app (lx_blank 32 (by decide)) fun _ _=>trivial).app (h x (by simp)) fun _ _=>trivial
  have h2:=lx_commas l fun y hy=>h y (by simp [hy])
  have:=h1.app h2 (lx_more l fun y hy=>h y (by simp [hy]))
  simpa using this
theorem lx_list {α:Type} {f:α→List UInt8} {g:α→List Tk} (l:List α) (h: ∀x∈l,Lx (f x) (g x) NW):Lx (prL f l) (ktL g l) NW:=by
 cases l with
 |nil=>exact .nil _
 |cons x r=>
  have h1:=lx_commas r fun y hy=>h y (by simp [hy])
  have h2:=(lx_one 40 (by simp)).app ((h x (by simp)).app (h1.app (lx_one 41 (by simp)) fun rest _=>(rfl:isW 41=false)) fun rest _=>by
   rw [List.append_assoc]
   exact lx_more r (fun y hy=>h y (by simp [hy])) _ (rfl:isW 41=false)) fun _ _=>trivial
  have:=h2.weak (B:=NW) fun _ _=>trivial
  unfold prL ktL
  simpa using this
theorem lx_br {e:EA} (v:VE e):Lx ([91]++(prE e++ [93])) (sg [91]::(ktE e++ [sg [93]])) AnyR:=(lx_one 91 (by simp)).app (((lxE e v).1).app (lx_one 93 (by simp)) fun rest _=>(rfl:isW 93=false)) fun _ _=>trivial
theorem lx_idx {w:List UInt8} {e:EA} (hw:nameB w=true) (v:VE e):Lx (prIdx w e) (ktIdx (wd w) e) AnyR:=(lx_kw hw).app (lx_br v) fun rest _=>(rfl:isW 91=false)
theorem lx_colon:Lx [58,32] [sg [58]] AnyR:=(lx_one 58 (by simp)).app (lx_blank 32 (by decide)) fun _ _=>trivial
theorem idxWord_ok (k:Nat):nameB (idxWord k)=true:=by
 unfold idxWord
 split
 ·decide
 ·split
  ·decide
  ·split
   ·decide
   ·split<;>decide
theorem lx_branch {s:List UInt8} {ts:List Tk} (h:Lx s ts NW):Lx ([58,32]++(s++ [59])) (sg [58]::(ts++ [sg [59]])) AnyR:=lx_colon.app (h.app (lx_one 59 (by simp)) fun rest _=>(rfl:isW 59=false)) fun _ _=>trivial
theorem lxT: ∀t:TA,VT t→(OkT t false→Lx (prT t) (ktT t) NW)∧(OkT t true→Lx (prT t) (ktT t) AnyR)
 | .int z li,v=>⟨fun _=>lx_kw (int_wd8 _ v).1,fun o=>by cases o⟩
 | .ref s es,v=>⟨fun _=>by
   have:=(lx_name v.1).app (lx_list es fun e he=>(lxE e (v.2.2 e he)).1) fun rest hr=>by
    cases es with
    |nil=>exact hr
    |cons _ _=>exact (rfl:isW 40=false)
   exact this,fun o=>by cases o⟩
 | .idx k e,v=>⟨fun _=>(lx_idx (idxWord_ok k) v).weak fun _ _=>trivial,fun o=>by cases o.1⟩
 | .win k e t,v=>⟨fun o=>by
   have:=(lx_idx (idxWord_ok k) v.1).app ((lx_blank 32 (by decide)).app ((lxT t v.2).1 o.2.2) fun _ _=>trivial) fun _ _=>trivial
   exact this,fun o=>by cases o.1⟩
 | .rest t,v=>⟨fun o=>by
   have:=(lx_kwb (s:=kRest) (by decide)).app ((lxT t v).1 o.2) fun _ _=>trivial
   exact this,fun o=>by cases o.1⟩
 | .leaf k,v=>⟨fun o=>by
   unfold prT ktT
   split<;>exact lx_kw (by decide),fun o=>by cases o.1⟩
 | .arr t e,v=>⟨fun o=>by
   have:=(((lxT t v.1).1 o.2).app (lx_br v.2) fun rest _=>(rfl:isW 91=false)).weak (B:=NW) fun _ _=>trivial
   exact this,fun o=>by cases o.1⟩
 | .sw e cs els,v=>⟨fun o=>by
   have h1:Lx dSwitch [wd kSwitch,sg [40]] AnyR:=(lx_kwb (s:=kSwitch) (by decide)).app (lx_one 40 (by simp)) fun _ _=>trivial
   have h2:Lx [41,32,123] [sg [41],sg [123]] AnyR:=((lx_one 41 (by simp)).app (lx_blank 32 (by decide)) fun _ _=>trivial).app (lx_one 123 (by simp)) fun _ _=>trivial
   have h3:=(lxT cs v.2.1).2 o.2.1
   have h4:Lx (if els.isNil=true then [] else dElse++(prT els++ [59])) (if els.isNil=true then [] else wd kElse::sg [58]::(ktT els++ [sg [59]])) AnyR:=by
    by_cases hn:els.isNil=true
    ·rw [if_pos hn,if_pos hn];exact .nil _
    ·rw [if_neg hn,if_neg hn]
     have h5:=((lx_blank 32 (by decide)).app (lx_kw (s:=kElse) (by decide)) fun _ _=>trivial).app (lx_branch ((lxT els v.2.2).1 (o.2.2 (by simpa using hn)))) fun rest _=>(rfl:isW 58=false)
     exact h5
   have h6:Lx [32,125] [sg [125]] AnyR:=(lx_blank 32 (by decide)).app (lx_one 125 (by simp)) fun _ _=>trivial
   have:=h1.app ((lxE e v.1).1.app (h2.app (h3.app (h4.app h6 fun _ _=>trivial) fun _ _=>trivial) fun _ _=>trivial) fun rest _=>(rfl:isW 41=false)) fun _ _=>trivial
   exact this.weak fun _ _=>trivial,fun o=>by cases o.1⟩
 | .nil,v=>⟨fun o=>(by cases o),fun _=> .nil _⟩
 | .snoc cs n t,v=>⟨fun o=>(by cases o.1),fun o=>by
   have h1:Lx dCase [wd kCase] AnyR:=((lx_blank 32 (by decide)).app (lx_kw (s:=kCase) (by decide)) fun _ _=>trivial).app (lx_blank 32 (by decide)) fun rest _=>(rfl:isW 32=false)
   have:=((lxT cs v.1).2 o.2.1).app (h1.app ((lx_num v.2.1).app (lx_branch ((lxT t v.2.2).1 o.2.2)) fun rest _=>(rfl:isW 58=false)) fun _ _=>trivial) fun _ _=>trivial
   exact this⟩
def DerOK (d:DA):Prop:=d.k≤4∧(d.k≠0→NameOK d.a∧isKw d.a=false)∧(3≤d.k→NameOK d.b∧isKw d.b=false)∧(d.k=0→d.a= [])∧(d.k≤2→d.b= [])
def VI:IA→Prop
 | .field s t d wh=>NameOK s∧isKw s=false∧VT t∧DerOK d∧∀e,wh=some e→VE e
 | .pack z li subs=>(z,li)∈intsL.map (·.2)∧∀x∈subs,NameOK x.1∧isKw x.1=false∧x.2≤1048576
def VS (s:SA):Prop:=NameOK s.s∧isKw s.s=false∧(∀p∈s.ps,NameOK p∧isKw p=false)∧∀x∈s.is,VI x
def VC (c:List UInt8×Nat):Prop:=NameOK c.1∧isKw c.1=false∧c.2<18446744073709551616
def kDer (k:Nat):List UInt8:=if k=1 then kSizeof else if k=2 then kCountof else if k=3 then kCrc32 else kAdler32
def ktDer (d:DA):List Tk:=if d.k=0 then [] else sg [61]::wd (kDer d.k)::sg [40]::wd d.a::if d.k≤2 then [sg [41]] else [sg [46,46],wd d.b,sg [41]]
def ktWh:Option EA→List Tk
 |none=> []
 |some e=>wd kWhere::ktE e
def ktSub (s:List UInt8×Nat):List Tk:= [wd s.1,sg [58],nmT s.2,sg [59]]
def ktI:IA→List Tk
 | .field s t d wh=>wd s::sg [58]::(ktT t++(ktDer d++(ktWh wh++ [sg [59]])))
 | .pack z li subs=>wd kPack::wd (wordN z li)::sg [123]::(subs.flatMap ktSub++ [sg [125]])
def ktS (s:SA):List Tk:=wd kStruct::wd s.s::(ktL (fun p=> [wd p]) s.ps++(sg [123]::(s.is.flatMap ktI++ [sg [125]])))
def ktC (c:List UInt8×Nat):List Tk:= [wd kConst,wd c.1,sg [61],nmT c.2,sg [59]]
theorem lx_flat {α:Type} {f:α→List UInt8} {g:α→List Tk}: ∀(l:List α),(∀x∈l,Lx (f x) (g x) AnyR)→Lx (l.flatMap f) (l.flatMap g) AnyR
 | [],_=> .nil _
 |x::l,h=>(h x (by simp)).app (lx_flat l fun y hy=>h y (by simp [hy])) fun _ _=>trivial
theorem lx_eq:Lx [32,61,32] [sg [61]] AnyR:=(lx_blank 32 (by decide)).app (lx_op [61] (by decide)) fun _ _=>trivial
theorem lx_derw (k:Nat) (h:k≤4) (h0:k≠0):Lx (dDer k) [sg [61],wd (kDer k),sg [40]] AnyR:=by
 have key: ∀w,nameB w=true→Lx ([32,61,32]++(w++ [40])) [sg [61],wd w,sg [40]] AnyR:=fun w hw=>lx_eq.app ((lx_kw hw).app (lx_one 40 (by simp)) fun rest _=>(rfl:isW 40=false)) fun _ _=>trivial
 have hk:k=1∨k=2∨k=3∨k=4:=by omega
 rcases hk with rfl|rfl|rfl|rfl
 ·exact key kSizeof (by decide)
 ·exact key kCountof (by decide)
 ·exact key kCrc32 (by decide)
 ·exact key kAdler32 (by decide)
theorem lx_der {d:DA} (h:DerOK d):Lx (prDer d) (ktDer d) AnyR:=by
 unfold prDer ktDer
 by_cases h0:d.k=0
 ·rw [if_pos h0,if_pos h0];exact .nil _
 ·rw [if_neg h0,if_neg h0]
  have h1:=lx_derw d.k h.1 h0
  have h2:=lx_name (h.2.1 h0).1
  by_cases hk:d.k≤2
  ·rw [if_pos hk,if_pos hk]
   exact h1.app (h2.app (lx_one 41 (by simp)) fun rest _=>(rfl:isW 41=false)) fun _ _=>trivial
  ·rw [if_neg hk,if_neg hk]
   have h3:=lx_name (h.2.2.1 (by omega)).1
   exact h1.app (h2.app (lx_dots.app (h3.app (lx_one 41 (by simp)) fun rest _=>(rfl:isW 41=false)) fun _ _=>trivial) fun rest _=>(rfl:isW 46=false)) fun _ _=>trivial
theorem lx_where {wh:Option EA} (h: ∀e,wh=some e→VE e):Lx (prWh wh) (ktWh wh) NW:=by
 cases wh with
 |none=>exact .nil _
 |some e=>exact (((lx_blank 32 (by decide)).app (lx_kwb (s:=kWhere) (by decide)) fun _ _=>trivial).app (lxE e (h e rfl)).1 fun _ _=>trivial)
theorem nw_der (d:DA) (h:d.k≤4) (rest:List UInt8) (hr:NW rest):NW (prDer d++rest):=by
 unfold prDer
 by_cases h0:d.k=0
 ·rw [if_pos h0];exact hr
 ·rw [if_neg h0]
  have hk:d.k=1∨d.k=2∨d.k=3∨d.k=4:=by omega
  rcases hk with e|e|e|e<;>(rw [e];exact (rfl:isW 32=false))
theorem nw_where (wh:Option EA) (rest:List UInt8) (hr:NW rest):NW (prWh wh++rest):=by
 cases wh with
 |none=>exact hr
 |some e=>exact (rfl:isW 32=false)
theorem lxI {x:IA} (v:VI x) (o:OkI x):Lx (prI x) (ktI x) AnyR:=by
 cases x with
 |field s t d wh=>
  obtain ⟨h1, -,h2,h3,h4⟩:=v
  have hW:=(lx_where h4).app (lx_one 59 (by simp)) fun rest _=>(rfl:isW 59=false)
  have hD:=(lx_der h3).app hW fun _ _=>trivial
  have hT:=((lxT t h2).1 o.1).app hD fun rest _=>by
   rw [List.append_assoc]
   refine nw_der d h3.1 _ ?_
   rw [List.append_assoc]
   exact nw_where wh _ (rfl:isW 59=false)
  exact (lx_name h1).app (lx_colon.app hT fun _ _=>trivial) fun rest _=>(rfl:isW 58=false)
 |pack z li subs=>
  obtain ⟨h1,h2⟩:=v
  have hs: ∀x∈subs,Lx (prSub x) (ktSub x) AnyR:=fun x hx=>by
   obtain ⟨k1, -,k2⟩:=h2 x hx
   exact (lx_blank 32 (by decide)).app ((lx_name k1).app (lx_colon.app ((lx_num (show x.2<18446744073709551616 by omega)).app (lx_one 59 (by simp)) fun rest _=>(rfl:isW 59=false)) fun _ _=>trivial) fun rest _=>(rfl:isW 58=false)) fun _ _=>trivial
  have h6:Lx [32,125] [sg [125]] AnyR:=(lx_blank 32 (by decide)).app (lx_one 125 (by simp)) fun _ _=>trivial
  have h7:Lx [32,123] [sg [123]] AnyR:=(lx_blank 32 (by decide)).app (lx_one 123 (by simp)) fun _ _=>trivial
  exact (lx_kwb (s:=kPack) (by decide)).app ((lx_kw (int_wd8 _ h1).1).app (h7.app ((lx_flat subs hs).app h6 fun _ _=>trivial) fun _ _=>trivial) fun rest _=>(rfl:isW 32=false)) fun _ _=>trivial
theorem lxS {s:SA} (v:VS s) (o:OkS s):Lx (prS s) (ktS s) AnyR:=by
 obtain ⟨h1, -,h2,h3⟩:=v
 have hi: ∀x∈s.is,Lx ([32,32]++(prI x++ [10])) (ktI x) AnyR:=fun x hx=>by
  have:=((lx_blank 32 (by decide)).app (lx_blank 32 (by decide)) fun _ _=>trivial).app ((lxI (h3 x hx) (o x hx)).app (lx_blank 10 (by decide)) fun _ _=>trivial) fun _ _=>trivial
  simpa using this
 have h5:Lx [125,10] [sg [125]] AnyR:=(lx_one 125 (by simp)).app (lx_blank 10 (by decide)) fun _ _=>trivial
 have h6:Lx [32,123,10] [sg [123]] AnyR:=((lx_blank 32 (by decide)).app (lx_one 123 (by simp)) fun _ _=>trivial).app (lx_blank 10 (by decide)) fun _ _=>trivial
 have hp:=lx_list s.ps fun p hp=>lx_name (h2 p hp).1
 exact (lx_kwb (s:=kStruct) (by decide)).app ((lx_name h1).app (hp.app (h6.app ((lx_flat s.is hi).app h5 fun _ _=>trivial) fun _ _=>trivial) fun rest _=>(rfl:isW 32=false)) fun rest _=>by
  cases s.ps with
  |nil=>exact (rfl:isW 32=false)
  |cons _ _=>exact (rfl:isW 40=false)) fun _ _=>trivial
theorem lxC {c:List UInt8×Nat} (v:VC c):Lx (prC c) (ktC c) AnyR:=by
 have h5:Lx [59,10] [sg [59]] AnyR:=(lx_one 59 (by simp)).app (lx_blank 10 (by decide)) fun _ _=>trivial
 exact (lx_kwb (s:=kConst) (by decide)).app ((lx_name v.1).app (lx_eq.app ((lx_num v.2.2).app h5 fun rest _=>(rfl:isW 59=false)) fun _ _=>trivial) fun rest _=>(rfl:isW 32=false)) fun _ _=>trivial
theorem lxF {cs:List (List UInt8×Nat)} {ss:List SA} (vc: ∀c∈cs,VC c) (vs: ∀s∈ss,VS s) (o: ∀s∈ss,OkS s) (p:Ps): ∃us,lexG false p (prF cs ss)= .ok us∧us.map (·.tk)=cs.flatMap ktC++ss.flatMap ktS++ [tkEnd]:=by
 have h:=(lx_flat cs fun c hc=>lxC (vc c hc)).app (lx_flat ss fun s hs=>lxS (vs s hs) (o s hs)) fun _ _=>trivial
 have:=h [] trivial [tkEnd] (fun p=>⟨[⟨tkEnd,p⟩],lexG_nil _ _,rfl⟩) p
 rw [List.append_nil] at this
 exact this
end Go.Proofs.YtomimkgaelkaoaaGreatDoor
