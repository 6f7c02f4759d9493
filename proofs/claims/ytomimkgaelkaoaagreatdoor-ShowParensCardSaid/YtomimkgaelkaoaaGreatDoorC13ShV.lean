/- Layer 8, the mathematics: items, structs and the File: what is parsed is a tree that can be shown, and its text is parsed to it. No program. · Layer 8: what the lexer gives is as the round trip asks; the File that is parsed from the text of a parsed File. -/
import Derived.Test.YtomimkgaelkaoaaGreatDoorC13ShQ
import Derived.Test.YtomimkgaelkaoaaGreatDoorC13ParTok
import Derived.Test.YtomimkgaelkaoaaGreatDoorC13ParLv
set_option linter.unusedVariables false
set_option linter.unusedSimpArgs false
namespace Go.Proofs.YtomimkgaelkaoaaGreatDoor
def OkID:IA→Prop
 | .field _ t _ wh=>OkTD t 0∧∀e,wh=some e→OkD e 0
 | .pack _ _ subs=>subs.length≤64
def OkSD (s:SA):Prop:=s.ps.length≤64∧s.is.length≤64∧∀x∈s.is,OkID x
def PI (x:IA):Prop:=VI x∧OkI x∧OkID x
def PS (s:SA):Prop:=VS s∧OkS s∧OkSD s
theorem ok_der {l l':List Tok} {d:DA} (hl:LX l) (h:derP l= .ok d l'):DerOK d∧LX l':=by
 unfold derP at h
 by_cases h0:derK l=0
 ·rw [if_pos h0] at h;cases h
 ·rw [if_neg h0] at h
  have hk:derK l≤4∧LX l.tail:=by
   unfold derK at h0 ⊢
   split
   ·rename_i h1;exact ⟨by omega,hl.t h1 (by decide)⟩
   ·split
    ·rename_i h1;exact ⟨by omega,hl.t h1 (by decide)⟩
    ·split
     ·rename_i h1;exact ⟨by omega,hl.t h1 (by decide)⟩
     ·split
      ·rename_i h1;exact ⟨by omega,hl.t h1 (by decide)⟩
      ·simp_all
  obtain ⟨hk,hl1⟩:=hk
  obtain ⟨u,l1,h1,h⟩:=bind_okE h
  have k1:=need_LX hl1 h1 (by decide)
  obtain ⟨a,l2,h2,h⟩:=bind_okE h
  obtain ⟨h3,rfl,rfl⟩:=name_okE h2
  obtain ⟨a1,a2,a3⟩:=k1.name h3
  by_cases h2:derK l≤2
  ·rw [if_pos h2] at h
   obtain ⟨u,l3,h4,h⟩:=bind_okE h
   cases h
   exact ⟨⟨hk,fun _=>⟨a1,a2⟩,fun h=>absurd (show 3≤derK l from h) (by omega),fun h=>absurd (show derK l=0 from h) h0,fun _=>rfl⟩,need_LX a3 h4 (by decide)⟩
  ·rw [if_neg h2] at h
   obtain ⟨u,l3,h4,h⟩:=bind_okE h
   have k4:=need_LX a3 h4 (by decide)
   obtain ⟨b,l4,h5,h⟩:=bind_okE h
   obtain ⟨h6,rfl,rfl⟩:=name_okE h5
   obtain ⟨b1,b2,b3⟩:=k4.name h6
   obtain ⟨u,l5,h7,h⟩:=bind_okE h
   cases h
   exact ⟨⟨hk,fun _=>⟨a1,a2⟩,fun _=>⟨b1,b2⟩,fun h=>absurd (show derK l=0 from h) h0,fun h=>absurd (show derK l≤2 from h) h2⟩,need_LX b3 h7 (by decide)⟩
theorem ok_field {n:Nat} {l l':List Tok} {x:IA} (hl:LX l) (h:fieldP n l= .ok x l'):PI x∧LX l':=by
 unfold fieldP at h
 obtain ⟨s,l1,h1,h⟩:=bind_okE h
 obtain ⟨h2,rfl,rfl⟩:=name_okE h1
 obtain ⟨a1,a2,a3⟩:=hl.name h2
 obtain ⟨u,l2,h3,h⟩:=bind_okE h
 obtain ⟨t,l3,h4,h⟩:=bind_okE h
 obtain ⟨t1,t2,t3,t4⟩:=(ok_types n).1 _ _ _ _ (need_LX a3 h3 (by decide)) h4
 obtain ⟨d,l4,h5,h⟩:=bind_okE h
 have hd:DerOK d∧LX l4:=by
  unfold optD at h5
  split at h5
  ·rename_i h6
   exact ok_der (t4.t h6 (by decide)) h5
  ·cases h5
   exact ⟨⟨by show 0≤4;omega,fun h=>absurd rfl h,fun h=>absurd (show 3≤0 from h) (by omega),fun _=>rfl,fun _=>rfl⟩,t4⟩
 obtain ⟨d1,d2⟩:=hd
 obtain ⟨wh,l5,h6,h⟩:=bind_okE h
 have hw:(∀e,wh=some e→VE e∧OkD e 0)∧LX l5:=by
  unfold optW at h6
  split at h6
  ·rename_i h7
   obtain ⟨e,l6,h8,h6⟩:=bind_okE h6
   cases h6
   obtain ⟨e1,e2,e3⟩:=(d2.t h7 (by decide)).bin h8
   exact ⟨fun e' he=>(by cases he;exact ⟨e1,e2⟩),e3⟩
  ·cases h6
   exact ⟨fun e' he=>(by cases he),d2⟩
 obtain ⟨w1,w2⟩:=hw
 obtain ⟨u,l6,h7,h⟩:=bind_okE h
 cases h
 exact ⟨⟨⟨a1,a2,t1,d1,fun e he=>(w1 e he).1⟩,⟨t2,d1.1⟩,t3,fun e he=>(w1 e he).2⟩,need_LX w2 h7 (by decide)⟩
def SubOK (x:List UInt8×Nat):Prop:=NameOK x.1∧isKw x.1=false∧x.2≤1048576
theorem ok_sub {l l':List Tok} {x:List UInt8×Nat} (hl:LX l) (h:subP l= .ok x l'):SubOK x∧LX l':=by
 unfold subP at h
 obtain ⟨s,l1,h1,h⟩:=bind_okE h
 obtain ⟨h2,rfl,rfl⟩:=name_okE h1
 obtain ⟨a1,a2,a3⟩:=hl.name h2
 obtain ⟨u,l2,h3,h⟩:=bind_okE h
 have k:=need_LX a3 h3 (by decide)
 obtain ⟨v,l3,h4,h⟩:=bind_okE h
 obtain ⟨h5,rfl,rfl⟩:=num_okE h4
 obtain ⟨u,l4,h6,h⟩:=bind_okE h
 cases h
 exact ⟨⟨a1,a2,Nat.min_le_right _ _⟩,need_LX (k.num h5).2 h6 (by decide)⟩
theorem ok_subs: ∀(n:Nat) (ss:List (List UInt8×Nat)) (l:List Tok) (ss':List (List UInt8×Nat)) (l':List Tok),LX l→(∀x∈ss,SubOK x)→ss.length≤64→ss≠ []→subsL n ss l= .ok ss' l'→(∀x∈ss',SubOK x)∧ss'.length≤64∧ss'≠ []∧LX l'
 |0,ss,l,ss',l',hl,hv,hn,hne,h=>by rw [subsL] at h;cases h
 |n+1,ss,l,ss',l',hl,hv,hn,hne,h=>by
  rw [subsL] at h
  split at h
  ·rename_i h1
   cases h
   exact ⟨hv,hn,hne,hl.t h1 (by decide)⟩
  ·obtain ⟨u,l1,h1,h⟩:=bind_okE h
   obtain ⟨u,l2,h2,h⟩:=bind_okE h
   obtain ⟨-,h64⟩:=room_same h2
   obtain ⟨x,l3,h3,h⟩:=bind_okE h
   obtain ⟨k1,k2⟩:=ok_sub hl h3
   exact ok_subs n _ l3 ss' l' k2 (fun y hy=>by
    rcases List.mem_append.1 hy with hy|hy
    ·exact hv y hy
    ·rw [List.mem_singleton.1 hy];exact k1) (by simp;omega) (by simp) h
theorem ok_pack {n:Nat} {l l':List Tok} {x:IA} (hl:LX l) (h:packP n l= .ok x l'):PI x∧LX l':=by
 unfold packP at h
 cases hi:intW (hd l).tk.t with
 |none=>rw [hi] at h;cases h
 |some q=>
  obtain ⟨z,li⟩:=q
  rw [hi] at h
  obtain ⟨u,l1,h1,h⟩:=bind_okE h
  have k1:=need_LX (hl.tl (hl.2.tailT (intW_ne hi))) h1 (by decide)
  obtain ⟨y,l2,h2,h⟩:=bind_okE h
  obtain ⟨y1,y2⟩:=ok_sub k1 h2
  obtain ⟨ss,l3,h3,h⟩:=bind_okE h
  cases h
  obtain ⟨s1,s2,s3,s4⟩:=ok_subs n [y] l2 ss _ y2 (fun z hz=>by rw [List.mem_singleton.1 hz];exact y1) (by simp) (by simp) h3
  exact ⟨⟨⟨intW_mem hi,s1⟩,s3,s2⟩,s4⟩
theorem ok_item {n:Nat} {l l':List Tok} {x:IA} (hl:LX l) (h:itemP n l= .ok x l'):PI x∧LX l':=by
 unfold itemP at h
 split at h
 ·rename_i h1;exact ok_pack (hl.t h1 (by decide)) h
 ·exact ok_field hl h
theorem ok_items: ∀(n:Nat) (is:List IA) (l:List Tok) (is':List IA) (l':List Tok),LX l→(∀x∈is,PI x)→is.length≤64→itemsL n is l= .ok is' l'→(∀x∈is',PI x)∧is'.length≤64∧LX l'
 |0,is,l,is',l',hl,hv,hn,h=>by rw [itemsL] at h;cases h
 |n+1,is,l,is',l',hl,hv,hn,h=>by
  rw [itemsL] at h
  split at h
  ·rename_i h1
   cases h
   exact ⟨hv,hn,hl.t h1 (by decide)⟩
  ·obtain ⟨u,l1,h1,h⟩:=bind_okE h
   obtain ⟨u,l2,h2,h⟩:=bind_okE h
   obtain ⟨-,h64⟩:=room_same h2
   obtain ⟨x,l3,h3,h⟩:=bind_okE h
   obtain ⟨k1,k2⟩:=ok_item hl h3
   exact ok_items n _ l3 is' l' k2 (fun y hy=>by
    rcases List.mem_append.1 hy with hy|hy
    ·exact hv y hy
    ·rw [List.mem_singleton.1 hy];exact k1) (by simp;omega) h
def NmOK (s:List UInt8):Prop:=NameOK s∧isKw s=false
theorem ok_params: ∀(n:Nat) (ps:List (List UInt8)) (l:List Tok) (ps':List (List UInt8)) (l':List Tok),LX l→(∀x∈ps,NmOK x)→ps.length≤64→paramsL n ps l= .ok ps' l'→(∀x∈ps',NmOK x)∧ps'.length≤64∧LX l'
 |0,ps,l,ps',l',hl,hv,hn,h=>by rw [paramsL] at h;cases h
 |n+1,ps,l,ps',l',hl,hv,hn,h=>by
  rw [paramsL] at h
  split at h
  ·rename_i h0
   obtain ⟨u,l1,h1,h⟩:=bind_okE h
   obtain ⟨rfl, -⟩:=expect_same h1
   obtain ⟨u,l2,h2,h⟩:=bind_okE h
   obtain ⟨rfl,h64⟩:=room_same h2
   obtain ⟨x,l3,h3,h⟩:=bind_okE h
   obtain ⟨h4,rfl,rfl⟩:=name_okE h3
   obtain ⟨k1,k2,k3⟩:=(hl.t h0 (by decide)).name h4
   exact ok_params n _ _ ps' l' k3 (fun y hy=>by
    rcases List.mem_append.1 hy with hy|hy
    ·exact hv y hy
    ·rw [List.mem_singleton.1 hy];exact ⟨k1,k2⟩) (by simp;omega) h
  ·cases h
   exact ⟨hv,hn,hl⟩
theorem ok_optP {n:Nat} {l l':List Tok} {ps:List (List UInt8)} (hl:LX l) (h:optP n l= .ok ps l'):(∀x∈ps,NmOK x)∧ps.length≤64∧LX l':=by
 unfold optP paramsP at h
 split at h
 ·rename_i h0
  obtain ⟨s,l1,h1,h⟩:=bind_okE h
  obtain ⟨h2,rfl,rfl⟩:=name_okE h1
  obtain ⟨k1,k2,k3⟩:=(hl.t h0 (by decide)).name h2
  obtain ⟨ps2,l2,h3,h⟩:=bind_okE h
  obtain ⟨p1,p2,p3⟩:=ok_params n _ _ ps2 l2 k3 (fun y hy=>by rw [List.mem_singleton.1 hy];exact ⟨k1,k2⟩) (by simp) h3
  obtain ⟨u,l3,h4,h⟩:=bind_okE h
  cases h
  exact ⟨p1,p2,need_LX p3 h4 (by decide)⟩
 ·cases h
  exact ⟨fun x hx=>(by cases hx),by simp,hl⟩
theorem ok_struct {n:Nat} {l l':List Tok} {s:SA} (hl:LX l) (h:structP n l= .ok s l'):PS s∧LX l':=by
 unfold structP at h
 obtain ⟨u,l1,h1,h⟩:=bind_okE h
 have k1:=need_LX hl h1 (by decide)
 obtain ⟨nm,l2,h2,h⟩:=bind_okE h
 obtain ⟨h3,rfl,rfl⟩:=name_okE h2
 obtain ⟨a1,a2,a3⟩:=k1.name h3
 obtain ⟨ps,l3,h4,h⟩:=bind_okE h
 obtain ⟨p1,p2,p3⟩:=ok_optP a3 h4
 obtain ⟨u,l4,h5,h⟩:=bind_okE h
 obtain ⟨is,l5,h6,h⟩:=bind_okE h
 cases h
 obtain ⟨i1,i2,i3⟩:=ok_items n [] l4 is _ (need_LX p3 h5 (by decide)) (fun x hx=>by cases hx) (by simp) h6
 exact ⟨⟨⟨a1,a2,p1,fun x hx=>(i1 x hx).1⟩,fun x hx=>(i1 x hx).2.1,p2,i2,fun x hx=>(i1 x hx).2.2⟩,i3⟩
theorem ok_const {l l':List Tok} {c:List UInt8×Nat} (hl:LX l) (h:constP l= .ok c l'):VC c∧LX l':=by
 unfold constP at h
 obtain ⟨u,l1,h1,h⟩:=bind_okE h
 have k1:=need_LX hl h1 (by decide)
 obtain ⟨nm,l2,h2,h⟩:=bind_okE h
 obtain ⟨h3,rfl,rfl⟩:=name_okE h2
 obtain ⟨a1,a2,a3⟩:=k1.name h3
 obtain ⟨u,l3,h4,h⟩:=bind_okE h
 have k4:=need_LX a3 h4 (by decide)
 obtain ⟨v,l4,h5,h⟩:=bind_okE h
 obtain ⟨h6,rfl,rfl⟩:=num_okE h5
 obtain ⟨v1,v2⟩:=k4.num h6
 obtain ⟨u,l5,h7,h⟩:=bind_okE h
 cases h
 exact ⟨⟨a1,a2,v1⟩,need_LX v2 h7 (by decide)⟩
theorem ok_file: ∀(n:Nat) (cs:List (List UInt8×Nat)) (ss:List SA) (l:List Tok) (a:List (List UInt8×Nat)×List SA) (l':List Tok),LX l→(∀c∈cs,VC c)→(∀s∈ss,PS s)→cs.length≤64→ss.length≤64→fileL n cs ss l= .ok a l'→(∀c∈a.1,VC c)∧(∀s∈a.2,PS s)∧a.1.length≤64∧a.2.length≤64
 |0,cs,ss,l,a,l',hl,hc,hs,nc,ns,h=>by rw [fileL] at h;cases h
 |n+1,cs,ss,l,a,l',hl,hc,hs,nc,ns,h=>by
  rw [fileL] at h
  split at h
  ·cases h
   exact ⟨hc,hs,nc,ns⟩
  ·split at h
   ·obtain ⟨u,l1,h1,h⟩:=bind_okE h
    obtain ⟨-,h64⟩:=room_same h1
    obtain ⟨c,l2,h2,h⟩:=bind_okE h
    obtain ⟨c1,c2⟩:=ok_const hl h2
    exact ok_file n _ ss l2 a l' c2 (fun y hy=>by
     rcases List.mem_append.1 hy with hy|hy
     ·exact hc y hy
     ·rw [List.mem_singleton.1 hy];exact c1) hs (by simp;omega) ns h
   ·split at h
    ·obtain ⟨u,l1,h1,h⟩:=bind_okE h
     obtain ⟨-,h64⟩:=room_same h1
     obtain ⟨s,l2,h2,h⟩:=bind_okE h
     obtain ⟨s1,s2⟩:=ok_struct hl h2
     exact ok_file n cs _ l2 a l' s2 hc (fun y hy=>by
      rcases List.mem_append.1 hy with hy|hy
      ·exact hs y hy
      ·rw [List.mem_singleton.1 hy];exact s1) nc (by simp;omega) h
    ·cases h
theorem wf_t {t:Tok} {V:Tk} {l:List Tok} (hw:WF (t::l)) (h:t.tk=V) (hne:V.t≠ []):WF l:=hw.tailT (l:=t::l) (by rw [show hd (t::l)=t from rfl,h];exact hne)
theorem rt_der {d:DA} (v:DerOK d) {x r:List Tok} (h:x.map (·.tk)=ktDer d) (hr:isT sEq r=false):optD (x++r)= .ok d r:=by
 obtain ⟨k,a,b⟩:=d
 unfold ktDer at h
 by_cases hk:k=0
 ·rw [if_pos hk] at h
  obtain rfl:=tk_nil h
  have ha:a= []:=v.2.2.2.1 hk
  have hb:b= []:=v.2.2.2.2 (by show k≤2;omega)
  subst hk ha hb
  unfold optD
  rw [List.nil_append,if_neg (by rw [hr];decide)]
 ·rw [if_neg hk] at h
  obtain ⟨t,x2,rfl,h1,h⟩:=tk_cons h
  obtain ⟨t2,x3,rfl,h3,h⟩:=tk_cons h
  obtain ⟨t3,x4,rfl,h4,h⟩:=tk_cons h
  obtain ⟨t4,x5,rfl,h5,h⟩:=tk_cons h
  have hk4:k=1∨k=2∨k=3∨k=4:=by have:k≤4:=v.1;omega
  have hdk: ∀l,derK (t2::l)=k:=by
   intro l
   unfold derK
   simp only [hdT h3]
   rcases hk4 with rfl|rfl|rfl|rfl<;>rfl
  have ha:=(v.2.1 hk).2
  unfold optD
  rw [List.cons_append,if_pos (by rw [hdT h1];decide)]
  show derP (t2::t3::t4::x5++r)=_
  unfold derP
  rw [List.cons_append,hdk,if_neg hk]
  show (need sLp (t3::t4::x5++r)).bind _=_
  rw [List.cons_append,need_hd (by rw [h4];rfl),PR.bind_ok,List.cons_append,nameP_hd h5 ha,PR.bind_ok]
  by_cases hk2:k≤2
  ·rw [if_pos hk2] at h
   obtain ⟨t6,x6,rfl,h6,h⟩:=tk_cons h
   obtain rfl:=tk_nil h
   have hb:b= []:=v.2.2.2.2 hk2
   subst hb
   rw [if_pos hk2]
   show (need sRp (t6::r)).bind _=_
   rw [need_hd (by rw [h6];rfl),PR.bind_ok]
  ·rw [if_neg hk2] at h
   obtain ⟨t6,x6,rfl,h6,h⟩:=tk_cons h
   obtain ⟨t7,x7,rfl,h7,h⟩:=tk_cons h
   obtain ⟨t8,x8,rfl,h8,h⟩:=tk_cons h
   obtain rfl:=tk_nil h
   rw [if_neg hk2]
   show (need sDots (t6::t7::t8::r)).bind _=_
   rw [need_hd (by rw [h6];rfl),PR.bind_ok,nameP_hd h7 (v.2.2.1 (by show 3≤k;omega)).2,PR.bind_ok,need_hd (by rw [h8];rfl),PR.bind_ok]
theorem der_fol {d:DA} (v:DerOK d) {x r:List Tok} {rest:List Tk} (h:x.map (·.tk)=ktDer d++rest) (hr:d.k=0→FolT (x++r)):FolT (x++r):=by
 by_cases hk:d.k=0
 ·exact hr hk
 ·unfold ktDer at h
  rw [if_neg hk] at h
  obtain ⟨t,x2,rfl,h1, -⟩:=tk_cons h
  rw [List.cons_append]
  exact ⟨by rw [hdT h1];decide,by rw [hdT h1];decide⟩
theorem rt_field {n:Nat} {x r:List Tok} {y:IA} (hf: ∃s t d wh,y= .field s t d wh) (p:PI y) (h:x.map (·.tk)=ktI y) (hw:WF (x++r)) (hr:r≠ []) (hn:8*(x++r).length≤n):fieldP n (x++r)= .ok y r:=by
 obtain ⟨s,t,d,wh,rfl⟩:=hf
 obtain ⟨⟨v1,v2,v3,v4,v5⟩,⟨o1,o2⟩,k1,k2⟩:=p
 unfold ktI at h
 obtain ⟨t1,x1,rfl,h1,h⟩:=tk_cons h
 obtain ⟨t2,x2,rfl,h2,h⟩:=tk_cons h
 obtain ⟨xt,x3,rfl,ht,h⟩:=tk_split h
 obtain ⟨xd,x4,rfl,hd',h'⟩:=tk_split h
 obtain ⟨xw,x5,rfl,hw',h''⟩:=tk_split h'
 obtain ⟨t3,x6,rfl,h3,h6⟩:=tk_cons h''
 obtain rfl:=tk_nil h6
 have e1:t1::t2::(xt++(xd++(xw++ [t3])))++r=t1::t2::(xt++(xd++(xw++(t3::r)))):=by simp
 rw [e1] at hw hn ⊢
 have w2:WF (t2::(xt++(xd++(xw++(t3::r))))):=wf_t hw h1 v1.ne
 have w3:WF (xt++(xd++(xw++(t3::r)))):=wf_t w2 h2 (by decide)
 have w4:WF (xd++(xw++(t3::r))):=w3.drop (by simp)
 have w5:WF (xw++(t3::r)):=w4.drop (by simp)
 have l1:(xw++(t3::r)).length≤(xd++(xw++(t3::r))).length:=by simp
 have l2:(xd++(xw++(t3::r))).length≤(xt++(xd++(xw++(t3::r)))).length:=by simp
 simp only [List.length_cons] at hn
 -- what follows
 have fw:FolT (xw++(t3::r))∧isT sEq (xw++(t3::r))=false:=by
  cases wh with
  |none=>
   obtain rfl:=tk_nil hw'
   rw [List.nil_append]
   exact ⟨⟨by rw [hdT h3];decide,by rw [hdT h3];decide⟩,by rw [hdT h3];decide⟩
  |some e=>
   obtain ⟨t4,x7,rfl,h4, -⟩:=tk_cons hw'
   rw [List.cons_append]
   exact ⟨⟨by rw [hdT h4];decide,by rw [hdT h4];decide⟩,by rw [hdT h4];decide⟩
 have fd:FolT (xd++(xw++(t3::r))):=der_fol v4 (rest:= []) (by rw [List.append_nil];exact hd') fun hk=>by
  unfold ktDer at hd'
  rw [if_pos hk] at hd'
  obtain rfl:=tk_nil hd'
  exact fw.1
 unfold fieldP
 rw [nameP_hd h1 v2,PR.bind_ok,need_hd (by rw [h2];rfl),PR.bind_ok,(rtT t v3).1 o1 0 n xt _ ht w3 (by simp) k1 fd (by omega),PR.bind_ok,rt_der v4 hd' fw.2,PR.bind_ok]
 have hW:optW n (xw++(t3::r))= .ok wh (t3::r):=by
  unfold optW
  cases wh with
  |none=>
   obtain rfl:=tk_nil hw'
   rw [List.nil_append,if_neg (by rw [hdT h3];decide)]
  |some e=>
   obtain ⟨t4,x7,rfl,h4,h5⟩:=tk_cons hw'
   simp only [List.cons_append] at w5 l1 l2 hn ⊢
   rw [if_pos (by rw [hdT h4];decide)]
   show (bin n 1 0 (x7++(t3::r))).bind _=_
   rw [List.length_cons] at l1
   rw [rt_bin (v5 e rfl) h5 (wf_t w5 h4 (by decide)) (by simp) (k2 e rfl) (lvl_hd h3 (by decide)) (by omega),PR.bind_ok]
 rw [hW,PR.bind_ok,need_hd (by rw [h3];rfl),PR.bind_ok]
theorem rt_sub {s:List UInt8×Nat} (v:SubOK s) {x r:List Tok} (h:x.map (·.tk)=ktSub s):subP (x++r)= .ok s r:=by
 unfold ktSub at h
 obtain ⟨t1,x1,rfl,h1,h⟩:=tk_cons h
 obtain ⟨t2,x2,rfl,h2,h⟩:=tk_cons h
 obtain ⟨t3,x3,rfl,h3,h⟩:=tk_cons h
 obtain ⟨t4,x4,rfl,h4,h⟩:=tk_cons h
 obtain rfl:=tk_nil h
 unfold subP
 show (nameP (t1::t2::t3::t4::r)).bind _=_
 rw [nameP_hd h1 v.2.1,PR.bind_ok,need_hd (by rw [h2];rfl),PR.bind_ok,numP_hd h3,PR.bind_ok,need_hd (by rw [h4];rfl),PR.bind_ok,Nat.min_eq_left v.2.2]
theorem rt_subs: ∀(ss:List (List UInt8×Nat)) (n:Nat) (s0:List (List UInt8×Nat)) (x r:List Tok) (t:Tok),(∀s∈ss,SubOK s)→s0.length+ss.length≤64→x.map (·.tk)=ss.flatMap ktSub→t.tk=sg [125]→x.length<n→subsL n s0 (x++(t::r))= .ok (s0++ss) r
 | [],n,s0,x,r,t,v,hl,h,ht,hn=>by
  obtain rfl:=tk_nil h
  obtain ⟨n,rfl⟩: ∃n',n=n'+1:=⟨n - 1,by omega⟩
  rw [List.nil_append,subsL,if_pos (isT_hd (by rw [ht];rfl)),List.append_nil]
  rfl
 |s::ss,n,s0,x,r,t,v,hl,h,ht,hn=>by
  rw [List.flatMap_cons] at h
  obtain ⟨x1,x2,rfl,h1,h2⟩:=tk_split h
  obtain ⟨n,rfl⟩: ∃n',n=n'+1:=⟨n - 1,by omega⟩
  have v1:=v s (by simp)
  rw [List.length_cons] at hl
  have hs:=rt_sub v1 (r:=x2++(t::r)) h1
  have hh:=h1
  unfold ktSub at hh
  obtain ⟨t1,x3,rfl,h3, -⟩:=tk_cons hh
  simp only [List.length_append,List.length_cons] at hn
  rw [List.append_assoc,subsL,if_neg (by rw [List.cons_append,hdT h3,decide_eq_false (fun e=>by have:=v1.1.w 125 (by rw [show s.1= [125] from e];simp);exact absurd this (by decide))];decide)]
  unfold expectP roomP
  rw [if_pos (by rw [List.cons_append];exact isName_hd h3 v1.2.1),PR.bind_ok,if_neg (by omega),PR.bind_ok,hs,PR.bind_ok,rt_subs ss n (s0++ [s]) x2 r t (fun y hy=>v y (by simp [hy])) (by simp;omega) h2 ht (by omega)]
  simp
theorem rt_pack {n:Nat} {x r:List Tok} {y:IA} (hf: ∃z li subs,y= .pack z li subs) (p:PI y) {t0:Tok} (h:(t0::x).map (·.tk)=ktI y) (hn:x.length<n):packP n (x++r)= .ok y r:=by
 obtain ⟨z,li,subs,rfl⟩:=hf
 obtain ⟨⟨v1,v2⟩,o1,k1⟩:=p
 unfold ktI at h
 rw [List.map_cons,List.cons.injEq] at h
 obtain ⟨-,h⟩:=h
 obtain ⟨t1,x1,rfl,h1,h⟩:=tk_cons h
 obtain ⟨t2,x2,rfl,h2,h⟩:=tk_cons h
 obtain ⟨xs,x3,rfl,h3,h⟩:=tk_split h
 obtain ⟨t3,x4,rfl,h4,h⟩:=tk_cons h
 obtain rfl:=tk_nil h
 cases subs with
 |nil=>exact absurd rfl o1
 |cons s ss=>
  rw [List.flatMap_cons] at h3
  obtain ⟨x5,x6,rfl,h5,h6⟩:=tk_split h3
  have e1:t1::t2::(x5++x6++ [t3])++r=t1::t2::(x5++(x6++(t3::r))):=by simp
  rw [e1]
  simp only [List.length_append,List.length_cons] at hn
  have k1:ss.length+1≤64:=k1
  unfold packP
  rw [show (hd (t1::t2::(x5++(x6++(t3::r))))).tk.t=wordN z li by rw [show hd (t1::t2::(x5++(x6++(t3::r))))=t1 from rfl,h1];rfl,(int_wd8 _ v1).2.1]
  show (need sLc (t2::(x5++(x6++(t3::r))))).bind _=_
  rw [need_hd (by rw [h2];rfl),PR.bind_ok,rt_sub (v2 s (by simp)) h5,PR.bind_ok,rt_subs ss n [s] x6 r t3 (fun y hy=>v2 y (by simp [hy])) (by simp;omega) h6 h4 (by omega),PR.bind_ok]
  rfl
theorem item_hd {y:IA} (p:PI y) {x:List Tok} (r:List Tok) {rest:List Tk} (h:x.map (·.tk)=ktI y++rest):isT sRc (x++r)=false∧(isName (x++r)||isT kPack (x++r))=true∧1≤x.length:=by
 cases y with
 |field s t d wh=>
  obtain ⟨t1,x1,rfl,h1, -⟩:=tk_cons h
  rw [List.cons_append,hdT h1,isName_hd h1 p.1.2.1]
  refine ⟨decide_eq_false fun e=> ?_,rfl,by simp⟩
  have:=p.1.1.w 125 (by rw [show s= [125] from e];simp)
  exact absurd this (by decide)
 |pack z li subs=>
  obtain ⟨t1,x1,rfl,h1, -⟩:=tk_cons h
  rw [List.cons_append,hdT h1,hdT h1]
  exact ⟨by decide,by rw [show decide ((wd kPack).t=kPack)=true by decide,Bool.or_true],by simp⟩
theorem rt_item {n:Nat} {x r:List Tok} {y:IA} (p:PI y) (h:x.map (·.tk)=ktI y) (hw:WF (x++r)) (hr:r≠ []) (hn:8*(x++r).length≤n):itemP n (x++r)= .ok y r:=by
 unfold itemP
 cases y with
 |field s t d wh=>
  have hh:=h
  obtain ⟨t1,x1,rfl,h1, -⟩:=tk_cons hh
  rw [if_neg]
  ·exact rt_field ⟨_,_,_,_,rfl⟩ p h hw hr hn
  ·rw [List.cons_append,hdT h1,decide_eq_false fun e=> ?_]
   ·decide
   ·exact (kw_not p.1.2.1).1 kPack (by decide) e
 |pack z li subs=>
  have hh:=h
  obtain ⟨t1,x1,rfl,h1, -⟩:=tk_cons hh
  rw [List.cons_append] at hn ⊢
  rw [if_pos (by rw [hdT h1];decide)]
  simp only [List.length_cons,List.length_append] at hn
  exact rt_pack ⟨_,_,_,rfl⟩ p h (by omega)
theorem rt_items: ∀(is:List IA) (n:Nat) (i0:List IA) (x r:List Tok) (t:Tok),(∀y∈is,PI y)→i0.length+is.length≤64→x.map (·.tk)=is.flatMap ktI→t.tk=sg [125]→WF (x++(t::r))→8*(x++(t::r)).length+1≤n→itemsL n i0 (x++(t::r))= .ok (i0++is) r
 | [],n,i0,x,r,t,v,hl,h,ht,hw,hn=>by
  obtain rfl:=tk_nil h
  obtain ⟨n,rfl⟩: ∃n',n=n'+1:=⟨n - 1,by simp at hn;omega⟩
  rw [List.nil_append,itemsL,if_pos (isT_hd (by rw [ht];rfl)),List.append_nil]
  rfl
 |y::is,n,i0,x,r,t,v,hl,h,ht,hw,hn=>by
  rw [List.flatMap_cons] at h
  obtain ⟨x1,x2,rfl,h1,h2⟩:=tk_split h
  have v1:=v y (by simp)
  rw [List.length_cons] at hl
  obtain ⟨q1,q2,q3⟩:=item_hd v1 (x2++(t::r)) (rest:= []) (by rw [List.append_nil];exact h1)
  rw [List.append_assoc] at hw hn ⊢
  have hlen:(x2++(t::r)).length+1≤(x1++(x2++(t::r))).length:=by rw [@List.length_append _ (x1) _];omega
  have hne:x2++(t::r)≠ []:=by simp
  obtain ⟨n,rfl⟩: ∃n',n=n'+1:=⟨n - 1,by omega⟩
  rw [itemsL,if_neg (by rw [q1];decide),q2]
  unfold expectP roomP
  rw [if_pos rfl,PR.bind_ok,if_neg (by omega),PR.bind_ok,rt_item v1 h1 hw hne (by omega),PR.bind_ok,rt_items is n (i0++ [y]) x2 r t (fun z hz=>v z (by simp [hz])) (by simp;omega) h2 ht (hw.drop hne) (by omega)]
  simp
theorem rt_paramsL: ∀(ps:List (List UInt8)) (n:Nat) (p0:List (List UInt8)) (x r:List Tok),(∀p∈ps,NmOK p)→p0.length+ps.length≤64→x.map (·.tk)=(ps.flatMap fun y=>sg [44]:: [wd y])→isT sComma r=false→x.length<n→paramsL n p0 (x++r)= .ok (p0++ps) r
 | [],n,p0,x,r,v,hl,h,hr,hn=>by
  obtain rfl:=tk_nil h
  obtain ⟨n,rfl⟩: ∃n',n=n'+1:=⟨n - 1,by omega⟩
  rw [List.nil_append,paramsL,if_neg (by rw [hr];decide),List.append_nil]
 |p::ps,n,p0,x,r,v,hl,h,hr,hn=>by
  rw [List.flatMap_cons,List.cons_append,List.singleton_append] at h
  obtain ⟨t1,x1,rfl,h1,h2⟩:=tk_cons h
  obtain ⟨t2,x2,rfl,h3,h4⟩:=tk_cons h2
  obtain ⟨n,rfl⟩: ∃n',n=n'+1:=⟨n - 1,by omega⟩
  have v1:=v p (by simp)
  rw [List.length_cons] at hl
  simp only [List.length_cons] at hn
  rw [List.cons_append,paramsL,if_pos (by rw [hdT h1];decide)]
  show (expectP (isName (t2::(x2++r))) (t2::(x2++r))).bind _=_
  unfold expectP roomP
  rw [if_pos (isName_hd h3 v1.2),PR.bind_ok,if_neg (by omega),PR.bind_ok,nameP_hd h3 v1.2,PR.bind_ok,rt_paramsL ps n (p0++ [p]) x2 r (fun y hy=>v y (by simp [hy])) (by simp;omega) h4 hr (by omega)]
  simp
theorem rt_optP {ps:List (List UInt8)} {n:Nat} {x r:List Tok} (v: ∀p∈ps,NmOK p) (hl:ps.length≤64) (h:x.map (·.tk)=ktL (fun p=> [wd p]) ps) (hr:isT sLp r=false) (hn:x.length<n):optP n (x++r)= .ok ps r:=by
 unfold optP
 cases ps with
 |nil=>
  obtain rfl:=tk_nil h
  rw [List.nil_append,if_neg (by rw [hr];decide)]
 |cons p ps=>
  unfold ktL at h
  obtain ⟨t1,x1,rfl,h1,h⟩:=tk_cons h
  obtain ⟨t2,x2,rfl,h2,h⟩:=tk_cons h
  have h:x2.map (·.tk)=(ps.flatMap fun y=>sg [44]:: [wd y])++ [sg [41]]:=h
  obtain ⟨x3,x4,rfl,h3,h⟩:=tk_split h
  obtain ⟨t3,x5,rfl,h4,h⟩:=tk_cons h
  obtain rfl:=tk_nil h
  have v1:=v p (by simp)
  rw [List.length_cons] at hl
  simp only [List.length_cons,List.length_append] at hn
  have e1:t1::t2::(x3++ [t3])++r=t1::t2::(x3++(t3::r)):=by simp
  rw [e1,if_pos (by rw [hdT h1];decide)]
  show paramsP n (t2::(x3++(t3::r)))=_
  unfold paramsP
  rw [nameP_hd h2 v1.2,PR.bind_ok,rt_paramsL ps n [p] x3 (t3::r) (fun y hy=>v y (by simp [hy])) (by simp;omega) h3 (by rw [hdT h4];decide) (by omega),PR.bind_ok,need_hd (by rw [h4];rfl),PR.bind_ok]
  rfl
theorem rt_struct {n:Nat} {x r:List Tok} {s:SA} (p:PS s) (h:x.map (·.tk)=ktS s) (hw:WF (x++r)) (hr:r≠ []) (hn:8*(x++r).length≤n):structP n (x++r)= .ok s r:=by
 obtain ⟨⟨v1,v2,v3,v4⟩,o1,k1,k2,k3⟩:=p
 unfold ktS at h
 obtain ⟨t1,x1,rfl,h1,h⟩:=tk_cons h
 obtain ⟨t2,x2,rfl,h2,h⟩:=tk_cons h
 obtain ⟨xp,x3,rfl,hp,h⟩:=tk_split h
 obtain ⟨t3,x4,rfl,h3,h⟩:=tk_cons h
 obtain ⟨xi,x5,rfl,hi,h⟩:=tk_split h
 obtain ⟨t4,x6,rfl,h4,h⟩:=tk_cons h
 obtain rfl:=tk_nil h
 have e1:t1::t2::(xp++t3::(xi++ [t4]))++r=t1::t2::(xp++(t3::(xi++(t4::r)))):=by simp
 rw [e1] at hw hn ⊢
 have w2:WF (t2::(xp++(t3::(xi++(t4::r))))):=wf_t hw h1 (by decide)
 have w3:WF (xp++(t3::(xi++(t4::r)))):=wf_t w2 h2 v1.ne
 have w4:WF (t3::(xi++(t4::r))):=w3.drop (by simp)
 have w5:WF (xi++(t4::r)):=wf_t w4 h3 (by decide)
 simp only [@List.length_append _ (xp) _,List.length_cons] at hn
 unfold structP
 rw [need_hd (by rw [h1];rfl),PR.bind_ok,nameP_hd h2 v2,PR.bind_ok,rt_optP v3 k1 hp (by rw [hdT h3];decide) (by omega),PR.bind_ok,need_hd (by rw [h3];rfl),PR.bind_ok,
  rt_items s.is n [] xi r t4 (fun y hy=>⟨v4 y hy,o1 y hy,k3 y hy⟩) (by simp;omega) hi h4 w5 (by omega),PR.bind_ok]
 rfl
theorem rt_const {c:List UInt8×Nat} (v:VC c) {x r:List Tok} (h:x.map (·.tk)=ktC c):constP (x++r)= .ok c r:=by
 unfold ktC at h
 obtain ⟨t1,x1,rfl,h1,h⟩:=tk_cons h
 obtain ⟨t2,x2,rfl,h2,h⟩:=tk_cons h
 obtain ⟨t3,x3,rfl,h3,h⟩:=tk_cons h
 obtain ⟨t4,x4,rfl,h4,h⟩:=tk_cons h
 obtain ⟨t5,x5,rfl,h5,h⟩:=tk_cons h
 obtain rfl:=tk_nil h
 unfold constP
 show (need kConst (t1::t2::t3::t4::t5::r)).bind _=_
 rw [need_hd (by rw [h1];rfl),PR.bind_ok,nameP_hd h2 v.2.1,PR.bind_ok,need_hd (by rw [h3];rfl),PR.bind_ok,numP_hd h4,PR.bind_ok,need_hd (by rw [h5];rfl),PR.bind_ok]
theorem rt_file: ∀(m:Nat) (cs c0:List (List UInt8×Nat)) (ss s0:List SA) (n:Nat) (x:List Tok) (e:Tok),cs.length+ss.length≤m→(∀c∈cs,VC c)→(∀s∈ss,PS s)→c0.length+cs.length≤64→s0.length+ss.length≤64→x.map (·.tk)=cs.flatMap ktC++ss.flatMap ktS→e.tk=tkEnd→WF (x++ [e])→8*(x++ [e]).length+1≤n→fileL n c0 s0 (x++ [e])= .ok (c0++cs,s0++ss) [e]
 |m, [],c0, [],s0,n,x,e,_,_,_,_,_,h,he,_,hn=>by
  obtain rfl:=tk_nil h
  obtain ⟨n,rfl⟩: ∃n',n=n'+1:=⟨n - 1,by omega⟩
  rw [List.nil_append,fileL,if_pos (by rw [show hd [e]=e from rfl,he];rfl),List.append_nil,List.append_nil]
 |0, [],c0,s::ss,s0,n,x,e,hm,_,_,_,_,_,_,_,_=>by simp at hm
 |0,c::cs,c0,ss,s0,n,x,e,hm,_,_,_,_,_,_,_,_=>by simp at hm
 |m+1,c::cs,c0,ss,s0,n,x,e,hm,vc,vs,lc,ls,h,he,hw,hn=>by
  rw [List.flatMap_cons,List.append_assoc] at h
  obtain ⟨x1,x2,rfl,h1,h2⟩:=tk_split h
  have hh:=h1
  unfold ktC at hh
  obtain ⟨t1,x3,rfl,h3, -⟩:=tk_cons hh
  rw [List.append_assoc] at hw hn ⊢
  have hc:=rt_const (vc c (by simp)) (r:=x2++ [e]) h1
  obtain ⟨n,rfl⟩: ∃n',n=n'+1:=⟨n - 1,by omega⟩
  rw [List.length_cons] at lc hm
  simp only [@List.length_append _ (t1::x3) _,List.length_cons] at hn
  rw [fileL,if_neg (by rw [List.cons_append,show hd (t1::(x3++(x2++ [e])))=t1 from rfl,h3];exact (by decide:(0:Nat)≠3)),if_pos (by rw [List.cons_append,hdT h3];decide)]
  unfold roomP
  rw [if_neg (by omega),PR.bind_ok,hc,PR.bind_ok,rt_file m cs (c0++ [c]) ss s0 n x2 e (by omega) (fun y hy=>vc y (by simp [hy])) vs (by simp;omega) ls h2 he (hw.drop (by simp)) (by omega)]
  simp
 |m+1, [],c0,s::ss,s0,n,x,e,hm,vc,vs,lc,ls,h,he,hw,hn=>by
  rw [List.flatMap_nil,List.nil_append,List.flatMap_cons] at h
  obtain ⟨x1,x2,rfl,h1,h2⟩:=tk_split h
  have hh:=h1
  unfold ktS at hh
  obtain ⟨t1,x3,rfl,h3, -⟩:=tk_cons hh
  rw [List.append_assoc] at hw hn ⊢
  obtain ⟨n,rfl⟩: ∃n',n=n'+1:=⟨n - 1,by omega⟩
  have hc:=rt_struct (n:=n) (vs s (by simp)) (r:=x2++ [e]) h1 hw (by simp) (by omega)
  rw [List.length_cons] at ls hm
  simp only [@List.length_append _ (t1::x3) _,List.length_cons] at hn
  rw [fileL,if_neg (by rw [List.cons_append,show hd (t1::(x3++(x2++ [e])))=t1 from rfl,h3];exact (by decide:(0:Nat)≠3)),if_neg (by rw [List.cons_append,hdT h3];decide),if_pos (by rw [List.cons_append,hdT h3];decide)]
  unfold roomP
  rw [if_neg (by omega),PR.bind_ok,hc,PR.bind_ok,rt_file m [] c0 ss (s0++ [s]) n x2 e (by simp at hm ⊢;omega) vc (fun y hy=>vs y (by simp [hy])) lc (by simp;omega) (by rw [List.flatMap_nil,List.nil_append];exact h2) he (hw.drop (by simp)) (by omega)]
  simp
theorem file_back {cs:List (List UInt8×Nat)} {ss:List SA} (vc: ∀c∈cs,VC c) (vs: ∀s∈ss,PS s) (lc:cs.length≤64) (ls:ss.length≤64) (hl:(prF cs ss).length≤16384) (hwf: ∀us,lexL (prF cs ss)= .ok us→WF us): ∃us l,lexL (prF cs ss)= .ok us∧fileP us= .ok (cs,ss) l:=by
 obtain ⟨us,h1,h2⟩:=lxF vc (fun s hs=>(vs s hs).1) (fun s hs=>(vs s hs).2.1) (1,1)
 have h0:lexL (prF cs ss)= .ok us:=by
  unfold lexL
  rw [if_neg (by omega)]
  exact h1
 have hw:=hwf us h0
 obtain ⟨x,y,rfl,h3,h4⟩:=tk_split h2
 obtain ⟨e,y2,rfl,h5,h6⟩:=tk_cons h4
 obtain rfl:=tk_nil h6
 refine ⟨_, [e],h0, ?_⟩
 unfold fileP fuel
 have:=rt_file _ cs [] ss [] (8*(x++ [e]).length+20) x e (Nat.le_refl _) vc vs (by simpa using lc) (by simpa using ls) h3 h5 hw (by omega)
 rw [this]
 rfl
end Go.Proofs.YtomimkgaelkaoaaGreatDoor
namespace Go.Proofs.YtomimkgaelkaoaaGreatDoor
theorem numB_lt (b:Nat) (p:UInt8→Bool) (ds:List UInt8):(numB b p ds).1<18446744073709551616:=by
 unfold numB
 split
 ·exact (by decide:0<18446744073709551616)
 ·split
  ·exact (by decide:0<18446744073709551616)
  ·show valA b 0 ds<_
   omega
theorem good_tkv {V:Tk} {p:Ps} (h:GoodV V):TkV ⟨V,p⟩:=by
 obtain ⟨h1, -⟩:=h.2 [] (.inl rfl)
 rw [List.append_nil] at h1
 unfold firstL at h1
 by_cases h0:V.t= []
 ·rw [if_pos h0] at h1
  have:V=tkEnd:=(congrArg Prod.fst h1).symm
  exact absurd (by rw [this];rfl) h.1
 ·rw [if_neg h0] at h1
  by_cases hr:runL V.t≠ []
  ·rw [if_pos hr] at h1
   have he:(wnL (runL V.t)).2=0:=by rw [h1]
   have ht:=(wnL_cases _ he).1
   rw [h1] at ht
   have ht:V.t=runL V.t:=ht
   have hw: ∀x∈V.t,isW x=true:=by
    intro x hx
    rw [ht] at hx
    have:=List.all_takeWhile (p:=isW) (l:=V.t)
    exact List.all_eq_true.1 this x hx
   rw [←ht] at h1
   unfold wnL at h1
   refine ⟨fun hk=> ?_,fun hk=> ?_⟩
   ·have hk:V.k=0:=hk
    split at h1
    ·split at h1
     ·have:=congrArg (fun q=>q.1.k) h1
      simp only at this
      omega
     ·rename_i h5
      have:=congrArg Prod.snd h1
      exact absurd this h5
    ·rename_i h4
     split at h1
     ·have:=congrArg Prod.snd h1
      cases this
     ·rename_i h5
      exact ⟨h0,hw,by simpa using h4,by show V.t.length≤32;omega⟩
   ·have hk:V.k=1:=hk
    split at h1
    ·split at h1
     ·have:(numberL V.t).1=V.n:=congrArg (fun q=>q.1.n) h1
      show V.n<_
      rw [←this]
      unfold numberL
      split
      ·exact numB_lt _ _ _
      ·exact numB_lt _ _ _
     ·rename_i h5
      have:=congrArg Prod.snd h1
      exact absurd this h5
    ·split at h1
     ·have:=congrArg Prod.snd h1
      cases this
     ·have:0=V.k:=congrArg (fun q=>q.1.k) h1
      omega
  ·rw [if_neg hr] at h1
   split at h1
   ·have:=congrArg Prod.snd h1
    cases this
   ·have:2=V.k:=congrArg (fun q=>q.1.k) h1
    exact ⟨fun hk=>by (have hk:V.k=0:=hk);omega,fun hk=>by (have hk:V.k=1:=hk);omega⟩
theorem lexL_allV {s:List UInt8} {ts:List Tok} (h:lexL s= .ok ts):AllV ts:=by
 unfold lexL at h
 split at h
 ·cases h
 ·obtain ⟨Vs,h1,h2⟩:=lexG_good _ _ _ _ _ (Nat.le_refl _) h
  intro t ht
  have hm:t.tk∈Vs++ [tkEnd]:=by rw [←h1];exact List.mem_map.2 ⟨t,ht,rfl⟩
  rcases List.mem_append.1 hm with hm|hm
  ·have:=good_tkv (p:=t.p) (h2 _ hm)
   exact this
  ·have e:t.tk=tkEnd:=List.mem_singleton.1 hm
   exact ⟨fun hk=>(by rw [e] at hk;cases hk),fun hk=>(by rw [e] at hk;cases hk)⟩
theorem parse_tree {s:List UInt8} {f:FM} (h:parseL s= .ok f): ∃cs ss,f=putF cs ss∧(∀c∈cs,VC c)∧(∀x∈ss,PS x)∧cs.length≤64∧ss.length≤64:=by
 unfold parseL at h
 cases hl:lexL s with
 |bad p e=>rw [hl] at h;cases h
 |ok ts=>
  rw [hl] at h
  simp only at h
  cases hf:fileP ts with
  |bad l e=>rw [hf] at h;cases h
  |ok a l=>
   rw [hf] at h
   simp only [FR.ok.injEq] at h
   obtain ⟨h1,h2,h3,h4⟩:=ok_file _ [] [] ts a l ⟨lexL_allV hl,lexL_wf hl⟩ (fun c hc=>by cases hc) (fun c hc=>by cases hc) (by simp) (by simp) hf
   exact ⟨a.1,a.2,h.symm,h1,h2,h3,h4⟩
theorem tree_back {cs:List (List UInt8×Nat)} {ss:List SA} (vc: ∀c∈cs,VC c) (vs: ∀x∈ss,PS x) (lc:cs.length≤64) (ls:ss.length≤64) (hl:(prF cs ss).length≤16384):parseL (prF cs ss)= .ok (putF cs ss):=by
 obtain ⟨us,l,h1,h2⟩:=file_back vc vs lc ls hl fun us h=>lexL_wf h
 unfold parseL
 rw [h1]
 simp only [h2]
end Go.Proofs.YtomimkgaelkaoaaGreatDoor
