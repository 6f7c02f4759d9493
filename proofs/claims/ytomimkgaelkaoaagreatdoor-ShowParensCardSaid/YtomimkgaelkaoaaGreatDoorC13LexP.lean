/- Layer 6, the mathematics: the tokens of a text, as a plain function of its bytes. No program. -/
import Derived.Below
import Derived.Lib.Strings
import Derived.Lib.SlTrimSet
set_option linter.unusedVariables false
set_option linter.unusedSimpArgs false
namespace Go.Proofs.YtomimkgaelkaoaaGreatDoor
def isD (c:UInt8):Bool:=decide (48≤c.toNat∧c.toNat≤57)
def isL (c:UInt8):Bool:=decide (65≤c.toNat∧c.toNat≤90∨97≤c.toNat∧c.toNat≤122∨c.toNat=95)
def isW (c:UInt8):Bool:=isL c||isD c
def isB (c:UInt8):Bool:= [32,9,10,13].contains c
def isX (c:UInt8):Bool:=decide (48≤c.toNat∧c.toNat≤57∨97≤c.toNat∧c.toNat≤102∨65≤c.toNat∧c.toNat≤70)
def dv (c:UInt8):Nat:=if c.toNat≤57 then c.toNat - 48 else if 97≤c.toNat then c.toNat - 87 else c.toNat - 55
def valA (b n:Nat):List UInt8→Nat
 | []=>n
 |c::r=>valA b (n*b+dv c) r
def sgs:List (List UInt8):= [[46,46], [61,61], [33,61], [60,61], [62,61], [60,60], [62,62], [38,38], [124,124],
 [123], [125], [40], [41], [91], [93], [59], [58], [44], [61], [60], [62], [43], [45], [42], [47], [37], [38], [124], [33]]
def signF:List (List UInt8)→List UInt8→List UInt8
 | [],_=> []
 |g::gs,l=>if g.isPrefixOf l=true then g else signF gs l
def signL (l:List UInt8):List UInt8:=signF sgs l
structure Tk where
 k:Nat
 t:List UInt8
 n:Nat
deriving DecidableEq
def tk0:Tk:=⟨0, [],0⟩
def tkEnd:Tk:=⟨3, [],0⟩
def numB (b:Nat) (p:UInt8→Bool) (ds:List UInt8):Nat×Nat:=
 if ds= []∨ds.all p=false then (0,4) else if 18446744073709551616≤valA b 0 ds then (0,5) else (valA b 0 ds,0)
def numberL (r:List UInt8):Nat×Nat:=if [48,120].isPrefixOf r=true then numB 16 isX (r.drop 2) else numB 10 isD r
def runL (l:List UInt8):List UInt8:=l.takeWhile isW
def wnL (r:List UInt8):Tk×Nat:=
 if isD (r.headD 0)=true then (if (numberL r).2=0 then (⟨1,r,(numberL r).1⟩,0) else (tk0,(numberL r).2))
 else if 32<r.length then (tk0,7) else (⟨0,r,0⟩,0)
def firstL (l:List UInt8):Tk×Nat:=
 if l= [] then (tkEnd,0) else if runL l≠ [] then wnL (runL l) else if signL l= [] then (tk0,4) else (⟨2,signL l,0⟩,0)
def skipM:Bool→List UInt8→List UInt8
 |_, []=> []
 |true,c::r=>if c=10 then skipM false r else skipM true r
 |false,c::r=>if isB c=true then skipM false r else if c=47∧r.head? =some 47 then skipM true r else c::r
abbrev Ps:=Nat×Nat
def stp (p:Ps) (c:UInt8):Ps:=if c=10 then (p.1+1,1) else (p.1,p.2+1)
def posL (p:Ps) (l:List UInt8):Ps:=l.foldl stp p
structure Tok where
 tk:Tk
 p:Ps
deriving DecidableEq
inductive LR
 |ok (l:List Tok)
 |bad (p:Ps) (e:Nat)
deriving DecidableEq
def LR.cons (x:Tok):LR→LR
 | .ok l=> .ok (x::l)
 | .bad p e=> .bad p e
def LR.app (a:List Tok):LR→LR
 | .ok l=> .ok (a++l)
 | .bad p e=> .bad p e
theorem LR.app_nil (r:LR):LR.app [] r=r:=by cases r<;>rfl
theorem LR.app_cons (a:List Tok) (x:Tok) (r:LR):LR.app (a++ [x]) r=LR.app a (LR.cons x r):=by cases r<;>simp [LR.app,LR.cons]
theorem LR.cons_app (x:Tok) (b:List Tok) (r:LR):LR.cons x (LR.app b r)=LR.app (x::b) r:=by cases r<;>rfl
def lexN:Nat→Bool→Ps→List UInt8→LR
 |0,_,p,_=> .bad p 0
 |n+1,b,p,l=>
  if (firstL (skipM b l)).2≠0 then .bad (posL p (l.take (l.length - (skipM b l).length))) (firstL (skipM b l)).2
  else if (firstL (skipM b l)).1.k=3 then .ok [⟨(firstL (skipM b l)).1,posL p (l.take (l.length - (skipM b l).length))⟩]
  else (lexN n false (posL (posL p (l.take (l.length - (skipM b l).length))) (firstL (skipM b l)).1.t) ((skipM b l).drop (firstL (skipM b l)).1.t.length)).cons
   ⟨(firstL (skipM b l)).1,posL p (l.take (l.length - (skipM b l).length))⟩
def lexG (b:Bool) (p:Ps) (l:List UInt8):LR:=lexN (l.length+1) b p l
def lexL (s:List UInt8):LR:=if 16384<s.length then .bad (1,1) 7 else lexG false (1,1) s
theorem skipM_suffix: ∀(b:Bool) (l:List UInt8),skipM b l<:+l
 |b, []=>by cases b<;>simp [skipM]
 |true,c::r=>by
  unfold skipM
  split
  ·exact (skipM_suffix false r).trans (List.suffix_cons c r)
  ·exact (skipM_suffix true r).trans (List.suffix_cons c r)
 |false,c::r=>by
  unfold skipM
  split
  ·exact (skipM_suffix false r).trans (List.suffix_cons c r)
  ·split
   ·exact (skipM_suffix true r).trans (List.suffix_cons c r)
   ·exact List.suffix_refl _
theorem skipM_len (b:Bool) (l:List UInt8):(skipM b l).length≤l.length:=(skipM_suffix b l).length_le
theorem skipM_nil (b:Bool):skipM b []= []:=by cases b<;>rfl
theorem signF_mem: ∀(gs:List (List UInt8)) (l:List UInt8),signF gs l= []∨(signF gs l∈gs∧(signF gs l).isPrefixOf l=true)
 | [],_=> .inl rfl
 |g::gs,l=>by
  unfold signF
  split
  ·rename_i h;exact .inr ⟨by simp,h⟩
  ·rcases signF_mem gs l with h|⟨h1,h2⟩
   ·exact .inl h
   ·exact .inr ⟨by simp [h1],h2⟩
theorem prefix_of_isPrefixOf {g l:List UInt8} (h:g.isPrefixOf l=true):g<+:l:=List.isPrefixOf_iff_prefix.1 h
theorem signL_prefix (l:List UInt8):signL l<+:l:=by
 rcases signF_mem sgs l with h|⟨_,h⟩
 ·unfold signL;rw [h];exact List.nil_prefix
 ·exact prefix_of_isPrefixOf h
theorem wnL_cases (r:List UInt8):(wnL r).2=0→(wnL r).1.t=r∧(wnL r).1.k≠3:=by
 unfold wnL
 split
 ·split
  ·intro _;exact ⟨rfl,by simp⟩
  ·rename_i h;intro h';exact absurd h' h
 ·split
  ·intro h;simp at h
  ·intro _;exact ⟨rfl,by simp⟩
theorem firstL_nil:firstL []=(tkEnd,0):=rfl
theorem firstL_ok {l:List UInt8} (h:(firstL l).2=0) (hl:l≠ []):(firstL l).1.k≠3∧(firstL l).1.t≠ []∧(firstL l).1.t<+:l:=by
 unfold firstL at h ⊢
 rw [if_neg hl] at h ⊢
 by_cases hr:runL l≠ []
 ·rw [if_pos hr] at h ⊢
  obtain ⟨h1,h2⟩:=wnL_cases _ h
  rw [h1]
  exact ⟨h2,hr,List.takeWhile_prefix _⟩
 ·rw [if_neg hr] at h ⊢
  by_cases hs:signL l= []
  ·rw [if_pos hs] at h;simp at h
  ·rw [if_neg hs]
   exact ⟨by simp,hs,signL_prefix l⟩
theorem firstL_three {l:List UInt8} (h:(firstL l).2=0) (h3:(firstL l).1.k=3):l= []:=by
 apply Classical.byContradiction
 intro hl
 exact (firstL_ok h hl).1 h3
theorem drop_lt {l:List UInt8} (h:(firstL l).2=0) (hl:l≠ []):(l.drop (firstL l).1.t.length).length<l.length:=by
 have:=(firstL_ok h hl).2.1
 have h1:(firstL l).1.t.length≠0:=by simpa using this
 have h2:l.length≠0:=by simpa using hl
 rw [List.length_drop]
 omega
theorem lexN_fuel: ∀(n:Nat) (b:Bool) (p:Ps) (l:List UInt8),l.length<n→lexN n b p l=lexG b p l:=by
 intro n
 induction n using Nat.strongRecOn with
 |ind n ih=>
  intro b p l hn
  obtain ⟨m,rfl⟩: ∃m,n=m+1:=⟨n - 1,by omega⟩
  unfold lexG
  rw [lexN,lexN]
  by_cases h:(firstL (skipM b l)).2≠0
  ·rw [if_pos h,if_pos h]
  ·rw [if_neg h,if_neg h]
   by_cases h3:(firstL (skipM b l)).1.k=3
   ·rw [if_pos h3,if_pos h3]
   ·rw [if_neg h3,if_neg h3]
    have hne:skipM b l≠ []:=fun e=>h3 (by rw [e];rfl)
    have hd:=drop_lt (by simpa using h) hne
    have hs:=skipM_len b l
    rw [ih m (by omega) _ _ _ (by omega)]
    by_cases hm:l.length=m
    ·rw [hm,ih m (by omega) _ _ _ (by omega)]
    ·rw [ih l.length (by omega) _ _ _ (by omega)]
theorem lexG_eq (b:Bool) (p:Ps) (l:List UInt8):lexG b p l=
  if (firstL (skipM b l)).2≠0 then .bad (posL p (l.take (l.length - (skipM b l).length))) (firstL (skipM b l)).2
  else if (firstL (skipM b l)).1.k=3 then .ok [⟨(firstL (skipM b l)).1,posL p (l.take (l.length - (skipM b l).length))⟩]
  else (lexG false (posL (posL p (l.take (l.length - (skipM b l).length))) (firstL (skipM b l)).1.t) ((skipM b l).drop (firstL (skipM b l)).1.t.length)).cons
   ⟨(firstL (skipM b l)).1,posL p (l.take (l.length - (skipM b l).length))⟩:=by
 conv=>lhs;unfold lexG;rw [lexN]
 by_cases h:(firstL (skipM b l)).2≠0
 ·rw [if_pos h,if_pos h]
 ·rw [if_neg h,if_neg h]
  by_cases h3:(firstL (skipM b l)).1.k=3
  ·rw [if_pos h3,if_pos h3]
  ·rw [if_neg h3,if_neg h3]
   have hne:skipM b l≠ []:=fun e=>h3 (by rw [e];rfl)
   have hd:=drop_lt (by simpa using h) hne
   have hs:=skipM_len b l
   rw [lexN_fuel _ _ _ _ (by omega)]
theorem lexG_skip {b b':Bool} {c:UInt8} {r:List UInt8} (h:skipM b (c::r)=skipM b' r) (p:Ps):lexG b p (c::r)=lexG b' (stp p c) r:=by
 rw [lexG_eq b,lexG_eq b',h]
 have hs:=skipM_len b' r
 have e:(c::r).length - (skipM b' r).length=(r.length - (skipM b' r).length)+1:=by simp;omega
 rw [e,List.take_succ_cons]
 rfl
theorem lexG_blank {c:UInt8} {r:List UInt8} (h:isB c=true) (p:Ps):lexG false p (c::r)=lexG false (stp p c) r:=lexG_skip (by rw [skipM,if_pos h]) p
theorem lexG_comment {c:UInt8} {r:List UInt8} (h:c≠10) (p:Ps):lexG true p (c::r)=lexG true (stp p c) r:=lexG_skip (by rw [skipM,if_neg h]) p
theorem lexG_feed {r:List UInt8} (p:Ps):lexG true p (10::r)=lexG false (stp p 10) r:=lexG_skip (by rw [skipM,if_pos rfl]) p
theorem lexG_open {r:List UInt8} (p:Ps):lexG false p (47::47::r)=lexG true p (47::47::r):=by
 rw [lexG_comment (by decide)]
 exact lexG_skip (by conv=>lhs;rw [skipM,if_neg (by decide),if_pos ⟨rfl,rfl⟩]) p
theorem lexG_nil (b:Bool) (p:Ps):lexG b p []= .ok [⟨tkEnd,p⟩]:=by
 rw [lexG_eq,skipM_nil]
 rfl
def Bare (l:List UInt8):Prop:=skipM false l=l
theorem bare_cons {c:UInt8} {r:List UInt8} (h1:isB c=false) (h2: ¬(c=47∧r.head? =some 47)):Bare (c::r):=by
 unfold Bare
 rw [skipM,if_neg (by rw [h1];decide),if_neg h2]
theorem lexG_token {l:List UInt8} (h:Bare l) (p:Ps):lexG false p l=
  if (firstL l).2≠0 then .bad p (firstL l).2
  else if (firstL l).1.k=3 then .ok [⟨(firstL l).1,p⟩]
  else (lexG false (posL p (firstL l).1.t) (l.drop (firstL l).1.t.length)).cons ⟨(firstL l).1,p⟩:=by
 rw [lexG_eq,h,Nat.sub_self,List.take_zero]
 rfl
theorem posL_append (p:Ps) (a b:List UInt8):posL p (a++b)=posL (posL p a) b:=List.foldl_append
theorem posL_le: ∀(l:List UInt8) (p:Ps),(posL p l).1≤p.1+l.length∧(posL p l).2≤p.2+l.length
 | [],p=>⟨Nat.le_refl _,Nat.le_refl _⟩
 |c::r,p=>by
  have h:=posL_le r (stp p c)
  have h1:(stp p c).1≤p.1+1∧(stp p c).2≤p.2+1:=by
   unfold stp;split<;>simp
  simp only [posL,List.foldl_cons,List.length_cons] at h ⊢
  omega
theorem posL_no: ∀(l:List UInt8) (p:Ps),l.count 10=0→posL p l=(p.1,p.2+l.length)
 | [],p,_=>rfl
 |c::r,p,h=>by
  have hc:c≠10:=fun e=>by subst e;simp at h
  have hr:r.count 10=0:=by
   rw [List.count_cons] at h;omega
  have:=posL_no r (stp p c) hr
  simp only [posL,List.foldl_cons,List.length_cons] at this ⊢
  rw [this]
  simp only [stp,if_neg hc]
  rw [Nat.add_assoc,Nat.add_comm 1]
theorem posL_count: ∀(l:List UInt8) (p:Ps),(posL p l).1=p.1+l.count 10
 | [],p=>rfl
 |c::r,p=>by
  have:=posL_count r (stp p c)
  simp only [posL,List.foldl_cons] at this ⊢
  rw [this,List.count_cons]
  unfold stp
  by_cases e:c=10
  ·subst e;simp;omega
  ·rw [if_neg e];simp [e]
theorem posL_last (a b:List UInt8) (p:Ps) (h:b.count 10=0):(posL p (a++10::b)).2=1+b.length:=by
 rw [posL_append]
 show (posL (stp (posL p a) 10) b).2=_
 rw [posL_no b _ h]
 rfl
end Go.Proofs.YtomimkgaelkaoaaGreatDoor
