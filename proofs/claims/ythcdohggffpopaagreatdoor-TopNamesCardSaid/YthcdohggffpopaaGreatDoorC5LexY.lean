/- Layer 6, the mathematics of the laws: so many letters, so many digits. No program. · Layer 6, the mathematics of the laws: how texts are joined. No program. · Layer 6, the mathematics of the law on joining: what is joined is read as these tokens again. No program. -/
import Derived.Test.YthcdohggffpopaaGreatDoorC5LexQ
import Derived.Test.YthcdohggffpopaaGreatDoorC5LexM
set_option linter.unusedVariables false
set_option linter.unusedSimpArgs false
namespace Go.Proofs.YthcdohggffpopaaGreatDoor
theorem isW_bare {c:UInt8} (h:isW c=true):isB c=false∧c≠47:=by
 constructor
 ·apply Classical.byContradiction
  intro hb
  have hm:c∈([32,9,10,13]:List UInt8):=List.contains_iff_mem.1 (by simpa only [isB,Bool.not_eq_false] using hb)
  simp only [List.mem_cons,List.mem_nil_iff,or_false] at hm
  rcases hm with rfl|rfl|rfl|rfl<;>exact absurd h (by decide)
 ·rintro rfl
  exact absurd h (by decide)
end Go.Proofs.YthcdohggffpopaaGreatDoor
namespace Go.Proofs.YthcdohggffpopaaGreatDoor
theorem textsL_cons (t:Tok) (r:List Tok):textsL (t::r)=if t.tk.k=3 then textsL r else t.tk.t::textsL r:=by
 by_cases h:t.tk.k=3<;>simp [textsL,h]
theorem tail_len: ∀l:List Tok,(Lib.joinTail [32] (textsL l)).length≤sumL l+l.length
 | []=>by simp [textsL,Lib.joinTail]
 |t::r=>by
  have:=tail_len r
  rw [textsL_cons]
  split
  ·simp only [sumL,List.length_cons];omega
  ·simp only [Lib.joinTail,List.map_cons,List.flatten_cons,List.length_append,List.length_cons,List.length_nil,sumL] at this ⊢
   omega
theorem join_len: ∀l:List Tok,(joinL l).length≤sumL l+l.length
 | []=>by simp [joinL,textsL,Lib.join_nil]
 |t::r=>by
  have h1:=join_len r
  have h2:=tail_len r
  unfold joinL at h1 ⊢
  rw [textsL_cons]
  split
  ·simp only [sumL,List.length_cons];omega
  ·rw [Lib.join_cons,List.length_append]
   simp only [sumL,List.length_cons]
   omega
end Go.Proofs.YthcdohggffpopaaGreatDoor
namespace Go.Proofs.YthcdohggffpopaaGreatDoor
def GoodV (V:Tk):Prop:=V.k≠3∧∀rest,(rest= []∨∃r,rest=32::r)→firstL (V.t++rest)=(V,0)∧Bare (V.t++rest)
theorem run_rest {R rest:List UInt8} (hR: ∀x∈R,isW x=true) (h:rest= []∨∃r,rest=32::r):runL (R++rest)=R:=by
 unfold runL
 rw [List.takeWhile_append_of_pos hR]
 rcases h with rfl|⟨r,rfl⟩
 ·simp
 ·rw [List.takeWhile_cons,if_neg (by decide),List.append_nil]
theorem wnL_t {r:List UInt8} (h:(wnL r).2=0):(wnL r).1.t=r:=(wnL_cases r h).1
theorem good_run {R:List UInt8} (h1:R≠ []) (h2: ∀x∈R,isW x=true) (h3:(wnL R).2=0):GoodV (wnL R).1:=by
 refine ⟨(wnL_cases R h3).2,fun rest hr=> ?_⟩
 rw [wnL_t h3]
 constructor
 ·have hne:R++rest≠ []:=by simp [h1]
  unfold firstL
  rw [if_neg hne,run_rest h2 hr,if_pos h1]
  exact Prod.ext rfl h3
 ·cases R with
  |nil=>exact absurd rfl h1
  |cons c r=>
   have:=isW_bare (h2 c List.mem_cons_self)
   exact bare_cons this.1 fun e=>this.2 e.1
theorem sign_rest (g:List UInt8) (hg:g∈sgs) (rest:List UInt8) (h:rest= []∨∃r,rest=32::r):signL (g++rest)=g∧runL (g++rest)= []∧Bare (g++rest):=by
 simp only [sgs,List.mem_cons,List.mem_nil_iff,or_false] at hg
 rcases h with rfl|⟨r,rfl⟩
 ·rcases hg with rfl|rfl|rfl|rfl|rfl|rfl|rfl|rfl|rfl|rfl|rfl|rfl|rfl|rfl|rfl|rfl|rfl|rfl|rfl|rfl|rfl|rfl|rfl|rfl|rfl|rfl|rfl|rfl|rfl<;>exact ⟨rfl,rfl,rfl⟩
 ·rcases hg with rfl|rfl|rfl|rfl|rfl|rfl|rfl|rfl|rfl|rfl|rfl|rfl|rfl|rfl|rfl|rfl|rfl|rfl|rfl|rfl|rfl|rfl|rfl|rfl|rfl|rfl|rfl|rfl|rfl<;>exact ⟨rfl,rfl,rfl⟩
theorem good_sign {g:List UInt8} (hg:g∈sgs) (h1:g≠ []):GoodV ⟨2,g,0⟩:=by
 refine ⟨(by decide:(2:Nat)≠3),fun rest hr=> ?_⟩
 obtain ⟨e1,e2,e3⟩:=sign_rest g hg rest hr
 refine ⟨?_,e3⟩
 unfold firstL
 rw [if_neg (by simp [h1]),e2,if_neg (fun e=>e rfl),e1,if_neg h1]
theorem good_first {l:List UInt8} (hl:l≠ []) (h:(firstL l).2=0):GoodV (firstL l).1:=by
 unfold firstL at h ⊢
 rw [if_neg hl] at h ⊢
 by_cases hr:runL l≠ []
 ·rw [if_pos hr] at h ⊢
  exact good_run hr (fun x hx=>by have:=List.all_takeWhile (p:=isW) (l:=l);exact List.all_eq_true.1 this x hx) h
 ·rw [if_neg hr] at h ⊢
  by_cases hs:signL l= []
  ·rw [if_pos hs] at h;simp at h
  ·rw [if_neg hs]
   rcases signF_mem sgs l with e|⟨e,_⟩
   ·exact absurd e hs
   ·exact good_sign e hs
theorem lexG_good: ∀(n:Nat) (b:Bool) (p:Ps) (l:List UInt8) (ts:List Tok),l.length≤n→lexG b p l= .ok ts→∃Vs,ts.map (·.tk)=Vs++ [tkEnd]∧∀V∈Vs,GoodV V:=by
 intro n
 induction n with
 |zero=>
  intro b p l ts hl h
  obtain rfl:l= []:=List.eq_nil_of_length_eq_zero (by omega)
  rw [lexG_nil] at h
  cases h
  exact ⟨[],rfl,by simp⟩
 |succ n ih=>
  intro b p l ts hl h
  rw [lexG_eq] at h
  by_cases he:(firstL (skipM b l)).2≠0
  ·rw [if_pos he] at h;cases h
  ·rw [if_neg he] at h
   have he0:(firstL (skipM b l)).2=0:=by simpa using he
   by_cases h3:(firstL (skipM b l)).1.k=3
   ·rw [if_pos h3] at h
    have:=firstL_three he0 h3
    rw [this] at h
    cases h
    exact ⟨[],rfl,by simp⟩
   ·rw [if_neg h3] at h
    have hne:skipM b l≠ []:=fun e=>h3 (by rw [e];rfl)
    have hd:=drop_lt he0 hne
    have hs:=skipM_len b l
    obtain ⟨u,hu,rfl⟩:=LR.cons_ok h
    obtain ⟨Vs,i1,i2⟩:=ih _ _ _ u (by omega) hu
    refine ⟨(firstL (skipM b l)).1::Vs,by rw [List.map_cons,i1];rfl, ?_⟩
    intro V hV
    rcases List.mem_cons.1 hV with rfl|hV
    ·exact good_first hne he0
    ·exact i2 V hV
theorem good_tail: ∀(Vs:List Tk),(∀V∈Vs,GoodV V)→∀p,∃us,lexG false p (Lib.joinTail [32] (Vs.map (·.t)))= .ok us∧us.map (·.tk)=Vs++ [tkEnd]
 | [],_,p=>⟨[⟨tkEnd,p⟩],by rw [show Lib.joinTail [32] (([]:List Tk).map (·.t))= [] from rfl,lexG_nil],rfl⟩
 |V::Vs,H,p=>by
  obtain ⟨g1,g2⟩:=H V List.mem_cons_self
  have e:Lib.joinTail [32] ((V::Vs).map (·.t))=32::(V.t++Lib.joinTail [32] (Vs.map (·.t))):=by simp [Lib.joinTail]
  have hr:Lib.joinTail [32] (Vs.map (·.t))= []∨∃r,Lib.joinTail [32] (Vs.map (·.t))=32::r:=by
   cases Vs with
   |nil=>exact .inl rfl
   |cons a r=>exact .inr ⟨_,by simp [Lib.joinTail];rfl⟩
  obtain ⟨f1,f2⟩:=g2 _ hr
  obtain ⟨us,i1,i2⟩:=good_tail Vs (fun x hx=>H x (List.mem_cons_of_mem _ hx)) (posL (stp p 32) V.t)
  refine ⟨⟨V,stp p 32⟩::us, ?_,by rw [List.map_cons,i2];rfl⟩
  rw [e,lexG_blank (by decide),lexG_token f2,f1]
  simp only [ne_eq,not_true_eq_false,if_false,if_neg g1,List.drop_left,i1]
  rfl
theorem textsL_map (l:List Tok):textsL l=((l.map (·.tk)).filter (fun v=>decide (v.k≠3))).map (·.t):=by
 unfold textsL
 rw [List.filter_map,List.map_map]
 rfl
end Go.Proofs.YthcdohggffpopaaGreatDoor
