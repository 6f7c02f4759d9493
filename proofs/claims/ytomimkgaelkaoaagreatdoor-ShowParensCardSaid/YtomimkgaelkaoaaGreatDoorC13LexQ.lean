/- Layer 6, the mathematics of the laws: how many tokens there are; what joined texts are read as. No program. -/
import Derived.Test.YtomimkgaelkaoaaGreatDoorC13LexP
set_option linter.unusedVariables false
set_option linter.unusedSimpArgs false
namespace Go.Proofs.YtomimkgaelkaoaaGreatDoor
theorem LR.cons_ok {x:Tok} {r:LR} {ts:List Tok} (h:r.cons x= .ok ts): ∃u,r= .ok u∧ts=x::u:=by
 cases r with
 |ok u=>exact ⟨u,rfl,by simpa [LR.cons] using h.symm⟩
 |bad p e=>cases h
def sumL:List Tok→Nat
 | []=>0
 |t::r=>t.tk.t.length+sumL r
theorem lexG_all: ∀(n:Nat) (b:Bool) (p:Ps) (l:List UInt8) (ts:List Tok),l.length≤n→lexG b p l= .ok ts→
  ts.length≤l.length+1∧sumL ts≤l.length∧∀t∈ts,t.tk.k≠3→t.tk.t≠ []:=by
 intro n
 induction n with
 |zero=>
  intro b p l ts hl h
  obtain rfl:l= []:=List.eq_nil_of_length_eq_zero (by omega)
  rw [lexG_nil] at h
  cases h
  exact ⟨by simp,by simp [sumL,tkEnd],by simp [tkEnd]⟩
 |succ n ih=>
  intro b p l ts hl h
  rw [lexG_eq] at h
  by_cases he:(firstL (skipM b l)).2≠0
  ·rw [if_pos he] at h;cases h
  ·rw [if_neg he] at h
   have he0:(firstL (skipM b l)).2=0:=by simpa using he
   by_cases h3:(firstL (skipM b l)).1.k=3
   ·rw [if_pos h3] at h
    have:=firstL_three he0 h3
    rw [this] at h
    cases h
    exact ⟨by simp,by simp [sumL,firstL_nil,tkEnd],by simp [firstL_nil,tkEnd]⟩
   ·rw [if_neg h3] at h
    have hne:skipM b l≠ []:=fun e=>h3 (by rw [e];rfl)
    obtain ⟨o1,o2,o3⟩:=firstL_ok he0 hne
    have hs:=skipM_len b l
    have hp:=o3.length_le
    have hz:(firstL (skipM b l)).1.t.length≠0:=by simpa using o2
    obtain ⟨u,hu,rfl⟩:=LR.cons_ok h
    obtain ⟨i1,i2,i3⟩:=ih _ _ _ u (by rw [List.length_drop];omega) hu
    rw [List.length_drop] at i1 i2
    refine ⟨by rw [List.length_cons];omega,by simp only [sumL];omega, ?_⟩
    intro t ht
    rcases List.mem_cons.1 ht with rfl|ht
    ·exact fun _=>o2
    ·exact i3 t ht
theorem lexL_all {s:List UInt8} {ts:List Tok} (h:lexL s= .ok ts):ts.length≤16385∧sumL ts≤16384∧∀t∈ts,t.tk.k≠3→t.tk.t≠ []:=by
 unfold lexL at h
 by_cases hs:16384<s.length
 ·rw [if_pos hs] at h;cases h
 ·rw [if_neg hs] at h
  obtain ⟨h1,h2,h3⟩:=lexG_all _ _ _ s ts (Nat.le_refl _) h
  exact ⟨by omega,by omega,h3⟩
end Go.Proofs.YtomimkgaelkaoaaGreatDoor
