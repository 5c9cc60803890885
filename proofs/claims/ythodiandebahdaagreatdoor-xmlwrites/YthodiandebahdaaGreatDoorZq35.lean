/- Merged by program: FlPure. -/
import Derived.Test.YthodiandebahdaaGreatDoorZq34
namespace Go.Proofs.YthodiandebahdaaGreatDoor
open Go.RowKit
set_option linter.unusedSimpArgs false
set_option linter.unusedVariables false
set_option maxHeartbeats 8000000
theorem hd0_eq {h h':Hd} (q:hd0 h=hd0 h'):h'={h with names:=h'.names}:=by
 obtain ⟨a1,a2,a3,a4,a5,a6,a7,a8⟩:=h
 obtain ⟨b1,b2,b3,b4,b5,b6,b7,b8⟩:=h'
 simp only [hd0,Hd.mk.injEq] at q ⊢
 obtain ⟨q1,q2,q3,q4,q5,q6,q7,_⟩:=q
 exact ⟨q1.symm,q2.symm,q3.symm,q4.symm,q5.symm,q6.symm,q7.symm,trivial⟩
theorem fl_first:∀ (n:Nat)(x:VT n),IsV n x→∃ t r,fl n x=t :: r∧1≤t.kind∧t.kind≤9
 | 0,x,_=>Empty.elim x
 | n+1,(h,l),hv=>⟨_,_,fl_succ n h l,hv.1.1,hv.1.2.1⟩
theorem fl_inj:∀ (n:Nat)(x y:VT n),IsV n x→IsV n y→∀ r r',fl n x++r=fl n y++r'→x=y∧r=r'
 | 0,x,_,_,_,_,_,_=>Empty.elim x
 | n+1,(h,l),(h',l'),hv,hv',r,r',heq=>by
  have ih:=fl_inj n
  have e0:hd0 h=hd0 h':=by
   rw [fl_succ,fl_succ] at heq
   exact (List.cons.inj heq).1
  have hk:h.kind=h'.kind:=by
   have q:=congrArg Hd.kind e0
   exact q
  have hh:=hd0_eq e0
  by_cases h7:h.kind<7
  ·rw [post_leaf n h l r h7,post_leaf n h' l' r' (by omega)] at heq
   have e1:=(List.cons.inj heq).2
   have l1:l=[]:=by rcases hv.1.2.2.2 with q|q;(have:7≤h.kind:=q;omega);exact q
   have l2:l'=[]:=by rcases hv'.1.2.2.2 with q|q;(have:7≤h'.kind:=q;omega);exact q
   have n1:=strip_names h hv.1.2.2.1 (by omega)
   have n2:=strip_names h' hv'.1.2.2.1 (by omega)
   subst l1 l2
   refine ⟨?_,e1⟩
   rw [n2] at hh
   rw [hh,←n1]
  ·rw [post_zero n h l r h7,post_zero n h' l' r' (by omega)] at heq
   have e1:=(List.cons.inj heq).2
   have key:∀ (d k:Nat),d=l.length - k→k≤l.length→k≤l'.length→l.take k=l'.take k→(h.kind=8→h.names.take k=h'.names.take k)→post n h l r k=post n h' l' r' k→l=l'∧(h.kind=8→h.names=h'.names)∧r=r':=by
    intro d
    induction d with
    | zero =>
     intro k hd k1 k2 t1 t2 hp
     have hkl:k=l.length:=by omega
     by_cases q:k<l'.length
     ·rw [hkl,post_end,←hkl,post_succ n h' l' r' k q] at hp
      have hy:=hv'.2.2 _ (List.getElem_mem q)
      obtain ⟨t,rr,ht,ha,hb⟩:=fl_first n _ hy
      rw [ht] at hp
      by_cases h8:h'.kind=8
      ·unfold preN at hp
       rw [if_pos h8] at hp
       have:=congrArg Hd.kind (List.cons.inj hp).1
       simp [evE,evN,zr] at this
      ·unfold preN at hp
       rw [if_neg h8] at hp
       have:=congrArg Hd.kind (List.cons.inj hp).1
       simp [evE,zr] at this
       omega
     ·have hk2:k=l'.length:=by omega
      rw [hkl,post_end,←hkl,hk2,post_end] at hp
      rw [hkl,List.take_length,←hkl,hk2,List.take_length] at t1
      refine ⟨t1,fun h8=>?_,(List.cons.inj hp).2⟩
      have f1:h.names.length=l.length:=(hv.2.1.2.2.1 h8).1
      have f2:h'.names.length=l'.length:=(hv'.2.1.2.2.1 (hk.symm.trans h8)).1
      have:=t2 h8
      rw [List.take_of_length_le (by omega),List.take_of_length_le (by omega)] at this
      exact this
    | succ d ihd =>
     intro k hd k1 k2 t1 t2 hp
     have q1:k<l.length:=by omega
     rw [post_succ n h l r k q1] at hp
     by_cases q2:k<l'.length
     ·rw [post_succ n h' l' r' k q2] at hp
      have hp2:preN h k=preN h' k∧fl n l[k]++post n h l r (k+1)=fl n l'[k]++post n h' l' r' (k+1):=by
       unfold preN at hp ⊢
       by_cases h8:h.kind=8
       ·rw [if_pos h8,if_pos (hk.symm.trans h8)] at hp ⊢
        have:=List.cons.inj hp
        exact ⟨by rw [this.1],this.2⟩
       ·rw [if_neg h8,if_neg (fun e=>h8 (hk.trans e))] at hp ⊢
        exact ⟨rfl,hp⟩
      obtain ⟨p1,p2⟩:=hp2
      obtain ⟨c1,c2⟩:=ih _ _ (hv.2.2 _ (List.getElem_mem q1)) (hv'.2.2 _ (List.getElem_mem q2)) _ _ p2
      refine ihd (k+1) (by omega) q1 q2 ?_ (fun h8=>?_) c2
      ·rw [List.take_succ_eq_append_getElem q1,List.take_succ_eq_append_getElem q2,t1,c1]
      ·have f1:h.names.length=l.length:=(hv.2.1.2.2.1 h8).1
       have f2:h'.names.length=l'.length:=(hv'.2.1.2.2.1 (hk.symm.trans h8)).1
       unfold preN at p1
       rw [if_pos h8,if_pos (hk.symm.trans h8)] at p1
       have p1':=congrArg Hd.text (List.cons.inj p1).1
       simp only [evN,zr] at p1'
       rw [List.getElem?_eq_getElem (by omega),List.getElem?_eq_getElem (by omega)] at p1'
       have p3:h.names[k]'(by omega)=h'.names[k]'(by omega):=p1'
       rw [List.take_succ_eq_append_getElem (by omega),List.take_succ_eq_append_getElem (by omega),t2 h8,p3]
     ·have hk2:k=l'.length:=by omega
      have hpe:=post_end n h' l' r'
      rw [←hk2] at hpe
      rw [hpe] at hp
      have hy:=hv.2.2 _ (List.getElem_mem q1)
      obtain ⟨t,rr,ht,ha,hb⟩:=fl_first n _ hy
      rw [ht] at hp
      by_cases h8:h.kind=8
      ·unfold preN at hp
       rw [if_pos h8] at hp
       have:=congrArg Hd.kind (List.cons.inj hp).1
       simp [evE,evN,zr] at this
      ·unfold preN at hp
       rw [if_neg h8] at hp
       have:=congrArg Hd.kind (List.cons.inj hp).1
       simp [evE,zr] at this
       omega
   obtain ⟨a1,a2,a3⟩:=key l.length 0 (by simp) (Nat.zero_le _) (Nat.zero_le _) rfl (fun _=>rfl) e1
   refine ⟨?_,a3⟩
   subst a1
   have nn:h.names=h'.names:=by
    by_cases h8:h.kind=8
    ·exact a2 h8
    ·rw [strip_names h hv.1.2.2.1 h8,strip_names h' hv'.1.2.2.1 (fun e=>h8 (hk.trans e))]
   rw [hh,←nn]
end Go.Proofs.YthodiandebahdaaGreatDoor
