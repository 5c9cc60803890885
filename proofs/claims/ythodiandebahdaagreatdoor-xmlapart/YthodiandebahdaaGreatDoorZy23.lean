/- Merged by program: RoRound. -/
import Derived.Test.YthodiandebahdaaGreatDoorZy15
import Derived.Test.YthodiandebahdaaGreatDoorZy07
namespace Go.Proofs.YthodiandebahdaaGreatDoor
open Go.RowKit
set_option linter.unusedSimpArgs false
set_option linter.unusedVariables false
set_option maxHeartbeats 8000000
theorem tw_stop (d r:List UInt8) (hd:allD d=true) (hr:r.takeWhile isDig=[]):(d++r).takeWhile isDig=d∧(d++r).dropWhile isDig=r:=by
 induction d with
 | nil =>
  refine ⟨by simpa using hr,?_⟩
  have:=List.takeWhile_append_dropWhile (p:=isDig) (l:=r)
  rw [hr] at this
  simpa using this
 | cons c d ih =>
  simp only [allD,List.all_cons,Bool.and_eq_true] at hd
  obtain ⟨h1,h2⟩:=ih hd.2
  simp [hd.1,h1,h2]
theorem hdB_cons (c a:UInt8) (l:List UInt8):hdB c (a :: l)=(a==c):=by simp [hdB]
theorem dig_ne {a c:UInt8} (h:isDig a=true) (hc:isDig c=false):(a==c)=false:=by
 rw [beq_eq_false_iff_ne]
 intro e;subst e;rw [h] at hc;cases hc
theorem sgn_hd (n:Bool) (a:UInt8) (l:List UInt8) (h:isDig a=true):hdB 45 (sgnB n++(a :: l))=n∧tlB 45 (sgnB n++(a :: l))=a :: l:=by
 cases n
 ·have e:hdB 45 (a :: l)=false:=by rw [hdB_cons];exact dig_ne h rfl
  exact ⟨e,tlB_no e⟩
 ·exact ⟨rfl,rfl⟩
theorem split_made (n:Bool) (wh r:List UInt8) (hw:allD wh=true) (hb:badW wh=false) (hr:r.takeWhile isDig=[]) :
  splitL (sgnB n++(wh++r))=if hdB 46 r then (if ((tlB 46 r).takeWhile isDig).isEmpty then none else splitT n wh ((tlB 46 r).takeWhile isDig) ((tlB 46 r).dropWhile isDig)) else splitT n wh [] r:=by
 cases wh with
 | nil=>simp [badW] at hb
 | cons a wh =>
  have ha:isDig a=true:=by simp only [allD,List.all_cons,Bool.and_eq_true] at hw;exact hw.1
  obtain ⟨e1,e2⟩:=sgn_hd n a (wh++r) ha
  have e3:=tw_stop (a :: wh) r hw hr
  unfold splitL
  rw [List.cons_append,e1,e2,←List.cons_append,e3.1,e3.2,hb]
  rfl
theorem tw_nil {c:UInt8} {r:List UInt8} (h:isDig c=false):(c :: r).takeWhile isDig=[]:=by simp [h]
theorem split_whole (n:Bool) (wh:List UInt8) (hw:allD wh=true) (hb:badW wh=false):splitL (sgnB n++wh)=some (n,wh,[],false,[]):=by
 have:=split_made n wh [] hw hb rfl
 rw [List.append_nil] at this
 rw [this]
 rfl
theorem split_point (n:Bool) (wh fr l4:List UInt8) (hw:allD wh=true) (hb:badW wh=false) (hf:allD fr=true) (hne:fr≠[]) (h4:l4.takeWhile isDig=[]) :
  splitL (sgnB n++(wh++46 :: (fr++l4)))=splitT n wh fr l4:=by
 rw [split_made n wh _ hw hb (tw_nil rfl),if_pos (by rw [hdB_cons];rfl)]
 have e:tlB 46 (46 :: (fr++l4))=fr++l4:=rfl
 obtain ⟨e1,e2⟩:=tw_stop fr l4 hf h4
 rw [e,e1,e2,if_neg (by cases fr <;> simp_all)]
theorem split_pow (n:Bool) (wh r:List UInt8) (hw:allD wh=true) (hb:badW wh=false):splitL (sgnB n++(wh++101 :: r))=splitT n wh [] (101 :: r):=by
 rw [split_made n wh _ hw hb (tw_nil rfl),if_neg (by rw [hdB_cons];decide)]
set_option maxRecDepth 100000 in
theorem dec_facts:∀ u<440,pwA 0 (Lib.decDigits u)=u∧allD (Lib.decDigits u)=true∧(Lib.decDigits u).isEmpty=false∧(Lib.decDigits u).length≤4∧hdB 43 (Lib.decDigits u)=false∧hdB 45 (Lib.decDigits u)=false:=by decide +kernel
theorem itoa_split (n:Bool) (wh fr:List UInt8) (p:Int) (h1:-439≤p) (h2:p≤439):∃ pn pw,splitT n wh fr (101 :: Lib.itoa p)=some (n,wh,fr,pn,pw)∧powF pn pw=p∧(Lib.itoa p).length≤5:=by
 by_cases h:p<0
 ·obtain ⟨u,rfl⟩:∃ u:Nat,p=-(u:Int):=⟨p.natAbs,by omega⟩
  have hu:1≤u:=by omega
  obtain ⟨a1,a2,a3,a4,a5,a6⟩:=dec_facts u (by omega)
  rw [Lib.itoa_neg u hu]
  refine ⟨true,Lib.decDigits u,?_,?_,by simp;omega⟩
  ·have e1:spL (45 :: Lib.decDigits u)=Lib.decDigits u:=rfl
   have e2:spPn (45 :: Lib.decDigits u)=true:=rfl
   have e3:spOk (45 :: Lib.decDigits u)=true:=by unfold spOk;rw [e1,a2,a3];rfl
   simp [splitT,e1,e2,e3]
  ·simp [powF,a1]
 ·obtain ⟨u,rfl⟩:∃ u:Nat,p=(u:Int):=⟨p.toNat,by omega⟩
  obtain ⟨a1,a2,a3,a4,a5,a6⟩:=dec_facts u (by omega)
  rw [Lib.itoa_nonneg u]
  refine ⟨false,Lib.decDigits u,?_,?_,by omega⟩
  ·have e1:spL (Lib.decDigits u)=Lib.decDigits u:=by unfold spL;rw [a5];exact tlB_no a6
   have e2:spPn (Lib.decDigits u)=false:=by unfold spPn;rw [a5];exact a6
   have e3:spOk (Lib.decDigits u)=true:=by unfold spOk;rw [e1,a2,a3];rfl
   simp [splitT,e1,e2,e3]
  ·simp [powF,a1]
theorem dlu_app (a b:List UInt8):dlu (a++b)=dlu a++dlu b:=by simp [dlu]
theorem dlu_rep (k:Nat):dlu (List.replicate k 48)=List.replicate k 0:=by simp [dlu]
theorem val_rep_left (k:Nat) (l:List Nat):val (List.replicate k 0++l)=val l:=by rw [val_append,val_zeros];simp
theorem val_rep_right (k:Nat) (l:List Nat):val (l++List.replicate k 0)=val l * 10 ^ k:=by rw [val_append,val_zeros];simp
theorem parse_of (n:Bool) (s:ByteArray) (x:Int) (h:isN n s x=true) (l:List UInt8) (hl:l.length≤512) (wh fr:List UInt8) (pn:Bool) (pw:List UInt8) (hs:splitL l=some (n,wh,fr,pn,pw))
  (hx:-400≤powF pn pw - fr.length) (hv:val (dlu wh++dlu fr) * 10 ^ (powF pn pw - fr.length + 400).toNat=val (dg s) * 10 ^ (x + 400).toNat):parseF l=(n,s,x,0):=by
 obtain ⟨f1,f2,_⟩:=splitL_facts hs
 have hD:Dgs (dlu wh++dlu fr):=by
  intro d hd
  rcases List.mem_append.1 hd with q|q
  ·exact dlu_dgs wh f1 d q
  ·exact dlu_dgs fr f2 d q
 have e:parseF l=formF n (dlu wh++dlu fr) (powF pn pw - fr.length):=by
  unfold parseF
  rw [hs]
  simp only
  rw [if_neg (by omega)]
 rw [e]
 have h1:=formF_sum n (dlu wh++dlu fr) (powF pn pw - fr.length) hD hx
 rw [hv] at h1
 refine isSum_unique h1 (Or.inl ⟨rfl,h,?_⟩)
 show Zv n s x=_
 unfold Zv mag
 rfl
theorem dlu_bl (s:ByteArray):dlu (bl s)=dg s:=rfl
theorem allD_app (a b:List UInt8):allD (a++b)=(allD a && allD b):=by simp [allD]
theorem allD_rep (k:Nat):allD (List.replicate k 48)=true:=by
 simp only [allD,List.all_eq_true];intro c hc;rw [List.eq_of_mem_replicate hc];rfl
theorem badW_head (a:UInt8) (l:List UInt8) (h:a≠48):badW (a :: l)=false:=by simp [badW,h]
theorem sgn_len (n:Bool):(sgnB n).length≤1:=by cases n <;> simp [sgnB]
theorem parse_print_o (n:Bool) (s:ByteArray) (x:Int) (h:isO (bl s) x=true):parseF (printL n (bl s) x)=(n,s,x,0):=by
 have hN:isN n s x=true:=by simp [isN,h]
 obtain ⟨b1,b2,b3,b4,b5,b6,b7⟩:=isO_facts h
 have hhd:(bl s).head?≠some 48:=by simp only [isO,Bool.and_eq_true,bne_iff_ne] at h;exact h.1.2
 have hdl:=dlu_bl s
 have hll:=bl_length s
 generalize hl:bl s=l at *
 cases l with
 | nil=>simp at hll;omega
 | cons a r =>
  have ha:a≠48:=by simpa using hhd
  have had:isDig a=true∧allD r=true:=by simpa only [allD,List.all_cons,Bool.and_eq_true] using b5
  have hsg:=sgn_len n
  unfold printL
  by_cases hp:0≤x∧((a :: r).length:Int) + x≤21
  ·rw [if_pos hp]
   have hw:allD (a :: r++List.replicate x.toNat 48)=true:=by rw [allD_app,b5,allD_rep];rfl
   refine parse_of n s x hN _ ?_ _ _ _ _ (split_whole n _ hw (badW_head a _ ha)) ?_ ?_
   ·simp at hp ⊢;omega
   ·simp [powF,pwA]
   ·simp only [powF,pwA,List.length_nil,dlu,List.map_nil,List.append_nil]
    rw [show List.map (fun c:UInt8=>c.toNat - 48) (a :: r++List.replicate x.toNat 48)=dg s++List.replicate x.toNat 0 by rw [←hdl];exact (dlu_app _ _).trans (by rw [dlu_rep]),val_rep_right,Nat.mul_assoc,←Nat.pow_add]
    congr 2
    simp
    omega
  ·rw [if_neg hp]
   by_cases hq:x<0∧-21≤x
   ·rw [if_pos hq]
    obtain ⟨bh,rfl⟩:∃ bh:Nat,x=-(bh:Int):=⟨(-x).toNat,by omega⟩
    rw [Int.neg_neg,Int.toNat_natCast]
    unfold pointed
    by_cases hk:(a :: r).length≤bh
    ·rw [if_pos hk]
     have hf:allD (List.replicate (bh - (a :: r).length) 48++(a :: r))=true:=by rw [allD_app,b5,allD_rep];rfl
     have e:=split_point n [48] (List.replicate (bh - (a :: r).length) 48++(a :: r)) [] rfl rfl hf (by simp) rfl
     rw [List.append_nil] at e
     have fl:(List.replicate (bh - (a :: r).length) (48:UInt8)++(a :: r)).length=bh:=by simp at hk ⊢;omega
     refine parse_of n s _ hN _ ?_ _ _ _ _ e ?_ ?_
     ·simp at hk ⊢;omega
     ·rw [fl];simp [powF,pwA];omega
     ·rw [fl,dlu_app,dlu_rep,hdl]
      show val ([0]++_) * _=_
      rw [show ([0]:List Nat)=List.replicate 1 0 from rfl,val_rep_left,val_rep_left]
      simp [powF,pwA]
    ·rw [if_neg hk]
     have hta:(a :: r).take ((a :: r).length - bh)=a :: r.take (r.length - bh):=by
      rw [show (a :: r).length - bh=(r.length - bh) + 1 by simp at hk ⊢;omega];rfl
     have hsp:(a :: r).take ((a :: r).length - bh)++(a :: r).drop ((a :: r).length - bh)=a :: r:=List.take_append_drop _ _
     have hd1:allD ((a :: r).take ((a :: r).length - bh))=true∧allD ((a :: r).drop ((a :: r).length - bh))=true:=by
      have:=allD_app ((a :: r).take ((a :: r).length - bh)) ((a :: r).drop ((a :: r).length - bh))
      rw [hsp,b5] at this
      simpa using this.symm
     have fl:((a :: r).drop ((a :: r).length - bh)).length=bh:=by rw [List.length_drop];omega
     have e:=split_point n ((a :: r).take ((a :: r).length - bh)) ((a :: r).drop ((a :: r).length - bh)) [] hd1.1 (by rw [hta];exact badW_head a _ ha) hd1.2 (by intro q;rw [q] at fl;simp at fl;omega) rfl
     rw [List.append_nil] at e
     refine parse_of n s _ hN _ ?_ _ _ _ _ e ?_ ?_
     ·have:=congrArg List.length hsp
      simp only [List.length_append,List.length_cons] at this ⊢ hll
      omega
     ·rw [fl];simp [powF,pwA];omega
     ·rw [fl,←dlu_app,hsp,hdl]
      simp [powF,pwA]
   ·rw [if_neg hq]
    have hxr:¬ (x<0∧-21≤x):=hq
    unfold powered
    have hlr:((a :: r).length:Int)=r.length + 1:=by simp
    have hb39:(r.length:Int)≤39:=by simp at hll;omega
    obtain ⟨pn,pw,e1,e2,e3⟩:=itoa_split n [a] r (x + ((a :: r).length:Int) - 1) (by omega) (by omega)
    have hA:allD [a]=true:=by simp [allD,had.1]
    generalize Lib.itoa (x + ((a :: r).length:Int) - 1)=I at *
    have key:∀ t:List UInt8,t.length≤512→splitL t=some (n,[a],r,pn,pw)→parseF t=(n,s,x,0):=by
     intro t ht hs
     refine parse_of n s x hN t ht _ _ _ _ hs ?_ ?_
     ·rw [e2,hlr];omega
     ·rw [e2,←dlu_app,show [a]++r=a :: r from rfl,hdl,hlr]
      congr 2
      congr 1
      omega
    by_cases h1:1<(a :: r).length
    ·rw [if_pos h1]
     refine key _ ?_ ?_
     ·simp at hll ⊢;omega
     ·show splitL (sgnB n++([a]++46 :: r++101 :: _))=_
      rw [←e1,←split_point n [a] r (101 :: I) hA (badW_head a _ ha) had.2 (by intro q;subst q;simp at h1) (tw_nil rfl)]
      simp
    ·have hr:r=[]:=List.length_eq_zero_iff.1 (by simp only [List.length_cons] at h1;omega)
     rw [if_neg h1]
     subst hr
     refine key _ ?_ ?_
     ·simp at hll ⊢;omega
     ·show splitL (sgnB n++([a]++[]++101 :: _))=_
      rw [←e1,List.append_nil]
      exact split_pow n [a] _ hA (badW_head a _ ha)
theorem parse_print (n:Bool) (s:ByteArray) (x:Int) (h:isN n s x=true):parseF (printL n (bl s) x)=(n,s,x,0):=by
 cases hz:isZ n s x
 ·exact parse_print_o n s x (by simpa [isN,hz] using h)
 ·obtain ⟨h1,h2,h3⟩:=isZ_facts hz
  have hs:s=mkB [48]:=by rw [←h2,mkB_bl]
  subst h1 h3 hs
  decide +kernel
end Go.Proofs.YthodiandebahdaaGreatDoor
