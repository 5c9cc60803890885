/- Merged by program: FbParse. -/
import Derived.Test.YtdgehngffccjaaaGreatDoorZx22
namespace Go.Proofs.YtdgehngffccjaaaGreatDoor
open Go.RowKit
set_option linter.unusedSimpArgs false
set_option linter.unusedVariables false
set_option maxHeartbeats 8000000
def Prt (N j:Nat) (p:Pa) (busy:Bool) (es:List Hd):Prop :=
 ∃ (n:Nat) (h:Hd) (l:List (VT n)),j + (n + 1)=N∧h.kind=p.1∧7≤p.1∧p.1≤9∧strip h=zr p.1∧h.names=p.2.2∧(p.1≠8→p.2.2=[])∧(p.1=9→okT h.text=true)∧(p.1=8→Nms p.2.2)∧(∀ y∈l,IsV n y) ∧
  (p.1=8→p.2.2.length=l.length + (if p.2.1 || busy then 1 else 0))∧(p.1=9→l.length=if p.2.1 || busy then 0 else 1)∧(busy=true→p.2.1=false)∧(p.1=7→p.2.1=false) ∧
  es=hd0 h :: (kids n h l l.length++(if p.2.1 || busy then preN h l.length else []))
def Rep (N:Nat):List Pa→Bool→List Hd→Prop
 | [],_,es=>es=[]
 | p :: r,busy,es=>∃ es0 e1,es=es0++e1∧Rep N r true es0∧Prt N r.length p busy e1
def Inv (N:Nat) (st:List Pa) (bg:Bool) (es:List Hd):Prop :=
 (st=[]∧bg=false∧es=[])∨(st=[]∧bg=true∧∃ x:VT N,IsV N x∧es=fl N x)∨(st≠[]∧bg=true∧Rep N st false es)
theorem kids_same (n:Nat) (h h':Hd) (l l':List (VT n)) (k:Nat) (hk:h'.kind=h.kind) (hn:∀ i,i<k→h'.names[i]?=h.names[i]?) (hl:∀ i,i<k→l'[i]?=l[i]?):kids n h' l' k=kids n h l k:=by
 unfold kids
 congr 1
 refine List.map_congr_left fun i hi=>?_
 have hi':i<k:=List.mem_range.1 hi
 unfold kid preN
 rw [hk,hn i hi',hl i hi']
theorem child_done (N:Nat) (r:List Pa) (es0:List Hd) (n:Nat) (c:VT n) (hn:r.length + n=N) (hc:IsV n c) (hr:Rep N r true es0):Inv N r true (es0++fl n c):=by
 cases r with
 | nil =>
  have e:es0=[]:=hr
  have hn':n=N:=by simpa using hn
  subst hn'
  rw [e]
  exact Or.inr (Or.inl ⟨rfl,rfl,c,hc,rfl⟩)
 | cons p r =>
  obtain ⟨a,e1,rfl,hr',m,h,l,q1,q2,q3,q4,q5,q6,q7,q8,q9,q10,q11,q12,q13,q14,rfl⟩:=hr
  have hm:m=n:=by simp at hn;omega
  subst hm
  have hw:=q13 rfl
  simp only [hw,Bool.false_or,if_true,Bool.or_true] at q11 q12 ⊢
  refine Or.inr (Or.inr ⟨by simp,rfl,a,(hd0 h :: (kids m h l l.length++preN h l.length))++fl m c,by simp,hr',m,h,l++[c],q1,q2,q3,q4,q5,q6,q7,q8,q9,?_,?_,?_,fun e=>(by cases e),q14,?_⟩)
  ·intro y hy
   rcases List.mem_append.1 hy with q|q
   ·exact q10 y q
   ·rw [List.mem_singleton.1 q];exact hc
  ·intro e;rw [q11 e,hw];simp
  ·intro e;rw [hw];simp [q12 e]
  ·rw [hw]
   simp only [List.length_append,List.length_cons,List.length_nil,Nat.zero_add,Bool.or_self,if_false,List.append_nil,List.cons_append,List.append_assoc]
   congr 1
   rw [kids_succ m h (l++[c]) l.length (by simp),kids_same m h h l (l++[c]) l.length rfl (fun _ _=>rfl) (fun i hi=>by rw [List.getElem?_append_left hi])]
   simp
theorem to_busy {N:Nat} {k:Int} {w:Bool} {ns:List ByteArray} {r:List Pa} {es:List Hd} (h:Rep N ((k,w,ns) :: r) false es) (hw:w=true∨k=7):Rep N ((k,false,ns) :: r) true es:=by
 obtain ⟨a,e1,rfl,hr',n,h,l,q1,q2,q3,q4,q5,q6,q7,q8,q9,q10,q11,q12,q13,q14,rfl⟩:=h
 refine ⟨a,_,rfl,hr',n,h,l,q1,q2,q3,q4,q5,q6,q7,q8,q9,q10,?_,?_,fun _=>rfl,fun _=>rfl,?_⟩
 ·intro e
  rcases hw with rfl|e7
  ·simpa using q11 e
  ·have:k=8:=e;omega
 ·intro e
  rcases hw with rfl|e7
  ·simpa using q12 e
  ·have:k=9:=e;omega
 ·rcases hw with rfl|e7
  ·simp
  ·have hp:preN h l.length=[]:=by unfold preN;rw [if_neg (by rw [q2];show k≠8;omega)]
   have:w=false:=q14 e7
   simp [this,hp]
theorem val_busy {N:Nat} {st st':List Pa} {bg bg':Bool} {es:List Hd} (h:Inv N st bg es) (hv:valE st bg=some (st',bg')):bg'=true∧Rep N st' true es∧st'.length=st.length:=by
 cases st with
 | nil =>
  cases bg with
  | true=>cases hv
  | false =>
   cases hv
   rcases h with ⟨_,_,rfl⟩|⟨_,e,_⟩|⟨e,_⟩
   ·exact ⟨rfl,rfl,rfl⟩
   ·cases e
   ·exact absurd rfl e
 | cons p r =>
  obtain ⟨k,w,ns⟩:=p
  rcases h with ⟨e,_⟩|⟨e,_⟩|⟨_,hb,hr⟩
  ·cases e
  ·cases e
  ·have hv2:(if w=true∨k=7 then some ((k,false,ns) :: r,bg) else none)=some (st',bg'):=hv
   by_cases hw:w=true∨k=7
   ·rw [if_pos hw] at hv2
    cases hv2
    exact ⟨hb,to_busy hr hw,rfl⟩
   ·rw [if_neg hw] at hv2
    cases hv2
theorem may_fields {h:Hd} (hm:May h):(if h.kind=9∨h.kind=10 then ({h with kind:=9}:Hd) else if h.kind=11 then {h with kind:=1} else h).names=[]∧sB (if h.kind=9∨h.kind=10 then {h with kind:=9} else if h.kind=11 then {h with kind:=1} else h)=true:=by
 have:=(mayB_iff h).2 hm
 unfold mayB at this
 exact ⟨((sB_iff _).1 this).2.2.2.1,this⟩
theorem may_10 {h:Hd} (hm:May h) (hk:h.kind=10):h=evN h.text∧okT h.text=true:=by
 have:=(may_fields hm).2
 rw [if_pos (Or.inr hk)] at this
 obtain ⟨_,_,h3,h4,_,_,h7⟩:=(sB_iff _).1 this
 obtain ⟨kd,f,ng,dg,ex,bt,tx,nm⟩:=h
 simp only at hk h4
 subst hk h4
 unfold strip zr at h3
 simp at h3
 obtain ⟨rfl,rfl,rfl,rfl,rfl⟩:=h3
 exact ⟨rfl,h7 rfl⟩
theorem may_11 {h:Hd} (hm:May h) (hk:h.kind=11):h=evE:=by
 have:=(may_fields hm).2
 rw [if_neg (by omega),if_pos hk] at this
 obtain ⟨_,_,h3,h4,_,_,h7⟩:=(sB_iff _).1 this
 obtain ⟨kd,f,ng,dg,ex,bt,tx,nm⟩:=h
 simp only at hk h4
 subst hk h4
 unfold strip zr at h3
 simp at h3
 obtain ⟨rfl,rfl,rfl,rfl,rfl,rfl⟩:=h3
 rfl
theorem may_val {h:Hd} (hm:May h) (h10:h.kind≠10) (h11:h.kind≠11):1≤h.kind∧h.kind≤9∧strip h=zr h.kind∧h.names=[]∧(h.kind=3→isN h.neg h.dig h.exp=true)∧(h.kind=5→okT h.text=true)∧(h.kind=9→okT h.text=true):=by
 have:=(may_fields hm).2
 by_cases h9:h.kind=9
 ·rw [if_pos (Or.inl h9)] at this
  have e:({h with kind:=9}:Hd)=h:=by cases h;simp at h9;subst h9;rfl
  rw [e] at this
  exact (sB_iff _).1 this
 ·rw [if_neg (by omega),if_neg h11] at this
  exact (sB_iff _).1 this
theorem hd0_id {h:Hd} (hn:h.names=[]):hd0 h=h:=by
 obtain ⟨kd,f,ng,dg,ex,bt,tx,nm⟩:=h
 simp only at hn
 subst hn
 rfl
theorem inv_step {N:Nat} {st st':List Pa} {bg bg':Bool} {es:List Hd} {h:Hd} (hN:st.length<N) (hI:Inv N st bg es) (hm:May h) (hs:stepE st bg h=some (st',bg')):Inv N st' bg' (es++[h])∧st'.length≤st.length + 1:=by
 by_cases h10:h.kind=10
 ·obtain ⟨he,hok⟩:=may_10 hm h10
  unfold stepE at hs
  rw [if_pos h10] at hs
  cases st with
  | nil=>cases hs
  | cons p r =>
   obtain ⟨k,w,ns⟩:=p
   by_cases hc:k=8∧w=false∧inN ns h.text=false
   ·have hs2:some ((8,true,ns++[h.text]) :: r,bg)=some (st',bg'):=by
     have:=hs
     simp only [if_pos hc] at this
     exact this
    cases hs2
    obtain ⟨rfl,rfl,hnot⟩:=hc
    rcases hI with ⟨e,_⟩|⟨e,_⟩|⟨_,hb,a,e1,rfl,hr',n,hh,l,q1,q2,q3,q4,q5,q6,q7,q8,q9,q10,q11,q12,q13,q14,rfl⟩
    ·cases e
    ·cases e
    ·have hlen:ns.length=l.length:=by have:=q11 rfl;simpa using this
     have q6':hh.names=ns:=q6
     have hk8:hh.kind=8:=q2
     have hmem:h.text ∉ ns:=fun hin=>by rw [(inN_iff ns h.text).2 hin] at hnot;cases hnot
     obtain ⟨hn1,hn2⟩:=q9 rfl
     refine ⟨Or.inr (Or.inr ⟨by simp,hb,a,_,List.append_assoc _ _ _,hr',n,{hh with names:=ns++[h.text]},l,q1,q2,q3,q4,?_,rfl,fun e=>absurd rfl e,fun e=>(by cases e),fun _=>⟨?_,?_⟩,q10,?_,fun e=>(by cases e),fun e=>(by cases e),fun e=>(by cases e),?_⟩),by simp⟩
     ·have q5':strip hh=zr 8:=q5
      unfold strip zr at q5' ⊢
      simp [hk8] at q5' ⊢
      exact q5'
     ·intro s hs'
      rcases List.mem_append.1 hs' with q|q
      ·exact hn1 s q
      ·rw [List.mem_singleton.1 q];exact hok
     ·rw [List.nodup_append]
      exact ⟨hn2,by simp,fun x hx y hy=>by rw [List.mem_singleton.1 hy];rintro rfl;exact hmem hx⟩
     ·intro _;simp [hlen]
     ·have hk1:kids n {hh with names:=ns++[h.text]} l l.length=kids n hh l l.length:=kids_same n hh _ l l l.length rfl (fun i hi=>by show (ns++[h.text])[i]?=hh.names[i]?;rw [q6',List.getElem?_append_left (by omega)]) (fun _ _=>rfl)
      have hp1:preN {hh with names:=ns++[h.text]} l.length=[h]:=by
       unfold preN
       rw [if_pos hk8]
       show [evN (((ns++[h.text])[l.length]?).getD ByteArray.empty)]=[h]
       rw [←hlen]
       simp [←he]
      simp only [Bool.or_false,Bool.or_self,if_true,Bool.false_eq_true,if_false,List.append_nil,hk1,hp1]
      rfl
   ·simp only [if_neg hc] at hs
    cases hs
 ·by_cases h11:h.kind=11
  ·have he:=may_11 hm h11
   unfold stepE at hs
   rw [if_neg h10,if_pos h11] at hs
   cases st with
   | nil=>cases hs
   | cons p r =>
    obtain ⟨k,w,ns⟩:=p
    cases w with
    | true=>cases hs
    | false =>
     cases hs
     rcases hI with ⟨e,_⟩|⟨e,_⟩|⟨_,hb,a,e1,rfl,hr',n,hh,l,q1,q2,q3,q4,q5,q6,q7,q8,q9,q10,q11,q12,q13,q14,rfl⟩
     ·cases e
     ·cases e
     ·subst hb
      have q2:hh.kind=k:=q2
      have q3:7≤k:=q3
      have q4:k≤9:=q4
      have q5:strip hh=zr k:=q5
      have q6:hh.names=ns:=q6
      have hv:IsV (n + 1) ((hh,l):VT (n + 1)):=by
       refine ⟨⟨by show 1≤hh.kind;omega,by show hh.kind≤9;omega,by show strip hh=zr hh.kind;rw [q2];exact q5,Or.inl (by show 7≤hh.kind;omega)⟩,⟨fun e=>?_,fun e=>?_,fun e=>?_,fun e=>?_⟩,q10⟩
       ·have:hh.kind=3:=e;omega
       ·have:hh.kind=5:=e;omega
       ·have e8:k=8:=q2.symm.trans e
        refine ⟨?_,?_⟩
        ·show hh.names.length=l.length
         rw [q6];have:=q11 e8;simpa using this
        ·show Nms hh.names
         rw [q6];exact q9 e8
       ·have e9:k=9:=q2.symm.trans e
        exact ⟨q8 e9,by have:=q12 e9;simpa using this⟩
      have hfl:fl (n + 1) ((hh,l):VT (n + 1))=hd0 hh :: (kids n hh l l.length++[evE]):=by rw [fl_succ,if_neg (by omega)]
      have hd:=child_done N _ a (n + 1) (hh,l) q1 hv hr'
      rw [hfl] at hd
      refine ⟨?_,by simp;omega⟩
      rw [he]
      simpa using hd
  ·obtain ⟨m1,m2,m3,m4,m5,m6,m7⟩:=may_val hm h10 h11
   unfold stepE at hs
   rw [if_neg h10,if_neg h11] at hs
   cases hv:valE st bg with
   | none=>rw [hv] at hs;cases hs
   | some x =>
    obtain ⟨s1,b1⟩:=x
    rw [hv] at hs
    have hs2:some (newE h.kind++s1,b1)=some (st',bg'):=hs
    cases hs2
    obtain ⟨hb,hrep,hlen⟩:=val_busy hI hv
    subst hb
    obtain ⟨n,hn⟩:∃ n,s1.length + (n + 1)=N:=⟨N - s1.length - 1,by omega⟩
    by_cases h7:h.kind<7
    ·have hnew:newE h.kind=[]:=by unfold newE;rw [if_neg (by omega),if_neg (by omega),if_neg (by omega)]
     rw [hnew]
     have hv2:IsV (n + 1) ((h,[]):VT (n + 1)):=⟨⟨m1,m2,m3,Or.inr rfl⟩,⟨m5,m6,fun e=>(by have:h.kind=8:=e;omega),fun e=>(by have:h.kind=9:=e;omega)⟩,fun y hy=>(by cases hy)⟩
     have hd:=child_done N s1 es (n + 1) (h,[]) hn hv2 hrep
     rw [fl_succ,if_pos h7,hd0_id m4] at hd
     exact ⟨hd,by simp;omega⟩
    ·have hk:h.kind=7∨h.kind=8∨h.kind=9:=by omega
     have hnew:newE h.kind=[(h.kind,decide (h.kind=9),[])]:=by
      rcases hk with e|e|e <;> rw [e] <;> rfl
     rw [hnew]
     refine ⟨Or.inr (Or.inr ⟨by simp,rfl,es,[h],rfl,hrep,n,h,[],hn,rfl,by show 7≤h.kind;omega,m2,m3,m4,fun _=>rfl,m7,fun _=>⟨fun s hs'=>(by cases hs'),List.nodup_nil⟩,fun y hy=>(by cases hy),?_,?_,fun e=>(by cases e),?_,?_⟩),by simp;omega⟩
     ·intro e
      have e8:h.kind=8:=e
      simp [e8]
     ·intro e
      have e9:h.kind=9:=e
      simp [e9]
     ·intro e
      have e7:h.kind=7:=e
      simp [e7]
     ·have hp:(if (decide (h.kind=9) || false)=true then preN h 0 else [])=[]:=by
       by_cases e9:h.kind=9
       ·simp only [e9,decide_true,Bool.true_or,if_true]
        unfold preN
        rw [if_neg (by omega)]
       ·simp [e9]
      show [h]=hd0 h :: (kids n h [] 0++(if (decide (h.kind=9) || false)=true then preN h 0 else []))
      rw [hp,kids_zero,hd0_id m4]
      rfl
theorem run_inv (N:Nat):∀ (k:Nat) (es:List Hd),es.length=k→k≤N→∀ (st:List Pa) (bg:Bool),runE es=some (st,bg)→Inv N st bg es∧st.length≤es.length:=by
 intro k
 induction k with
 | zero =>
  intro es hl _ st bg hr
  have e:es=[]:=List.eq_nil_of_length_eq_zero hl
  subst e
  have:some (([]:List Pa),false)=some (st,bg):=hr
  cases this
  exact ⟨Or.inl ⟨rfl,rfl,rfl⟩,by simp⟩
 | succ k ih =>
  intro es hl hN st bg hr
  rcases List.eq_nil_or_concat es with rfl|⟨p,h,rfl⟩
  ·cases hl
  ·rw [List.concat_eq_append] at hl hr ⊢
   have hp:p.length=k:=by simpa using hl
   have hr2:feedE (runE p) (mayB h) h=some (st,bg):=by
    unfold runE at hr ⊢
    rw [runS_app] at hr
    exact hr
   cases hq:runE p with
   | none=>rw [hq,feedE_none] at hr2;cases hr2
   | some x =>
    obtain ⟨s0,b0⟩:=x
    rw [hq] at hr2
    cases hmb:mayB h with
    | false=>rw [hmb] at hr2;cases hr2
    | true =>
     have hm:=(mayB_iff h).1 hmb
     rw [feedE_ok hm] at hr2
     obtain ⟨h1,h2⟩:=ih p hp (by omega) s0 b0 hq
     obtain ⟨h3,h4⟩:=inv_step (by omega) h1 hm hr2
     exact ⟨h3,by simp;omega⟩
theorem parse (es:List Hd) (hd:runE es=some ([],true)):∃ x:VT es.length,IsV es.length x∧es=fl es.length x:=by
 obtain ⟨h,_⟩:=run_inv es.length es.length es rfl (Nat.le_refl _) [] true hd
 rcases h with ⟨_,e,_⟩|⟨_,_,x,h1,h2⟩|⟨e,_⟩
 ·cases e
 ·exact ⟨x,h1,h2⟩
 ·exact absurd rfl e
end Go.Proofs.YtdgehngffccjaaaGreatDoor
