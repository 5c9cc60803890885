/- Merged by program: BjTally. -/
import Derived.Test.YthodiandebahdaaGreatDoorZy35
namespace Go.Proofs.YthodiandebahdaaGreatDoor
open Go.RowKit
set_option linter.unusedSimpArgs false
set_option linter.unusedVariables false
set_option maxHeartbeats 8000000
def begV (p:List Tp):Bool:=match p.getLast? with
 | none=>false
 | some q=>decide (q.kind=7)
def bm (p:List Tp):List Tp:=if begV p then bmp p else p
theorem begs_val (p:List Tp) (k:Int) (h:k≠10):begs p k=begV p:=by
 unfold begs begV
 cases p.getLast? with
 | none=>rfl
 | some q=>simp [h]
theorem begV_snoc (q:List Tp) (k:Int) (i:Nat):begV (q++[⟨k,i⟩])=decide (k=7):=by simp [begV]
theorem few_snoc (q:List Tp) (k:Int) (i:Nat):few (q++[⟨k,i⟩])=decide (i<256):=by simp [few]
theorem bm_7 (q:List Tp) (i:Nat):bm (q++[⟨7,i⟩])=q++[⟨7,i + 1⟩]:=by
 unfold bm;rw [begV_snoc,if_pos (by decide),bmp_last]
theorem bm_o (q:List Tp) (k:Int) (i:Nat) (h:k≠7):bm (q++[⟨k,i⟩])=q++[⟨k,i⟩]:=by
 unfold bm;rw [begV_snoc,if_neg (by simpa using h)]
theorem bm_len (p:List Tp):(bm p).length=p.length:=by
 unfold bm
 split
 ·unfold bmp
  rcases List.eq_nil_or_concat p with rfl|⟨q,a,rfl⟩
  ·rfl
  ·simp
 ·rfl
theorem runT_one (z:Nat) (p:List Tp) (e:Hd):runT (some (z,p)) [e]=takeT z p e:=rfl
theorem take_head (z:Nat) (p:List Tp) (h:Hd) (h1:h.kind≠10) (h2:h.kind≠11) (t':Nat×List Tp) :
  takeT z p h=some t'↔(h.text.size:Int)≤lng h.kind∧z + wan h.kind≤4096∧p.length + wan h.kind≤16∧(begV p=true→few p=true)∧t'=(if h.kind=7∨h.kind=8∨h.kind=9 then (z + 1,bm p++[⟨h.kind,0⟩]) else (z + 1,bm p)):=by
 unfold takeT
 rw [if_neg h2]
 have hc:cnt z p h.kind=(if h.kind=7∨h.kind=8∨h.kind=9 then (z + 1,bm p++[⟨h.kind,0⟩]) else (z + 1,bm p)):=by
  unfold cnt
  simp only [begs_val p h.kind h1,if_neg h1]
  rfl
 have hr:rom z p h.kind=true↔z + wan h.kind≤4096∧p.length + wan h.kind≤16∧(begV p=true→few p=true):=by
  unfold rom
  rw [begs_val p h.kind h1]
  simp only [Bool.and_eq_true,decide_eq_true_eq,Bool.or_eq_true,Bool.not_eq_true',and_assoc]
  constructor
  ·rintro ⟨a,b,c⟩
   refine ⟨a,b,fun q=>?_⟩
   rcases c with c|c
   ·rw [q] at c;cases c
   ·exact c
  ·rintro ⟨a,b,c⟩
   refine ⟨a,b,?_⟩
   cases hq:begV p with
   | false=>exact Or.inl rfl
   | true=>exact Or.inr (c hq)
 rw [hc]
 by_cases ht:(h.text.size:Int)≤lng h.kind
 ·rw [if_pos ht]
  by_cases hq:rom z p h.kind=true
  ·rw [if_pos hq]
   have:=hr.1 hq
   constructor
   ·intro e;exact ⟨ht,this.1,this.2.1,this.2.2,(Option.some.inj e).symm⟩
   ·rintro ⟨_,_,_,_,rfl⟩;rfl
  ·rw [if_neg hq]
   constructor
   ·intro e;cases e
   ·rintro ⟨_,a,b,c,_⟩;exact absurd (hr.2 ⟨a,b,c⟩) hq
 ·rw [if_neg ht]
  constructor
  ·intro e;cases e
  ·rintro ⟨a,_⟩;exact absurd a ht
theorem take_name (z:Nat) (q:List Tp) (i:Nat) (s:ByteArray) (t':Nat×List Tp) :
  takeT z (q++[⟨8,i⟩]) (evN s)=some t'↔s.size≤64∧z + 1≤4096∧q.length + 2≤16∧i<256∧t'=(z,q++[⟨8,i + 1⟩]):=by
 unfold takeT
 have hk:(evN s).kind=10:=rfl
 have hx:(evN s).text=s:=rfl
 rw [hk,hx,if_neg (by decide)]
 have hc:cnt z (q++[⟨8,i⟩]) 10=(z,q++[⟨8,i + 1⟩]):=by
  unfold cnt
  have:begs (q++[⟨8,i⟩]) 10=true:=by rw [begs_last];rfl
  simp only [this,if_pos,bmp_last]
 have hr:rom z (q++[⟨8,i⟩]) 10=true↔z + 1≤4096∧q.length + 2≤16∧i<256:=by
  unfold rom
  have hb:begs (q++[⟨8,i⟩]) 10=true:=by rw [begs_last];rfl
  have hw:wan 10=1:=by decide
  rw [hb,few_snoc,hw]
  simp [and_assoc]
 rw [hc]
 have hl:lng 10=64:=by decide
 rw [hl]
 by_cases ht:(s.size:Int)≤64
 ·rw [if_pos ht]
  by_cases hq:rom z (q++[⟨8,i⟩]) 10=true
  ·rw [if_pos hq]
   have:=hr.1 hq
   constructor
   ·intro e;exact ⟨by omega,this.1,this.2.1,this.2.2,(Option.some.inj e).symm⟩
   ·rintro ⟨_,_,_,_,rfl⟩;rfl
  ·rw [if_neg hq]
   constructor
   ·intro e;cases e
   ·rintro ⟨_,a,b,c,_⟩;exact absurd (hr.2 ⟨a,b,c⟩) hq
 ·rw [if_neg ht]
  constructor
  ·intro e;cases e
  ·rintro ⟨a,_⟩;omega
structure Room (n:Nat) (x:VT n) (z:Nat) (p:List Tp):Prop where
 sht:Sht n x
 sz:z + siz n x≤4096
 dp:p.length + dep n x≤16
 fw:begV p=true→few p=true
def itm (k:Int) (i:Nat):Nat:=if k=9 then 0 else i
def TOk (n:Nat):Prop:=∀ x:VT n,IsV n x→∀ z p,(Room n x z p→runT (some (z,p)) (fl n x)=some (z + siz n x,bm p))∧(∀ t',runT (some (z,p)) (fl n x)=some t'→Room n x z p)
theorem dep_pos:∀ (n:Nat) (x:VT n),1≤dep n x
 | 0,x=>Empty.elim x
 | n + 1,x=>by unfold dep;omega
structure KRoom (n:Nat) (h:Hd) (l:List (VT n)) (k z:Nat) (q:List Tp):Prop where
 sht:∀ i (hi:i<l.length),i<k→Sht n l[i]
 sz:z + suml ((l.map (siz n)).take k)≤4096
 dp:0<k→q.length + 1 + mxl ((l.map (dep n)).take k)≤16
 ct:h.kind≠9→k≤256
 nm:h.kind=8→∀ i (hi:i<h.names.length),i<k→h.names[i].size≤64
theorem KRoom.less {n:Nat} {h:Hd} {l:List (VT n)} {k z:Nat} {q:List Tp} (hk:k<l.length) (r:KRoom n h l (k + 1) z q):KRoom n h l k z q:=by
 have h1:=suml_take (l.map (siz n)) k (by simpa using hk)
 have h2:=mxl_take (l.map (dep n)) k (by simpa using hk)
 have:=r.sz
 have:=r.dp (by omega)
 refine ⟨fun i hi hk'=>r.sht i hi (by omega),by omega,fun _=>by omega,fun q=>by have:=r.ct q;omega,fun q i hi hk'=>r.nm q i hi (by omega)⟩
section
variable {n : Nat}
theorem kidsT (ok:TOk n) (h:Hd) (l:List (VT n)) (hv:∀ y∈l,IsV n y) (hk:h.kind=7∨h.kind=8∨h.kind=9) (hn:h.kind=8→h.names.length=l.length) (z:Nat) (q:List Tp) (hz:z≤4096) :
  ∀ k,k≤l.length→(KRoom n h l k z q→runT (some (z,q++[⟨h.kind,0⟩])) (kids n h l k)=some (z + suml ((l.map (siz n)).take k),q++[⟨h.kind,itm h.kind k⟩])) ∧
   (∀ t',runT (some (z,q++[⟨h.kind,0⟩])) (kids n h l k)=some t'→KRoom n h l k z q)
 | 0,_=>by
  constructor
  ·intro _
   rw [kids_zero]
   have:itm h.kind 0=0:=by unfold itm;split <;> rfl
   rw [this]
   rfl
  ·intro t' _
   exact ⟨fun i _ h=>absurd h (by omega),by show z + 0≤4096;omega,fun h=>absurd h (by omega),fun _=>by omega,fun _ i _ h=>absurd h (by omega)⟩
 | k + 1,hkl=>by
  obtain ⟨f,c⟩:=kidsT ok h l hv hk hn z q hz k (by omega)
  have hkl':k<l.length:=by omega
  have es:=suml_take (l.map (siz n)) k (by simpa using hkl')
  have ed:=mxl_take (l.map (dep n)) k (by simpa using hkl')
  simp only [List.getElem_map] at es ed
  have hp:=siz_pos n l[k]
  have hd:=dep_pos n l[k]
  obtain ⟨okf,okc⟩:=(fun z p=>ok l[k] (hv _ (List.getElem_mem _)) z p:∀ z p,_)  |> fun g=>(⟨fun z p=>(g z p).1,fun z p=>(g z p).2⟩:(∀ z p,Room n l[k] z p→_)∧(∀ z p t',runT (some (z,p)) (fl n l[k])=some t'→Room n l[k] z p))
  rw [kids_succ n h l k hkl',List.append_assoc,runT_app]
  rcases hk with hk|hk|hk
  ·have hp0:preN h k=[]:=by unfold preN;rw [if_neg (by omega)]
   rw [hp0,List.nil_append]
   rw [hk] at f c ⊢
   have i1:itm 7 k=k:=rfl
   have i2:itm 7 (k + 1)=k + 1:=rfl
   rw [i1] at f
   rw [i2]
   constructor
   ·intro r
    rw [f (r.less hkl')]
    have r2:Room n l[k] (z + suml ((l.map (siz n)).take k)) (q++[⟨7,k⟩]):=⟨r.sht k hkl' (by omega),by have:=r.sz;omega,by have:=r.dp (by omega);simp only [List.length_append,List.length_singleton];omega,fun _=>by rw [few_snoc];have:=r.ct (by omega);exact decide_eq_true (by omega)⟩
    rw [okf _ _ r2,bm_7,es,Nat.add_assoc]
   ·intro t' ht
    cases e1:runT (some (z,q++[⟨7,0⟩])) (kids n h l k) with
    | none=>rw [e1,runT_none] at ht;cases ht
    | some t1 =>
     have r1:=c t1 e1
     rw [f r1] at ht
     have r2:=okc _ _ _ ht
     have r3:=r2.fw (by rw [begV_snoc];rfl)
     rw [few_snoc] at r3
     have r4:=of_decide_eq_true r3
     have r5:=r2.sz
     have r6:=r2.dp
     simp only [List.length_append,List.length_singleton] at r6
     refine ⟨fun i hi hik=>?_,by omega,fun _=>?_,fun _=>by omega,fun q=>by omega⟩
     ·by_cases e:i=k
      ·subst e;exact r2.sht
      ·exact r1.sht i hi (by omega)
     ·by_cases e:k=0
      ·subst e
       have:mxl ((l.map (dep n)).take 0)=0:=rfl
       omega
      ·have:=r1.dp (by omega);omega
  ·have hkn:k<h.names.length:=by rw [hn hk];exact hkl'
   have hp0:preN h k=[evN h.names[k]]:=by unfold preN;rw [if_pos hk,List.getElem?_eq_getElem hkn];rfl
   rw [hp0]
   have hk':=hk
   rw [hk] at f c ⊢
   have i1:itm 8 k=k:=rfl
   have i2:itm 8 (k + 1)=k + 1:=rfl
   rw [i1] at f
   rw [i2]
   constructor
   ·intro r
    rw [f (r.less hkl'),runT_app,runT_one]
    have hm:=(take_name (z + suml ((l.map (siz n)).take k)) q k h.names[k] _).2 ⟨r.nm hk' k hkn (by omega),by have:=r.sz;omega,by have:=r.dp (by omega);omega,by have:=r.ct (by omega);omega,rfl⟩
    rw [hm]
    have r2:Room n l[k] (z + suml ((l.map (siz n)).take k)) (q++[⟨8,k + 1⟩]):=⟨r.sht k hkl' (by omega),by have:=r.sz;omega,by have:=r.dp (by omega);simp only [List.length_append,List.length_singleton];omega,fun e=>by rw [begV_snoc] at e;exact absurd e (by decide)⟩
    rw [okf _ _ r2,bm_o _ _ _ (by decide),es,Nat.add_assoc]
   ·intro t' ht
    cases e1:runT (some (z,q++[⟨8,0⟩])) (kids n h l k) with
    | none=>rw [e1,runT_none] at ht;cases ht
    | some t1 =>
     have r1:=c t1 e1
     rw [f r1,runT_app,runT_one] at ht
     cases e2:takeT (z + suml ((l.map (siz n)).take k)) (q++[⟨8,k⟩]) (evN h.names[k]) with
     | none=>rw [e2,runT_none] at ht;cases ht
     | some t2 =>
      obtain ⟨n1,n2,n3,n4,rfl⟩:=(take_name _ _ _ _ _).1 e2
      rw [e2] at ht
      have r2:=okc _ _ _ ht
      have r5:=r2.sz
      have r6:=r2.dp
      simp only [List.length_append,List.length_singleton] at r6
      refine ⟨fun i hi hik=>?_,by omega,fun _=>?_,fun _=>by omega,fun _ i hi hik=>?_⟩
      ·by_cases e:i=k
       ·subst e;exact r2.sht
       ·exact r1.sht i hi (by omega)
      ·by_cases e:k=0
       ·subst e
        have:mxl ((l.map (dep n)).take 0)=0:=rfl
        omega
       ·have:=r1.dp (by omega);omega
      ·by_cases e:i=k
       ·subst e;exact n1
       ·exact r1.nm hk' i hi (by omega)
  ·have hp0:preN h k=[]:=by unfold preN;rw [if_neg (by omega)]
   rw [hp0,List.nil_append]
   rw [hk] at f c ⊢
   have i1:itm 9 k=0:=rfl
   have i2:itm 9 (k + 1)=0:=rfl
   rw [i1] at f
   rw [i2]
   constructor
   ·intro r
    rw [f (r.less hkl')]
    have r2:Room n l[k] (z + suml ((l.map (siz n)).take k)) (q++[⟨9,0⟩]):=⟨r.sht k hkl' (by omega),by have:=r.sz;omega,by have:=r.dp (by omega);simp only [List.length_append,List.length_singleton];omega,fun e=>by rw [begV_snoc] at e;exact absurd e (by decide)⟩
    rw [okf _ _ r2,bm_o _ _ _ (by decide),es,Nat.add_assoc]
   ·intro t' ht
    cases e1:runT (some (z,q++[⟨9,0⟩])) (kids n h l k) with
    | none=>rw [e1,runT_none] at ht;cases ht
    | some t1 =>
     have r1:=c t1 e1
     rw [f r1] at ht
     have r2:=okc _ _ _ ht
     have r5:=r2.sz
     have r6:=r2.dp
     simp only [List.length_append,List.length_singleton] at r6
     refine ⟨fun i hi hik=>?_,by omega,fun _=>?_,fun q=>absurd hk q,fun q=>by omega⟩
     ·by_cases e:i=k
      ·subst e;exact r2.sht
      ·exact r1.sht i hi (by omega)
     ·by_cases e:k=0
      ·subst e
       have:mxl ((l.map (dep n)).take 0)=0:=rfl
       omega
      ·have:=r1.dp (by omega);omega
end
theorem tok_all:∀ n,TOk n
 | 0=>fun x=>Empty.elim x
 | n + 1=>by
  have ih:=tok_all n
  intro x hv z p
  obtain ⟨h,l⟩:=x
  obtain ⟨⟨b1,b2,b3,b4⟩,⟨f1,f2,f3,f4⟩,hc⟩:=hv
  have b1:1≤h.kind:=b1
  have b2:h.kind≤9:=b2
  have b4:7≤h.kind∨l=[]:=b4
  have f3:h.kind=8→h.names.length=l.length∧Nms h.names:=f3
  have f4:h.kind=9→okT h.text=true∧l.length=1:=f4
  have hc:∀ y∈l,IsV n y:=hc
  have hlng:((h.text.size:Int)≤lng h.kind)↔((h.text.size:Int)≤(bif h.kind==9 then 64 else 4096)):=by
   unfold lng
   by_cases h9:h.kind=9
   ·rw [if_pos (Or.inr h9),h9];rfl
   ·rw [if_neg (by omega)]
    have:(h.kind==9)=false:=by simpa using h9
    rw [this];rfl
  have hdep:dep (n + 1) ((h,l):VT (n + 1))=1 + mxl (l.map (dep n)):=rfl
  have hsiz:siz (n + 1) ((h,l):VT (n + 1))=1 + suml (l.map (siz n)):=rfl
  by_cases h7:h.kind<7
  ·have hl:l=[]:=by rcases b4 with q|q;omega;exact q
   subst hl
   have hfl:fl (n + 1) ((h,[]):VT (n + 1))=[hd0 h]:=by rw [fl_succ,if_pos h7]
   rw [hfl,runT_one]
   have hw:wan h.kind=1:=by unfold wan;rw [if_neg (by omega)]
   have e0:suml (([]:List (VT n)).map (siz n))=0:=rfl
   have e1:mxl (([]:List (VT n)).map (dep n))=0:=rfl
   have th:=fun t'=>take_head z p (hd0 h) (show h.kind≠10 by omega) (show h.kind≠11 by omega) t'
   constructor
   ·intro r
    have r2:=r.sz
    have r3:=r.dp
    rw [hdep] at r3
    rw [hsiz] at r2 ⊢
    refine (th _).2 ⟨hlng.2 r.sht.1,?_,?_,r.fw,?_⟩
    ·show z + wan h.kind≤4096;omega
    ·show p.length + wan h.kind≤16;omega
    ·show _=(if h.kind=7∨h.kind=8∨h.kind=9 then _ else _)
     rw [if_neg (by omega),e0]
   ·intro t' ht
    obtain ⟨a1,a2,a3,a4,_⟩:=(th t').1 ht
    have a2:z + wan h.kind≤4096:=a2
    have a3:p.length + wan h.kind≤16:=a3
    have nm:h.names=[]:=strip_names h b3 (by omega)
    refine ⟨⟨hlng.1 a1,by show (0:Nat)≤256;omega,?_,fun y hy=>by cases hy⟩,by rw [hsiz];omega,by rw [hdep];omega,a4⟩
    show ∀ s∈h.names,s.size≤64
    rw [nm];intro s hs;cases hs
  ·have hk:h.kind=7∨h.kind=8∨h.kind=9:=by omega
   have hfl:fl (n + 1) ((h,l):VT (n + 1))=[hd0 h]++(kids n h l l.length++[evE]):=by rw [fl_succ,if_neg h7];rfl
   rw [hfl,runT_app,runT_one]
   have th:=fun t'=>take_head z p (hd0 h) (show h.kind≠10 by omega) (show h.kind≠11 by omega) t'
   have kt:=fun hz=>kidsT ih h l hc hk (fun q=>(f3 q).1) (z + 1) (bm p) hz l.length (Nat.le_refl _)
   have tk1:(l.map (siz n)).take l.length=l.map (siz n):=List.take_of_length_le (by simp)
   have tk2:(l.map (dep n)).take l.length=l.map (dep n):=List.take_of_length_le (by simp)
   have hend:∀ Z i,takeT Z (bm p++[⟨h.kind,i⟩]) evE=some (Z,bm p):=by
    intro Z i
    unfold takeT
    rw [if_pos (show evE.kind=11 from rfl),List.dropLast_concat]
   have hle:l.length≤suml (l.map (siz n)):=len_suml n l
   have hml:0<l.length→1≤mxl (l.map (dep n)):=by
    intro hl
    cases l with
    | nil=>cases hl
    | cons a l =>
     have:=dep_pos n a
     simp only [List.map_cons,mxl]
     omega
   constructor
   ·intro r
    have r2:=r.sz
    have r3:=r.dp
    rw [hdep] at r3
    rw [hsiz] at r2 ⊢
    have hd:takeT z p (hd0 h)=some (z + 1,bm p++[⟨h.kind,0⟩]):=by
     refine (th _).2 ⟨hlng.2 r.sht.1,?_,?_,r.fw,?_⟩
     ·show z + wan h.kind≤4096
      unfold wan
      by_cases h9:h.kind=9
      ·rw [if_pos h9];have:=(f4 h9).2;omega
      ·rw [if_neg h9];omega
     ·show p.length + wan h.kind≤16
      unfold wan
      by_cases h9:h.kind=9
      ·rw [if_pos h9];have:=(f4 h9).2;have:=hml (by omega);omega
      ·rw [if_neg h9];omega
     ·show _=(if h.kind=7∨h.kind=8∨h.kind=9 then _ else _)
      rw [if_pos hk]
      rfl
    rw [hd,runT_app]
    obtain ⟨s1,s2,s3,s4⟩:=r.sht
    have s2:l.length≤256:=s2
    have s3:∀ s∈h.names,s.size≤64:=s3
    have s4:∀ y∈l,Sht n y:=s4
    have kr:KRoom n h l l.length (z + 1) (bm p):=⟨fun i hi _=>s4 _ (List.getElem_mem hi),by rw [tk1];omega,fun _=>by rw [tk2,bm_len];omega,fun _=>s2,fun _ i hi _=>s3 _ (List.getElem_mem hi)⟩
    rw [(kt (by omega)).1 kr,tk1,runT_one,hend]
    congr 2
    omega
   ·intro t' ht
    cases e1:takeT z p (hd0 h) with
    | none=>rw [e1,runT_none] at ht;cases ht
    | some t1 =>
     obtain ⟨a1,a2,a3,a4,a5⟩:=(th t1).1 e1
     have a2:z + wan h.kind≤4096:=a2
     have a3:p.length + wan h.kind≤16:=a3
     have a5:t1=(if h.kind=7∨h.kind=8∨h.kind=9 then (z + 1,bm p++[⟨h.kind,0⟩]) else (z + 1,bm p)):=a5
     rw [if_pos hk] at a5
     subst a5
     rw [e1,runT_app] at ht
     have hw1:1≤wan h.kind:=by unfold wan;split <;> omega
     cases e2:runT (some (z + 1,bm p++[⟨h.kind,0⟩])) (kids n h l l.length) with
     | none=>rw [e2,runT_none] at ht;cases ht
     | some t2 =>
      have kr:=(kt (by omega)).2 t2 e2
      have k1:=kr.sz
      have k2:=kr.dp
      rw [tk1] at k1
      rw [tk2,bm_len] at k2
      refine ⟨⟨hlng.1 a1,?_,?_,?_⟩,by rw [hsiz];omega,?_,a4⟩
      ·show l.length≤256
       by_cases h9:h.kind=9
       ·have:=(f4 h9).2;omega
       ·exact kr.ct h9
      ·show ∀ s∈h.names,s.size≤64
       by_cases h8:h.kind=8
       ·intro s hs
        obtain ⟨i,hi,rfl⟩:=List.getElem_of_mem hs
        exact kr.nm h8 i hi (by rw [←(f3 h8).1];exact hi)
       ·rw [strip_names h b3 h8];intro s hs;cases hs
      ·intro y hy
       obtain ⟨i,hi,rfl⟩:=List.getElem_of_mem hy
       exact kr.sht i hi hi
      ·rw [hdep]
       by_cases h0:0<l.length
       ·have:=k2 h0;omega
       ·have:l=[]:=List.eq_nil_of_length_eq_zero (by omega)
        subst this
        have:mxl (([]:List (VT n)).map (dep n))=0:=rfl
        omega
theorem tally_win (n:Nat) (x:VT n) (hv:IsV n x):(∃ t,runT (some (0,[])) (fl n x)=some t)↔Win n x:=by
 obtain ⟨f,c⟩:=tok_all n x hv 0 []
 constructor
 ·rintro ⟨t,ht⟩
  have r:=c t ht
  have r2:=r.sz
  have r3:=r.dp
  exact ⟨r.sht,by simpa using r3,by simpa using r2⟩
 ·rintro ⟨h1,h2,h3⟩
  exact ⟨_,f ⟨h1,by omega,by simpa using h2,fun e=>by cases e⟩⟩
end Go.Proofs.YthodiandebahdaaGreatDoor
