/- Merged by program: BaRow, BbMark, BcItem, BmPre. -/
import Derived.Test.YthodiandebahdaaGreatDoorZy33
namespace Go.Proofs.YthodiandebahdaaGreatDoor
open Go.RowKit
set_option linter.unusedSimpArgs false
set_option linter.unusedVariables false
set_option maxHeartbeats 8000000
def adv (st:Xs) (k:Nat):Xs:={st with t:={st.t with total:=st.t.total + k} }
def hw (st:Xs) (k:Nat) (h r:List UInt8):Xs:={st with t:={st.t with total:=st.t.total + k},held:=h,ref:=r}
theorem takeX_go {st:Xs} (hp:st.t.passed=false) (ht:st.t.total + 1≤65536) (c:UInt8):takeX st c=goX (adv st 1) c:=by
 unfold takeX countT
 rw [if_neg (by rw [hp];simp;omega)]
 rfl
theorem feedX_cons {st x:Xs} {c:UInt8} {l:List UInt8} (h:takeX st c=.inr x):feedX st (c :: l)=feedX x l:=by
 show bnd (takeX st c) _=_
 rw [h];rfl
theorem xeB_ref (c:UInt8) (h:xeB c≠[c]):∃ r,xeB c=38 :: (r++[59])∧(∀ x∈r,x≠59)∧r.length<9∧refC (38 :: (r++[59]))=some [c]:=by
 have key:∀ n:Fin 256,xeB (UInt8.ofNat n.val)≠[UInt8.ofNat n.val]→xeB (UInt8.ofNat n.val)=38 :: ((xeB (UInt8.ofNat n.val)).tail.dropLast++[59])∧(∀ x∈(xeB (UInt8.ofNat n.val)).tail.dropLast,x≠59)∧(xeB (UInt8.ofNat n.val)).tail.dropLast.length<9∧refC (38 :: ((xeB (UInt8.ofNat n.val)).tail.dropLast++[59]))=some [UInt8.ofNat n.val]:=by decide +kernel
 have hc:UInt8.ofNat c.toNat=c:=by simp
 have:=key ⟨c.toNat,c.toNat_lt⟩
 simp only [hc] at this
 exact ⟨_,this h⟩
theorem xeB_self (c:UInt8) (h:xeB c=[c]):32≤c.toNat∧c≠60∧c≠34∧c≠38:=by
 have key:∀ n:Fin 256,xeB (UInt8.ofNat n.val)=[UInt8.ofNat n.val]→32≤(UInt8.ofNat n.val).toNat∧UInt8.ofNat n.val≠60∧UInt8.ofNat n.val≠34∧UInt8.ofNat n.val≠38:=by decide +kernel
 have hc:UInt8.ofNat c.toNat=c:=by simp
 have:=key ⟨c.toNat,c.toNat_lt⟩
 simp only [hc] at this
 exact this h
structure InR (st:Xs):Prop where
 mark:st.mark=[]
 ref:st.ref=[]
 rk:st.rk≠0
 pas:st.t.passed=false
theorem ref_feed {st:Xs} (hm:st.mark=[]) (hp:st.t.passed=false):∀ (r p l:List UInt8),p≠[]→st.ref=p→(∀ x∈r,x≠59)→p.length + r.length<10→st.t.total + r.length + 1≤65536→refC (p++(r++[59]))=some l→st.held.length + l.length≤mostK st.rk →
  feedX st (r++[59])=.inr (hw st (r.length + 1) (st.held++l) [])
 | [],p,l,h0,hr,_,_,ht,hc,hl=>by
  rw [List.nil_append] at hc ⊢
  have ht':st.t.total + 1≤65536:=by simpa using ht
  have hk:takeX st 59=.inr (hw st 1 (st.held++l) []):=by
   rw [takeX_go hp ht']
   unfold goX
   rw [if_neg (show ¬ (adv st 1).mark≠[] from fun h=>h hm),if_pos (show (adv st 1).ref≠[] from hr ▸ h0)]
   unfold inRefS
   rw [if_pos rfl]
   rw [show (adv st 1).ref++[59]=p++[59] by show st.ref++_=_;rw [hr],hc]
   show holdS (hw st 1 st.held []) l=_
   unfold holdS
   rw [if_neg (by show ¬ mostK st.rk<st.held.length + l.length;omega)]
   rfl
  rw [feedX_cons hk]
  rfl
 | a :: r,p,l,h0,hr,hx,hn,ht,hc,hl=>by
  simp only [List.length_cons] at hn ht
  have hk:takeX st a=.inr (hw st 1 st.held (p++[a])):=by
   rw [takeX_go hp (by omega)]
   unfold goX
   rw [if_neg (show ¬ (adv st 1).mark≠[] from fun h=>h hm),if_pos (show (adv st 1).ref≠[] from hr ▸ h0)]
   unfold inRefS
   rw [if_neg (hx a (by simp)),if_neg (by show ¬ st.ref.length + 1=10;rw [hr];omega)]
   rw [show (adv st 1).ref=p from hr]
   rfl
  rw [List.cons_append,feedX_cons hk]
  have:=ref_feed (st:=(hw st 1 st.held (p++[a]))) hm hp r (p++[a]) l (by simp) rfl (fun x hx'=>hx x (by simp [hx'])) (by rw [List.length_append,List.length_singleton];omega) (by show st.t.total + 1 + r.length + 1≤_;omega) (by rw [List.append_assoc];exact hc) hl
  rw [this]
  simp only [hw,List.length_cons]
  rw [show st.t.total + 1 + (r.length + 1)=st.t.total + (r.length + 1 + 1) by omega]
theorem row_feed:∀ (l:List UInt8) (st:Xs),InR st→areD st.rk=false→st.held.length + l.length≤mostK st.rk→st.t.total + (xeL l).length≤65536 →
  feedX st (xeL l)=.inr (hw st (xeL l).length (st.held++l) [])
 | [],st,h,_,_,_=>by
  show Sum.inr st=_
  have:=h.ref
  cases st
  simp only at this
  subst this
  simp [hw,xeL]
 | c :: l,st,h,hd,hl,ht=>by
  have e:xeL (c :: l)=xeB c++xeL l:=by simp [xeL]
  rw [e] at ht ⊢
  rw [List.length_append] at ht ⊢
  simp only [List.length_cons] at hl
  have h4:st.rk≠4:=fun h4=>by rw [h4] at hd;cases hd
  have step:feedX st (xeB c)=.inr (hw st (xeB c).length (st.held++[c]) []):=by
   by_cases hs:xeB c=[c]
   ·obtain ⟨s1,s2,s3,s4⟩:=xeB_self c hs
    rw [hs] at ht ⊢
    have ht':st.t.total + 1≤65536:=by simp only [List.length_singleton] at ht;omega
    have hk:takeX st c=.inr (hw st 1 (st.held++[c]) []):=by
     rw [takeX_go h.pas ht']
     unfold goX
     rw [if_neg (show ¬ (adv st 1).mark≠[] from fun q=>q h.mark),if_neg (show ¬ (adv st 1).ref≠[] from fun q=>q h.ref),if_neg (fun q=>q.elim s2 s3),if_pos (show (adv st 1).rk≠0 from h.rk)]
     unfold rowS
     rw [if_neg (fun q=>q.elim (fun q=>by omega) fun q=>h4 q.1),if_neg (fun q=>s4 q.1)]
     unfold holdS
     rw [if_neg (by show ¬ mostK st.rk<st.held.length + 1;omega)]
     rw [show (adv st 1).ref=[] from h.ref,show (adv st 1).mark=[] from h.mark]
     show Sum.inr ({t:=_,mark:=[],rk:=_,held:=_,ref:=[],ks:=_,filled:=_}:Xs)=.inr {t:=_,mark:=st.mark,rk:=_,held:=_,ref:=[],ks:=_,filled:=_}
     rw [h.mark]
     rfl
    rw [feedX_cons hk]
    rfl
   ·obtain ⟨r,r1,r2,r3,r4⟩:=xeB_ref c hs
    rw [r1] at ht ⊢
    simp only [List.length_cons,List.length_append,List.length_nil] at ht ⊢
    have hk:takeX st 38=.inr (hw st 1 st.held [38]):=by
     rw [takeX_go h.pas (by omega)]
     unfold goX
     rw [if_neg (show ¬ (adv st 1).mark≠[] from fun q=>q h.mark),if_neg (show ¬ (adv st 1).ref≠[] from fun q=>q h.ref),if_neg (by decide),if_pos (show (adv st 1).rk≠0 from h.rk)]
     unfold rowS
     rw [if_neg (fun q=>q.elim (fun q=>absurd q (by decide)) fun q=>h4 q.1),if_pos ⟨rfl,hd⟩]
     rw [show (adv st 1).ref=[] from h.ref]
     rfl
    rw [feedX_cons hk]
    rw [ref_feed (st:=(hw st 1 st.held [38])) h.mark h.pas r [38] [c] (by simp) rfl r2 (by simp;omega) (by show st.t.total + 1 + r.length + 1≤_;omega) r4 (by show st.held.length + 1≤mostK st.rk;omega)]
    simp only [hw]
    rw [show st.t.total + 1 + (r.length + 1)=st.t.total + (r.length + (0 + 1) + 1) by omega]
  rw [feedX_app,step]
  show feedX (hw st (xeB c).length (st.held++[c]) []) (xeL l)=_
  rw [row_feed l (hw st (xeB c).length (st.held++[c]) []) ⟨h.mark,rfl,h.rk,h.pas⟩ hd (by show (st.held++[c]).length + l.length≤mostK st.rk;rw [List.length_append,List.length_singleton];omega) (by show st.t.total + (xeB c).length + (xeL l).length≤_;omega)]
  simp only [hw,Nat.add_assoc,List.append_assoc,List.singleton_append]
def mkGo:List UInt8→List UInt8→Option (Nat×Int×Bool)
 | _,[]=>none
 | q,c :: r=>if r=[] then mkOf (q++[c]) else if mkOf (q++[c])=none∧q.length + 1≠13 then mkGo (q++[c]) r else none
def mw (st:Xs) (k:Nat) (m:List UInt8):Xs:={st with t:={st.t with total:=st.t.total + k},mark:=m}
theorem mark_go:∀ (r q:List UInt8) (st:Xs) (p:Nat×Int×Bool),q≠[]→st.mark=q→st.t.passed=false→mkGo q r=some p→st.t.total + r.length≤65536→feedX st r=markS (mw st r.length []) p
 | [],q,st,p,_,_,_,h,_=>by cases h
 | c :: r,q,st,p,hq,hm,hp,h,ht=>by
  simp only [List.length_cons] at ht
  have hgo:takeX st c=inMarkS (adv st 1) c:=by
   rw [takeX_go hp (by omega)]
   unfold goX
   rw [if_pos (show (adv st 1).mark≠[] from hm ▸ hq)]
  have hmk:(adv st 1).mark++[c]=q++[c]:=by show st.mark++_=_;rw [hm]
  unfold mkGo at h
  by_cases h0:r=[]
  ·rw [if_pos h0] at h
   subst h0
   show bnd (takeX st c) _=_
   rw [hgo]
   unfold inMarkS
   rw [hmk,h]
   show bnd (markS (mw st 1 []) p) (fun x=>Sum.inr x)=markS (mw st 1 []) p
   cases markS (mw st 1 []) p <;> rfl
  ·rw [if_neg h0] at h
   split at h
   ·rename_i hn
    have hk:takeX st c=.inr (mw st 1 (q++[c])):=by
     rw [hgo]
     unfold inMarkS
     rw [hmk,hn.1]
     show (if st.mark.length + 1=13 then _ else _)=_
     rw [hm,if_neg hn.2]
     rfl
    rw [feedX_cons hk,mark_go r (q++[c]) (mw st 1 (q++[c])) p (by simp) rfl hp h (by show st.t.total + 1 + r.length≤_;omega)]
    simp only [mw,List.length_cons]
    rw [show st.t.total + 1 + r.length=st.t.total + (r.length + 1) by omega]
   ·cases h
theorem mark_feed {st:Xs} (c:UInt8) (r:List UInt8) (p:Nat×Int×Bool) (hc:c=60∨c=34) (hm:st.mark=[]) (hr:st.ref=[]) (hp:st.t.passed=false) (h:mkGo [c] r=some p) (ht:st.t.total + (r.length + 1)≤65536):feedX st (c :: r)=markS (mw st (r.length + 1) []) p:=by
 have hk:takeX st c=.inr (mw st 1 [c]):=by
  rw [takeX_go hp (by omega)]
  unfold goX
  rw [if_neg (show ¬ (adv st 1).mark≠[] from fun q=>q hm),if_neg (show ¬ (adv st 1).ref≠[] from fun q=>q hr),if_pos hc]
  rfl
 rw [feedX_cons hk,mark_go r [c] (mw st 1 [c]) p (by simp) rfl hp h (by show st.t.total + 1 + r.length≤_;omega)]
 simp only [mw]
 rw [show st.t.total + 1 + r.length=st.t.total + (r.length + 1) by omega]
theorem marks:mkGo [60] mNull.tail=some (1,1,false)∧mkGo [60] mTrue.tail=some (1,2,true)∧mkGo [60] mFalse.tail=some (1,2,false)∧mkGo [60] mNum.tail=some (2,3,false)∧mkGo [60] mNumE.tail=some (3,3,false)∧mkGo [60] mFloat.tail=some (2,4,false)∧mkGo [60] mFloatE.tail=some (3,4,false)
  ∧ mkGo [60] mText.tail=some (2,5,false)∧mkGo [60] mTextE.tail=some (3,5,false)∧mkGo [60] mBytes.tail=some (2,6,false)∧mkGo [60] mBytesE.tail=some (3,6,false)∧mkGo [60] mList.tail=some (4,7,false)∧mkGo [60] mListE.tail=some (7,7,false)∧mkGo [60] mRec.tail=some (4,8,false)∧mkGo [60] mRecE.tail=some (7,8,false)
  ∧ mkGo [60] mField.tail=some (5,10,false)∧mkGo [60] mFieldE.tail=some (7,10,false)∧mkGo [60] mTag.tail=some (5,9,false)∧mkGo [60] mTagE.tail=some (7,9,false)∧mkGo [34] mNameE.tail=some (6,0,false):=by
 refine ⟨?_,?_,?_,?_,?_,?_,?_,?_,?_,?_,?_,?_,?_,?_,?_,?_,?_,?_,?_,?_⟩ <;> decide +kernel
theorem plain_feed:∀ (l:List UInt8) (st:Xs),InR st→areD st.rk=true→(st.rk=4→st.held.length + l.length≤16)→(∀ c∈l,32≤c.toNat∧c≠60∧c≠34)→st.held.length + l.length≤mostK st.rk→st.t.total + l.length≤65536 →
  feedX st l=.inr (hw st l.length (st.held++l) [])
 | [],st,h,_,_,_,_,_=>by
  show Sum.inr st=_
  have:=h.ref
  cases st
  simp only at this
  subst this
  simp [hw]
 | c :: l,st,h,hd,h4,hx,hl,ht=>by
  simp only [List.length_cons] at hl ht h4
  obtain ⟨s1,s2,s3⟩:=hx c (by simp)
  have hk:takeX st c=.inr (hw st 1 (st.held++[c]) []):=by
   rw [takeX_go h.pas (by omega)]
   unfold goX
   rw [if_neg (show ¬ (adv st 1).mark≠[] from fun q=>q h.mark),if_neg (show ¬ (adv st 1).ref≠[] from fun q=>q h.ref),if_neg (fun q=>q.elim s2 s3),if_pos (show (adv st 1).rk≠0 from h.rk)]
   unfold rowS
   rw [if_neg (fun q=>q.elim (fun q=>by omega) fun q=>by have h5:=h4 q.1;have h6:st.held.length=16:=q.2;omega),if_neg (fun q=>by have h5:areD st.rk=false:=q.2;rw [hd] at h5;cases h5)]
   unfold holdS
   rw [if_neg (by show ¬ mostK st.rk<st.held.length + 1;omega)]
   rw [show (adv st 1).ref=[] from h.ref]
   rfl
  rw [feedX_cons hk]
  rw [plain_feed l (hw st 1 (st.held++[c]) []) ⟨h.mark,rfl,h.rk,h.pas⟩ hd (fun q=>by show (st.held++[c]).length + l.length≤16;have:=h4 q;rw [List.length_append,List.length_singleton];omega) (fun x hx'=>hx x (by simp [hx'])) (by show (st.held++[c]).length + l.length≤mostK st.rk;rw [List.length_append,List.length_singleton];omega) (by show st.t.total + 1 + l.length≤_;omega)]
  simp only [hw,List.length_cons,List.append_assoc,List.singleton_append]
  rw [show st.t.total + 1 + l.length=st.t.total + (l.length + 1) by omega]
def runT (s:Option (Nat×List Tp)) (es:List Hd):Option (Nat×List Tp):=es.foldl (fun s e=>s.bind fun x=>takeT x.1 x.2 e) s
theorem runT_cons (s:Option (Nat×List Tp)) (e:Hd) (es:List Hd):runT s (e :: es)=runT (s.bind fun x=>takeT x.1 x.2 e) es:=rfl
theorem runT_app (s:Option (Nat×List Tp)) (a b:List Hd):runT s (a++b)=runT (runT s a) b:=by simp [runT]
theorem runT_none (es:List Hd):runT none es=none:=by
 induction es with
 | nil=>rfl
 | cons h es ih=>rw [runT_cons];exact ih
structure Okk (c:List Pa×Bool) (t:Nat×List Tp) (es:List Hd) (c':List Pa×Bool) (t':Nat×List Tp):Prop where
 ck:runS (some c) es=some c'
 ty:runT (some t) es=some t'
theorem Okk.split {c c':List Pa×Bool} {t t':Nat×List Tp} {a b:List Hd} (h:Okk c t (a++b) c' t'):∃ c1 t1,Okk c t a c1 t1∧Okk c1 t1 b c' t':=by
 have h1:=h.ck
 have h2:=h.ty
 rw [runS_app] at h1
 rw [runT_app] at h2
 cases k1:runS (some c) a with
 | none=>rw [k1,runS_none] at h1;cases h1
 | some c1 =>
  cases k2:runT (some t) a with
  | none=>rw [k2,runT_none] at h2;cases h2
  | some t1 =>
   rw [k1] at h1
   rw [k2] at h2
   exact ⟨c1,t1,⟨k1,k2⟩,⟨h1,h2⟩⟩
theorem Okk.cons {c c':List Pa×Bool} {t t':Nat×List Tp} {e:Hd} {b:List Hd} (h:Okk c t (e :: b) c' t'):∃ c1 t1,Okk c t [e] c1 t1∧Okk c1 t1 b c' t':=Okk.split (a:=[e]) h
theorem Okk.nil {c c':List Pa×Bool} {t t':Nat×List Tp} (h:Okk c t [] c' t'):c'=c∧t'=t:=⟨(Option.some.inj h.ck).symm,(Option.some.inj h.ty).symm⟩
structure Sy (y:Xs) (ks:List Int) (told:List Hd) (c:List Pa×Bool) (t:Nat×List Tp) (T:Nat) (f:Bool):Prop where
 mark:y.mark=[]
 ref:y.ref=[]
 held:y.held=[]
 rk:y.rk=0
 pas:y.t.passed=false
 ks:y.ks=ks
 told:y.t.told=told
 ck:y.t.ck=c
 ty:(y.t.tz,y.t.tp)=t
 tot:y.t.total=T
 fil:y.filled=f
theorem tellT_ok {E0:Int} {x:Tl} {c c':List Pa×Bool} {t t':Nat×List Tp} {e:Hd} (hp:x.passed=false) (hc:x.ck=c) (ht:(x.tz,x.tp)=t) (k:Okk c t [e] c' t') :
  tellT E0 x e=.inr {x with ck:=c',tz:=t'.1,tp:=t'.2,n:=x.n + 1,told:=x.told++[e]}:=by
 have h1:feedE (some x.ck) (mayB e) e=some c':=by rw [hc];exact k.ck
 have h2:takeT x.tz x.tp e=some t':=by
  have:=k.ty
  rw [←ht] at this
  exact this
 unfold tellT
 rw [h1]
 show (match takeT x.tz x.tp e with|none=>_|some y=>_)=_
 rw [h2]
 show Sum.inr ({x with ck:=c',tz:=t'.1,tp:=t'.2,n:=x.n + 1,told:=if x.passed=true then x.told else x.told++[e]}:Tl)=_
 rw [hp]
 rfl
section
variable {st : Xs} {ks : List Int} {told : List Hd} {c c' : List Pa × Bool} {t t' : Nat × List Tp} {T : Nat} {f : Bool}
theorem Sy.elem (h:Sy st ks told c t T f) {e:Hd} (k:Okk c t [e] c' t'):∃ y,elemS st e=.inr y∧Sy y ks (told++[e]) c' t' T true:=by
 unfold elemS
 rw [tellT_ok h.pas h.ck h.ty k]
 exact ⟨_,rfl,⟨h.mark,h.ref,h.held,h.rk,h.pas,h.ks,by show st.t.told++[e]=_;rw [h.told],rfl,rfl,h.tot,rfl⟩⟩
theorem Sy.begin (h:Sy st ks told c t T f) {e:Hd} (k:Okk c t [e] c' t'):∃ y,beginS st e=.inr y∧Sy y (ks++[e.kind]) (told++[e]) c' t' T false:=by
 unfold beginS
 rw [tellT_ok h.pas h.ck h.ty k]
 exact ⟨_,rfl,⟨h.mark,h.ref,h.held,h.rk,h.pas,by show st.ks++_=_;rw [h.ks],by show st.t.told++[e]=_;rw [h.told],rfl,rfl,h.tot,rfl⟩⟩
theorem Sy.mw (h:Sy st ks told c t T f) (k:Nat):Sy (mw st k []) ks told c t (T + k) f:=⟨rfl,h.ref,h.held,h.rk,h.pas,h.ks,h.told,h.ck,h.ty,by show st.t.total + k=_;rw [h.tot],h.fil⟩
theorem Sy.want (h:Sy st ks told c t T f) (hk:lastK ks≠8) (hf:lastK ks=7∨f=false):wantE st=false:=by
 unfold wantE
 rw [h.rk,h.ks,h.fil]
 rcases hf with q|q
 ·rw [q];rfl
 ·subst q
  cases hq:(lastK ks==8) with
  | true=>exact absurd (by simpa using hq) hk
  | false=>simp
theorem Sy.one (h:Sy st ks told c t T f) (hk:lastK ks≠8) (hf:lastK ks=7∨f=false) (r:List UInt8) (kd:Int) (b:Bool) (hm:mkGo [60] r=some (1,kd,b)) (ht:T + (r.length + 1)≤65536) (k:Okk c t [{zr kd with flag:=b}] c' t') :
  ∃ y,feedX st (60 :: r)=.inr y∧Sy y ks (told++[{zr kd with flag:=b}]) c' t' (T + (r.length + 1)) true:=by
 obtain ⟨y,h1,h2⟩:=(h.mw (r.length + 1)).elem k
 refine ⟨y,?_,h2⟩
 rw [mark_feed 60 r _ (Or.inl rfl) h.mark h.ref h.pas hm (by rw [h.tot];exact ht)]
 unfold markS
 rw [if_pos rfl,if_neg (by rw [(h.mw (r.length + 1)).want hk hf];decide)]
 exact h1
end
def preT (a:List Hd) (t:Tl):Tl:={t with told:=a++t.told}
def preX (a:List Hd) (st:Xs):Xs:={st with t:=preT a st.t}
def lfT (a:List Hd) (o:Sum Int Tl):Sum Int Tl:=bnd o fun x=>.inr (preT a x)
def lfX (a:List Hd) (o:Sum Int Xs):Sum Int Xs:=bnd o fun x=>.inr (preX a x)
section
variable (a : List Hd) (t : Tl) (st : Xs)
theorem lfX_bnd (o:Sum Int Xs) (f g:Xs→Sum Int Xs) (h:∀ x,f (preX a x)=lfX a (g x)):bnd (lfX a o) f=lfX a (bnd o g):=by
 cases o with
 | inl E=>rfl
 | inr x=>exact h x
theorem lfT_bnd (o:Sum Int Tl) (f g:Tl→Sum Int Xs) (h:∀ x,f (preT a x)=lfX a (g x)):bnd (lfT a o) f=lfX a (bnd o g):=by
 cases o with
 | inl E=>rfl
 | inr x=>exact h x
theorem lfT_bndT (o:Sum Int Tl) (f g:Tl→Sum Int Tl) (h:∀ x,f (preT a x)=lfT a (g x)):bnd (lfT a o) f=lfT a (bnd o g):=by
 cases o with
 | inl E=>rfl
 | inr x=>exact h x
theorem tellT_pre (E0:Int) (e:Hd):tellT E0 (preT a t) e=lfT a (tellT E0 t e):=by
 unfold tellT
 show (match feedE (some t.ck) (mayB e) e with|none=>_|some x=>_)=_
 cases feedE (some t.ck) (mayB e) e with
 | none=>rfl
 | some x =>
  show (match takeT t.tz t.tp e with|none=>_|some y=>_)=lfT a (match takeT t.tz t.tp e with|none=>_|some y=>_)
  cases takeT t.tz t.tp e with
  | none =>
   by_cases h:16<t.total
   ·show (if 16<t.total then _ else _)=lfT a (if 16<t.total then _ else _)
    simp only [if_pos h];rfl
   ·show (if 16<t.total then _ else _)=lfT a (if 16<t.total then _ else _)
    simp only [if_neg h];rfl
  | some y =>
   cases hp:t.passed with
   | true=>simp [preT,hp,lfT,bnd]
   | false=>simp [preT,hp,lfT,bnd]
theorem passT_pre:passT (preT a t)=lfT a (passT t):=by
 unfold passT
 by_cases h:16<t.total
 ·show (if 16<t.total then _ else _)=lfT a (if 16<t.total then _ else _)
  simp only [if_pos h];rfl
 ·show (if 16<t.total then _ else _)=lfT a (if 16<t.total then _ else _)
  simp only [if_neg h];rfl
theorem countT_pre:countT (preT a t)=lfT a (countT t):=by
 unfold countT
 show (if t.passed=true∨65536<t.total + 1 then passT (preT a {t with total:=t.total + 1}) else _)=_
 by_cases h:t.passed=true∨65536<t.total + 1
 ·simp only [if_pos h];exact passT_pre a _
 ·simp only [if_neg h];rfl
theorem tellN_pre (E0:Int) (s:ByteArray):tellN E0 (preT a t) s=lfT a (tellN E0 t s):=by
 unfold tellN
 by_cases h0:(parseF (bl s)).2.2.2=0
 ·simp only [if_pos h0];exact tellT_pre a t _ _
 ·by_cases h2:(parseF (bl s)).2.2.2=2
  ·simp only [if_neg h0,if_pos h2,passT_pre]
   exact lfT_bndT a _ _ _ fun x=>tellT_pre a x _ _
  ·simp only [if_neg h0,if_neg h2];rfl
theorem elemS_pre (e:Hd):elemS (preX a st) e=lfX a (elemS st e):=by
 unfold elemS
 show bnd (tellT 100 (preT a st.t) e) _=_
 rw [tellT_pre];exact lfT_bnd a _ _ _ fun x=>rfl
theorem beginS_pre (e:Hd):beginS (preX a st) e=lfX a (beginS st e):=by
 unfold beginS
 show bnd (tellT 100 (preT a st.t) e) _=_
 rw [tellT_pre];exact lfT_bnd a _ _ _ fun x=>rfl
theorem numS_pre (s:ByteArray):numS (preX a st) s=lfX a (numS st s):=by
 unfold numS
 show bnd (tellN 100 (preT a st.t) s) _=_
 rw [tellN_pre];exact lfT_bnd a _ _ _ fun x=>rfl
theorem floatS_pre (s:ByteArray):floatS (preX a st) s=lfX a (floatS st s):=by
 unfold floatS
 by_cases h:(funh s).2=0
 ·simp only [if_pos h];exact elemS_pre a st _
 ·simp only [if_neg h];rfl
theorem bytesS_pre (s:ByteArray):bytesS (preX a st) s=lfX a (bytesS st s):=by
 unfold bytesS
 cases hx2 (bl s) with
 | none=>rfl
 | some l=>exact elemS_pre a st _
theorem endRowS_pre (k:Int):endRowS (preX a st) k=lfX a (endRowS st k):=by
 unfold endRowS
 show (if st.rk≠k then _ else if k=3 then numS (preX a (row0 st)) (mkB st.held) else if k=4 then floatS (preX a (row0 st)) (mkB st.held) else if k=5 then elemS (preX a (row0 st)) (evText (mkB st.held)) else if k=6 then bytesS (preX a (row0 st)) (mkB st.held) else _)=_
 by_cases h0:st.rk≠k
 ·simp only [if_pos h0];rfl
 by_cases h1:k=3
 ·simp only [if_neg h0,if_pos h1];exact numS_pre a _ _
 by_cases h2:k=4
 ·simp only [if_neg h0,if_neg h1,if_pos h2];exact floatS_pre a _ _
 by_cases h3:k=5
 ·simp only [if_neg h0,if_neg h1,if_neg h2,if_pos h3];exact elemS_pre a _ _
 by_cases h4:k=6
 ·simp only [if_neg h0,if_neg h1,if_neg h2,if_neg h3,if_pos h4];exact bytesS_pre a _ _
 ·simp only [if_neg h0,if_neg h1,if_neg h2,if_neg h3,if_neg h4];rfl
theorem beginNameS_pre (k:Int):beginNameS (preX a st) k=lfX a (beginNameS st k):=by
 unfold beginNameS
 show (if k=9 then (if wantE st then _ else _) else if st.rk≠0∨lastK st.ks≠8 then _ else _)=_
 by_cases h0:k=9
 ·simp only [if_pos h0]
  by_cases h1:wantE st=true
  ·simp only [if_pos h1];rfl
  ·simp only [if_neg h1];rfl
 ·simp only [if_neg h0]
  by_cases h1:st.rk≠0∨lastK st.ks≠8
  ·simp only [if_pos h1];rfl
  ·simp only [if_neg h1];rfl
theorem endNameS_pre:endNameS (preX a st)=lfX a (endNameS st):=by
 unfold endNameS
 show (if st.rk≠10∧st.rk≠9 then _ else beginS (preX a (row0 st)) _)=_
 by_cases h0:st.rk≠10∧st.rk≠9
 ·simp only [if_pos h0];rfl
 ·simp only [if_neg h0];exact beginS_pre a _ _
theorem endPartS_pre (k:Int):endPartS (preX a st) k=lfX a (endPartS st k):=by
 unfold endPartS
 show (if st.rk≠0∨lastK st.ks≠k∨((k=10∨k=9)∧st.filled=false) then _ else if k=10 then _ else elemS (preX a {st with ks:=st.ks.dropLast}) evE)=_
 by_cases h0:st.rk≠0∨lastK st.ks≠k∨((k=10∨k=9)∧st.filled=false)
 ·simp only [if_pos h0];rfl
 by_cases h1:k=10
 ·simp only [if_neg h0,if_pos h1];rfl
 ·simp only [if_neg h0,if_neg h1];exact elemS_pre a _ _
theorem markS_pre (p:Nat×Int×Bool):markS (preX a st) p=lfX a (markS st p):=by
 unfold markS
 show (if p.1=1 then (if wantE st then _ else _) else if p.1=2 then (if wantE st then _ else _) else if p.1=3 then _ else if p.1=4 then (if wantE st then _ else _) else _)=_
 by_cases h1:p.1=1
 ·simp only [if_pos h1]
  by_cases hw:wantE st=true
  ·simp only [if_pos hw];rfl
  ·simp only [if_neg hw];exact elemS_pre a _ _
 by_cases h2:p.1=2
 ·simp only [if_neg h1,if_pos h2]
  by_cases hw:wantE st=true
  ·simp only [if_pos hw];rfl
  ·simp only [if_neg hw];rfl
 by_cases h3:p.1=3
 ·simp only [if_neg h1,if_neg h2,if_pos h3];exact endRowS_pre a _ _
 by_cases h4:p.1=4
 ·simp only [if_neg h1,if_neg h2,if_neg h3,if_pos h4]
  by_cases hw:wantE st=true
  ·simp only [if_pos hw];rfl
  ·simp only [if_neg hw];exact beginS_pre a _ _
 by_cases h5:p.1=5
 ·simp only [if_neg h1,if_neg h2,if_neg h3,if_neg h4,if_pos h5];exact beginNameS_pre a _ _
 by_cases h6:p.1=6
 ·simp only [if_neg h1,if_neg h2,if_neg h3,if_neg h4,if_neg h5,if_pos h6];exact endNameS_pre a _
 ·simp only [if_neg h1,if_neg h2,if_neg h3,if_neg h4,if_neg h5,if_neg h6];exact endPartS_pre a _ _
theorem inMarkS_pre (c:UInt8):inMarkS (preX a st) c=lfX a (inMarkS st c):=by
 unfold inMarkS
 show (match mkOf (st.mark++[c]) with|some p=>markS (preX a {st with mark:=[]}) p|none=>if st.mark.length + 1=13 then _ else _)=_
 cases mkOf (st.mark++[c]) with
 | some p=>exact markS_pre a _ _
 | none =>
  by_cases h:st.mark.length + 1=13
  ·simp only [if_pos h];rfl
  ·simp only [if_neg h];rfl
theorem holdS_pre (l:List UInt8):holdS (preX a st) l=lfX a (holdS st l):=by
 unfold holdS
 show (if mostK st.rk<st.held.length + l.length then _ else _)=_
 by_cases h:mostK st.rk<st.held.length + l.length
 ·simp only [if_pos h];rfl
 ·simp only [if_neg h];rfl
theorem rowS_pre (c:UInt8):rowS (preX a st) c=lfX a (rowS st c):=by
 unfold rowS
 show (if c.toNat<32∨(st.rk=4∧st.held.length=16) then _ else if c=38∧areD st.rk=false then _ else _)=_
 by_cases h:c.toNat<32∨(st.rk=4∧st.held.length=16)
 ·simp only [if_pos h];rfl
 by_cases h2:c=38∧areD st.rk=false
 ·simp only [if_neg h,if_pos h2];rfl
 ·simp only [if_neg h,if_neg h2];exact holdS_pre a _ _
theorem inRefS_pre (c:UInt8):inRefS (preX a st) c=lfX a (inRefS st c):=by
 unfold inRefS
 show (if c=59 then (match refC (st.ref++[c]) with|none=>_|some l=>holdS (preX a {st with ref:=[]}) l) else if st.ref.length + 1=10 then _ else _)=_
 by_cases h:c=59
 ·simp only [if_pos h]
  cases refC (st.ref++[c]) with
  | none=>rfl
  | some l=>exact holdS_pre a _ _
 by_cases h2:st.ref.length + 1=10
 ·simp only [if_neg h,if_pos h2];rfl
 ·simp only [if_neg h,if_neg h2];rfl
theorem goX_pre (c:UInt8):goX (preX a st) c=lfX a (goX st c):=by
 unfold goX
 show (if st.mark≠[] then _ else if st.ref≠[] then _ else if c=60∨c=34 then _ else if st.rk≠0 then _ else if blank c then _ else _)=_
 by_cases h1:st.mark≠[]
 ·simp only [if_pos h1];exact inMarkS_pre a st c
 by_cases h2:st.ref≠[]
 ·simp only [if_neg h1,if_pos h2];exact inRefS_pre a st c
 by_cases h3:c=60∨c=34
 ·simp only [if_neg h1,if_neg h2,if_pos h3];rfl
 by_cases h4:st.rk≠0
 ·simp only [if_neg h1,if_neg h2,if_neg h3,if_pos h4];exact rowS_pre a st c
 by_cases h5:blank c=true
 ·simp only [if_neg h1,if_neg h2,if_neg h3,if_neg h4,if_pos h5];rfl
 ·simp only [if_neg h1,if_neg h2,if_neg h3,if_neg h4,if_neg h5];rfl
theorem takeX_pre (c:UInt8):takeX (preX a st) c=lfX a (takeX st c):=by
 unfold takeX
 show bnd (countT (preT a st.t)) _=_
 rw [countT_pre]
 exact lfT_bnd a _ _ _ fun x=>goX_pre a {st with t:=x} c
theorem finX_pre:finX (preX a st)=lfX a (finX st):=by
 unfold finX
 show (if st.mark≠[]∨st.ks≠[]∨st.filled=false then _ else if st.t.passed then _ else _)=_
 by_cases h:st.mark≠[]∨st.ks≠[]∨st.filled=false
 ·simp only [if_pos h];rfl
 by_cases h2:st.t.passed=true
 ·simp only [if_neg h,if_pos h2];rfl
 ·simp only [if_neg h,if_neg h2];rfl
theorem feedX_pre (l:List UInt8):feedX (preX a st) l=lfX a (feedX st l):=by
 induction l generalizing st with
 | nil=>rfl
 | cons c l ih =>
  unfold feedX
  rw [takeX_pre]
  exact lfX_bnd a _ _ _ fun y=>ih y
end
def t0X (st:Xs):Xs:={st with t:={st.t with told:=[]} }
theorem preX_self (st:Xs):preX st.t.told (t0X st)=st:=by
 simp [preX,preT,t0X]
theorem readX_eq (l:List UInt8):readX l=bnd (bnd (feedX x0 l) finX) fun y=>.inr y.t.told:=by
 unfold readX
 cases feedX x0 l with
 | inl E=>rfl
 | inr x =>
  show bnd (finX (t0X x)) (fun y=>.inr (x.t.told++y.t.told))=bnd (finX x) fun y=>.inr y.t.told
  conv=>rhs;rw [←preX_self x,finX_pre]
  cases finX (t0X x) <;> rfl
end Go.Proofs.YthodiandebahdaaGreatDoor
