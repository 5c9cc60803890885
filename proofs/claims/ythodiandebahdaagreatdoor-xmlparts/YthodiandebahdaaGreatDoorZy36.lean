/- Merged by program: BnInv, BoBits. -/
import Derived.Test.YthodiandebahdaaGreatDoorZy35
namespace Go.Proofs.YthodiandebahdaaGreatDoor
open Go.RowKit
set_option linter.unusedSimpArgs false
set_option linter.unusedVariables false
set_option maxHeartbeats 8000000
def opK (ks:List Int):List Int:=(ks.filter (·≠10)).reverse
structure Kb (st:Xs):Prop where
 ks:st.t.ck.1.map (·.1)=opK st.ks
 b:opK st.ks≠[]→st.t.ck.2=true
 fil:st.ks=[]→st.filled=true→st.t.ck.2=true
 hd:∀ k q,st.ks=k :: q→k≠10
 run:st.t.passed=false→runE st.t.told=some st.t.ck∧runT (some (0,[])) st.t.told=some (st.t.tz,st.t.tp)
theorem tellT_parts {E0:Int} {t y:Tl} {e:Hd} (h:tellT E0 t e=.inr y):feedE (some t.ck) (mayB e) e=some y.ck∧(y.passed=false→t.passed=false∧takeT t.tz t.tp e=some (y.tz,y.tp)∧y.told=t.told++[e]):=by
 unfold tellT at h
 split at h
 ·cases h
 ·rename_i c hc
  split at h
  ·split at h
   ·cases h
   ·cases h;exact ⟨hc,fun q=>by cases q⟩
  ·rename_i x ht
   cases h
   refine ⟨hc,fun q=>?_⟩
   have q:t.passed=false:=q
   refine ⟨q,ht,?_⟩
   show (if t.passed=true then _ else _)=_
   rw [q];rfl
def RunOk (t:Tl):Prop:=t.passed=false→runE t.told=some t.ck∧runT (some (0,[])) t.told=some (t.tz,t.tp)
theorem tellT_run {E0:Int} {t y:Tl} {e:Hd} (h:RunOk t) (k:tellT E0 t e=.inr y):RunOk y:=by
 intro q
 obtain ⟨k1,k2⟩:=tellT_parts k
 obtain ⟨q1,q2,q3⟩:=k2 q
 obtain ⟨r1,r2⟩:=h q1
 rw [q3]
 constructor
 ·unfold runE at r1 ⊢
  rw [runS_app,r1]
  exact k1
 ·rw [runT_app,r2]
  exact q2
theorem passT_k {t y:Tl} (h:RunOk t) (k:passT t=.inr y):RunOk y∧y.ck=t.ck:=by
 unfold passT at k
 split at k
 ·cases k
 ·cases k;exact ⟨fun q=>(by cases q),rfl⟩
theorem countT_k {t y:Tl} (h:RunOk t) (k:countT t=.inr y):RunOk y∧y.ck=t.ck:=by
 unfold countT at k
 split at k
 ·exact passT_k (t:={t with total:=t.total + 1}) h k
 ·cases k;exact ⟨h,rfl⟩
theorem valE_k {a a':List Pa} {b b':Bool} (h:valE a b=some (a',b')) (hb:a≠[]→b=true):a'.map (·.1)=a.map (·.1)∧b'=true:=by
 cases a with
 | nil =>
  simp only [valE] at h
  split at h
  ·cases h
  ·cases h;exact ⟨rfl,rfl⟩
 | cons p r =>
  obtain ⟨k,w,ns⟩:=p
  simp only [valE] at h
  split at h
  ·cases h;exact ⟨rfl,hb (by simp)⟩
  ·cases h
theorem feedE_step {e:Hd} {c c':List Pa×Bool} (h:feedE (some c) (mayB e) e=some c'):stepE c.1 c.2 e=some c':=by
 unfold feedE at h
 split at h
 ·exact h
 ·cases h
theorem ev_k {t y:Tl} {e:Hd} (hb:t.ck.1≠[]→t.ck.2=true) (h10:e.kind≠10) (h11:e.kind≠11) (k:tellT 100 t e=.inr y):y.ck.1.map (·.1)=(newE e.kind).map (·.1)++t.ck.1.map (·.1)∧y.ck.2=true:=by
 have s:=feedE_step (tellT_parts k).1
 unfold stepE at s
 rw [if_neg h10,if_neg h11] at s
 cases hv:valE t.ck.1 t.ck.2 with
 | none=>rw [hv] at s;cases s
 | some z =>
  rw [hv] at s
  obtain ⟨v1,v2⟩:=valE_k (a':=z.1) (b':=z.2) hv hb
  have s:=(Option.some.inj s).symm
  rw [s]
  refine ⟨?_,v2⟩
  show (newE e.kind++z.1).map _=_
  rw [List.map_append,v1]
theorem opK_snoc (ks:List Int) (k:Int):opK (ks++[k])=if k=10 then opK ks else k :: opK ks:=by
 unfold opK
 rw [List.filter_append,List.reverse_append]
 by_cases h:k=10
 ·subst h;simp
 ·simp [h]
section
variable {st x y : Xs}
theorem Kb.ckb (h:Kb st) (k:st.t.ck.1≠[]):st.t.ck.2=true:=h.b fun e=>k (List.map_eq_nil_iff.1 (by rw [h.ks,e]))
theorem Kb.of (h:Kb st) (h1:y.t.ck=st.t.ck) (h2:y.ks=st.ks) (h3:y.filled=st.filled) (h4:RunOk y.t):Kb y :=
 ⟨by rw [h1,h2];exact h.ks,by rw [h1,h2];exact h.b,by rw [h1,h2,h3];exact h.fil,by rw [h2];exact h.hd,h4⟩
theorem leaf_t (h:Kb st) {t:Tl} {e:Hd} (h1:1≤e.kind) (h6:e.kind≤6) (hr:RunOk t) (hc:t.ck=st.t.ck) {z:Tl} (k:tellT 100 t e=.inr z):Kb {st with t:=z,filled:=true}:=by
 obtain ⟨a,b⟩:=ev_k (by rw [hc];exact h.ckb) (by omega) (by omega) k
 have:newE e.kind=[]:=by unfold newE;rw [if_neg (by omega),if_neg (by omega),if_neg (by omega)]
 rw [this] at a
 exact ⟨by show z.ck.1.map _=_;rw [a,hc];exact h.ks,fun _=>b,fun _ _=>b,h.hd,tellT_run hr k⟩
theorem leaf_k (h:Kb st) {e:Hd} (h1:1≤e.kind) (h6:e.kind≤6) (k:elemS st e=.inr x):Kb x:=by
 unfold elemS at k
 obtain ⟨y,k1,k2⟩:=bnd_inr k
 cases k2
 exact leaf_t h h1 h6 h.run rfl k1
theorem numS_k (h:Kb st) {s:ByteArray} (k:numS st s=.inr x):Kb x:=by
 unfold numS at k
 obtain ⟨y,k1,k2⟩:=bnd_inr k
 cases k2
 unfold tellN at k1
 split at k1
 ·exact leaf_t h (show (1:Int)≤3 by decide) (show (3:Int)≤6 by decide) h.run rfl k1
 split at k1
 ·obtain ⟨u,u1,u2⟩:=bnd_inr k1
  obtain ⟨a,b⟩:=passT_k h.run u1
  exact leaf_t h (show (1:Int)≤1 by decide) (show (1:Int)≤6 by decide) a b u2
 ·cases k1
theorem begin_k (h:Kb st) {e:Hd} (hk:e.kind=7∨e.kind=8∨e.kind=9) (k:beginS st e=.inr x):Kb x:=by
 unfold beginS at k
 obtain ⟨y,kt,e1⟩:=bnd_inr k
 cases e1
 obtain ⟨a,b⟩:=ev_k h.ckb (by omega) (by omega) kt
 have:(newE e.kind).map (·.1)=[e.kind]:=by
  rcases hk with q|q|q <;> rw [q] <;> rfl
 rw [this] at a
 refine ⟨?_,fun _=>b,fun _ q=>(by cases q),fun k q hq=>?_,tellT_run h.run kt⟩
 ·show y.ck.1.map _=opK (st.ks++[e.kind])
  rw [a,opK_snoc,if_neg (by omega),h.ks];rfl
 ·have hq:st.ks++[e.kind]=k :: q:=hq
  cases hs:st.ks with
  | nil=>rw [hs] at hq;cases hq;omega
  | cons k' q' =>
   rw [hs] at hq
   have e:k'=k:=(List.cons.inj hq).1
   rw [←e]
   exact h.hd k' q' hs
theorem name_k (h:Kb st) (h8:lastK st.ks=8) {s:ByteArray} (k:beginS st {zr 10 with text:=s}=.inr x):Kb x:=by
 unfold beginS at k
 obtain ⟨y,kt,e1⟩:=bnd_inr k
 cases e1
 have q:=feedE_step (tellT_parts kt).1
 unfold stepE at q
 rw [if_pos (show ({zr 10 with text:=s}:Hd).kind=10 from rfl)] at q
 have hne:st.ks≠[]:=by intro e;rw [e] at h8;cases h8
 cases hc:st.t.ck.1 with
 | nil=>rw [hc] at q;cases q
 | cons p r =>
  obtain ⟨k0,w,ns⟩:=p
  rw [hc] at q
  simp only at q
  split at q
  ·rename_i h8'
   have q:=(Option.some.inj q).symm
   have hks:=h.ks
   rw [hc] at hks
   have hb:=h.ckb (by rw [hc];simp)
   refine ⟨?_,fun _=>?_,fun _ q=>(by cases q),fun k q hq=>?_,tellT_run h.run kt⟩
   ·show y.ck.1.map _=opK (st.ks++[10])
    rw [opK_snoc,if_pos rfl,q,←hks,←h8'.1]
    rfl
   ·show y.ck.2=true
    rw [q];exact hb
   ·have hq:st.ks++[10]=k :: q:=hq
    cases hs:st.ks with
    | nil=>exact absurd hs hne
    | cons k' q' =>
     rw [hs] at hq
     have e:k'=k:=(List.cons.inj hq).1
     rw [←e]
     exact h.hd k' q' hs
  ·cases q
theorem lastK_snoc (ks:List Int) (k:Int):lastK (ks++[k])=k:=by simp [lastK]
theorem endF_k (h:Kb st) (h10:lastK st.ks=10):Kb {st with ks:=st.ks.dropLast}:=by
 rcases List.eq_nil_or_concat st.ks with e|⟨q,a,e⟩
 ·rw [e] at h10;cases h10
 ·rw [List.concat_eq_append] at e
  rw [e,lastK_snoc] at h10
  subst h10
  have hk:=h.ks
  have hb:=h.b
  rw [e,opK_snoc,if_pos rfl] at hk hb
  have hd:st.ks.dropLast=q:=by rw [e];simp
  have hq:q≠[]:=by
   intro hq
   have:=h.hd 10 [] (by rw [e,hq];rfl)
   exact this rfl
  refine ⟨by show st.t.ck.1.map _=opK st.ks.dropLast;rw [hd];exact hk,fun u=>hb (by have u:opK st.ks.dropLast≠[]:=u;rw [hd] at u;exact u),fun u=>?_,fun k u hu=>?_,h.run⟩
  ·have u:st.ks.dropLast=[]:=u
   rw [hd] at u
   exact absurd u hq
  ·have hu:st.ks.dropLast=k :: u:=hu
   rw [hd] at hu
   exact h.hd k (u++[10]) (by rw [e,hu];rfl)
theorem endP_k (h:Kb st) {k0:Int} (hl:lastK st.ks=k0) (h0:k0≠0) (h10:k0≠10) (k:elemS {st with ks:=st.ks.dropLast} evE=.inr x):Kb x:=by
 unfold elemS at k
 obtain ⟨y,kt,e1⟩:=bnd_inr k
 cases e1
 rcases List.eq_nil_or_concat st.ks with e|⟨q,a,e⟩
 ·rw [e] at hl;exact absurd hl.symm h0
 rw [List.concat_eq_append] at e
 rw [e,lastK_snoc] at hl
 subst hl
 have hd:st.ks.dropLast=q:=by rw [e];simp
 have hks:=h.ks
 rw [e,opK_snoc,if_neg h10] at hks
 have s:=feedE_step (tellT_parts kt).1
 unfold stepE at s
 rw [if_neg (show ¬ evE.kind=10 by decide),if_pos (show evE.kind=11 from rfl)] at s
 simp only at s
 cases hc:st.t.ck.1 with
 | nil=>rw [hc] at hks;cases hks
 | cons p r =>
  obtain ⟨k',w,ns⟩:=p
  rw [hc] at s hks
  simp only at s
  split at s
  ·have s:=(Option.some.inj s).symm
   have hb:=h.ckb (by rw [hc];simp)
   have e2:y.ck.2=true:=by rw [s];exact hb
   refine ⟨?_,fun _=>e2,fun _ _=>e2,fun k u hu=>?_,tellT_run (t:=st.t) h.run kt⟩
   ·show y.ck.1.map _=opK st.ks.dropLast
    rw [hd,s]
    exact (List.cons.inj hks).2
   ·have hu:st.ks.dropLast=k :: u:=hu
    rw [hd] at hu
    exact h.hd k (u++[a]) (by rw [e,hu];rfl)
  ·cases s
structure Kn (st:Xs):Prop where
 kb:Kb st
 nm:st.rk=10→lastK st.ks=8
theorem Kb.row0 (h:Kb st):Kb (row0 st):=h.of rfl rfl rfl h.run
theorem elem_rk {e:Hd} (k:elemS st e=.inr x):x.rk=st.rk:=by
 obtain ⟨y,_,k2⟩:=bnd_inr k;cases k2;rfl
theorem begin_rk {e:Hd} (k:beginS st e=.inr x):x.rk=st.rk:=by
 obtain ⟨y,_,k2⟩:=bnd_inr k;cases k2;rfl
theorem num_rk {s:ByteArray} (k:numS st s=.inr x):x.rk=st.rk:=by
 obtain ⟨y,_,k2⟩:=bnd_inr k;cases k2;rfl
theorem Kn.zero (h:Kb x) (e:x.rk=0):Kn x:=⟨h,fun q=>by rw [e] at q;cases q⟩
theorem endRow_k (h:Kn st) {k0:Int} (k:endRowS st k0=.inr x):Kn x:=by
 have hb:=h.kb.row0
 unfold endRowS at k
 split at k
 ·cases k
 split at k
 ·exact Kn.zero (numS_k hb k) (num_rk k)
 split at k
 ·unfold floatS at k
  split at k
  ·exact Kn.zero (leaf_k hb (show (1:Int)≤4 by decide) (show (4:Int)≤6 by decide) k) (elem_rk k)
  ·cases k
 split at k
 ·exact Kn.zero (leaf_k hb (show (1:Int)≤5 by decide) (show (5:Int)≤6 by decide) k) (elem_rk k)
 split at k
 ·unfold bytesS at k
  split at k
  ·cases k
  ·exact Kn.zero (leaf_k hb (show (1:Int)≤6 by decide) (show (6:Int)≤6 by decide) k) (elem_rk k)
 ·cases k;exact Kn.zero hb rfl
theorem want_rk (h:¬ wantE st=true):st.rk=0:=by
 cases hq:st.rk != 0 with
 | true=>exact absurd (by unfold wantE;rw [hq];rfl) h
 | false=>simpa using hq
def okP (p:Nat×Int×Bool):Prop:=(p.1=1→1≤p.2.1∧p.2.1≤6)∧(p.1=2→p.2.1≠10)∧(p.1=4→p.2.1=7∨p.2.1=8)∧(p.1=7→p.2.1≠0)
theorem mkOf_okP {l:List UInt8} {p:Nat×Int×Bool} (h:mkOf l=some p):okP p∧(1≤p.1∧p.1≤7):=by
 unfold mkOf at h
 by_cases e0:l=mNull
 ·rw [if_pos e0] at h
  cases Option.some.inj h
  exact ⟨by unfold okP;exact ⟨by decide,by decide,by decide,by decide⟩,by decide⟩
 rw [if_neg e0] at h
 by_cases e1:l=mTrue
 ·rw [if_pos e1] at h
  cases Option.some.inj h
  exact ⟨by unfold okP;exact ⟨by decide,by decide,by decide,by decide⟩,by decide⟩
 rw [if_neg e1] at h
 by_cases e2:l=mFalse
 ·rw [if_pos e2] at h
  cases Option.some.inj h
  exact ⟨by unfold okP;exact ⟨by decide,by decide,by decide,by decide⟩,by decide⟩
 rw [if_neg e2] at h
 by_cases e3:l=mNum
 ·rw [if_pos e3] at h
  cases Option.some.inj h
  exact ⟨by unfold okP;exact ⟨by decide,by decide,by decide,by decide⟩,by decide⟩
 rw [if_neg e3] at h
 by_cases e4:l=mNumE
 ·rw [if_pos e4] at h
  cases Option.some.inj h
  exact ⟨by unfold okP;exact ⟨by decide,by decide,by decide,by decide⟩,by decide⟩
 rw [if_neg e4] at h
 by_cases e5:l=mFloat
 ·rw [if_pos e5] at h
  cases Option.some.inj h
  exact ⟨by unfold okP;exact ⟨by decide,by decide,by decide,by decide⟩,by decide⟩
 rw [if_neg e5] at h
 by_cases e6:l=mFloatE
 ·rw [if_pos e6] at h
  cases Option.some.inj h
  exact ⟨by unfold okP;exact ⟨by decide,by decide,by decide,by decide⟩,by decide⟩
 rw [if_neg e6] at h
 by_cases e7:l=mText
 ·rw [if_pos e7] at h
  cases Option.some.inj h
  exact ⟨by unfold okP;exact ⟨by decide,by decide,by decide,by decide⟩,by decide⟩
 rw [if_neg e7] at h
 by_cases e8:l=mTextE
 ·rw [if_pos e8] at h
  cases Option.some.inj h
  exact ⟨by unfold okP;exact ⟨by decide,by decide,by decide,by decide⟩,by decide⟩
 rw [if_neg e8] at h
 by_cases e9:l=mBytes
 ·rw [if_pos e9] at h
  cases Option.some.inj h
  exact ⟨by unfold okP;exact ⟨by decide,by decide,by decide,by decide⟩,by decide⟩
 rw [if_neg e9] at h
 by_cases e10:l=mBytesE
 ·rw [if_pos e10] at h
  cases Option.some.inj h
  exact ⟨by unfold okP;exact ⟨by decide,by decide,by decide,by decide⟩,by decide⟩
 rw [if_neg e10] at h
 by_cases e11:l=mList
 ·rw [if_pos e11] at h
  cases Option.some.inj h
  exact ⟨by unfold okP;exact ⟨by decide,by decide,by decide,by decide⟩,by decide⟩
 rw [if_neg e11] at h
 by_cases e12:l=mListE
 ·rw [if_pos e12] at h
  cases Option.some.inj h
  exact ⟨by unfold okP;exact ⟨by decide,by decide,by decide,by decide⟩,by decide⟩
 rw [if_neg e12] at h
 by_cases e13:l=mRec
 ·rw [if_pos e13] at h
  cases Option.some.inj h
  exact ⟨by unfold okP;exact ⟨by decide,by decide,by decide,by decide⟩,by decide⟩
 rw [if_neg e13] at h
 by_cases e14:l=mRecE
 ·rw [if_pos e14] at h
  cases Option.some.inj h
  exact ⟨by unfold okP;exact ⟨by decide,by decide,by decide,by decide⟩,by decide⟩
 rw [if_neg e14] at h
 by_cases e15:l=mField
 ·rw [if_pos e15] at h
  cases Option.some.inj h
  exact ⟨by unfold okP;exact ⟨by decide,by decide,by decide,by decide⟩,by decide⟩
 rw [if_neg e15] at h
 by_cases e16:l=mFieldE
 ·rw [if_pos e16] at h
  cases Option.some.inj h
  exact ⟨by unfold okP;exact ⟨by decide,by decide,by decide,by decide⟩,by decide⟩
 rw [if_neg e16] at h
 by_cases e17:l=mTag
 ·rw [if_pos e17] at h
  cases Option.some.inj h
  exact ⟨by unfold okP;exact ⟨by decide,by decide,by decide,by decide⟩,by decide⟩
 rw [if_neg e17] at h
 by_cases e18:l=mTagE
 ·rw [if_pos e18] at h
  cases Option.some.inj h
  exact ⟨by unfold okP;exact ⟨by decide,by decide,by decide,by decide⟩,by decide⟩
 rw [if_neg e18] at h
 by_cases e19:l=mNameE
 ·rw [if_pos e19] at h
  cases Option.some.inj h
  exact ⟨by unfold okP;exact ⟨by decide,by decide,by decide,by decide⟩,by decide⟩
 rw [if_neg e19] at h
 cases h
theorem mark_k (h:Kn st) {p:Nat×Int×Bool} (hp:okP p∧(1≤p.1∧p.1≤7)) (k:markS st p=.inr x):Kn x:=by
 obtain ⟨⟨p1,p2,p4,p7⟩,pa,pb⟩:=hp
 unfold markS at k
 split at k
 ·rename_i e1
  split at k
  ·cases k
  ·rename_i hw
   exact Kn.zero (leaf_k h.kb (p1 e1).1 (p1 e1).2 k) ((elem_rk k).trans (want_rk hw))
 split at k
 ·rename_i e2
  split at k
  ·cases k
  ·cases k
   exact ⟨h.kb.of rfl rfl rfl h.kb.run,fun q=>absurd q (p2 e2)⟩
 split at k
 ·exact endRow_k h k
 split at k
 ·rename_i e4
  split at k
  ·cases k
  ·rename_i hw
   exact Kn.zero (begin_k h.kb (by rcases p4 e4 with q|q;exact Or.inl q;exact Or.inr (Or.inl q)) k) ((begin_rk k).trans (want_rk hw))
 split at k
 ·unfold beginNameS at k
  split at k
  ·rename_i e9
   split at k
   ·cases k
   ·cases k
    exact ⟨h.kb.of rfl rfl rfl h.kb.run,fun q=>by have q:p.2.1=10:=q;omega⟩
  ·split at k
   ·cases k
   ·rename_i hn
    cases k
    refine ⟨h.kb.of rfl rfl rfl h.kb.run,fun _=>?_⟩
    show lastK st.ks=8
    exact Classical.byContradiction fun q=>hn (Or.inr q)
 split at k
 ·unfold endNameS at k
  split at k
  ·cases k
  ·rename_i hn
   have hr:st.rk=10∨st.rk=9:=by omega
   rcases hr with e|e
   ·rw [e] at k
    exact Kn.zero (name_k h.kb.row0 (h.nm e) k) (begin_rk k)
   ·rw [e] at k
    exact Kn.zero (begin_k h.kb.row0 (Or.inr (Or.inr rfl)) k) (begin_rk k)
 ·rename_i n1 n2 n3 n4 n5 n6
  have e7:p.1=7:=by omega
  unfold endPartS at k
  split at k
  ·cases k
  ·rename_i hn
   have hl:lastK st.ks=p.2.1:=Classical.byContradiction fun q=>hn (Or.inr (Or.inl q))
   have hr:st.rk=0:=Classical.byContradiction fun q=>hn (Or.inl q)
   split at k
   ·rename_i e10
    cases k
    exact Kn.zero (endF_k h.kb (by rw [hl,e10])) hr
   ·rename_i e10
    exact Kn.zero (endP_k h.kb hl (p7 e7) e10 k) ((elem_rk k).trans hr)
theorem holdS_k (h:Kn st) {l:List UInt8} (k:holdS st l=.inr x):Kn x:=by
 unfold holdS at k
 split at k
 ·cases k
 ·cases k;exact ⟨h.kb.of rfl rfl rfl h.kb.run,h.nm⟩
theorem goX_k (h:Kn st) {c:UInt8} (k:goX st c=.inr x):Kn x:=by
 unfold goX at k
 split at k
 ·unfold inMarkS at k
  split at k
  ·rename_i p hp
   exact mark_k (st:={st with mark:=[]}) ⟨h.kb.of rfl rfl rfl h.kb.run,h.nm⟩ (mkOf_okP hp) k
  ·split at k
   ·cases k
   ·cases k;exact ⟨h.kb.of rfl rfl rfl h.kb.run,h.nm⟩
 split at k
 ·unfold inRefS at k
  split at k
  ·split at k
   ·cases k
   ·exact holdS_k (st:={st with ref:=[]}) ⟨h.kb.of rfl rfl rfl h.kb.run,h.nm⟩ k
  ·split at k
   ·cases k
   ·cases k;exact ⟨h.kb.of rfl rfl rfl h.kb.run,h.nm⟩
 split at k
 ·cases k;exact ⟨h.kb.of rfl rfl rfl h.kb.run,h.nm⟩
 split at k
 ·unfold rowS at k
  split at k
  ·cases k
  split at k
  ·cases k;exact ⟨h.kb.of rfl rfl rfl h.kb.run,h.nm⟩
  ·exact holdS_k h k
 split at k
 ·cases k;exact h
 ·cases k
theorem takeX_k (h:Kn st) {c:UInt8} (k:takeX st c=.inr x):Kn x:=by
 unfold takeX at k
 obtain ⟨t,k1,k2⟩:=bnd_inr k
 obtain ⟨a,b⟩:=countT_k h.kb.run k1
 exact goX_k (st:={st with t:=t}) ⟨h.kb.of b rfl rfl a,h.nm⟩ k2
theorem feedX_k:∀ (l:List UInt8) (st x:Xs),Kn st→feedX st l=.inr x→Kn x
 | [],st,x,h,k=>by cases k;exact h
 | c :: l,st,x,h,k=>by
  unfold feedX at k
  obtain ⟨y,k1,k2⟩:=bnd_inr k
  exact feedX_k l y x (takeX_k h k1) k2
end
theorem kn_x0:Kn x0:=⟨⟨rfl,fun h=>absurd rfl h,(fun _ q=>by cases q),(fun k q e=>by cases e),fun _=>⟨rfl,rfl⟩⟩,fun q=>by cases q⟩
theorem readX_done {l:List UInt8} {es:List Hd} (h:readX l=.inr es):runE es=some ([],true)∧∃ t,runT (some (0,[])) es=some t:=by
 rw [readX_eq] at h
 obtain ⟨y,h1,h2⟩:=bnd_inr h
 obtain ⟨x,h0,h1⟩:=bnd_inr h1
 cases h2
 have kx:=feedX_k l x0 x kn_x0 h0
 unfold finX at h1
 split at h1
 ·cases h1
 ·rename_i hw
  split at h1
  ·cases h1
  ·rename_i hp
   cases h1
   have hks:y.ks=[]:=Classical.byContradiction fun q=>hw (Or.inr (Or.inl q))
   have hf:y.filled=true:=by
    cases hq:y.filled with
    | true=>rfl
    | false=>exact absurd (Or.inr (Or.inr hq)) hw
   have hp:y.t.passed=false:=by cases hq:y.t.passed with
    | false=>rfl
    | true=>exact absurd hq hp
   obtain ⟨r1,r2⟩:=kx.kb.run hp
   have ks:=kx.kb.ks
   rw [hks] at ks
   have c1:y.t.ck.1=[]:=List.map_eq_nil_iff.1 ks
   refine ⟨?_,_,r2⟩
   rw [r1]
   congr 1
   exact Prod.ext c1 (kx.kb.fil hks hf)
def B64 (e:Hd):Prop:=0≤e.bits∧e.bits<18446744073709551616
theorem b64_0 {e:Hd} (h:e.bits=0):B64 e:=by unfold B64;omega
theorem fuhS_lt {o:Option Nat} {c:UInt8} {b k:Nat} (h:fuhS o c=some b) (ho:∀ a,o=some a→a<16 ^ k):b<16 ^ (k + 1):=by
 unfold fuhS at h
 split at h
 ·rename_i a d h1
  cases h
  have:=ho a rfl
  have hd:d<16:=by
   unfold fhv at h1
   split at h1
   ·cases h1;omega
   ·split at h1
    ·cases h1;omega
    ·cases h1
  rw [Nat.pow_succ];omega
 ·cases h
theorem fuh_lt:∀ (l:List UInt8) (a k b:Nat),a<16 ^ k→l.foldl fuhS (some a)=some b→b<16 ^ (k + l.length)
 | [],a,k,b,h,e=>by cases e;exact h
 | c :: l,a,k,b,h,e=>by
  simp only [List.foldl_cons] at e
  cases hs:fuhS (some a) c with
  | none =>
   rw [hs] at e
   have:∀ l:List UInt8,l.foldl fuhS none=none:=by
    intro l
    induction l with
    | nil=>rfl
    | cons d l ih=>exact ih
   rw [this] at e;cases e
  | some a' =>
   rw [hs] at e
   have h2:=fuhS_lt hs (k:=k) (fun x hx=>by cases hx;exact h)
   have h3:=fuh_lt l a' (k + 1) b h2 e
   rw [List.length_cons,show k + (l.length + 1)=k + 1 + l.length by omega]
   exact h3
theorem b64_f (s:ByteArray) (h:(funh s).2=0):B64 (evFloat (funh s).1):=by
 show 0≤(((funh s).1:Nat):Int)∧(((funh s).1:Nat):Int)<18446744073709551616
 unfold funh at h ⊢
 split at h
 ·rename_i hs
  rw [if_pos hs]
  split at h
  ·rename_i b hb
   have:=fuh_lt (bl s) 0 0 b (by decide) hb
   rw [bl_length,hs] at this
   have e:(16:Nat) ^ (0 + 16)=18446744073709551616:=by decide
   rw [e] at this
   show 0≤((b:Nat):Int)∧((b:Nat):Int)<18446744073709551616
   omega
  ·cases h
 ·cases h
def Bt (st:Xs):Prop:=∀ e∈st.t.told,B64 e
def BtT (t:Tl):Prop:=∀ e∈t.told,B64 e
theorem tellT_b {E0:Int} {t y:Tl} {e:Hd} (h:BtT t) (he:B64 e) (k:tellT E0 t e=.inr y):BtT y:=by
 unfold tellT at k
 split at k
 ·cases k
 ·split at k
  ·split at k
   ·cases k
   ·cases k;exact h
  ·cases k
   intro e' q
   have q:e'∈(if t.passed=true then t.told else t.told++[e]):=q
   split at q
   ·exact h e' q
   ·rcases List.mem_append.1 q with q|q
    ·exact h e' q
    ·rw [List.mem_singleton.1 q];exact he
theorem passT_b {t y:Tl} (h:BtT t) (k:passT t=.inr y):BtT y:=by
 unfold passT at k
 split at k
 ·cases k
 ·cases k;exact h
theorem countT_b {t y:Tl} (h:BtT t) (k:countT t=.inr y):BtT y:=by
 unfold countT at k
 split at k
 ·exact passT_b (t:={t with total:=t.total + 1}) h k
 ·cases k;exact h
section
variable {st x y : Xs}
theorem elem_b (h:Bt st) {e:Hd} (he:B64 e) (k:elemS st e=.inr x):Bt x:=by
 unfold elemS at k
 obtain ⟨y,k1,k2⟩:=bnd_inr k
 cases k2
 exact tellT_b (t:=st.t) h he k1
theorem begin_b (h:Bt st) {e:Hd} (he:B64 e) (k:beginS st e=.inr x):Bt x:=by
 unfold beginS at k
 obtain ⟨y,k1,k2⟩:=bnd_inr k
 cases k2
 exact tellT_b (t:=st.t) h he k1
theorem numS_b (h:Bt st) {s:ByteArray} (k:numS st s=.inr x):Bt x:=by
 unfold numS at k
 obtain ⟨y,k1,k2⟩:=bnd_inr k
 cases k2
 unfold tellN at k1
 split at k1
 ·exact tellT_b (t:=st.t) h (b64_0 rfl) k1
 split at k1
 ·obtain ⟨u,u1,u2⟩:=bnd_inr k1
  exact tellT_b (passT_b (t:=st.t) h u1) (b64_0 rfl) u2
 ·cases k1
theorem endRow_b (h:Bt st) {k0:Int} (k:endRowS st k0=.inr x):Bt x:=by
 have hb:Bt (row0 st):=h
 unfold endRowS at k
 split at k
 ·cases k
 split at k
 ·exact numS_b hb k
 split at k
 ·unfold floatS at k
  split at k
  ·rename_i hz
   exact elem_b hb (b64_f _ hz) k
  ·cases k
 split at k
 ·exact elem_b hb (b64_0 rfl) k
 split at k
 ·unfold bytesS at k
  split at k
  ·cases k
  ·exact elem_b hb (b64_0 rfl) k
 ·cases k;exact hb
theorem mark_b (h:Bt st) {p:Nat×Int×Bool} (k:markS st p=.inr x):Bt x:=by
 unfold markS at k
 split at k
 ·split at k
  ·cases k
  ·exact elem_b h (b64_0 rfl) k
 split at k
 ·split at k
  ·cases k
  ·cases k;exact h
 split at k
 ·exact endRow_b h k
 split at k
 ·split at k
  ·cases k
  ·exact begin_b h (b64_0 rfl) k
 split at k
 ·unfold beginNameS at k
  split at k
  ·split at k
   ·cases k
   ·cases k;exact h
  ·split at k
   ·cases k
   ·cases k;exact h
 split at k
 ·unfold endNameS at k
  split at k
  ·cases k
  ·exact begin_b (st:=row0 st) h (b64_0 rfl) k
 ·unfold endPartS at k
  split at k
  ·cases k
  split at k
  ·cases k;exact h
  ·exact elem_b (st:={st with ks:=st.ks.dropLast}) h (b64_0 rfl) k
theorem hold_b (h:Bt st) {l:List UInt8} (k:holdS st l=.inr x):Bt x:=by
 unfold holdS at k
 split at k
 ·cases k
 ·cases k;exact h
theorem goX_b (h:Bt st) {c:UInt8} (k:goX st c=.inr x):Bt x:=by
 unfold goX at k
 split at k
 ·unfold inMarkS at k
  split at k
  ·exact mark_b (st:={st with mark:=[]}) h k
  ·split at k
   ·cases k
   ·cases k;exact h
 split at k
 ·unfold inRefS at k
  split at k
  ·split at k
   ·cases k
   ·exact hold_b (st:={st with ref:=[]}) h k
  ·split at k
   ·cases k
   ·cases k;exact h
 split at k
 ·cases k;exact h
 split at k
 ·unfold rowS at k
  split at k
  ·cases k
  split at k
  ·cases k;exact h
  ·exact hold_b h k
 split at k
 ·cases k;exact h
 ·cases k
theorem feedX_b:∀ (l:List UInt8) (st x:Xs),Bt st→feedX st l=.inr x→Bt x
 | [],st,x,h,k=>by cases k;exact h
 | c :: l,st,x,h,k=>by
  unfold feedX at k
  obtain ⟨y,k1,k2⟩:=bnd_inr k
  unfold takeX at k1
  obtain ⟨t,k3,k4⟩:=bnd_inr k1
  exact feedX_b l y x (goX_b (st:={st with t:=t}) (countT_b (t:=st.t) h k3) k4) k2
end
theorem readX_b64 {l:List UInt8} {es:List Hd} (h:readX l=.inr es):∀ e∈es,B64 e:=by
 rw [readX_eq] at h
 obtain ⟨y,h1,h2⟩:=bnd_inr h
 obtain ⟨x,h0,h1⟩:=bnd_inr h1
 cases h2
 have kx:=feedX_b l x0 x (fun e q=>by cases q) h0
 unfold finX at h1
 split at h1
 ·cases h1
 ·split at h1
  ·cases h1
  ·cases h1
   exact kx
theorem fl_rg:∀ (n:Nat) (x:VT n),IsV n x→(∀ e∈fl n x,B64 e)→Rg n x
 | 0,x,_,_=>Empty.elim x
 | n + 1,x,hv,h=>by
  obtain ⟨hd,l⟩:=x
  have h0:B64 (hd0 hd):=h _ (by rw [fl_succ];simp)
  refine ⟨h0.1,h0.2,?_⟩
  intro y hy
  have hy:y∈l:=hy
  by_cases h7:hd.kind<7
  ·have hb:7≤hd.kind∨l=[]:=hv.1.2.2.2
   rcases hb with q|q
   ·omega
   ·rw [q] at hy;cases hy
  ·refine fl_rg n y (hv.2.2 y hy) fun e he=>h e ?_
   rw [fl_succ,if_neg h7]
   obtain ⟨i,hi,rfl⟩:=List.getElem_of_mem hy
   refine List.mem_cons_of_mem _ (List.mem_append.2 (Or.inl ?_))
   unfold kids
   rw [List.mem_flatten]
   refine ⟨kid n hd l i,List.mem_map.2 ⟨i,List.mem_range.2 hi,rfl⟩,?_⟩
   unfold kid
   rw [List.getElem?_eq_getElem hi]
   exact List.mem_append.2 (Or.inr he)
end Go.Proofs.YthodiandebahdaaGreatDoor
