/- Merged by program: TkBits, ThInv, LmBound, LnKeep, MuRead. -/
import Derived.Test.YtpimjkdakjhoaaaGreatDoorZk51
import Derived.Test.YtpimjkdakjhoaaaGreatDoorZk41
namespace Go.Proofs.YtpimjkdakjhoaaaGreatDoor
open Go.RowKit
set_option linter.unusedSimpArgs false
set_option linter.unusedVariables false
set_option maxHeartbeats 8000000
def B64 (e:Hd):Prop:=0≤e.bits∧e.bits<18446744073709551616
theorem b64_0 {e:Hd} (h:e.bits=0):B64 e:=by unfold B64;omega
theorem fuhS_lt {o:Option Nat} {c:UInt8} {b k:Nat} (h:fuhS o c=some b) (ho:∀ a,o=some a→a<16 ^ k):b<16 ^ (k + 1):=by
 unfold fuhS at h
 split at h
 ·rename_i a d h1
  cases h
  have:=ho a rfl
  have hd:d<16:=by
   unfold fhv at h1
   split at h1
   ·cases h1;omega
   ·split at h1
    ·cases h1;omega
    ·cases h1
  rw [Nat.pow_succ];omega
 ·cases h
theorem fuh_lt:∀ (l:List UInt8) (a k b:Nat),a<16 ^ k→l.foldl fuhS (some a)=some b→b<16 ^ (k + l.length)
 | [],a,k,b,h,e=>by cases e;exact h
 | c :: l,a,k,b,h,e=>by
  simp only [List.foldl_cons] at e
  cases hs:fuhS (some a) c with
  | none =>
   rw [hs] at e
   have:∀ l:List UInt8,l.foldl fuhS none=none:=by
    intro l
    induction l with
    | nil=>rfl
    | cons d l ih=>exact ih
   rw [this] at e;cases e
  | some a' =>
   rw [hs] at e
   have h2:=fuhS_lt hs (k:=k) (fun x hx=>by cases hx;exact h)
   have h3:=fuh_lt l a' (k + 1) b h2 e
   rw [List.length_cons,show k + (l.length + 1)=k + 1 + l.length by omega]
   exact h3
theorem b64_f (s:ByteArray) (h:(funh s).2=0):B64 (evFloat (funh s).1):=by
 show 0≤(((funh s).1:Nat):Int)∧(((funh s).1:Nat):Int)<18446744073709551616
 unfold funh at h ⊢
 split at h
 ·rename_i hs
  rw [if_pos hs]
  split at h
  ·rename_i b hb
   have:=fuh_lt (bl s) 0 0 b (by decide) hb
   rw [bl_length,hs] at this
   have e:(16:Nat) ^ (0 + 16)=18446744073709551616:=by decide
   rw [e] at this
   show 0≤((b:Nat):Int)∧((b:Nat):Int)<18446744073709551616
   omega
  ·cases h
 ·cases h
def Bt (st:St):Prop:=∀ e∈st.told,B64 e
section
variable {st x y : St}
theorem tell_bt (h:Bt st) {e:Hd} (he:B64 e) (k:tellS st e=.inr x):Bt x:=by
 unfold tellS at k
 split at k
 ·cases k
 ·split at k
  ·split at k
   ·cases k
   ·cases k;exact h
  ·cases k
   intro e' q
   have q:e'∈(if st.passed=true then st.told else st.told++[e]):=q
   split at q
   ·exact h e' q
   ·rcases List.mem_append.1 q with q|q
    ·exact h e' q
    ·rw [List.mem_singleton.1 q];exact he
theorem begin_b (h:Bt st) {e:Hd} (he:B64 e) (k:beginS st e=.inr x):Bt x:=by
 unfold beginS at k
 obtain ⟨y,k1,k2⟩:=bnd_inr k
 cases k2
 have:=tell_bt h he k1
 exact this
theorem end_b (h:Bt st) (k:endS st=.inr x):Bt x:=by
 unfold endS at k
 obtain ⟨y,k1,k2⟩:=bnd_inr k
 cases k2
 have:=tell_bt h (b64_0 rfl) k1
 exact this
theorem name_b (h:Bt st) {s:ByteArray} (k:nameS st s=.inr x):Bt x:=by
 unfold nameS at k
 obtain ⟨y,k1,k2⟩:=bnd_inr k
 cases k2
 have:=tell_bt h (b64_0 rfl) k1
 exact this
theorem rec_b (h:Bt st) {s:ByteArray} (k:recS st s=.inr x):Bt x:=by
 unfold recS at k
 obtain ⟨y,k1,k2⟩:=bnd_inr k
 exact name_b (begin_b (st:={st with wait:=5}) h (b64_0 rfl) k1) k2
theorem first_b (h:Bt st) {s:ByteArray} (k:firstS st s=.inr x):Bt x:=by
 unfold firstS at k
 split at k
 ·cases k;exact h
 split at k
 ·cases k;exact h
 split at k
 ·cases k;exact h
 split at k
 ·split at k
  ·exact rec_b h k
  ·cases k
 ·exact rec_b h k
theorem tellV_b {f:St→St} (hf:∀ z:St,(f z).told=z.told) (h:Bt st) {e:Hd} (he:B64 e) (k:(bnd (tellS st e) fun x=>.inr (f x))=.inr x):Bt x:=by
 obtain ⟨y,k1,k2⟩:=bnd_inr k
 cases k2
 intro e' q
 rw [hf] at q
 exact tell_bt h he k1 e' q
theorem text_b (h:Bt st) {s:ByteArray} (k:textS st s=.inr x):Bt x:=by
 unfold textS at k
 split at k
 ·exact tellV_b (f:=endV) (fun z=>rfl) h (b64_0 rfl) k
 split at k
 ·exact first_b h k
 split at k
 ·exact name_b h k
 split at k
 ·unfold floatS at k
  split at k
  ·rename_i hz
   exact tellV_b (f:=fun x=>{x with wait:=12}) (fun z=>rfl) h (b64_f s hz) k
  ·cases k
 split at k
 ·unfold bytesS at k
  split at k
  ·cases k
  ·exact tellV_b (f:=fun x=>{x with wait:=12}) (fun z=>rfl) h (b64_0 rfl) k
 split at k
 ·obtain ⟨y,k1,k2⟩:=bnd_inr k
  cases k2
  have:=begin_b h (b64_0 rfl) k1
  exact this
 ·cases k
theorem pass_b (h:Bt st) (k:passS st=.inr x):Bt x:=by
 unfold passS at k
 split at k
 ·cases k
 ·cases k;exact h
theorem wordE_b (h:Bt st) {s:ByteArray} {z:Hd×St} (k:wordE st s=.inr z):Bt z.2∧B64 z.1:=by
 unfold wordE at k
 split at k
 ·cases k;exact ⟨h,b64_0 rfl⟩
 split at k
 ·cases k;exact ⟨h,b64_0 rfl⟩
 split at k
 ·cases k;exact ⟨h,b64_0 rfl⟩
 unfold numS at k
 split at k
 ·cases k;exact ⟨h,b64_0 rfl⟩
 split at k
 ·obtain ⟨y,k1,k2⟩:=bnd_inr k
  cases k2
  exact ⟨pass_b h k1,b64_0 rfl⟩
 ·cases k
theorem endWord_b (h:Bt st) (k:endWordS st=.inr x):Bt x:=by
 unfold endWordS at k
 split at k
 ·cases k;exact h
 ·unfold wordS at k
  split at k
  ·obtain ⟨z,k1,k2⟩:=bnd_inr k
   obtain ⟨a,b⟩:=wordE_b (st:={st with word:=[]}) h k1
   exact tellV_b (f:=endV) (fun z=>rfl) a b k2
  ·cases k
theorem endV_b (h:Bt st) (k:(bnd (endS st) fun x=>.inr (endV x))=.inr x):Bt x:=by
 obtain ⟨y,k1,k2⟩:=bnd_inr k
 cases k2
 have:=end_b h k1
 exact this
theorem mark_b (h:Bt st) {c:UInt8} (k:markS st c=.inr x):Bt x:=by
 unfold markS at k
 split at k
 ·cases k;exact h
 split at k
 ·unfold openL at k
  split at k
  ·obtain ⟨y,k1,k2⟩:=bnd_inr k
   cases k2
   have:=begin_b h (b64_0 rfl) k1
   exact this
  split at k
  ·cases k;exact h
  ·cases k
 split at k
 ·unfold closeL at k
  split at k
  ·exact endV_b h k
  split at k
  ·obtain ⟨y,k1,k2⟩:=bnd_inr k
   cases k2
   have:=end_b h k1
   exact this
  ·cases k
 split at k
 ·unfold openO at k
  split at k
  ·cases k;exact h
  ·cases k
 split at k
 ·unfold closeO at k
  split at k
  ·obtain ⟨y,k1,k2⟩:=bnd_inr k
   exact endV_b (begin_b h (b64_0 rfl) k1) k2
  split at k
  ·exact endV_b h k
  split at k
  ·cases k;exact h
  ·cases k
 split at k
 ·unfold commaS at k
  split at k
  ·cases k;exact h
  split at k
  ·cases k;exact h
  ·cases k
 split at k
 ·unfold colonS at k
  split at k
  ·cases k;exact h
  ·cases k
 ·cases k;exact h
theorem take_bt (h:Bt st) {c:UInt8} (k:takeS st c=.inr x):Bt x:=by
 unfold takeS at k
 obtain ⟨s2,k2,hg⟩:=bnd_inr k
 have h2:Bt s2:=by
  split at k2
  ·exact pass_b (st:={st with total:=st.total + 1}) h k2
  ·cases k2;exact h
 unfold goS at hg
 split at hg
 ·unfold quoS at hg
  obtain ⟨z,hz,he⟩:=bnd_inr hg
  split at he
  ·obtain ⟨u,hu,he⟩:=bnd_inr he
   exact text_b (st:={s2 with q:=q0}) h2 he
  ·cases he
   exact h2
 split at hg
 ·obtain ⟨z,hz,he⟩:=bnd_inr hg
  exact mark_b (endWord_b h2 hz) he
 ·unfold holdS at hg
  split at hg
  ·cases hg
  ·cases hg
   exact h2
theorem feed_b:∀ (l:List UInt8) (st x:St),Bt st→feedS st l=.inr x→Bt x
 | [],st,x,h,k=>by cases k;exact h
 | c :: l,st,x,h,k=>by
  unfold feedS at k
  obtain ⟨y,k1,k2⟩:=bnd_inr k
  exact feed_b l y x (take_bt h k1) k2
end
theorem read_b64 {l:List UInt8} {es:List Hd} (h:readS l=.inr es):∀ e∈es,B64 e:=by
 rw [readS_eq] at h
 obtain ⟨y,h1,h2⟩:=bnd_inr h
 obtain ⟨x,h0,h1⟩:=bnd_inr h1
 cases h2
 have kx:=feed_b l st0 x (fun e q=>by cases q) h0
 unfold finS at h1
 obtain ⟨z,hz,h1⟩:=bnd_inr h1
 have kz:=endWord_b kx hz
 split at h1
 ·cases h1
 ·split at h1
  ·cases h1
  ·cases h1
   exact kz
theorem fl_rg:∀ (n:Nat) (x:VT n),IsV n x→(∀ e∈fl n x,B64 e)→Rg n x
 | 0,x,_,_=>Empty.elim x
 | n + 1,x,hv,h=>by
  obtain ⟨hd,l⟩:=x
  have h0:B64 (hd0 hd):=h _ (by rw [fl_succ];simp)
  refine ⟨h0.1,h0.2,?_⟩
  intro y hy
  have hy:y∈l:=hy
  by_cases h7:hd.kind<7
  ·have hb:7≤hd.kind∨l=[]:=hv.1.2.2.2
   rcases hb with q|q
   ·omega
   ·rw [q] at hy;cases hy
  ·refine fl_rg n y (hv.2.2 y hy) fun e he=>h e ?_
   rw [fl_succ,if_neg h7]
   obtain ⟨i,hi,rfl⟩:=List.getElem_of_mem hy
   refine List.mem_cons_of_mem _ (List.mem_append.2 (Or.inl ?_))
   unfold kids
   rw [List.mem_flatten]
   refine ⟨kid n hd l i,List.mem_map.2 ⟨i,List.mem_range.2 hi,rfl⟩,?_⟩
   unfold kid
   rw [List.getElem?_eq_getElem hi]
   exact List.mem_append.2 (Or.inr he)
structure Kb (st:St):Prop where
 ks:st.ck.1.map (·.1)=st.ks.reverse
 b:st.ks≠[]→st.ck.2=true
 kk:∀ k∈st.ks,k≠0
 beh:st.behind≠12∧st.behind≠13
 run:st.passed=false→runE st.told=some st.ck∧runT (some (0,[])) st.told=some (st.tz,st.tp)
structure Kv (st:St):Prop where
 kb:Kb st
 w12:st.wait=12→st.ck.2=true
 w13:st.wait=13→st.ks=[]∧st.ck.2=true
section
variable {st x y : St}
theorem Kb.of (h:Kb st) (h1:y.ck=st.ck) (h2:y.ks=st.ks) (h3:y.behind=st.behind) (h4:y.told=st.told) (h5:(y.tz,y.tp)=(st.tz,st.tp)) (h6:y.passed=false→st.passed=false):Kb y :=
 ⟨by rw [h1,h2];exact h.ks,by rw [h1,h2];exact h.b,by rw [h2];exact h.kk,by rw [h3];exact h.beh,fun q=>by rw [h1,h4,h5];exact h.run (h6 q)⟩
theorem Kb.w (h:Kb st) (a:Nat):Kb {st with wait:=a}:=h.of rfl rfl rfl rfl rfl id
theorem tell_parts {e:Hd} (h:tellS st e=.inr y):feedE (some st.ck) (mayB e) e=some y.ck∧y.ks=st.ks∧y.behind=st.behind∧(y.passed=false→st.passed=false∧takeT st.tz st.tp e=some (y.tz,y.tp)∧y.told=st.told++[e]):=by
 unfold tellS at h
 split at h
 ·cases h
 ·rename_i c hc
  split at h
  ·split at h
   ·cases h
   ·cases h;exact ⟨hc,rfl,rfl,fun q=>by cases q⟩
  ·rename_i t ht
   cases h
   refine ⟨hc,rfl,rfl,fun q=>?_⟩
   have q:st.passed=false:=q
   refine ⟨q,ht,?_⟩
   show (if st.passed=true then _ else _)=_
   rw [q];rfl
theorem run_more (h:Kb st) {e:Hd} (k:tellS st e=.inr y):y.passed=false→runE y.told=some y.ck∧runT (some (0,[])) y.told=some (y.tz,y.tp):=by
 intro q
 obtain ⟨k1,_,_,k2⟩:=tell_parts k
 obtain ⟨q1,q2,q3⟩:=k2 q
 obtain ⟨r1,r2⟩:=h.run q1
 rw [q3]
 constructor
 ·unfold runE at r1 ⊢
  rw [runS_app,r1]
  exact k1
 ·rw [runT_app,r2]
  exact q2
theorem valE_k {a a':List Pa} {b b':Bool} (h:valE a b=some (a',b')) (hb:a≠[]→b=true):a'.map (·.1)=a.map (·.1)∧b'=true:=by
 cases a with
 | nil =>
  simp only [valE] at h
  split at h
  ·cases h
  ·cases h;exact ⟨rfl,rfl⟩
 | cons p r =>
  obtain ⟨k,w,ns⟩:=p
  simp only [valE] at h
  split at h
  ·cases h;exact ⟨rfl,hb (by simp)⟩
  ·cases h
theorem feedE_step {e:Hd} {c c':List Pa×Bool} (h:feedE (some c) (mayB e) e=some c'):stepE c.1 c.2 e=some c':=by
 unfold feedE at h
 split at h
 ·exact h
 ·cases h
theorem ck_ne (h:Kb st) (k:st.ck.1≠[]):st.ks≠[]:=by
 intro e
 have:=h.ks
 rw [e] at this
 exact k (List.map_eq_nil_iff.1 this)
theorem val_k (h:Kb st) {e:Hd} (h10:e.kind≠10) (h11:e.kind≠11) (k:tellS st e=.inr y):y.ck.1.map (·.1)=(newE e.kind).map (·.1)++st.ks.reverse∧y.ck.2=true∧y.ks=st.ks∧y.behind=st.behind:=by
 obtain ⟨k1,k2,k3,_⟩:=tell_parts k
 have s:=feedE_step k1
 unfold stepE at s
 rw [if_neg h10,if_neg h11] at s
 cases hv:valE st.ck.1 st.ck.2 with
 | none=>rw [hv] at s;cases s
 | some z =>
  rw [hv] at s
  obtain ⟨v1,v2⟩:=valE_k (a':=z.1) (b':=z.2) hv (fun q=>h.b (ck_ne h q))
  have s:=(Option.some.inj s).symm
  rw [s]
  refine ⟨?_,v2,k2,k3⟩
  show (newE e.kind++z.1).map _=_
  rw [List.map_append,v1,h.ks]
theorem leaf_k (h:Kb st) {e:Hd} (h1:1≤e.kind) (h6:e.kind≤6) (k:tellS st e=.inr y):Kb y∧y.ck.2=true:=by
 obtain ⟨a,b,c,d⟩:=val_k h (by omega) (by omega) k
 have:newE e.kind=[]:=by unfold newE;rw [if_neg (by omega),if_neg (by omega),if_neg (by omega)]
 rw [this] at a
 exact ⟨⟨by rw [c];exact a,fun _=>b,by rw [c];exact h.kk,by rw [d];exact h.beh,run_more h k⟩,b⟩
theorem begin_k (h:Kb st) {e:Hd} (hk:e.kind=7∨e.kind=8∨e.kind=9) (k:beginS st e=.inr x):Kb x∧x.ck.2=true:=by
 unfold beginS at k
 obtain ⟨y,kt,e1⟩:=bnd_inr k
 cases e1
 obtain ⟨a,b,c,d⟩:=val_k h (by omega) (by omega) kt
 have:(newE e.kind).map (·.1)=[e.kind]:=by
  rcases hk with q|q|q <;> rw [q] <;> rfl
 rw [this] at a
 refine ⟨⟨?_,fun _=>b,?_,by show y.behind≠12∧y.behind≠13;rw [d];exact h.beh,(fun q=>by have:=run_more h kt (show y.passed=false from q);exact this)⟩,b⟩
 ·show y.ck.1.map _=(y.ks++[e.kind]).reverse
  rw [a,c];simp
 ·show ∀ k∈y.ks++[e.kind],k≠0
  rw [c]
  intro k hk'
  rcases List.mem_append.1 hk' with q|q
  ·exact h.kk k q
  ·rw [List.mem_singleton.1 q];omega
theorem end_k (h:Kb st) (k:endS st=.inr x):Kb x∧x.ck.2=true:=by
 unfold endS at k
 obtain ⟨y,kt,e1⟩:=bnd_inr k
 cases e1
 obtain ⟨k1,k2,k3,_⟩:=tell_parts kt
 have s:=feedE_step k1
 unfold stepE at s
 rw [if_neg (show ¬ evE.kind=10 by decide),if_pos (show evE.kind=11 from rfl)] at s
 cases hc:st.ck.1 with
 | nil=>rw [hc] at s;cases s
 | cons p r =>
  obtain ⟨k,w,ns⟩:=p
  rw [hc] at s
  simp only at s
  split at s
  ·have s:=(Option.some.inj s).symm
   have hks:=h.ks
   rw [hc] at hks
   have hne:st.ks≠[]:=ck_ne h (by rw [hc];simp)
   have hb:=h.b hne
   have e1:y.ck.1.map (·.1)=st.ks.dropLast.reverse:=by
    rw [s]
    have:st.ks.reverse.tail=st.ks.dropLast.reverse:=by simp
    rw [←this,←hks]
    rfl
   have e2:y.ck.2=true:=by rw [s];exact hb
   refine ⟨⟨?_,fun _=>e2,?_,by show y.behind≠12∧y.behind≠13;rw [k3];exact h.beh,(fun q=>by have:=run_more h kt (show y.passed=false from q);exact this)⟩,e2⟩
   ·show y.ck.1.map _=y.ks.dropLast.reverse
    rw [k2];exact e1
   ·show ∀ k∈y.ks.dropLast,k≠0
    rw [k2]
    intro k hk'
    exact h.kk k (List.dropLast_subset _ hk')
  ·cases s
theorem name_k (h:Kb st) {s:ByteArray} (k:nameS st s=.inr x):Kv x:=by
 unfold nameS at k
 obtain ⟨y,kt,e1⟩:=bnd_inr k
 cases e1
 obtain ⟨k1,k2,k3,_⟩:=tell_parts kt
 have q:=feedE_step k1
 unfold stepE at q
 rw [if_pos (show (evN s).kind=10 from rfl)] at q
 cases hc:st.ck.1 with
 | nil=>rw [hc] at q;cases q
 | cons p r =>
  obtain ⟨k0,w,ns⟩:=p
  rw [hc] at q
  simp only at q
  split at q
  ·rename_i h8
   have q:=(Option.some.inj q).symm
   have hks:=h.ks
   rw [hc] at hks
   have hne:st.ks≠[]:=ck_ne h (by rw [hc];simp)
   have hb:=h.b hne
   refine ⟨⟨?_,fun _=>?_,?_,⟨by show (0:Nat)≠12;decide,by show (0:Nat)≠13;decide⟩,(fun q=>by have:=run_more h kt (show y.passed=false from q);exact this)⟩,(fun e=>by cases e),(fun e=>by cases e)⟩
   ·show y.ck.1.map _=y.ks.reverse
    rw [k2,q,←hks,←h8.1]
    rfl
   ·show y.ck.2=true
    rw [q];exact hb
   ·show ∀ k∈y.ks,k≠0
    rw [k2];exact h.kk
  ·cases q
theorem lastK_zero {ks:List Int} (h:lastK ks=0) (hk:∀ k∈ks,k≠0):ks=[]:=by
 rcases List.eq_nil_or_concat ks with e|⟨q,a,e⟩
 ·exact e
 ·rw [e] at h hk
  simp [lastK] at h
  exact absurd h (hk a (by simp))
theorem endV_k (h:Kb st) (hb:st.ck.2=true):Kv (endV st):=by
 refine ⟨h.w _,fun _=>hb,fun e=>?_⟩
 have e:endW st.ks=13:=e
 unfold endW at e
 split at e
 ·rename_i h0
  exact ⟨lastK_zero h0 h.kk,hb⟩
 ·split at e <;> cases e
theorem kv_w (h:Kb st) (a:Nat) (h1:a≠12) (h2:a≠13):Kv {st with wait:=a}:=⟨h.w a,fun e=>absurd e h1,fun e=>absurd e h2⟩
theorem kv_wb (h:Kb st) (a b:Nat) (h1:a≠12) (h2:a≠13) (h3:b≠12) (h4:b≠13):Kv {st with wait:=a,behind:=b}:=⟨⟨h.ks,h.b,h.kk,⟨h3,h4⟩,h.run⟩,fun e=>absurd e h1,fun e=>absurd e h2⟩
theorem rec_k (h:Kb st) {s:ByteArray} (k:recS st s=.inr x):Kv x:=by
 unfold recS at k
 obtain ⟨y,k1,k2⟩:=bnd_inr k
 exact name_k (begin_k (h.w 5) (Or.inr (Or.inl rfl)) k1).1 k2
theorem first_k (h:Kb st) {s:ByteArray} (k:firstS st s=.inr x):Kv x:=by
 unfold firstS at k
 split at k
 ·cases k;exact kv_wb h 5 6 (by decide) (by decide) (by decide) (by decide)
 split at k
 ·cases k;exact kv_wb h 5 7 (by decide) (by decide) (by decide) (by decide)
 split at k
 ·cases k;exact kv_wb h 5 8 (by decide) (by decide) (by decide) (by decide)
 split at k
 ·split at k
  ·exact rec_k h k
  ·cases k
 ·exact rec_k h k
theorem leafV (h:Kb st) {e:Hd} (h1:1≤e.kind) (h6:e.kind≤6) (k:(bnd (tellS st e) fun x=>.inr (endV x))=.inr x):Kv x:=by
 obtain ⟨y,k1,k2⟩:=bnd_inr k
 cases k2
 obtain ⟨a,b⟩:=leaf_k h h1 h6 k1
 exact endV_k a b
theorem leaf12 (h:Kb st) {e:Hd} (h1:1≤e.kind) (h6:e.kind≤6) (k:(bnd (tellS st e) fun x=>.inr {x with wait:=12})=.inr x):Kv x:=by
 obtain ⟨y,k1,k2⟩:=bnd_inr k
 cases k2
 obtain ⟨a,b⟩:=leaf_k h h1 h6 k1
 exact ⟨a.w 12,fun _=>b,fun e=>by cases e⟩
theorem text_k (h:Kb st) {s:ByteArray} (k:textS st s=.inr x):Kv x:=by
 unfold textS at k
 split at k
 ·exact leafV h (show (1:Int)≤5 by decide) (show (5:Int)≤6 by decide) k
 split at k
 ·exact first_k h k
 split at k
 ·exact name_k h k
 split at k
 ·unfold floatS at k
  split at k
  ·exact leaf12 h (show (1:Int)≤4 by decide) (show (4:Int)≤6 by decide) k
  ·cases k
 split at k
 ·unfold bytesS at k
  split at k
  ·cases k
  ·exact leaf12 h (show (1:Int)≤6 by decide) (show (6:Int)≤6 by decide) k
 split at k
 ·obtain ⟨y,k1,k2⟩:=bnd_inr k
  cases k2
  exact kv_w (begin_k h (Or.inr (Or.inr rfl)) k1).1 10 (by decide) (by decide)
 ·cases k
theorem pass_k (h:Kb st) (k:passS st=.inr x):Kb x:=by
 unfold passS at k
 split at k
 ·cases k
 ·cases k;exact h.of rfl rfl rfl rfl rfl (fun q=>by cases q)
theorem wordE_k (h:Kb st) {s:ByteArray} {z:Hd×St} (k:wordE st s=.inr z):Kb z.2∧1≤z.1.kind∧z.1.kind≤6:=by
 unfold wordE at k
 split at k
 ·cases k;exact ⟨h,show (1:Int)≤1 by decide,show (1:Int)≤6 by decide⟩
 split at k
 ·cases k;exact ⟨h,show (1:Int)≤2 by decide,show (2:Int)≤6 by decide⟩
 split at k
 ·cases k;exact ⟨h,show (1:Int)≤2 by decide,show (2:Int)≤6 by decide⟩
 unfold numS at k
 split at k
 ·cases k;exact ⟨h,show (1:Int)≤3 by decide,show (3:Int)≤6 by decide⟩
 split at k
 ·obtain ⟨y,k1,k2⟩:=bnd_inr k
  cases k2
  exact ⟨pass_k h k1,show (1:Int)≤1 by decide,show (1:Int)≤6 by decide⟩
 ·cases k
theorem endWord_k (h:Kv st) (k:endWordS st=.inr x):Kv x:=by
 unfold endWordS at k
 split at k
 ·cases k;exact h
 ·unfold wordS at k
  split at k
  ·obtain ⟨z,k1,k2⟩:=bnd_inr k
   obtain ⟨a,b,c⟩:=wordE_k (st:={st with word:=[]}) (h.kb.of rfl rfl rfl rfl rfl id) k1
   exact leafV a b c k2
  ·cases k
theorem kv_of (h:Kv st) (hb:Kb y) (h1:y.ck=st.ck) (h2:y.ks=st.ks) (h3:y.wait=st.wait):Kv y:=⟨hb,by rw [h1,h3];exact h.w12,by rw [h1,h2,h3];exact h.w13⟩
theorem mark_k (h:Kv st) {c:UInt8} (k:markS st c=.inr x):Kv x:=by
 unfold markS at k
 split at k
 ·cases k;exact kv_of h (h.kb.of rfl rfl rfl rfl rfl id) rfl rfl rfl
 split at k
 ·unfold openL at k
  split at k
  ·obtain ⟨y,k1,k2⟩:=bnd_inr k
   cases k2
   exact kv_w (begin_k h.kb (Or.inl rfl) k1).1 1 (by decide) (by decide)
  split at k
  ·cases k;exact kv_w h.kb 9 (by decide) (by decide)
  ·cases k
 split at k
 ·unfold closeL at k
  split at k
  ·obtain ⟨y,k1,k2⟩:=bnd_inr k
   cases k2
   obtain ⟨a,b⟩:=end_k h.kb k1
   exact endV_k a b
  split at k
  ·obtain ⟨y,k1,k2⟩:=bnd_inr k
   cases k2
   obtain ⟨a,b⟩:=end_k h.kb k1
   exact ⟨a.w 12,fun _=>b,fun e=>by cases e⟩
  ·cases k
 split at k
 ·unfold openO at k
  split at k
  ·cases k;exact kv_w h.kb 3 (by decide) (by decide)
  ·cases k
 split at k
 ·unfold closeO at k
  split at k
  ·obtain ⟨y,k1,k2⟩:=bnd_inr k
   obtain ⟨z,k4,k3⟩:=bnd_inr k2
   cases k3
   obtain ⟨a,b⟩:=end_k (begin_k h.kb (Or.inr (Or.inl rfl)) k1).1 k4
   exact endV_k a b
  split at k
  ·obtain ⟨y,k1,k2⟩:=bnd_inr k
   cases k2
   obtain ⟨a,b⟩:=end_k h.kb k1
   exact endV_k a b
  split at k
  ·rename_i h12
   cases k
   exact endV_k h.kb (h.w12 h12)
  ·cases k
 split at k
 ·unfold commaS at k
  split at k
  ·cases k;exact kv_w h.kb 4 (by decide) (by decide)
  split at k
  ·cases k;exact kv_w h.kb 0 (by decide) (by decide)
  ·cases k
 split at k
 ·unfold colonS at k
  split at k
  ·cases k;exact kv_w h.kb st.behind h.kb.beh.1 h.kb.beh.2
  ·cases k
 ·cases k;exact h
theorem take_k (h:Kv st) {c:UInt8} (k:takeS st c=.inr x):Kv x:=by
 unfold takeS at k
 obtain ⟨s2,k2,hg⟩:=bnd_inr k
 have h2:Kv s2:=by
  split at k2
  ·unfold passS at k2
   split at k2
   ·cases k2
   ·cases k2
    exact kv_of h (h.kb.of rfl rfl rfl rfl rfl (fun q=>by cases q)) rfl rfl rfl
  ·cases k2
   exact kv_of h (h.kb.of rfl rfl rfl rfl rfl id) rfl rfl rfl
 unfold goS at hg
 split at hg
 ·unfold quoS at hg
  obtain ⟨z,hz,he⟩:=bnd_inr hg
  split at he
  ·obtain ⟨u,hu,he⟩:=bnd_inr he
   exact text_k (st:={s2 with q:=q0}) (h2.kb.of rfl rfl rfl rfl rfl id) he
  ·cases he
   exact kv_of h2 (h2.kb.of rfl rfl rfl rfl rfl id) rfl rfl rfl
 split at hg
 ·obtain ⟨z,hz,he⟩:=bnd_inr hg
  exact mark_k (endWord_k h2 hz) he
 ·unfold holdS at hg
  split at hg
  ·cases hg
  ·cases hg
   exact kv_of h2 (h2.kb.of rfl rfl rfl rfl rfl id) rfl rfl rfl
theorem feed_k:∀ (l:List UInt8) (st x:St),Kv st→feedS st l=.inr x→Kv x
 | [],st,x,h,k=>by cases k;exact h
 | c :: l,st,x,h,k=>by
  unfold feedS at k
  obtain ⟨y,k1,k2⟩:=bnd_inr k
  exact feed_k l y x (take_k h k1) k2
end
theorem kv_st0:Kv st0:=⟨⟨rfl,fun h=>absurd rfl h,(fun k hk=>by (cases hk)),⟨by decide,by decide⟩,fun _=>⟨rfl,rfl⟩⟩,(fun h=>by (cases h)),(fun h=>by (cases h))⟩
theorem read_done {l:List UInt8} {es:List Hd} (h:readS l=.inr es):runE es=some ([],true)∧∃ t,runT (some (0,[])) es=some t:=by
 rw [readS_eq] at h
 obtain ⟨y,h1,h2⟩:=bnd_inr h
 obtain ⟨x,h0,h1⟩:=bnd_inr h1
 cases h2
 have kx:=feed_k l st0 x kv_st0 h0
 unfold finS at h1
 obtain ⟨z,hz,h1⟩:=bnd_inr h1
 have kz:=endWord_k kx hz
 split at h1
 ·cases h1
 ·rename_i hw
  split at h1
  ·cases h1
  ·rename_i hp
   cases h1
   have hw13:y.wait=13:=by
    apply Classical.byContradiction
    intro q
    exact hw (Or.inl q)
   obtain ⟨w1,w2⟩:=kz.w13 hw13
   have hp:y.passed=false:=by cases hq:y.passed with
    | false=>rfl
    | true=>exact absurd hq hp
   obtain ⟨r1,r2⟩:=kz.kb.run hp
   have ks:=kz.kb.ks
   rw [w1] at ks
   have c1:y.ck.1=[]:=List.map_eq_nil_iff.1 ks
   refine ⟨?_,_,r2⟩
   rw [r1]
   congr 1
   exact Prod.ext c1 w2
structure Iv (st:St):Prop where
 held:st.q.held.length≤8192
 word:st.word.length≤512
 told:∀ e∈st.told,EvZ e
 len:st.told.length≤st.n
section
variable {st x : St}
theorem tell_iv (h:Iv st) {e:Hd} (hz:EvZ e) (k:tellS st e=.inr x):Iv x:=by
 unfold tellS at k
 split at k
 ·cases k
 ·split at k
  ·split at k
   ·cases k
   ·cases k;exact ⟨h.held,h.word,h.told,Nat.le_succ_of_le h.len⟩
  ·cases k
   refine ⟨h.held,h.word,?_,?_⟩
   ·cases st.passed with
    | true=>exact h.told
    | false =>
     intro e' he'
     rcases List.mem_append.1 he' with q|q
     ·exact h.told e' q
     ·rw [List.mem_singleton.1 q];exact hz
   ·cases st.passed with
    | true=>exact Nat.le_succ_of_le h.len
    | false=>show (st.told++[e]).length≤st.n + 1;rw [List.length_append,List.length_singleton];exact Nat.succ_le_succ h.len
theorem iv_of {y:St} (h:Iv st) (h1:y.q.held=st.q.held) (h2:y.word=st.word) (h3:y.told=st.told) (h4:y.n=st.n):Iv y:=⟨by rw [h1];exact h.held,by rw [h2];exact h.word,by rw [h3];exact h.told,by rw [h3,h4];exact h.len⟩
theorem begin_iv (h:Iv st) {e:Hd} (hz:EvZ e) (k:beginS st e=.inr x):Iv x:=by
 obtain ⟨y,hy,he⟩:=bnd_inr k
 cases he
 exact iv_of (tell_iv h hz hy) rfl rfl rfl rfl
theorem end_iv (h:Iv st) (k:endS st=.inr x):Iv x:=by
 obtain ⟨y,hy,he⟩:=bnd_inr k
 cases he
 exact iv_of (tell_iv h ⟨by decide,by decide,rfl⟩ hy) rfl rfl rfl rfl
theorem endV_iv (h:Iv st):Iv (endV st):=iv_of h rfl rfl rfl rfl
theorem name_iv (h:Iv st) {s:ByteArray} (hs:s.size≤100000) (k:nameS st s=.inr x):Iv x:=by
 obtain ⟨y,hy,he⟩:=bnd_inr k
 cases he
 exact iv_of (tell_iv h (zN s hs) hy) rfl rfl rfl rfl
theorem rec_iv (h:Iv st) {s:ByteArray} (hs:s.size≤100000) (k:recS st s=.inr x):Iv x:=by
 obtain ⟨y,hy,he⟩:=bnd_inr k
 exact name_iv (begin_iv (st:={st with wait:=5}) (iv_of h rfl rfl rfl rfl) z8 hy) hs he
theorem first_iv (h:Iv st) {s:ByteArray} (hs:s.size≤100000) (k:firstS st s=.inr x):Iv x:=by
 rw [firstS_eq] at k
 split at k
 ·cases k;exact iv_of h rfl rfl rfl rfl
 split at k
 ·cases k;exact iv_of h rfl rfl rfl rfl
 split at k
 ·cases k;exact iv_of h rfl rfl rfl rfl
 split at k
 ·split at k
  ·exact rec_iv h (by rw [←bl_length,bl_mkB,List.length_drop,bl_length];omega) k
  ·cases k
 ·exact rec_iv h hs k
theorem tellW_iv (h:Iv st) {e:Hd} (hz:EvZ e) {a:Nat} (k:(bnd (tellS st e) fun x=>.inr {x with wait:=a})=.inr x):Iv x:=by
 obtain ⟨y,hy,he⟩:=bnd_inr k
 cases he
 exact iv_of (tell_iv h hz hy) rfl rfl rfl rfl
theorem text_iv (h:Iv st) {s:ByteArray} (hs:s.size≤100000) (k:textS st s=.inr x):Iv x:=by
 unfold textS at k
 split at k
 ·obtain ⟨y,hy,he⟩:=bnd_inr k
  cases he
  exact endV_iv (tell_iv h (zT s hs) hy)
 split at k
 ·exact first_iv h hs k
 split at k
 ·exact name_iv h hs k
 split at k
 ·unfold floatS at k
  split at k
  ·exact tellW_iv h (zF _) k
  ·cases k
 split at k
 ·unfold bytesS at k
  split at k
  ·cases k
  ·rename_i l hl
   exact tellW_iv h (zB _ (Nat.le_trans (hx2_size s l hl) hs)) k
 split at k
 ·obtain ⟨y,hy,he⟩:=bnd_inr k
  cases he
  exact iv_of (begin_iv h (zG s hs) hy) rfl rfl rfl rfl
 ·cases k
theorem pass_iv (h:Iv st) (k:passS st=.inr x):Iv x:=by
 unfold passS at k
 split at k
 ·cases k
 ·cases k;exact iv_of h rfl rfl rfl rfl
theorem wordE_iv (h:Iv st) {s:ByteArray} {z:Hd×St} (k:wordE st s=.inr z):Iv z.2:=by
 unfold wordE at k
 split at k
 ·cases k;exact h
 split at k
 ·cases k;exact h
 split at k
 ·cases k;exact h
 unfold numS at k
 split at k
 ·cases k;exact h
 split at k
 ·obtain ⟨y,hy,he⟩:=bnd_inr k
  cases he
  exact pass_iv h hy
 ·cases k
theorem word_iv (h:Iv st) {s:ByteArray} (k:wordS st s=.inr x):Iv x:=by
 unfold wordS at k
 split at k
 ·obtain ⟨z,hz,k⟩:=bnd_inr k
  obtain ⟨y,hy,he⟩:=bnd_inr k
  cases he
  exact endV_iv (tell_iv (wordE_iv h hz) (wordE_z hz).1 hy)
 ·cases k
theorem endWord_iv (h:Iv st) (k:endWordS st=.inr x):Iv x:=by
 unfold endWordS at k
 split at k
 ·cases k;exact h
 ·exact word_iv (st:={st with word:=[]}) ⟨h.held,by simp,h.told,h.len⟩ k
theorem mark_iv (h:Iv st) {c:UInt8} (k:markS st c=.inr x):Iv x:=by
 unfold markS at k
 split at k
 ·cases k;exact iv_of h rfl rfl rfl rfl
 split at k
 ·unfold openL at k
  split at k
  ·obtain ⟨y,hy,he⟩:=bnd_inr k
   cases he
   exact iv_of (begin_iv h z7 hy) rfl rfl rfl rfl
  split at k
  ·cases k;exact iv_of h rfl rfl rfl rfl
  ·cases k
 split at k
 ·unfold closeL at k
  split at k
  ·obtain ⟨y,hy,he⟩:=bnd_inr k
   cases he
   exact endV_iv (end_iv h hy)
  split at k
  ·obtain ⟨y,hy,he⟩:=bnd_inr k
   cases he
   exact iv_of (end_iv h hy) rfl rfl rfl rfl
  ·cases k
 split at k
 ·unfold openO at k
  split at k
  ·cases k;exact iv_of h rfl rfl rfl rfl
  ·cases k
 split at k
 ·unfold closeO at k
  split at k
  ·obtain ⟨y,hy,k⟩:=bnd_inr k
   obtain ⟨z,hz,he⟩:=bnd_inr k
   cases he
   exact endV_iv (end_iv (begin_iv h z8 hy) hz)
  split at k
  ·obtain ⟨y,hy,he⟩:=bnd_inr k
   cases he
   exact endV_iv (end_iv h hy)
  split at k
  ·cases k;exact endV_iv h
  ·cases k
 split at k
 ·unfold commaS at k
  split at k
  ·cases k;exact iv_of h rfl rfl rfl rfl
  split at k
  ·cases k;exact iv_of h rfl rfl rfl rfl
  ·cases k
 split at k
 ·unfold colonS at k
  split at k
  ·cases k;exact iv_of h rfl rfl rfl rfl
  ·cases k
 ·cases k;exact h
theorem holdQ_len {q:Qa} {l:List UInt8} {z:Value×Qa} (k:holdQ q l=.inr z):z.2.held.length≤8192:=by
 unfold holdQ at k
 split at k
 ·rename_i hl;cases k;show (q.held++l).length≤8192;rw [List.length_append];exact hl
 ·cases k
theorem takeQ_len {q:Qa} {c:UInt8} {z:Value×Qa} (h:q.held.length≤8192) (k:takeQ q c=.inr z):z.2.held.length≤8192:=by
 unfold takeQ at k
 split at k
 ·unfold uescQ at k
  split at k
  ·simp only [retQ] at k;cases k;exact h
  split at k
  ·cases k
  split at k
  ·cases k
  split at k
  ·rename_i hl;simp only [retQ] at k;cases k;show (q.held++[_]).length≤8192;rw [List.length_append];exact hl
  ·cases k
 split at k
 ·unfold digQ at k
  split at k
  ·cases k
  ·simp only at k
   split at k
   ·split at k
    ·cases k
    ·rename_i y hy
     simp only [retQ] at k
     cases k
     show y.2.held.length≤8192
     unfold endQ at hy
     split at hy
     ·cases hy;exact h
     split at hy
     ·cases hy
     split at hy
     ·exact holdQ_len hy
     ·cases hy
   ·simp only [retQ] at k;cases k;exact h
 ·unfold plainQ at k
  split at k
  ·cases k;exact h
  split at k
  ·cases k
  split at k
  ·cases k;exact h
  split at k
  ·rename_i hl;cases k;show (q.held++[c]).length≤8192;rw [List.length_append];exact hl
  ·cases k
theorem take_iv (h:Iv st) {c:UInt8} (k:takeS st c=.inr x):Iv x:=by
 unfold takeS at k
 obtain ⟨s2,h2,k⟩:=bnd_inr k
 have i2:Iv s2:=by
  split at h2
  ·exact pass_iv (st:={st with total:=st.total + 1}) (iv_of h rfl rfl rfl rfl) h2
  ·cases h2;exact iv_of h rfl rfl rfl rfl
 unfold goS at k
 split at k
 ·unfold quoS at k
  obtain ⟨z,hz,k⟩:=bnd_inr k
  have hl:=takeQ_len i2.held hz
  split at k
  ·obtain ⟨u,hu,k⟩:=bnd_inr k
   exact text_iv (st:={s2 with q:=q0}) ⟨by show (0:Nat)≤8192;decide,i2.word,i2.told,i2.len⟩ (by rw [←bl_length,bl_mkB];omega) k
  ·cases k;exact ⟨hl,i2.word,i2.told,i2.len⟩
 split at k
 ·obtain ⟨y,hy,k⟩:=bnd_inr k
  exact mark_iv (endWord_iv i2 hy) k
 ·unfold holdS at k
  split at k
  ·cases k
  ·rename_i hl
   cases k
   refine ⟨i2.held,?_,i2.told,i2.len⟩
   show (s2.word++[c]).length≤512
   rw [List.length_append,List.length_singleton]
   have:=i2.word
   omega
theorem feed_iv (h:Iv st):∀ {l:List UInt8} {x:St},feedS st l=.inr x→Iv x:=by
 intro l
 induction l generalizing st with
 | nil=>intro x k;cases k;exact h
 | cons c l ih =>
  intro x k
  obtain ⟨y,hy,k⟩:=bnd_inr k
  exact ih (take_iv h hy) k
theorem fin_iv (h:Iv st) (k:finS st=.inr x):Iv x:=by
 obtain ⟨y,hy,k⟩:=bnd_inr k
 have iy:=endWord_iv h hy
 split at k
 ·cases k
 split at k
 ·cases k
 ·cases k;exact iy
theorem fin_n (hw:Wf st) (k:finS st=.inr x):x.n≤st.n + 1:=by
 obtain ⟨y,hy,k⟩:=bnd_inr k
 have:=(facts_endWordS hy hw.wk.k1 hw.wk.k11).1
 split at k
 ·cases k
 split at k
 ·cases k
 ·cases k;exact this
theorem st0_iv:Iv st0:=⟨by decide,by decide,fun e he=>by (cases he),by decide⟩
end
theorem tell_one {st x:St} {e:Hd} (k:tellS st e=.inr x):x.told.length≤st.told.length + 1:=by
 unfold tellS at k
 split at k
 ·cases k
 ·split at k
  ·split at k
   ·cases k
   ·cases k;exact Nat.le_succ _
  ·cases k
   show (if st.passed=true then st.told else st.told++[e]).length≤_
   split
   ·exact Nat.le_succ _
   ·rw [List.length_append];exact Nat.le_refl _
theorem wordE_told {st:St} {s:ByteArray} {z:Hd×St} (k:wordE st s=.inr z):z.2.told=st.told:=by
 unfold wordE at k
 split at k
 ·cases k;rfl
 split at k
 ·cases k;rfl
 split at k
 ·cases k;rfl
 unfold numS at k
 split at k
 ·cases k;rfl
 split at k
 ·obtain ⟨y,hy,he⟩:=bnd_inr k
  cases he
  unfold passS at hy
  split at hy
  ·cases hy
  ·cases hy;rfl
 ·cases k
theorem fin_one {x y:St} (k:finS {x with told:=[]}=.inr y):y.told.length≤1:=by
 obtain ⟨z,hz,k⟩:=bnd_inr k
 have hl:z.told.length≤1:=by
  unfold endWordS at hz
  split at hz
  ·cases hz;exact Nat.zero_le _
  ·unfold wordS at hz
   split at hz
   ·obtain ⟨u,hu,hz⟩:=bnd_inr hz
    obtain ⟨v,hv,he⟩:=bnd_inr hz
    cases he
    have:=tell_one hv
    rw [wordE_told hu] at this
    exact this
   ·cases hz
 split at k
 ·cases k
 split at k
 ·cases k
 ·cases k;exact hl
theorem readS_ok (l:List UInt8) (es:List Hd) (h:readS l=.inr es):es.length≤199000∧∀ e∈es,EvZ e:=by
 unfold readS at h
 obtain ⟨x,hx,h⟩:=bnd_inr h
 obtain ⟨y,hy,h⟩:=bnd_inr h
 cases h
 have ix:=feed_iv st0_iv hx
 have wx:=feedS_wf st0_wf hx
 have iy:=fin_iv (st:={x with told:=[]}) ⟨ix.held,ix.word,fun e he=>by (cases he),Nat.zero_le _⟩ hy
 have ny:=fin_n wx.t0 hy
 refine ⟨?_,fun e he=>?_⟩
 ·rw [List.length_append]
  have h1:=ix.len
  have h2:=wx.n
  have h3:=wx.tot
  have h5:y.told.length≤1:=fin_one hy
  omega
 ·rcases List.mem_append.1 he with q|q
  ·exact ix.told e q
  ·exact iy.told e q
structure RB (W:World) (v:Value) (l:List UInt8):Prop where
 shape:∃ a c,v=.slice a l.length c
 len:l.length≤281474976710656
 rd:0<l.length→∃ b o c,v=.slice (some ⟨b,o,none⟩) l.length c∧b<W.heap.size∧∀ j (h:j<l.length),W.cell? ⟨b,o + j,none⟩=some (.int .u8 l[j].toNat)
theorem RB.below {W W1:World} {v:Value} {l:List UInt8} (h:RB W v l) (hb:Below W.heap.size W W1):RB W1 v l:=by
 refine ⟨h.shape,h.len,fun hl=>?_⟩
 obtain ⟨b,o,c,h1,h2,h3⟩:=h.rd hl
 exact ⟨b,o,c,h1,Nat.lt_of_lt_of_le h2 hb.size,fun j hj=>by rw [←h3 j hj];exact World.cell?_of_block (w:=W) (hb.block b h2)⟩
def BQ (e:Ending):Prop:=∃ q:Bool,e=.returned (.bool q)
set_option maxRecDepth 20000 in
theorem nests_any (v:Value) (l:List UInt8) (w:World) (h:RB w v l):Calls Tryz.prog 14 #[v] w fun e w'=>BQ e∧∃ m,w'=w.drewN m:=by
 have ml:maxLen=9223372036854775807:=rfl
 obtain ⟨va,vc,rfl⟩:=h.shape
 have hl:=h.len
 have H:=hide h
 clear h
 go_enter Tryz.func14, Tryz.ntmps14
 go_wp2
 go_loop [3,4] (fun n i=>∃ k m:Nat,k≤l.length∧m≤k∧i=.int .i64 k∧n=.int .i64 m) (fun n i=>l.length - (intOf i).toNat)
 case atStart=>exact ⟨0,0,by omega,by omega,rfl,rfl⟩
 case round =>
  obtain ⟨k,m,hk,hm,rfl,rfl⟩:=hrel
  by_cases hlt:k<l.length
  ·obtain ⟨b,o,c,s1,_,s2⟩:=H.out.rd (by omega)
   cases s1
   have hc:=s2 k hlt
   have hlt':(k:Int)<l.length:=by omega
   have hw1:IntKind.i64.wrap ((k:Int) + 1)=(k:Int) + 1:=by rw [IntKind.wrap_i64] <;> omega
   have hw2:IntKind.i64.wrap ((m:Int) + 1)=(m:Int) + 1:=by rw [IntKind.wrap_i64] <;> omega
   have hcb:=l[k].toNat_lt
   obtain ⟨ch,hch⟩:∃ ch:Nat,l[k].toNat=ch:=⟨_,rfl⟩
   rw [hch] at hc hcb
   clear hch s2
   have key1:∀ q1 q2 q3 q4 q5:Bool,((ch:Int)==91)=q1→((ch:Int)==123)=q2→((ch:Int)==60)=q3→decide ((128:Int)≤(ch:Int))=q4→decide ((ch:Int)<224)=q5→True:=fun _ _ _ _ _ _ _ _ _ _=>trivial
   clear key1
   cases q1:((ch:Int)==91) with
   | true =>
    go_wp2
    exact ⟨⟨k + 1,m + 1,by omega,by omega,by go_num,by go_num⟩,by simp [intOf];omega⟩
   | false =>
    cases q2:((ch:Int)==123) with
    | true =>
     go_wp2
     exact ⟨⟨k + 1,m + 1,by omega,by omega,by go_num,by go_num⟩,by simp [intOf];omega⟩
    | false =>
     cases q3:((ch:Int)==60) with
     | true =>
      go_wp2
      exact ⟨⟨k + 1,m + 1,by omega,by omega,by go_num,by go_num⟩,by simp [intOf];omega⟩
     | false =>
      cases q4:decide ((128:Int)≤(ch:Int)) with
      | false =>
       go_wp2
       exact ⟨⟨k + 1,m,by omega,by omega,by go_num,rfl⟩,by simp [intOf];omega⟩
      | true =>
       cases q5:decide ((ch:Int)<224) with
       | true =>
        go_wp2
        exact ⟨⟨k + 1,m + 1,by omega,by omega,by go_num,by go_num⟩,by simp [intOf];omega⟩
       | false =>
        go_wp2
        exact ⟨⟨k + 1,m,by omega,by omega,by go_num,rfl⟩,by simp [intOf];omega⟩
  ·have hge:decide ((k:Int)<(l.length:Int))=false:=by simp;omega
   go_wp2
   go_ret
   exact ⟨⟨_,rfl⟩,0,rfl⟩
def cutF (zs:List Int) (i at_ n:Nat):Nat:=match zs[i]? with
 | none=>n
 | some z=>if 0≤z∧z≤(n:Int) - at_ then at_ + z.toNat else n
theorem RB.sb {W:World} {v:Value} {l:List UInt8} (h:RB W v l):∀ m,SB W W.heap.size m v l:=fun m=>⟨h.shape,h.len,fun hl=>by
 obtain ⟨b,o,c,h1,h2,h3⟩:=h.rd hl
 exact ⟨b,o,c,h1,h3,Or.inl h2⟩⟩
theorem rb_own {W:World} {B:Nat} {a:Option Addr} {m c:Nat} {l:List UInt8} (h:Own W B (.slice a m c) l) (hl:l.length≤65536):m=l.length∧RB W (.slice a l.length c) l:=by
 have h0:=h
 rcases h.2 with ⟨e,hn⟩|⟨g,cap,cur,e,h1,h2,h3,h4,h5,h6⟩
 ·cases e
  have:l=[]:=List.eq_nil_of_length_eq_zero hn
  subst this
  exact ⟨rfl,⟨none,0,rfl⟩,by simp,fun q=>by simp at q⟩
 ·cases e
  refine ⟨rfl,⟨_,_,rfl⟩,by omega,fun hq=>⟨g,0,_,rfl,(World.ownsRow.lt h0 g rfl).2,fun j hj=>?_⟩⟩
  have:=World.ownsRow.cells h0 (g:=g) rfl j (.int .u8 l[j].toNat) (by simp [bcs,List.getElem?_eq_getElem hj])
  rw [Nat.zero_add]
  by_cases hj0:j=0
  ·subst hj0;simpa [Addr.add] using this
  ·simpa [Addr.add,hj0] using this
def Ry (es:List Hd) (w:World) (e:Ending) (w':World):Prop :=
 Below w.heap.size w w'∧∃ (x:VT es.length) (a1:Option Addr) (m1 d1:Nat) (a2:Option Addr) (m2 d2:Nat),e=.returned (.tuple #[.agg (vals (vhd es.length x) (.slice a1 m1 d1) (.slice a2 m2 d2)),.int .i64 0])∧es=fl es.length x∧Chk es.length x 0∧Rg es.length x∧Rdy es.length w' x (.slice a1 m1 d1) (.slice a2 m2 d2)
theorem read_ok (w:World) (va:Option Addr) (vc:Nat) (l:List UInt8) (hs:RB w (.slice va l.length vc) l) (gu:Ut.Gu w) (h8:8≤w.heap.size) (es:List Hd) (h:readS l=.inr es) :
  Calls Tryz.prog 15 #[.slice va l.length vc] w fun e w'=>Ry es w e w':=by
 obtain ⟨hd,t,ht⟩:=read_done h
 have hb:=read_b64 h
 have hok:=readS_ok l es h
 refine (read_r w va vc l hs.sb gu h8 (readS_ok l)).mono ?_
 rintro e w' ⟨hw,hr⟩
 rw [h] at hr
 obtain ⟨y,E,rfl,h1,h2,h3⟩:=hr
 obtain ⟨x,k1,k2,k3,k4,k5⟩:=h3 ((doneS_iff _).2 hd)
 have kw:Win es.length x:=(tally_win es.length x k2).1 ⟨t,by rw [←k1];exact ht⟩
 have hE:E=0:=k4.2 kw
 subst hE
 obtain ⟨ns,ls,s,f,rfl,k6,k7⟩:=k5 rfl
 obtain ⟨a1,m1,d1,a2,m2,d2,rfl,rfl⟩:=k7.rd.shape
 refine ⟨hw,x,a1,m1,d1,a2,m2,d2,rfl,k1,Or.inr (Or.inr ⟨rfl,k2,kw⟩),fl_rg es.length x k2 (by rw [←k1];exact hb),k7.rd,k3,?_⟩
 have:=fl_siz es.length x k2
 rw [←k1] at this
 omega
theorem read_no (w:World) (va:Option Addr) (vc:Nat) (l:List UInt8) (hs:RB w (.slice va l.length vc) l) (gu:Ut.Gu w) (h8:8≤w.heap.size) (E:Int) (h:readS l=.inl E) :
  Calls Tryz.prog 15 #[.slice va l.length vc] w fun e w'=>Below w.heap.size w w'∧e=.returned (.tuple #[.agg zV,.int .i64 E]):=by
 refine (read_r w va vc l hs.sb gu h8 (readS_ok l)).mono ?_
 rintro e w' ⟨hw,hr⟩
 rw [h] at hr
 exact ⟨hw,hr⟩
theorem readS_er {l:List UInt8} {E:Int} (h:readS l=.inl E):E≠0:=by
 unfold readS at h
 cases hf:feedS st0 l with
 | inl F =>
  rw [hf] at h
  cases h
  exact (feed_er hf).ne
 | inr x =>
  rw [hf] at h
  cases hn:finS {x with told:=[]} with
  | inl F =>
   simp only [bnd,hn] at h
   cases h
   exact (fin_er hn).ne
  | inr y=>simp only [bnd,hn] at h;cases h
def Jy (J:List UInt8) (w:World) (e:Ending) (w':World):Prop :=
 Below w.heap.size w w'∧((65536<J.length∧e=.returned (.tuple #[.slice none 0 0,.int .i64 2]))∨(J.length≤65536∧∃ a c,e=.returned (.tuple #[.slice a J.length c,.int .i64 0])∧Own w' w.heap.size (.slice a J.length c) J))
theorem jy_any (n:Nat) (x:VT n) (ns ls:Value) (w:World) (hr:Rdy n w x ns ls) (hg:Rg n x) (g:Ut.Gu w) (ht:Tab w.heap.size w) (hc:Chk n x 0) :
  Calls Tryz.prog 10 #[.agg (vals (vhd n x) ns ls)] w fun e w'=>Jy (jtx n x) w e w':=by
 refine (jwrite_any n x ns ls w hr hg g ht 0 hc).mono ?_
 rintro e w' ⟨hb,_,h2⟩
 refine ⟨hb,?_⟩
 by_cases hl:(jtx n x).length≤65536
 ·obtain ⟨a,m,c,rfl,ho⟩:=(h2 rfl).1 hl
  obtain ⟨rfl,_⟩:=rb_own ho hl
  exact Or.inr ⟨hl,a,c,rfl,ho⟩
 ·exact Or.inl ⟨by omega,(h2 rfl).2 (by omega)⟩
theorem equal_tells (n m:Nat) (x:VT n) (y:VT m) (ns ls ns' ls':Value) (w:World) (hx:RD n w x ns ls) (hy:RD m w y ns' ls') (vx:IsV n x) (vy:IsV m y) (he:fl n x=fl m y) :
  Calls Tryz.prog 13 #[.agg (vals (vhd n x) ns ls),.agg (vals (vhd m y) ns' ls')] w fun e w'=>e=.returned (.bool true)∧Below w.heap.size w w':=by
 obtain ⟨N,z,h1,h2,h3,h4⟩:=same_tree n m x y vx vy he
 rw [←h1,←h2]
 exact Calls.tb (b:=true) (requal_any N z z ns ls ns' ls' w (h3 w ns ls hx) (h4 w ns' ls' hy)) (by simp)
end Go.Proofs.YtpimjkdakjhoaaaGreatDoor
