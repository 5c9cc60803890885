/- Merged by program: TaPre, TbRead, TcRead, TiLeaf. -/
import Derived.Test.YtpimjkdakjhoaaaGreatDoorZk47
import Derived.Test.YtpimjkdakjhoaaaGreatDoorZk37
namespace Go.Proofs.YtpimjkdakjhoaaaGreatDoor
open Go.RowKit
set_option linter.unusedSimpArgs false
set_option linter.unusedVariables false
set_option maxHeartbeats 8000000
def pre (a:List Hd) (st:St):St:={st with told:=a++st.told}
def lft (a:List Hd) (o:Sum Int St):Sum Int St:=bnd o fun x=>.inr (pre a x)
def lft2 (a:List Hd) (o:Sum Int (Hd×St)):Sum Int (Hd×St):=bnd o fun x=>.inr (x.1,pre a x.2)
section
variable (a : List Hd) (st : St)
theorem lft_bnd (o:Sum Int St) (f g:St→Sum Int St) (h:∀ x,f (pre a x)=lft a (g x)):bnd (lft a o) f=lft a (bnd o g):=by
 cases o with
 | inl E=>rfl
 | inr x=>exact h x
theorem tell_pre (e:Hd):tellS (pre a st) e=lft a (tellS st e):=by
 unfold tellS
 show (match feedE (some st.ck) (mayB e) e with|none=>_|some x=>_)=_
 cases feedE (some st.ck) (mayB e) e with
 | none=>rfl
 | some x =>
  show (match takeT st.tz st.tp e with|none=>_|some y=>_)=lft a (match takeT st.tz st.tp e with|none=>_|some y=>_)
  cases takeT st.tz st.tp e with
  | none =>
   by_cases h:16<st.total
   ·show (if 16<st.total then _ else _)=lft a (if 16<st.total then _ else _)
    simp only [if_pos h];rfl
   ·show (if 16<st.total then _ else _)=lft a (if 16<st.total then _ else _)
    simp only [if_neg h];rfl
  | some y =>
   cases hp:st.passed with
   | true=>simp [pre,hp,lft,bnd]
   | false=>simp [pre,hp,lft,bnd]
theorem pass_pre:passS (pre a st)=lft a (passS st):=by
 unfold passS
 by_cases h:16<st.total
 ·show (if 16<st.total then _ else _)=lft a (if 16<st.total then _ else _)
  simp only [if_pos h];rfl
 ·show (if 16<st.total then _ else _)=lft a (if 16<st.total then _ else _)
  simp only [if_neg h];rfl
theorem begin_pre (e:Hd):beginS (pre a st) e=lft a (beginS st e):=by
 unfold beginS;rw [tell_pre];exact lft_bnd a _ _ _ fun x=>rfl
theorem end_pre:endS (pre a st)=lft a (endS st):=by
 unfold endS;rw [tell_pre];exact lft_bnd a _ _ _ fun x=>rfl
theorem name_pre (s:ByteArray):nameS (pre a st) s=lft a (nameS st s):=by
 unfold nameS;rw [tell_pre];exact lft_bnd a _ _ _ fun x=>rfl
theorem rec_pre (s:ByteArray):recS (pre a st) s=lft a (recS st s):=by
 unfold recS
 show bnd (beginS (pre a {st with wait:=5}) (zr 8)) _=_
 rw [begin_pre];exact lft_bnd a _ _ _ fun x=>name_pre a x s
theorem num_pre (s:ByteArray):numS (pre a st) s=lft2 a (numS st s):=by
 unfold numS
 by_cases h0:(parseF (bl s)).2.2.2=0
 ·simp only [if_pos h0];rfl
 ·by_cases h2:(parseF (bl s)).2.2.2=2
  ·simp only [if_neg h0,if_pos h2,pass_pre]
   cases passS st <;> rfl
  ·simp only [if_neg h0,if_neg h2];rfl
theorem wordE_pre (s:ByteArray):wordE (pre a st) s=lft2 a (wordE st s):=by
 unfold wordE
 by_cases h0:s=nullB
 ·simp only [if_pos h0];rfl
 by_cases h1:s=trueB
 ·simp only [if_neg h0,if_pos h1];rfl
 by_cases h2:s=falseB
 ·simp only [if_neg h0,if_neg h1,if_pos h2];rfl
 ·simp only [if_neg h0,if_neg h1,if_neg h2];exact num_pre a st s
theorem word_pre (s:ByteArray):wordS (pre a st) s=lft a (wordS st s):=by
 unfold wordS
 show (if st.wait=0∨st.wait=1 then _ else _)=_
 by_cases h:st.wait=0∨st.wait=1
 ·simp only [if_pos h,wordE_pre]
  cases wordE st s with
  | inl E=>rfl
  | inr x =>
   show bnd (tellS (pre a x.2) x.1) _=_
   rw [tell_pre];exact lft_bnd a _ _ _ fun y=>rfl
 ·simp only [if_neg h];rfl
theorem first_pre (s:ByteArray):firstS (pre a st) s=lft a (firstS st s):=by
 unfold firstS
 by_cases h0:s=floatN
 ·simp only [if_pos h0];rfl
 by_cases h1:s=bytesN
 ·simp only [if_neg h0,if_pos h1];rfl
 by_cases h2:s=tagN
 ·simp only [if_neg h0,if_neg h1,if_pos h2];rfl
 ·simp only [if_neg h0,if_neg h1,if_neg h2]
  split
  ·split
   ·exact rec_pre a st _
   ·rfl
  ·exact rec_pre a st _
theorem float_pre (s:ByteArray):floatS (pre a st) s=lft a (floatS st s):=by
 unfold floatS
 by_cases h:(funh s).2=0
 ·simp only [if_pos h,tell_pre];exact lft_bnd a _ _ _ fun y=>rfl
 ·simp only [if_neg h];rfl
theorem bytes_pre (s:ByteArray):bytesS (pre a st) s=lft a (bytesS st s):=by
 unfold bytesS
 cases hx2 (bl s) with
 | none=>rfl
 | some l=>simp only [tell_pre];exact lft_bnd a _ _ _ fun y=>rfl
theorem text_pre (s:ByteArray):textS (pre a st) s=lft a (textS st s):=by
 unfold textS
 show (if st.wait=0∨st.wait=1 then _ else if st.wait=3 then _ else if st.wait=4 then _ else if st.wait=6 then _ else if st.wait=7 then _ else if st.wait=9 then _ else _)=_
 by_cases h0:st.wait=0∨st.wait=1
 ·simp only [if_pos h0,tell_pre];exact lft_bnd a _ _ _ fun y=>rfl
 by_cases h3:st.wait=3
 ·simp only [if_neg h0,if_pos h3];exact first_pre a st s
 by_cases h4:st.wait=4
 ·simp only [if_neg h0,if_neg h3,if_pos h4];exact name_pre a st s
 by_cases h6:st.wait=6
 ·simp only [if_neg h0,if_neg h3,if_neg h4,if_pos h6];exact float_pre a st s
 by_cases h7:st.wait=7
 ·simp only [if_neg h0,if_neg h3,if_neg h4,if_neg h6,if_pos h7];exact bytes_pre a st s
 by_cases h9:st.wait=9
 ·simp only [if_neg h0,if_neg h3,if_neg h4,if_neg h6,if_neg h7,if_pos h9,begin_pre];exact lft_bnd a _ _ _ fun y=>rfl
 ·simp only [if_neg h0,if_neg h3,if_neg h4,if_neg h6,if_neg h7,if_neg h9];rfl
theorem openL_pre:openL (pre a st)=lft a (openL st):=by
 unfold openL
 show (if st.wait=0∨st.wait=1 then _ else if st.wait=8 then _ else _)=_
 by_cases h0:st.wait=0∨st.wait=1
 ·simp only [if_pos h0,begin_pre];exact lft_bnd a _ _ _ fun y=>rfl
 by_cases h8:st.wait=8
 ·simp only [if_neg h0,if_pos h8];rfl
 ·simp only [if_neg h0,if_neg h8];rfl
theorem closeL_pre:closeL (pre a st)=lft a (closeL st):=by
 unfold closeL
 show (if st.wait=1∨(st.wait=2∧lastK st.ks=7) then _ else if st.wait=11 then _ else _)=_
 by_cases h0:st.wait=1∨(st.wait=2∧lastK st.ks=7)
 ·simp only [if_pos h0,end_pre];exact lft_bnd a _ _ _ fun y=>rfl
 by_cases h8:st.wait=11
 ·simp only [if_neg h0,if_pos h8,end_pre];exact lft_bnd a _ _ _ fun y=>rfl
 ·simp only [if_neg h0,if_neg h8];rfl
theorem openO_pre:openO (pre a st)=lft a (openO st):=by
 unfold openO
 show (if st.wait=0∨st.wait=1 then _ else _)=_
 by_cases h0:st.wait=0∨st.wait=1
 ·simp only [if_pos h0];rfl
 ·simp only [if_neg h0];rfl
theorem closeO_pre:closeO (pre a st)=lft a (closeO st):=by
 unfold closeO
 show (if st.wait=3 then _ else if st.wait=2∧lastK st.ks=8 then _ else if st.wait=12 then _ else _)=_
 by_cases h0:st.wait=3
 ·simp only [if_pos h0,begin_pre]
  refine lft_bnd a _ _ _ fun y=>?_
  rw [end_pre];exact lft_bnd a _ _ _ fun y=>rfl
 by_cases h2:st.wait=2∧lastK st.ks=8
 ·simp only [if_neg h0,if_pos h2,end_pre];exact lft_bnd a _ _ _ fun y=>rfl
 by_cases h8:st.wait=12
 ·simp only [if_neg h0,if_neg h2,if_pos h8];rfl
 ·simp only [if_neg h0,if_neg h2,if_neg h8];rfl
theorem comma_pre:commaS (pre a st)=lft a (commaS st):=by
 unfold commaS
 show (if st.wait=2∧lastK st.ks=8 then _ else if st.wait=2∨st.wait=10 then _ else _)=_
 by_cases h0:st.wait=2∧lastK st.ks=8
 ·simp only [if_pos h0];rfl
 by_cases h8:st.wait=2∨st.wait=10
 ·simp only [if_neg h0,if_pos h8];rfl
 ·simp only [if_neg h0,if_neg h8];rfl
theorem colon_pre:colonS (pre a st)=lft a (colonS st):=by
 unfold colonS
 show (if st.wait=5 then _ else _)=_
 by_cases h0:st.wait=5
 ·simp only [if_pos h0];rfl
 ·simp only [if_neg h0];rfl
theorem mark_pre (c:UInt8):markS (pre a st) c=lft a (markS st c):=by
 unfold markS
 by_cases h1:c=34
 ·simp only [if_pos h1];rfl
 by_cases h2:c=91
 ·simp only [if_neg h1,if_pos h2];exact openL_pre a st
 by_cases h3:c=93
 ·simp only [if_neg h1,if_neg h2,if_pos h3];exact closeL_pre a st
 by_cases h4:c=123
 ·simp only [if_neg h1,if_neg h2,if_neg h3,if_pos h4];exact openO_pre a st
 by_cases h5:c=125
 ·simp only [if_neg h1,if_neg h2,if_neg h3,if_neg h4,if_pos h5];exact closeO_pre a st
 by_cases h6:c=44
 ·simp only [if_neg h1,if_neg h2,if_neg h3,if_neg h4,if_neg h5,if_pos h6];exact comma_pre a st
 by_cases h7:c=58
 ·simp only [if_neg h1,if_neg h2,if_neg h3,if_neg h4,if_neg h5,if_neg h6,if_pos h7];exact colon_pre a st
 ·simp only [if_neg h1,if_neg h2,if_neg h3,if_neg h4,if_neg h5,if_neg h6,if_neg h7];rfl
theorem hold_pre (c:UInt8):holdS (pre a st) c=lft a (holdS st c):=by
 unfold holdS
 show (if st.word.length=512 then _ else _)=_
 by_cases h0:st.word.length=512
 ·simp only [if_pos h0];rfl
 ·simp only [if_neg h0];rfl
theorem endWord_pre:endWordS (pre a st)=lft a (endWordS st):=by
 unfold endWordS
 show (if st.word=[] then _ else _)=_
 by_cases h0:st.word=[]
 ·simp only [if_pos h0];rfl
 ·simp only [if_neg h0];exact word_pre a {st with word:=[]} _
theorem quo_pre (c:UInt8):quoS (pre a st) c=lft a (quoS st c):=by
 unfold quoS
 show bnd (takeQ st.q c) _=_
 cases takeQ st.q c with
 | inl E=>rfl
 | inr x =>
  simp only [bnd]
  split
  ·cases textQ x.2 with
   | inl E=>rfl
   | inr z=>exact text_pre a {st with q:=q0} _
  ·rfl
theorem go_pre (c:UInt8):goS (pre a st) c=lft a (goS st c):=by
 unfold goS
 show (if st.q.place≠0 then _ else if isMk c then _ else _)=_
 by_cases h0:st.q.place≠0
 ·simp only [if_pos h0];exact quo_pre a st c
 by_cases h1:isMk c=true
 ·simp only [if_neg h0,if_pos h1,endWord_pre];exact lft_bnd a _ _ _ fun y=>mark_pre a y c
 ·simp only [if_neg h0,if_neg h1];exact hold_pre a st c
theorem take_pre (c:UInt8):takeS (pre a st) c=lft a (takeS st c):=by
 unfold takeS
 show bnd (if st.passed=true∨65536<st.total + 1 then passS (pre a {st with total:=st.total + 1}) else .inr (pre a {st with total:=st.total + 1})) _=_
 by_cases h0:st.passed=true∨65536<st.total + 1
 ·simp only [if_pos h0,pass_pre];exact lft_bnd a _ _ _ fun y=>go_pre a y c
 ·simp only [if_neg h0];exact go_pre a _ c
theorem fin_pre:finS (pre a st)=lft a (finS st):=by
 unfold finS
 rw [endWord_pre]
 refine lft_bnd a _ _ _ fun x=>?_
 show (if x.wait≠13∨x.q.place≠0 then _ else if x.passed then _ else _)=_
 by_cases h0:x.wait≠13∨x.q.place≠0
 ·simp only [if_pos h0];rfl
 by_cases h1:x.passed=true
 ·simp only [if_neg h0,if_pos h1];rfl
 ·simp only [if_neg h0,if_neg h1];rfl
theorem feed_pre (l:List UInt8):feedS (pre a st) l=lft a (feedS st l):=by
 induction l generalizing st with
 | nil=>rfl
 | cons c l ih =>
  unfold feedS
  rw [take_pre]
  exact lft_bnd a _ _ _ fun y=>ih y
end
theorem pre_self (st:St):pre st.told {st with told:=[]}=st:=by
 cases st;simp [pre]
theorem readS_eq (l:List UInt8):readS l=bnd (bnd (feedS st0 l) finS) fun y=>.inr y.told:=by
 unfold readS
 cases feedS st0 l with
 | inl E=>rfl
 | inr x =>
  show bnd (finS {x with told:=[]}) (fun y=>.inr (x.told++y.told))=bnd (finS x) fun y=>.inr y.told
  conv=>rhs;rw [←pre_self x,fin_pre]
  cases finS {x with told:=[]} <;> rfl
structure Cl (st:St):Prop where
 q:st.q=q0
 word:st.word=[]
 pas:st.passed=false
section
variable {st : St}
theorem take_in (c:UInt8) (hp:st.passed=false) (ht:st.total + 1≤65536):takeS st c=goS {st with total:=st.total + 1} c:=by
 unfold takeS
 rw [if_neg (by rw [hp];intro h;rcases h with h|h;cases h;omega)]
 rfl
theorem mark_cl (h:Cl st) {c:UInt8} (hc:isMk c=true) (ht:st.total + 1≤65536):takeS st c=markS {st with total:=st.total + 1} c:=by
 rw [take_in c h.pas ht]
 unfold goS
 rw [if_neg (by show ¬ st.q.place≠0;rw [h.q];simp [q0]),if_pos hc]
 unfold endWordS
 rw [if_pos (show st.word=[] from h.word)]
 rfl
end
def feedQ (q:Qa):List UInt8→Option Qa
 | []=>some q
 | c :: l=>match takeQ q c with
  | .inr (.bool false,x)=>feedQ x l
  | _=>none
theorem takeQ_place {q:Qa} {c:UInt8} {z:Value×Qa} (hp:q.place≠0) (h:takeQ q c=.inr z):z.2.place≠0:=by
 unfold takeQ at h
 split at h
 ·unfold uescQ at h
  split at h
  ·simp only [retQ] at h;cases h;show (3:Nat)≠0;decide
  split at h
  ·cases h
  split at h
  ·cases h
  split at h
  ·simp only [retQ] at h;cases h;show (1:Nat)≠0;decide
  ·cases h
 split at h
 ·rename_i h3
  unfold digQ at h
  split at h
  ·cases h
  ·simp only at h
   split at h
   ·split at h
    ·cases h
    ·simp only [retQ] at h;cases h;show (1:Nat)≠0;decide
   ·simp only [retQ] at h;cases h;exact hp
 ·unfold plainQ at h
  split at h
  ·cases h;show (2:Nat)≠0;decide
  split at h
  ·cases h
  split at h
  ·cases h;exact hp
  split at h
  ·cases h;exact hp
  ·cases h
theorem feedQ_app (q:Qa) (a b:List UInt8):feedQ q (a++b)=(feedQ q a).bind fun x=>feedQ x b:=by
 induction a generalizing q with
 | nil=>rfl
 | cons c l ih =>
  simp only [List.cons_append,feedQ]
  split
  ·exact ih _
  ·rfl
theorem feedQ_cons {q x:Qa} {c:UInt8} (l:List UInt8) (h:takeQ q c=.inr (.bool false,x)):feedQ q (c :: l)=feedQ x l:=by
 simp only [feedQ,h]
theorem feedS_feedQ:∀ (l:List UInt8) (st:St) (x:Qa),st.q.place≠0→st.passed=false→st.total + l.length≤65536→feedQ st.q l=some x→feedS st l=.inr {st with q:=x,total:=st.total + l.length}
 | [],st,x,hp,hs,ht,h=>by
  cases h
  rfl
 | c :: l,st,x,hp,hs,ht,h=>by
  simp only [List.length_cons] at ht ⊢
  unfold feedS
  rw [take_in c hs (by omega)]
  unfold goS
  rw [if_pos (show st.q.place≠0 from hp)]
  unfold quoS
  show bnd (bnd (takeQ st.q c) _) _=_
  unfold feedQ at h
  split at h
  ·rename_i z hz
   rw [hz]
   show feedS {st with q:=z,total:=st.total + 1} l=_
   have:=feedS_feedQ l {st with q:=z,total:=st.total + 1} x (by have:=takeQ_place hp hz;exact this) hs (by show st.total + 1 + l.length≤65536;omega) h
   rw [this]
   have e:st.total + 1 + l.length=st.total + (l.length + 1):=by omega
   simp only [e]
  ·cases h
structure Qi (q:Qa) (p:List UInt8):Prop where
 place:q.place=1
 high:q.high=0
 held:q.held=p
theorem hx_dig:∀ d:_root_.Fin 16,hxD (lowC (hx d.val))=some d:=by decide
theorem small_enc:∀ n:_root_.Fin 32,Utf8.valid ((n.val:Nat):Int)=true∧bl (Utf8.encode ((n.val:Nat):Int))=[UInt8.ofNat n.val]:=by decide +kernel
theorem dig_step (q:Qa) (d:_root_.Fin 16) (hp:q.place=3) (hd:q.digits≠3) (c:UInt8) (hc:c=hx d.val):takeQ q c=.inr (.bool false,{q with digits:=q.digits + 1,number:=q.number * 16 + d.val}):=by
 unfold takeQ
 rw [if_neg (by rw [hp];decide),if_pos hp]
 unfold digQ
 rw [hc,hx_dig]
 simp only [if_neg hd]
 rfl
theorem feedQ_esc (q:Qa) (p:List UInt8) (h:Qi q p) (hl:p.length + 1≤8192) (c:UInt8):∃ x,feedQ q (escB c)=some x∧Qi x (p++[c]):=by
 have hh:q.held.length + 1≤8192:=by rw [h.held];exact hl
 have h92:takeQ q 92=.inr (.bool false,{q with place:=2}):=by
  unfold takeQ
  rw [if_neg (by rw [h.place];decide),if_neg (by rw [h.place];decide)]
  rfl
 by_cases h1:c=34∨c=92
 ·have he:escB c=[92,c]:=by unfold escB;rw [if_pos h1]
  rw [he,feedQ_cons _ h92]
  refine ⟨{q with held:=q.held++[c],place:=1},?_,rfl,h.high,by show q.held++[c]=_;rw [h.held]⟩
  have:takeQ {q with place:=2} c=.inr (.bool false,{q with held:=q.held++[c],place:=1}):=by
   unfold takeQ
   rw [if_pos rfl]
   unfold uescQ
   rcases h1 with rfl|rfl
   ·rw [if_neg (by decide)]
    show retQ (if q.high≠0 then _ else if q.held.length + 1≤8192 then _ else _)=_
    rw [if_neg (by rw [h.high];decide),if_pos hh]
    rfl
   ·rw [if_neg (by decide)]
    show retQ (if q.high≠0 then _ else if q.held.length + 1≤8192 then _ else _)=_
    rw [if_neg (by rw [h.high];decide),if_pos hh]
    rfl
  rw [feedQ_cons _ this]
  rfl
 ·by_cases h2:c.toNat<32
  ·have he:escB c=[92,117,48,48,hx (c.toNat / 16),hx (c.toNat % 16)]:=by unfold escB;rw [if_neg h1,if_pos h2]
   rw [he,feedQ_cons _ h92]
   have hu:takeQ {q with place:=2} 117=.inr (.bool false,{q with place:=3,digits:=0,number:=0}):=rfl
   rw [feedQ_cons _ hu]
   rw [feedQ_cons _ (dig_step _ 0 rfl (by show (0:Nat)≠3;decide) 48 (by decide))]
   rw [feedQ_cons _ (dig_step _ 0 rfl (by show (0 + 1:Nat)≠3;decide) 48 (by decide))]
   rw [feedQ_cons _ (dig_step _ ⟨c.toNat / 16,by omega⟩ rfl (by show (0 + 1 + 1:Nat)≠3;decide) _ rfl)]
   have hn:((0 * 16 + (0:_root_.Fin 16).val) * 16 + (0:_root_.Fin 16).val) * 16 + c.toNat / 16=c.toNat / 16:=by show ((0 * 16 + 0) * 16 + 0) * 16 + c.toNat / 16=c.toNat / 16;omega
   simp only [hn]
   obtain ⟨e1,e2⟩:=small_enc ⟨c.toNat,h2⟩
   simp only at e1 e2
   have hc:UInt8.ofNat c.toNat=c:=by simp
   have last:takeQ {q with place:=3,digits:=0 + 1 + 1 + 1,number:=c.toNat / 16} (hx (c.toNat % 16))=.inr (.bool false,{q with place:=1,digits:=4,number:=c.toNat,high:=0,held:=q.held++[c]}):=by
    unfold takeQ
    rw [if_neg (by show ¬ (3:Nat)=2;decide),if_pos rfl]
    unfold digQ
    have:=hx_dig ⟨c.toNat % 16,by omega⟩
    simp only at this
    rw [this]
    simp only
    rw [if_pos trivial]
    have hn2:c.toNat / 16 * 16 + c.toNat % 16=c.toNat:=by omega
    rw [hn2]
    unfold endQ
    rw [if_neg (by show ¬ (q.high=0∧55296≤c.toNat∧c.toNat<56320);omega),if_neg (by show ¬ (q.high≠0∧_);rw [h.high];simp)]
    have ht:twoN {q with place:=3,digits:=0 + 1 + 1 + 1 + 1,number:=c.toNat}=((c.toNat:Nat):Int):=by
     unfold twoN
     rw [if_pos (show q.high=0 from h.high)]
    rw [ht,if_pos e1,e2,hc]
    unfold holdQ
    rw [if_pos (by show q.held.length + 1≤8192;exact hh)]
    rfl
   rw [feedQ_cons _ last]
   exact ⟨_,rfl,rfl,rfl,by show q.held++[c]=_;rw [h.held]⟩
  ·have he:escB c=[c]:=by unfold escB;rw [if_neg h1,if_neg h2]
   have:takeQ q c=.inr (.bool false,{q with held:=q.held++[c]}):=by
    unfold takeQ
    rw [if_neg (by rw [h.place];decide),if_neg (by rw [h.place];decide)]
    unfold plainQ
    rw [if_neg (fun e=>h1 (Or.inr e)),if_neg (by rw [h.high];intro e;rcases e with e|e;exact e rfl;exact h2 e),if_neg (fun e=>h1 (Or.inl e)),if_pos hh]
   rw [he,feedQ_cons _ this]
   exact ⟨_,rfl,h.place,h.high,by show q.held++[c]=_;rw [h.held]⟩
theorem feedQ_escL:∀ (l:List UInt8) (q:Qa) (p:List UInt8),Qi q p→p.length + l.length≤8192→∃ x,feedQ q (escL l)=some x∧Qi x (p++l)
 | [],q,p,h,hl=>⟨q,rfl,by simpa using h⟩
 | c :: l,q,p,h,hl=>by
  simp only [List.length_cons] at hl
  obtain ⟨x,h1,h2⟩:=feedQ_esc q p h (by omega) c
  obtain ⟨y,h3,h4⟩:=feedQ_escL l x (p++[c]) h2 (by simp;omega)
  refine ⟨y,?_,by simpa using h4⟩
  have:escL (c :: l)=escB c++escL l:=by simp [escL]
  rw [this,feedQ_app,h1]
  exact h3
theorem quo_feed {st:St} (h:Cl st) (l:List UInt8) (hl:l.length≤8192) (ho:Ut.okT l=true) (ht:st.total + (quo l).length≤65536) :
  feedS st (quo l)=textS {st with total:=st.total + (quo l).length} (mkB l):=by
 have e0:(quo l).length=(escL l).length + 2:=by simp [quo]
 rw [e0] at ht ⊢
 unfold quo
 unfold feedS
 rw [mark_cl h (by decide) (by omega)]
 show feedS {st with total:=st.total + 1,q:={st.q with place:=1} } (escL l++[34])=_
 rw [feedS_app]
 have qi:Qi {st.q with place:=1} []:=⟨rfl,by show st.q.high=0;rw [h.q];rfl,by show st.q.held=[];rw [h.q];rfl⟩
 obtain ⟨x,h1,h2⟩:=feedQ_escL l _ [] qi (by simpa using hl)
 rw [feedS_feedQ (escL l) {st with total:=st.total + 1,q:={st.q with place:=1} } x (by show (1:Nat)≠0;decide) h.pas (by show st.total + 1 + _≤_;omega) h1]
 show bnd (takeS {st with total:=st.total + 1 + (escL l).length,q:=x} 34) _=_
 rw [take_in (st:={st with total:=st.total + 1 + (escL l).length,q:=x}) 34 h.pas (by show st.total + 1 + _ + 1≤_;omega)]
 unfold goS
 rw [if_pos (show x.place≠0 by rw [h2.place];decide)]
 unfold quoS
 have hq:takeQ x 34=.inr (.bool true,x):=by
  unfold takeQ
  rw [if_neg (by rw [h2.place];decide),if_neg (by rw [h2.place];decide)]
  unfold plainQ
  rw [if_neg (by decide),if_neg (by rw [h2.high];decide),if_pos rfl]
 show bnd (bnd (takeQ x 34) _) _=_
 rw [hq]
 show bnd (bnd (textQ x) _) _=_
 have hx:x.held=l:=by rw [h2.held];rfl
 have hk:textQ x=.inr (.string (mkB x.held),x):=by
  unfold textQ
  rw [if_pos]
  show Ut.okT (bl (mkB x.held))=true
  rw [bl_mkB,hx];exact ho
 rw [hk]
 show bnd (textS {st with total:=st.total + 1 + (escL l).length + 1,q:=q0} (mkB x.held)) (fun y=>feedS y [])=_
 rw [hx]
 have e1:({st with total:=st.total + 1 + (escL l).length + 1,q:=q0}:St)={st with total:=st.total + ((escL l).length + 2)}:=by
  have:=h.q
  cases st
  simp only at this
  subst this
  simp only [St.mk.injEq,true_and,and_true]
  omega
 rw [e1]
 cases textS {st with total:=st.total + ((escL l).length + 2)} (mkB l) <;> rfl
theorem word_feed:∀ (l:List UInt8) (st:St),st.q.place=0→st.passed=false→st.word.length + l.length≤512→st.total + l.length≤65536→(∀ c∈l,isMk c=false)→feedS st l=.inr {st with word:=st.word++l,total:=st.total + l.length}
 | [],st,_,_,_,_,_=>by simp [feedS]
 | c :: l,st,hq,hp,hw,ht,hc=>by
  simp only [List.length_cons] at hw ht ⊢
  unfold feedS
  rw [take_in c hp (by omega)]
  unfold goS
  rw [if_neg (by show ¬ st.q.place≠0;omega),if_neg (by rw [hc c (by simp)];decide)]
  unfold holdS
  rw [if_neg (by show ¬ st.word.length=512;omega)]
  show feedS {st with word:=st.word++[c],total:=st.total + 1} l=_
  rw [word_feed l {st with word:=st.word++[c],total:=st.total + 1} hq hp (by simp;omega) (by show st.total + 1 + _≤_;omega) (fun d hd=>hc d (by simp [hd]))]
  have e:st.total + 1 + l.length=st.total + (l.length + 1):=by omega
  simp [e]
def runT (s:Option (Nat×List Tp)) (es:List Hd):Option (Nat×List Tp):=es.foldl (fun s e=>s.bind fun x=>takeT x.1 x.2 e) s
theorem runT_cons (s:Option (Nat×List Tp)) (e:Hd) (es:List Hd):runT s (e :: es)=runT (s.bind fun x=>takeT x.1 x.2 e) es:=rfl
theorem runT_app (s:Option (Nat×List Tp)) (a b:List Hd):runT s (a++b)=runT (runT s a) b:=by simp [runT]
theorem runT_none (es:List Hd):runT none es=none:=by
 induction es with
 | nil=>rfl
 | cons h es ih=>rw [runT_cons];exact ih
structure Okk (c:List Pa×Bool) (t:Nat×List Tp) (es:List Hd) (c':List Pa×Bool) (t':Nat×List Tp):Prop where
 ck:runS (some c) es=some c'
 ty:runT (some t) es=some t'
theorem Okk.split {c c':List Pa×Bool} {t t':Nat×List Tp} {a b:List Hd} (h:Okk c t (a++b) c' t'):∃ c1 t1,Okk c t a c1 t1∧Okk c1 t1 b c' t':=by
 have h1:=h.ck
 have h2:=h.ty
 rw [runS_app] at h1
 rw [runT_app] at h2
 cases k1:runS (some c) a with
 | none=>rw [k1,runS_none] at h1;cases h1
 | some c1 =>
  cases k2:runT (some t) a with
  | none=>rw [k2,runT_none] at h2;cases h2
  | some t1 =>
   rw [k1] at h1
   rw [k2] at h2
   exact ⟨c1,t1,⟨k1,k2⟩,⟨h1,h2⟩⟩
theorem Okk.cons {c c':List Pa×Bool} {t t':Nat×List Tp} {e:Hd} {b:List Hd} (h:Okk c t (e :: b) c' t'):∃ c1 t1,Okk c t [e] c1 t1∧Okk c1 t1 b c' t':=Okk.split (a:=[e]) h
theorem Okk.nil {c c':List Pa×Bool} {t t':Nat×List Tp} (h:Okk c t [] c' t'):c'=c∧t'=t:=⟨(Option.some.inj h.ck).symm,(Option.some.inj h.ty).symm⟩
structure Sx (y:St) (ks:List Int) (told:List Hd) (c:List Pa×Bool) (t:Nat×List Tp) (w T:Nat):Prop where
 cl:Cl y
 ks:y.ks=ks
 told:y.told=told
 ck:y.ck=c
 ty:(y.tz,y.tp)=t
 wait:y.wait=w
 tot:y.total=T
section
variable {st : St} {ks : List Int} {told : List Hd} {c c' : List Pa × Bool} {t t' : Nat × List Tp} {w T : Nat}
theorem Sx.tell (h:Sx st ks told c t w T) {e:Hd} (k:Okk c t [e] c' t'):∃ y,tellS st e=.inr y∧Sx y ks (told++[e]) c' t' w T∧y.behind=st.behind:=by
 have h1:feedE (some st.ck) (mayB e) e=some c':=by rw [h.ck];exact k.ck
 have h2:takeT st.tz st.tp e=some t':=by
  have:=k.ty
  rw [←h.ty] at this
  exact this
 refine ⟨{st with ck:=c',tz:=t'.1,tp:=t'.2,n:=st.n + 1,told:=st.told++[e]},?_,⟨⟨h.cl.q,h.cl.word,h.cl.pas⟩,h.ks,by show st.told++[e]=_;rw [h.told],rfl,rfl,h.wait,h.tot⟩,rfl⟩
 unfold tellS
 rw [h1]
 show (match takeT st.tz st.tp e with|none=>_|some y=>_)=_
 rw [h2]
 show Sum.inr ({st with ck:=c',tz:=t'.1,tp:=t'.2,n:=st.n + 1,told:=if st.passed=true then st.told else st.told++[e]}:St)=_
 rw [h.cl.pas]
 rfl
theorem Sx.wt (h:Sx st ks told c t w T) (a:Nat):Sx {st with wait:=a} ks told c t a T:=⟨⟨h.cl.q,h.cl.word,h.cl.pas⟩,h.ks,h.told,h.ck,h.ty,rfl,h.tot⟩
theorem Sx.wb (h:Sx st ks told c t w T) (a b:Nat):Sx {st with wait:=a,behind:=b} ks told c t a T:=⟨⟨h.cl.q,h.cl.word,h.cl.pas⟩,h.ks,h.told,h.ck,h.ty,rfl,h.tot⟩
theorem Sx.tt (h:Sx st ks told c t w T) (a:Nat):Sx {st with total:=a} ks told c t w a:=⟨⟨h.cl.q,h.cl.word,h.cl.pas⟩,h.ks,h.told,h.ck,h.ty,h.wait,rfl⟩
theorem Sx.ev (h:Sx st ks told c t w T):Sx (endV st) ks told c t (endW ks) T:=by
 have k:=h.wt (endW st.ks)
 exact ⟨k.cl,k.ks,k.told,k.ck,k.ty,by show endW st.ks=_;rw [h.ks],k.tot⟩
theorem Sx.begin (h:Sx st ks told c t w T) {e:Hd} (k:Okk c t [e] c' t'):∃ y,beginS st e=.inr y∧Sx y (ks++[e.kind]) (told++[e]) c' t' w T:=by
 obtain ⟨y,h1,h2,_⟩:=h.tell k
 unfold beginS
 rw [h1]
 exact ⟨_,rfl,⟨⟨h2.cl.q,h2.cl.word,h2.cl.pas⟩,by show y.ks++_=_;rw [h2.ks],h2.told,h2.ck,h2.ty,h2.wait,h2.tot⟩⟩
theorem Sx.close (h:Sx st ks told c t w T) (k:Okk c t [evE] c' t'):∃ y,endS st=.inr y∧Sx y ks.dropLast (told++[evE]) c' t' w T:=by
 obtain ⟨y,h1,h2,_⟩:=h.tell k
 unfold endS
 rw [h1]
 exact ⟨_,rfl,⟨⟨h2.cl.q,h2.cl.word,h2.cl.pas⟩,by show y.ks.dropLast=_;rw [h2.ks],h2.told,h2.ck,h2.ty,h2.wait,h2.tot⟩⟩
theorem Sx.name (h:Sx st ks told c t w T) {s:ByteArray} (k:Okk c t [evN s] c' t'):∃ y,nameS st s=.inr y∧Sx y ks (told++[evN s]) c' t' 5 T∧y.behind=0:=by
 obtain ⟨y,h1,h2,_⟩:=h.tell k
 unfold nameS
 rw [h1]
 exact ⟨_,rfl,h2.wb 5 0,rfl⟩
theorem Sx.mark (h:Sx st ks told c t w T) {a:UInt8} (ha:isMk a=true) (ht:T + 1≤65536):∃ y,takeS st a=markS y a∧Sx y ks told c t w (T + 1)∧y.behind=st.behind:=by
 rw [mark_cl h.cl ha (by rw [h.tot];exact ht)]
 refine ⟨_,rfl,?_,rfl⟩
 have:=h.tt (st.total + 1)
 rw [h.tot] at this ⊢
 exact this
theorem Sx.qt (h:Sx st ks told c t w T) (l:List UInt8) (hl:l.length≤8192) (ho:Ut.okT l=true) (ht:T + (quo l).length≤65536):∃ y,feedS st (quo l)=textS y (mkB l)∧Sx y ks told c t w (T + (quo l).length)∧y.behind=st.behind:=by
 rw [quo_feed h.cl l hl ho (by rw [h.tot];exact ht)]
 refine ⟨_,rfl,?_,rfl⟩
 have:=h.tt (st.total + (quo l).length)
 rw [h.tot] at this ⊢
 exact this
structure Dn (z:St) (ks:List Int) (told:List Hd) (c:List Pa×Bool) (t:Nat×List Tp) (w T:Nat):Prop where
 pl:z.q.place=0
 pas:z.passed=false
 tot:z.total=T
 nd:∃ y,(∀ T',endWordS {z with total:=T' }=.inr {y with total:=T' })∧Sx y ks told c t w T
theorem Sx.dn (h:Sx st ks told c t w T):Dn st ks told c t w T :=
 ⟨by rw [h.cl.q];rfl,h.cl.pas,h.tot,st,fun T'=>by unfold endWordS;rw [if_pos (show st.word=[] from h.cl.word)],h⟩
theorem Dn.mark (h:Dn st ks told c t w T) {a:UInt8} (ha:isMk a=true) (ht:T + 1≤65536):∃ y,takeS st a=markS y a∧Sx y ks told c t w (T + 1):=by
 obtain ⟨y,h1,h2⟩:=h.nd
 rw [take_in a h.pas (by rw [h.tot];exact ht)]
 unfold goS
 rw [if_neg (by show ¬ st.q.place≠0;rw [h.pl];simp),if_pos ha,h1]
 have:=h2.tt (st.total + 1)
 rw [h.tot] at this ⊢
 exact ⟨_,rfl,this⟩
theorem Sx.wd (h:Sx st ks told c t w T) (hw:w=0∨w=1) {l:List UInt8} (hl:l≠[]) (h5:l.length≤512) (hm:∀ a∈l,isMk a=false) (ht:T + l.length≤65536) {e:Hd} (k:Okk c t [e] c' t') (he:∀ x:St,wordE x (mkB l)=.inr (e,x)) :
  ∃ z,feedS st l=.inr z∧Dn z ks (told++[e]) c' t' (endW ks) (T + l.length):=by
 have hq:st.q.place=0:=by rw [h.cl.q];rfl
 rw [word_feed l st hq h.cl.pas (by rw [h.cl.word];simpa using h5) (by rw [h.tot];exact ht) hm]
 refine ⟨_,rfl,hq,h.cl.pas,by show st.total + _=_;rw [h.tot],?_⟩
 have sm:Sx {st with total:=T + l.length} ks told c t w (T + l.length):=h.tt _
 obtain ⟨y,h1,h2,_⟩:=sm.tell k
 refine ⟨endV y,fun T'=>?_,h2.ev⟩
 obtain ⟨y',h1',_⟩:=(h.tt T').tell k
 unfold endWordS
 rw [if_neg (by show ¬ (st.word++l=[]);rw [h.cl.word];simpa using hl)]
 unfold wordS
 rw [if_pos (by show st.wait=0∨st.wait=1;rw [h.wait];exact hw)]
 show bnd (wordE _ (mkB (st.word++l))) _=_
 have e0:st.word++l=l:=by rw [h.cl.word];rfl
 rw [e0,he]
 have e1:({st with total:=T',word:=[]}:St)={st with total:=T' }:=by
  have:=h.cl.word
  cases st
  simp only at this
  subst this
  rfl
 show bnd (tellS ({st with total:=T',word:=[]}:St) e) _=_
 rw [e1]
 have sm2:=h.tt T'
 unfold tellS
 have f1:feedE (some st.ck) (mayB e) e=some c':=by rw [h.ck];exact k.ck
 have f2:takeT st.tz st.tp e=some t':=by
  have:=k.ty
  rw [←h.ty] at this
  exact this
 unfold tellS at h1
 rw [show feedE (some ({st with total:=T + l.length}:St).ck) (mayB e) e=some c' from f1] at h1
 simp only at h1
 rw [f2] at h1
 simp only at h1
 cases h1
 rw [show feedE (some ({st with total:=T' }:St).ck) (mayB e) e=some c' from f1]
 simp only
 rw [f2]
 rfl
end
section
variable {h : Hd}
theorem head_1 (hs:strip h=zr h.kind) (hk:h.kind=1):hd0 h=zr 1:=by
 cases h;simp only at hk;subst hk;simp [strip,zr] at hs;simp [hd0,zr,hs]
theorem head_2 (hs:strip h=zr h.kind) (hk:h.kind=2):hd0 h=evFlag h.flag:=by
 cases h;simp only at hk;subst hk;simp [strip,zr] at hs;simp [hd0,zr,evFlag,hs]
theorem head_3 (hs:strip h=zr h.kind) (hk:h.kind=3):hd0 h=evNum (h.neg,h.dig,h.exp,0):=by
 cases h;simp only at hk;subst hk;simp [strip,zr] at hs;simp [hd0,zr,evNum,hs]
theorem head_4 (hs:strip h=zr h.kind) (hk:h.kind=4) (hb:0≤h.bits):hd0 h=evFloat h.bits.toNat:=by
 have e:((h.bits.toNat:Nat):Int)=h.bits:=Int.toNat_of_nonneg hb
 cases h;simp only at hk;subst hk;simp [strip,zr] at hs;simp only at e;simp [hd0,zr,evFloat,hs,e]
theorem head_5 (hs:strip h=zr h.kind) (hk:h.kind=5):hd0 h=evText h.text:=by
 cases h;simp only at hk;subst hk;simp [strip,zr] at hs;simp [hd0,zr,evText,hs]
theorem head_6 (hs:strip h=zr h.kind) (hk:h.kind=6):hd0 h=evBytes h.text:=by
 cases h;simp only at hk;subst hk;simp [strip,zr] at hs;simp [hd0,zr,evBytes,hs]
theorem head_7 (hs:strip h=zr h.kind) (hk:h.kind=7):hd0 h=zr 7:=by
 cases h;simp only at hk;subst hk;simp [strip,zr] at hs;simp [hd0,zr,hs]
theorem head_8 (hs:strip h=zr h.kind) (hk:h.kind=8):hd0 h=zr 8:=by
 cases h;simp only at hk;subst hk;simp [strip,zr] at hs;simp [hd0,zr,hs]
theorem head_9 (hs:strip h=zr h.kind) (hk:h.kind=9):hd0 h=evTag h.text:=by
 cases h;simp only at hk;subst hk;simp [strip,zr] at hs;simp [hd0,zr,evTag,hs]
end
theorem ok_pre:∀ (a:List UInt8) (h:∀ c∈a,c.toNat<128) (l:List UInt8),Ut.okT (a++l)=Ut.okT l
 | [],_,l=>rfl
 | c :: a,h,l=>by
  rw [←ok_pre a (fun d hd=>h d (by simp [hd])) l]
  have hc:=h c (by simp)
  have:Ut.nx .i8 c.toNat=some .i8:=by unfold Ut.nx;simp only;rw [if_pos hc]
  unfold Ut.okT
  rw [List.cons_append,Ut.run_cons this]
theorem ok_nil:Ut.okT []=true:=rfl
theorem fhd_v:∀ d:_root_.Fin 16,fhv (UInt8.ofNat (fhd d.val))=some d.val∧(UInt8.ofNat (fhd d.val)).toNat<128:=by decide
theorem fuh_low (b:Nat):∀ (k a:Nat),((flowL b k).map fun v=>UInt8.ofNat v).foldl fuhS (some a)=some (a * 16 ^ k + b % 16 ^ k)
 | 0,a=>by simp [flowL,Nat.mod_one]
 | k + 1,a=>by
  have hd16:b / 16 ^ k % 16<16:=Nat.mod_lt _ (by decide)
  have h1:=(fhd_v ⟨b / 16 ^ k % 16,hd16⟩).1
  simp only at h1
  simp only [flowL,List.map_cons,List.foldl_cons]
  have:fuhS (some a) (UInt8.ofNat (fhd (b / 16 ^ k % 16)))=some (a * 16 + b / 16 ^ k % 16):=by unfold fuhS;rw [h1]
  rw [this,fuh_low b k,Nat.mod_pow_succ,Nat.add_mul,Nat.pow_succ]
  congr 1
  rw [Nat.mul_assoc,Nat.mul_comm 16,Nat.mul_comm (b / 16 ^ k % 16)]
  omega
theorem fhex_bl (b:Nat):bl (fhexS b)=(flowL b 16).map fun v=>UInt8.ofNat v:=by
 unfold bl fhexS
 rw [strOfNums_data,List.map_map]
 apply List.map_congr_left
 intro v _
 show UInt8.ofNat ((v:Int)).toNat=_
 rw [Int.toNat_natCast]
theorem flowL_small (b:Nat):∀ (k:Nat),∀ c∈(flowL b k).map fun v=>UInt8.ofNat v,c.toNat<128
 | 0,c,h=>by simp [flowL] at h
 | k + 1,c,h=>by
  simp only [flowL,List.map_cons,List.mem_cons] at h
  rcases h with rfl|h
  ·exact (fhd_v ⟨b / 16 ^ k % 16,Nat.mod_lt _ (by decide)⟩).2
  ·exact flowL_small b k c h
theorem fhex_ok (b:Nat) (h:b<18446744073709551616):(∀ c∈bl (fhexS b),c.toNat<128)∧(bl (fhexS b)).length=16∧funh (fhexS b)=(b,0):=by
 have hl:(bl (fhexS b)).length=16:=by rw [fhex_bl,List.length_map,flowL_len]
 refine ⟨by rw [fhex_bl];exact flowL_small b 16,hl,?_⟩
 refine funh_some _ (by rw [←bl_length];exact hl) b ?_
 unfold fuh
 rw [fhex_bl,fuh_low]
 congr 1
 have:b % 16 ^ 16=b:=Nat.mod_eq_of_lt (by simpa using h)
 omega
def okC (c:UInt8):Bool:=isDig c || c==45 || c==46 || c==101
theorem okC_facts_n:∀ n:_root_.Fin 256,okC (UInt8.ofNat n.val)=true→isMk (UInt8.ofNat n.val)=false∧UInt8.ofNat n.val≠110∧UInt8.ofNat n.val≠116∧UInt8.ofNat n.val≠102:=by decide +kernel
theorem okC_facts (c:UInt8) (h:okC c=true):isMk c=false∧c≠110∧c≠116∧c≠102:=by
 have:=okC_facts_n ⟨c.toNat,c.toNat_lt⟩
 have e:UInt8.ofNat c.toNat=c:=by simp
 simp only [e] at this
 exact this h
theorem okC_dig {l:List UInt8} (h:allD l=true):∀ c∈l,okC c=true:=by
 intro c hc
 have:=List.all_eq_true.1 h c hc
 unfold okC
 rw [this];rfl
theorem itoa_okC (p:Int) (h1:-439≤p) (h2:p≤439):∀ c∈Lib.itoa p,okC c=true:=by
 unfold Lib.itoa
 split
 ·intro c hc
  rcases List.mem_cons.1 hc with rfl|hc
  ·rfl
  ·exact okC_dig (dec_facts p.natAbs (by omega)).2.1 c hc
 ·exact okC_dig (dec_facts p.toNat (by omega)).2.1
theorem print_okC (n:Bool) (s:ByteArray) (x:Int) (h:isN n s x=true):∀ c∈printL n (bl s) x,okC c=true:=by
 obtain ⟨had,h1,h40,hx1,hx2,_⟩:=isN_all h
 have hd:=okC_dig had
 have hrep:∀ k,∀ c∈List.replicate k (48:UInt8),okC c=true:=fun k c hc=>by rw [List.eq_of_mem_replicate hc];rfl
 have hll:=bl_length s
 unfold printL
 intro c hc
 rcases List.mem_append.1 hc with q|q
 ·cases n with
  | true=>rw [List.mem_singleton.1 (show c∈[45] from q)];rfl
  | false=>cases q
 ·split at q
  ·rcases List.mem_append.1 q with q|q
   ·exact hd c q
   ·exact hrep _ c q
  ·split at q
   ·unfold pointed at q
    split at q
    ·rcases List.mem_cons.1 q with rfl|q
     ·rfl
     rcases List.mem_cons.1 q with rfl|q
     ·rfl
     rcases List.mem_append.1 q with q|q
     ·exact hrep _ c q
     ·exact hd c q
    ·rcases List.mem_append.1 q with q|q
     ·exact hd c (List.mem_of_mem_take q)
     rcases List.mem_cons.1 q with rfl|q
     ·rfl
     ·exact hd c (List.mem_of_mem_drop q)
   ·unfold powered at q
    rcases List.mem_append.1 q with q|q
    ·rcases List.mem_append.1 q with q|q
     ·exact hd c (List.mem_of_mem_take q)
     ·split at q
      ·rcases List.mem_cons.1 q with rfl|q
       ·rfl
       ·exact hd c (List.mem_of_mem_drop q)
      ·cases q
    ·rcases List.mem_cons.1 q with rfl|q
     ·rfl
     ·exact itoa_okC _ (by omega) (by omega) c q
theorem print_ne (n:Bool) (s:ByteArray) (x:Int) (h:isN n s x=true):printL n (bl s) x≠[]:=by
 obtain ⟨had,h1,h40,hx1,hx2,_⟩:=isN_all h
 have hll:=bl_length s
 intro e
 have hl:=congrArg List.length e
 unfold printL at hl
 rw [List.length_append] at hl
 split at hl
 ·rw [List.length_append] at hl
  simp only [List.length_nil] at hl
  omega
 ·split at hl
  ·unfold pointed at hl
   split at hl <;> simp at hl
  ·unfold powered at hl
   simp at hl
theorem print_short (n:Bool) (s:ByteArray) (x:Int) (h:isN n s x=true):(printL n (bl s) x).length≤512:=by
 obtain ⟨_,h1,h40,hx1,hx2,_⟩:=isN_all h
 have hs:(sgnB n).length≤1:=by cases n <;> simp [sgnB]
 have hil:=Lib.itoa_length_le (x + s.size - 1) (by omega) (by omega)
 unfold printL
 rw [List.length_append,bl_length]
 split
 ·rw [List.length_append,List.length_replicate,bl_length];omega
 ·split
  ·have:(pointed (bl s) (-x).toNat).length≤200:=by
    unfold pointed
    split <;> simp [bl_length] <;> omega
   omega
  ·have:(powered (bl s) (Lib.itoa (x + s.size - 1))).length≤200:=by
    unfold powered
    split <;> simp [bl_length] <;> omega
   omega
theorem print_ok (n:Bool) (s:ByteArray) (x:Int) (h:isN n s x=true):(printL n (bl s) x).length≤512∧(∀ c∈printL n (bl s) x,isMk c=false)∧(∃ a r,printL n (bl s) x=a :: r∧a≠110∧a≠116∧a≠102)∧parseF (printL n (bl s) x)=(n,s,x,0):=by
 have hc:=print_okC n s x h
 refine ⟨print_short n s x h,fun c q=>(okC_facts c (hc c q)).1,?_,parse_print n s x h⟩
 cases hp:printL n (bl s) x with
 | nil=>exact absurd hp (print_ne n s x h)
 | cons a r =>
  rw [hp] at hc
  exact ⟨a,r,rfl,(okC_facts a (hc a (by simp))).2⟩
end Go.Proofs.YtpimjkdakjhoaaaGreatDoor
