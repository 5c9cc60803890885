/- Merged by program: YfFun, YgRead, YhRead, YkRow, YiRead. -/
import Derived.Test.YthodiandebahdaaGreatDoorZq32
import Derived.Test.YthodiandebahdaaGreatDoorZq08
import Derived.Test.YthodiandebahdaaGreatDoorZq23
namespace Go.Proofs.YthodiandebahdaaGreatDoor
open Go.RowKit
set_option linter.unusedSimpArgs false
set_option linter.unusedVariables false
set_option maxHeartbeats 8000000
def evNum (p:Bool×ByteArray×Int×Int):Hd:={zr 3 with neg:=p.1,dig:=p.2.1,exp:=p.2.2.1}
def evFlag (b:Bool):Hd:={zr 2 with flag:=b}
def evText (s:ByteArray):Hd:={zr 5 with text:=s}
def evFloat (b:Nat):Hd:={zr 4 with bits:=b}
def evBytes (s:ByteArray):Hd:={zr 6 with text:=s}
def evTag (s:ByteArray):Hd:={zr 9 with text:=s}
def hxD (c:UInt8):Option (Fin 16) :=
 if h:48≤c.toNat∧c.toNat≤57 then some ⟨c.toNat - 48,by omega⟩ else if h:97≤c.toNat∧c.toNat≤102 then some ⟨c.toNat - 87,by omega⟩ else none
def hx2:List UInt8→Option (List UInt8)
 | []=>some []
 | [_]=>none
 | a :: b :: l=>match hxD a,hxD b,hx2 l with
  | some x,some y,some t=>some (UInt8.ofNat (x.val * 16+y.val) :: t)
  | _,_,_=>none
def tellN (E0:Int)(t:Tl)(s:ByteArray):Sum Int Tl :=
 if (parseF (bl s)).2.2.2=0 then tellT E0 t (evNum (parseF (bl s)))
 else if (parseF (bl s)).2.2.2=2 then bnd (passT t) fun x=>tellT E0 x (zr 1)
 else .inl E0
def mkOf (l:List UInt8):Option (Nat×Int×Bool) :=
 if l=mNull then some (1,1,false) else if l=mTrue then some (1,2,true) else if l=mFalse then some (1,2,false)
 else if l=mNum then some (2,3,false) else if l=mNumE then some (3,3,false)
 else if l=mFloat then some (2,4,false) else if l=mFloatE then some (3,4,false)
 else if l=mText then some (2,5,false) else if l=mTextE then some (3,5,false)
 else if l=mBytes then some (2,6,false) else if l=mBytesE then some (3,6,false)
 else if l=mList then some (4,7,false) else if l=mListE then some (7,7,false)
 else if l=mRec then some (4,8,false) else if l=mRecE then some (7,8,false)
 else if l=mField then some (5,10,false) else if l=mFieldE then some (7,10,false)
 else if l=mTag then some (5,9,false) else if l=mTagE then some (7,9,false)
 else if l=mNameE then some (6,0,false) else none
def wantE (st:Xs):Bool:=st.rk != 0 || lastK st.ks==8 || (lastK st.ks != 7 && st.filled)
def elemS (st:Xs)(e:Hd):Sum Int Xs:=bnd (tellT 100 st.t e) fun t=>.inr {st with t:=t,filled:=true}
def beginS (st:Xs)(e:Hd):Sum Int Xs:=bnd (tellT 100 st.t e) fun t=>.inr {st with t:=t,ks:=st.ks++[e.kind],filled:=false}
def row0 (st:Xs):Xs:={st with rk:=0,held:=[],ref:=[]}
def floatS (st:Xs)(s:ByteArray):Sum Int Xs:=if (funh s).2=0 then elemS st (evFloat (funh s).1) else .inl 100
def bytesS (st:Xs)(s:ByteArray):Sum Int Xs:=match hx2 (bl s) with
 | none=>.inl 100
 | some l=>elemS st (evBytes (mkB l))
def numS (st:Xs)(s:ByteArray):Sum Int Xs:=bnd (tellN 100 st.t s) fun t=>.inr {st with t:=t,filled:=true}
def endRowS (st:Xs)(k:Int):Sum Int Xs :=
 if st.rk≠k then .inl 100
 else if k=3 then numS (row0 st) (mkB st.held)
 else if k=4 then floatS (row0 st) (mkB st.held)
 else if k=5 then elemS (row0 st) (evText (mkB st.held))
 else if k=6 then bytesS (row0 st) (mkB st.held)
 else .inr (row0 st)
def beginNameS (st:Xs)(k:Int):Sum Int Xs :=
 if k=9 then (if wantE st then .inl 100 else .inr {st with rk:=k})
 else if st.rk≠0∨lastK st.ks≠8 then .inl 100 else .inr {st with rk:=k}
def endNameS (st:Xs):Sum Int Xs :=
 if st.rk≠10∧st.rk≠9 then .inl 100 else beginS (row0 st) {zr st.rk with text:=mkB st.held}
def endPartS (st:Xs)(k:Int):Sum Int Xs :=
 if st.rk≠0∨lastK st.ks≠k∨((k=10∨k=9)∧st.filled=false) then .inl 100
 else if k=10 then .inr {st with ks:=st.ks.dropLast} else elemS {st with ks:=st.ks.dropLast} evE
def markS (st:Xs)(p:Nat×Int×Bool):Sum Int Xs :=
 if p.1=1 then (if wantE st then .inl 100 else elemS st {zr p.2.1 with flag:=p.2.2})
 else if p.1=2 then (if wantE st then .inl 100 else .inr {st with rk:=p.2.1})
 else if p.1=3 then endRowS st p.2.1
 else if p.1=4 then (if wantE st then .inl 100 else beginS st (zr p.2.1))
 else if p.1=5 then beginNameS st p.2.1
 else if p.1=6 then endNameS st
 else endPartS st p.2.1
def inMarkS (st:Xs)(c:UInt8):Sum Int Xs:=match mkOf (st.mark++[c]) with
 | some p=>markS {st with mark:=[]} p
 | none=>if st.mark.length+1=13 then .inl 100 else .inr {st with mark:=st.mark++[c]}
def mostK (k:Int):Nat:=if k=3 then 512 else if k=4 then 16 else if k=5 then 4096 else if k=6 then 8192 else 64
def holdS (st:Xs)(l:List UInt8):Sum Int Xs:=if mostK st.rk<st.held.length+l.length then .inl 2 else .inr {st with held:=st.held++l}
def areD (k:Int):Bool:=k==3 || k==4 || k==6
def rowS (st:Xs)(c:UInt8):Sum Int Xs :=
 if c.toNat<32∨(st.rk=4∧st.held.length=16) then .inl 100
 else if c=38∧areD st.rk=false then .inr {st with ref:=st.ref++[c]}
 else holdS st [c]
def hxU (c:UInt8):Option Nat:=if 48≤c.toNat∧c.toNat≤57 then some (c.toNat - 48) else if 97≤c.toNat∧c.toNat≤102 then some (c.toNat - 87) else if 65≤c.toNat∧c.toNat≤70 then some (c.toNat - 55) else none
def hxN (n:Nat):List UInt8→Option Nat
 | []=>some n
 | c :: l=>match hxU c with
  | none=>none
  | some d=>hxN (16 * n+d) l
def refC (l:List UInt8):Option (List UInt8) :=
 if l=[38,108,116,59] then some [60] else if l=[38,97,109,112,59] then some [38] else if l=[38,113,117,111,116,59] then some [34] else if l=[38,103,116,59] then some [62]
 else match l with
 | 38 :: 35 :: 120 :: d=>match d.dropLast with
  | []=>none
  | a :: t=>match hxN 0 (a :: t) with
   | none=>none
   | some n=>if Utf8.valid n then some (bl (Utf8.encode n)) else none
 | _=>none
def inRefS (st:Xs)(c:UInt8):Sum Int Xs :=
 if c=59 then (match refC (st.ref++[c]) with
  | none=>.inl 100
  | some l=>holdS {st with ref:=[]} l)
 else if st.ref.length+1=10 then .inl 100 else .inr {st with ref:=st.ref++[c]}
def blank (c:UInt8):Bool:=c==32 || c==9 || c==10 || c==13
def goX (st:Xs)(c:UInt8):Sum Int Xs :=
 if st.mark≠[] then inMarkS st c
 else if st.ref≠[] then inRefS st c
 else if c=60∨c=34 then .inr {st with mark:=[c]}
 else if st.rk≠0 then rowS st c
 else if blank c then .inr st else .inl 100
def takeX (st:Xs)(c:UInt8):Sum Int Xs:=bnd (countT st.t) fun t=>goX {st with t:=t} c
def finX (st:Xs):Sum Int Xs:=if st.mark≠[]∨st.ks≠[]∨st.filled=false then .inl 100 else if st.t.passed then .inl 2 else .inr st
def x0:Xs:=⟨tl0,[],0,[],[],[],false⟩
section
variable {W W1 W2 : World} {r : Nat} {g : Tg} {m m1 : Xm} {st : Xs}
theorem inner_q (h:XM W r g m st)(hl:st.t.n≤300000):Calls Tryz.prog 127 #[.pointer (some ⟨r,0,none⟩)] W fun e w'=>e=.returned (.int .i64 (lastK st.ks))∧∃ d,w'=W.drewN d:=by
 have ml:maxLen=9223372036854775807:=rfl
 have c11:W.cell? ⟨r,5,none⟩=some m.opn:=(h.rd.cell 5).trans rfl
 have o:=h.row.opn
 have kl:=Nat.le_trans h.row.kl hl
 clear h
 obtain ⟨ks,hks⟩:∃ ks,st.ks=ks:=⟨_,rfl⟩
 rw [hks] at o kl ⊢
 clear hks hl
 unfold OwnK at o
 obtain ⟨op,hop⟩:∃ op,m.opn=op:=⟨_,rfl⟩
 rw [hop] at o c11
 clear hop
 rcases List.eq_nil_or_concat ks with rfl|⟨qs,p,rfl⟩
 ·obtain ⟨a,cp,hv⟩:∃ a cp,op=.slice a 0 cp:=by
   rcases o.2 with ⟨e1,e⟩|⟨g,cap,cur,e1,_⟩
   ·exact ⟨none,0,e1⟩
   ·exact ⟨_,_,e1⟩
  rw [hv] at c11
  clear o hv
  go_enter Tryz.func127, Tryz.ntmps127
  go_wp2
  go_ret
  exact ⟨rfl,0,rfl⟩
 ·rw [List.concat_eq_append] at o kl ⊢
  rw [List.length_append,List.length_singleton] at o kl
  rcases o.2 with ⟨_,e⟩|⟨g,cp,cur,hv,h1,h2,h3,h4,h5,h6⟩
  ·omega
  ·rw [hv] at c11 o
   have k0:W.cell? ⟨g,qs.length,none⟩=some (.int .i64 p):=by
    rw [World.ownsRow.cellAt o _ (by omega)];simp
   have hlast:lastK (qs++[p])=p:=by simp [lastK]
   rw [hlast]
   have hw:IntKind.i64.wrap ((qs.length:Int)+1 - 1)=(qs.length:Int):=by rw [IntKind.wrap_i64] <;> omega
   have hw2:IntKind.i64.wrap ((qs.length:Int))=(qs.length:Int):=by rw [IntKind.wrap_i64] <;> omega
   clear o hv h1 h2 h5 h6 hlast kl
   go_enter Tryz.func127, Tryz.ntmps127
   go_wp2
   go_quiet (fail)
   go_wp2
   go_ret
   exact ⟨by first|rfl|(simp;done)|trace_state,_,rfl⟩
theorem XM.setF (h:XM W r g m st)(b:Bool):XP W r g m (.inr {st with filled:=b}) (.returned (.tuple #[])) (W.setCell ⟨r,6,none⟩ (.bool b)) :=
 have O:TdO r W (W.setCell ⟨r,6,none⟩ (.bool b)):=TdO.refl.set 6 _
 ⟨XF.ofO h O,rfl,m,h.blk O (h.rd.set 6 _ _ rfl) ⟨h.row.mark,h.row.held,h.row.ref,h.row.opn,h.row.d1,h.row.d2,h.row.d3,h.row.ml,h.row.hl,h.row.rl,h.row.kl⟩ rfl rfl,OMx.refl _ _⟩
theorem XM.setK (h:XM W r g m st)(k:Int):XP W r g m (.inr {st with rk:=k}) (.returned (.tuple #[])) (W.setCell ⟨r,2,none⟩ (.int .i64 k)) :=
 have O:TdO r W (W.setCell ⟨r,2,none⟩ (.int .i64 k)):=TdO.refl.set 2 _
 ⟨XF.ofO h O,rfl,m,h.blk O (h.rd.set 2 _ _ rfl) ⟨h.row.mark,h.row.held,h.row.ref,h.row.opn,h.row.d1,h.row.d2,h.row.d3,h.row.ml,h.row.hl,h.row.rl,h.row.kl⟩ rfl rfl,OMx.refl _ _⟩
theorem XM.fail (h:XM W r g m st)(E:Int):XP W r g m (.inl E) (.panicked (pan E)) W:=⟨XF.refl,rfl,⟨_,h.rd,rfl⟩,_,h.t.tb⟩
theorem XM.idle (h:XM W r g m st):XP W r g m (.inr st) (.returned (.tuple #[])) W:=⟨XF.refl,rfl,m,h,OMx.refl _ _⟩
theorem XP.base {o:Sum Int Xs} {e:Ending} (h:XM W r g m st)(hb:Below W.heap.size W W1)(k:XP W1 r g m o e W2):XP W r g m o e W2:=XP.trans (XF.of hb h.low) (OMx.refl _ _) k
def wantS (st:Xs):Sum Int Xs:=if wantE st then .inl 100 else .inr st
theorem want_q (h:XM W r g m st)(hl:st.t.n≤300000):Calls Tryz.prog 105 #[.pointer (some ⟨r,0,none⟩)] W fun e w'=>XP W r g m (wantS st) e w':=by
 have IN:=hide (inner_q h hl)
 have H:=hide h
 have c2:W.cell? ⟨r,2,none⟩=some (.int .i64 st.rk):=(h.rd.cell 2).trans rfl
 have HD:∀ d,XM (W.drewN d) r g m st:=fun d=>h.then (dn_b W d)
 have c2d:∀ d,(W.drewN d).cell? ⟨r,2,none⟩=some (.int .i64 st.rk):=fun d=>c2
 have c6d:∀ d,(W.drewN d).cell? ⟨r,6,none⟩=some (.bool st.filled):=fun d=>((HD d).rd.cell 6).trans rfl
 have HD':=hide HD
 clear h HD
 obtain ⟨k,hk⟩:∃ k,st.rk=k:=⟨_,rfl⟩
 obtain ⟨i,hi⟩:∃ i,lastK st.ks=i:=⟨_,rfl⟩
 obtain ⟨f,hf⟩:∃ f,st.filled=f:=⟨_,rfl⟩
 have hW:Hid (wantS st=if (k != 0 || i==8 || (i != 7 && f)) then .inl 100 else .inr st):=by show _=_;unfold wantS wantE;rw [hk,hi,hf]
 rw [hi] at IN
 rw [hk] at c2 c2d
 rw [hf] at c6d
 clear hk hi hf
 by_cases hk:k=0
 ·subst hk
  by_cases h8:i=8
  ·subst h8
   go_enter Tryz.func105, Tryz.ntmps105
   go_wp2_with (go_at_call 127;refine IN.out.mono ?_;rintro e w1 ⟨rfl,d,rfl⟩;have d2:=c2d d;have d6:=c6d d;have HH:=hide (HD'.out d))
   exact ⟨rfl,by rw [hW.out];exact XP.base H.out (dn_b W d) (HH.out.fail 100)⟩
  ·have n8:(i==8)=false:=by simpa using h8
   rw [n8] at hW
   by_cases h7:i=7
   ·subst h7
    go_enter Tryz.func105, Tryz.ntmps105
    go_wp2_with (go_at_call 127;refine IN.out.mono ?_;rintro e w1 ⟨rfl,d,rfl⟩;have d2:=c2d d;have d6:=c6d d;have HH:=hide (HD'.out d))
    go_end0
    rw [hW.out]
    exact XP.base H.out (dn_b W d) HH.out.idle
   ·have n7:(i != 7)=true:=by simpa using h7
    rw [n7] at hW
    cases f
    ·go_enter Tryz.func105, Tryz.ntmps105
     go_wp2_with (go_at_call 127;refine IN.out.mono ?_;rintro e w1 ⟨rfl,d,rfl⟩;have d2:=c2d d;have d6:=c6d d;have HH:=hide (HD'.out d))
     go_end0
     rw [hW.out]
     exact XP.base H.out (dn_b W d) HH.out.idle
    ·go_enter Tryz.func105, Tryz.ntmps105
     go_wp2_with (go_at_call 127;refine IN.out.mono ?_;rintro e w1 ⟨rfl,d,rfl⟩;have d2:=c2d d;have d6:=c6d d;have HH:=hide (HD'.out d))
     exact ⟨rfl,by rw [hW.out];exact XP.base H.out (dn_b W d) (HH.out.fail 100)⟩
 ·have n0:(k != 0)=true:=by simpa using hk
  rw [n0] at hW
  go_enter Tryz.func105, Tryz.ntmps105
  go_wp2_with (go_at_call 127;refine IN.out.mono ?_;rintro e w1 ⟨rfl,d,rfl⟩;have d2:=c2d d;have d6:=c6d d;have HH:=hide (HD'.out d))
  exact ⟨rfl,by rw [hW.out];exact XP.base H.out (dn_b W d) (HH.out.fail 100)⟩
end
section
variable {W W1 W2 : World} {r : Nat} {g : Tg} {m m1 : Xm} {st : Xs}
theorem XF.eb (h:XF g m W W1) {k:Nat} {e:Hd} (hE:EB W k e)(n1:m.mark.ownBlock≠some k)(n2:m.held.ownBlock≠some k)(n3:m.ref.ownBlock≠some k)(n4:m.t.told.ownBlock≠some k):EB W1 k e :=
 h.keep k _ _ _ hE (by decide) (by decide) (by decide) (by decide) (by decide) (by decide) (by decide) n1 n2 n3 n4
theorem XF.ebN (h:XF g m W1 W2)(hM:XM W r g m st) {e:Hd} (hE:EB W1 W.heap.size e):EB W2 W.heap.size e :=
 h.eb hE (fun e=>by have:=(World.ownsRow.lt hM.row.mark _ e).2;omega) (fun e=>by have:=(World.ownsRow.lt hM.row.held _ e).2;omega) (fun e=>by have:=(World.ownsRow.lt hM.row.ref _ e).2;omega) (hM.t.nob (Nat.le_refl _))
theorem tell_x (h:XM W r g m st)(e:Hd)(hz:EvZ e)(hn:st.t.n≤200000):Calls Tryz.prog 128 #[.pointer (some ⟨g.t,0,none⟩),.agg (evs e)] W fun q w'=>XP W r g m (liftT st (tellT 100 st.t e)) q w' :=
 (tell_q h.t e hz hn).mono fun q w' hp=>XP.ofT h hp fun x hx=>by rw [tellT_n hx];omega
set_option maxRecDepth 100000 in
theorem elem_q (h:XM W r g m st)(e:Hd)(hz:EvZ e)(hn:st.t.n≤200000):Calls Tryz.prog 106 #[.pointer (some ⟨r,0,none⟩),.agg (evs e)] W fun q w'=>XP W r g m (elemS st e) q w':=by
 have H:=hide h
 have T:=hide (fun w (hb:Below W.heap.size W w)=>tell_x (h.then hb) e hz hn)
 have hlt:=h.lt
 have c0:W.cell? ⟨r,0,none⟩=some (.pointer (some ⟨g.t,0,none⟩)):=(h.rd.cell 0).trans rfl
 have c0A:∀ o,(W.alloc o).cell? ⟨r,0,none⟩=some (.pointer (some ⟨g.t,0,none⟩)):=fun o=>((h.then (below_al (o:=o) (Below.refl W.heap.size W))).rd.cell 0).trans rfl
 clear h hz hn
 simp only [evs] at T ⊢
 go_enter Tryz.func106, Tryz.ntmps106
 go_wp2_with fail
 go_region_with (go_at_call 128;refine (T.out _ (by repeat (first|exact Below.refl _ _|refine Below.drew ?_|refine below_al ?_))).mono ?_;rintro q w1 hp;rcases ht:tellT 100 st.t e with E|x;(rw [ht] at hp;obtain ⟨hp1,rfl,hp2⟩:=hp;have K:Hid (XP W r g m (elemS st e) (.panicked (pan E)) w1):=(by show XP _ _ _ _ _ _ _;unfold elemS;rw [ht];exact XP.base (o:=.inl E) H.out (by repeat (first|exact Below.refl _ _|refine Below.drew ?_|refine below_al ?_)) ⟨hp1,rfl,hp2⟩);(first|exact ⟨rfl,K.out⟩|(go_simp;exact ⟨rfl,K.out⟩)|(unfold Exit.inBlock;exact ⟨rfl,K.out⟩)));rw [ht] at hp;obtain ⟨hp1,rfl,m1,hp2,hp3⟩:=hp;have hE:Hid (elemS st e=.inr {st with t:=x,filled:=true}):=(by show _=_;unfold elemS;rw [ht];rfl);have F1:Hid (XF g m W w1):=(XF.of (by repeat (first|exact Below.refl _ _|refine Below.drew ?_|refine below_al ?_)) H.out.low).trans (OMx.refl _ _) hp1;have M1:=hide hp2;have O1:Hid (OMx W m m1):=(OMx.refl _ _).trans hp3 (show Below W.heap.size W _ from (by repeat (first|exact Below.refl _ _|refine Below.drew ?_|refine below_al ?_))).size;have g6:w1.cell? ⟨r,6,none⟩=some (.bool st.filled):=(hp2.rd.cell 6).trans rfl;have f6:w1.frozen? ⟨r,6,none⟩=false:=hp2.rd.frz 6;clear hp1 hp2 hp3 ht)
 all_goals
  go_wp2_with fail
  go_end0
  rw [hE.out]
  exact XP.trans F1.out O1.out (M1.out.setF true)
end
theorem most_q (k:Int)(w:World):Calls Tryz.prog 116 #[.int .i64 k] w fun e w'=>e=.returned (.int .i64 (mostK k))∧w'=w:=by
 unfold mostK
 by_cases h3:k=3
 ·subst h3
  go_enter Tryz.func116, Tryz.ntmps116
  go_wp2
  go_ret
  exact ⟨rfl,rfl⟩
 by_cases h4:k=4
 ·subst h4
  go_enter Tryz.func116, Tryz.ntmps116
  go_wp2
  go_ret
  exact ⟨rfl,rfl⟩
 by_cases h5:k=5
 ·subst h5
  go_enter Tryz.func116, Tryz.ntmps116
  go_wp2
  go_ret
  exact ⟨rfl,rfl⟩
 by_cases h6:k=6
 ·subst h6
  go_enter Tryz.func116, Tryz.ntmps116
  go_wp2
  go_ret
  exact ⟨rfl,rfl⟩
 rw [if_neg h3,if_neg h4,if_neg h5,if_neg h6]
 have n3:(k==3)=false:=by simpa using h3
 have n4:(k==4)=false:=by simpa using h4
 have n5:(k==5)=false:=by simpa using h5
 have n6:(k==6)=false:=by simpa using h6
 clear h3 h4 h5 h6
 go_enter Tryz.func116, Tryz.ntmps116
 go_wp2
 go_ret
 exact ⟨rfl,rfl⟩
theorem mostK_le (k:Int):mostK k≤8192:=by
 unfold mostK
 repeat (split <;> try omega)
section
variable {W W1 W2 : World} {r : Nat} {g : Tg} {m m1 : Xm} {st : Xs}
theorem are_q (h:XM W r g m st):Calls Tryz.prog 91 #[.pointer (some ⟨r,2,none⟩)] W fun e w'=>e=.returned (.bool (areD st.rk))∧w'=W:=by
 have c2:W.cell? ⟨r,2,none⟩=some (.int .i64 st.rk):=(h.rd.cell 2).trans rfl
 clear h
 obtain ⟨k,hk⟩:∃ k,st.rk=k:=⟨_,rfl⟩
 rw [hk] at c2 ⊢
 clear hk
 unfold areD
 by_cases h3:k=3
 ·subst h3
  go_enter Tryz.func91, Tryz.ntmps91
  go_wp2
  go_ret
  exact ⟨rfl,rfl⟩
 by_cases h4:k=4
 ·subst h4
  go_enter Tryz.func91, Tryz.ntmps91
  go_wp2
  go_ret
  exact ⟨rfl,rfl⟩
 have n3:(k==3)=false:=by simpa using h3
 have n4:(k==4)=false:=by simpa using h4
 rw [n3,n4]
 simp only [Bool.false_or]
 clear h3 h4
 go_enter Tryz.func91, Tryz.ntmps91
 go_wp2
 go_ret
 exact ⟨rfl,rfl⟩
theorem XM.shH (h:XM W r g m st):∃ a c,m.held=.slice a st.held.length c:=by
 rcases h.row.held.2 with ⟨e1,e⟩|⟨g,cap,cur,e1,_⟩
 ·exact ⟨none,0,by rw [e1,e]⟩
 ·exact ⟨_,_,e1⟩
theorem XM.shM (h:XM W r g m st):∃ a c,m.mark=.slice a st.mark.length c:=by
 rcases h.row.mark.2 with ⟨e1,e⟩|⟨g,cap,cur,e1,_⟩
 ·exact ⟨none,0,by rw [e1,e]⟩
 ·exact ⟨_,_,e1⟩
theorem XM.shR (h:XM W r g m st):∃ a c,m.ref=.slice a st.ref.length c:=by
 rcases h.row.ref.2 with ⟨e1,e⟩|⟨g,cap,cur,e1,_⟩
 ·exact ⟨none,0,by rw [e1,e]⟩
 ·exact ⟨_,_,e1⟩
theorem XM.shO (h:XM W r g m st):∃ a c,m.opn=.slice a st.ks.length c:=by
 rcases h.row.opn.2 with ⟨e1,e⟩|⟨g,cap,cur,e1,_⟩
 ·exact ⟨none,0,by rw [e1,e]⟩
 ·exact ⟨_,_,e1⟩
theorem XM.pushH (h:XM W r g m st) {v v':Value} {l:List UInt8} (hT:m.held=v)(hb:Below W.heap.size W W1)(hg:W1.grownBy W2 v.ownBlock)(ho:Own W2 (r+1) v' (st.held++l))(hat:v'.ownBlock=v.ownBlock∨v'.ownBlock=some W1.heap.size)(hl:st.held.length+l.length≤16384) :
  XP W r g m (.inr {st with held:=st.held++l}) (.returned (.tuple #[])) (W2.setCell ⟨r,3,none⟩ v'):=by
 subst hT
 have hlt:=h.lt
 have hll:=World.ownsRow.lt h.row.held
 have F:TdF r m.held W (W2.setCell ⟨r,3,none⟩ v'):=((TdF.refl.then hb (Nat.le_of_lt hlt)).grown hg (by have:=hb.size;omega) (fun k hk=>by have:=(hll k hk).1;omega)).set 3 _
 have hr2:XdB W2 r (st.xv g m):=(h.rd.same (hb.block r hlt)).same (hg.block r (by have:=hb.size;omega) (fun q=>by have:=(hll r q.symm).1;omega))
 have ob:OB W m.held v':=by
  rcases hat with e|e
  ·exact Or.inl e
  ·exact Or.inr fun k hk=>by rw [e] at hk;cases hk;exact hb.size
 exact ⟨XF.ofHeld h F,rfl,{m with held:=v' },h.ofHeld F (hr2.set 3 _ _ rfl) (own_of ho fun k hk _=>Below.heap_setCell _ _ _ _ (by have:=(World.ownsRow.lt ho k hk).1;show k≠r;omega)) (by simpa using hl) ob,⟨OB.refl _ _,ob,OB.refl _ _,OB.refl _ _⟩⟩
theorem XM.pushR (h:XM W r g m st) {v v':Value} {l:List UInt8} (hT:m.ref=v)(hb:Below W.heap.size W W1)(hg:W1.grownBy W2 v.ownBlock)(ho:Own W2 (r+1) v' (st.ref++l))(hat:v'.ownBlock=v.ownBlock∨v'.ownBlock=some W1.heap.size)(hl:st.ref.length+l.length≤10) :
  XP W r g m (.inr {st with ref:=st.ref++l}) (.returned (.tuple #[])) (W2.setCell ⟨r,4,none⟩ v'):=by
 subst hT
 have hlt:=h.lt
 have hll:=World.ownsRow.lt h.row.ref
 have F:TdF r m.ref W (W2.setCell ⟨r,4,none⟩ v'):=((TdF.refl.then hb (Nat.le_of_lt hlt)).grown hg (by have:=hb.size;omega) (fun k hk=>by have:=(hll k hk).1;omega)).set 4 _
 have hr2:XdB W2 r (st.xv g m):=(h.rd.same (hb.block r hlt)).same (hg.block r (by have:=hb.size;omega) (fun q=>by have:=(hll r q.symm).1;omega))
 have ob:OB W m.ref v':=by
  rcases hat with e|e
  ·exact Or.inl e
  ·exact Or.inr fun k hk=>by rw [e] at hk;cases hk;exact hb.size
 exact ⟨XF.ofRef h F,rfl,{m with ref:=v' },h.ofRef F (hr2.set 4 _ _ rfl) (own_of ho fun k hk _=>Below.heap_setCell _ _ _ _ (by have:=(World.ownsRow.lt ho k hk).1;show k≠r;omega)) (by simpa using hl) ob,⟨OB.refl _ _,OB.refl _ _,ob,OB.refl _ _⟩⟩
theorem XM.pushM (h:XM W r g m st) {v v':Value} {l:List UInt8} (hT:m.mark=v)(hb:Below W.heap.size W W1)(hg:W1.grownBy W2 v.ownBlock)(ho:Own W2 (r+1) v' (st.mark++l))(hat:v'.ownBlock=v.ownBlock∨v'.ownBlock=some W1.heap.size)(hl:st.mark.length+l.length≤13) :
  XP W r g m (.inr {st with mark:=st.mark++l}) (.returned (.tuple #[])) (W2.setCell ⟨r,1,none⟩ v'):=by
 subst hT
 have hlt:=h.lt
 have hll:=World.ownsRow.lt h.row.mark
 have F:TdF r m.mark W (W2.setCell ⟨r,1,none⟩ v'):=((TdF.refl.then hb (Nat.le_of_lt hlt)).grown hg (by have:=hb.size;omega) (fun k hk=>by have:=(hll k hk).1;omega)).set 1 _
 have hr2:XdB W2 r (st.xv g m):=(h.rd.same (hb.block r hlt)).same (hg.block r (by have:=hb.size;omega) (fun q=>by have:=(hll r q.symm).1;omega))
 have ob:OB W m.mark v':=by
  rcases hat with e|e
  ·exact Or.inl e
  ·exact Or.inr fun k hk=>by rw [e] at hk;cases hk;exact hb.size
 exact ⟨XF.ofMark h F,rfl,{m with mark:=v' },h.ofMark F (hr2.set 1 _ _ rfl) (own_of ho fun k hk _=>Below.heap_setCell _ _ _ _ (by have:=(World.ownsRow.lt ho k hk).1;show k≠r;omega)) (by simpa using hl) ob,⟨ob,OB.refl _ _,OB.refl _ _,OB.refl _ _⟩⟩
theorem XM.pushO (h:XM W r g m st) {v v':Value} {k:Int} (hT:m.opn=v)(hb:Below W.heap.size W W1)(hg:W1.grownBy W2 v.ownBlock)(ho:W2.ownsRow (r+1) 64 1 v' (st.ks.length+1) (st.ks.map (Value.int .i64)++[.int .i64 k]))(hl:st.ks.length+1≤st.t.n) :
  XP W r g m (.inr {st with ks:=st.ks++[k]}) (.returned (.tuple #[])) (W2.setCell ⟨r,5,none⟩ v'):=by
 subst hT
 have hlt:=h.lt
 have hll:=World.ownsRow.lt h.row.opn
 have F:TdF r m.opn W (W2.setCell ⟨r,5,none⟩ v'):=((TdF.refl.then hb (Nat.le_of_lt hlt)).grown hg (by have:=hb.size;omega) (fun k hk=>by have:=(hll k hk).1;omega)).set 5 _
 have hr2:XdB W2 r (st.xv g m):=(h.rd.same (hb.block r hlt)).same (hg.block r (by have:=hb.size;omega) (fun q=>by have:=(hll r q.symm).1;omega))
 refine ⟨XF.ofOpn h F,rfl,{m with opn:=v' },h.ofOpn F (hr2.set 5 _ _ rfl) ?_ (by simpa using hl),⟨OB.refl _ _,OB.refl _ _,OB.refl _ _,OB.refl _ _⟩⟩
 unfold OwnK
 rw [List.length_append,List.length_singleton,List.map_append]
 exact own_of ho fun k hk _=>Below.heap_setCell _ _ _ _ (by have:=(World.ownsRow.lt ho k hk).1;show k≠r;omega)
set_option maxRecDepth 100000 in
theorem hold_x (h:XM W r g m st)(x:ByteArray)(hx:x.size≤1000):Calls Tryz.prog 90 #[.pointer (some ⟨r,2,none⟩),.string x] W fun e w'=>XP W r g m (holdS st (bl x)) e w':=by
 have hlt:=h.lt
 obtain ⟨a,c,hv⟩:=h.shH
 have c3:W.cell? ⟨r,3,none⟩=some (.slice a st.held.length c):=(h.rd.cell 3).trans (by rw [←hv];rfl)
 have f3:W.frozen? ⟨r,3,none⟩=false:=h.rd.frz 3
 have c2:W.cell? ⟨r,2,none⟩=some (.int .i64 st.rk):=(h.rd.cell 2).trans rfl
 have O:=h.row.held
 rw [hv] at O
 have hl:=h.row.hl
 have H:=hide h
 have Hv:=hide hv
 have O':=hide O
 have MO:=hide (fun w=>most_q st.rk w)
 have mk:=mostK_le st.rk
 have hbl:=hide (bl_length x)
 clear h hv O
 obtain ⟨mx,hmx⟩:∃ mx,mostK st.rk=mx:=⟨_,rfl⟩
 unfold holdS
 rw [hmx] at MO mk ⊢
 clear hmx
 rw [hbl.out]
 have hw:IntKind.i64.wrap ((st.held.length:Int)+(x.size:Int))=(st.held.length:Int)+(x.size:Int):=by rw [IntKind.wrap_i64] <;> omega
 by_cases hbig:mx<st.held.length+x.size
 ·rw [if_pos hbig]
  have hb2:(mx:Int)<(st.held.length:Int)+(x.size:Int):=by omega
  clear hbig
  go_enter Tryz.func90, Tryz.ntmps90
  go_wp2_with fail
  go_region_with (go_at_call 116;refine (MO.out _).mono ?_;rintro e w1 ⟨rfl,hw1⟩;have hws:=hw1.symm;clear hw1;subst hws)
  all_goals
   go_wp2_with fail
   exact ⟨rfl,XP.base H.out (by repeat (first|exact Below.refl _ _|refine Below.drew ?_|refine below_al ?_)) ((H.out.then (by repeat (first|exact Below.refl _ _|refine Below.drew ?_|refine below_al ?_))).fail 2)⟩
 ·rw [if_neg hbig]
  have hb2:¬ (mx:Int)<(st.held.length:Int)+(x.size:Int):=by omega
  have hl5:Hid (st.held.length+(bl x).length≤16384):=by show _≤_;rw [hbl.out];omega
  have hl6:st.held.length+x.size≤100000:=by omega
  clear hbig
  go_enter Tryz.func90, Tryz.ntmps90
  go_wp2_with fail
  go_region_with (go_at_call 116;refine (MO.out _).mono ?_;rintro e w1 ⟨rfl,hw1⟩;have hws:=hw1.symm;clear hw1;subst hws)
  all_goals
   go_wp2_with (at_builtin;refine Sto.out ?_)
   refine Sto.mk ?_
   refine app_str2 rfl (.tmp 23) (.tmp 24) rfl (r+1) (.slice a st.held.length c) st.held rfl (own_of O'.out fun k hk hl=>(show Below W.heap.size W _ from (by repeat (first|exact Below.refl _ _|refine Below.drew ?_|refine below_al ?_))).block k hl) x rfl (by omega) (by simp;omega) ?_
   intro v' w' ho hg hat
   have P5:=hide (H.out.pushH (l:=bl x) Hv.out (by repeat (first|exact Below.refl _ _|refine Below.drew ?_|refine below_al ?_)) hg.out ho.out hat.out hl5.out)
   have K5:XdB w' r _:=(H.out.then (by repeat (first|exact Below.refl _ _|refine Below.drew ?_|refine below_al ?_))).rd.same (hg.out.block r (by simp;omega) (fun e=>by have:=(World.ownsRow.lt O'.out r e.symm).1;omega))
   have l3:=(K5.cell 3).trans (show _=some (.slice a st.held.length c) by rw [←Hv.out];rfl)
   have n3:w'.frozen? ⟨r,3,none⟩=false:=K5.frz 3
   obtain ⟨a2,n2,c2,rfl⟩:∃ a2 n2 c2,v'=.slice a2 n2 c2:=by
    rcases ho.out.2 with ⟨rfl,e⟩|⟨g,cap,cur,rfl,_⟩
    ·exact ⟨_,_,_,rfl⟩
    ·exact ⟨_,_,_,rfl⟩
   clear c3 f3 K5
   go_wp2_with fail
   go_end0
   exact P5.out
set_option maxRecDepth 100000 in
theorem takeRow_q (h:XM W r g m st):Calls Tryz.prog 129 #[.pointer (some ⟨r,0,none⟩)] W fun e w'=>e=.returned (.string (mkB st.held))∧XP W r g m (.inr (row0 st)) (.returned (.tuple #[])) w':=by
 have hlt:=h.lt
 obtain ⟨a,c,hv⟩:=h.shH
 have c3:W.cell? ⟨r,3,none⟩=some (.slice a st.held.length c):=(h.rd.cell 3).trans (by rw [←hv];rfl)
 have c2:W.cell? ⟨r,2,none⟩=some (.int .i64 st.rk):=(h.rd.cell 2).trans rfl
 have c4:W.cell? ⟨r,4,none⟩=some m.ref:=(h.rd.cell 4).trans rfl
 have f2:W.frozen? ⟨r,2,none⟩=false:=h.rd.frz 2
 have f3:W.frozen? ⟨r,3,none⟩=false:=h.rd.frz 3
 have f4:W.frozen? ⟨r,4,none⟩=false:=h.rd.frz 4
 have O:=h.row.held
 rw [hv] at O
 have hcv:=own_conv O
 obtain ⟨ra,rc,hr⟩:=h.shR
 rw [hr] at c4
 have H:=hide h
 clear h hv O hr
 go_enter Tryz.func129, Tryz.ntmps129
 go_wp2
 go_ret
 refine ⟨rfl,?_⟩
 have O3:TdO r W (((W.setCell ⟨r,2,none⟩ (.int .i64 0)).setCell ⟨r,3,none⟩ (.slice none 0 0)).setCell ⟨r,4,none⟩ (.slice none 0 0)):=((TdO.refl.set 2 _).set 3 _).set 4 _
 have R3:=(((H.out.rd.set 2 (.int .i64 0) (({st with rk:=0}:Xs).xv g m) rfl).set 3 (.slice none 0 0) (({st with rk:=0,held:=[]}:Xs).xv g {m with held:=.slice none 0 0}) rfl).set 4 (.slice none 0 0) ((row0 st).xv g {m with held:=.slice none 0 0,ref:=.slice none 0 0}) rfl)
 have h:=H.out
 exact ⟨XF.ofO h O3,rfl,{m with held:=.slice none 0 0,ref:=.slice none 0 0},h.blk O3 R3 ⟨h.row.mark,own_nil _ _,own_nil _ _,h.row.opn,(fun k _ e=>by cases e),(fun k _ e=>by cases e),(fun k e=>by cases e),h.row.ml,Nat.zero_le _,Nat.zero_le _,h.row.kl⟩ rfl rfl,⟨OB.refl _ _,Or.inr (fun k e=>by cases e),Or.inr (fun k e=>by cases e),OB.refl _ _⟩⟩
end
theorem infoKi:(Tryz.prog.info? 64).map (fun i=>(i.zero,i.size,i.bytes))=some (some (.int .i64 0),1,8):=by kernel_rfl
theorem step_k {w:World} {ops:Array Oper} {o:Oper} {a:Act} {K:Act→World→Prop} {Q:Exit→Act→World→Prop} {E:Prop} (hgd:o.guard=none)(s x:Operand)(ho:o.op=.call {callee:=.builtin .append,args:=#[s,x],argTypes:=#[67,67]})
  (B:Nat) (v:Value) (n:Nat) (xs:List Value)(hs:a.eval s=v)(hown:w.ownsRow B 64 1 v n xs) (ad:Addr) (c:Nat)(hx:a.eval x=.slice (some ad) 1 c) (k:Int)
  (hnews:∀ j u,[Value.int .i64 k][j]?=some u→w.cell? (ad.add j)=some u)(hm:n≤300000)(hB:B≤w.heap.size)
  (h:∀ av c' w',Hid (w'.ownsRow B 64 1 (.slice av (n+1) c') (n+1) (xs++[.int .i64 k]))→Hid (w.grownBy w' v.ownBlock)→K (a.put o.dst (.slice av (n+1) c')) w') :
  if Region.wanted o (yielded ops a.tmps)=true then Oper.wp Tryz.prog o a w K Q else E:=by
 have hw:Region.wanted o (yielded ops a.tmps)=true:=by simp [Region.wanted,hgd]
 rw [if_pos hw]
 obtain ⟨i0,hi,hz0,hz1,hz2⟩:=info_parts infoKi
 obtain ⟨v',w',hr,h1,h2,h3,h4⟩:=run_append_own_at (P:=Tryz.prog) w B 67 o.type 64 i0 _ 1 8 Tryz.underlying67 hi hz0 hz1 hz2 rfl (by decide) v n xs hown ad 1 c [.int .i64 k] rfl hnews (by
  intro u hu
  simp only [List.mem_cons,List.not_mem_nil,or_false] at hu
  subst hu;rfl) (by unfold maxLen;omega) (by omega) hB
 unfold Oper.wp execOp
 simp only [ho,resolve,invoke,builtin,Sem.run_bind,Sem.run_pure,Result.andThen_ok,List.map_toArray,List.map_cons,List.map_nil,hs,hx,hr]
 have h1':=h1
 rcases h1.2 with ⟨rfl,e⟩|⟨g',cap,cur,rfl,_⟩
 ·omega
 ·exact h _ _ w' h1' h2
theorem news1 (w W:World)(T:TypeId)(k:Int)(hW:W.heap=(w.alloc (.cells #[.int .i64 k] T)).heap):∀ j u,[Value.int .i64 k][j]?=some u→W.cell? ((⟨w.heap.size,0,none⟩:Addr).add j)=some u:=by
 intro j u hj
 rw [show W.cell? ((⟨w.heap.size,0,none⟩:Addr).add j)=(w.alloc (.cells #[.int .i64 k] T)).cell? ((⟨w.heap.size,0,none⟩:Addr).add j) by unfold World.cell?;rw [hW]]
 exact cell_one_new w _ T j u hj
section
variable {W W1 W2 : World} {r : Nat} {g : Tg} {m m1 : Xm} {st : Xs}
theorem EB.kind {W:World} {q:Nat} {e:Hd} (h:EB W q e):W.cell? ⟨q,0,none⟩=some (.int .i64 e.kind):=h.cells.1
set_option maxRecDepth 100000 in
theorem begin_q (h:XM W r g m st)(e:Hd)(hz:EvZ e)(hn:st.t.n≤200000):Calls Tryz.prog 108 #[.pointer (some ⟨r,0,none⟩),.agg (evs e)] W fun q w'=>XP W r g m (beginS st e) q w':=by
 have H:=hide h
 have E0:=hide (EB.new W e)
 have T:Hid (∀ w (hb:Below W.heap.size W w),EB w W.heap.size e→Calls Tryz.prog 128 #[.pointer (some ⟨g.t,0,none⟩),.agg (evs e)] w fun q w'=>XP w r g m (liftT st (tellT 100 st.t e)) q w'∧EB w' W.heap.size e):=fun w hb hE=>(tell_x (h.then hb) e hz hn).mono fun q w' hp=>⟨hp,XF.ebN hp.1 h hE⟩
 have hlt:=h.lt
 have c0:W.cell? ⟨r,0,none⟩=some (.pointer (some ⟨g.t,0,none⟩)):=(h.rd.cell 0).trans rfl
 have c0A:∀ o,(W.alloc o).cell? ⟨r,0,none⟩=some (.pointer (some ⟨g.t,0,none⟩)):=fun o=>((h.then (below_al (o:=o) (Below.refl W.heap.size W))).rd.cell 0).trans rfl
 have kl:=hide (Nat.le_trans h.row.kl hn)
 have kl2:=hide h.row.kl
 clear h hz hn
 simp only [evs] at T E0 ⊢
 go_enter Tryz.func108, Tryz.ntmps108
 go_wp2_with fail
 go_region_with (go_at_call 128;refine (T.out _ (by repeat (first|exact Below.refl _ _|refine Below.drew ?_|refine below_al ?_)) (E0.out.below (by repeat (first|exact Below.refl _ _|refine Below.drew ?_|refine below_al ?_)))).mono ?_;rintro q w1 ⟨hp,hE1⟩;rcases ht:tellT 100 st.t e with E|x;(rw [ht] at hp;obtain ⟨hp1,rfl,hp2⟩:=hp;have K:Hid (XP W r g m (beginS st e) (.panicked (pan E)) w1):=(by show XP _ _ _ _ _ _ _;unfold beginS;rw [ht];exact XP.base (o:=.inl E) H.out (by repeat (first|exact Below.refl _ _|refine Below.drew ?_|refine below_al ?_)) ⟨hp1,rfl,hp2⟩);(first|exact ⟨rfl,K.out⟩|(go_simp;exact ⟨rfl,K.out⟩)|(unfold Exit.inBlock;exact ⟨rfl,K.out⟩)));rw [ht] at hp;obtain ⟨hp1,rfl,m1,hp2,hp3⟩:=hp;have hE:Hid (beginS st e=.inr {st with t:=x,ks:=st.ks++[e.kind],filled:=false}):=(by show _=_;unfold beginS;rw [ht];rfl);have hx:=hide (tellT_n ht);have F1:Hid (XF g m W w1):=(XF.of (by repeat (first|exact Below.refl _ _|refine Below.drew ?_|refine below_al ?_)) H.out.low).trans (OMx.refl _ _) hp1;have M1:=hide hp2;have O1:Hid (OMx W m m1):=(OMx.refl _ _).trans hp3 (show Below W.heap.size W _ from (by repeat (first|exact Below.refl _ _|refine Below.drew ?_|refine below_al ?_))).size;have E1:=hide hE1;have k0:=hE1.kind;clear hp1 hp2 hp3 ht hE1)
 all_goals
  obtain ⟨ta,tc,hT⟩:=M1.out.shO
  have hT':=hide hT
  have j5:w1.cell? ⟨r,5,none⟩=some (.slice ta st.ks.length tc):=(M1.out.rd.cell 5).trans (by rw [←hT];rfl)
  have j5A:∀ o,(w1.alloc o).cell? ⟨r,5,none⟩=some (.slice ta st.ks.length tc):=fun o=>((M1.out.then (W1:=w1.alloc o) (below_al (Below.refl _ _))).rd.cell 5).trans (by rw [←hT];rfl)
  have k0A:∀ o,(w1.alloc o).cell? ⟨W.heap.size,0,none⟩=some (.int .i64 e.kind):=fun o=>(E1.out.below (W1:=w1.alloc o) (below_al (Below.refl _ _))).kind
  have OT:Hid (w1.ownsRow (r+1) 64 1 (.slice ta st.ks.length tc) st.ks.length (st.ks.map (Value.int .i64))):=by
   have:=M1.out.row.opn
   unfold OwnK at this
   rw [hT] at this
   exact this
  have r2:=M1.out.lt
  have hkl:st.ks.length≤200000:=kl.out
  have hkn:Hid (st.ks.length+1≤x.n):=by show _≤_;rw [hx.out];exact Nat.succ_le_succ kl2.out
  clear hT
  go_wp2_with fail
  go_region_law (refine step_k rfl (.tmp 14) (.tmp 17) rfl (r+1) (.slice ta st.ks.length tc) st.ks.length (st.ks.map (Value.int .i64)) rfl (own_of OT.out fun k hk hlt=>(show Below w1.heap.size w1 _ from (by repeat (first|exact Below.refl _ _|refine Below.drew ?_|refine below_al ?_))).block k hlt) ⟨w1.heap.size,0,none⟩ 1 rfl e.kind (news1 w1 _ _ e.kind rfl) (by omega) (by simp;omega) ?_;intro av5 c5 w5 ho5 hg5;have P5:=hide (M1.out.pushO (k:=e.kind) hT'.out (by repeat (first|exact Below.refl _ _|refine Below.drew ?_|refine below_al ?_)) hg5.out ho5.out hkn.out);have K5:XdB w5 r _:=((M1.out.then (by repeat (first|exact Below.refl _ _|refine Below.drew ?_|refine below_al ?_))).rd.same (hg5.out.block r (by simp;omega) (fun e=>by have:=(World.ownsRow.lt OT.out r e.symm).1;omega)));have l5:=(K5.cell 5).trans (show _=some (.slice ta st.ks.length tc) by rw [←hT'.out];rfl);have n5:w5.frozen? ⟨r,5,none⟩=false:=K5.frz 5;have l6:=(K5.cell 6).trans (show _=some (.bool st.filled) from rfl);have n6:w5.frozen? ⟨r,6,none⟩=false:=K5.frz 6)
  all_goals
   go_wp2_with fail
   go_end0
   rw [hE.out]
   refine XP.trans F1.out O1.out ?_
   obtain ⟨pf,_,m2,pm,po⟩:=P5.out
   exact XP.trans pf po (pm.setF false)
end
end Go.Proofs.YthodiandebahdaaGreatDoor
