/- Merged by program: YdChars, YnVal. -/
import Derived.Test.YthodiandebahdaaGreatDoorZy15
namespace Go.Proofs.YthodiandebahdaaGreatDoor
open Go.RowKit
set_option linter.unusedSimpArgs false
set_option linter.unusedVariables false
set_option maxHeartbeats 8000000
set_option maxRecDepth 100000 in
theorem xchars_any (a s b:ByteArray) (ha:a.size≤1000) (hs:s.size≤281474976710656) (hb:b.size≤1000) (W:World) (gz:Gz W) (A:List UInt8) (i:Nat) (hi8:8≤i) (h:WB W i A) (hA:A.length≤65536) :
  Calls Tryz.prog 45 #[.agg #[.pointer (some ⟨i,0,none⟩)],.string a,.string s,.string b] W fun e w'=>WO i A (bl a++(xeL (bl s)++bl b)) W e w':=by
 have h':=hide h
 have hlt:=h.lt
 have X0:=hide (fun o=>h.below (below_al (o:=o) (Below.refl W.heap.size W)))
 have N0:Hid (∀ o,NB W.heap.size (W.alloc o) i):=fun o=>NB.new h
 have F0:Hid (∀ o,FW i W (W.alloc o)):=fun o=>FW.al (FW.refl _ _) hlt
 have R0:=hide (Rx.new W i)
 have hA':=hide hA
 have gz':=hide gz
 have ha':=hide (show a.size≤281474976710656 by omega)
 have hb':=hide (show b.size≤281474976710656 by omega)
 have hi8':=hide hi8
 clear h hA gz ha hb hi8
 go_enter Tryz.func45, Tryz.ntmps45
 go_wp2_with (go_at_call 40;refine Sto.out ?_)
 refine Sto.mk ((put_any a _ _ i (X0.out _) hA'.out ha'.out).mono ?_)
 rintro e w1 hw
 have kp:=hide (hw.1.kept (N0.out _))
 have hw2:=WO.step (A:=A) (T:=[]) (F0.out _) (by simpa using hw)
 clear hw
 rcases hw2 with ⟨rfl,g1,g2,g3⟩|⟨rfl,g1,g2⟩
 ·have F1:=hide g1
  have X1:Hid (WB w1 i (A++bl a)):=by show WB _ _ _;simpa using g2
  have L1:Hid ((A++bl a).length≤65536):=by show _≤_;simpa using g3
  have R1:=hide (R0.out.of kp.out.1)
  have N1:=hide kp.out.2
  clear g1 g2 g3 kp
  have cp:=R1.out.cell
  go_wp2_with fail
  go_loopw [15] (fun j wr=>∃ k:Nat,j=.int .i64 k∧k≤s.size∧Hid (FW i W wr∧WB wr i (A++(bl a++xeL ((bl s).take k)))∧(A++(bl a++xeL ((bl s).take k))).length≤65536∧Rx wr W.heap.size i∧NB W.heap.size wr i)) (fun j _=>s.size - (intOf j).toNat)
  case atStart=>exact ⟨0,rfl,Nat.zero_le _,hide ⟨F1.out,by simpa [xeL] using X1.out,by simpa [xeL] using L1.out,R1.out,N1.out⟩⟩
  case round =>
   obtain ⟨k,rfl,hk,HH⟩:=hrel
   obtain ⟨hF,hX,hL,hR,hN⟩:=HH.out
   have FR:=hide hF
   have XR:=hide hX
   have LR:=hide hL
   have RR:=hide hR
   have NR:=hide hN
   clear HH hF hX hL hR hN F1 X1 L1 R1 N1 cp
   have cp:=RR.out.cell
   by_cases hkl:k<s.size
   ·have hki:(k:Int)<(s.size:Int):=by omega
    have hk63:(k:Int)<9223372036854775807:=by omega
    have hk1:(k:Int) + 1≤(s.size:Int):=by omega
    have hv:IntKind.i64.wrap ((k:Int) + 1)=(k:Int) + 1:=by rw [IntKind.wrap_i64] <;> omega
    obtain ⟨c,hc⟩:∃ c,s[k]=c:=⟨_,rfl⟩
    have hex:=byte_str s k hkl
    rw [hc] at hex
    have hst:=hide (show xeL ((bl s).take (k + 1))=xeL ((bl s).take k)++xeB c by rw [List.take_succ_eq_append_getElem (by rw [bl_length];exact hkl),xeL_snoc,bl_get s k hkl,hc])
    have ch:=hide (fun w (hb:Below wr.heap.size wr w)=>(xchr_any c w ((gz'.out.low FR.out.1 hi8'.out).low hb (gz'.out.low FR.out.1 hi8'.out).low8) _ i (XR.out.below hb) LR.out).mono (fun e w2 hw=>show (e=.returned (.tuple #[])∧FW i W w2∧WB w2 i (A++(bl a++xeL ((bl s).take (k + 1))))∧(A++(bl a++xeL ((bl s).take (k + 1)))).length≤65536∧Rx w2 W.heap.size i∧NB W.heap.size w2 i)∨(e=.panicked (pan 2)∧WO i A (bl a++(xeL (bl s)++bl b)) W (.panicked (pan 2)) w2) from by
     have kp0:=(FW.of hb XR.out.lt).kept NR.out
     have kp:=hw.1.kept kp0.2
     have hw2:=WO.step (A:=A) (T:=bl a++xeL ((bl s).take k)) (FR.out.trans (FW.of hb XR.out.lt)) hw
     rcases hw2 with ⟨e1,g1,g2,g3⟩|⟨e1,g1,g2⟩
     ·refine Or.inl ⟨e1,g1,?_,?_,(RR.out.of kp0.1).of kp.1,kp.2⟩
      ·rw [hst.out];simpa only [List.append_assoc] using g2
      ·rw [hst.out];simpa only [List.append_assoc] using g3
     ·refine Or.inr ⟨e1,WO.pre (A:=A) (T:=bl a++xeL ((bl s).take k)++xeB c) (U:=bl a++(xeL (bl s)++bl b)) g1 ?_ g2⟩
      have e:xeL (bl s)=xeL ((bl s).take (k + 1))++xeL ((bl s).drop (k + 1)):=by rw [←xeL_app,List.take_append_drop]
      rw [e,hst.out]
      simp only [List.append_assoc]
      exact ⟨xeL ((bl s).drop (k + 1))++bl b,by simp only [List.append_assoc]⟩))
    rw [←hex] at ch
    go_wp2_with fail
    clear hki hk63 hk1 hex hc hst
    go_region_with (go_at_call 75;refine (ch.out _ (by repeat (first|exact Below.refl _ _|refine Below.drew ?_|refine below_al ?_))).mono ?_;rintro e w2 (⟨rfl,q⟩|⟨rfl,q⟩);rotate_left;(first|exact ⟨rfl,q⟩|(go_simp;exact ⟨rfl,q⟩)|(unfold Exit.inBlock;exact ⟨rfl,q⟩));have K:=hide q;clear q)
    all_goals
     go_wp2_with fail
     exact ⟨⟨k + 1,by go_num,hkl,K⟩,by simp [intOf];omega⟩
   ·have hki:¬ ((k:Int)<(s.size:Int)):=by omega
    have hfull:=hide (show (bl s).take k=bl s from List.take_of_length_le (by rw [bl_length];omega))
    rw [hfull.out] at XR LR
    go_wp2_with (go_at_call 40;refine Sto.out ?_)
    refine Sto.mk ((put_any b _ wr i XR.out LR.out hb'.out).mono ?_)
    rintro e w2 hw
    have hw2:=WO.step (A:=A) (T:=bl a++xeL (bl s)) FR.out hw
    clear hw
    rcases hw2 with ⟨rfl,g1,g2,g3⟩|⟨rfl,g1,g2⟩
    ·have K:Hid (WO i A (bl a++(xeL (bl s)++bl b)) W (.returned (.tuple #[])) w2):=⟨g1,Or.inl ⟨by simpa using g3,rfl,by simpa using g2⟩⟩
     clear g1 g2 g3
     go_wp2_with fail
     go_end0
     exact K.out
    ·have K:=hide (WO.pre (A:=A) (T:=bl a++xeL (bl s)++bl b) (U:=bl a++(xeL (bl s)++bl b)) g1 (by simp) g2)
     clear g1 g2
     go_wp2_with fail
     exact ⟨rfl,K.out⟩
 ·have K:=hide (WO.pre (A:=A) (T:=[]++bl a) (U:=bl a++(xeL (bl s)++bl b)) g1 (by simp) g2)
  clear g1 g2 kp
  go_wp2_with fail
  exact ⟨rfl,K.out⟩
def xtx:(n:Nat)→VT n→List UInt8
 | 0,_=>[]
 | n + 1,x =>
  if x.1.kind=1 then mNull else if x.1.kind=2 then xflg x.1.flag else if x.1.kind=3 then mNum++(printL x.1.neg (bl x.1.dig) x.1.exp++mNumE)
  else if x.1.kind=4 then mFloat++(bl (fhexS x.1.bits.toNat)++mFloatE) else if x.1.kind=5 then mText++(xeL (bl x.1.text)++mTextE) else if x.1.kind=6 then mBytes++(hexL (bl x.1.text)++mBytesE)
  else if x.1.kind=7 then mList++(((List.range x.2.length).map fun i=>(x.2[i]?).elim [] (xtx n)).flatten++mListE)
  else if x.1.kind=8 then mRec++(((List.range x.2.length).map fun i=>mField++(xeL (bl ((x.1.names[i]?).getD ByteArray.empty))++(mNameE++((x.2[i]?).elim [] (xtx n)++mFieldE)))).flatten++mRecE)
  else mTag++(xeL (bl x.1.text)++(mNameE++((x.2[0]?).elim [] (xtx n)++mTagE)))
def xel (n:Nat) (l:List (VT n)) (k:Nat):List UInt8:=((List.range k).map fun i=>(l[i]?).elim [] (xtx n)).flatten
def xrc (n:Nat) (ns:List ByteArray) (l:List (VT n)) (k:Nat):List UInt8:=((List.range k).map fun i=>mField++(xeL (bl ((ns[i]?).getD ByteArray.empty))++(mNameE++((l[i]?).elim [] (xtx n)++mFieldE)))).flatten
theorem xel_succ (n:Nat) (l:List (VT n)) (k:Nat) (hk:k<l.length):xel n l (k + 1)=xel n l k++xtx n l[k]:=by
 simp [xel,List.range_succ,hk]
theorem xrc_succ (n:Nat) (ns:List ByteArray) (l:List (VT n)) (k:Nat) (hk:k<l.length) (hn:k<ns.length):xrc n ns l (k + 1)=xrc n ns l k++(mField++(xeL (bl ns[k])++(mNameE++(xtx n l[k]++mFieldE)))):=by
 simp [xrc,List.range_succ,hk,hn]
theorem xel_le (n:Nat) (l:List (VT n)) {k:Nat} (hk:k≤l.length):xel n l k <+: xel n l l.length:=by
 obtain ⟨d,hd⟩:=Nat.exists_eq_add_of_le hk
 rw [hd]
 unfold xel
 rw [List.range_add,List.map_append,List.flatten_append]
 exact List.prefix_append _ _
theorem xrc_le (n:Nat) (ns:List ByteArray) (l:List (VT n)) {k m:Nat} (hk:k≤m):xrc n ns l k <+: xrc n ns l m:=by
 obtain ⟨d,hd⟩:=Nat.exists_eq_add_of_le hk
 rw [hd]
 unfold xrc
 rw [List.range_add,List.map_append,List.flatten_append]
 exact List.prefix_append _ _
theorem pre_apx {M T V U X:List UInt8} (h:T++V <+: U):M++T <+: M++(U++X):=by
 obtain ⟨t,ht⟩:=h
 exact ⟨V++t++X,by rw [←ht];simp⟩
structure Vx (n:Nat) (x:VT n) (ns ls:Value) (w0:World) (i:Nat) (W:World):Prop where
 rd:RD n w0 x ns ls
 vo:Vo n x
 lo:w0.heap.size≤i
 be:Below w0.heap.size w0 W
 tab:Tab w0.heap.size w0
 gz:Gz w0
theorem Vx.gzW {n:Nat} {x:VT n} {ns ls:Value} {w0 W:World} {i:Nat} (h:Vx n x ns ls w0 i W):Gz W:=h.gz.low h.be h.gz.low8
theorem Vx.i8 {n:Nat} {x:VT n} {ns ls:Value} {w0 W:World} {i:Nat} (h:Vx n x ns ls w0 i W):8≤i:=Nat.le_trans h.gz.low8 h.lo
def ValX (n:Nat):Prop:=∀ (x:VT n) (ns ls:Value) (w0 W:World) (i:Nat) (A:List UInt8),Vx n x ns ls w0 i W→WB W i A→A.length≤65536 →
 Calls Tryz.prog 25 #[.agg #[.pointer (some ⟨i,0,none⟩)],.agg (vals (vhd n x) ns ls)] W fun e w'=>WO i A (xtx n x) W e w'
set_option maxRecDepth 100000 in
theorem xlist_any (n:Nat) (vo:ValX n) (h:Hd) (l:List (VT n)) (ns ls:Value) (w0 W:World) (i:Nat) (A:List UInt8) (hc:Vx (n + 1) ((h,l):VT (n + 1)) ns ls w0 i W) (hW:WB W i A) (hA:A.length≤65536) :
  Calls Tryz.prog 47 #[.agg #[.pointer (some ⟨i,0,none⟩)],ls] W fun e w'=>WO i A (mList++(xel n l l.length++mListE)) W e w':=by
 have hiW:=hW.lt
 have X0:=hide (fun o=>hW.below (below_al (o:=o) (Below.refl W.heap.size W)))
 have N0:Hid (∀ o,NB W.heap.size (W.alloc o) i):=fun o=>NB.new hW
 have F0:Hid (∀ o,FW i W (W.alloc o)):=fun o=>FW.al (FW.refl _ _) hiW
 have R0:=hide (Rx.new W i)
 have hW':=hide hW
 have hA':=hide hA
 have hc':=hide hc
 have vo':=hide vo
 have hloi:=hc.lo
 obtain ⟨al,cl,rfl,hl1,hl2⟩:=hc.rd.len
 have hl256:l.length≤256:=hc.vo.2.1.2.1
 simp only at hl1 hl2
 clear vo hc hW hA
 go_enter Tryz.func47, Tryz.ntmps47
 go_wp2_with (go_at_call 40;refine Sto.out ?_)
 refine Sto.mk ((put_any _ A _ i (X0.out _) hA'.out (by decide)).mono ?_)
 rintro e w1 hw1
 replace hw1:WO i A mList _ e w1:=hw1
 have kp:=hide (hw1.1.kept (N0.out _))
 have hw2:=WO.step (A:=A) (T:=[]) (F0.out _) (by simpa using hw1)
 clear hw1
 rcases hw2 with ⟨rfl,g1,g2,g3⟩|⟨rfl,g1,g2⟩
 ·have F1:=hide g1
  have X1:Hid (WB w1 i (A++mList)):=g2
  have L1:Hid ((A++mList).length≤65536):=g3
  have R1:=hide (R0.out.of kp.out.1)
  have N1:=hide kp.out.2
  clear g1 g2 g3 kp
  have cp:=R1.out.cell
  go_wp2_with fail
  go_loopw [11] (fun j wr=>∃ k:Nat,j=.int .i64 k∧k≤l.length∧Hid (FW i W wr∧WB wr i (A++(mList++xel n l k))∧(A++(mList++xel n l k)).length≤65536∧Rx wr W.heap.size i∧NB W.heap.size wr i)) (fun j _=>l.length - (intOf j).toNat)
  case atStart=>exact ⟨0,rfl,Nat.zero_le _,hide ⟨F1.out,by simpa [xel] using X1.out,by have:=L1.out;simpa [xel] using this,R1.out,N1.out⟩⟩
  case round =>
   obtain ⟨k,rfl,hk,HH⟩:=hrel
   obtain ⟨hF,hX,hL,hR,hN⟩:=HH.out
   have FR:=hide hF
   have XR:=hide hX
   have LR:=hide hL
   have RR:=hide hR
   have NR:=hide hN
   have hiw:=hX.lt
   have hqw:=hN.1
   clear HH hF hX hL hR hN F1 X1 L1 R1 N1 cp
   by_cases hkl:k<l.length
   ·have hki:(k:Int)<(l.length:Int):=by omega
    obtain ⟨b,o,c,he,hbl,hlc,hcm2,ns',ls',hrg,hrd⟩:=hc'.out.rd.at k hkl
    have he':=Value.slice.inj he
    obtain ⟨rfl,_,rfl⟩:=he'
    clear he
    have BR:Hid (Below w0.heap.size w0 wr):=hc'.out.be.trans (FR.out.1.mono hloi)
    obtain ⟨e0,e1,e2,e3,e4,e5,e6,e7,e8⟩:=range9 (rangeAt_below hrg BR.out hbl)
    obtain ⟨a1,m1,d1,a2,m2,d2,rfl,rfl⟩:=hrd.shape
    have hsu:=hide (xel_succ n l k hkl)
    have hpr:=hide (xel_le n l (k:=k + 1) hkl)
    have vk:=hide (fun W (b:Below w0.heap.size w0 W) A (x:WB W i A) (a:A.length≤65536)=>vo'.out l[k] _ _ w0 W i A ⟨hrd,hc'.out.vo.kid k hkl,hloi,b,hc'.out.tab,hc'.out.gz⟩ x a)
    obtain ⟨g,hg⟩:∃ g,vhd n l[k]=g:=⟨_,rfl⟩
    have hg2:vhd n ((h,l):VT (n + 1)).2[k]=g:=hg
    rw [hg2] at e0 e1 e2 e3 e4 e5 e6
    rw [hg] at vk
    simp only [vals] at vk
    have hblw:b<wr.heap.size:=Nat.lt_of_lt_of_le hbl BR.out.size
    have B2:=hide (fun o=>below_al (o:=o) (Below.refl wr.heap.size wr))
    have R2:=hide (fun o=>RR.out.of ((B2.out o).block _ hqw))
    have cp:=RR.out.cell
    have cpA:=fun o=>(R2.out o).cell
    have N2:Hid (∀ o,NB W.heap.size (wr.alloc o) i):=fun o=>((FW.of (B2.out o) hiw).kept NR.out).2
    clear hrg hrd hg hg2
    go_wp2_with (go_at_call 25;refine Sto.out ?_)
    refine Sto.mk ((vk.out _ (BR.out.trans ((B2.out _).mono BR.out.size)) _ (XR.out.below (B2.out _)) LR.out).mono ?_)
    rintro e w5 hw5
    have kp:=hide (hw5.1.kept (N2.out _))
    have hR5:=hide ((R2.out _).of kp.out.1)
    have hw6:=WO.step (A:=A) (T:=mList++xel n l k) (FR.out.trans (FW.of (B2.out _) hiw)) hw5
    clear hw5 e0 e1 e2 e3 e4 e5 e6 e7 e8
    rcases hw6 with ⟨rfl,g1,g2,g3⟩|⟨rfl,g1,g2⟩
    ·have K:=hide (show FW i W w5∧WB w5 i (A++(mList++xel n l (k + 1)))∧(A++(mList++xel n l (k + 1))).length≤65536∧Rx w5 W.heap.size i∧NB W.heap.size w5 i by rw [hsu.out];exact ⟨g1,by simpa using g2,by simpa using g3,hR5.out,kp.out.2⟩)
     clear g1 g2 g3 kp
     go_wp2_with fail
     exact ⟨⟨k + 1,by go_num,hkl,K⟩,by simp [intOf];omega⟩
    ·have K:=hide (WO.pre (A:=A) (T:=mList++xel n l (k + 1)) (U:=mList++(xel n l l.length++mListE)) g1 (pre_apx (V:=[]) (by simpa using hpr.out)) (by rw [hsu.out];simpa using g2))
     clear g1 g2 kp
     go_wp2_with fail
     exact ⟨rfl,K.out⟩
   ·have hki:¬ ((k:Int)<(l.length:Int)):=by omega
    have hke:k=l.length:=by omega
    subst hke
    have cp:=RR.out.cell
    go_wp2_with (go_at_call 40;refine Sto.out ?_)
    refine Sto.mk ((put_any _ _ wr i XR.out LR.out (by decide)).mono ?_)
    rintro e w2 hw2
    replace hw2:WO i (A++(mList++xel n l l.length)) mListE wr e w2:=hw2
    have H3:=hide (WO.trans (A:=A) (T:=mList++xel n l l.length) FR.out (by have:=LR.out;simp only [List.length_append] at this ⊢;omega) hw2)
    rcases hw2 with ⟨_,⟨_,rfl,_⟩|⟨_,rfl⟩⟩
    ·go_wp2_with fail
     go_end0
     simpa only [List.append_assoc] using H3.out
    ·go_wp2_with fail
     refine ⟨rfl,?_⟩
     simpa only [List.append_assoc] using H3.out
 ·have K:=hide (WO.pre (A:=A) (T:=mList) (U:=mList++(xel n l l.length++mListE)) g1 (List.prefix_append _ _) g2)
  clear g1 g2 kp
  go_wp2_with fail
  exact ⟨rfl,K.out⟩
set_option maxRecDepth 100000 in
theorem xrec_any (n:Nat) (vo:ValX n) (h:Hd) (l:List (VT n)) (ns ls:Value) (w0 W:World) (i:Nat) (A:List UInt8) (hc:Vx (n + 1) ((h,l):VT (n + 1)) ns ls w0 i W) (h8:h.kind=8) (hW:WB W i A) (hA:A.length≤65536) :
  Calls Tryz.prog 48 #[.agg #[.pointer (some ⟨i,0,none⟩)],.agg (vals h ns ls)] W fun e w'=>WO i A (mRec++(xrc n h.names l l.length++mRecE)) W e w':=by
 have hiW:=hW.lt
 have B0:=hide (fun o1 o2=>below_al (o:=o2) (below_al (o:=o1) (Below.refl W.heap.size W)))
 have X0:=hide (fun o1 o2=>hW.below (B0.out o1 o2))
 have F0:Hid (∀ o1 o2,FW i W ((W.alloc o1).alloc o2)):=fun o1 o2=>FW.of (B0.out o1 o2) hiW
 have N0:Hid (∀ o1 o2,NB W.heap.size ((W.alloc o1).alloc o2) i):=fun o1 o2=>((FW.al (FW.refl i (W.alloc o1)) (by simp;omega)).kept (NB.new hW)).2
 have N0v:Hid (∀ o1 o2,NB (W.heap.size + 1) ((W.alloc o1).alloc o2) i):=fun o1 o2=>by
  have:=NB.new (o:=o2) (hW.below (below_al (o:=o1) (Below.refl W.heap.size W)))
  rw [World.size_alloc] at this
  exact this
 have R0:Hid (∀ o2,Rx ((W.alloc (.cells #[.pointer (some ⟨i,0,none⟩)] 56)).alloc o2) W.heap.size i):=fun o2=>(Rx.new W i).of (Below.heap_alloc _ _ _ (by simp))
 have hW':=hide hW
 have hA':=hide hA
 have hc':=hide hc
 have vo':=hide vo
 have hloi:=hc.lo
 obtain ⟨al,cl,rfl,hl1,hl2⟩:=hc.rd.len
 obtain ⟨an,cn,rfl,hn1,hn2⟩:=hc.rd.1.len
 have hl256:l.length≤256:=hc.vo.2.1.2.1
 have hnl:h.names.length=l.length:=(hc.vo.1.2.1.2.2.1 h8).1
 have hnl':=hide hnl
 have hnm:=hide hc.vo.2.1.2.2.1
 have gzW:=hide hc.gzW
 have i8:=hide hc.i8
 simp only at hl1 hl2 hn1 hn2
 have V0:Hid (∀ o1,Bx ((W.alloc o1).alloc (.cells (vals h (.slice an h.names.length cn) (.slice al l.length cl)) 29)) (W.heap.size + 1) h (.slice an h.names.length cn) (.slice al l.length cl)):=fun o1=>by
  have:=bx_new (W.alloc o1) h (.slice an h.names.length cn) (.slice al l.length cl)
  rw [World.size_alloc] at this
  exact this
 simp only [vals] at V0
 clear vo hc hW hA h8 hnl
 show Calls _ _ #[_,.agg #[.int .i64 h.kind,.bool h.flag,.bool h.neg,.string h.dig,.int .i64 h.exp,.int .u64 h.bits,.string h.text,.slice an h.names.length cn,.slice al l.length cl]] _ _
 go_enter Tryz.func48, Tryz.ntmps48
 go_wp2_with (go_at_call 40;refine Sto.out ?_)
 refine Sto.mk ((put_any _ A _ i (X0.out _ _) hA'.out (by decide)).mono ?_)
 rintro e w1 hw1
 replace hw1:WO i A mRec _ e w1:=hw1
 have kp:=hide (hw1.1.kept (N0.out _ _))
 have kv:=hide (hw1.1.kept (N0v.out _ _))
 have hw2:=WO.step (A:=A) (T:=[]) (F0.out _ _) (by simpa using hw1)
 clear hw1
 rcases hw2 with ⟨rfl,g1,g2,g3⟩|⟨rfl,g1,g2⟩
 ·have F1:=hide g1
  have X1:Hid (WB w1 i (A++mRec)):=g2
  have L1:Hid ((A++mRec).length≤65536):=g3
  have R1:Hid (Rx w1 W.heap.size i):=(R0.out _).of kp.out.1
  have N1:Hid (NB W.heap.size w1 i):=kp.out.2
  have V1:Hid (Bx w1 (W.heap.size + 1) h (.slice an h.names.length cn) (.slice al l.length cl)):=(V0.out _).nb (i:=i) kv.out.1
  have N1v:Hid (NB (W.heap.size + 1) w1 i):=kv.out.2
  obtain ⟨v0,v1,v2,v3,v4,v5,v6,v7,v8⟩:=V1.out.cells
  clear g1 g2 g3 kp kv
  have cp:=R1.out.cell
  go_wp2_with fail
  go_loopw [12] (fun j wr=>∃ k:Nat,j=.int .i64 k∧k≤h.names.length∧Hid (FW i W wr∧WB wr i (A++(mRec++xrc n h.names l k))∧(A++(mRec++xrc n h.names l k)).length≤65536∧Rx wr W.heap.size i∧NB W.heap.size wr i∧Bx wr (W.heap.size + 1) h (.slice an h.names.length cn) (.slice al l.length cl)∧NB (W.heap.size + 1) wr i)) (fun j _=>h.names.length - (intOf j).toNat)
  case atStart=>exact ⟨0,rfl,Nat.zero_le _,hide ⟨F1.out,by simpa [xrc] using X1.out,by have:=L1.out;simpa [xrc] using this,R1.out,N1.out,V1.out,N1v.out⟩⟩
  case round =>
   obtain ⟨k,rfl,hk,HH⟩:=hrel
   obtain ⟨hF,hX,hL,hR,hN,hV,hNv⟩:=HH.out
   have FR:=hide hF
   have XR:=hide hX
   have LR:=hide hL
   have RR:=hide hR
   have NR:=hide hN
   have VR:=hide hV
   have NV:=hide hNv
   have hiw:=hX.lt
   clear HH hF hX hL hR hN hV hNv F1 X1 L1 R1 N1 V1 N1v cp v0 v1 v2 v3 v4 v5 v6 v7 v8
   have cp:=RR.out.cell
   by_cases hkn:k<h.names.length
   ·have hkl:k<l.length:=by have:=hnl'.out;omega
    have hki:(k:Int)<(h.names.length:Int):=by omega
    have hkli:(k:Int)<(l.length:Int):=by omega
    obtain ⟨b,o,c,he,hbl,hlc,hcm2,ns',ls',hrg,hrd⟩:=hc'.out.rd.at k hkl
    have he':=Value.slice.inj he
    obtain ⟨rfl,_,rfl⟩:=he'
    clear he
    obtain ⟨bn,on,cn',hen,hbn,hln,hcn,hsn⟩:=hc'.out.rd.1.at k hkn
    have hen':=Value.slice.inj hen
    obtain ⟨rfl,_,rfl⟩:=hen'
    clear hen
    obtain ⟨t,htt⟩:∃ t,h.names[k]=t:=⟨_,rfl⟩
    have hsn2:Hid (w0.cell? ⟨bn,on + k,none⟩=some (.string t)):=by show _=_;rw [←htt];exact hsn
    have htz:=hide (show t.size≤64 by rw [←htt];exact hnm.out _ (List.getElem_mem hkn))
    have BR:Hid (Below w0.heap.size w0 wr):=hc'.out.be.trans (FR.out.1.mono hloi)
    have s0:wr.cell? ⟨bn,on + k,none⟩=some (.string t):=(BR.out.cell (p:=⟨bn,on + k,none⟩) hbn).trans hsn2.out
    obtain ⟨a1,m1,d1,a2,m2,d2,rfl,rfl⟩:=hrd.shape
    have hsu:=hide (xrc_succ n h.names l k hkl hkn)
    rw [htt] at hsu
    have hpr:=hide (xrc_le n h.names l (k:=k + 1) (m:=l.length) hkl)
    rw [hsu.out] at hpr
    have vk:=hide (fun W (b:Below w0.heap.size w0 W) A (x:WB W i A) (a:A.length≤65536)=>vo'.out l[k] _ _ w0 W i A ⟨hrd,hc'.out.vo.kid k hkl,hloi,b,hc'.out.tab,hc'.out.gz⟩ x a)
    obtain ⟨g,hg⟩:∃ g,vhd n l[k]=g:=⟨_,rfl⟩
    have hg2:vhd n ((h,l):VT (n + 1)).2[k]=g:=hg
    rw [hg] at vk
    simp only [vals] at vk
    have HRG:=hide hrg
    rw [hg2] at HRG
    have hbnw:bn<wr.heap.size:=Nat.lt_of_lt_of_le hbn BR.out.size
    have CH:=hide (xchars_any ⟨#[60,102,105,101,108,100,32,110,97,109,101,61,34]⟩ t ⟨#[34,62]⟩ (by decide) (by have:=htz.out;omega) (by decide) wr (gzW.out.low FR.out.1 i8.out) _ i i8.out XR.out LR.out)
    clear hrg hrd hg hg2 hsn htt
    go_wp2_with (go_at_call 45;refine Sto.out ?_)
    refine Sto.mk (CH.out.mono ?_)
    rintro e w3 hw3
    replace hw3:WO i (A++(mRec++xrc n h.names l k)) (mField++(xeL (bl t)++mNameE)) wr e w3:=hw3
    have kp3:=hide (hw3.1.kept NR.out)
    have kv3:=hide (hw3.1.kept NV.out)
    have hw4:=WO.step (A:=A) (T:=mRec++xrc n h.names l k) FR.out hw3
    clear hw3 s0 CH
    rcases hw4 with ⟨rfl,g1,g2,g3⟩|⟨rfl,g1,g2⟩
    ·have F3:=hide g1
     have X3:=hide g2
     have L3:=hide g3
     have R3:=hide (RR.out.of kp3.out.1)
     have N3:=hide kp3.out.2
     have V3:=hide (VR.out.nb (i:=i) kv3.out.1)
     have N3v:=hide kv3.out.2
     have B3:Hid (Below w0.heap.size w0 w3):=hc'.out.be.trans (F3.out.1.mono hloi)
     obtain ⟨v0,v1,v2,v3,v4,v5,v6,v7,v8⟩:=V3.out.cells
     obtain ⟨e0,e1,e2,e3,e4,e5,e6,e7,e8⟩:=range9 (rangeAt_below HRG.out B3.out hbl)
     clear g1 g2 g3 kp3 kv3 cp
     have cp:=R3.out.cell
     have VK:Hid (∀ w,Below w3.heap.size w3 w→Calls Tryz.prog 25 #[.agg #[.pointer (some ⟨i,0,none⟩)],.agg #[.int .i64 g.kind,.bool g.flag,.bool g.neg,.string g.dig,.int .i64 g.exp,.int .u64 g.bits,.string g.text,.slice a1 m1 d1,.slice a2 m2 d2]] w fun e w5=>(e=.returned (.tuple #[])∧FW i W w5∧WB w5 i (A++(mRec++xrc n h.names l k++(mField++(xeL (bl t)++mNameE))++xtx n l[k]))∧(A++(mRec++xrc n h.names l k++(mField++(xeL (bl t)++mNameE))++xtx n l[k])).length≤65536∧Rx w5 W.heap.size i∧NB W.heap.size w5 i∧Bx w5 (W.heap.size + 1) h (.slice (some ⟨bn,on,none⟩) h.names.length cn) (.slice (some ⟨b,o,none⟩) l.length cl)∧NB (W.heap.size + 1) w5 i)∨(e=.panicked (pan 2)∧WO i A (mRec++(xrc n h.names l l.length++mRecE)) W (.panicked (pan 2)) w5)):=fun w hb=>(vk.out w (B3.out.trans (hb.mono B3.out.size)) _ (X3.out.below hb) L3.out).mono (by
      intro e w5 hw5
      have k0:=(FW.of hb X3.out.lt).kept N3.out
      have k0v:=(FW.of hb X3.out.lt).kept N3v.out
      have kp5:=hw5.1.kept k0.2
      have kv5:=hw5.1.kept k0v.2
      have hw6:=WO.step (A:=A) (F3.out.trans (FW.of hb X3.out.lt)) hw5
      rcases hw6 with ⟨e1,g1,g2,g3⟩|⟨e1,g1,g2⟩
      ·exact Or.inl ⟨e1,g1,g2,g3,(R3.out.of k0.1).of kp5.1,kp5.2,(V3.out.nb (i:=i) k0v.1).nb (i:=i) kv5.1,kv5.2⟩
      ·exact Or.inr ⟨e1,WO.pre (A:=A) (T:=mRec++(xrc n h.names l k++(mField++(xeL (bl t)++(mNameE++xtx n l[k]))))) (U:=mRec++(xrc n h.names l l.length++mRecE)) g1 (pre_apx (V:=mFieldE) (by simpa using hpr.out)) (by simpa only [List.append_assoc] using g2)⟩)
     have hblw:b<w3.heap.size:=Nat.lt_of_lt_of_le hbl B3.out.size
     clear hki
     go_wp2_with fail
     go_region_with (go_at_call 25;refine (VK.out _ (by repeat (first|exact Below.refl _ _|refine Below.drew ?_|refine below_al ?_))).mono ?_;rintro e w5 (⟨rfl,q⟩|⟨rfl,q⟩);rotate_left;(first|exact ⟨rfl,q⟩|(go_simp;exact ⟨rfl,q⟩)|(unfold Exit.inBlock;exact ⟨rfl,q⟩));have G5:=hide q;clear q)
     all_goals
      obtain ⟨g1,g2,g3,g4,g5,g6,g7⟩:=G5.out
      have F5:=hide g1
      have X5:=hide g2
      have L5:=hide g3
      have R5:=hide g4
      have N5:=hide g5
      have V5:=hide g6
      have N5v:=hide g7
      clear g1 g2 g3 g4 g5 g6 g7 G5 v0 v1 v2 v3 v4 v5 v6 v7 v8 e0 e1 e2 e3 e4 e5 e6 e7 e8 cp
      have cp:=R5.out.cell
      go_wp2_with (go_at_call 40;refine Sto.out ?_)
      refine Sto.mk ((put_any _ _ w5 i X5.out L5.out (by decide)).mono ?_)
      rintro e w7 hw7
      replace hw7:WO i (A++(mRec++xrc n h.names l k++(mField++(xeL (bl t)++mNameE))++xtx n l[k])) mFieldE w5 e w7:=hw7
      have kp7:=hide (hw7.1.kept N5.out)
      have kv7:=hide (hw7.1.kept N5v.out)
      have hw8:=WO.step (A:=A) F5.out hw7
      clear hw7
      rcases hw8 with ⟨rfl,g1,g2,g3⟩|⟨rfl,g1,g2⟩
      ·have K:Hid (FW i W w7∧WB w7 i (A++(mRec++xrc n h.names l (k + 1)))∧(A++(mRec++xrc n h.names l (k + 1))).length≤65536∧Rx w7 W.heap.size i∧NB W.heap.size w7 i∧Bx w7 (W.heap.size + 1) h (.slice (some ⟨bn,on,none⟩) h.names.length cn) (.slice (some ⟨b,o,none⟩) l.length cl)∧NB (W.heap.size + 1) w7 i):=by
        refine ⟨g1,?_,?_,R5.out.of kp7.out.1,kp7.out.2,V5.out.nb (i:=i) kv7.out.1,kv7.out.2⟩
        ·rw [hsu.out];simpa only [List.append_assoc] using g2
        ·rw [hsu.out];simpa only [List.append_assoc] using g3
       clear g1 g2 g3 kp7 kv7
       go_wp2_with fail
       exact ⟨⟨k + 1,by go_num,hkn,K⟩,by simp [intOf];omega⟩
      ·have K:=hide (WO.pre (A:=A) (T:=mRec++(xrc n h.names l k++(mField++(xeL (bl t)++(mNameE++(xtx n l[k]++mFieldE)))))) (U:=mRec++(xrc n h.names l l.length++mRecE)) g1 (pre_apx (V:=[]) (by simpa using hpr.out)) (by simpa only [List.append_assoc] using g2))
       clear g1 g2 kp7 kv7
       go_wp2_with fail
       exact ⟨rfl,K.out⟩
    ·have K:=hide (WO.pre (A:=A) (T:=mRec++(xrc n h.names l k++(mField++(xeL (bl t)++mNameE)))) (U:=mRec++(xrc n h.names l l.length++mRecE)) g1 (pre_apx (V:=xtx n l[k]++mFieldE) (by simpa using hpr.out)) (by simpa only [List.append_assoc] using g2))
     clear g1 g2 kp3 kv3
     go_wp2_with fail
     exact ⟨rfl,K.out⟩
   ·have hki:¬ ((k:Int)<(h.names.length:Int)):=by omega
    have hke:k=l.length:=by have:=hnl'.out;omega
    rw [hke] at XR LR
    have hke':=hide hke
    clear hke
    go_wp2_with (go_at_call 40;refine Sto.out ?_)
    refine Sto.mk ((put_any _ _ wr i XR.out LR.out (by decide)).mono ?_)
    rintro e w2 hw2
    replace hw2:WO i (A++(mRec++xrc n h.names l l.length)) mRecE wr e w2:=hw2
    have H3:=hide (WO.trans (A:=A) (T:=mRec++xrc n h.names l l.length) FR.out (by have:=LR.out;simp only [List.length_append] at this ⊢;omega) hw2)
    rcases hw2 with ⟨_,⟨_,rfl,_⟩|⟨_,rfl⟩⟩
    ·go_wp2_with fail
     go_end0
     simpa only [List.append_assoc] using H3.out
    ·go_wp2_with fail
     refine ⟨rfl,?_⟩
     simpa only [List.append_assoc] using H3.out
 ·have K:=hide (WO.pre (A:=A) (T:=mRec) (U:=mRec++(xrc n h.names l l.length++mRecE)) g1 (List.prefix_append _ _) g2)
  clear g1 g2 kp kv
  go_wp2_with fail
  exact ⟨rfl,K.out⟩
end Go.Proofs.YthodiandebahdaaGreatDoor
