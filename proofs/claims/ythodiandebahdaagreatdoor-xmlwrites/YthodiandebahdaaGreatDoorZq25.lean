/- Merged by program: YnVal, LoBase, LpChars. -/
import Derived.Test.YthodiandebahdaaGreatDoorZq24
namespace Go.Proofs.YthodiandebahdaaGreatDoor
open Go.RowKit
set_option linter.unusedSimpArgs false
set_option linter.unusedVariables false
set_option maxHeartbeats 8000000
def xtx:(n:Nat)→VT n→List UInt8
 | 0,_=>[]
 | n+1,x =>
  if x.1.kind=1 then mNull else if x.1.kind=2 then xflg x.1.flag else if x.1.kind=3 then mNum++(printL x.1.neg (bl x.1.dig) x.1.exp++mNumE)
  else if x.1.kind=4 then mFloat++(bl (fhexS x.1.bits.toNat)++mFloatE) else if x.1.kind=5 then mText++(xeL (bl x.1.text)++mTextE) else if x.1.kind=6 then mBytes++(hexL (bl x.1.text)++mBytesE)
  else if x.1.kind=7 then mList++(((List.range x.2.length).map fun i=>(x.2[i]?).elim [] (xtx n)).flatten++mListE)
  else if x.1.kind=8 then mRec++(((List.range x.2.length).map fun i=>mField++(xeL (bl ((x.1.names[i]?).getD ByteArray.empty))++(mNameE++((x.2[i]?).elim [] (xtx n)++mFieldE)))).flatten++mRecE)
  else mTag++(xeL (bl x.1.text)++(mNameE++((x.2[0]?).elim [] (xtx n)++mTagE)))
def xel (n:Nat)(l:List (VT n))(k:Nat):List UInt8:=((List.range k).map fun i=>(l[i]?).elim [] (xtx n)).flatten
def xrc (n:Nat)(ns:List ByteArray)(l:List (VT n))(k:Nat):List UInt8:=((List.range k).map fun i=>mField++(xeL (bl ((ns[i]?).getD ByteArray.empty))++(mNameE++((l[i]?).elim [] (xtx n)++mFieldE)))).flatten
theorem xel_succ (n:Nat)(l:List (VT n))(k:Nat)(hk:k<l.length):xel n l (k+1)=xel n l k++xtx n l[k]:=by
 simp [xel,List.range_succ,hk]
theorem xrc_succ (n:Nat)(ns:List ByteArray)(l:List (VT n))(k:Nat)(hk:k<l.length)(hn:k<ns.length):xrc n ns l (k+1)=xrc n ns l k++(mField++(xeL (bl ns[k])++(mNameE++(xtx n l[k]++mFieldE)))):=by
 simp [xrc,List.range_succ,hk,hn]
theorem xel_le (n:Nat)(l:List (VT n)) {k:Nat} (hk:k≤l.length):xel n l k <+: xel n l l.length:=by
 obtain ⟨d,hd⟩:=Nat.exists_eq_add_of_le hk
 rw [hd]
 unfold xel
 rw [List.range_add,List.map_append,List.flatten_append]
 exact List.prefix_append _ _
theorem xrc_le (n:Nat)(ns:List ByteArray)(l:List (VT n)) {k m:Nat} (hk:k≤m):xrc n ns l k <+: xrc n ns l m:=by
 obtain ⟨d,hd⟩:=Nat.exists_eq_add_of_le hk
 rw [hd]
 unfold xrc
 rw [List.range_add,List.map_append,List.flatten_append]
 exact List.prefix_append _ _
theorem pre_apx {M T V U X:List UInt8} (h:T++V <+: U):M++T <+: M++(U++X):=by
 obtain ⟨t,ht⟩:=h
 exact ⟨V++t++X,by rw [←ht];simp⟩
structure Vx (n:Nat)(x:VT n)(ns ls:Value)(w0:World)(i:Nat)(W:World):Prop where
 rd:RD n w0 x ns ls
 vo:Vo n x
 lo:w0.heap.size≤i
 be:Below w0.heap.size w0 W
 tab:Tab w0.heap.size w0
 gz:Gz w0
theorem Vx.gzW {n:Nat} {x:VT n} {ns ls:Value} {w0 W:World} {i:Nat} (h:Vx n x ns ls w0 i W):Gz W:=h.gz.low h.be h.gz.low8
theorem Vx.i8 {n:Nat} {x:VT n} {ns ls:Value} {w0 W:World} {i:Nat} (h:Vx n x ns ls w0 i W):8≤i:=Nat.le_trans h.gz.low8 h.lo
def ValX (n:Nat):Prop:=∀ (x:VT n)(ns ls:Value)(w0 W:World)(i:Nat)(A:List UInt8),Vx n x ns ls w0 i W→WB W i A→A.length≤65536 →
 Calls Tryz.prog 25 #[.agg #[.pointer (some ⟨i,0,none⟩)],.agg (vals (vhd n x) ns ls)] W fun e w'=>WO i A (xtx n x) W e w'
set_option maxRecDepth 100000 in
theorem xlist_any (n:Nat)(vo:ValX n)(h:Hd)(l:List (VT n))(ns ls:Value)(w0 W:World)(i:Nat)(A:List UInt8)(hc:Vx (n+1) ((h,l):VT (n+1)) ns ls w0 i W)(hW:WB W i A)(hA:A.length≤65536) :
  Calls Tryz.prog 47 #[.agg #[.pointer (some ⟨i,0,none⟩)],ls] W fun e w'=>WO i A (mList++(xel n l l.length++mListE)) W e w':=by
 have hiW:=hW.lt
 have X0:=hide (fun o=>hW.below (below_al (o:=o) (Below.refl W.heap.size W)))
 have N0:Hid (∀ o,NB W.heap.size (W.alloc o) i):=fun o=>NB.new hW
 have F0:Hid (∀ o,FW i W (W.alloc o)):=fun o=>FW.al (FW.refl _ _) hiW
 have R0:=hide (Rx.new W i)
 have hW':=hide hW
 have hA':=hide hA
 have hc':=hide hc
 have vo':=hide vo
 have hloi:=hc.lo
 obtain ⟨al,cl,rfl,hl1,hl2⟩:=hc.rd.len
 have hl256:l.length≤256:=hc.vo.2.1.2.1
 simp only at hl1 hl2
 clear vo hc hW hA
 go_enter Tryz.func47, Tryz.ntmps47
 go_wp2_with (go_at_call 40;refine Sto.out ?_)
 refine Sto.mk ((put_any _ A _ i (X0.out _) hA'.out (by decide)).mono ?_)
 rintro e w1 hw1
 replace hw1:WO i A mList _ e w1:=hw1
 have kp:=hide (hw1.1.kept (N0.out _))
 have hw2:=WO.step (A:=A) (T:=[]) (F0.out _) (by simpa using hw1)
 clear hw1
 rcases hw2 with ⟨rfl,g1,g2,g3⟩|⟨rfl,g1,g2⟩
 ·have F1:=hide g1
  have X1:Hid (WB w1 i (A++mList)):=g2
  have L1:Hid ((A++mList).length≤65536):=g3
  have R1:=hide (R0.out.of kp.out.1)
  have N1:=hide kp.out.2
  clear g1 g2 g3 kp
  have cp:=R1.out.cell
  go_wp2_with fail
  go_loopw [11] (fun j wr=>∃ k:Nat,j=.int .i64 k∧k≤l.length∧Hid (FW i W wr∧WB wr i (A++(mList++xel n l k))∧(A++(mList++xel n l k)).length≤65536∧Rx wr W.heap.size i∧NB W.heap.size wr i)) (fun j _=>l.length - (intOf j).toNat)
  case atStart=>exact ⟨0,rfl,Nat.zero_le _,hide ⟨F1.out,by simpa [xel] using X1.out,by have:=L1.out;simpa [xel] using this,R1.out,N1.out⟩⟩
  case round =>
   obtain ⟨k,rfl,hk,HH⟩:=hrel
   obtain ⟨hF,hX,hL,hR,hN⟩:=HH.out
   have FR:=hide hF
   have XR:=hide hX
   have LR:=hide hL
   have RR:=hide hR
   have NR:=hide hN
   have hiw:=hX.lt
   have hqw:=hN.1
   clear HH hF hX hL hR hN F1 X1 L1 R1 N1 cp
   by_cases hkl:k<l.length
   ·have hki:(k:Int)<(l.length:Int):=by omega
    obtain ⟨b,o,c,he,hbl,hlc,hcm2,ns',ls',hrg,hrd⟩:=hc'.out.rd.at k hkl
    have he':=Value.slice.inj he
    obtain ⟨rfl,_,rfl⟩:=he'
    clear he
    have BR:Hid (Below w0.heap.size w0 wr):=hc'.out.be.trans (FR.out.1.mono hloi)
    obtain ⟨e0,e1,e2,e3,e4,e5,e6,e7,e8⟩:=range9 (rangeAt_below hrg BR.out hbl)
    obtain ⟨a1,m1,d1,a2,m2,d2,rfl,rfl⟩:=hrd.shape
    have hsu:=hide (xel_succ n l k hkl)
    have hpr:=hide (xel_le n l (k:=k+1) hkl)
    have vk:=hide (fun W (b:Below w0.heap.size w0 W) A (x:WB W i A)(a:A.length≤65536)=>vo'.out l[k] _ _ w0 W i A ⟨hrd,hc'.out.vo.kid k hkl,hloi,b,hc'.out.tab,hc'.out.gz⟩ x a)
    obtain ⟨g,hg⟩:∃ g,vhd n l[k]=g:=⟨_,rfl⟩
    have hg2:vhd n ((h,l):VT (n+1)).2[k]=g:=hg
    rw [hg2] at e0 e1 e2 e3 e4 e5 e6
    rw [hg] at vk
    simp only [vals] at vk
    have hblw:b<wr.heap.size:=Nat.lt_of_lt_of_le hbl BR.out.size
    have B2:=hide (fun o=>below_al (o:=o) (Below.refl wr.heap.size wr))
    have R2:=hide (fun o=>RR.out.of ((B2.out o).block _ hqw))
    have cp:=RR.out.cell
    have cpA:=fun o=>(R2.out o).cell
    have N2:Hid (∀ o,NB W.heap.size (wr.alloc o) i):=fun o=>((FW.of (B2.out o) hiw).kept NR.out).2
    clear hrg hrd hg hg2
    go_wp2_with (go_at_call 25;refine Sto.out ?_)
    refine Sto.mk ((vk.out _ (BR.out.trans ((B2.out _).mono BR.out.size)) _ (XR.out.below (B2.out _)) LR.out).mono ?_)
    rintro e w5 hw5
    have kp:=hide (hw5.1.kept (N2.out _))
    have hR5:=hide ((R2.out _).of kp.out.1)
    have hw6:=WO.step (A:=A) (T:=mList++xel n l k) (FR.out.trans (FW.of (B2.out _) hiw)) hw5
    clear hw5 e0 e1 e2 e3 e4 e5 e6 e7 e8
    rcases hw6 with ⟨rfl,g1,g2,g3⟩|⟨rfl,g1,g2⟩
    ·have K:=hide (show FW i W w5∧WB w5 i (A++(mList++xel n l (k+1)))∧(A++(mList++xel n l (k+1))).length≤65536∧Rx w5 W.heap.size i∧NB W.heap.size w5 i by rw [hsu.out];exact ⟨g1,by simpa using g2,by simpa using g3,hR5.out,kp.out.2⟩)
     clear g1 g2 g3 kp
     go_wp2_with fail
     exact ⟨⟨k+1,by go_num,hkl,K⟩,by simp [intOf];omega⟩
    ·have K:=hide (WO.pre (A:=A) (T:=mList++xel n l (k+1)) (U:=mList++(xel n l l.length++mListE)) g1 (pre_apx (V:=[]) (by simpa using hpr.out)) (by rw [hsu.out];simpa using g2))
     clear g1 g2 kp
     go_wp2_with fail
     exact ⟨rfl,K.out⟩
   ·have hki:¬ ((k:Int)<(l.length:Int)):=by omega
    have hke:k=l.length:=by omega
    subst hke
    have cp:=RR.out.cell
    go_wp2_with (go_at_call 40;refine Sto.out ?_)
    refine Sto.mk ((put_any _ _ wr i XR.out LR.out (by decide)).mono ?_)
    rintro e w2 hw2
    replace hw2:WO i (A++(mList++xel n l l.length)) mListE wr e w2:=hw2
    have H3:=hide (WO.trans (A:=A) (T:=mList++xel n l l.length) FR.out (by have:=LR.out;simp only [List.length_append] at this ⊢;omega) hw2)
    rcases hw2 with ⟨_,⟨_,rfl,_⟩|⟨_,rfl⟩⟩
    ·go_wp2_with fail
     go_end0
     simpa only [List.append_assoc] using H3.out
    ·go_wp2_with fail
     refine ⟨rfl,?_⟩
     simpa only [List.append_assoc] using H3.out
 ·have K:=hide (WO.pre (A:=A) (T:=mList) (U:=mList++(xel n l l.length++mListE)) g1 (List.prefix_append _ _) g2)
  clear g1 g2 kp
  go_wp2_with fail
  exact ⟨rfl,K.out⟩
set_option maxRecDepth 100000 in
theorem xrec_any (n:Nat)(vo:ValX n)(h:Hd)(l:List (VT n))(ns ls:Value)(w0 W:World)(i:Nat)(A:List UInt8)(hc:Vx (n+1) ((h,l):VT (n+1)) ns ls w0 i W)(h8:h.kind=8)(hW:WB W i A)(hA:A.length≤65536) :
  Calls Tryz.prog 48 #[.agg #[.pointer (some ⟨i,0,none⟩)],.agg (vals h ns ls)] W fun e w'=>WO i A (mRec++(xrc n h.names l l.length++mRecE)) W e w':=by
 have hiW:=hW.lt
 have B0:=hide (fun o1 o2=>below_al (o:=o2) (below_al (o:=o1) (Below.refl W.heap.size W)))
 have X0:=hide (fun o1 o2=>hW.below (B0.out o1 o2))
 have F0:Hid (∀ o1 o2,FW i W ((W.alloc o1).alloc o2)):=fun o1 o2=>FW.of (B0.out o1 o2) hiW
 have N0:Hid (∀ o1 o2,NB W.heap.size ((W.alloc o1).alloc o2) i):=fun o1 o2=>((FW.al (FW.refl i (W.alloc o1)) (by simp;omega)).kept (NB.new hW)).2
 have N0v:Hid (∀ o1 o2,NB (W.heap.size+1) ((W.alloc o1).alloc o2) i):=fun o1 o2=>by
  have:=NB.new (o:=o2) (hW.below (below_al (o:=o1) (Below.refl W.heap.size W)))
  rw [World.size_alloc] at this
  exact this
 have R0:Hid (∀ o2,Rx ((W.alloc (.cells #[.pointer (some ⟨i,0,none⟩)] 56)).alloc o2) W.heap.size i):=fun o2=>(Rx.new W i).of (Below.heap_alloc _ _ _ (by simp))
 have hW':=hide hW
 have hA':=hide hA
 have hc':=hide hc
 have vo':=hide vo
 have hloi:=hc.lo
 obtain ⟨al,cl,rfl,hl1,hl2⟩:=hc.rd.len
 obtain ⟨an,cn,rfl,hn1,hn2⟩:=hc.rd.1.len
 have hl256:l.length≤256:=hc.vo.2.1.2.1
 have hnl:h.names.length=l.length:=(hc.vo.1.2.1.2.2.1 h8).1
 have hnl':=hide hnl
 have hnm:=hide hc.vo.2.1.2.2.1
 have gzW:=hide hc.gzW
 have i8:=hide hc.i8
 simp only at hl1 hl2 hn1 hn2
 have V0:Hid (∀ o1,Bx ((W.alloc o1).alloc (.cells (vals h (.slice an h.names.length cn) (.slice al l.length cl)) 29)) (W.heap.size+1) h (.slice an h.names.length cn) (.slice al l.length cl)):=fun o1=>by
  have:=bx_new (W.alloc o1) h (.slice an h.names.length cn) (.slice al l.length cl)
  rw [World.size_alloc] at this
  exact this
 simp only [vals] at V0
 clear vo hc hW hA h8 hnl
 show Calls _ _ #[_,.agg #[.int .i64 h.kind,.bool h.flag,.bool h.neg,.string h.dig,.int .i64 h.exp,.int .u64 h.bits,.string h.text,.slice an h.names.length cn,.slice al l.length cl]] _ _
 go_enter Tryz.func48, Tryz.ntmps48
 go_wp2_with (go_at_call 40;refine Sto.out ?_)
 refine Sto.mk ((put_any _ A _ i (X0.out _ _) hA'.out (by decide)).mono ?_)
 rintro e w1 hw1
 replace hw1:WO i A mRec _ e w1:=hw1
 have kp:=hide (hw1.1.kept (N0.out _ _))
 have kv:=hide (hw1.1.kept (N0v.out _ _))
 have hw2:=WO.step (A:=A) (T:=[]) (F0.out _ _) (by simpa using hw1)
 clear hw1
 rcases hw2 with ⟨rfl,g1,g2,g3⟩|⟨rfl,g1,g2⟩
 ·have F1:=hide g1
  have X1:Hid (WB w1 i (A++mRec)):=g2
  have L1:Hid ((A++mRec).length≤65536):=g3
  have R1:Hid (Rx w1 W.heap.size i):=(R0.out _).of kp.out.1
  have N1:Hid (NB W.heap.size w1 i):=kp.out.2
  have V1:Hid (Bx w1 (W.heap.size+1) h (.slice an h.names.length cn) (.slice al l.length cl)):=(V0.out _).nb (i:=i) kv.out.1
  have N1v:Hid (NB (W.heap.size+1) w1 i):=kv.out.2
  obtain ⟨v0,v1,v2,v3,v4,v5,v6,v7,v8⟩:=V1.out.cells
  clear g1 g2 g3 kp kv
  have cp:=R1.out.cell
  go_wp2_with fail
  go_loopw [12] (fun j wr=>∃ k:Nat,j=.int .i64 k∧k≤h.names.length∧Hid (FW i W wr∧WB wr i (A++(mRec++xrc n h.names l k))∧(A++(mRec++xrc n h.names l k)).length≤65536∧Rx wr W.heap.size i∧NB W.heap.size wr i∧Bx wr (W.heap.size+1) h (.slice an h.names.length cn) (.slice al l.length cl)∧NB (W.heap.size+1) wr i)) (fun j _=>h.names.length - (intOf j).toNat)
  case atStart=>exact ⟨0,rfl,Nat.zero_le _,hide ⟨F1.out,by simpa [xrc] using X1.out,by have:=L1.out;simpa [xrc] using this,R1.out,N1.out,V1.out,N1v.out⟩⟩
  case round =>
   obtain ⟨k,rfl,hk,HH⟩:=hrel
   obtain ⟨hF,hX,hL,hR,hN,hV,hNv⟩:=HH.out
   have FR:=hide hF
   have XR:=hide hX
   have LR:=hide hL
   have RR:=hide hR
   have NR:=hide hN
   have VR:=hide hV
   have NV:=hide hNv
   have hiw:=hX.lt
   clear HH hF hX hL hR hN hV hNv F1 X1 L1 R1 N1 V1 N1v cp v0 v1 v2 v3 v4 v5 v6 v7 v8
   have cp:=RR.out.cell
   by_cases hkn:k<h.names.length
   ·have hkl:k<l.length:=by have:=hnl'.out;omega
    have hki:(k:Int)<(h.names.length:Int):=by omega
    have hkli:(k:Int)<(l.length:Int):=by omega
    obtain ⟨b,o,c,he,hbl,hlc,hcm2,ns',ls',hrg,hrd⟩:=hc'.out.rd.at k hkl
    have he':=Value.slice.inj he
    obtain ⟨rfl,_,rfl⟩:=he'
    clear he
    obtain ⟨bn,on,cn',hen,hbn,hln,hcn,hsn⟩:=hc'.out.rd.1.at k hkn
    have hen':=Value.slice.inj hen
    obtain ⟨rfl,_,rfl⟩:=hen'
    clear hen
    obtain ⟨t,htt⟩:∃ t,h.names[k]=t:=⟨_,rfl⟩
    have hsn2:Hid (w0.cell? ⟨bn,on+k,none⟩=some (.string t)):=by show _=_;rw [←htt];exact hsn
    have htz:=hide (show t.size≤64 by rw [←htt];exact hnm.out _ (List.getElem_mem hkn))
    have BR:Hid (Below w0.heap.size w0 wr):=hc'.out.be.trans (FR.out.1.mono hloi)
    have s0:wr.cell? ⟨bn,on+k,none⟩=some (.string t):=(BR.out.cell (p:=⟨bn,on+k,none⟩) hbn).trans hsn2.out
    obtain ⟨a1,m1,d1,a2,m2,d2,rfl,rfl⟩:=hrd.shape
    have hsu:=hide (xrc_succ n h.names l k hkl hkn)
    rw [htt] at hsu
    have hpr:=hide (xrc_le n h.names l (k:=k+1) (m:=l.length) hkl)
    rw [hsu.out] at hpr
    have vk:=hide (fun W (b:Below w0.heap.size w0 W) A (x:WB W i A)(a:A.length≤65536)=>vo'.out l[k] _ _ w0 W i A ⟨hrd,hc'.out.vo.kid k hkl,hloi,b,hc'.out.tab,hc'.out.gz⟩ x a)
    obtain ⟨g,hg⟩:∃ g,vhd n l[k]=g:=⟨_,rfl⟩
    have hg2:vhd n ((h,l):VT (n+1)).2[k]=g:=hg
    rw [hg] at vk
    simp only [vals] at vk
    have HRG:=hide hrg
    rw [hg2] at HRG
    have hbnw:bn<wr.heap.size:=Nat.lt_of_lt_of_le hbn BR.out.size
    have CH:=hide (xchars_any ⟨#[60,102,105,101,108,100,32,110,97,109,101,61,34]⟩ t ⟨#[34,62]⟩ (by decide) (by have:=htz.out;omega) (by decide) wr (gzW.out.low FR.out.1 i8.out) _ i i8.out XR.out LR.out)
    clear hrg hrd hg hg2 hsn htt
    go_wp2_with (go_at_call 45;refine Sto.out ?_)
    refine Sto.mk (CH.out.mono ?_)
    rintro e w3 hw3
    replace hw3:WO i (A++(mRec++xrc n h.names l k)) (mField++(xeL (bl t)++mNameE)) wr e w3:=hw3
    have kp3:=hide (hw3.1.kept NR.out)
    have kv3:=hide (hw3.1.kept NV.out)
    have hw4:=WO.step (A:=A) (T:=mRec++xrc n h.names l k) FR.out hw3
    clear hw3 s0 CH
    rcases hw4 with ⟨rfl,g1,g2,g3⟩|⟨rfl,g1,g2⟩
    ·have F3:=hide g1
     have X3:=hide g2
     have L3:=hide g3
     have R3:=hide (RR.out.of kp3.out.1)
     have N3:=hide kp3.out.2
     have V3:=hide (VR.out.nb (i:=i) kv3.out.1)
     have N3v:=hide kv3.out.2
     have B3:Hid (Below w0.heap.size w0 w3):=hc'.out.be.trans (F3.out.1.mono hloi)
     obtain ⟨v0,v1,v2,v3,v4,v5,v6,v7,v8⟩:=V3.out.cells
     obtain ⟨e0,e1,e2,e3,e4,e5,e6,e7,e8⟩:=range9 (rangeAt_below HRG.out B3.out hbl)
     clear g1 g2 g3 kp3 kv3 cp
     have cp:=R3.out.cell
     have VK:Hid (∀ w,Below w3.heap.size w3 w→Calls Tryz.prog 25 #[.agg #[.pointer (some ⟨i,0,none⟩)],.agg #[.int .i64 g.kind,.bool g.flag,.bool g.neg,.string g.dig,.int .i64 g.exp,.int .u64 g.bits,.string g.text,.slice a1 m1 d1,.slice a2 m2 d2]] w fun e w5=>(e=.returned (.tuple #[])∧FW i W w5∧WB w5 i (A++(mRec++xrc n h.names l k++(mField++(xeL (bl t)++mNameE))++xtx n l[k]))∧(A++(mRec++xrc n h.names l k++(mField++(xeL (bl t)++mNameE))++xtx n l[k])).length≤65536∧Rx w5 W.heap.size i∧NB W.heap.size w5 i∧Bx w5 (W.heap.size+1) h (.slice (some ⟨bn,on,none⟩) h.names.length cn) (.slice (some ⟨b,o,none⟩) l.length cl)∧NB (W.heap.size+1) w5 i)∨(e=.panicked (pan 2)∧WO i A (mRec++(xrc n h.names l l.length++mRecE)) W (.panicked (pan 2)) w5)):=fun w hb=>(vk.out w (B3.out.trans (hb.mono B3.out.size)) _ (X3.out.below hb) L3.out).mono (by
      intro e w5 hw5
      have k0:=(FW.of hb X3.out.lt).kept N3.out
      have k0v:=(FW.of hb X3.out.lt).kept N3v.out
      have kp5:=hw5.1.kept k0.2
      have kv5:=hw5.1.kept k0v.2
      have hw6:=WO.step (A:=A) (F3.out.trans (FW.of hb X3.out.lt)) hw5
      rcases hw6 with ⟨e1,g1,g2,g3⟩|⟨e1,g1,g2⟩
      ·exact Or.inl ⟨e1,g1,g2,g3,(R3.out.of k0.1).of kp5.1,kp5.2,(V3.out.nb (i:=i) k0v.1).nb (i:=i) kv5.1,kv5.2⟩
      ·exact Or.inr ⟨e1,WO.pre (A:=A) (T:=mRec++(xrc n h.names l k++(mField++(xeL (bl t)++(mNameE++xtx n l[k]))))) (U:=mRec++(xrc n h.names l l.length++mRecE)) g1 (pre_apx (V:=mFieldE) (by simpa using hpr.out)) (by simpa only [List.append_assoc] using g2)⟩)
     have hblw:b<w3.heap.size:=Nat.lt_of_lt_of_le hbl B3.out.size
     clear hki
     go_wp2_with fail
     go_region_with (go_at_call 25;refine (VK.out _ (by repeat (first|exact Below.refl _ _|refine Below.drew ?_|refine below_al ?_))).mono ?_;rintro e w5 (⟨rfl,q⟩|⟨rfl,q⟩);rotate_left;(first|exact ⟨rfl,q⟩|(go_simp;exact ⟨rfl,q⟩)|(unfold Exit.inBlock;exact ⟨rfl,q⟩));have G5:=hide q;clear q)
     all_goals
      obtain ⟨g1,g2,g3,g4,g5,g6,g7⟩:=G5.out
      have F5:=hide g1
      have X5:=hide g2
      have L5:=hide g3
      have R5:=hide g4
      have N5:=hide g5
      have V5:=hide g6
      have N5v:=hide g7
      clear g1 g2 g3 g4 g5 g6 g7 G5 v0 v1 v2 v3 v4 v5 v6 v7 v8 e0 e1 e2 e3 e4 e5 e6 e7 e8 cp
      have cp:=R5.out.cell
      go_wp2_with (go_at_call 40;refine Sto.out ?_)
      refine Sto.mk ((put_any _ _ w5 i X5.out L5.out (by decide)).mono ?_)
      rintro e w7 hw7
      replace hw7:WO i (A++(mRec++xrc n h.names l k++(mField++(xeL (bl t)++mNameE))++xtx n l[k])) mFieldE w5 e w7:=hw7
      have kp7:=hide (hw7.1.kept N5.out)
      have kv7:=hide (hw7.1.kept N5v.out)
      have hw8:=WO.step (A:=A) F5.out hw7
      clear hw7
      rcases hw8 with ⟨rfl,g1,g2,g3⟩|⟨rfl,g1,g2⟩
      ·have K:Hid (FW i W w7∧WB w7 i (A++(mRec++xrc n h.names l (k+1)))∧(A++(mRec++xrc n h.names l (k+1))).length≤65536∧Rx w7 W.heap.size i∧NB W.heap.size w7 i∧Bx w7 (W.heap.size+1) h (.slice (some ⟨bn,on,none⟩) h.names.length cn) (.slice (some ⟨b,o,none⟩) l.length cl)∧NB (W.heap.size+1) w7 i):=by
        refine ⟨g1,?_,?_,R5.out.of kp7.out.1,kp7.out.2,V5.out.nb (i:=i) kv7.out.1,kv7.out.2⟩
        ·rw [hsu.out];simpa only [List.append_assoc] using g2
        ·rw [hsu.out];simpa only [List.append_assoc] using g3
       clear g1 g2 g3 kp7 kv7
       go_wp2_with fail
       exact ⟨⟨k+1,by go_num,hkn,K⟩,by simp [intOf];omega⟩
      ·have K:=hide (WO.pre (A:=A) (T:=mRec++(xrc n h.names l k++(mField++(xeL (bl t)++(mNameE++(xtx n l[k]++mFieldE)))))) (U:=mRec++(xrc n h.names l l.length++mRecE)) g1 (pre_apx (V:=[]) (by simpa using hpr.out)) (by simpa only [List.append_assoc] using g2))
       clear g1 g2 kp7 kv7
       go_wp2_with fail
       exact ⟨rfl,K.out⟩
    ·have K:=hide (WO.pre (A:=A) (T:=mRec++(xrc n h.names l k++(mField++(xeL (bl t)++mNameE)))) (U:=mRec++(xrc n h.names l l.length++mRecE)) g1 (pre_apx (V:=xtx n l[k]++mFieldE) (by simpa using hpr.out)) (by simpa only [List.append_assoc] using g2))
     clear g1 g2 kp3 kv3
     go_wp2_with fail
     exact ⟨rfl,K.out⟩
   ·have hki:¬ ((k:Int)<(h.names.length:Int)):=by omega
    have hke:k=l.length:=by have:=hnl'.out;omega
    rw [hke] at XR LR
    have hke':=hide hke
    clear hke
    go_wp2_with (go_at_call 40;refine Sto.out ?_)
    refine Sto.mk ((put_any _ _ wr i XR.out LR.out (by decide)).mono ?_)
    rintro e w2 hw2
    replace hw2:WO i (A++(mRec++xrc n h.names l l.length)) mRecE wr e w2:=hw2
    have H3:=hide (WO.trans (A:=A) (T:=mRec++xrc n h.names l l.length) FR.out (by have:=LR.out;simp only [List.length_append] at this ⊢;omega) hw2)
    rcases hw2 with ⟨_,⟨_,rfl,_⟩|⟨_,rfl⟩⟩
    ·go_wp2_with fail
     go_end0
     simpa only [List.append_assoc] using H3.out
    ·go_wp2_with fail
     refine ⟨rfl,?_⟩
     simpa only [List.append_assoc] using H3.out
 ·have K:=hide (WO.pre (A:=A) (T:=mRec) (U:=mRec++(xrc n h.names l l.length++mRecE)) g1 (List.prefix_append _ _) g2)
  clear g1 g2 kp kv
  go_wp2_with fail
  exact ⟨rfl,K.out⟩
theorem news_any (w W:World)(l:List UInt8)(T:TypeId)(hW:W.heap=(w.alloc (.cells (bcs l).toArray T)).heap):∀ j u,(bcs l)[j]?=some u→W.cell? ((⟨w.heap.size,0,none⟩:Addr).add j)=some u:=by
 intro j u hj
 have q:W.heap[w.heap.size]?=some (.cells (bcs l).toArray T (0,0)):=by rw [hW];exact heap_alloc_new _ _
 rw [show (⟨w.heap.size,0,none⟩:Addr).add j=⟨w.heap.size,j,none⟩ by unfold Addr.add;split <;> simp_all]
 unfold World.cell?
 rw [q]
 show (bcs l).toArray[j]?=some u
 rw [←hj,List.getElem?_toArray]
theorem app_bs {w:World} {ops:Array Oper} {rest:List Oper} {o:Oper} {a:Act} {Q:Exit→Act→World→Prop} (hgd:o.guard=none)(s x:Operand)(ho:o.op=.call {callee:=.builtin .append,args:=#[s,x],argTypes:=#[32,32]})
  (B:Nat)(v:Value)(l:List UInt8)(hs:a.eval s=v)(hown:Own w B v l)(ad:Addr)(m c:Nat)(news:List UInt8)(hx:a.eval x=.slice (some ad) m c)(hm:news.length=m)
  (hnews:∀ j u,(bcs news)[j]?=some u→w.cell? (ad.add j)=some u)(hl:l.length+m≤110000000000000)(hB:B≤w.heap.size)(hp:0<l.length+m)
  (h:∀ av c' w',Hid (Own w' B (.slice av (l.length+m) c') (l++news))→Hid (Below B w w')→wpList Tryz.prog ops Q rest (a.put o.dst (.slice av (l.length+m) c')) w'):wpList Tryz.prog ops Q (o :: rest) a w:=by
 obtain ⟨i0,hi,hz0,hz1,hz2⟩:=info_parts info5
 refine wpList_append_own_at w hgd s x 32 ho B 5 i0 _ 1 1 Tryz.underlying32 hi hz0 hz1 hz2 rfl (by decide) v l.length (bcs l) hs hown ad m c (bcs news) hx (by rw [bcs_length,hm];simp) hnews ?_ (by unfold maxLen;omega) (by omega) hB ?_
 ·intro u hu
  simp only [bcs,List.mem_map] at hu
  obtain ⟨c,_,rfl⟩:=hu
  rfl
 ·intro v' w' h1 h2 h3 h4
  have hO:Own w' B v' (l++news):=by unfold Own;rw [bcs_append,List.length_append,hm];exact h1
  rcases h1.2 with ⟨rfl,e⟩|⟨g',cap,cur,rfl,_⟩
  ·omega
  ·exact h _ _ w' hO ((Below.refl B w).grown h2 hB hown.row)
theorem u8n {c:UInt8} {v:Nat} (h:¬ c=UInt8.ofNat v):((c.toNat:Int)==(v:Int))=false:=by
 have:¬ (c.toNat:Int)=(v:Int):=fun e=>h (by
  have:c.toNat=v:=by omega
  rw [←this];simp)
 simpa using this
theorem mkB_cat (a b:List UInt8):mkB a++mkB b=mkB (a++b):=by
 apply ByteArray.ext
 simp [mkB]
theorem cat_run (a b:ByteArray)(c:List UInt8)(hc:bl a++bl b=c)(h:c.length≤281474976710656):∀ w,(Op.stringOp .add a b).run Tryz.prog w=.ok (.string (mkB c)) w:=fun w=>by
 have e:a++b=mkB c:=by
  rw [←mkB_bl a,←mkB_bl b,mkB_cat,hc]
 have hs:a.size+b.size=c.length:=by rw [←bl_length,←bl_length,←hc,List.length_append]
 rw [←e]
 exact run_string_add_sum w _ _ (by omega)
def fsN (l:List Nat):ByteArray:=strOfNums (l.map fun v:Nat=>(v:Int))
theorem fsN_bl (l:List Nat):bl (fsN l)=l.map fun v=>UInt8.ofNat v:=by
 unfold bl fsN
 rw [strOfNums_data,List.map_map]
 apply List.map_congr_left
 intro v _
 show UInt8.ofNat ((v:Int)).toNat=_
 rw [Int.toNat_natCast]
theorem fsN_app (a b:List Nat):fsN a++fsN b=fsN (a++b):=by
 apply ByteArray.ext
 apply Array.toList_inj.1
 show (fsN a++fsN b).data.toList=bl (fsN (a++b))
 rw [fsN_bl,List.map_append,←fsN_bl,←fsN_bl]
 simp [bl]
theorem fsN_size (l:List Nat):(fsN l).size=l.length:=by simp [fsN,strOfNums_size]
theorem fhex_piece (d:Nat)(h:d<16):(⟨#[48,49,50,51,52,53,54,55,56,57,97,98,99,100,101,102]⟩:ByteArray).extract d (d+1)=fsN [fhd d]:=by
 have:d=0∨d=1∨d=2∨d=3∨d=4∨d=5∨d=6∨d=7∨d=8∨d=9∨d=10∨d=11∨d=12∨d=13∨d=14∨d=15:=by omega
 rcases this with rfl|rfl|rfl|rfl|rfl|rfl|rfl|rfl|rfl|rfl|rfl|rfl|rfl|rfl|rfl|rfl <;> rfl
theorem rfhex_any (b:Nat)(w:World)(hb:b<18446744073709551616) :
  Calls Tryz.prog 52 #[.int .u64 b] w fun e w'=>e=.returned (.string (fhexS b))∧w'=w:=by
 go_enter Tryz.func52, Tryz.ntmps52
 go_wp2
 go_loop [0,3,4] (fun x s i=>∃ k:Nat,k≤16∧i=.int .i64 k∧x=.int .u64 (b / 16 ^ k:Nat)∧s=.string (fsN (flowL b k))) (fun x s i=>16 - (intOf i).toNat)
 case atStart=>exact ⟨0,by omega,rfl,by simp,rfl⟩
 case round =>
  obtain ⟨k,hk,rfl,rfl,rfl⟩:=hrel
  obtain ⟨y,hy⟩:∃ y,b / 16 ^ k=y:=⟨_,rfl⟩
  have hyb:y<18446744073709551616:=by rw [←hy];exact Nat.lt_of_le_of_lt (Nat.div_le_self _ _) hb
  have hy1:=hide (show b / 16 ^ (k+1)=y / 16 by rw [Nat.pow_succ,←Nat.div_div_eq_div_mul,hy])
  rw [hy]
  by_cases hlt:k<16
  ·obtain ⟨d,hdd⟩:∃ d,y % 16=d:=⟨_,rfl⟩
   have hd16:d<16:=by omega
   have hlow:=hide (show flowL b (k+1)=fhd d :: flowL b k by simp only [flowL];rw [hy,hdd])
   have hsz:(fsN (flowL b k)).size=k:=by rw [fsN_size,flowL_len]
   have t1:(y:Int).tmod 16=d:=by rw [Int.tmod_eq_emod_of_nonneg (by omega)];omega
   have t2:(y:Int).tdiv 16=((y / 16:Nat):Int):=by rw [Int.tdiv_eq_ediv_of_nonneg (by omega)];omega
   have hY:=hide hy
   have hp:=hide (fhex_piece d hd16)
   clear hy hdd
   go_wp2
   refine ⟨⟨k+1,by omega,by go_num,by rw [hy1.out];rfl,?_⟩,by simp [intOf];omega⟩
   rw [hp.out,fsN_app,hlow.out]
   rfl
  ·have hke:k=16:=by omega
   subst hke
   go_wp2
   go_ret
   exact ⟨rfl,rfl⟩
structure Tw (w:World)(h:Hd)(ns ls:Value)(W:World):Prop where
 bx:Bx W w.heap.size h ns ls
 be:Below w.heap.size w W
theorem Tw.new (w:World)(h:Hd)(ns ls:Value):Tw w h ns ls (w.alloc (.cells (vals h ns ls) 29)):=⟨bx_new w h ns ls,below_al (Below.refl _ _)⟩
theorem Tw.then {w W W1:World} {h:Hd} {ns ls:Value} (t:Tw w h ns ls W)(hb:Below W.heap.size W W1):Tw w h ns ls W1:=⟨t.bx.below hb,t.be.trans (hb.mono t.be.size)⟩
theorem Tw.al {w W:World} {h:Hd} {ns ls:Value} {o:Obj} (t:Tw w h ns ls W):Tw w h ns ls (W.alloc o):=t.then (below_al (Below.refl _ _))
theorem Tw.drew {w W:World} {h:Hd} {ns ls:Value} {d:Nat} (t:Tw w h ns ls W):Tw w h ns ls (W.drewN d):=t.then ⟨rfl,rfl,rfl,Nat.le_refl _,fun _ _=>rfl⟩
theorem Tw.dr {w W:World} {h:Hd} {ns ls:Value} (t:Tw w h ns ls W):Tw w h ns ls W.drew:=t.then (Below.refl _ _).drew
structure To (w:World)(h:Hd)(ns ls:Value)(v:Value)(L:List UInt8)(W:World):Prop where
 tw:Tw w h ns ls W
 own:Own W (w.heap.size+1) v L
section
variable {w W W1 : World} {h : Hd} {ns ls v : Value} {L : List UInt8}
theorem To.then (t:To w h ns ls v L W)(hb:Below W.heap.size W W1):To w h ns ls v L W1:=⟨t.tw.then hb,ownsRow_of t.own fun g _ hlt=>hb.block g hlt⟩
theorem To.al {o:Obj} (t:To w h ns ls v L W):To w h ns ls v L (W.alloc o):=t.then (below_al (Below.refl _ _))
theorem To.drew {d:Nat} (t:To w h ns ls v L W):To w h ns ls v L (W.drewN d):=t.then ⟨rfl,rfl,rfl,Nat.le_refl _,fun _ _=>rfl⟩
theorem To.dr (t:To w h ns ls v L W):To w h ns ls v L W.drew:=t.then (Below.refl _ _).drew
theorem To.on {v':Value} {L':List UInt8} (t:To w h ns ls v L W)(hb:Below (w.heap.size+1) W W1)(ho:Own W1 (w.heap.size+1) v' L'):To w h ns ls v' L' W1 :=
 ⟨⟨⟨(hb.block _ (Nat.lt_succ_self _)).trans t.tw.bx.at_⟩,t.tw.be.trans (hb.mono (Nat.le_succ _))⟩,ho⟩
theorem To.lt (t:To w h ns ls v L W):w.heap.size+1≤W.heap.size:=t.tw.bx.lt
end
theorem app_st {w:World} {ops:Array Oper} {rest:List Oper} {o:Oper} {a:Act} {Q:Exit→Act→World→Prop} (hgd:o.guard=none)(sl x:Operand)(ho:o.op=.call {callee:=.builtin .append,args:=#[sl,x],argTypes:=#[32,9]})
  (B:Nat)(v:Value)(l:List UInt8)(hs:a.eval sl=v)(hown:Own w B v l)(s:ByteArray)(hx:a.eval x=.string s)(hl:l.length+s.size≤110000000000000)(hB:B≤w.heap.size)
  (h:∀ av c' w',Hid (Own w' B (.slice av (l.length+s.size) c') (l++bl s))→Hid (Below B w w')→wpList Tryz.prog ops Q rest (a.put o.dst (.slice av (l.length+s.size) c')) w'):wpList Tryz.prog ops Q (o :: rest) a w:=by
 obtain ⟨i0,hi,hz0,hz1,hz2⟩:=info_parts info5
 refine wpList_plain hgd fun K hK=>?_
 obtain ⟨v',w',hr,h2,h3,h4⟩:=Lib.run_append_own_string (P:=Tryz.prog) w B 32 9 o.type 5 i0 Tryz.underlying32 Tryz.underlying9 hi hz0 hz1 hz2 v l.length (bcs l) hown s (by unfold maxLen;omega) (by omega) hB
 have hO:Own w' B v' (l++bl s):=by
  unfold Own
  rw [bcs_append,List.length_append,bl_length,←strCells_bcs];exact h2
 have hBl:Below B w w':=(Below.refl B w).grown h3 hB (World.ownsRow.lt hown |> fun q k hk=>(q k hk).1)
 have key:wpList Tryz.prog ops Q rest (a.put o.dst v') w':=by
  rcases h2.2 with ⟨rfl,e⟩|⟨g',cap,cur,rfl,_⟩
  ·have e':l.length+s.size=0:=e
   have q:=h none 0 w' (by rw [e'];exact hO) hBl
   rw [e'] at q
   exact q
  ·exact h _ _ w' hO hBl
 unfold Oper.wp execOp
 simp only [ho,resolve,invoke,builtin,Sem.run_bind,Sem.run_pure,Result.andThen_ok,List.map_toArray,List.map_cons,List.map_nil,hs,hx,hr]
 exact hK _ _ key
theorem own_fresh (w:World)(c:UInt8):Own (w.alloc (.cells #[.int .u8 c.toNat] 5)) w.heap.size (.slice (some ⟨w.heap.size,0,none⟩) 1 1) [c] :=
 ⟨rfl,Or.inr ⟨w.heap.size,1,#[.int .u8 c.toNat],rfl,Nat.le_refl _,heap_alloc_new _ _,Nat.le_refl _,by decide,rfl,rfl⟩⟩
theorem sm_piece (d:Nat)(h:d<16):(⟨#[48,49,50,51,52,53,54,55,56,57,97,98,99,100,101,102]⟩:ByteArray).extract d (d+1)=mkB [hx d]:=by
 have:d=0∨d=1∨d=2∨d=3∨d=4∨d=5∨d=6∨d=7∨d=8∨d=9∨d=10∨d=11∨d=12∨d=13∨d=14∨d=15:=by omega
 rcases this with rfl|rfl|rfl|rfl|rfl|rfl|rfl|rfl|rfl|rfl|rfl|rfl|rfl|rfl|rfl|rfl <;> rfl
set_option maxRecDepth 100000 in
theorem fsmall_any (n:Nat)(w:World)(hn:n<32):Calls Tryz.prog 84 #[.int .u8 n] w fun e w'=>e=.returned (.string (mkB (smH n)))∧w'=w:=by
 by_cases h:n<16
 ·have hs:Hid (smH n=[hx n]):=by show _=_;unfold smH;rw [if_pos h]
  have hp:=hide (sm_piece n h)
  have d1:decide ((n:Int)<16)=true:=by simp;omega
  have w1:IntKind.u8.wrap ((n:Int)+1)=(n:Int)+1:=by rw [IntKind.wrap_u8] <;> omega
  go_enter Tryz.func84, Tryz.ntmps84
  go_wp2
  go_ret
  refine ⟨?_,rfl⟩
  rw [hs.out,←hp.out]
  rfl
 ·obtain ⟨m,rfl⟩:∃ m,n=m+16:=⟨n - 16,by omega⟩
  have hm:m<16:=by omega
  have hs:Hid (smH (m+16)=[49,hx m]):=by show _=_;unfold smH;rw [if_neg h,Nat.add_sub_cancel]
  have hp:=hide (sm_piece m hm)
  have d1:decide (((m+16:Nat):Int)<16)=false:=by simp;omega
  have w1:IntKind.u8.wrap (((m+16:Nat):Int) - 16)=(m:Int):=by rw [IntKind.wrap_u8] <;> omega
  have w2:IntKind.u8.wrap (((m+16:Nat):Int) - 15)=(m:Int)+1:=by rw [IntKind.wrap_u8] <;> omega
  have r1:∀ w,(Op.stringOp .add ⟨#[49]⟩ (mkB [hx m])).run Tryz.prog w=.ok (.string (mkB [49,hx m])) w:=cat_run ⟨#[49]⟩ (mkB [hx m]) [49,hx m] rfl (by simp)
  have hp':(⟨#[48,49,50,51,52,53,54,55,56,57,97,98,99,100,101,102]⟩:ByteArray).extract m (m+1)=mkB [hx m]:=hp.out
  obtain ⟨X,hX⟩:∃ X,m+16=X:=⟨_,rfl⟩
  rw [hX] at hs d1 w1 w2 ⊢
  have HX:=hide hX
  clear hX h hn
  go_enter Tryz.func84, Tryz.ntmps84
  go_wp2
  go_ret
  exact ⟨by rw [hs.out];rfl,rfl⟩
set_option maxRecDepth 100000 in
theorem fquote_any (w:World):Calls Tryz.prog 54 #[] w fun e w'=>e=.returned (.string ⟨#[34]⟩)∧Below w.heap.size w w':=by
 have hcv:=own_conv (own_fresh w 34)
 have hcv':(convert 32 9 (.slice (some ⟨w.heap.size,0,none⟩) 1 1)).run Tryz.prog (w.alloc (.cells #[.int .u8 34] 5))=.ok (.string ⟨#[34]⟩) (w.alloc (.cells #[.int .u8 34] 5)):=hcv
 clear hcv
 go_enter Tryz.func54, Tryz.ntmps54
 go_wp2
 go_ret
 exact ⟨rfl,below_al (Below.refl _ _)⟩
theorem smH_le (n:Nat):(smH n).length≤2:=by unfold smH;split <;> simp
theorem xeB_le (c:UInt8):(xeB c).length≤7:=by
 have:=smH_le c.toNat
 unfold xeB
 by_cases h1:c=60
 ·rw [if_pos h1];decide
 rw [if_neg h1]
 by_cases h2:c=38
 ·rw [if_pos h2];decide
 rw [if_neg h2]
 by_cases h3:c=34
 ·rw [if_pos h3];decide
 rw [if_neg h3]
 by_cases h4:c=62
 ·rw [if_pos h4];decide
 rw [if_neg h4]
 by_cases h5:c.toNat<32
 ·rw [if_pos h5,List.length_append,List.length_append];show 3+(_+1)≤7;omega
 rw [if_neg h5];simp
theorem xeL_le (l:List UInt8):(xeL l).length≤7 * l.length:=by
 induction l with
 | nil=>simp [xeL]
 | cons a l ih =>
  have:=xeB_le a
  simp only [xeL,List.flatMap_cons,List.length_append,List.length_cons] at ih ⊢
  omega
set_option maxRecDepth 100000 in
theorem fchars_any (s:ByteArray)(w:World)(hs:s.size≤100000) :
  Calls Tryz.prog 53 #[.string s] w fun e w'=>e=.returned (.string (mkB (xeL (bl s))))∧Below w.heap.size w w':=by
 go_enter Tryz.func53, Tryz.ntmps53
 go_wp2
 go_loopw [3,4] (fun b i W=>∃ (k n:Nat)(a:Option Addr)(cp:Nat)(L:List UInt8),i=.int .i64 k∧b=.slice a n cp∧k≤s.size∧Hid (L=xeL ((bl s).take k)∧n=L.length∧Own W w.heap.size (.slice a n cp) L∧Below w.heap.size w W)) (fun _ i _=>s.size - (intOf i).toNat)
 case atStart=>exact ⟨0,0,none,0,[],rfl,rfl,Nat.zero_le _,hide ⟨rfl,rfl,own_nil _ _,Below.refl _ _⟩⟩
 case round =>
  obtain ⟨k,n,a,cp,L,rfl,rfl,hk,HH⟩:=hrel
  obtain ⟨hL,hn,hO,hB⟩:=HH.out
  have hll:n≤700000:=by
   have:=xeL_le ((bl s).take k)
   rw [List.length_take,bl_length] at this
   rw [hn,hL]
   omega
  have OR:=hide hO
  have BR:=hide hB
  have hn':=hide hn
  have hL':=hide hL
  clear HH hO hB hn hL
  have hln:L.length=n:=hn'.out.symm
  have hln':=hide hln
  clear hln
  have zr1:w.heap.size≤wr.heap.size:=BR.out.size
  by_cases hkl:k<s.size
  ·have hki:(k:Int)<(s.size:Int):=by omega
   have hst:=hide (show xeL ((bl s).take (k+1))=L++xeB s[k] by
    rw [List.take_succ_eq_append_getElem (by rw [bl_length];exact hkl),xeL_snoc,bl_get s k hkl,hL'.out])
   obtain ⟨c,hc⟩:∃ c,s[k]=c:=⟨_,rfl⟩
   rw [hc] at hst
   have hcl:c.toNat<256:=c.toNat_lt
   by_cases h60:c=60
   ·have he:Hid (xeB c=bl ⟨#[38,108,116,59]⟩):=by show _=_;rw [h60];rfl
    have q1:((c.toNat:Int)==60)=true:=by rw [h60];rfl
    clear h60
    go_wp2_with (at_builtin;refine Sto.out ?_)
    refine Sto.mk ?_
    refine app_st rfl (.tmp 22) (.const (.string ⟨#[38,108,116,59]⟩)) rfl w.heap.size (.slice a n cp) L rfl OR.out ⟨#[38,108,116,59]⟩ rfl (by rw [hln'.out];show n+4≤_;omega) zr1 ?_
    intro av c' w' ho hb
    rw [hln'.out] at ho ⊢
    go_wp2_with fail
    exact ⟨⟨k+1,n+4,av,c',L++bl ⟨#[38,108,116,59]⟩,by go_num,rfl,hkl,hide ⟨by rw [hst.out,he.out],by rw [List.length_append,hln'.out];rfl,ho.out,BR.out.trans hb.out⟩⟩,by simp [intOf];omega⟩
   have q1:((c.toNat:Int)==60)=false:=u8n h60
   by_cases h38:c=38
   ·have he:Hid (xeB c=bl ⟨#[38,97,109,112,59]⟩):=by show _=_;rw [h38];rfl
    have q2:((c.toNat:Int)==38)=true:=by rw [h38];rfl
    clear h38 h60
    go_wp2_with (at_builtin;refine Sto.out ?_)
    refine Sto.mk ?_
    refine app_st rfl (.tmp 27) (.const (.string ⟨#[38,97,109,112,59]⟩)) rfl w.heap.size (.slice a n cp) L rfl OR.out ⟨#[38,97,109,112,59]⟩ rfl (by rw [hln'.out];show n+5≤_;omega) zr1 ?_
    intro av c' w' ho hb
    rw [hln'.out] at ho ⊢
    go_wp2_with fail
    exact ⟨⟨k+1,n+5,av,c',L++bl ⟨#[38,97,109,112,59]⟩,by go_num,rfl,hkl,hide ⟨by rw [hst.out,he.out],by rw [List.length_append,hln'.out];rfl,ho.out,BR.out.trans hb.out⟩⟩,by simp [intOf];omega⟩
   have q2:((c.toNat:Int)==38)=false:=u8n h38
   by_cases h34:c=34
   ·have he:Hid (xeB c=bl ⟨#[38,113,117,111,116,59]⟩):=by show _=_;rw [h34];rfl
    have q3:((c.toNat:Int)==34)=true:=by rw [h34];rfl
    clear h34 h38 h60
    go_wp2_with (at_builtin;refine Sto.out ?_)
    refine Sto.mk ?_
    refine app_st rfl (.tmp 32) (.const (.string ⟨#[38,113,117,111,116,59]⟩)) rfl w.heap.size (.slice a n cp) L rfl OR.out ⟨#[38,113,117,111,116,59]⟩ rfl (by rw [hln'.out];show n+6≤_;omega) zr1 ?_
    intro av c' w' ho hb
    rw [hln'.out] at ho ⊢
    go_wp2_with fail
    exact ⟨⟨k+1,n+6,av,c',L++bl ⟨#[38,113,117,111,116,59]⟩,by go_num,rfl,hkl,hide ⟨by rw [hst.out,he.out],by rw [List.length_append,hln'.out];rfl,ho.out,BR.out.trans hb.out⟩⟩,by simp [intOf];omega⟩
   have q3:((c.toNat:Int)==34)=false:=u8n h34
   by_cases h62:c=62
   ·have he:Hid (xeB c=bl ⟨#[38,103,116,59]⟩):=by show _=_;rw [h62];rfl
    have q4:((c.toNat:Int)==62)=true:=by rw [h62];rfl
    clear h62 h34 h38 h60
    go_wp2_with (at_builtin;refine Sto.out ?_)
    refine Sto.mk ?_
    refine app_st rfl (.tmp 37) (.const (.string ⟨#[38,103,116,59]⟩)) rfl w.heap.size (.slice a n cp) L rfl OR.out ⟨#[38,103,116,59]⟩ rfl (by rw [hln'.out];show n+4≤_;omega) zr1 ?_
    intro av c' w' ho hb
    rw [hln'.out] at ho ⊢
    go_wp2_with fail
    exact ⟨⟨k+1,n+4,av,c',L++bl ⟨#[38,103,116,59]⟩,by go_num,rfl,hkl,hide ⟨by rw [hst.out,he.out],by rw [List.length_append,hln'.out];rfl,ho.out,BR.out.trans hb.out⟩⟩,by simp [intOf];omega⟩
   have q4:((c.toNat:Int)==62)=false:=u8n h62
   by_cases h32:c.toNat<32
   ·obtain ⟨T,hT⟩:∃ T,mkB ([38,35,120]++(smH c.toNat++[59]))=T:=⟨_,rfl⟩
    have he:Hid (xeB c=bl T):=by
     show _=_
     rw [←hT,bl_mkB]
     unfold xeB
     rw [if_neg h60,if_neg h38,if_neg h34,if_neg h62,if_pos h32]
    have q5:decide ((c.toNat:Int)<32)=true:=by simp;omega
    have SM:=hide (fun W=>fsmall_any c.toNat W h32)
    have hsl:(smH c.toNat).length≤2:=by unfold smH;split <;> simp
    obtain ⟨S,hS⟩:∃ S,smH c.toNat=S:=⟨_,rfl⟩
    rw [hS] at SM hT hsl
    have r1:=cat_run ⟨#[38,35,120]⟩ (mkB S) ([38,35,120]++S) (by rw [bl_mkB];rfl) (by rw [List.length_append];simp;omega)
    have r2:∀ w,(Op.stringOp .add (mkB ([38,35,120]++S)) ⟨#[59]⟩).run Tryz.prog w=.ok (.string T) w:=by
     rw [←hT]
     exact cat_run (mkB ([38,35,120]++S)) ⟨#[59]⟩ ([38,35,120]++(S++[59])) (by rw [bl_mkB,List.append_assoc];rfl) (by simp;omega)
    have hTs:T.size≤6:=by rw [←hT,mkB_size];simp;omega
    obtain ⟨Y,hY⟩:∃ Y,mkB ([38,35,120]++S)=Y:=⟨_,rfl⟩
    rw [hY] at r1 r2
    obtain ⟨Z,hZ⟩:∃ Z,mkB S=Z:=⟨_,rfl⟩
    rw [hZ] at SM r1
    clear hT hS hY hZ h60 h38 h34 h62 h32 hsl
    go_wp2_with (go_at_call 84;refine Sto.out ?_)
    refine Sto.mk ((SM.out _).mono ?_)
    rintro e w1 ⟨rfl,hw1⟩
    have hw1:=hw1.symm
    subst hw1
    go_wp2_with (at_builtin;refine Sto.out ?_)
    refine Sto.mk ?_
    refine app_st rfl (.tmp 42) (.tmp 46) rfl w.heap.size (.slice a n cp) L rfl OR.out T rfl (by rw [hln'.out];omega) zr1 ?_
    intro av c' w' ho hb
    rw [hln'.out] at ho ⊢
    go_wp2_with fail
    exact ⟨⟨k+1,n+T.size,av,c',L++bl T,by go_num,rfl,hkl,hide ⟨by rw [hst.out,he.out],by rw [List.length_append,hln'.out,bl_length],ho.out,BR.out.trans hb.out⟩⟩,by simp [intOf];omega⟩
   ·have he:Hid (xeB c=[c]):=by
     show _=_
     unfold xeB
     rw [if_neg h60,if_neg h38,if_neg h34,if_neg h62,if_neg h32]
    have q5:decide ((c.toNat:Int)<32)=false:=by simp;omega
    clear h60 h38 h34 h62 h32
    go_wp2_with (at_builtin;refine Sto.out ?_)
    refine Sto.mk ?_
    refine app_bs rfl (.tmp 15) (.tmp 17) rfl w.heap.size (.slice a n cp) L rfl (ownsRow_of OR.out fun g hg hlt=>Below.heap_alloc _ _ _ hlt) ⟨wr.heap.size,0,none⟩ 1 1 [c] rfl rfl (news_any wr _ [c] 5 rfl) (by rw [hln'.out];omega) (by simp;omega) (by omega) ?_
    intro av c' w' ho hb
    rw [hln'.out] at ho ⊢
    go_wp2_with fail
    exact ⟨⟨k+1,n+1,av,c',L++[c],by go_num,rfl,hkl,hide ⟨by rw [hst.out,he.out],by rw [List.length_append,hln'.out];rfl,ho.out,(BR.out.trans ((below_al (Below.refl _ _)).mono zr1)).trans hb.out⟩⟩,by simp [intOf];omega⟩
  ·have hki:¬ ((k:Int)<(s.size:Int)):=by omega
   have hcv:=own_conv OR.out
   have hfull:Hid (L=xeL (bl s)):=by
    show _=_
    rw [hL'.out,List.take_of_length_le (by rw [bl_length];omega)]
   clear hkl
   go_wp2_with fail
   go_ret
   exact ⟨by rw [←hfull.out];rfl,BR.out⟩
end Go.Proofs.YthodiandebahdaaGreatDoor
