/- Merged by program: JgVal, MeRef, MfRef, MgRef, MhRef. -/
import Derived.Test.YtpimjkdakjhoaaaGreatDoorZw17
import Derived.Test.YtpimjkdakjhoaaaGreatDoorZw25
namespace Go.Proofs.YtpimjkdakjhoaaaGreatDoor
open Go.RowKit
set_option linter.unusedSimpArgs false
set_option linter.unusedVariables false
set_option maxHeartbeats 8000000
def dFloat:List UInt8:=[36,102,108,111,97,116]
def dBytes:List UInt8:=[36,98,121,116,101,115]
def dTag:List UInt8:=[36,116,97,103]
def nmD (k:Nat) (s:List UInt8):List UInt8:=bif k==0 && s.head?==some 36 then 36 :: s else s
def jtx:(n:Nat)→VT n→List UInt8
 | 0,_=>[]
 | n + 1,x =>
  if x.1.kind=1 then [110,117,108,108] else if x.1.kind=2 then flgL x.1.flag else if x.1.kind=3 then printL x.1.neg (bl x.1.dig) x.1.exp
  else if x.1.kind=4 then nmd dFloat (bl (fhexS x.1.bits.toNat)) else if x.1.kind=5 then quo (bl x.1.text) else if x.1.kind=6 then nmd dBytes (hexL (bl x.1.text))
  else if x.1.kind=7 then [91]++(((List.range x.2.length).map fun i=>cmL i++((x.2[i]?).elim [] (jtx n))).flatten++[93])
  else if x.1.kind=8 then [123]++(((List.range x.2.length).map fun i=>cmL i++(quo (nmD i (bl ((x.1.names[i]?).getD ByteArray.empty)))++([58]++((x.2[i]?).elim [] (jtx n))))).flatten++[125])
  else [123]++(quo dTag++([58,91]++(quo (bl x.1.text)++([44]++(((x.2[0]?).elim [] (jtx n))++[93,125])))))
def jel (n:Nat) (l:List (VT n)) (k:Nat):List UInt8:=((List.range k).map fun i=>cmL i++((l[i]?).elim [] (jtx n))).flatten
def jrc (n:Nat) (ns:List ByteArray) (l:List (VT n)) (k:Nat):List UInt8:=((List.range k).map fun i=>cmL i++(quo (nmD i (bl ((ns[i]?).getD ByteArray.empty)))++([58]++((l[i]?).elim [] (jtx n))))).flatten
theorem jel_succ (n:Nat) (l:List (VT n)) (k:Nat) (hk:k<l.length):jel n l (k + 1)=jel n l k++(cmL k++jtx n l[k]):=by
 simp [jel,List.range_succ,hk]
theorem jrc_succ (n:Nat) (ns:List ByteArray) (l:List (VT n)) (k:Nat) (hk:k<l.length) (hn:k<ns.length):jrc n ns l (k + 1)=jrc n ns l k++(cmL k++(quo (nmD k (bl ns[k]))++([58]++jtx n l[k]))):=by
 simp [jrc,List.range_succ,hk,hn]
theorem jel_le (n:Nat) (l:List (VT n)) {k:Nat} (hk:k≤l.length):jel n l k <+: jel n l l.length:=by
 obtain ⟨d,hd⟩:=Nat.exists_eq_add_of_le hk
 rw [hd]
 unfold jel
 rw [List.range_add,List.map_append,List.flatten_append]
 exact List.prefix_append _ _
theorem jrc_le (n:Nat) (ns:List ByteArray) (l:List (VT n)) {k m:Nat} (hk:k≤m):jrc n ns l k <+: jrc n ns l m:=by
 obtain ⟨d,hd⟩:=Nat.exists_eq_add_of_le hk
 rw [hd]
 unfold jrc
 rw [List.range_add,List.map_append,List.flatten_append]
 exact List.prefix_append _ _
def Rg:(n:Nat)→VT n→Prop
 | 0,_=>True
 | n + 1,x=>0≤x.1.bits∧x.1.bits<18446744073709551616∧∀ y∈x.2,Rg n y
def Vo (n:Nat) (x:VT n):Prop:=IsV n x∧Sht n x∧Rg n x
theorem Vo.kid {n:Nat} {x:VT (n + 1)} (h:Vo (n + 1) x) (k:Nat) (hk:k<x.2.length):Vo n x.2[k]:=⟨h.1.2.2 _ (List.getElem_mem hk),h.2.1.2.2.2 _ (List.getElem_mem hk),h.2.2.2.2 _ (List.getElem_mem hk)⟩
structure Vc (n:Nat) (x:VT n) (ns ls:Value) (w0:World) (i:Nat) (W:World):Prop where
 rd:RD n w0 x ns ls
 vo:Vo n x
 lo:w0.heap.size≤i
 be:Below w0.heap.size w0 W
 tab:Tab w0.heap.size w0
def ValOk (n:Nat):Prop:=∀ (x:VT n) (ns ls:Value) (w0 W:World) (i:Nat) (A:List UInt8),Vc n x ns ls w0 i W→WB W i A→A.length≤65536 →
 Calls Tryz.prog 25 #[.pointer (some ⟨i,0,none⟩),.agg (vals (vhd n x) ns ls)] W fun e w'=>WO i A (jtx n x) W e w'
theorem WO.pre {i:Nat} {A T U:List UInt8} {W w1:World} (h1:FW i W w1) (hp:T <+: U) (h:65536<A.length + T.length):WO i A U W (.panicked (pan 2)) w1 :=
 ⟨h1,Or.inr ⟨by have:=hp.length_le;omega,rfl⟩⟩
theorem WO.step {i:Nat} {A T U:List UInt8} {W w1 w2:World} {e:Ending} (h1:FW i W w1) (h:WO i (A++T) U w1 e w2) :
  (e=.returned (.tuple #[])∧FW i W w2∧WB w2 i (A++(T++U))∧(A++(T++U)).length≤65536)∨(e=.panicked (pan 2)∧FW i W w2∧65536<A.length + (T++U).length):=by
 obtain ⟨hb,hh⟩:=h
 rcases hh with ⟨q1,q2,q3⟩|⟨q1,q2⟩
 ·exact Or.inl ⟨q2,h1.trans hb,by simpa using q3,by simp at q1 ⊢;omega⟩
 ·exact Or.inr ⟨q2,h1.trans hb,by simp at q1 ⊢;omega⟩
theorem FW.al {i:Nat} {W w1:World} {o:Obj} (h:FW i W w1) (hi:i<w1.heap.size):FW i W (w1.alloc o):=h.trans (FW.of (below_al (Below.refl _ _)) hi)
theorem Bx.nb {W W1:World} {q i:Nat} {h:Hd} {ns ls:Value} (k:Bx W q h ns ls) (e:W1.heap[q]?=W.heap[q]?):Bx W1 q h ns ls:=⟨e.trans k.at_⟩
set_option maxRecDepth 100000 in
theorem jlist_any (n:Nat) (vo:ValOk n) (h:Hd) (l:List (VT n)) (ns ls:Value) (w0 W:World) (i:Nat) (A:List UInt8) (hc:Vc (n + 1) ((h,l):VT (n + 1)) ns ls w0 i W) (hW:WB W i A) (hA:A.length≤65536) :
  Calls Tryz.prog 48 #[.pointer (some ⟨i,0,none⟩),ls] W fun e w'=>WO i A ([91]++(jel n l l.length++[93])) W e w':=by
 have hp:=hide (fun s A W (h:WB W i A) (hA:A.length≤65536) (hs:s.size≤281474976710656)=>put_any s A W i h hA hs)
 have hcm:=hide (fun k A W (h:WB W i A) (hA:A.length≤65536)=>comma_any k A W i h hA)
 have vo':=hide vo
 have hc':=hide hc
 have hW':=hide hW
 have hA':=hide hA
 obtain ⟨al,cl,rfl,hl1,hl2⟩:=hc.rd.len
 have hl256:l.length≤256:=hc.vo.2.1.2.1
 have hloi:=hc.lo
 simp only at hl1 hl2
 clear vo hc hW hA
 go_enter Tryz.func48, Tryz.ntmps48
 go_wp2_with (go_at_call 41;refine Sto.out ?_)
 refine Sto.mk ((hp.out _ A W hW'.out hA'.out (by decide)).mono ?_)
 rintro e w1 hw1
 replace hw1:WO i A [91] W e w1:=hw1
 obtain ⟨hf1,⟨q1,rfl,hW1⟩|⟨q1,rfl⟩⟩:=hw1
 ·have F1:=hide hf1
  have X1:=hide hW1
  have Q1:=hide q1
  clear hf1 hW1 q1
  go_wp2_with fail
  go_loopw [10] (fun j wr=>∃ k:Nat,j=.int .i64 k∧k≤l.length∧Hid (FW i W wr∧WB wr i (A++([91]++jel n l k))∧(A++([91]++jel n l k)).length≤65536)) (fun j _=>l.length - (intOf j).toNat)
  case atStart=>exact ⟨0,rfl,Nat.zero_le _,hide ⟨F1.out,by simpa [jel] using X1.out,by have:=Q1.out;simpa [jel] using this⟩⟩
  case round =>
   obtain ⟨k,rfl,hk,HH⟩:=hrel
   obtain ⟨hF,hX,hL⟩:=HH.out
   have FR:=hide hF
   have XR:=hide hX
   have LR:=hide hL
   have hiw:=hX.lt
   clear HH hF hX hL F1 X1 Q1
   by_cases hkl:k<l.length
   ·have hki:(k:Int)<(l.length:Int):=by omega
    obtain ⟨b,o,c,he,hbl,hlc,hcm2,ns',ls',hrg,hrd⟩:=hc'.out.rd.at k hkl
    have he':=Value.slice.inj he
    obtain ⟨rfl,_,rfl⟩:=he'
    clear he
    have BR:Hid (Below w0.heap.size w0 wr):=hc'.out.be.trans (FR.out.1.mono hloi)
    obtain ⟨e0,e1,e2,e3,e4,e5,e6,e7,e8⟩:=range9 (rangeAt_below hrg BR.out hbl)
    obtain ⟨a1,m1,d1,a2,m2,d2,rfl,rfl⟩:=hrd.shape
    have hsu:=hide (jel_succ n l k hkl)
    have hpr:=hide (jel_le n l (k:=k + 1) hkl)
    have vk:=hide (fun W (b:Below w0.heap.size w0 W) A (x:WB W i A) (a:A.length≤65536)=>vo'.out l[k] _ _ w0 W i A ⟨hrd,hc'.out.vo.kid k hkl,hloi,b,hc'.out.tab⟩ x a)
    obtain ⟨g,hg⟩:∃ g,vhd n l[k]=g:=⟨_,rfl⟩
    have hg2:vhd n ((h,l):VT (n + 1)).2[k]=g:=hg
    rw [hg2] at e0 e1 e2 e3 e4 e5 e6
    rw [hg] at vk
    simp only [vals] at vk
    have hblw:b<wr.heap.size:=Nat.lt_of_lt_of_le hbl BR.out.size
    have X2:=hide (fun o=>XR.out.below (below_al (o:=o) (Below.refl wr.heap.size wr)))
    have N2:Hid (∀ o,NB wr.heap.size (wr.alloc o) i):=fun o=>NB.new XR.out
    have V2:=hide (bx_new wr g (.slice a1 m1 d1) (.slice a2 m2 d2))
    simp only [vals] at V2
    clear hrg hrd hg hg2
    go_wp2_with (go_at_call 76;refine Sto.out ?_)
    refine Sto.mk ((hcm.out k _ _ (X2.out _) LR.out).mono ?_)
    rintro e w3 hw3
    have kp:=hide (hw3.1.kept (N2.out _))
    have hw4:=WO.step (FR.out.al hiw) hw3
    have FA:=hide hw3.1
    clear hw3 e0 e1 e2 e3 e4 e5 e6 e7 e8
    rcases hw4 with ⟨rfl,g1,g2,g3⟩|⟨rfl,g1,g2⟩
    ·have G1:=hide g1
     have G2:=hide g2
     have G3:=hide g3
     have V3:Hid (Bx w3 wr.heap.size g (.slice a1 m1 d1) (.slice a2 m2 d2)):=(bx_new wr g (.slice a1 m1 d1) (.slice a2 m2 d2)).nb (i:=i) kp.out.1
     obtain ⟨f0,f1,f2,f3,f4,f5,f6,f7,f8⟩:=V3.out.cells
     clear g1 g2 g3
     go_wp2_with (go_at_call 25;refine Sto.out ?_)
     refine Sto.mk ((vk.out w3 (hc'.out.be.trans (G1.out.1.mono hloi)) _ G2.out G3.out).mono ?_)
     rintro e w5 hw5
     have hw6:=WO.step (A:=A) (T:=[91]++jel n l k++cmL k) G1.out hw5
     clear hw5 f0 f1 f2 f3 f4 f5 f6 f7 f8
     rcases hw6 with ⟨rfl,g1,g2,g3⟩|⟨rfl,g1,g2⟩
     ·have K:=hide (show FW i W w5∧WB w5 i (A++([91]++jel n l (k + 1)))∧(A++([91]++jel n l (k + 1))).length≤65536 by rw [hsu.out];exact ⟨g1,by simpa using g2,by simpa using g3⟩)
      clear g1 g2 g3
      go_wp2_with fail
      exact ⟨⟨k + 1,by go_num,hkl,K⟩,by simp [intOf];omega⟩
     ·have K:=hide (WO.pre (A:=A) (T:=[91]++jel n l (k + 1)) (U:=[91]++(jel n l l.length++[93])) g1 (by
       have:=hpr.out
       obtain ⟨t,ht⟩:=this
       exact ⟨t++[93],by rw [←ht];simp⟩) (by rw [hsu.out];simpa using g2))
      clear g1 g2
      go_wp2_with fail
      exact ⟨rfl,K.out⟩
    ·have K:=hide (WO.pre (A:=A) (T:=[91]++jel n l k++cmL k) (U:=[91]++(jel n l l.length++[93])) g1 (by
      have:=hpr.out
      rw [hsu.out] at this
      obtain ⟨t,ht⟩:=this
      exact ⟨jtx n l[k]++t++[93],by rw [←ht];simp⟩) g2)
     clear g1 g2
     go_wp2_with fail
     exact ⟨rfl,K.out⟩
   ·have hki:¬ ((k:Int)<(l.length:Int)):=by omega
    have hke:k=l.length:=by omega
    subst hke
    go_wp2_with (go_at_call 41;refine Sto.out ?_)
    refine Sto.mk ((hp.out _ _ wr XR.out LR.out (by decide)).mono ?_)
    rintro e w2 hw2
    replace hw2:WO i (A++([91]++jel n l l.length)) [93] wr e w2:=hw2
    have hw3:=WO.trans (A:=A) (T:=[91]++jel n l l.length) FR.out (by have:=LR.out;simp only [List.length_append] at this ⊢;omega) hw2
    have H3:=hide hw3
    rcases hw2 with ⟨_,⟨_,rfl,_⟩|⟨_,rfl⟩⟩
    ·go_wp2_with fail
     go_end0
     simpa only [List.append_assoc,List.cons_append,List.nil_append] using H3.out
    ·go_wp2_with fail
     refine ⟨rfl,?_⟩
     simpa only [List.append_assoc,List.cons_append,List.nil_append] using H3.out
 ·have H1:=hide (WO.fail (A:=A) (T:=[91]) (U:=jel n l l.length++[93]) hf1 q1)
  clear hf1 q1
  go_wp2_with fail
  exact ⟨rfl,H1.out⟩
def TxP (w:World) (l:List UInt8) (e:Ending) (w':World):Prop:=e=.returned (.string (mkB l))∧Below w.heap.size w w'
structure Tc (n:Nat) (x:VT n) (ns ls:Value) (w:World):Prop where
 rd:RD n w x ns ls
 vo:Vo n x
 lo:(jtx n x).length≤100000000000000
def RTx (n:Nat):Prop:=∀ (x:VT n) (ns ls:Value) (w:World),Tc n x ns ls w →
 Calls Tryz.prog 27 #[.agg (vals (vhd n x) ns ls)] w fun e w'=>TxP w (jtx n x) e w'
set_option maxRecDepth 100000 in
theorem rtx_1 (n:Nat) (h:Hd) (l:List (VT n)) (ns ls:Value) (w:World) (hc:Tc (n + 1) ((h,l):VT (n + 1)) ns ls w) (hk:h.kind=1) :
  Calls Tryz.prog 27 #[.agg (vals h ns ls)] w fun e w'=>TxP w (jtx (n + 1) ((h,l):VT (n + 1))) e w':=by
 obtain ⟨al,cl,rfl,hl1,hl2⟩:=hc.rd.len
 obtain ⟨an,cn,rfl,hn1,hn2⟩:=hc.rd.1.len
 have tz:=hide hc.vo.2.1.1
 have hj:=hide (show jtx (n + 1) ((h,l):VT (n + 1))=[110,117,108,108] by
  show (if h.kind=1 then _ else _)=_
  rw [if_pos hk]
  first|done|rfl)
 rw [hj.out]
 clear hj
 obtain ⟨kd,fl,ng,dg,ex,bt,tx,nm⟩:=h
 simp only at hk tz
 subst hk
 clear hc tz
 show Calls _ _ #[.agg #[.int .i64 1,.bool fl,.bool ng,.string dg,.int .i64 ex,.int .u64 bt,.string tx,.slice an nm.length cn,.slice al l.length cl]] _ _
 go_enter Tryz.func27, Tryz.ntmps27
 go_wp2
 go_ret
 exact ⟨rfl,below_al (Below.refl _ _)⟩
set_option maxRecDepth 100000 in
theorem rtx_2 (n:Nat) (h:Hd) (l:List (VT n)) (ns ls:Value) (w:World) (hc:Tc (n + 1) ((h,l):VT (n + 1)) ns ls w) (hk:h.kind=2) :
  Calls Tryz.prog 27 #[.agg (vals h ns ls)] w fun e w'=>TxP w (jtx (n + 1) ((h,l):VT (n + 1))) e w':=by
 obtain ⟨al,cl,rfl,hl1,hl2⟩:=hc.rd.len
 obtain ⟨an,cn,rfl,hn1,hn2⟩:=hc.rd.1.len
 have tz:=hide hc.vo.2.1.1
 have hj:=hide (show jtx (n + 1) ((h,l):VT (n + 1))=flgL h.flag by
  show (if h.kind=1 then _ else _)=_
  rw [if_neg (show ¬ h.kind=1 by omega),if_pos hk]
  first|done|rfl)
 rw [hj.out]
 clear hj
 obtain ⟨kd,fl,ng,dg,ex,bt,tx,nm⟩:=h
 simp only at hk tz
 subst hk
 clear hc tz
 show Calls _ _ #[.agg #[.int .i64 2,.bool fl,.bool ng,.string dg,.int .i64 ex,.int .u64 bt,.string tx,.slice an nm.length cn,.slice al l.length cl]] _ _
 cases fl
 all_goals
  go_enter Tryz.func27, Tryz.ntmps27
  go_wp2
  go_ret
  exact ⟨rfl,below_al (Below.refl _ _)⟩
set_option maxRecDepth 100000 in
theorem rtx_3 (n:Nat) (h:Hd) (l:List (VT n)) (ns ls:Value) (w:World) (hc:Tc (n + 1) ((h,l):VT (n + 1)) ns ls w) (hk:h.kind=3) :
  Calls Tryz.prog 27 #[.agg (vals h ns ls)] w fun e w'=>TxP w (jtx (n + 1) ((h,l):VT (n + 1))) e w':=by
 obtain ⟨al,cl,rfl,hl1,hl2⟩:=hc.rd.len
 obtain ⟨an,cn,rfl,hn1,hn2⟩:=hc.rd.1.len
 have tz:=hide hc.vo.2.1.1
 have hj:=hide (show jtx (n + 1) ((h,l):VT (n + 1))=printL h.neg (bl h.dig) h.exp by
  show (if h.kind=1 then _ else _)=_
  rw [if_neg (show ¬ h.kind=1 by omega),if_neg (show ¬ h.kind=2 by omega),if_pos hk]
  first|done|rfl)
 rw [hj.out]
 have hN:isN h.neg h.dig h.exp=true:=hc.vo.1.2.1.1 hk
 have pr:=hide (fun W=>rprint_any h.neg h.dig h.exp W hN)
 clear hj
 obtain ⟨kd,fl,ng,dg,ex,bt,tx,nm⟩:=h
 simp only at hk tz hN pr
 subst hk
 clear hc tz
 show Calls _ _ #[.agg #[.int .i64 3,.bool fl,.bool ng,.string dg,.int .i64 ex,.int .u64 bt,.string tx,.slice an nm.length cn,.slice al l.length cl]] _ _
 obtain ⟨S,hS⟩:∃ S,mkB (printL ng (bl dg) ex)=S:=⟨_,rfl⟩
 rw [hS] at pr
 show Calls _ _ _ _ fun e w'=>e=.returned (.string (mkB (printL ng (bl dg) ex)))∧Below w.heap.size w w'
 rw [hS]
 clear hS hN
 go_enter Tryz.func27, Tryz.ntmps27
 go_wp2_with (go_at_call 53;refine Sto.out ?_)
 refine Sto.mk ((pr.out _).mono ?_)
 rintro e w1 ⟨rfl,hb1⟩
 have B1:Hid (Below w.heap.size w w1):=(below_al (Below.refl _ _)).trans (hb1.mono (by simp))
 clear hb1
 go_wp2_with fail
 go_ret
 exact ⟨rfl,B1.out⟩
set_option maxRecDepth 100000 in
theorem rtx_4 (n:Nat) (h:Hd) (l:List (VT n)) (ns ls:Value) (w:World) (hc:Tc (n + 1) ((h,l):VT (n + 1)) ns ls w) (hk:h.kind=4) :
  Calls Tryz.prog 27 #[.agg (vals h ns ls)] w fun e w'=>TxP w (jtx (n + 1) ((h,l):VT (n + 1))) e w':=by
 obtain ⟨al,cl,rfl,hl1,hl2⟩:=hc.rd.len
 obtain ⟨an,cn,rfl,hn1,hn2⟩:=hc.rd.1.len
 have tz:=hide hc.vo.2.1.1
 have hj:=hide (show jtx (n + 1) ((h,l):VT (n + 1))=nmd dFloat (bl (fhexS h.bits.toNat)) by
  show (if h.kind=1 then _ else _)=_
  rw [if_neg (show ¬ h.kind=1 by omega),if_neg (show ¬ h.kind=2 by omega),if_neg (show ¬ h.kind=3 by omega),if_pos hk]
  first|done|rfl)
 rw [hj.out]
 have hR:=hc.vo.2.2
 have hb1:0≤h.bits:=hR.1
 have hb2:h.bits<18446744073709551616:=hR.2.1
 obtain ⟨bn,hbn⟩:∃ bn:Nat,h.bits=(bn:Int):=⟨h.bits.toNat,by omega⟩
 have hbt:=hide (show h.bits.toNat=bn by omega)
 have fx:=hide (fun W=>rfhex_any bn W (by omega))
 clear hR hb1 hb2
 clear hj
 obtain ⟨kd,fl,ng,dg,ex,bt,tx,nm⟩:=h
 simp only at hk tz hbn hbt
 subst hk
 clear hc tz
 show Calls _ _ #[.agg #[.int .i64 4,.bool fl,.bool ng,.string dg,.int .i64 ex,.int .u64 bt,.string tx,.slice an nm.length cn,.slice al l.length cl]] _ _
 subst hbn
 rw [hbt.out]
 obtain ⟨S,hS⟩:∃ S,fhexS bn=S:=⟨_,rfl⟩
 rw [hS] at fx ⊢
 have hSz:S.size=16:=by rw [←hS];unfold fhexS;rw [strOfNums_size,List.length_map,flowL_len]
 clear hS hbt
 have qu:=hide (fun W=>rquo_any S W (by omega))
 have hql:=quo_len (bl S)
 rw [bl_length] at hql
 obtain ⟨Q,hQ⟩:∃ Q,mkB (quo (bl S))=Q:=⟨_,rfl⟩
 have hQb:Hid (bl Q=quo (bl S)):=by show _=_;rw [←hQ,bl_mkB]
 have hQz:Q.size≤1000:=by rw [←bl_length,hQb.out];omega
 rw [hQ] at qu
 have sp:=hide (fun W=>rspec_any ⟨#[36,102,108,111,97,116]⟩ Q W (by decide) (by omega))
 have hfin:Hid (mkB (nmd dFloat (bl S))=mkB (spc (bl ⟨#[36,102,108,111,97,116]⟩) (bl Q))):=by show _=_;rw [hQb.out];rfl
 show Calls _ _ _ _ fun e w'=>e=.returned (.string (mkB (nmd dFloat (bl S))))∧Below w.heap.size w w'
 rw [hfin.out]
 obtain ⟨Z,hZ⟩:∃ Z,mkB (spc (bl ⟨#[36,102,108,111,97,116]⟩) (bl Q))=Z:=⟨_,rfl⟩
 rw [hZ] at sp ⊢
 clear hQ hQz hql hZ
 go_enter Tryz.func27, Tryz.ntmps27
 go_wp2_with (go_at_call 56;refine Sto.out ?_)
 refine Sto.mk ((fx.out _).mono ?_)
 rintro e w1 ⟨rfl,hb1⟩
 have B1:Hid (Below w.heap.size w w1):=by show Below _ _ _;rw [hb1];exact below_al (Below.refl _ _)
 clear hb1
 go_wp2_with (go_at_call 55;refine Sto.out ?_)
 refine Sto.mk ((qu.out _).mono ?_)
 rintro e w2 ⟨rfl,hb2⟩
 have B2:Hid (Below w.heap.size w w2):=B1.out.trans (hb2.mono B1.out.size)
 clear hb2
 go_wp2_with (go_at_call 54;refine Sto.out ?_)
 refine Sto.mk ((sp.out _).mono ?_)
 rintro e w3 ⟨rfl,hb3⟩
 have B3:Hid (Below w.heap.size w w3):=B2.out.trans (hb3.mono B2.out.size)
 clear hb3
 go_wp2_with fail
 go_ret
 exact ⟨rfl,B3.out⟩
set_option maxRecDepth 100000 in
theorem rtx_5 (n:Nat) (h:Hd) (l:List (VT n)) (ns ls:Value) (w:World) (hc:Tc (n + 1) ((h,l):VT (n + 1)) ns ls w) (hk:h.kind=5) :
  Calls Tryz.prog 27 #[.agg (vals h ns ls)] w fun e w'=>TxP w (jtx (n + 1) ((h,l):VT (n + 1))) e w':=by
 obtain ⟨al,cl,rfl,hl1,hl2⟩:=hc.rd.len
 obtain ⟨an,cn,rfl,hn1,hn2⟩:=hc.rd.1.len
 have tz:=hide hc.vo.2.1.1
 have hj:=hide (show jtx (n + 1) ((h,l):VT (n + 1))=quo (bl h.text) by
  show (if h.kind=1 then _ else _)=_
  rw [if_neg (show ¬ h.kind=1 by omega),if_neg (show ¬ h.kind=2 by omega),if_neg (show ¬ h.kind=3 by omega),if_neg (show ¬ h.kind=4 by omega),if_pos hk]
  first|done|rfl)
 rw [hj.out]
 have htz:h.text.size≤4096:=by
  have q:=tz.out
  simp only [hk] at q
  have q2:(h.text.size:Int)≤4096:=q
  omega
 clear hj
 obtain ⟨kd,fl,ng,dg,ex,bt,tx,nm⟩:=h
 simp only at hk tz htz
 subst hk
 clear hc tz
 show Calls _ _ #[.agg #[.int .i64 5,.bool fl,.bool ng,.string dg,.int .i64 ex,.int .u64 bt,.string tx,.slice an nm.length cn,.slice al l.length cl]] _ _
 have qu:=hide (fun W=>rquo_any tx W (by omega))
 go_enter Tryz.func27, Tryz.ntmps27
 go_wp2_with (go_at_call 55;refine Sto.out ?_)
 refine Sto.mk ((qu.out _).mono ?_)
 rintro e w1 ⟨rfl,hb1⟩
 have B1:Hid (Below w.heap.size w w1):=(below_al (Below.refl _ _)).trans (hb1.mono (by simp))
 clear hb1
 go_wp2_with fail
 go_ret
 exact ⟨rfl,B1.out⟩
set_option maxRecDepth 100000 in
theorem rtx_6 (n:Nat) (h:Hd) (l:List (VT n)) (ns ls:Value) (w:World) (hc:Tc (n + 1) ((h,l):VT (n + 1)) ns ls w) (hk:h.kind=6) :
  Calls Tryz.prog 27 #[.agg (vals h ns ls)] w fun e w'=>TxP w (jtx (n + 1) ((h,l):VT (n + 1))) e w':=by
 obtain ⟨al,cl,rfl,hl1,hl2⟩:=hc.rd.len
 obtain ⟨an,cn,rfl,hn1,hn2⟩:=hc.rd.1.len
 have tz:=hide hc.vo.2.1.1
 have hj:=hide (show jtx (n + 1) ((h,l):VT (n + 1))=nmd dBytes (hexL (bl h.text)) by
  show (if h.kind=1 then _ else _)=_
  rw [if_neg (show ¬ h.kind=1 by omega),if_neg (show ¬ h.kind=2 by omega),if_neg (show ¬ h.kind=3 by omega),if_neg (show ¬ h.kind=4 by omega),if_neg (show ¬ h.kind=5 by omega),if_pos hk]
  first|done|rfl)
 rw [hj.out]
 have htz:h.text.size≤4096:=by
  have q:=tz.out
  simp only [hk] at q
  have q2:(h.text.size:Int)≤4096:=q
  omega
 clear hj
 obtain ⟨kd,fl,ng,dg,ex,bt,tx,nm⟩:=h
 simp only at hk tz htz
 subst hk
 clear hc tz
 show Calls _ _ #[.agg #[.int .i64 6,.bool fl,.bool ng,.string dg,.int .i64 ex,.int .u64 bt,.string tx,.slice an nm.length cn,.slice al l.length cl]] _ _
 have fx:=hide (fun W=>rhex_any tx W (by omega))
 obtain ⟨S,hS⟩:∃ S,mkB (hexL (bl tx))=S:=⟨_,rfl⟩
 rw [hS] at fx
 have hSb:bl S=hexL (bl tx):=by rw [←hS,bl_mkB]
 have hSz:S.size≤80000:=by rw [←bl_length,hSb,hexL_len,bl_length];omega
 rw [←hSb]
 clear hS hSb
 have qu:=hide (fun W=>rquo_any S W (by omega))
 have hql:=quo_len (bl S)
 rw [bl_length] at hql
 obtain ⟨Q,hQ⟩:∃ Q,mkB (quo (bl S))=Q:=⟨_,rfl⟩
 have hQb:Hid (bl Q=quo (bl S)):=by show _=_;rw [←hQ,bl_mkB]
 have hQz:Q.size≤1000000:=by rw [←bl_length,hQb.out];omega
 rw [hQ] at qu
 have sp:=hide (fun W=>rspec_any ⟨#[36,98,121,116,101,115]⟩ Q W (by decide) (by omega))
 have hfin:Hid (mkB (nmd dBytes (bl S))=mkB (spc (bl ⟨#[36,98,121,116,101,115]⟩) (bl Q))):=by show _=_;rw [hQb.out];rfl
 show Calls _ _ _ _ fun e w'=>e=.returned (.string (mkB (nmd dBytes (bl S))))∧Below w.heap.size w w'
 rw [hfin.out]
 obtain ⟨Z,hZ⟩:∃ Z,mkB (spc (bl ⟨#[36,98,121,116,101,115]⟩) (bl Q))=Z:=⟨_,rfl⟩
 rw [hZ] at sp ⊢
 clear hQ hQz hql hZ
 go_enter Tryz.func27, Tryz.ntmps27
 go_wp2_with (go_at_call 57;refine Sto.out ?_)
 refine Sto.mk ((fx.out _).mono ?_)
 rintro e w1 ⟨rfl,hb1⟩
 have B1:Hid (Below w.heap.size w w1):=(below_al (Below.refl _ _)).trans (hb1.mono (by simp))
 clear hb1
 go_wp2_with (go_at_call 55;refine Sto.out ?_)
 refine Sto.mk ((qu.out _).mono ?_)
 rintro e w2 ⟨rfl,hb2⟩
 have B2:Hid (Below w.heap.size w w2):=B1.out.trans (hb2.mono B1.out.size)
 clear hb2
 go_wp2_with (go_at_call 54;refine Sto.out ?_)
 refine Sto.mk ((sp.out _).mono ?_)
 rintro e w3 ⟨rfl,hb3⟩
 have B3:Hid (Below w.heap.size w w3):=B2.out.trans (hb3.mono B2.out.size)
 clear hb3
 go_wp2_with fail
 go_ret
 exact ⟨rfl,B3.out⟩
theorem Tc.kid {n:Nat} {h:Hd} {l:List (VT n)} {ns ls:Value} {w W:World} (hc:Tc (n + 1) ((h,l):VT (n + 1)) ns ls w) (k:Nat) (hk:k<l.length) (ns' ls':Value) (hrd:RD n W l[k] ns' ls') (hz:(jtx n l[k]).length≤100000000000000):Tc n l[k] ns' ls' W:=⟨hrd,hc.vo.kid k hk,hz⟩
structure Tw (w:World) (h:Hd) (ns ls:Value) (W:World):Prop where
 bx:Bx W w.heap.size h ns ls
 be:Below w.heap.size w W
theorem Tw.new (w:World) (h:Hd) (ns ls:Value):Tw w h ns ls (w.alloc (.cells (vals h ns ls) 29)):=⟨bx_new w h ns ls,below_al (Below.refl _ _)⟩
theorem Tw.then {w W W1:World} {h:Hd} {ns ls:Value} (t:Tw w h ns ls W) (hb:Below W.heap.size W W1):Tw w h ns ls W1:=⟨t.bx.below hb,t.be.trans (hb.mono t.be.size)⟩
theorem Tw.al {w W:World} {h:Hd} {ns ls:Value} {o:Obj} (t:Tw w h ns ls W):Tw w h ns ls (W.alloc o):=t.then (below_al (Below.refl _ _))
theorem Tw.drew {w W:World} {h:Hd} {ns ls:Value} {d:Nat} (t:Tw w h ns ls W):Tw w h ns ls (W.drewN d):=t.then ⟨rfl,rfl,rfl,Nat.le_refl _,fun _ _=>rfl⟩
theorem Tw.dr {w W:World} {h:Hd} {ns ls:Value} (t:Tw w h ns ls W):Tw w h ns ls W.drew:=t.then (Below.refl _ _).drew
set_option maxRecDepth 100000 in
theorem rtx_9 (n:Nat) (rt:RTx n) (h:Hd) (l:List (VT n)) (ns ls:Value) (w:World) (hc:Tc (n + 1) ((h,l):VT (n + 1)) ns ls w) (hk:h.kind=9) :
  Calls Tryz.prog 27 #[.agg (vals h ns ls)] w fun e w'=>TxP w (jtx (n + 1) ((h,l):VT (n + 1))) e w':=by
 obtain ⟨al,cl,rfl,hl1,hl2⟩:=hc.rd.len
 obtain ⟨an,cn,rfl,hn1,hn2⟩:=hc.rd.1.len
 have tz:=hide hc.vo.2.1.1
 have hl1':l.length=1:=(hc.vo.1.2.1.2.2.2 hk).2
 have hl0:0<l.length:=by omega
 obtain ⟨J,hJ⟩:∃ J,jtx n l[0]=J:=⟨_,rfl⟩
 have hj:jtx (n + 1) ((h,l):VT (n + 1))=[123]++(quo dTag++([58,91]++(quo (bl h.text)++([44]++(J++[93,125]))))):=by
  show (if h.kind=1 then _ else _)=_
  rw [if_neg (show ¬ h.kind=1 by omega),if_neg (show ¬ h.kind=2 by omega),if_neg (show ¬ h.kind=3 by omega),if_neg (show ¬ h.kind=4 by omega),if_neg (show ¬ h.kind=5 by omega),if_neg (show ¬ h.kind=6 by omega),if_neg (show ¬ h.kind=7 by omega),if_neg (show ¬ h.kind=8 by omega),←hJ]
  show [123]++(quo dTag++([58,91]++(quo (bl h.text)++([44]++((l[0]?).elim [] (jtx n)++[93,125])))))=_
  rw [List.getElem?_eq_getElem hl0]
  rfl
 have hlen:=hc.lo
 rw [hj] at hlen ⊢
 have hJl:J.length≤100000000000000:=by simp at hlen;omega
 obtain ⟨b,o,c,he,hbl,hlc,hcm2,ns',ls',hrg,hrd⟩:=hc.rd.at 0 hl0
 have he':=Value.slice.inj he
 obtain ⟨rfl,_,rfl⟩:=he'
 clear he
 obtain ⟨a1,m1,d1,a2,m2,d2,rfl,rfl⟩:=hrd.shape
 have htz:h.text.size≤64:=by
  have q:=tz.out
  simp only [hk] at q
  have q2:(h.text.size:Int)≤64:=q
  omega
 have tg:=hide (fun W (hb:Below w.heap.size w W)=>rt l[0] _ _ W (hc.kid 0 hl0 _ _ (hrd.below hb) (by rw [hJ];exact hJl)))
 rw [hJ] at tg
 have HRG:=hide hrg
 obtain ⟨g,hg⟩:∃ g,vhd n l[0]=g:=⟨_,rfl⟩
 have hg2:vhd n ((h,l):VT (n + 1)).2[0]=g:=hg
 rw [hg2] at HRG
 rw [hg] at tg
 simp only [vals] at tg
 have qu:=hide (fun W=>rquo_any h.text W (by omega))
 have hql:=quo_len (bl h.text)
 rw [bl_length] at hql
 obtain ⟨q,hq⟩:∃ q,quo (bl h.text)=q:=⟨_,rfl⟩
 rw [hq] at qu hql ⊢
 obtain ⟨q1,f1⟩:∃ q1,91 :: q=q1:=⟨_,rfl⟩
 obtain ⟨q2,f2⟩:∃ q2,q1++[44]=q2:=⟨_,rfl⟩
 obtain ⟨q3,f3⟩:∃ q3,q2++J=q3:=⟨_,rfl⟩
 obtain ⟨q4,f4⟩:∃ q4,q3++[93]=q4:=⟨_,rfl⟩
 have l1:q1.length=q.length + 1:=by rw [←f1];simp
 have l2:q2.length=q1.length + 1:=by rw [←f2];simp
 have l3:q3.length=q2.length + J.length:=by rw [←f3];simp
 have l4:q4.length=q3.length + 1:=by rw [←f4];simp
 have r1:=cat_run ⟨#[91]⟩ (mkB q) q1 (by rw [bl_mkB,←f1];rfl) (by omega)
 have r2:=cat_run (mkB q1) ⟨#[44]⟩ q2 (by rw [bl_mkB,←f2];rfl) (by omega)
 have r3:=cat_run (mkB q2) (mkB J) q3 (by rw [bl_mkB,bl_mkB,←f3]) (by omega)
 have r4:=cat_run (mkB q3) ⟨#[93]⟩ q4 (by rw [bl_mkB,←f4];rfl) (by omega)
 have sp:=hide (fun W=>rspec_any ⟨#[36,116,97,103]⟩ (mkB q4) W (by decide) (by rw [mkB_size];omega))
 have hfin:[123]++(quo dTag++([58,91]++(q++([44]++(J++[93,125])))))=spc (bl ⟨#[36,116,97,103]⟩) (bl (mkB q4)):=by
  rw [bl_mkB,←f4,←f3,←f2,←f1]
  simp [spc,dTag,bl]
 show Calls _ _ _ _ fun e w'=>e=.returned (.string (mkB _))∧Below w.heap.size w w'
 rw [hfin]
 obtain ⟨Z,hZ⟩:∃ Z,mkB (spc (bl ⟨#[36,116,97,103]⟩) (bl (mkB q4)))=Z:=⟨_,rfl⟩
 rw [hZ] at sp ⊢
 clear hZ hfin l1 l2 l3 l4 f1 f2 f3 f4 hq hql hj hlen hJ hJl tz hg hg2 hrd hrg hc rt
 obtain ⟨kd,fl,ng,dg,ex,bt,tx,nm⟩:=h
 simp only at hk qu htz hn1 hn2 hl1 hl2
 subst hk
 show Calls _ _ #[.agg #[.int .i64 9,.bool fl,.bool ng,.string dg,.int .i64 ex,.int .u64 bt,.string tx,.slice an nm.length cn,.slice (some ⟨b,o,none⟩) l.length cl]] _ _
 have hl0i:(0:Int)<(l.length:Int):=by omega
 have hl1h:=hide hl1'
 clear hl1'
 have T0:Hid (Tw w ⟨9,fl,ng,dg,ex,bt,tx,nm⟩ (.slice an nm.length cn) (.slice (some ⟨b,o,none⟩) l.length cl) _):=Tw.new w _ _ _
 have mkS:Hid (∀ W,Tw w ⟨9,fl,ng,dg,ex,bt,tx,nm⟩ (.slice an nm.length cn) (.slice (some ⟨b,o,none⟩) l.length cl) W→(fun w'=>w'.cell? ⟨w.heap.size,6,none⟩=some (.string tx)∧w'.cell? ⟨w.heap.size,8,none⟩=some (.slice (some ⟨b,o,none⟩) l.length cl)∧w'.cell? ⟨b,o,none⟩=some (.int .i64 g.kind)∧w'.cell? ⟨b,o + 1,none⟩=some (.bool g.flag)∧w'.cell? ⟨b,o + 2,none⟩=some (.bool g.neg)∧w'.cell? ⟨b,o + 3,none⟩=some (.string g.dig)∧w'.cell? ⟨b,o + 4,none⟩=some (.int .i64 g.exp)∧w'.cell? ⟨b,o + 5,none⟩=some (.int .u64 g.bits)∧w'.cell? ⟨b,o + 6,none⟩=some (.string g.text)∧w'.cell? ⟨b,o + 7,none⟩=some (.slice a1 m1 d1)∧w'.cell? ⟨b,o + 8,none⟩=some (.slice a2 m2 d2)) W):=by
  intro W t
  obtain ⟨e0,e1,e2,e3,e4,e5,e6,e7,e8⟩:=range9 (rangeAt_below HRG.out t.be hbl)
  simp only [Nat.zero_mul,Nat.add_zero] at e0 e1 e2 e3 e4 e5 e6 e7 e8
  obtain ⟨v0,v1,v2,v3,v4,v5,v6,v7,v8⟩:=t.bx.cells
  exact ⟨v6,v8,e0,e1,e2,e3,e4,e5,e6,e7,e8⟩
 simp only [vals] at T0
 go_enter Tryz.func27, Tryz.ntmps27
 go_wp2_with fail
 go_region_held3 (fun w'=>w'.cell? ⟨w.heap.size,6,none⟩=some (.string tx)∧w'.cell? ⟨w.heap.size,8,none⟩=some (.slice (some ⟨b,o,none⟩) l.length cl)∧w'.cell? ⟨b,o,none⟩=some (.int .i64 g.kind)∧w'.cell? ⟨b,o + 1,none⟩=some (.bool g.flag)∧w'.cell? ⟨b,o + 2,none⟩=some (.bool g.neg)∧w'.cell? ⟨b,o + 3,none⟩=some (.string g.dig)∧w'.cell? ⟨b,o + 4,none⟩=some (.int .i64 g.exp)∧w'.cell? ⟨b,o + 5,none⟩=some (.int .u64 g.bits)∧w'.cell? ⟨b,o + 6,none⟩=some (.string g.text)∧w'.cell? ⟨b,o + 7,none⟩=some (.slice a1 m1 d1)∧w'.cell? ⟨b,o + 8,none⟩=some (.slice a2 m2 d2)) (first|exact mkS.out _ (by repeat (first|(with_reducible exact Hid.out (by assumption))|(with_reducible refine Tw.drew ?_)|(with_reducible refine Tw.dr ?_)|(with_reducible refine Tw.al ?_)))) (first
  | (go_at_call 55;refine (qu.out _).mono ?_;rintro e w1 ⟨rfl,hb1⟩;have T1:Hid (Tw w ⟨9,fl,ng,dg,ex,bt,tx,nm⟩ (.slice an nm.length cn) (.slice (some ⟨b,o,none⟩) l.length cl) w1):=Tw.then (by repeat (first|(with_reducible exact Hid.out (by assumption))|(with_reducible refine Tw.drew ?_)|(with_reducible refine Tw.dr ?_)|(with_reducible refine Tw.al ?_))) hb1;clear hb1)
  | (go_at_call 27;refine (tg.out _ (Tw.be (by repeat (first|(with_reducible exact Hid.out (by assumption))|(with_reducible refine Tw.drew ?_)|(with_reducible refine Tw.dr ?_)|(with_reducible refine Tw.al ?_))))).mono ?_;rintro e w2 ⟨rfl,hb2⟩;have T2:Hid (Tw w ⟨9,fl,ng,dg,ex,bt,tx,nm⟩ (.slice an nm.length cn) (.slice (some ⟨b,o,none⟩) l.length cl) w2):=Tw.then (by repeat (first|(with_reducible exact Hid.out (by assumption))|(with_reducible refine Tw.drew ?_)|(with_reducible refine Tw.dr ?_)|(with_reducible refine Tw.al ?_))) hb2;clear hb2)
  | (go_at_call 54;refine (sp.out _).mono ?_;rintro e w3 ⟨rfl,hb3⟩;have T3:Hid (Tw w ⟨9,fl,ng,dg,ex,bt,tx,nm⟩ (.slice an nm.length cn) (.slice (some ⟨b,o,none⟩) l.length cl) w3):=Tw.then (by repeat (first|(with_reducible exact Hid.out (by assumption))|(with_reducible refine Tw.drew ?_)|(with_reducible refine Tw.dr ?_)|(with_reducible refine Tw.al ?_))) hb3;clear hb3))
 all_goals
  go_wp2_with fail
  go_ret
  exact ⟨rfl,T3.out.be⟩
structure To (w:World) (h:Hd) (ns ls:Value) (v:Value) (L:List UInt8) (W:World):Prop where
 tw:Tw w h ns ls W
 own:Own W (w.heap.size + 1) v L
section
variable {w W W1 : World} {h : Hd} {ns ls v : Value} {L : List UInt8}
theorem To.then (t:To w h ns ls v L W) (hb:Below W.heap.size W W1):To w h ns ls v L W1:=⟨t.tw.then hb,ownsRow_of t.own fun g _ hlt=>hb.block g hlt⟩
theorem To.al {o:Obj} (t:To w h ns ls v L W):To w h ns ls v L (W.alloc o):=t.then (below_al (Below.refl _ _))
theorem To.on {v':Value} {L':List UInt8} (t:To w h ns ls v L W) (hb:Below (w.heap.size + 1) W W1) (ho:Own W1 (w.heap.size + 1) v' L'):To w h ns ls v' L' W1 :=
 ⟨⟨⟨(hb.block _ (Nat.lt_succ_self _)).trans t.tw.bx.at_⟩,t.tw.be.trans (hb.mono (Nat.le_succ _))⟩,ho⟩
theorem To.lt (t:To w h ns ls v L W):w.heap.size + 1≤W.heap.size:=t.tw.bx.lt
end
theorem app_st {w:World} {ops:Array Oper} {rest:List Oper} {o:Oper} {a:Act} {Q:Exit→Act→World→Prop} (hgd:o.guard=none) (sl x:Operand) (ho:o.op=.call {callee:=.builtin .append,args:=#[sl,x],argTypes:=#[32,9]})
  (B:Nat) (v:Value) (l:List UInt8) (hs:a.eval sl=v) (hown:Own w B v l) (s:ByteArray) (hx:a.eval x=.string s) (hl:l.length + s.size≤110000000000000) (hB:B≤w.heap.size)
  (h:∀ av c' w',Hid (Own w' B (.slice av (l.length + s.size) c') (l++bl s))→Hid (Below B w w')→wpList Tryz.prog ops Q rest (a.put o.dst (.slice av (l.length + s.size) c')) w'):wpList Tryz.prog ops Q (o :: rest) a w:=by
 obtain ⟨i0,hi,hz0,hz1,hz2⟩:=info_parts info5
 refine wpList_plain hgd fun K hK=>?_
 obtain ⟨v',w',hr,h2,h3,h4⟩:=Lib.run_append_own_string (P:=Tryz.prog) w B 32 9 o.type 5 i0 Tryz.underlying32 Tryz.underlying9 hi hz0 hz1 hz2 v l.length (bcs l) hown s (by unfold maxLen;omega) (by omega) hB
 have hO:Own w' B v' (l++bl s):=by
  unfold Own
  rw [bcs_append,List.length_append,bl_length,←strCells_bcs];exact h2
 have hBl:Below B w w':=(Below.refl B w).grown h3 hB (World.ownsRow.lt hown |> fun q k hk=>(q k hk).1)
 have key:wpList Tryz.prog ops Q rest (a.put o.dst v') w':=by
  rcases h2.2 with ⟨rfl,e⟩|⟨g',cap,cur,rfl,_⟩
  ·have e':l.length + s.size=0:=e
   have q:=h none 0 w' (by rw [e'];exact hO) hBl
   rw [e'] at q
   exact q
  ·exact h _ _ w' hO hBl
 unfold Oper.wp execOp
 simp only [ho,resolve,invoke,builtin,Sem.run_bind,Sem.run_pure,Result.andThen_ok,List.map_toArray,List.map_cons,List.map_nil,hs,hx,hr]
 exact hK _ _ key
set_option maxRecDepth 100000 in
theorem rtx_7 (n:Nat) (rt:RTx n) (h:Hd) (l:List (VT n)) (ns ls:Value) (w:World) (hc:Tc (n + 1) ((h,l):VT (n + 1)) ns ls w) (hk:h.kind=7) :
  Calls Tryz.prog 27 #[.agg (vals h ns ls)] w fun e w'=>TxP w (jtx (n + 1) ((h,l):VT (n + 1))) e w':=by
 obtain ⟨al,cl,rfl,hl1,hl2⟩:=hc.rd.len
 obtain ⟨an,cn,rfl,hn1,hn2⟩:=hc.rd.1.len
 have hj:jtx (n + 1) ((h,l):VT (n + 1))=[91]++(jel n l l.length++[93]):=by
  show (if h.kind=1 then _ else _)=_
  rw [if_neg (show ¬ h.kind=1 by omega),if_neg (show ¬ h.kind=2 by omega),if_neg (show ¬ h.kind=3 by omega),if_neg (show ¬ h.kind=4 by omega),if_neg (show ¬ h.kind=5 by omega),if_neg (show ¬ h.kind=6 by omega),if_pos hk]
  rfl
 have hlen:=hc.lo
 rw [hj] at hlen ⊢
 have hl256:l.length≤256:=hc.vo.2.1.2.1
 have hjl:(jel n l l.length).length≤100000000000000:=by simp at hlen;omega
 have hc':=hide hc
 have hjl':=hide hjl
 have rt':=hide rt
 clear hc hlen hj hjl rt
 obtain ⟨kd,fl,ng,dg,ex,bt,tx,nm⟩:=h
 simp only at hk hn1 hn2 hl1 hl2
 subst hk
 show Calls _ _ #[.agg #[.int .i64 7,.bool fl,.bool ng,.string dg,.int .i64 ex,.int .u64 bt,.string tx,.slice an nm.length cn,.slice al l.length cl]] _ _
 have T0:Hid (To w ⟨7,fl,ng,dg,ex,bt,tx,nm⟩ (.slice an nm.length cn) (.slice al l.length cl) (.slice none 0 0) [] _):=⟨Tw.new w _ _ _,own_nil _ _⟩
 simp only [vals] at T0
 obtain ⟨v0,v1,v2,v3,v4,v5,v6,v7,v8⟩:=T0.out.tw.bx.cells
 go_enter Tryz.func27, Tryz.ntmps27
 go_wp2_with fail
 clear v0 v1 v2 v3 v4 v5 v6 v7 v8
 go_loopw [5,6] (fun b i W=>∃ (k nn:Nat) (a:Option Addr) (cp:Nat) (L:List UInt8),i=.int .i64 k∧b=.slice a nn cp∧k≤l.length∧Hid (L=jel n l k∧nn=L.length∧To w ⟨7,fl,ng,dg,ex,bt,tx,nm⟩ (.slice an nm.length cn) (.slice al l.length cl) (.slice a nn cp) L W)) (fun _ i _=>l.length - (intOf i).toNat)
 case atStart=>exact ⟨0,0,none,0,[],rfl,rfl,Nat.zero_le _,hide ⟨rfl,rfl,T0.out⟩⟩
 case round =>
  obtain ⟨k,nn,a,cp,L,rfl,rfl,hk,HH⟩:=hrel
  obtain ⟨hL,hn,hT⟩:=HH.out
  have TR:=hide hT
  have hL':=hide hL
  have hln':=hide hn.symm
  have zr1:w.heap.size + 1≤wr.heap.size:=hT.lt
  obtain ⟨v0,v1,v2,v3,v4,v5,v6,v7,v8⟩:=hT.tw.bx.cells
  clear HH hT hL hn T0
  by_cases hkl:k<l.length
  ·have hki:(k:Int)<(l.length:Int):=by omega
   have hsu:=hide (jel_succ n l k hkl)
   have hle:=(jel_le n l (k:=k + 1) hkl).length_le
   rw [hsu.out,←hL'.out,List.length_append,List.length_append] at hle
   have hle':=hjl'.out
   obtain ⟨b,o,c,he,hbl,hlc,hcm2,ns',ls',hrg,hrd⟩:=hc'.out.rd.at k hkl
   have he':=Value.slice.inj he
   obtain ⟨rfl,_,rfl⟩:=he'
   clear he
   obtain ⟨a1,m1,d1,a2,m2,d2,rfl,rfl⟩:=hrd.shape
   obtain ⟨J,hJ⟩:∃ J,jtx n l[k]=J:=⟨_,rfl⟩
   rw [hJ] at hle hsu
   have hJz:J.length≤100000000000000:=by omega
   have hJs:(mkB J).size=J.length:=mkB_size J
   have tg:=hide (fun W (hb:Below w.heap.size w W)=>rt'.out l[k] _ _ W (hc'.out.kid k hkl _ _ (hrd.below hb) (by rw [hJ];exact hJz)))
   rw [hJ] at tg
   have HRG:=hide hrg
   obtain ⟨g,hg⟩:∃ g,vhd n l[k]=g:=⟨_,rfl⟩
   have hg2:vhd n ((⟨7,fl,ng,dg,ex,bt,tx,nm⟩,l):VT (n + 1)).2[k]=g:=hg
   rw [hg2] at HRG
   rw [hg] at tg
   simp only [vals] at tg
   have hLn:nn + (cmL k).length + J.length≤100000000000000:=by rw [←hln'.out];omega
   clear hg hg2 hrd hrg hJ hle hle'
   by_cases hk0:k=0
   ·have hk0i:¬ (0:Int)<(k:Int):=by omega
    have hcm:Hid (cmL k=[]):=by show _=_;rw [hk0];rfl
    have hk0':=hide hk0
    rw [hcm.out] at hLn
    simp only [List.length_nil] at hLn
    clear hk0
    obtain ⟨e0,e1,e2,e3,e4,e5,e6,e7,e8⟩:=range9 (rangeAt_below HRG.out TR.out.tw.be hbl)
    go_wp2_with (go_at_call 27;refine Sto.out ?_)
    refine Sto.mk ((tg.out _ TR.out.tw.be).mono ?_)
    rintro e w5 ⟨rfl,hb5⟩
    have T5:=hide (TR.out.then hb5)
    clear hb5 e0 e1 e2 e3 e4 e5 e6 e7 e8 v0 v1 v2 v3 v4 v5 v6 v7 v8
    go_wp2_with (at_builtin;refine Sto.out ?_)
    refine Sto.mk ?_
    refine app_st rfl (.tmp 100) (.tmp 106) rfl (w.heap.size + 1) (.slice a nn cp) L rfl T5.out.own (mkB J) rfl (by rw [hln'.out,hJs];omega) T5.out.lt ?_
    intro av6 c6 w6 ho hb
    rw [hln'.out,hJs] at ho ⊢
    have T6:=hide (T5.out.on hb.out ho.out)
    clear ho hb
    obtain ⟨v0,v1,v2,v3,v4,v5,v6,v7,v8⟩:=T6.out.tw.bx.cells
    go_wp2_with fail
    refine ⟨⟨k + 1,nn + J.length,av6,c6,L++bl (mkB J),by go_num,rfl,hkl,hide ⟨by rw [hsu.out,hcm.out,bl_mkB,←hL'.out];simp,by rw [List.length_append,hln'.out,bl_length,hJs],T6.out⟩⟩,by simp [intOf];omega⟩
   ·have hk0i:(0:Int)<(k:Int):=by omega
    have hcm:Hid (cmL k=[44]):=by show _=_;unfold cmL;rw [show (k==0)=false by simpa using hk0];rfl
    have hk0':=hide hk0
    rw [hcm.out] at hLn
    simp only [List.length_singleton] at hLn
    clear hk0
    go_wp2_with (at_builtin;refine Sto.out ?_)
    refine Sto.mk ?_
    refine app_bs rfl (.tmp 68) (.tmp 69) rfl (w.heap.size + 1) (.slice a nn cp) L rfl TR.out.al.own ⟨wr.heap.size,0,none⟩ 1 1 [44] rfl rfl (news_any wr _ [44] 5 rfl) (by rw [hln'.out];omega) (by simp;omega) (by omega) ?_
    intro av c4 w4 ho hb
    rw [hln'.out] at ho ⊢
    have T4:=hide (TR.out.al.on hb.out ho.out)
    have hl4:Hid ((L++[44]).length=nn + 1):=by show _=_;rw [List.length_append,hln'.out];rfl
    clear ho hb v0 v1 v2 v3 v4 v5 v6 v7 v8
    obtain ⟨v0,v1,v2,v3,v4,v5,v6,v7,v8⟩:=T4.out.tw.bx.cells
    obtain ⟨e0,e1,e2,e3,e4,e5,e6,e7,e8⟩:=range9 (rangeAt_below HRG.out T4.out.tw.be hbl)
    go_wp2_with (go_at_call 27;refine Sto.out ?_)
    refine Sto.mk ((tg.out _ T4.out.tw.be).mono ?_)
    rintro e w5 ⟨rfl,hb5⟩
    have T5:=hide (T4.out.then hb5)
    clear hb5 e0 e1 e2 e3 e4 e5 e6 e7 e8 v0 v1 v2 v3 v4 v5 v6 v7 v8
    go_wp2_with (at_builtin;refine Sto.out ?_)
    refine Sto.mk ?_
    refine app_st rfl (.tmp 100) (.tmp 106) rfl (w.heap.size + 1) (.slice av (nn + 1) c4) (L++[44]) rfl T5.out.own (mkB J) rfl (by rw [hl4.out,hJs];omega) T5.out.lt ?_
    intro av6 c6 w6 ho hb
    rw [hl4.out,hJs] at ho ⊢
    have T6:=hide (T5.out.on hb.out ho.out)
    clear ho hb
    obtain ⟨v0,v1,v2,v3,v4,v5,v6,v7,v8⟩:=T6.out.tw.bx.cells
    go_wp2_with fail
    refine ⟨⟨k + 1,(nn + 1) + J.length,av6,c6,(L++[44])++bl (mkB J),by go_num,rfl,hkl,hide ⟨by rw [hsu.out,hcm.out,bl_mkB,←hL'.out];simp,by rw [List.length_append,hl4.out,bl_length,hJs],T6.out⟩⟩,by simp [intOf];omega⟩
  ·have hki:¬ (k:Int)<(l.length:Int):=by omega
   have hke:k=l.length:=by omega
   have hcv:=own_conv TR.out.own
   have hLl:L.length≤100000000000000:=by rw [hL'.out,hke];exact hjl'.out
   rw [hke] at hL'
   obtain ⟨q1,f1⟩:∃ q1,91 :: L=q1:=⟨_,rfl⟩
   obtain ⟨q2,f2⟩:∃ q2,q1++[93]=q2:=⟨_,rfl⟩
   have l1:q1.length=L.length + 1:=by rw [←f1];simp
   have l2:q2.length=q1.length + 1:=by rw [←f2];simp
   have r1:=cat_run ⟨#[91]⟩ (mkB L) q1 (by rw [bl_mkB,←f1];rfl) (by omega)
   have r2:=cat_run (mkB q1) ⟨#[93]⟩ q2 (by rw [bl_mkB,←f2];rfl) (by omega)
   have hfin:Hid (91 :: (jel n l l.length++[93])=q2):=by show _=_;rw [←hL'.out,←f2,←f1];rfl
   clear f1 f2 l1 l2 hke hkl
   go_wp2_with fail
   go_ret
   refine ⟨?_,TR.out.tw.be⟩
   show _=Ending.returned (.string (mkB (91 :: (jel n l l.length++[93]))))
   rw [hfin.out]
   rfl
end Go.Proofs.YtpimjkdakjhoaaaGreatDoor
