/- Merged by program: JiRec, JjTag. -/
import Derived.Test.YtpimjkdakjhoaaaGreatDoorZw27
namespace Go.Proofs.YtpimjkdakjhoaaaGreatDoor
open Go.RowKit
set_option linter.unusedSimpArgs false
set_option linter.unusedVariables false
set_option maxHeartbeats 8000000
theorem pre_app {T V U X:List UInt8} (h:T++V <+: U):[123]++T <+: [123]++(U++X):=by
 obtain ⟨t,ht⟩:=h
 exact ⟨V++t++X,by rw [←ht];simp⟩
set_option maxRecDepth 100000 in
theorem jrec_any (n:Nat) (vo:ValOk n) (h:Hd) (l:List (VT n)) (ns ls:Value) (w0 W:World) (i:Nat) (A:List UInt8) (hc:Vc (n + 1) ((h,l):VT (n + 1)) ns ls w0 i W) (h8:h.kind=8) (hW:WB W i A) (hA:A.length≤65536) :
  Calls Tryz.prog 49 #[.pointer (some ⟨i,0,none⟩),.agg (vals h ns ls)] W fun e w'=>WO i A ([123]++(jrc n h.names l l.length++[125])) W e w':=by
 have hp:=hide (fun s A W (h:WB W i A) (hA:A.length≤65536) (hs:s.size≤281474976710656)=>put_any s A W i h hA hs)
 have ht:=hide (fun s A W (h:WB W i A) (hA:A.length≤65536) (hs:s.size≤281474976710656)=>text_any s A W i h hA hs)
 have hcm:=hide (fun k A W (h:WB W i A) (hA:A.length≤65536)=>comma_any k A W i h hA)
 have hhp:=hide hasp_any
 have vo':=hide vo
 have hc':=hide hc
 have hW':=hide hW
 have hA':=hide hA
 obtain ⟨al,cl,rfl,hl1,hl2⟩:=hc.rd.len
 obtain ⟨an,cn,rfl,hn1,hn2⟩:=hc.rd.1.len
 have hl256:l.length≤256:=hc.vo.2.1.2.1
 have hnl:h.names.length=l.length:=(hc.vo.1.2.1.2.2.1 h8).1
 have hnl':=hide hnl
 have hnm:=hide hc.vo.2.1.2.2.1
 have hloi:=hc.lo
 have hiW:=hW.lt
 simp only at hl1 hl2 hn1 hn2
 have V0:=hide (bx_new W h (.slice an h.names.length cn) (.slice al l.length cl))
 have X0:=hide (fun o=>hW.below (below_al (o:=o) (Below.refl W.heap.size W)))
 have N0:Hid (∀ o,NB W.heap.size (W.alloc o) i):=fun o=>NB.new hW
 have F0:Hid (∀ o,FW i W (W.alloc o)):=fun o=>FW.al (FW.refl _ _) hiW
 clear vo hc hW hA h8 hnl
 show Calls _ _ #[_,.agg #[.int .i64 h.kind,.bool h.flag,.bool h.neg,.string h.dig,.int .i64 h.exp,.int .u64 h.bits,.string h.text,.slice an h.names.length cn,.slice al l.length cl]] _ _
 go_enter Tryz.func49, Tryz.ntmps49
 go_wp2_with (go_at_call 41;refine Sto.out ?_)
 refine Sto.mk ((hp.out _ A _ (X0.out _) hA'.out (by decide)).mono ?_)
 rintro e w1 hw1
 replace hw1:WO i A [123] _ e w1:=hw1
 have kp:=hide (hw1.1.kept (N0.out _))
 have hw2:=WO.step (A:=A) (T:=[]) (F0.out _) (by simpa using hw1)
 clear hw1
 rcases hw2 with ⟨rfl,g1,g2,g3⟩|⟨rfl,g1,g2⟩
 ·have F1:=hide g1
  have X1:Hid (WB w1 i (A++[123])):=g2
  have L1:Hid ((A++[123]).length≤65536):=g3
  have V1:Hid (Bx w1 W.heap.size h (.slice an h.names.length cn) (.slice al l.length cl)):=V0.out.nb (i:=i) kp.out.1
  have N1:Hid (NB W.heap.size w1 i):=kp.out.2
  obtain ⟨v0,v1,v2,v3,v4,v5,v6,v7,v8⟩:=V1.out.cells
  clear g1 g2 g3 kp
  go_wp2_with fail
  go_loopw [11] (fun j wr=>∃ k:Nat,j=.int .i64 k∧k≤h.names.length∧Hid (FW i W wr∧WB wr i (A++([123]++jrc n h.names l k))∧(A++([123]++jrc n h.names l k)).length≤65536∧Bx wr W.heap.size h (.slice an h.names.length cn) (.slice al l.length cl)∧NB W.heap.size wr i)) (fun j _=>h.names.length - (intOf j).toNat)
  case atStart=>exact ⟨0,rfl,Nat.zero_le _,hide ⟨F1.out,by simpa [jrc] using X1.out,by have:=L1.out;simpa [jrc] using this,V1.out,N1.out⟩⟩
  case round =>
   obtain ⟨k,rfl,hk,HH⟩:=hrel
   obtain ⟨hF,hX,hL,hV,hN⟩:=HH.out
   have FR:=hide hF
   have XR:=hide hX
   have LR:=hide hL
   have VR:=hide hV
   have NR:=hide hN
   have hiw:=hX.lt
   clear HH hF hX hL hV hN F1 X1 L1 V1 N1 v0 v1 v2 v3 v4 v5 v6 v7 v8
   by_cases hkn:k<h.names.length
   ·have hkl:k<l.length:=by have:=hnl'.out;omega
    have hki:(k:Int)<(h.names.length:Int):=by omega
    have hkli:(k:Int)<(l.length:Int):=by omega
    obtain ⟨b,o,c,he,hbl,hlc,hcm2,ns',ls',hrg,hrd⟩:=hc'.out.rd.at k hkl
    have he':=Value.slice.inj he
    obtain ⟨rfl,_,rfl⟩:=he'
    clear he
    obtain ⟨bn,on,cn',hen,hbn,hln,hcn,hsn⟩:=hc'.out.rd.1.at k hkn
    have hen':=Value.slice.inj hen
    obtain ⟨rfl,_,rfl⟩:=hen'
    clear hen
    have hsn':=hide hsn
    obtain ⟨t,htt⟩:∃ t,h.names[k]=t:=⟨_,rfl⟩
    have hsn2:Hid (w0.cell? ⟨bn,on + k,none⟩=some (.string t)):=by show _=_;rw [←htt];exact hsn
    have htz:=hide (show t.size≤64 by rw [←htt];exact hnm.out _ (List.getElem_mem hkn))
    have BR:Hid (Below w0.heap.size w0 wr):=hc'.out.be.trans (FR.out.1.mono hloi)
    have s0:wr.cell? ⟨bn,on + k,none⟩=some (.string t):=(BR.out.cell (p:=⟨bn,on + k,none⟩) hbn).trans hsn2.out
    obtain ⟨a1,m1,d1,a2,m2,d2,rfl,rfl⟩:=hrd.shape
    have hsu:=hide (jrc_succ n h.names l k hkl hkn)
    rw [htt] at hsu
    have hpr:=hide (jrc_le n h.names l (k:=k + 1) (m:=l.length) hkl)
    rw [hsu.out] at hpr
    have vk:=hide (fun W (b:Below w0.heap.size w0 W) A (x:WB W i A) (a:A.length≤65536)=>vo'.out l[k] _ _ w0 W i A ⟨hrd,hc'.out.vo.kid k hkl,hloi,b,hc'.out.tab⟩ x a)
    obtain ⟨g,hg⟩:∃ g,vhd n l[k]=g:=⟨_,rfl⟩
    have hg2:vhd n ((h,l):VT (n + 1)).2[k]=g:=hg
    rw [hg] at vk
    simp only [vals] at vk
    have HRG:=hide hrg
    rw [hg2] at HRG
    have hbnw:bn<wr.heap.size:=Nat.lt_of_lt_of_le hbn BR.out.size
    clear hrg hrd hg hg2 hsn hsn' htt
    go_wp2_with (go_at_call 76;refine Sto.out ?_)
    refine Sto.mk ((hcm.out k _ _ XR.out LR.out).mono ?_)
    rintro e w3 hw3
    have kp3:=hide (hw3.1.kept NR.out)
    have hw4:=WO.step (A:=A) (T:=[123]++jrc n h.names l k) FR.out hw3
    clear hw3 s0
    rcases hw4 with ⟨rfl,g1,g2,g3⟩|⟨rfl,g1,g2⟩
    ·have F3:=hide g1
     have X3:=hide g2
     have L3:=hide g3
     have V3:=hide (VR.out.nb (i:=i) kp3.out.1)
     have N3:=hide kp3.out.2
     clear g1 g2 g3 kp3
     by_cases hk0:k=0
     ·have hpq:=hide (hhp.out t w3 (by have:=htz.out;omega))
      have dk:decide ((k:Int)=0)=true:=decide_eq_true (by omega)
      have dk2:((k:Int)==0)=true:=by simp;omega
      cases hq:(bl t).head?==some 36
      ·rw [hq] at hpq
       have hSb:=hide (show quo (bl t)=quo (nmD k (bl t)) by unfold nmD;rw [hq];simp)
       have hSz:=hide (show t.size≤281474976710656 by have:=htz.out;omega)
       have hk0':=hide hk0
       have hq':=hide hq
       clear hk0 hq
       go_wp2_with (go_at_call 77;refine Sto.out ?_)
       refine Sto.mk (hpq.out.mono ?_)
       rintro e w3' ⟨rfl,hw3'⟩
       subst w3'
       go_wp2_with (go_at_call 46;refine Sto.out ?_)
       refine Sto.mk ((ht.out t _ w3 X3.out L3.out hSz.out).mono ?_)
       rintro e w5 hw5
       rw [hSb.out] at hw5
       have kp5:=hide (hw5.1.kept N3.out)
       have hw6:=WO.step (A:=A) (T:=[123]++jrc n h.names l k++cmL k) F3.out hw5
       clear hw5
       rcases hw6 with ⟨rfl,g1,g2,g3⟩|⟨rfl,g1,g2⟩
       ·have F5:=hide g1
        have X5:=hide g2
        have L5:=hide g3
        have V5:=hide (V3.out.nb (i:=i) kp5.out.1)
        have N5:=hide kp5.out.2
        clear g1 g2 g3 kp5
        go_wp2_with (go_at_call 41;refine Sto.out ?_)
        refine Sto.mk ((hp.out _ _ w5 X5.out L5.out (by decide)).mono ?_)
        rintro e w7 hw7
        replace hw7:WO i (A++([123]++jrc n h.names l k++cmL k++quo (nmD k (bl t)))) [58] w5 e w7:=hw7
        have kp7:=hide (hw7.1.kept N5.out)
        have hw8:=WO.step (A:=A) F5.out hw7
        clear hw7
        rcases hw8 with ⟨rfl,g1,g2,g3⟩|⟨rfl,g1,g2⟩
        ·have F7:=hide g1
         have X7:=hide g2
         have L7:=hide g3
         have V7:=hide (V5.out.nb (i:=i) kp7.out.1)
         have N7:=hide kp7.out.2
         have B7:Hid (Below w0.heap.size w0 w7):=hc'.out.be.trans (F7.out.1.mono hloi)
         obtain ⟨v0,v1,v2,v3,v4,v5,v6,v7,v8⟩:=V7.out.cells
         obtain ⟨e0,e1,e2,e3,e4,e5,e6,e7,e8⟩:=range9 (rangeAt_below HRG.out B7.out hbl)
         clear g1 g2 g3 kp7
         go_wp2_with (go_at_call 25;refine Sto.out ?_)
         refine Sto.mk ((vk.out w7 B7.out _ X7.out L7.out).mono ?_)
         rintro e w9 hw9
         have kp9:=hide (hw9.1.kept N7.out)
         have hw10:=WO.step (A:=A) F7.out hw9
         clear hw9 v0 v1 v2 v3 v4 v5 v6 v7 v8 e0 e1 e2 e3 e4 e5 e6 e7 e8
         rcases hw10 with ⟨rfl,g1,g2,g3⟩|⟨rfl,g1,g2⟩
         ·have K:Hid (FW i W w9∧WB w9 i (A++([123]++jrc n h.names l (k + 1)))∧(A++([123]++jrc n h.names l (k + 1))).length≤65536∧Bx w9 W.heap.size h (.slice (some ⟨bn,on,none⟩) h.names.length cn) (.slice (some ⟨b,o,none⟩) l.length cl)∧NB W.heap.size w9 i):=by
           refine ⟨g1,?_,?_,V7.out.nb (i:=i) kp9.out.1,kp9.out.2⟩
           ·rw [hsu.out];simpa only [List.append_assoc] using g2
           ·rw [hsu.out];simpa only [List.append_assoc] using g3
          clear g1 g2 g3 kp9
          go_wp2_with fail
          exact ⟨⟨k + 1,by go_num,hkn,K⟩,by simp [intOf];omega⟩
         ·have K:=hide (WO.pre (A:=A) (T:=[123]++(jrc n h.names l k++(cmL k++(quo (nmD k (bl t))++([58]++jtx n l[k]))))) (U:=[123]++(jrc n h.names l l.length++[125])) g1 (pre_app (V:=[]) (by simpa using hpr.out)) (by simpa only [List.append_assoc] using g2))
          clear g1 g2
          go_wp2_with fail
          exact ⟨rfl,K.out⟩
        ·have K:=hide (WO.pre (A:=A) (T:=[123]++(jrc n h.names l k++(cmL k++(quo (nmD k (bl t))++[58])))) (U:=[123]++(jrc n h.names l l.length++[125])) g1 (pre_app (V:=jtx n l[k]) (by simpa using hpr.out)) (by simpa only [List.append_assoc] using g2))
         clear g1 g2
         go_wp2_with fail
         exact ⟨rfl,K.out⟩
       ·have K:=hide (WO.pre (A:=A) (T:=[123]++(jrc n h.names l k++(cmL k++quo (nmD k (bl t))))) (U:=[123]++(jrc n h.names l l.length++[125])) g1 (pre_app (V:=[58]++jtx n l[k]) (by simpa using hpr.out)) (by simpa only [List.append_assoc] using g2))
        clear g1 g2
        go_wp2_with fail
        exact ⟨rfl,K.out⟩
      ·rw [hq] at hpq
       obtain ⟨S,hS⟩:∃ S,(⟨#[36]⟩:ByteArray)++t=S:=⟨_,rfl⟩
       have hadd:∀ w,(Op.stringOp .add ⟨#[36]⟩ t).run Tryz.prog w=.ok (.string S) w:=fun w=>jcat_run _ _ _ w hS (by have:=htz.out;show 1 + t.size≤_;omega)
       have hbS:bl S=36 :: bl t:=by rw [←hS];simp [bl]
       have hSb:=hide (show quo (bl S)=quo (nmD k (bl t)) by unfold nmD;rw [hq,hbS,hk0];rfl)
       have hSz:=hide (show S.size≤281474976710656 by rw [←bl_length,hbS];simp only [List.length_cons,bl_length];have:=htz.out;omega)
       have hk0':=hide hk0
       have hq':=hide hq
       clear hk0 hq hS hbS
       go_wp2_with (go_at_call 77;refine Sto.out ?_)
       refine Sto.mk (hpq.out.mono ?_)
       rintro e w3' ⟨rfl,hw3'⟩
       subst w3'
       go_wp2_with (go_at_call 46;refine Sto.out ?_)
       refine Sto.mk ((ht.out S _ w3 X3.out L3.out hSz.out).mono ?_)
       rintro e w5 hw5
       rw [hSb.out] at hw5
       have kp5:=hide (hw5.1.kept N3.out)
       have hw6:=WO.step (A:=A) (T:=[123]++jrc n h.names l k++cmL k) F3.out hw5
       clear hw5
       rcases hw6 with ⟨rfl,g1,g2,g3⟩|⟨rfl,g1,g2⟩
       ·have F5:=hide g1
        have X5:=hide g2
        have L5:=hide g3
        have V5:=hide (V3.out.nb (i:=i) kp5.out.1)
        have N5:=hide kp5.out.2
        clear g1 g2 g3 kp5
        go_wp2_with (go_at_call 41;refine Sto.out ?_)
        refine Sto.mk ((hp.out _ _ w5 X5.out L5.out (by decide)).mono ?_)
        rintro e w7 hw7
        replace hw7:WO i (A++([123]++jrc n h.names l k++cmL k++quo (nmD k (bl t)))) [58] w5 e w7:=hw7
        have kp7:=hide (hw7.1.kept N5.out)
        have hw8:=WO.step (A:=A) F5.out hw7
        clear hw7
        rcases hw8 with ⟨rfl,g1,g2,g3⟩|⟨rfl,g1,g2⟩
        ·have F7:=hide g1
         have X7:=hide g2
         have L7:=hide g3
         have V7:=hide (V5.out.nb (i:=i) kp7.out.1)
         have N7:=hide kp7.out.2
         have B7:Hid (Below w0.heap.size w0 w7):=hc'.out.be.trans (F7.out.1.mono hloi)
         obtain ⟨v0,v1,v2,v3,v4,v5,v6,v7,v8⟩:=V7.out.cells
         obtain ⟨e0,e1,e2,e3,e4,e5,e6,e7,e8⟩:=range9 (rangeAt_below HRG.out B7.out hbl)
         clear g1 g2 g3 kp7
         go_wp2_with (go_at_call 25;refine Sto.out ?_)
         refine Sto.mk ((vk.out w7 B7.out _ X7.out L7.out).mono ?_)
         rintro e w9 hw9
         have kp9:=hide (hw9.1.kept N7.out)
         have hw10:=WO.step (A:=A) F7.out hw9
         clear hw9 v0 v1 v2 v3 v4 v5 v6 v7 v8 e0 e1 e2 e3 e4 e5 e6 e7 e8
         rcases hw10 with ⟨rfl,g1,g2,g3⟩|⟨rfl,g1,g2⟩
         ·have K:Hid (FW i W w9∧WB w9 i (A++([123]++jrc n h.names l (k + 1)))∧(A++([123]++jrc n h.names l (k + 1))).length≤65536∧Bx w9 W.heap.size h (.slice (some ⟨bn,on,none⟩) h.names.length cn) (.slice (some ⟨b,o,none⟩) l.length cl)∧NB W.heap.size w9 i):=by
           refine ⟨g1,?_,?_,V7.out.nb (i:=i) kp9.out.1,kp9.out.2⟩
           ·rw [hsu.out];simpa only [List.append_assoc] using g2
           ·rw [hsu.out];simpa only [List.append_assoc] using g3
          clear g1 g2 g3 kp9
          go_wp2_with fail
          exact ⟨⟨k + 1,by go_num,hkn,K⟩,by simp [intOf];omega⟩
         ·have K:=hide (WO.pre (A:=A) (T:=[123]++(jrc n h.names l k++(cmL k++(quo (nmD k (bl t))++([58]++jtx n l[k]))))) (U:=[123]++(jrc n h.names l l.length++[125])) g1 (pre_app (V:=[]) (by simpa using hpr.out)) (by simpa only [List.append_assoc] using g2))
          clear g1 g2
          go_wp2_with fail
          exact ⟨rfl,K.out⟩
        ·have K:=hide (WO.pre (A:=A) (T:=[123]++(jrc n h.names l k++(cmL k++(quo (nmD k (bl t))++[58])))) (U:=[123]++(jrc n h.names l l.length++[125])) g1 (pre_app (V:=jtx n l[k]) (by simpa using hpr.out)) (by simpa only [List.append_assoc] using g2))
         clear g1 g2
         go_wp2_with fail
         exact ⟨rfl,K.out⟩
       ·have K:=hide (WO.pre (A:=A) (T:=[123]++(jrc n h.names l k++(cmL k++quo (nmD k (bl t))))) (U:=[123]++(jrc n h.names l l.length++[125])) g1 (pre_app (V:=[58]++jtx n l[k]) (by simpa using hpr.out)) (by simpa only [List.append_assoc] using g2))
        clear g1 g2
        go_wp2_with fail
        exact ⟨rfl,K.out⟩
     ·have dk:decide ((k:Int)=0)=false:=decide_eq_false (by omega)
      have dk2:((k:Int)==0)=false:=by simp;omega
      have hSb:=hide (show quo (bl t)=quo (nmD k (bl t)) by unfold nmD;rw [show (k==0)=false by simpa using hk0];rfl)
      have hSz:=hide (show t.size≤281474976710656 by have:=htz.out;omega)
      have hk0':=hide hk0
      clear hk0
      go_wp2_with (go_at_call 46;refine Sto.out ?_)
      refine Sto.mk ((ht.out t _ w3 X3.out L3.out hSz.out).mono ?_)
      rintro e w5 hw5
      rw [hSb.out] at hw5
      have kp5:=hide (hw5.1.kept N3.out)
      have hw6:=WO.step (A:=A) (T:=[123]++jrc n h.names l k++cmL k) F3.out hw5
      clear hw5
      rcases hw6 with ⟨rfl,g1,g2,g3⟩|⟨rfl,g1,g2⟩
      ·have F5:=hide g1
       have X5:=hide g2
       have L5:=hide g3
       have V5:=hide (V3.out.nb (i:=i) kp5.out.1)
       have N5:=hide kp5.out.2
       clear g1 g2 g3 kp5
       go_wp2_with (go_at_call 41;refine Sto.out ?_)
       refine Sto.mk ((hp.out _ _ w5 X5.out L5.out (by decide)).mono ?_)
       rintro e w7 hw7
       replace hw7:WO i (A++([123]++jrc n h.names l k++cmL k++quo (nmD k (bl t)))) [58] w5 e w7:=hw7
       have kp7:=hide (hw7.1.kept N5.out)
       have hw8:=WO.step (A:=A) F5.out hw7
       clear hw7
       rcases hw8 with ⟨rfl,g1,g2,g3⟩|⟨rfl,g1,g2⟩
       ·have F7:=hide g1
        have X7:=hide g2
        have L7:=hide g3
        have V7:=hide (V5.out.nb (i:=i) kp7.out.1)
        have N7:=hide kp7.out.2
        have B7:Hid (Below w0.heap.size w0 w7):=hc'.out.be.trans (F7.out.1.mono hloi)
        obtain ⟨v0,v1,v2,v3,v4,v5,v6,v7,v8⟩:=V7.out.cells
        obtain ⟨e0,e1,e2,e3,e4,e5,e6,e7,e8⟩:=range9 (rangeAt_below HRG.out B7.out hbl)
        clear g1 g2 g3 kp7
        go_wp2_with (go_at_call 25;refine Sto.out ?_)
        refine Sto.mk ((vk.out w7 B7.out _ X7.out L7.out).mono ?_)
        rintro e w9 hw9
        have kp9:=hide (hw9.1.kept N7.out)
        have hw10:=WO.step (A:=A) F7.out hw9
        clear hw9 v0 v1 v2 v3 v4 v5 v6 v7 v8 e0 e1 e2 e3 e4 e5 e6 e7 e8
        rcases hw10 with ⟨rfl,g1,g2,g3⟩|⟨rfl,g1,g2⟩
        ·have K:Hid (FW i W w9∧WB w9 i (A++([123]++jrc n h.names l (k + 1)))∧(A++([123]++jrc n h.names l (k + 1))).length≤65536∧Bx w9 W.heap.size h (.slice (some ⟨bn,on,none⟩) h.names.length cn) (.slice (some ⟨b,o,none⟩) l.length cl)∧NB W.heap.size w9 i):=by
          refine ⟨g1,?_,?_,V7.out.nb (i:=i) kp9.out.1,kp9.out.2⟩
          ·rw [hsu.out];simpa only [List.append_assoc] using g2
          ·rw [hsu.out];simpa only [List.append_assoc] using g3
         clear g1 g2 g3 kp9
         go_wp2_with fail
         exact ⟨⟨k + 1,by go_num,hkn,K⟩,by simp [intOf];omega⟩
        ·have K:=hide (WO.pre (A:=A) (T:=[123]++(jrc n h.names l k++(cmL k++(quo (nmD k (bl t))++([58]++jtx n l[k]))))) (U:=[123]++(jrc n h.names l l.length++[125])) g1 (pre_app (V:=[]) (by simpa using hpr.out)) (by simpa only [List.append_assoc] using g2))
         clear g1 g2
         go_wp2_with fail
         exact ⟨rfl,K.out⟩
       ·have K:=hide (WO.pre (A:=A) (T:=[123]++(jrc n h.names l k++(cmL k++(quo (nmD k (bl t))++[58])))) (U:=[123]++(jrc n h.names l l.length++[125])) g1 (pre_app (V:=jtx n l[k]) (by simpa using hpr.out)) (by simpa only [List.append_assoc] using g2))
        clear g1 g2
        go_wp2_with fail
        exact ⟨rfl,K.out⟩
      ·have K:=hide (WO.pre (A:=A) (T:=[123]++(jrc n h.names l k++(cmL k++quo (nmD k (bl t))))) (U:=[123]++(jrc n h.names l l.length++[125])) g1 (pre_app (V:=[58]++jtx n l[k]) (by simpa using hpr.out)) (by simpa only [List.append_assoc] using g2))
       clear g1 g2
       go_wp2_with fail
       exact ⟨rfl,K.out⟩
    ·have K:=hide (WO.pre (A:=A) (T:=[123]++jrc n h.names l k++cmL k) (U:=[123]++(jrc n h.names l l.length++[125])) g1 (by
      have:=hpr.out
      rw [List.append_assoc]
      exact pre_app (V:=quo (nmD k (bl t))++([58]++jtx n l[k])) (by simpa using this)) g2)
     clear g1 g2
     go_wp2_with fail
     exact ⟨rfl,K.out⟩
   ·have hki:¬ ((k:Int)<(h.names.length:Int)):=by omega
    have hke:k=l.length:=by have:=hnl'.out;omega
    rw [hke] at XR LR
    have hke':=hide hke
    clear hke
    go_wp2_with (go_at_call 41;refine Sto.out ?_)
    refine Sto.mk ((hp.out _ _ wr XR.out LR.out (by decide)).mono ?_)
    rintro e w2 hw2
    replace hw2:WO i (A++([123]++jrc n h.names l l.length)) [125] wr e w2:=hw2
    have hw3:=WO.trans (A:=A) (T:=[123]++jrc n h.names l l.length) FR.out (by have:=LR.out;simp only [List.length_append] at this ⊢;omega) hw2
    have H3:=hide hw3
    rcases hw2 with ⟨_,⟨_,rfl,_⟩|⟨_,rfl⟩⟩
    ·go_wp2_with fail
     go_end0
     simpa only [List.append_assoc,List.cons_append,List.nil_append] using H3.out
    ·go_wp2_with fail
     refine ⟨rfl,?_⟩
     simpa only [List.append_assoc,List.cons_append,List.nil_append] using H3.out
 ·have H1:=hide (WO.fail (A:=A) (T:=[123]) (U:=jrc n h.names l l.length++[125]) g1 g2)
  clear g1 g2
  go_wp2_with fail
  exact ⟨rfl,H1.out⟩
set_option maxRecDepth 100000 in
theorem jtag_any (n:Nat) (vo:ValOk n) (s:ByteArray) (x:VT n) (ns ls:Value) (w0 W:World) (i:Nat) (A:List UInt8) (hc:Vc n x ns ls w0 i W) (hs:s.size≤281474976710656) (hW:WB W i A) (hA:A.length≤65536) :
  Calls Tryz.prog 50 #[.pointer (some ⟨i,0,none⟩),.string s,.agg (vals (vhd n x) ns ls)] W fun e w'=>WO i A ([123]++(quo dTag++([58,91]++(quo (bl s)++([44]++(jtx n x++[93,125])))))) W e w':=by
 have hp:=hide (fun s A W (h:WB W i A) (hA:A.length≤65536) (hs:s.size≤281474976710656)=>put_any s A W i h hA hs)
 have ht:=hide (fun s A W (h:WB W i A) (hA:A.length≤65536) (hs:s.size≤281474976710656)=>text_any s A W i h hA hs)
 have vk:=hide (fun W (b:Below w0.heap.size w0 W) A (y:WB W i A) (a:A.length≤65536)=>vo x _ _ w0 W i A ⟨hc.rd,hc.vo,hc.lo,b,hc.tab⟩ y a)
 have hc':=hide hc
 have hW':=hide hW
 have hA':=hide hA
 have hs':=hide hs
 obtain ⟨a1,m1,d1,a2,m2,d2,rfl,rfl⟩:=hc.rd.shape
 obtain ⟨g,hg⟩:∃ g,vhd n x=g:=⟨_,rfl⟩
 rw [hg] at vk ⊢
 simp only [vals] at vk
 have hloi:=hc.lo
 have hiW:=hW.lt
 have V0:=hide (bx_new W g (.slice a1 m1 d1) (.slice a2 m2 d2))
 have X0:=hide (fun o=>hW.below (below_al (o:=o) (Below.refl W.heap.size W)))
 have N0:Hid (∀ o,NB W.heap.size (W.alloc o) i):=fun o=>NB.new hW
 have F0:Hid (∀ o,FW i W (W.alloc o)):=fun o=>FW.al (FW.refl _ _) hiW
 obtain ⟨J,hJ⟩:∃ J,jtx n x=J:=⟨_,rfl⟩
 rw [hJ] at vk ⊢
 clear vo hc hW hA hs hg hJ
 show Calls _ _ #[_,_,.agg #[.int .i64 g.kind,.bool g.flag,.bool g.neg,.string g.dig,.int .i64 g.exp,.int .u64 g.bits,.string g.text,.slice a1 m1 d1,.slice a2 m2 d2]] _ _
 go_enter Tryz.func50, Tryz.ntmps50
 go_wp2_with (go_at_call 41;refine Sto.out ?_)
 refine Sto.mk ((hp.out ⟨#[123]⟩ _ _ (X0.out _) hA'.out (by decide)).mono ?_)
 rintro e w1 hw
 replace hw:WO i A ([123]) _ e w1:=hw
 have kp:=hide (hw.1.kept (N0.out _))
 have hw2:=WO.step (A:=A) (T:=[]) (F0.out _) (by simpa using hw)
 clear hw
 rcases hw2 with ⟨rfl,g1,g2,g3⟩|⟨rfl,g1,g2⟩
 ·have F1:=hide g1
  have X1:=hide g2
  have L1:=hide g3
  have V1:=hide (V0.out.nb (i:=i) kp.out.1)
  have N1:=hide kp.out.2
  clear g1 g2 g3 kp
  go_wp2_with (go_at_call 46;refine Sto.out ?_)
  refine Sto.mk ((ht.out ⟨#[36,116,97,103]⟩ _ w1 X1.out L1.out (by decide)).mono ?_)
  rintro e w2 hw
  replace hw:WO i (A++([]++[123])) (quo dTag) w1 e w2:=hw
  have kp:=hide (hw.1.kept N1.out)
  have hw2:=WO.step (A:=A) (T:=[]++[123]) F1.out hw
  clear hw
  rcases hw2 with ⟨rfl,g1,g2,g3⟩|⟨rfl,g1,g2⟩
  ·have F2:=hide g1
   have X2:=hide g2
   have L2:=hide g3
   have V2:=hide (V1.out.nb (i:=i) kp.out.1)
   have N2:=hide kp.out.2
   clear g1 g2 g3 kp
   go_wp2_with (go_at_call 41;refine Sto.out ?_)
   refine Sto.mk ((hp.out ⟨#[58,91]⟩ _ w2 X2.out L2.out (by decide)).mono ?_)
   rintro e w3 hw
   replace hw:WO i (A++([]++[123]++(quo dTag))) ([58,91]) w2 e w3:=hw
   have kp:=hide (hw.1.kept N2.out)
   have hw2:=WO.step (A:=A) (T:=[]++[123]++(quo dTag)) F2.out hw
   clear hw
   rcases hw2 with ⟨rfl,g1,g2,g3⟩|⟨rfl,g1,g2⟩
   ·have F3:=hide g1
    have X3:=hide g2
    have L3:=hide g3
    have V3:=hide (V2.out.nb (i:=i) kp.out.1)
    have N3:=hide kp.out.2
    clear g1 g2 g3 kp
    go_wp2_with (go_at_call 46;refine Sto.out ?_)
    refine Sto.mk ((ht.out s _ w3 X3.out L3.out hs'.out).mono ?_)
    rintro e w4 hw
    replace hw:WO i (A++([]++[123]++(quo dTag)++([58,91]))) (quo (bl s)) w3 e w4:=hw
    have kp:=hide (hw.1.kept N3.out)
    have hw2:=WO.step (A:=A) (T:=[]++[123]++(quo dTag)++([58,91])) F3.out hw
    clear hw
    rcases hw2 with ⟨rfl,g1,g2,g3⟩|⟨rfl,g1,g2⟩
    ·have F4:=hide g1
     have X4:=hide g2
     have L4:=hide g3
     have V4:=hide (V3.out.nb (i:=i) kp.out.1)
     have N4:=hide kp.out.2
     clear g1 g2 g3 kp
     go_wp2_with (go_at_call 41;refine Sto.out ?_)
     refine Sto.mk ((hp.out ⟨#[44]⟩ _ w4 X4.out L4.out (by decide)).mono ?_)
     rintro e w5 hw
     replace hw:WO i (A++([]++[123]++(quo dTag)++([58,91])++(quo (bl s)))) ([44]) w4 e w5:=hw
     have kp:=hide (hw.1.kept N4.out)
     have hw2:=WO.step (A:=A) (T:=[]++[123]++(quo dTag)++([58,91])++(quo (bl s))) F4.out hw
     clear hw
     rcases hw2 with ⟨rfl,g1,g2,g3⟩|⟨rfl,g1,g2⟩
     ·have F5:=hide g1
      have X5:=hide g2
      have L5:=hide g3
      have V5:=hide (V4.out.nb (i:=i) kp.out.1)
      have N5:=hide kp.out.2
      clear g1 g2 g3 kp
      obtain ⟨v0,v1,v2,v3,v4,v5,v6,v7,v8⟩:=V5.out.cells
      go_wp2_with (go_at_call 25;refine Sto.out ?_)
      refine Sto.mk ((vk.out w5 (hc'.out.be.trans (F5.out.1.mono hloi)) _ X5.out L5.out).mono ?_)
      rintro e w6 hw
      replace hw:WO i (A++([]++[123]++(quo dTag)++([58,91])++(quo (bl s))++([44]))) (J) w5 e w6:=hw
      have kp:=hide (hw.1.kept N5.out)
      have hw2:=WO.step (A:=A) (T:=[]++[123]++(quo dTag)++([58,91])++(quo (bl s))++([44])) F5.out hw
      clear hw v0 v1 v2 v3 v4 v5 v6 v7 v8
      rcases hw2 with ⟨rfl,g1,g2,g3⟩|⟨rfl,g1,g2⟩
      ·have F6:=hide g1
       have X6:=hide g2
       have L6:=hide g3
       have V6:=hide (V5.out.nb (i:=i) kp.out.1)
       have N6:=hide kp.out.2
       clear g1 g2 g3 kp
       go_wp2_with (go_at_call 41;refine Sto.out ?_)
       refine Sto.mk ((hp.out ⟨#[93,125]⟩ _ w6 X6.out L6.out (by decide)).mono ?_)
       rintro e w7 hw
       replace hw:WO i (A++([]++[123]++(quo dTag)++([58,91])++(quo (bl s))++([44])++(J))) ([93,125]) w6 e w7:=hw
       have kp:=hide (hw.1.kept N6.out)
       have hw2:=WO.step (A:=A) (T:=[]++[123]++(quo dTag)++([58,91])++(quo (bl s))++([44])++(J)) F6.out hw
       clear hw
       rcases hw2 with ⟨rfl,g1,g2,g3⟩|⟨rfl,g1,g2⟩
       ·have K:Hid (WO i A ([123]++(quo dTag++([58,91]++(quo (bl s)++([44]++(J++[93,125])))))) W (.returned (.tuple #[])) w7):=⟨g1,Or.inl ⟨by simpa using g3,rfl,by simpa using g2⟩⟩
        clear g1 g2 g3 kp
        go_wp2_with fail
        go_end0
        exact K.out
       ·have K:=hide (WO.pre (A:=A) (T:=[]++[123]++(quo dTag)++([58,91])++(quo (bl s))++([44])++(J)++([93,125])) (U:=[123]++(quo dTag++([58,91]++(quo (bl s)++([44]++(J++[93,125])))))) g1 (by simp) g2)
        clear g1 g2 kp
        go_wp2_with fail
        exact ⟨rfl,K.out⟩
      ·have K:=hide (WO.pre (A:=A) (T:=[]++[123]++(quo dTag)++([58,91])++(quo (bl s))++([44])++(J)) (U:=[123]++(quo dTag++([58,91]++(quo (bl s)++([44]++(J++[93,125])))))) g1 (by simp) g2)
       clear g1 g2 kp
       go_wp2_with fail
       exact ⟨rfl,K.out⟩
     ·have K:=hide (WO.pre (A:=A) (T:=[]++[123]++(quo dTag)++([58,91])++(quo (bl s))++([44])) (U:=[123]++(quo dTag++([58,91]++(quo (bl s)++([44]++(J++[93,125])))))) g1 (by simp) g2)
      clear g1 g2 kp
      go_wp2_with fail
      exact ⟨rfl,K.out⟩
    ·have K:=hide (WO.pre (A:=A) (T:=[]++[123]++(quo dTag)++([58,91])++(quo (bl s))) (U:=[123]++(quo dTag++([58,91]++(quo (bl s)++([44]++(J++[93,125])))))) g1 (by simp) g2)
     clear g1 g2 kp
     go_wp2_with fail
     exact ⟨rfl,K.out⟩
   ·have K:=hide (WO.pre (A:=A) (T:=[]++[123]++(quo dTag)++([58,91])) (U:=[123]++(quo dTag++([58,91]++(quo (bl s)++([44]++(J++[93,125])))))) g1 (by simp) g2)
    clear g1 g2 kp
    go_wp2_with fail
    exact ⟨rfl,K.out⟩
  ·have K:=hide (WO.pre (A:=A) (T:=[]++[123]++(quo dTag)) (U:=[123]++(quo dTag++([58,91]++(quo (bl s)++([44]++(J++[93,125])))))) g1 (by simp) g2)
   clear g1 g2 kp
   go_wp2_with fail
   exact ⟨rfl,K.out⟩
 ·have K:=hide (WO.pre (A:=A) (T:=[]++[123]) (U:=[123]++(quo dTag++([58,91]++(quo (bl s)++([44]++(J++[93,125])))))) g1 (by simp) g2)
  clear g1 g2 kp
  go_wp2_with fail
  exact ⟨rfl,K.out⟩
end Go.Proofs.YtpimjkdakjhoaaaGreatDoor
