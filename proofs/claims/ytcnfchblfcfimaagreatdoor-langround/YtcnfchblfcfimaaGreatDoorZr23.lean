/- Merged by program: IqSame. -/
import Derived.Test.YtcnfchblfcfimaaGreatDoorZr18
import Derived.Test.YtcnfchblfcfimaaGreatDoorZr16
import Derived.Deep.OwnRows
set_option linter.unusedSimpArgs false
set_option linter.unusedVariables false
namespace Go.Proofs.YtcnfchblfcfimaaGreatDoor
open Go.RowKit Go.Maps
structure Bo2 (w:World) (h g:Th) (n0 l0 n1 l1:Value) (W:World):Prop where
 below:Below w.heap.size w W
 ba:Tx W w.heap.size h n0 l0
 bb:Tx W (w.heap.size + 1) g n1 l1
theorem Bo2.then {w W W1:World} {h g:Th} {n0 l0 n1 l1:Value} (k:Bo2 w h g n0 l0 n1 l1 W) (hb:Below W.heap.size W W1):Bo2 w h g n0 l0 n1 l1 W1:=⟨below_then k.below hb,k.ba.below hb,k.bb.below hb⟩
theorem Bo2.new (w:World) (h g:Th) (n0 l0 n1 l1:Value):Bo2 w h g n0 l0 n1 l1 ((w.alloc (.cells (tvs h n0 l0) 48)).alloc (.cells (tvs g n1 l1) 48)):=by
 refine ⟨below_al (below_al (Below.refl _ _)),(tx_new w h n0 l0).below (below_al (Below.refl _ _)),?_⟩
 have:=tx_new (w.alloc (.cells (tvs h n0 l0) 48)) g n1 l1
 rw [World.size_alloc] at this
 exact this
set_option maxHeartbeats 2000000 in
set_option maxRecDepth 100000 in
theorem rtsame_any:∀ (n:Nat) (x y:TT n) (ns ls ns' ls':Value) (w:World),RT n w x ns ls→RT n w y ns' ls' →
  Calls Tryz.prog 24 #[.agg (tvs (thd n x) ns ls),.agg (tvs (thd n y) ns' ls')] w fun e w'=>TB (x=y) w e w':=by
 intro n
 induction n with
 | zero=>intro x;exact Empty.elim x
 | succ n ih =>
  intro x y ns ls ns' ls' w hr hr'
  obtain ⟨⟨hk,hm⟩,l⟩:=x
  obtain ⟨⟨gk,gm⟩,m⟩:=y
  obtain ⟨al,cl,rfl,hc1,hc2⟩:=hr.len
  obtain ⟨an,cn,rfl,hn1,hn2⟩:=hr.1.len
  obtain ⟨bl',dl,rfl,hd1,hd2⟩:=hr'.len
  obtain ⟨bn,dn,rfl,ho1,ho2⟩:=hr'.1.len
  have hx:=hide hr
  have hy:=hide hr'
  have ih':=hide ih
  clear ih hr hr'
  simp only at hn1 hn2 hc1 hc2 hd1 hd2 ho1 ho2
  have ml:maxLen=9223372036854775807:=rfl
  have T0:=hide (Bo2.new w ⟨hk,hm⟩ ⟨gk,gm⟩ (.slice an hm.length cn) (.slice al l.length cl) (.slice bn gm.length dn) (.slice bl' m.length dl))
  show Calls _ _ #[.agg #[.int .i64 hk,.slice an hm.length cn,.slice al l.length cl],.agg #[.int .i64 gk,.slice bn gm.length dn,.slice bl' m.length dl]] _ _
  by_cases e1:hk=gk
  ·subst e1
   by_cases e2:(hm.length:Int)=(gm.length:Int)
   ·have hg2:=hide (show gm.length=hm.length by omega)
    rw [hg2.out] at ho1 T0 ⊢
    clear e2
    by_cases e3:(l.length:Int)=(m.length:Int)
    ·have hg3:=hide (show m.length=l.length by omega)
     rw [hg3.out] at hd1 T0 ⊢
     clear e3
     go_enter Tryz.func24, Tryz.ntmps24
     go_wp2_with fail
     go_loopw [5] (fun i w'=>∃ k:Nat,i=.int .i64 k∧k≤hm.length∧Hid ((∀ i (h1:i<hm.length) (h2:i<gm.length),i<k→hm[i]=gm[i])∧Bo2 w ⟨hk,hm⟩ ⟨hk,gm⟩ (.slice an hm.length cn) (.slice al l.length cl) (.slice bn hm.length dn) (.slice bl' l.length dl) w')) (fun i _=>hm.length - (intOf i).toNat)
     case atStart=>exact ⟨0,rfl,Nat.zero_le _,(fun i _ _ h=>by omega),T0.out⟩
     case round =>
      clear T0
      obtain ⟨k,rfl,hk',H⟩:=hrel
      obtain ⟨x0,x1,x2⟩:=H.out.2.ba.cells
      obtain ⟨y0,y1,y2⟩:=H.out.2.bb.cells
      by_cases hkl:k<hm.length
      ·have hki:(k:Int)<(hm.length:Int):=by omega
       have hk63:(k:Int)<9223372036854775807:=by omega
       obtain ⟨b,o,c,he,hbl,hlc,hcm,hcell⟩:=hx.out.1.at k hkl
       have he':=Value.slice.inj he
       obtain ⟨rfl,_,rfl⟩:=he'
       clear he
       have hcell:=(H.out.2.below.cell (p:=⟨b,o + k,none⟩) hbl).trans hcell
       have hkg:k<gm.length:=by have:=hg2.out;omega
       obtain ⟨b',o',c',he,hbl',hlc',hcm',hcell'⟩:=hy.out.1.at k hkg
       have he':=Value.slice.inj he
       obtain ⟨rfl,_,rfl⟩:=he'
       clear he
       have hcell':=(H.out.2.below.cell (p:=⟨b',o' + k,none⟩) hbl').trans hcell'
       obtain ⟨s,hs⟩:∃ s,Hid (hm[k]=s):=⟨_,hide rfl⟩
       obtain ⟨t,ht⟩:∃ t,Hid (gm[k]=t):=⟨_,hide rfl⟩
       simp only at hcell hcell'
       rw [hs.out] at hcell
       rw [ht.out] at hcell'
       by_cases hst:s=t
       ·subst hst
        go_wp2_with fail
        go_quiet (fail)
        go_wp2_with fail
        refine ⟨⟨k + 1,by go_num,by omega,(fun i h1 h2 h3=>?_),H.out.2.then (below_dn (Below.refl _ _) _)⟩,by simp [intOf];omega⟩
        by_cases e:i=k
        ·subst e;rw [hs.out,ht.out]
        ·exact H.out.1 i h1 h2 (by omega)
       ·have hst2:decide (s=t)=false:=decide_eq_false hst
        have hst3:=ba_ne hst
        have hst':=hide hst
        clear hst
        go_wp2_with fail
        go_quiet (fail)
        go_wp2_with fail
        go_ret
        refine TB.no (fun q=>?_) (below_then H.out.2.below (below_dn (Below.refl _ _) _))
        have q2:hm=gm:=congrArg (fun z:TT (n + 1)=>z.1.names) q
        exact hst'.out (by rw [←hs.out,←ht.out];congr 1)
      ·have hki:¬ ((k:Int)<(hm.length:Int)):=by omega
       have hE:=hide (show hm=gm from List.ext_getElem hg2.out.symm (fun i h1 h2=>H.out.1 i h1 h2 (by omega)))
       have T1:=hide H.out.2
       clear H
       go_wp2_with fail
       go_loopw [6] (fun i w'=>∃ k:Nat,i=.int .i64 k∧k≤l.length∧Hid ((∀ i (h1:i<l.length) (h2:i<m.length),i<k→l[i]=m[i])∧Bo2 w ⟨hk,hm⟩ ⟨hk,gm⟩ (.slice an hm.length cn) (.slice al l.length cl) (.slice bn hm.length dn) (.slice bl' l.length dl) w')) (fun i _=>l.length - (intOf i).toNat)
       case atStart=>exact ⟨0,rfl,Nat.zero_le _,(fun i _ _ h=>by omega),T1.out⟩
       case round =>
        clear T1 x0 x1 x2 y0 y1 y2 hki hk'
        obtain ⟨k,rfl,hk',H⟩:=hrel
        obtain ⟨x0,x1,x2⟩:=H.out.2.ba.cells
        obtain ⟨y0,y1,y2⟩:=H.out.2.bb.cells
        by_cases hkl:k<l.length
        ·have hki:(k:Int)<(l.length:Int):=by omega
         have hk63:(k:Int)<9223372036854775807:=by omega
         have hkm:k<m.length:=by have:=hg3.out;omega
         obtain ⟨b1,o1,f1,he,hbl1,hlc1,hcm1,ns1,ls1,hrg1,hrd1⟩:=hx.out.at k hkl
         have he':=Value.slice.inj he
         obtain ⟨rfl,_,rfl⟩:=he'
         clear he
         obtain ⟨q0,q1,q2⟩:=range3 (rangeAt_below hrg1 H.out.2.below hbl1)
         obtain ⟨b2,o2,f2,he,hbl2,hlc2,hcm2,ns2,ls2,hrg2,hrd2⟩:=hy.out.at k hkm
         have he':=Value.slice.inj he
         obtain ⟨rfl,_,rfl⟩:=he'
         clear he
         obtain ⟨r0,r1,r2⟩:=range3 (rangeAt_below hrg2 H.out.2.below hbl2)
         have hd1':=hide hrd1
         have hd2':=hide hrd2
         obtain ⟨a1,m1,d1,a2,m2,d2,rfl,rfl⟩:=hrd1.shape
         obtain ⟨a3,m3,d3,a4,m4,d4,rfl,rfl⟩:=hrd2.shape
         clear hrg1 hrd1 hrg2 hrd2
         obtain ⟨bk,hbk⟩:=tells (l[k]=m[k])
         have hcall:=hide (fun W (hW:Below wr.heap.size wr W)=>Calls.tb (ih'.out l[k] m[k] _ _ _ _ W (hd1'.out.below (below_then H.out.2.below hW)) (hd2'.out.below (below_then H.out.2.below hW))) hbk)
         have hbk':=hide hbk
         clear hbk
         simp only at q0 q1 q2 r0 r1 r2 hcall
         obtain ⟨hp,hhp⟩:∃ hp,thd n l[k]=hp:=⟨_,rfl⟩
         obtain ⟨hq,hhq⟩:∃ hq,thd n m[k]=hq:=⟨_,rfl⟩
         rw [hhp] at q0 hcall
         rw [hhq] at r0 hcall
         clear hhp hhq
         simp only [tvs] at hcall
         cases bk
         ·go_wp2_with fail
          go_region_law (first|(go_simp;go_at_call 24;refine (hcall.out _ (by repeat (first|exact Below.refl _ _|refine below_dr ?_|refine below_dn ?_ _))).mono ?_;rintro e w3 ⟨rfl,hb3⟩;have T3:Hid (Below wr.heap.size wr w3):=below_then (by repeat (first|exact Below.refl _ _|refine below_dr ?_|refine below_dn ?_ _)) hb3;clear hb3;dsimp only))
          all_goals
           go_simp
           go_wp2_with fail
           go_ret
           refine TB.no (fun q=>?_) (below_then H.out.2.below T3.out)
           have q2:l=m:=congrArg (fun z:TT (n + 1)=>z.2) q
           have:=hbk'.out.2 (by congr 1)
           cases this
         ·go_wp2_with fail
          go_region_law (first|(go_simp;go_at_call 24;refine (hcall.out _ (by repeat (first|exact Below.refl _ _|refine below_dr ?_|refine below_dn ?_ _))).mono ?_;rintro e w3 ⟨rfl,hb3⟩;have T3:Hid (Below wr.heap.size wr w3):=below_then (by repeat (first|exact Below.refl _ _|refine below_dr ?_|refine below_dn ?_ _)) hb3;clear hb3;dsimp only))
          all_goals
           go_simp
           go_wp2_with fail
           refine ⟨⟨k + 1,by go_num,by omega,(fun i h1 h2 h3=>?_),H.out.2.then T3.out⟩,by simp [intOf];omega⟩
           by_cases e:i=k
           ·subst e;exact hbk'.out.1 (by simp)
           ·exact H.out.1 i h1 h2 (by omega)
        ·have hki:¬ ((k:Int)<(l.length:Int)):=by omega
         have hF:=hide (show l=m from List.ext_getElem hg3.out.symm (fun i h1 h2=>H.out.1 i h1 h2 (by omega)))
         go_wp2_with fail
         go_ret
         exact TB.yes (by rw [hE.out,hF.out]) H.out.2.below
    ·have hF:Hid (¬ ((⟨hk,hm⟩,l):TT (n + 1))=(⟨hk,gm⟩,m)):=fun q=>e3 (by have q2:l=m:=congrArg (fun z:TT (n + 1)=>z.2) q;rw [q2])
     have hT:=hide T0.out.below
     go_enter Tryz.func24, Tryz.ntmps24
     go_wp2_with fail
     go_ret
     exact TB.no hF.out hT.out
   ·have hF:Hid (¬ ((⟨hk,hm⟩,l):TT (n + 1))=(⟨hk,gm⟩,m)):=fun q=>e2 (by have q2:hm=gm:=congrArg (fun z:TT (n + 1)=>z.1.names) q;rw [q2])
    have hT:=hide T0.out.below
    go_enter Tryz.func24, Tryz.ntmps24
    go_wp2_with fail
    go_ret
    exact TB.no hF.out hT.out
  ·have hF:Hid (¬ ((⟨hk,hm⟩,l):TT (n + 1))=(⟨gk,gm⟩,m)):=fun q=>e1 (congrArg (fun z:TT (n + 1)=>z.1.kind) q)
   have hT:=hide T0.out.below
   have e1a:(hk != gk)=true:=by simpa using e1
   have e1b:(hk==gk)=false:=beq_eq_false_iff_ne.2 e1
   have e1c:decide (hk=gk)=false:=decide_eq_false e1
   go_enter Tryz.func24, Tryz.ntmps24
   go_wp2_with fail
   go_ret
   exact TB.no hF.out hT.out
end Go.Proofs.YtcnfchblfcfimaaGreatDoor
