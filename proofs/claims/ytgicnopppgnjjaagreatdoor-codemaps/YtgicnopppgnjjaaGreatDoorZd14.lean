/- Merged by program: XcReq. -/
import Derived.Test.YtgicnopppgnjjaaGreatDoorZd09
import Derived.BigQuiet
import Derived.Deep.RegionHeld3
set_option linter.unusedSimpArgs false
set_option linter.unusedVariables false
namespace Go.Proofs.YtgicnopppgnjjaaGreatDoor
open Go.RowKit
structure EqTwo (w:World) (h g:Hd) (na la nb lb:Value) (W:World):Prop where
 below:Below w.heap.size w W
 ba:Bx W w.heap.size h na la
 bb:Bx W (w.heap.size + 1) g nb lb
theorem EqTwo.then {w:World} {h g:Hd} {na la nb lb:Value} {W W1:World} (k:EqTwo w h g na la nb lb W) (hb:Below W.heap.size W W1):EqTwo w h g na la nb lb W1:=⟨below_then k.below hb,k.ba.below hb,k.bb.below hb⟩
theorem two_new (w:World) (h g:Hd) (na la nb lb:Value):EqTwo w h g na la nb lb ((w.alloc (.cells (vals h na la) 31)).alloc (.cells (vals g nb lb) 31)):=by
 refine ⟨below_al (below_al (Below.refl _ _)),(bx_new w h na la).below (below_al (Below.refl _ _)),?_⟩
 have:=bx_new (w.alloc (.cells (vals h na la) 31)) g nb lb
 rw [show (w.alloc (.cells (vals h na la) 31)).heap.size=w.heap.size + 1 by simp] at this
 exact this
theorem tellsB (p:Prop):∃ b:Bool,b=true↔p:=by
 by_cases h:p
 ·exact ⟨true,by simp [h]⟩
 ·exact ⟨false,by simp [h]⟩
theorem Calls.tbB {f:FuncId} {args:Array Value} {w:World} {p:Prop} {b:Bool} (h:Calls Tryz.prog f args w fun e w'=>TB p w e w') (hb:b=true↔p):Calls Tryz.prog f args w fun e w'=>e=.returned (.bool b)∧Below w.heap.size w w':=by
 refine h.mono ?_
 rintro e w' ⟨c,rfl,hc,hw⟩
 have:c=b:=by rw [Bool.eq_iff_iff];exact Iff.trans hc hb.symm
 rw [this]
 exact ⟨rfl,hw⟩
def REqOk (n:Nat):Prop:=∀ (x y:VT n) (ns ls ns' ls':Value) (w:World),RD n w x ns ls→RD n w y ns' ls' →
  Calls Tryz.prog 40 #[.agg (vals (vhd n x) ns ls),.agg (vals (vhd n y) ns' ls')] w fun e w'=>TB (x=y) w e w'
set_option maxHeartbeats 2000000 in
set_option maxRecDepth 100000 in
theorem requal_any:∀ n,REqOk n:=by
 intro n
 induction n with
 | zero=>intro x;exact Empty.elim x
 | succ n ih =>
  intro x y ns ls ns' ls' w hx hy
  obtain ⟨h,l⟩:=x
  obtain ⟨g,m⟩:=y
  obtain ⟨al,cl,rfl,hl1,hl2⟩:=hx.len
  obtain ⟨an,cn,rfl,hn1,hn2⟩:=hx.1.len
  obtain ⟨bl',dl,rfl,hm1,hm2⟩:=hy.len
  obtain ⟨bn,dn,rfl,ho1,ho2⟩:=hy.1.len
  replace hx:=hide hx
  replace hy:=hide hy
  replace ih:=hide ih
  have P0:=hide (two_new w h g (.slice an h.names.length cn) (.slice al l.length cl) (.slice bn g.names.length dn) (.slice bl' m.length dl))
  show Calls _ _ #[.agg #[.int .i64 h.kind,.bool h.flag,.bool h.neg,.string h.dig,.int .i64 h.exp,.int .u64 h.bits,.string h.text,.slice an h.names.length cn,.slice al l.length cl],.agg #[.int .i64 g.kind,.bool g.flag,.bool g.neg,.string g.dig,.int .i64 g.exp,.int .u64 g.bits,.string g.text,.slice bn g.names.length dn,.slice bl' m.length dl]] _ _
  simp only at hl1 hl2 hn1 hn2 hm1 hm2 ho1 ho2
  have ml:maxLen=9223372036854775807:=rfl
  by_cases e0:h.kind=g.kind
  ·by_cases e1:h.flag=g.flag
   ·by_cases e2:h.neg=g.neg
    ·by_cases e3:h.dig=g.dig
     ·by_cases e4:h.exp=g.exp
      ·by_cases e5:h.bits=g.bits
       ·by_cases e6:h.text=g.text
        ·by_cases e7:(h.names.length:Int)=(g.names.length:Int)
         ·by_cases e8:(l.length:Int)=(m.length:Int)
          ·have hxy:((h,l):VT (n + 1))=(g,m)↔h.names=g.names∧l=m:=by
            constructor
            ·intro e;cases e;exact ⟨rfl,rfl⟩
            ·rintro ⟨e9,rfl⟩
             have:h=g:=by clear e7;cases h;cases g;simp only at e0 e1 e2 e3 e4 e5 e6 e9;subst e0 e1 e2 e3 e4 e5 e6 e9;rfl
             rw [this]
           replace hxy:=hide hxy
           have hnl:=hide (show g.names.length=h.names.length by omega)
           have hml:=hide (show m.length=l.length by omega)
           obtain ⟨nm,rfl⟩:∃ nm,h={g with names:=nm}:=⟨h.names,by cases h;cases g;simp only at e0 e1 e2 e3 e4 e5 e6;subst e0 e1 e2 e3 e4 e5 e6;rfl⟩
           clear e0 e1 e2 e3 e4 e5 e6
           simp only at hnl e7 ⊢
           go_enter Tryz.func40, Tryz.ntmps40
           go_wp2_with fail
           go_loopw [5] (fun i w'=>∃ k:Nat,i=.int .i64 k∧k≤nm.length∧Hid (nm.take k=g.names.take k)∧Hid (EqTwo w {g with names:=nm} g (.slice an nm.length cn) (.slice al l.length cl) (.slice bn g.names.length dn) (.slice bl' m.length dl) w')) (fun i _=>nm.length - (intOf i).toNat)
           case atStart=>exact ⟨0,rfl,Nat.zero_le _,rfl,P0.out⟩
           case round =>
            obtain ⟨k,rfl,hk,hE,hP⟩:=hrel
            have c7:=hP.out.ba.cells.2.2.2.2.2.2.2.1
            have c8:=hP.out.ba.cells.2.2.2.2.2.2.2.2
            have d7:=hP.out.bb.cells.2.2.2.2.2.2.2.1
            have d8:=hP.out.bb.cells.2.2.2.2.2.2.2.2
            by_cases hkl:k<nm.length
            ·have hki:(k:Int)<(nm.length:Int):=by omega
             have hk63:(k:Int)<9223372036854775807:=by omega
             have hkg:k<g.names.length:=by rw [hnl.out];exact hkl
             have hkgi:(k:Int)<(g.names.length:Int):=by omega
             obtain ⟨b,o,c,he,hbl,hlc,hcm,hcell⟩:=hx.out.1.at k hkl
             have he':=Value.slice.inj he
             obtain ⟨rfl,_,rfl⟩:=he'
             clear he
             have hcell:=(hP.out.below.cell (p:=⟨b,o + k,none⟩) hbl).trans hcell
             obtain ⟨b',o',c',he,hbl',hlc',hcm',hcell'⟩:=hy.out.1.at k hkg
             have he':=Value.slice.inj he
             obtain ⟨rfl,_,rfl⟩:=he'
             clear he
             have hcell':=(hP.out.below.cell (p:=⟨b',o' + k,none⟩) hbl').trans hcell'
             obtain ⟨s,hs⟩:∃ s,nm[k]=s:=⟨_,rfl⟩
             obtain ⟨t,ht⟩:∃ t,g.names[k]=t:=⟨_,rfl⟩
             simp only [hs] at hcell
             simp only [ht] at hcell'
             have hs':=hide hs
             have ht':=hide ht
             clear hs ht
             by_cases hst:s=t
             ·subst hst
              go_wp2_with fail
              go_quiet (fail)
              go_wp2_with fail
              exact ⟨⟨k + 1,by go_num,by omega,take_eq hkl hkg hE.out (by rw [hs'.out,ht'.out]),hP.out.then (below_dn (Below.refl _ _) _)⟩,by simp [intOf];omega⟩
             ·have hst2:decide (s=t)=false:=decide_eq_false hst
              have hst3:=ba_ne hst
              have hne:¬ nm=g.names:=by
               intro h
               subst h
               rw [hs'.out] at ht'
               exact hst ht'.out
              have hne':=hide hne
              clear hne
              go_wp2_with fail
              go_quiet (fail)
              go_wp2_with fail
              go_ret
              exact TB.no (fun e=>hne'.out (hxy.out.1 e).1) (below_dn hP.out.below _)
            ·have hki:¬ ((k:Int)<(nm.length:Int)):=by omega
             have hN0:nm=g.names:=by
              have:=hE.out
              rw [List.take_of_length_le (by omega),List.take_of_length_le (by rw [hnl.out];omega)] at this
              exact this
             have hN:=hide hN0
             clear hE hN0
             go_wp2_with fail
             clear c7 c8 d7 d8
             go_loopw [6] (fun i w'=>∃ k:Nat,i=.int .i64 k∧k≤l.length∧Hid (l.take k=m.take k)∧Hid (EqTwo w {g with names:=nm} g (.slice an nm.length cn) (.slice al l.length cl) (.slice bn g.names.length dn) (.slice bl' m.length dl) w')) (fun i _=>l.length - (intOf i).toNat)
             case atStart=>exact ⟨0,rfl,Nat.zero_le _,rfl,hP.out⟩
             case round =>
              obtain ⟨k,rfl,hk,hE,hP⟩:=hrel
              have c8:=hP.out.ba.cells.2.2.2.2.2.2.2.2
              have d8:=hP.out.bb.cells.2.2.2.2.2.2.2.2
              by_cases hkl:k<l.length
              ·have hki:(k:Int)<(l.length:Int):=by omega
               have hk63:(k:Int)<9223372036854775807:=by omega
               have hkm:k<m.length:=by rw [hml.out];exact hkl
               have hkmi:(k:Int)<(m.length:Int):=by omega
               obtain ⟨b,o,c,he,hbl,hlc,hcm,ns1,ls1,hrg,hrd⟩:=hx.out.at k hkl
               have he':=Value.slice.inj he
               obtain ⟨rfl,_,rfl⟩:=he'
               clear he
               obtain ⟨b',o',c',he,hbl',hlc',hcm',ns2,ls2,hrg',hrd'⟩:=hy.out.at k hkm
               have he':=Value.slice.inj he
               obtain ⟨rfl,_,rfl⟩:=he'
               clear he
               obtain ⟨e1,e2,e3,e4,e5,e6,rfl,rfl⟩:=hrd.shape
               obtain ⟨f1,f2,f3,f4,f5,f6,rfl,rfl⟩:=hrd'.shape
               obtain ⟨q,hq'⟩:=tellsB (l[k]=m[k])
               have hcall:=hide (fun W (hb:Below w.heap.size w W)=>Calls.tbB (ih.out l[k] m[k] _ _ _ _ W (hrd.below hb) (hrd'.below hb)) hq')
               obtain ⟨hp,hhp⟩:∃ hp,vhd n l[k]=hp:=⟨_,rfl⟩
               obtain ⟨hq,hhq⟩:∃ hq,vhd n m[k]=hq:=⟨_,rfl⟩
               rw [hhp,hhq] at hcall
               have R1:=rangeAt_below hrg hP.out.below hbl
               have R2:=rangeAt_below hrg' hP.out.below hbl'
               replace R1:wr.rangeAt b (o + k * 9) (vals hp (.slice e1 e2 e3) (.slice e4 e5 e6)).toList:=hhp ▸ R1
               replace R2:wr.rangeAt b' (o' + k * 9) (vals hq (.slice f1 f2 f3) (.slice f4 f5 f6)).toList:=hhq ▸ R2
               obtain ⟨x0,x1,x2,x3,x4,x5,x6,x7,x8⟩:=range9 R1
               obtain ⟨y0,y1,y2,y3,y4,y5,y6,y7,y8⟩:=range9 R2
               have hbw:=hide hP.out.below
               have s1:=hP.out.ba.lt
               have s2:=hP.out.bb.lt
               have s3:b<wr.heap.size:=Nat.lt_of_lt_of_le hbl hbw.out.size
               have s4:b'<wr.heap.size:=Nat.lt_of_lt_of_le hbl' hbw.out.size
               have hqq:=hide hq'
               clear hq' hrg hrg' hrd hrd' R1 R2 hhp hhq
               go_wp2_with fail
               go_region_held3 (fun w'=>w'.cell? ⟨w.heap.size,8,none⟩=some (.slice (some ⟨b,o,none⟩) l.length cl)∧w'.cell? ⟨w.heap.size + 1,8,none⟩=some (.slice (some ⟨b',o',none⟩) m.length dl)∧w'.cell? ⟨b,o + k * 9,none⟩=some (.int .i64 hp.kind)∧w'.cell? ⟨b,o + k * 9 + 1,none⟩=some (.bool hp.flag)∧w'.cell? ⟨b,o + k * 9 + 2,none⟩=some (.bool hp.neg)∧w'.cell? ⟨b,o + k * 9 + 3,none⟩=some (.string hp.dig)∧w'.cell? ⟨b,o + k * 9 + 4,none⟩=some (.int .i64 hp.exp)∧w'.cell? ⟨b,o + k * 9 + 5,none⟩=some (.int .u64 hp.bits)∧w'.cell? ⟨b,o + k * 9 + 6,none⟩=some (.string hp.text)∧w'.cell? ⟨b,o + k * 9 + 7,none⟩=some (.slice e1 e2 e3)∧w'.cell? ⟨b,o + k * 9 + 8,none⟩=some (.slice e4 e5 e6)∧w'.cell? ⟨b',o' + k * 9,none⟩=some (.int .i64 hq.kind)∧w'.cell? ⟨b',o' + k * 9 + 1,none⟩=some (.bool hq.flag)∧w'.cell? ⟨b',o' + k * 9 + 2,none⟩=some (.bool hq.neg)∧w'.cell? ⟨b',o' + k * 9 + 3,none⟩=some (.string hq.dig)∧w'.cell? ⟨b',o' + k * 9 + 4,none⟩=some (.int .i64 hq.exp)∧w'.cell? ⟨b',o' + k * 9 + 5,none⟩=some (.int .u64 hq.bits)∧w'.cell? ⟨b',o' + k * 9 + 6,none⟩=some (.string hq.text)∧w'.cell? ⟨b',o' + k * 9 + 7,none⟩=some (.slice f1 f2 f3)∧w'.cell? ⟨b',o' + k * 9 + 8,none⟩=some (.slice f4 f5 f6)) (first|(simp [go_sem];done)|(simp [go_sem, *];done)|go_keep) (first|(go_at_call 40;refine (hcall.out _ hbw.out.drew).mono ?_;rintro e v1 ⟨rfl,hB1⟩;have K:∀ (i j:Nat) (v:Value),i<wr.heap.size→wr.cell? ⟨i,j,none⟩=some v→v1.cell? ⟨i,j,none⟩=some v:=fun i j v hi hv=>(hB1.cell (p:=⟨i,j,none⟩) hi).trans hv;have z1:=K _ _ _ s1 c8;have z2:=K _ _ _ s2 d8;have zu0:=K _ _ _ s3 x0;have zt0:=K _ _ _ s4 y0;have zu1:=K _ _ _ s3 x1;have zt1:=K _ _ _ s4 y1;have zu2:=K _ _ _ s3 x2;have zt2:=K _ _ _ s4 y2;have zu3:=K _ _ _ s3 x3;have zt3:=K _ _ _ s4 y3;have zu4:=K _ _ _ s3 x4;have zt4:=K _ _ _ s4 y4;have zu5:=K _ _ _ s3 x5;have zt5:=K _ _ _ s4 y5;have zu6:=K _ _ _ s3 x6;have zt6:=K _ _ _ s4 y6;have zu7:=K _ _ _ s3 x7;have zt7:=K _ _ _ s4 y7;have zu8:=K _ _ _ s3 x8;have zt8:=K _ _ _ s4 y8;clear K))
               have hP2:=hide (hP.out.then (below_then (Below.refl _ _).drew hB1))
               have hNo:Hid (q=false→¬ (({g with names:=nm},l):VT (n + 1))=(g,m)):=fun hf e=>by
                have:=(hxy.out.1 e).2
                subst this
                have:=hqq.out.2 rfl
                rw [hf] at this;cases this
               have hYes:Hid (q=true→l.take (k + 1)=m.take (k + 1)):=fun ht=>take_eq hkl hkm hE.out (hqq.out.1 ht)
               clear hcall hx hy ih z1 z2 zu0 zu1 zu2 zu3 zu4 zu5 zu6 zu7 zu8 zt0 zt1 zt2 zt3 zt4 zt5 zt6 zt7 zt8 x0 x1 x2 x3 x4 x5 x6 x7 x8 y0 y1 y2 y3 y4 y5 y6 y7 y8
               clear hqq hE hxy hP hB1 hbw s1 s2 s3 s4 c8 d8 hkmi hkm hml e7 e8 hnl hN P0
               rename_i hHeld
               clear hHeld
               cases q
               ·rw [Bool.not_false]
                go_wp2_with fail
                go_ret
                exact TB.no (hNo.out (by simp)) hP2.out.below
               ·rw [Bool.not_true]
                go_wp2_with fail
                exact ⟨⟨k + 1,by go_num,by omega,hYes.out (by simp),hP2.out⟩,by simp [intOf];omega⟩
              ·have hki:¬ ((k:Int)<(l.length:Int)):=by omega
               have hL:l=m:=by
                have:=hE.out
                rw [List.take_of_length_le (by omega),List.take_of_length_le (by rw [hml.out];omega)] at this
                exact this
               have hR:=hide (hxy.out.2 ⟨hN.out,hL⟩)
               clear hL
               go_wp2_with fail
               go_ret
               exact TB.yes hR.out hP.out.below
          ·go_enter Tryz.func40, Tryz.ntmps40
           go_wp2_with fail
           go_ret
           exact TB.no (fun e=>e8 (by cases e;rfl)) (below_al (below_al (Below.refl _ _)))
         ·go_enter Tryz.func40, Tryz.ntmps40
          go_wp2_with fail
          go_ret
          exact TB.no (fun e=>e7 (by cases e;rfl)) (below_al (below_al (Below.refl _ _)))
        ·have q1:decide (h.text=g.text)=false:=decide_eq_false e6
         have q2:=ba_ne e6
         go_enter Tryz.func40, Tryz.ntmps40
         go_wp2_with fail
         go_ret
         exact TB.no (fun e=>e6 (by cases e;rfl)) (below_al (below_al (Below.refl _ _)))
       ·go_enter Tryz.func40, Tryz.ntmps40
        go_wp2_with fail
        go_ret
        exact TB.no (fun e=>e5 (by cases e;rfl)) (below_al (below_al (Below.refl _ _)))
      ·go_enter Tryz.func40, Tryz.ntmps40
       go_wp2_with fail
       go_ret
       exact TB.no (fun e=>e4 (by cases e;rfl)) (below_al (below_al (Below.refl _ _)))
     ·have q1:decide (h.dig=g.dig)=false:=decide_eq_false e3
      have q2:=ba_ne e3
      go_enter Tryz.func40, Tryz.ntmps40
      go_wp2_with fail
      go_ret
      exact TB.no (fun e=>e3 (by cases e;rfl)) (below_al (below_al (Below.refl _ _)))
    ·go_enter Tryz.func40, Tryz.ntmps40
     go_wp2_with fail
     go_ret
     exact TB.no (fun e=>e2 (by cases e;rfl)) (below_al (below_al (Below.refl _ _)))
   ·go_enter Tryz.func40, Tryz.ntmps40
    go_wp2_with fail
    go_ret
    exact TB.no (fun e=>e1 (by cases e;rfl)) (below_al (below_al (Below.refl _ _)))
  ·go_enter Tryz.func40, Tryz.ntmps40
   go_wp2_with fail
   go_ret
   exact TB.no (fun e=>e0 (by cases e;rfl)) (below_al (below_al (Below.refl _ _)))
end Go.Proofs.YtgicnopppgnjjaaGreatDoor
