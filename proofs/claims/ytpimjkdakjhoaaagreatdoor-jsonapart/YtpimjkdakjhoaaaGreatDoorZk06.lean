/- Merged by program: XcReq, KgUnhex, NvSplit. -/
import Derived.Test.YtpimjkdakjhoaaaGreatDoorZk05
import Derived.Test.YtpimjkdakjhoaaaGreatDoorZk04
namespace Go.Proofs.YtpimjkdakjhoaaaGreatDoor
open Go.RowKit
set_option linter.unusedSimpArgs false
set_option linter.unusedVariables false
set_option maxHeartbeats 8000000
structure EqTwo (w:World) (h g:Hd) (na la nb lb:Value) (W:World):Prop where
 below:Below w.heap.size w W
 ba:Bx W w.heap.size h na la
 bb:Bx W (w.heap.size + 1) g nb lb
theorem EqTwo.then {w:World} {h g:Hd} {na la nb lb:Value} {W W1:World} (k:EqTwo w h g na la nb lb W) (hb:Below W.heap.size W W1):EqTwo w h g na la nb lb W1:=⟨below_then k.below hb,k.ba.below hb,k.bb.below hb⟩
theorem two_new (w:World) (h g:Hd) (na la nb lb:Value):EqTwo w h g na la nb lb ((w.alloc (.cells (vals h na la) 29)).alloc (.cells (vals g nb lb) 29)):=by
 refine ⟨below_al (below_al (Below.refl _ _)),(bx_new w h na la).below (below_al (Below.refl _ _)),?_⟩
 have:=bx_new (w.alloc (.cells (vals h na la) 29)) g nb lb
 rw [show (w.alloc (.cells (vals h na la) 29)).heap.size=w.heap.size + 1 by simp] at this
 exact this
theorem tellsB (p:Prop):∃ b:Bool,b=true↔p:=by
 by_cases h:p
 ·exact ⟨true,by simp [h]⟩
 ·exact ⟨false,by simp [h]⟩
theorem Calls.tbB {f:FuncId} {args:Array Value} {w:World} {p:Prop} {b:Bool} (h:Calls Tryz.prog f args w fun e w'=>TB p w e w') (hb:b=true↔p):Calls Tryz.prog f args w fun e w'=>e=.returned (.bool b)∧Below w.heap.size w w':=by
 refine h.mono ?_
 rintro e w' ⟨c,rfl,hc,hw⟩
 have:c=b:=by rw [Bool.eq_iff_iff];exact Iff.trans hc hb.symm
 rw [this]
 exact ⟨rfl,hw⟩
def REqOk (n:Nat):Prop:=∀ (x y:VT n) (ns ls ns' ls':Value) (w:World),RD n w x ns ls→RD n w y ns' ls' →
  Calls Tryz.prog 13 #[.agg (vals (vhd n x) ns ls),.agg (vals (vhd n y) ns' ls')] w fun e w'=>TB (x=y) w e w'
set_option maxRecDepth 100000 in
theorem requal_any:∀ n,REqOk n:=by
 intro n
 induction n with
 | zero=>intro x;exact Empty.elim x
 | succ n ih =>
  intro x y ns ls ns' ls' w hx hy
  obtain ⟨h,l⟩:=x
  obtain ⟨g,m⟩:=y
  obtain ⟨al,cl,rfl,hl1,hl2⟩:=hx.len
  obtain ⟨an,cn,rfl,hn1,hn2⟩:=hx.1.len
  obtain ⟨bl',dl,rfl,hm1,hm2⟩:=hy.len
  obtain ⟨bn,dn,rfl,ho1,ho2⟩:=hy.1.len
  replace hx:=hide hx
  replace hy:=hide hy
  replace ih:=hide ih
  have P0:=hide (two_new w h g (.slice an h.names.length cn) (.slice al l.length cl) (.slice bn g.names.length dn) (.slice bl' m.length dl))
  show Calls _ _ #[.agg #[.int .i64 h.kind,.bool h.flag,.bool h.neg,.string h.dig,.int .i64 h.exp,.int .u64 h.bits,.string h.text,.slice an h.names.length cn,.slice al l.length cl],.agg #[.int .i64 g.kind,.bool g.flag,.bool g.neg,.string g.dig,.int .i64 g.exp,.int .u64 g.bits,.string g.text,.slice bn g.names.length dn,.slice bl' m.length dl]] _ _
  simp only at hl1 hl2 hn1 hn2 hm1 hm2 ho1 ho2
  have ml:maxLen=9223372036854775807:=rfl
  by_cases e0:h.kind=g.kind
  ·by_cases e1:h.flag=g.flag
   ·by_cases e2:h.neg=g.neg
    ·by_cases e3:h.dig=g.dig
     ·by_cases e4:h.exp=g.exp
      ·by_cases e5:h.bits=g.bits
       ·by_cases e6:h.text=g.text
        ·by_cases e7:(h.names.length:Int)=(g.names.length:Int)
         ·by_cases e8:(l.length:Int)=(m.length:Int)
          ·have hxy:((h,l):VT (n + 1))=(g,m)↔h.names=g.names∧l=m:=by
            constructor
            ·intro e;cases e;exact ⟨rfl,rfl⟩
            ·rintro ⟨e9,rfl⟩
             have:h=g:=by clear e7;cases h;cases g;simp only at e0 e1 e2 e3 e4 e5 e6 e9;subst e0 e1 e2 e3 e4 e5 e6 e9;rfl
             rw [this]
           replace hxy:=hide hxy
           have hnl:=hide (show g.names.length=h.names.length by omega)
           have hml:=hide (show m.length=l.length by omega)
           obtain ⟨nm,rfl⟩:∃ nm,h={g with names:=nm}:=⟨h.names,by cases h;cases g;simp only at e0 e1 e2 e3 e4 e5 e6;subst e0 e1 e2 e3 e4 e5 e6;rfl⟩
           clear e0 e1 e2 e3 e4 e5 e6
           simp only at hnl e7 ⊢
           go_enter Tryz.func13, Tryz.ntmps13
           go_wp2_with fail
           go_loopw [5] (fun i w'=>∃ k:Nat,i=.int .i64 k∧k≤nm.length∧Hid (nm.take k=g.names.take k)∧Hid (EqTwo w {g with names:=nm} g (.slice an nm.length cn) (.slice al l.length cl) (.slice bn g.names.length dn) (.slice bl' m.length dl) w')) (fun i _=>nm.length - (intOf i).toNat)
           case atStart=>exact ⟨0,rfl,Nat.zero_le _,rfl,P0.out⟩
           case round =>
            obtain ⟨k,rfl,hk,hE,hP⟩:=hrel
            have c7:=hP.out.ba.cells.2.2.2.2.2.2.2.1
            have c8:=hP.out.ba.cells.2.2.2.2.2.2.2.2
            have d7:=hP.out.bb.cells.2.2.2.2.2.2.2.1
            have d8:=hP.out.bb.cells.2.2.2.2.2.2.2.2
            by_cases hkl:k<nm.length
            ·have hki:(k:Int)<(nm.length:Int):=by omega
             have hk63:(k:Int)<9223372036854775807:=by omega
             have hkg:k<g.names.length:=by rw [hnl.out];exact hkl
             have hkgi:(k:Int)<(g.names.length:Int):=by omega
             obtain ⟨b,o,c,he,hbl,hlc,hcm,hcell⟩:=hx.out.1.at k hkl
             have he':=Value.slice.inj he
             obtain ⟨rfl,_,rfl⟩:=he'
             clear he
             have hcell:=(hP.out.below.cell (p:=⟨b,o + k,none⟩) hbl).trans hcell
             obtain ⟨b',o',c',he,hbl',hlc',hcm',hcell'⟩:=hy.out.1.at k hkg
             have he':=Value.slice.inj he
             obtain ⟨rfl,_,rfl⟩:=he'
             clear he
             have hcell':=(hP.out.below.cell (p:=⟨b',o' + k,none⟩) hbl').trans hcell'
             obtain ⟨s,hs⟩:∃ s,nm[k]=s:=⟨_,rfl⟩
             obtain ⟨t,ht⟩:∃ t,g.names[k]=t:=⟨_,rfl⟩
             simp only [hs] at hcell
             simp only [ht] at hcell'
             have hs':=hide hs
             have ht':=hide ht
             clear hs ht
             by_cases hst:s=t
             ·subst hst
              go_wp2_with fail
              go_quiet (fail)
              go_wp2_with fail
              exact ⟨⟨k + 1,by go_num,by omega,take_eq hkl hkg hE.out (by rw [hs'.out,ht'.out]),hP.out.then (below_dn (Below.refl _ _) _)⟩,by simp [intOf];omega⟩
             ·have hst2:decide (s=t)=false:=decide_eq_false hst
              have hst3:=ba_ne hst
              have hne:¬ nm=g.names:=by
               intro h
               subst h
               rw [hs'.out] at ht'
               exact hst ht'.out
              have hne':=hide hne
              clear hne
              go_wp2_with fail
              go_quiet (fail)
              go_wp2_with fail
              go_ret
              exact TB.no (fun e=>hne'.out (hxy.out.1 e).1) (below_dn hP.out.below _)
            ·have hki:¬ ((k:Int)<(nm.length:Int)):=by omega
             have hN0:nm=g.names:=by
              have:=hE.out
              rw [List.take_of_length_le (by omega),List.take_of_length_le (by rw [hnl.out];omega)] at this
              exact this
             have hN:=hide hN0
             clear hE hN0
             go_wp2_with fail
             clear c7 c8 d7 d8
             go_loopw [6] (fun i w'=>∃ k:Nat,i=.int .i64 k∧k≤l.length∧Hid (l.take k=m.take k)∧Hid (EqTwo w {g with names:=nm} g (.slice an nm.length cn) (.slice al l.length cl) (.slice bn g.names.length dn) (.slice bl' m.length dl) w')) (fun i _=>l.length - (intOf i).toNat)
             case atStart=>exact ⟨0,rfl,Nat.zero_le _,rfl,hP.out⟩
             case round =>
              obtain ⟨k,rfl,hk,hE,hP⟩:=hrel
              have c8:=hP.out.ba.cells.2.2.2.2.2.2.2.2
              have d8:=hP.out.bb.cells.2.2.2.2.2.2.2.2
              by_cases hkl:k<l.length
              ·have hki:(k:Int)<(l.length:Int):=by omega
               have hk63:(k:Int)<9223372036854775807:=by omega
               have hkm:k<m.length:=by rw [hml.out];exact hkl
               have hkmi:(k:Int)<(m.length:Int):=by omega
               obtain ⟨b,o,c,he,hbl,hlc,hcm,ns1,ls1,hrg,hrd⟩:=hx.out.at k hkl
               have he':=Value.slice.inj he
               obtain ⟨rfl,_,rfl⟩:=he'
               clear he
               obtain ⟨b',o',c',he,hbl',hlc',hcm',ns2,ls2,hrg',hrd'⟩:=hy.out.at k hkm
               have he':=Value.slice.inj he
               obtain ⟨rfl,_,rfl⟩:=he'
               clear he
               obtain ⟨e1,e2,e3,e4,e5,e6,rfl,rfl⟩:=hrd.shape
               obtain ⟨f1,f2,f3,f4,f5,f6,rfl,rfl⟩:=hrd'.shape
               obtain ⟨q,hq'⟩:=tellsB (l[k]=m[k])
               have hcall:=hide (fun W (hb:Below w.heap.size w W)=>Calls.tbB (ih.out l[k] m[k] _ _ _ _ W (hrd.below hb) (hrd'.below hb)) hq')
               obtain ⟨hp,hhp⟩:∃ hp,vhd n l[k]=hp:=⟨_,rfl⟩
               obtain ⟨hq,hhq⟩:∃ hq,vhd n m[k]=hq:=⟨_,rfl⟩
               rw [hhp,hhq] at hcall
               have R1:=rangeAt_below hrg hP.out.below hbl
               have R2:=rangeAt_below hrg' hP.out.below hbl'
               replace R1:wr.rangeAt b (o + k * 9) (vals hp (.slice e1 e2 e3) (.slice e4 e5 e6)).toList:=hhp ▸ R1
               replace R2:wr.rangeAt b' (o' + k * 9) (vals hq (.slice f1 f2 f3) (.slice f4 f5 f6)).toList:=hhq ▸ R2
               obtain ⟨x0,x1,x2,x3,x4,x5,x6,x7,x8⟩:=range9 R1
               obtain ⟨y0,y1,y2,y3,y4,y5,y6,y7,y8⟩:=range9 R2
               have hbw:=hide hP.out.below
               have s1:=hP.out.ba.lt
               have s2:=hP.out.bb.lt
               have s3:b<wr.heap.size:=Nat.lt_of_lt_of_le hbl hbw.out.size
               have s4:b'<wr.heap.size:=Nat.lt_of_lt_of_le hbl' hbw.out.size
               have hqq:=hide hq'
               clear hq' hrg hrg' hrd hrd' R1 R2 hhp hhq
               go_wp2_with fail
               go_region_held3 (fun w'=>w'.cell? ⟨w.heap.size,8,none⟩=some (.slice (some ⟨b,o,none⟩) l.length cl)∧w'.cell? ⟨w.heap.size + 1,8,none⟩=some (.slice (some ⟨b',o',none⟩) m.length dl)∧w'.cell? ⟨b,o + k * 9,none⟩=some (.int .i64 hp.kind)∧w'.cell? ⟨b,o + k * 9 + 1,none⟩=some (.bool hp.flag)∧w'.cell? ⟨b,o + k * 9 + 2,none⟩=some (.bool hp.neg)∧w'.cell? ⟨b,o + k * 9 + 3,none⟩=some (.string hp.dig)∧w'.cell? ⟨b,o + k * 9 + 4,none⟩=some (.int .i64 hp.exp)∧w'.cell? ⟨b,o + k * 9 + 5,none⟩=some (.int .u64 hp.bits)∧w'.cell? ⟨b,o + k * 9 + 6,none⟩=some (.string hp.text)∧w'.cell? ⟨b,o + k * 9 + 7,none⟩=some (.slice e1 e2 e3)∧w'.cell? ⟨b,o + k * 9 + 8,none⟩=some (.slice e4 e5 e6)∧w'.cell? ⟨b',o' + k * 9,none⟩=some (.int .i64 hq.kind)∧w'.cell? ⟨b',o' + k * 9 + 1,none⟩=some (.bool hq.flag)∧w'.cell? ⟨b',o' + k * 9 + 2,none⟩=some (.bool hq.neg)∧w'.cell? ⟨b',o' + k * 9 + 3,none⟩=some (.string hq.dig)∧w'.cell? ⟨b',o' + k * 9 + 4,none⟩=some (.int .i64 hq.exp)∧w'.cell? ⟨b',o' + k * 9 + 5,none⟩=some (.int .u64 hq.bits)∧w'.cell? ⟨b',o' + k * 9 + 6,none⟩=some (.string hq.text)∧w'.cell? ⟨b',o' + k * 9 + 7,none⟩=some (.slice f1 f2 f3)∧w'.cell? ⟨b',o' + k * 9 + 8,none⟩=some (.slice f4 f5 f6)) (first|(simp [go_sem];done)|(simp [go_sem, *];done)|go_keep) (first|(go_at_call 13;refine (hcall.out _ hbw.out.drew).mono ?_;rintro e v1 ⟨rfl,hB1⟩;have K:∀ (i j:Nat) (v:Value),i<wr.heap.size→wr.cell? ⟨i,j,none⟩=some v→v1.cell? ⟨i,j,none⟩=some v:=fun i j v hi hv=>(hB1.cell (p:=⟨i,j,none⟩) hi).trans hv;have z1:=K _ _ _ s1 c8;have z2:=K _ _ _ s2 d8;have zu0:=K _ _ _ s3 x0;have zt0:=K _ _ _ s4 y0;have zu1:=K _ _ _ s3 x1;have zt1:=K _ _ _ s4 y1;have zu2:=K _ _ _ s3 x2;have zt2:=K _ _ _ s4 y2;have zu3:=K _ _ _ s3 x3;have zt3:=K _ _ _ s4 y3;have zu4:=K _ _ _ s3 x4;have zt4:=K _ _ _ s4 y4;have zu5:=K _ _ _ s3 x5;have zt5:=K _ _ _ s4 y5;have zu6:=K _ _ _ s3 x6;have zt6:=K _ _ _ s4 y6;have zu7:=K _ _ _ s3 x7;have zt7:=K _ _ _ s4 y7;have zu8:=K _ _ _ s3 x8;have zt8:=K _ _ _ s4 y8;clear K))
               have hP2:=hide (hP.out.then (below_then (Below.refl _ _).drew hB1))
               have hNo:Hid (q=false→¬ (({g with names:=nm},l):VT (n + 1))=(g,m)):=fun hf e=>by
                have:=(hxy.out.1 e).2
                subst this
                have:=hqq.out.2 rfl
                rw [hf] at this;cases this
               have hYes:Hid (q=true→l.take (k + 1)=m.take (k + 1)):=fun ht=>take_eq hkl hkm hE.out (hqq.out.1 ht)
               clear hcall hx hy ih z1 z2 zu0 zu1 zu2 zu3 zu4 zu5 zu6 zu7 zu8 zt0 zt1 zt2 zt3 zt4 zt5 zt6 zt7 zt8 x0 x1 x2 x3 x4 x5 x6 x7 x8 y0 y1 y2 y3 y4 y5 y6 y7 y8
               clear hqq hE hxy hP hB1 hbw s1 s2 s3 s4 c8 d8 hkmi hkm hml e7 e8 hnl hN P0
               rename_i hHeld
               clear hHeld
               cases q
               ·rw [Bool.not_false]
                go_wp2_with fail
                go_ret
                exact TB.no (hNo.out (by simp)) hP2.out.below
               ·rw [Bool.not_true]
                go_wp2_with fail
                exact ⟨⟨k + 1,by go_num,by omega,hYes.out (by simp),hP2.out⟩,by simp [intOf];omega⟩
              ·have hki:¬ ((k:Int)<(l.length:Int)):=by omega
               have hL:l=m:=by
                have:=hE.out
                rw [List.take_of_length_le (by omega),List.take_of_length_le (by rw [hml.out];omega)] at this
                exact this
               have hR:=hide (hxy.out.2 ⟨hN.out,hL⟩)
               clear hL
               go_wp2_with fail
               go_ret
               exact TB.yes hR.out hP.out.below
          ·go_enter Tryz.func13, Tryz.ntmps13
           go_wp2_with fail
           go_ret
           exact TB.no (fun e=>e8 (by cases e;rfl)) (below_al (below_al (Below.refl _ _)))
         ·go_enter Tryz.func13, Tryz.ntmps13
          go_wp2_with fail
          go_ret
          exact TB.no (fun e=>e7 (by cases e;rfl)) (below_al (below_al (Below.refl _ _)))
        ·have q1:decide (h.text=g.text)=false:=decide_eq_false e6
         have q2:=ba_ne e6
         go_enter Tryz.func13, Tryz.ntmps13
         go_wp2_with fail
         go_ret
         exact TB.no (fun e=>e6 (by cases e;rfl)) (below_al (below_al (Below.refl _ _)))
       ·go_enter Tryz.func13, Tryz.ntmps13
        go_wp2_with fail
        go_ret
        exact TB.no (fun e=>e5 (by cases e;rfl)) (below_al (below_al (Below.refl _ _)))
      ·go_enter Tryz.func13, Tryz.ntmps13
       go_wp2_with fail
       go_ret
       exact TB.no (fun e=>e4 (by cases e;rfl)) (below_al (below_al (Below.refl _ _)))
     ·have q1:decide (h.dig=g.dig)=false:=decide_eq_false e3
      have q2:=ba_ne e3
      go_enter Tryz.func13, Tryz.ntmps13
      go_wp2_with fail
      go_ret
      exact TB.no (fun e=>e3 (by cases e;rfl)) (below_al (below_al (Below.refl _ _)))
    ·go_enter Tryz.func13, Tryz.ntmps13
     go_wp2_with fail
     go_ret
     exact TB.no (fun e=>e2 (by cases e;rfl)) (below_al (below_al (Below.refl _ _)))
   ·go_enter Tryz.func13, Tryz.ntmps13
    go_wp2_with fail
    go_ret
    exact TB.no (fun e=>e1 (by cases e;rfl)) (below_al (below_al (Below.refl _ _)))
  ·go_enter Tryz.func13, Tryz.ntmps13
   go_wp2_with fail
   go_ret
   exact TB.no (fun e=>e0 (by cases e;rfl)) (below_al (below_al (Below.refl _ _)))
def fhv (c:UInt8):Option Nat:=if 48≤c.toNat∧c.toNat≤57 then some (c.toNat - 48) else if 97≤c.toNat∧c.toNat≤102 then some (c.toNat - 87) else none
theorem fhv_lt {c:UInt8} {d:Nat} (h:fhv c=some d):d<16:=by
 unfold fhv at h
 split at h
 ·have:=Option.some.inj h;omega
 ·split at h
  ·have:=Option.some.inj h;omega
  ·cases h
theorem fhexDigit_some (c:UInt8) (d:Nat) (w:World) (h:fhv c=some d) :
  Calls Tryz.prog 142 #[.int .u8 c.toNat] w fun e w'=>e=.returned (.tuple #[.int .u64 d,.bool true])∧w'=w:=by
 unfold fhv at h
 by_cases c1:48≤c.toNat∧c.toNat≤57
 ·rw [if_pos c1] at h
  have hd:=hide (Option.some.inj h)
  obtain ⟨c1,c2⟩:=c1
  have c1':(48:Int)≤c.toNat:=by omega
  have c2':(c.toNat:Int)≤57:=by omega
  clear h
  go_enter Tryz.func142, Tryz.ntmps142
  go_wp2
  exact bodyPost_ret (v:=.tuple #[.int .u64 ((c.toNat:Int) - 48),.bool true]) (by simp [results,Tryz.results142,go_sem]) rfl ⟨by rw [←hd.out,show (c.toNat:Int) - 48=((c.toNat - 48:Nat):Int) by omega],rfl⟩
 ·rw [if_neg c1] at h
  by_cases c3:97≤c.toNat∧c.toNat≤102
  ·rw [if_pos c3] at h
   have hd:=hide (Option.some.inj h)
   obtain ⟨c3,c4⟩:=c3
   have c3':(97:Int)≤c.toNat:=by omega
   have c4':(c.toNat:Int)≤102:=by omega
   clear h
   go_enter Tryz.func142, Tryz.ntmps142
   go_wp2
   exact bodyPost_ret (v:=.tuple #[.int .u64 ((c.toNat:Int) - 97 + 10),.bool true]) (by simp [results,Tryz.results142,go_sem]) rfl ⟨by rw [←hd.out,show (c.toNat:Int) - 97 + 10=((c.toNat - 87:Nat):Int) by omega],rfl⟩
  ·rw [if_neg c3] at h;cases h
theorem fhexDigit_none (c:UInt8) (w:World) (h:fhv c=none) :
  Calls Tryz.prog 142 #[.int .u8 c.toNat] w fun e w'=>e=.returned (.tuple #[.int .u64 0,.bool false])∧w'=w:=by
 unfold fhv at h
 have c1:¬ (48≤c.toNat∧c.toNat≤57):=by intro q;rw [if_pos q] at h;cases h
 rw [if_neg c1] at h
 have c3:¬ (97≤c.toNat∧c.toNat≤102):=by intro q;rw [if_pos q] at h;cases h
 clear h
 by_cases a1:c.toNat<48
 ·go_enter Tryz.func142, Tryz.ntmps142
  go_wp2
  exact bodyPost_ret (v:=.tuple #[.int .u64 0,.bool false]) (by simp [results,Tryz.results142,go_sem]) rfl ⟨rfl,rfl⟩
 ·by_cases a2:c.toNat<97
  ·have a1':(48:Int)≤c.toNat:=by omega
   have a3:¬ ((c.toNat:Int)≤57):=by omega
   have a2':¬ (97:Int)≤c.toNat:=by omega
   go_enter Tryz.func142, Tryz.ntmps142
   go_wp2
   exact bodyPost_ret (v:=.tuple #[.int .u64 0,.bool false]) (by simp [results,Tryz.results142,go_sem]) rfl ⟨rfl,rfl⟩
  ·have a3:¬ ((c.toNat:Int)≤57):=by omega
   have a2':(97:Int)≤c.toNat:=by omega
   have a4:¬ ((c.toNat:Int)≤102):=by omega
   go_enter Tryz.func142, Tryz.ntmps142
   go_wp2
   exact bodyPost_ret (v:=.tuple #[.int .u64 0,.bool false]) (by simp [results,Tryz.results142,go_sem]) rfl ⟨rfl,rfl⟩
def fuhS (o:Option Nat) (c:UInt8):Option Nat:=match o,fhv c with
 | some a,some d=>some (a * 16 + d)
 | _,_=>none
def fuh (l:List UInt8):Option Nat:=l.foldl fuhS (some 0)
theorem fuh_snoc (l:List UInt8) (c:UInt8):fuh (l++[c])=fuhS (fuh l) c:=by simp [fuh]
theorem fuh_none (l m:List UInt8) (h:fuh l=none):fuh (l++m)=none:=by
 unfold fuh at h ⊢
 rw [List.foldl_append,h]
 induction m with
 | nil=>rfl
 | cons a m ih=>exact ih
theorem fuh_take (s:ByteArray) (k:Nat) (h:k<s.size):fuh ((bl s).take (k + 1))=fuhS (fuh ((bl s).take k)) s[k]:=by
 rw [List.take_succ_eq_append_getElem (by rw [bl_length];exact h),fuh_snoc,bl_get s k h]
def funh (s:ByteArray):Nat×Nat:=if s.size=16 then (match fuh (bl s) with|some b=>(b,0)|none=>(0,20)) else (0,20)
theorem funh_len (s:ByteArray) (h:s.size≠16):funh s=(0,20):=by unfold funh;rw [if_neg h]
theorem funh_some (s:ByteArray) (h:s.size=16) (b:Nat) (hb:fuh (bl s)=some b):funh s=(b,0):=by unfold funh;rw [if_pos h,hb]
theorem funh_none (s:ByteArray) (h:s.size=16) (hb:fuh (bl s)=none):funh s=(0,20):=by unfold funh;rw [if_pos h,hb]
theorem funhex_any (s:ByteArray) (w:World) (hs:s.size≤maxLen) :
  Calls Tryz.prog 123 #[.string s] w fun e w'=>e=.returned (.tuple #[.int .u64 (funh s).1,.int .i64 (funh s).2])∧w'=w:=by
 unfold maxLen at hs
 by_cases h16:s.size=16
 ·have H16:=hide h16
  go_enter Tryz.func123, Tryz.ntmps123
  go_wp2
  go_loop [4,13] (fun b i=>∃ k a:Nat,k≤16∧a<16 ^ k∧i=.int .i64 k∧b=.int .u64 a∧Hid (fuh ((bl s).take k)=some a)) (fun b i=>16 - (intOf i).toNat)
  case atStart=>exact ⟨0,0,by omega,by omega,rfl,rfl,rfl⟩
  case round =>
   obtain ⟨k,a,hk,ha,rfl,rfl,hu⟩:=hrel
   by_cases hlt:k<16
   ·have hks:k<s.size:=by omega
    have hks':(k:Int)<s.size:=by omega
    have ht:=hide (fuh_take s k hks)
    rw [hu.out] at ht
    cases hc:fhv s[k] with
    | none =>
     have hr:=hide (show funh s=(0,20) by
      refine funh_none s h16 ?_
      have:=fuh_none ((bl s).take (k + 1)) ((bl s).drop (k + 1)) (by rw [ht.out];unfold fuhS;rw [hc])
      rw [List.take_append_drop] at this
      exact this)
     go_wp2_with (go_at_call 142;refine (fhexDigit_none s[k] _ hc).mono ?_;rintro e w' ⟨rfl,rfl⟩)
     exact bodyPost_ret (v:=.tuple #[.int .u64 0,.int .i64 20]) (by simp [results,Tryz.results123,go_sem]) rfl ⟨by rw [hr.out];rfl,rfl⟩
    | some d =>
     have hd:=fhv_lt hc
     have hp:16 ^ k≤16 ^ 15:=Nat.pow_le_pow_right (by decide) (by omega)
     have hp2:=hide (show 16 ^ (k + 1)=16 ^ k * 16 from Nat.pow_succ ..)
     have hv16:(16:Nat) ^ 15=1152921504606846976:=rfl
     rw [hv16] at hp
     have ha':a<1152921504606846976:=by omega
     have hor:bits .or .u64 ((a:Int) * 16) (d:Int)=((a * 16 + d:Nat):Int):=by
      have:=u64_or_nat (a * 16) d (by omega) (by omega)
      rw [nat_join 4 (a * 16) d (by show _ % 16=0;omega) (by show _<16;omega)] at this
      rw [←this];rfl
     have hn:=hide (show fuh ((bl s).take (k + 1))=some (a * 16 + d) by rw [ht.out];unfold fuhS;rw [hc])
     have hA:=hide ha
     clear hp hv16 ha
     go_wp2_with (go_at_call 142;refine (fhexDigit_some s[k] d _ hc).mono ?_;rintro e w' ⟨rfl,rfl⟩)
     refine ⟨⟨k + 1,a * 16 + d,by omega,?_,by go_num,rfl,hn.out⟩,by simp [intOf];omega⟩
     rw [hp2.out]
     have:=hA.out
     omega
   ·have hke:k=16:=by omega
    subst hke
    have hr:=hide (show funh s=(a,0) by
     refine funh_some s h16 a ?_
     have:=hu.out
     rw [List.take_of_length_le (by rw [bl_length,h16];exact Nat.le_refl _)] at this
     exact this)
    go_wp2
    exact bodyPost_ret (v:=.tuple #[.int .u64 a,.int .i64 0]) (by simp [results,Tryz.results123,go_sem]) rfl ⟨by rw [hr.out];rfl,rfl⟩
 ·have hr:=hide (funh_len s h16)
  have h16':¬ ((s.size:Int)=16):=by omega
  go_enter Tryz.func123, Tryz.ntmps123
  go_wp2
  exact bodyPost_ret (v:=.tuple #[.int .u64 0,.int .i64 20]) (by simp [results,Tryz.results123,go_sem]) rfl ⟨by rw [hr.out];rfl,rfl⟩
def badW (l:List UInt8):Bool:=l.isEmpty || (decide (1<l.length) && l.head?==some 48)
def splitT (n:Bool) (wh fr l4:List UInt8):Option (Bool×List UInt8×List UInt8×Bool×List UInt8) :=
 match l4 with
 | []=>some (n,wh,fr,false,[])
 | c :: r=>if c==101 || c==69 then (if spOk r then some (n,wh,fr,spPn r,spL r) else none) else none
def splitL (l:List UInt8):Option (Bool×List UInt8×List UInt8×Bool×List UInt8) :=
 if badW ((tlB 45 l).takeWhile isDig) then none
 else if hdB 46 ((tlB 45 l).dropWhile isDig) then
  if ((tlB 46 ((tlB 45 l).dropWhile isDig)).takeWhile isDig).isEmpty then none
  else splitT (hdB 45 l) ((tlB 45 l).takeWhile isDig) ((tlB 46 ((tlB 45 l).dropWhile isDig)).takeWhile isDig) ((tlB 46 ((tlB 45 l).dropWhile isDig)).dropWhile isDig)
 else splitT (hdB 45 l) ((tlB 45 l).takeWhile isDig) [] ((tlB 45 l).dropWhile isDig)
def splitE:Option (Bool×List UInt8×List UInt8×Bool×List UInt8)→Ending
 | none=>partsE false false ⟨#[]⟩ ⟨#[]⟩ false ⟨#[]⟩
 | some (n,wh,fr,pn,pw)=>partsE true n (mkB wh) (mkB fr) pn (mkB pw)
theorem takeWhile_len (l:List UInt8):(l.takeWhile isDig).length≤l.length:=(List.takeWhile_prefix _).length_le
theorem dropWhile_len (l:List UInt8):(l.dropWhile isDig).length≤l.length:=(List.dropWhile_suffix _).length_le
theorem get0_mkB (c:UInt8) (r:List UInt8) (h:0<(mkB (c :: r)).size):(mkB (c :: r))[0]=c:=by
 rw [←bl_get (mkB (c :: r)) 0 h]
 simp only [bl_mkB,List.getElem_cons_zero]
theorem split_empty (s:ByteArray) (w:World) (hs:s.size≤100000) (hbw:((tlB 45 (bl s)).takeWhile isDig).isEmpty=true) :
  Calls Tryz.prog 150 #[.string s] w fun e w'=>e=partsE false false ⟨#[]⟩ ⟨#[]⟩ false ⟨#[]⟩∧Below w.heap.size w w':=by
 have ml:maxLen=2 ^ 63 - 1:=rfl
 have HT:=hide (two5_new w false ⟨#[]⟩ ⟨#[]⟩ false ⟨#[]⟩ false ⟨#[]⟩ ⟨#[]⟩ false ⟨#[]⟩)
 have q1:=tlB_length 45 (bl s)
 rw [bl_length] at q1
 have q2:=takeWhile_len (tlB 45 (bl s))
 have q3:=dropWhile_len (tlB 45 (bl s))
 obtain ⟨n,hn⟩:∃ n,hdB 45 (bl s)=n:=⟨_,rfl⟩
 obtain ⟨l1,hl1⟩:∃ l1,tlB 45 (bl s)=l1:=⟨_,rfl⟩
 rw [hl1] at q1 q2 q3
 obtain ⟨wh,hwh⟩:∃ wh,l1.takeWhile isDig=wh:=⟨_,rfl⟩
 obtain ⟨l2,hl2⟩:∃ l2,l1.dropWhile isDig=l2:=⟨_,rfl⟩
 rw [hwh] at q2
 rw [hl2] at q3
 rw [hl1,hwh] at hbw
 have hw0:(mkB wh).toList.isEmpty=true:=by rw [mkB_nil];exact hbw
 have hn:=hide hn
 have hl1:=hide hl1
 have hwh:=hide hwh
 have hl2:=hide hl2
 clear hbw
 go_enter Tryz.func150, Tryz.ntmps150
 go_wp2_with fail
 refine (cutByte_any s 45 _ _ rfl (by omega)).mono ?_
 rw [hn.out,hl1.out]
 rintro e w1 ⟨rfl,hb1⟩
 have H1:=hide (HT.out.then hb1)
 clear HT hb1
 obtain ⟨c0,c1,c2,c3,c4,f0,f1,f2,f3,f4⟩:=H1.out.b1.cells
 go_wp2_with fail
 refine (cutDigits_any (mkB l1) _ (by rw [mkB_size];omega)).mono ?_
 rw [bl_mkB,hwh.out,hl2.out]
 rintro e w2 ⟨rfl,hb2⟩
 have H2:Hid (Two5 w w2 false ⟨#[]⟩ ⟨#[]⟩ false ⟨#[]⟩ n ⟨#[]⟩ ⟨#[]⟩ false ⟨#[]⟩):=by
  have h:=H1.out
  have h':Two5 w (w1.setCell ⟨w.heap.size + 1,0,none⟩ (.bool n)) false ⟨#[]⟩ ⟨#[]⟩ false ⟨#[]⟩ n ⟨#[]⟩ ⟨#[]⟩ false ⟨#[]⟩:=⟨below_set h.below (by omega),h.b0.other (by omega),h.b1.set0⟩
  exact h'.then hb2
 clear H1 hb2 c0 c1 c2 c3 c4 f0 f1 f2 f3 f4
 obtain ⟨c0,c1,c2,c3,c4,f0,f1,f2,f3,f4⟩:=H2.out.b1.cells
 obtain ⟨d0,d1,d2,d3,d4,g0,g1,g2,g3,g4⟩:=H2.out.b0.cells
 go_wp2
 refine bodyPost_ret (v:=.tuple #[.agg #[.bool false,.string ⟨#[]⟩,.string ⟨#[]⟩,.bool false,.string ⟨#[]⟩],.bool false]) (by simp [results,Tryz.results150,go_sem,d0,d1,d2,d3,d4]) rfl ⟨rfl,?_⟩
 iterate 6 refine below_set ?_ (by omega)
 exact H2.out.below
theorem split_lead (s:ByteArray) (w:World) (hs:s.size≤100000) (hbw:1<((tlB 45 (bl s)).takeWhile isDig).length∧((tlB 45 (bl s)).takeWhile isDig).head?=some 48) :
  Calls Tryz.prog 150 #[.string s] w fun e w'=>e=partsE false false ⟨#[]⟩ ⟨#[]⟩ false ⟨#[]⟩∧Below w.heap.size w w':=by
 have ml:maxLen=2 ^ 63 - 1:=rfl
 have HT:=hide (two5_new w false ⟨#[]⟩ ⟨#[]⟩ false ⟨#[]⟩ false ⟨#[]⟩ ⟨#[]⟩ false ⟨#[]⟩)
 have q1:=tlB_length 45 (bl s)
 rw [bl_length] at q1
 have q2:=takeWhile_len (tlB 45 (bl s))
 have q3:=dropWhile_len (tlB 45 (bl s))
 obtain ⟨n,hn⟩:∃ n,hdB 45 (bl s)=n:=⟨_,rfl⟩
 obtain ⟨l1,hl1⟩:∃ l1,tlB 45 (bl s)=l1:=⟨_,rfl⟩
 rw [hl1] at q1 q2 q3
 obtain ⟨wh,hwh⟩:∃ wh,l1.takeWhile isDig=wh:=⟨_,rfl⟩
 obtain ⟨l2,hl2⟩:∃ l2,l1.dropWhile isDig=l2:=⟨_,rfl⟩
 rw [hwh] at q2
 rw [hl2] at q3
 rw [hl1,hwh] at hbw
 have hw0:(mkB wh).toList.isEmpty=false:=by rw [mkB_nil];cases wh with|nil=>simp at hbw|cons _ _=>rfl
 have hw1:(1:Int)<(mkB wh).size:=by rw [mkB_size];omega
 have hw1':0<(mkB wh).size:=by rw [mkB_size];omega
 have hw2:(((mkB wh)[0].toNat:Int)==48)=true:=by
  have:=head_bl (mkB wh) hw1'
  rw [bl_mkB,hbw.2] at this
  rw [←Option.some.inj this];rfl
 have hn:=hide hn
 have hl1:=hide hl1
 have hwh:=hide hwh
 have hl2:=hide hl2
 clear hbw
 go_enter Tryz.func150, Tryz.ntmps150
 go_wp2_with fail
 refine (cutByte_any s 45 _ _ rfl (by omega)).mono ?_
 rw [hn.out,hl1.out]
 rintro e w1 ⟨rfl,hb1⟩
 have H1:=hide (HT.out.then hb1)
 clear HT hb1
 obtain ⟨c0,c1,c2,c3,c4,f0,f1,f2,f3,f4⟩:=H1.out.b1.cells
 go_wp2_with fail
 refine (cutDigits_any (mkB l1) _ (by rw [mkB_size];omega)).mono ?_
 rw [bl_mkB,hwh.out,hl2.out]
 rintro e w2 ⟨rfl,hb2⟩
 have H2:Hid (Two5 w w2 false ⟨#[]⟩ ⟨#[]⟩ false ⟨#[]⟩ n ⟨#[]⟩ ⟨#[]⟩ false ⟨#[]⟩):=by
  have h:=H1.out
  have h':Two5 w (w1.setCell ⟨w.heap.size + 1,0,none⟩ (.bool n)) false ⟨#[]⟩ ⟨#[]⟩ false ⟨#[]⟩ n ⟨#[]⟩ ⟨#[]⟩ false ⟨#[]⟩:=⟨below_set h.below (by omega),h.b0.other (by omega),h.b1.set0⟩
  exact h'.then hb2
 clear H1 hb2 c0 c1 c2 c3 c4 f0 f1 f2 f3 f4
 obtain ⟨c0,c1,c2,c3,c4,f0,f1,f2,f3,f4⟩:=H2.out.b1.cells
 obtain ⟨d0,d1,d2,d3,d4,g0,g1,g2,g3,g4⟩:=H2.out.b0.cells
 go_wp2
 refine bodyPost_ret (v:=.tuple #[.agg #[.bool false,.string ⟨#[]⟩,.string ⟨#[]⟩,.bool false,.string ⟨#[]⟩],.bool false]) (by simp [results,Tryz.results150,go_sem,d0,d1,d2,d3,d4]) rfl ⟨rfl,?_⟩
 iterate 6 refine below_set ?_ (by omega)
 exact H2.out.below
end Go.Proofs.YtpimjkdakjhoaaaGreatDoor
