/- Merged by program: WdEqual, WfBare. -/
import Derived.Test.YtgicnopppgnjjaaGreatDoorZd07
import Derived.BigQuiet
set_option linter.unusedSimpArgs false
set_option linter.unusedVariables false
namespace Go.Proofs.YtgicnopppgnjjaaGreatDoor
open Go.RowKit
def Tells (b:Bool) (p:Prop):Prop:=Hid (b=true↔p)
def TB (p:Prop) (w:World) (e:Ending) (w':World):Prop:=∃ b,e=.returned (.bool b)∧Tells b p∧Below w.heap.size w w'
theorem TB.yes {p:Prop} {w w':World} (h:p) (hb:Below w.heap.size w w'):TB p w (.returned (.bool true)) w':=⟨true,rfl,(show Hid _ from ⟨(fun _=>h),(fun _=>rfl)⟩),hb⟩
theorem TB.no {p:Prop} {w w':World} (h:¬ p) (hb:Below w.heap.size w w'):TB p w (.returned (.bool false)) w':=⟨false,rfl,(show Hid _ from ⟨(fun h=>by cases h),(fun k=>absurd k h)⟩),hb⟩
theorem take_eq {α:Type} {l m:List α} {k:Nat} (hl:k<l.length) (hm:k<m.length) (h:l.take k=m.take k) (he:l[k]=m[k]):l.take (k + 1)=m.take (k + 1):=by
 rw [List.take_succ_eq_append_getElem hl,List.take_succ_eq_append_getElem hm,h,he]
theorem below_dn {B:Nat} {w W:World} (h:Below B w W) (n:Nat):Below B w (W.drewN n):=⟨h.os,h.tape,h.output,h.size,h.block⟩
set_option maxHeartbeats 1000000 in
set_option maxRecDepth 100000 in
theorem sequal_any (u v:Value) (l m:List ByteArray) (w:World) (hu:NL w u l) (hv:NL w v m) :
  Calls Tryz.prog 168 #[u,v] w fun e w'=>TB (l=m) w e w':=by
 obtain ⟨au,cu,rfl,hu1,hu2⟩:=hu.len
 obtain ⟨av,cv,rfl,hv1,hv2⟩:=hv.len
 have hu:=hide hu
 have hv:=hide hv
 have ml:maxLen=9223372036854775807:=rfl
 by_cases hl:(l.length:Int)=(m.length:Int)
 ·have hml:=hide (show m.length=l.length by omega)
  rw [hml.out] at hv1 ⊢
  clear hl
  go_enter Tryz.func168, Tryz.ntmps168
  go_wp2_with fail
  go_loopw [13] (fun i w'=>∃ k:Nat,i=.int .i64 k∧k≤l.length∧Hid (l.take k=m.take k∧Below w.heap.size w w')) (fun i _=>l.length - (intOf i).toNat)
  case atStart=>exact ⟨0,rfl,Nat.zero_le _,rfl,Below.refl _ _⟩
  case round =>
   obtain ⟨k,rfl,hk,H⟩:=hrel
   by_cases hkl:k<l.length
   ·have hki:(k:Int)<(l.length:Int):=by omega
    have hk63:(k:Int)<9223372036854775807:=by omega
    obtain ⟨b,o,c,he,hbl,hlc,hcm,hcell⟩:=hu.out.at k hkl
    have he':=Value.slice.inj he
    obtain ⟨rfl,_,rfl⟩:=he'
    clear he
    have hcell:=(H.out.2.cell (p:=⟨b,o + k,none⟩) hbl).trans hcell
    obtain ⟨b',o',c',he,hbl',hlc',hcm',hcell'⟩:=hv.out.at k (by rw [hml.out];exact hkl)
    have he':=Value.slice.inj he
    obtain ⟨rfl,_,rfl⟩:=he'
    clear he
    have hcell':=(H.out.2.cell (p:=⟨b',o' + k,none⟩) hbl').trans hcell'
    obtain ⟨s,hs⟩:∃ s,l[k]=s:=⟨_,rfl⟩
    obtain ⟨t,ht⟩:∃ t,m[k]'(by rw [hml.out];exact hkl)=t:=⟨_,rfl⟩
    rw [hs] at hcell
    rw [ht] at hcell'
    have hs':=hide hs
    have ht':=hide ht
    clear hs ht
    by_cases hst:s=t
    ·subst hst
     go_wp2_with fail
     go_quiet (fail)
     go_wp2_with fail
     refine ⟨⟨k + 1,by go_num,by omega,take_eq hkl (by rw [hml.out];exact hkl) H.out.1 (by rw [hs'.out,ht'.out]),?_⟩,by simp [intOf];omega⟩
     exact below_dn H.out.2 _
    ·have hst2:decide (s=t)=false:=decide_eq_false hst
     have hst3:(s.toList==t.toList)=false:=by
      rw [beq_eq_false_iff_ne]
      intro h
      exact hst (ByteArray.ext (Array.toList_inj.1 (by rw [ByteArray.toList_eq,ByteArray.toList_eq] at h;exact h)))
     have hne:l≠m:=by
      intro h
      subst h
      rw [hs'.out] at ht'
      exact hst ht'.out
     have hne':=hide hne
     clear hne
     go_wp2_with fail
     go_quiet (fail)
     go_wp2_with fail
     go_ret
     exact TB.no hne'.out (below_dn H.out.2 _)
   ·have hki:¬ ((k:Int)<(l.length:Int)):=by omega
    have hE:=H.out.1
    rw [List.take_of_length_le (by omega),List.take_of_length_le (by rw [hml.out];omega)] at hE
    have hE':=hide hE
    clear hE
    go_wp2_with fail
    go_ret
    exact TB.yes hE'.out H.out.2
 ·go_enter Tryz.func168, Tryz.ntmps168
  go_wp2_with fail
  go_ret
  exact TB.no (fun h=>by rw [h] at hl;exact absurd rfl hl) (Below.refl _ _)
theorem ba_ne {s t:ByteArray} (h:¬ s=t):(s.toList==t.toList)=false:=by
 rw [beq_eq_false_iff_ne]
 intro e
 exact h (ByteArray.ext (Array.toList_inj.1 (by rw [ByteArray.toList_eq,ByteArray.toList_eq] at e;exact e)))
theorem two_cells {w w1:World} {c1 c2:Array Value} {T1 T2:TypeId} (hb:Below ((w.alloc (.cells c1 T1)).alloc (.cells c2 T2)).heap.size ((w.alloc (.cells c1 T1)).alloc (.cells c2 T2)) w1) (j:Nat):w1.cell? ⟨w.heap.size,j,none⟩=c1[j]?∧w1.cell? ⟨w.heap.size + 1,j,none⟩=c2[j]?:=by
 have h1:((w.alloc (.cells c1 T1)).alloc (.cells c2 T2)).heap=(w.heap.push (.cells c1 T1)).push (.cells c2 T2):=rfl
 have s1:((w.alloc (.cells c1 T1)).alloc (.cells c2 T2)).heap.size=w.heap.size + 2:=by rw [h1];simp
 have b1:=hb.block w.heap.size (by rw [s1];omega)
 have b2:=hb.block (w.heap.size + 1) (by rw [s1];omega)
 rw [h1] at b1 b2
 have g1:((w.heap.push (Obj.cells c1 T1)).push (Obj.cells c2 T2))[w.heap.size]?=some (.cells c1 T1):=by simp [Array.getElem?_push]
 have g2:((w.heap.push (Obj.cells c1 T1)).push (Obj.cells c2 T2))[w.heap.size + 1]?=some (.cells c2 T2):=by rw [show w.heap.size + 1=(w.heap.push (Obj.cells c1 T1)).size by simp,Array.getElem?_push_size]
 rw [g1] at b1
 rw [g2] at b2
 unfold World.cell?
 simp only [b1,b2]
 exact ⟨rfl,rfl⟩
def EqOk (n:Nat):Prop:=∀ (x y:VT n) (ns ls ns' ls':Value) (w:World),RD n w x ns ls→RD n w y ns' ls' →
  Calls Tryz.prog 132 #[.agg (vals (vhd n x) ns ls),.agg (vals (vhd n y) ns' ls')] w fun e w'=>TB (x=y) w e w'
set_option maxHeartbeats 1000000 in
set_option maxRecDepth 100000 in
theorem eqfunc_any (n:Nat) (ih:EqOk n) (x y:VT (n + 1)) (ns ls ns' ls':Value) (w:World) (hu:RD (n + 1) w x ns ls) (hv:RD (n + 1) w y ns' ls') :
  Calls Tryz.prog 169 #[ls,ls',.func (.func 132) #[] #[]] w fun e w'=>TB (x.2=y.2) w e w':=by
 obtain ⟨h,l⟩:=x
 obtain ⟨g,m⟩:=y
 obtain ⟨al,cl,rfl,hl1,hl2⟩:=hu.len
 obtain ⟨bl',dl,rfl,hm1,hm2⟩:=hv.len
 have hu:=hide hu
 have hv:=hide hv
 simp only at hl1 hl2 hm1 hm2 ⊢
 have ml:maxLen=9223372036854775807:=rfl
 by_cases hl:(l.length:Int)=(m.length:Int)
 ·have hml:=hide (show m.length=l.length by omega)
  rw [hml.out] at hm1 ⊢
  clear hl
  go_enter Tryz.func169, Tryz.ntmps169
  go_wp2_with fail
  go_loopw [17] (fun i w'=>∃ k:Nat,i=.int .i64 k∧k≤l.length∧Hid (l.take k=m.take k∧Below w.heap.size w w')) (fun i _=>l.length - (intOf i).toNat)
  case atStart=>exact ⟨0,rfl,Nat.zero_le _,rfl,Below.refl _ _⟩
  case round =>
   obtain ⟨k,rfl,hk,H⟩:=hrel
   by_cases hkl:k<l.length
   ·have hki:(k:Int)<(l.length:Int):=by omega
    have hk63:(k:Int)<9223372036854775807:=by omega
    obtain ⟨b,o,c,he,hbl,hlc,hcm,ns1,ls1,hrg,hrd⟩:=hu.out.at k hkl
    have he':=Value.slice.inj he
    obtain ⟨rfl,_,rfl⟩:=he'
    clear he
    obtain ⟨q0,q1,q2,q3,q4,q5,q6,q7,q8⟩:=range9 (rangeAt_below hrg H.out.2 hbl)
    have hkm:k<m.length:=by rw [hml.out];exact hkl
    obtain ⟨b',o',c',he,hbl',hlc',hcm',ns2,ls2,hrg',hrd'⟩:=hv.out.at k hkm
    have he':=Value.slice.inj he
    obtain ⟨rfl,_,rfl⟩:=he'
    clear he
    have hwr:Hid (∀ o,Below w.heap.size w (wr.alloc o)):=fun o=>below_al H.out.2
    have hwr2:Hid (∀ o o',Below w.heap.size w ((wr.alloc o).alloc o')):=fun o o'=>below_al (below_al H.out.2)
    have R9:=fun ob=>range9 (rangeAt_below hrg' (hwr.out ob) hbl')
    have r0:=fun ob=>(R9 ob).1
    have r1:=fun ob=>(R9 ob).2.1
    have r2:=fun ob=>(R9 ob).2.2.1
    have r3:=fun ob=>(R9 ob).2.2.2.1
    have r4:=fun ob=>(R9 ob).2.2.2.2.1
    have r5:=fun ob=>(R9 ob).2.2.2.2.2.1
    have r6:=fun ob=>(R9 ob).2.2.2.2.2.2.1
    have r7:=fun ob=>(R9 ob).2.2.2.2.2.2.2.1
    have r8:=fun ob=>(R9 ob).2.2.2.2.2.2.2.2
    clear R9
    have hd1:=hide hrd
    have hd2:=hide hrd'
    obtain ⟨a1,m1,d1,a2,m2,d2,rfl,rfl⟩:=hrd.shape
    obtain ⟨a3,m3,d3,a4,m4,d4,rfl,rfl⟩:=hrd'.shape
    clear hrg hrd hrg' hrd'
    have hcall:=hide (fun o o'=>ih l[k] m[k] _ _ _ _ _ (hd1.out.below (hwr2.out o o')) (hd2.out.below (hwr2.out o o')))
    go_wp2_with fail
    refine (hcall.out _ _).mono ?_
    rintro e w2 ⟨b2,rfl,hT,hb1⟩
    have hb2:=hide (below_then (hwr2.out _ _) hb1)
    cases b2
    ·have hne:¬ l=m:=by
      intro e
      have:=hT.2 (by subst e;rfl)
      cases this
     have hne':=hide hne
     clear hne
     go_wp2_with fail
     go_ret
     exact TB.no hne'.out hb2.out
    ·have hEq:=hide (hT.1 rfl)
     go_wp2_with fail
     exact ⟨⟨k + 1,by go_num,by omega,take_eq hkl hkm H.out.1 hEq.out,hb2.out⟩,by simp [intOf];omega⟩
   ·have hki:¬ ((k:Int)<(l.length:Int)):=by omega
    have hE:=H.out.1
    rw [List.take_of_length_le (by omega),List.take_of_length_le (by rw [hml.out];omega)] at hE
    have hE':=hide hE
    clear hE
    go_wp2_with fail
    go_ret
    exact TB.yes hE'.out H.out.2
 ·go_enter Tryz.func169, Tryz.ntmps169
  go_wp2_with fail
  go_ret
  exact TB.no (fun h=>by rw [h] at hl;exact absurd rfl hl) (Below.refl _ _)
set_option maxHeartbeats 1000000 in
set_option maxRecDepth 100000 in
theorem equal_any:∀ n,EqOk n:=by
 intro n
 induction n with
 | zero=>intro x;exact Empty.elim x
 | succ n ih =>
  intro x y ns ls ns' ls' w hx hy
  obtain ⟨h,l⟩:=x
  obtain ⟨g,m⟩:=y
  obtain ⟨al,cl,rfl,hl1,hl2⟩:=hx.len
  obtain ⟨an,cn,rfl,hn1,hn2⟩:=hx.1.len
  obtain ⟨bl',dl,rfl,hm1,hm2⟩:=hy.len
  obtain ⟨bn,dn,rfl,ho1,ho2⟩:=hy.1.len
  have hx:=hide hx
  have hy:=hide hy
  show Calls _ _ #[.agg #[.int .i64 h.kind,.bool h.flag,.bool h.neg,.string h.dig,.int .i64 h.exp,.int .u64 h.bits,.string h.text,.slice an h.names.length cn,.slice al l.length cl],.agg #[.int .i64 g.kind,.bool g.flag,.bool g.neg,.string g.dig,.int .i64 g.exp,.int .u64 g.bits,.string g.text,.slice bn g.names.length dn,.slice bl' m.length dl]] _ _
  by_cases e0:h.kind=g.kind
  ·by_cases e1:h.flag=g.flag
   ·by_cases e2:h.neg=g.neg
    ·by_cases e3:h.dig=g.dig
     ·by_cases e4:h.exp=g.exp
      ·by_cases e5:h.bits=g.bits
       ·by_cases e6:h.text=g.text
        ·have hnm:=hide (fun o o'=>sequal_any (.slice an h.names.length cn) (.slice bn g.names.length dn) h.names g.names ((w.alloc o).alloc o') (hx.out.1.below (below_al (below_al (Below.refl _ _)))) (hy.out.1.below (below_al (below_al (Below.refl _ _)))))
         have hxy:((h,l):VT (n + 1))=(g,m)↔h.names=g.names∧l=m:=by
          constructor
          ·intro e;cases e;exact ⟨rfl,rfl⟩
          ·rintro ⟨e7,rfl⟩
           have:h=g:=by cases h;cases g;simp only at e0 e1 e2 e3 e4 e5 e6 e7;subst e0 e1 e2 e3 e4 e5 e6 e7;rfl
           rw [this]
         have hxy':=hide hxy
         have hlf:=hide (fun W (hb:Below w.heap.size w W)=>eqfunc_any n ih (h,l) (g,m) _ _ _ _ W (hx.out.below hb) (hy.out.below hb))
         clear hxy
         have B1:=hide (bx_new w h (.slice an h.names.length cn) (.slice al l.length cl))
         have B2:=hide (fun o=>bx_new (w.alloc o) g (.slice bn g.names.length dn) (.slice bl' m.length dl))
         go_enter Tryz.func132, Tryz.ntmps132
         go_wp2_with fail
         refine (hnm.out _ _).mono ?_
         rintro e w1 ⟨b,rfl,hT,hb1⟩
         obtain ⟨k1,k2⟩:=two_cells hb1 8
         replace k1:w1.cell? ⟨w.heap.size,8,none⟩=some (.slice al l.length cl):=k1
         replace k2:w1.cell? ⟨w.heap.size + 1,8,none⟩=some (.slice bl' m.length dl):=k2
         have hb2:=hide (below_then (below_al (below_al (Below.refl _ _))) hb1)
         cases b
         ·go_wp2_with fail
          go_ret
          exact TB.no (fun e=>by have:=hT.2 (hxy'.out.1 e).1;cases this) hb2.out
         ·have hcall:=hide (hlf.out w1 hb2.out)
          go_wp2_with (go_at_call 169;refine hcall.out.mono ?_;rintro e w2 ⟨b,rfl,hT2,hb3⟩)
          go_ret
          cases b
          ·exact TB.no (fun e=>by have:=hT2.2 (hxy'.out.1 e).2;cases this) (below_then hb2.out hb3)
          ·exact TB.yes (hxy'.out.2 ⟨hT.1 rfl,hT2.1 rfl⟩) (below_then hb2.out hb3)
        ·have q1:decide (h.text=g.text)=false:=decide_eq_false e6
         have q2:=ba_ne e6
         go_enter Tryz.func132, Tryz.ntmps132
         go_wp2_with fail
         go_ret
         exact TB.no (fun e=>e6 (by cases e;rfl)) (below_al (below_al (Below.refl _ _)))
       ·go_enter Tryz.func132, Tryz.ntmps132
        go_wp2_with fail
        go_ret
        exact TB.no (fun e=>e5 (by cases e;rfl)) (below_al (below_al (Below.refl _ _)))
      ·go_enter Tryz.func132, Tryz.ntmps132
       go_wp2_with fail
       go_ret
       exact TB.no (fun e=>e4 (by cases e;rfl)) (below_al (below_al (Below.refl _ _)))
     ·have q1:decide (h.dig=g.dig)=false:=decide_eq_false e3
      have q2:=ba_ne e3
      go_enter Tryz.func132, Tryz.ntmps132
      go_wp2_with fail
      go_ret
      exact TB.no (fun e=>e3 (by cases e;rfl)) (below_al (below_al (Below.refl _ _)))
    ·go_enter Tryz.func132, Tryz.ntmps132
     go_wp2_with fail
     go_ret
     exact TB.no (fun e=>e2 (by cases e;rfl)) (below_al (below_al (Below.refl _ _)))
   ·go_enter Tryz.func132, Tryz.ntmps132
    go_wp2_with fail
    go_ret
    exact TB.no (fun e=>e1 (by cases e;rfl)) (below_al (below_al (Below.refl _ _)))
  ·go_enter Tryz.func132, Tryz.ntmps132
   go_wp2_with fail
   go_ret
   exact TB.no (fun e=>e0 (by cases e;rfl)) (below_al (below_al (Below.refl _ _)))
end Go.Proofs.YtgicnopppgnjjaaGreatDoor
namespace Go.Proofs.YtgicnopppgnjjaaGreatDoor
open Go.RowKit
def zr (k:Int):Hd:=⟨k,false,false,⟨#[]⟩,0,0,⟨#[]⟩,[]⟩
def strip (h:Hd):Hd:=⟨h.kind,bif h.kind==2 then false else h.flag,bif h.kind==3 then false else h.neg,bif h.kind==3 then ⟨#[]⟩ else h.dig,bif h.kind==3 then 0 else h.exp,bif h.kind==4 then 0 else h.bits,bif h.kind==5 || h.kind==6 || h.kind==9 then ⟨#[]⟩ else h.text,bif h.kind==8 then [] else h.names⟩
def Bare {α:Type} (h:Hd) (l:List α):Prop:=1≤h.kind∧h.kind≤9∧strip h=zr h.kind∧(7≤h.kind∨l=[])
theorem rd_zero (n:Nat) (w:World) (k:Int):RD (n + 1) w ((zr k,[]):VT (n + 1)) (.slice none 0 0) (.slice none 0 0):=⟨Or.inl ⟨rfl,rfl⟩,Or.inl ⟨rfl,rfl⟩⟩
set_option maxHeartbeats 1000000 in
set_option maxRecDepth 100000 in
theorem bare_1 (n:Nat) (h:Hd) (l:List (VT n)) (ns ls:Value) (w:World) (hr:RD (n + 1) w (h,l) ns ls) (hk:h.kind=1) :
  Calls Tryz.prog 200 #[.agg (vals h ns ls)] w fun e w'=>TB (Bare h l) w e w':=by
 obtain ⟨a1,m1,d1,a2,m2,d2,rfl,rfl⟩:=hr.shape
 have hr:=hide hr
 have hx:Bare h l↔(({h with kind:=1},l):VT (n + 1))=(zr 1,[]):=by
  obtain ⟨k,f,ng,dg,ex,bt,tx,nm⟩:=h
  simp only at hk
  subst hk
  simp [Bare,strip,zr]
 have hx':=hide hx
 have hE:=hide (fun o=>equal_any (n + 1) ({h with kind:=1},l) (zr 1,[]) (.slice a1 m1 d1) (.slice a2 m2 d2) _ _ (w.alloc o) ⟨(hr.out.below (below_al (o:=o) (Below.refl _ _))).1,(hr.out.below (below_al (o:=o) (Below.refl _ _))).2⟩ (rd_zero n _ 1))
 show Calls _ _ #[.agg #[.int .i64 h.kind,.bool h.flag,.bool h.neg,.string h.dig,.int .i64 h.exp,.int .u64 h.bits,.string h.text,.slice a1 m1 d1,.slice a2 m2 d2]] _ _
 rw [hk]
 clear hx hk
 go_enter Tryz.func200, Tryz.ntmps200
 go_wp2_with (go_at_call 132;refine (hE.out _).mono ?_;rintro e w1 ⟨b,rfl,hT,hb1⟩)
 go_ret
 exact ⟨b,rfl,(show Hid _ from ⟨(fun q=>hx'.out.2 (hT.1 q)),(fun q=>hT.2 (hx'.out.1 q))⟩),below_then (below_al (Below.refl _ _)) hb1⟩
set_option maxHeartbeats 1000000 in
set_option maxRecDepth 100000 in
theorem bare_2 (n:Nat) (h:Hd) (l:List (VT n)) (ns ls:Value) (w:World) (hr:RD (n + 1) w (h,l) ns ls) (hk:h.kind=2) :
  Calls Tryz.prog 200 #[.agg (vals h ns ls)] w fun e w'=>TB (Bare h l) w e w':=by
 obtain ⟨a1,m1,d1,a2,m2,d2,rfl,rfl⟩:=hr.shape
 have hr:=hide hr
 have hx:Bare h l↔(({h with kind:=2,flag:=false},l):VT (n + 1))=(zr 2,[]):=by
  obtain ⟨k,f,ng,dg,ex,bt,tx,nm⟩:=h
  simp only at hk
  subst hk
  simp [Bare,strip,zr]
 have hx':=hide hx
 have hE:=hide (fun o=>equal_any (n + 1) ({h with kind:=2,flag:=false},l) (zr 2,[]) (.slice a1 m1 d1) (.slice a2 m2 d2) _ _ (w.alloc o) ⟨(hr.out.below (below_al (o:=o) (Below.refl _ _))).1,(hr.out.below (below_al (o:=o) (Below.refl _ _))).2⟩ (rd_zero n _ 2))
 show Calls _ _ #[.agg #[.int .i64 h.kind,.bool h.flag,.bool h.neg,.string h.dig,.int .i64 h.exp,.int .u64 h.bits,.string h.text,.slice a1 m1 d1,.slice a2 m2 d2]] _ _
 rw [hk]
 clear hx hk
 go_enter Tryz.func200, Tryz.ntmps200
 go_wp2_with (go_at_call 132;refine (hE.out _).mono ?_;rintro e w1 ⟨b,rfl,hT,hb1⟩)
 go_ret
 exact ⟨b,rfl,(show Hid _ from ⟨(fun q=>hx'.out.2 (hT.1 q)),(fun q=>hT.2 (hx'.out.1 q))⟩),below_then (below_al (Below.refl _ _)) hb1⟩
set_option maxHeartbeats 1000000 in
set_option maxRecDepth 100000 in
theorem bare_3 (n:Nat) (h:Hd) (l:List (VT n)) (ns ls:Value) (w:World) (hr:RD (n + 1) w (h,l) ns ls) (hk:h.kind=3) :
  Calls Tryz.prog 200 #[.agg (vals h ns ls)] w fun e w'=>TB (Bare h l) w e w':=by
 obtain ⟨a1,m1,d1,a2,m2,d2,rfl,rfl⟩:=hr.shape
 have hr:=hide hr
 have hx:Bare h l↔(({h with kind:=3,neg:=false,dig:=⟨#[]⟩,exp:=0},l):VT (n + 1))=(zr 3,[]):=by
  obtain ⟨k,f,ng,dg,ex,bt,tx,nm⟩:=h
  simp only at hk
  subst hk
  simp [Bare,strip,zr]
 have hx':=hide hx
 have hE:=hide (fun o=>equal_any (n + 1) ({h with kind:=3,neg:=false,dig:=⟨#[]⟩,exp:=0},l) (zr 3,[]) (.slice a1 m1 d1) (.slice a2 m2 d2) _ _ (w.alloc o) ⟨(hr.out.below (below_al (o:=o) (Below.refl _ _))).1,(hr.out.below (below_al (o:=o) (Below.refl _ _))).2⟩ (rd_zero n _ 3))
 show Calls _ _ #[.agg #[.int .i64 h.kind,.bool h.flag,.bool h.neg,.string h.dig,.int .i64 h.exp,.int .u64 h.bits,.string h.text,.slice a1 m1 d1,.slice a2 m2 d2]] _ _
 rw [hk]
 clear hx hk
 go_enter Tryz.func200, Tryz.ntmps200
 go_wp2_with (go_at_call 132;refine (hE.out _).mono ?_;rintro e w1 ⟨b,rfl,hT,hb1⟩)
 go_ret
 exact ⟨b,rfl,(show Hid _ from ⟨(fun q=>hx'.out.2 (hT.1 q)),(fun q=>hT.2 (hx'.out.1 q))⟩),below_then (below_al (Below.refl _ _)) hb1⟩
set_option maxHeartbeats 1000000 in
set_option maxRecDepth 100000 in
theorem bare_4 (n:Nat) (h:Hd) (l:List (VT n)) (ns ls:Value) (w:World) (hr:RD (n + 1) w (h,l) ns ls) (hk:h.kind=4) :
  Calls Tryz.prog 200 #[.agg (vals h ns ls)] w fun e w'=>TB (Bare h l) w e w':=by
 obtain ⟨a1,m1,d1,a2,m2,d2,rfl,rfl⟩:=hr.shape
 have hr:=hide hr
 have hx:Bare h l↔(({h with kind:=4,bits:=0},l):VT (n + 1))=(zr 4,[]):=by
  obtain ⟨k,f,ng,dg,ex,bt,tx,nm⟩:=h
  simp only at hk
  subst hk
  simp [Bare,strip,zr]
 have hx':=hide hx
 have hE:=hide (fun o=>equal_any (n + 1) ({h with kind:=4,bits:=0},l) (zr 4,[]) (.slice a1 m1 d1) (.slice a2 m2 d2) _ _ (w.alloc o) ⟨(hr.out.below (below_al (o:=o) (Below.refl _ _))).1,(hr.out.below (below_al (o:=o) (Below.refl _ _))).2⟩ (rd_zero n _ 4))
 show Calls _ _ #[.agg #[.int .i64 h.kind,.bool h.flag,.bool h.neg,.string h.dig,.int .i64 h.exp,.int .u64 h.bits,.string h.text,.slice a1 m1 d1,.slice a2 m2 d2]] _ _
 rw [hk]
 clear hx hk
 go_enter Tryz.func200, Tryz.ntmps200
 go_wp2_with (go_at_call 132;refine (hE.out _).mono ?_;rintro e w1 ⟨b,rfl,hT,hb1⟩)
 go_ret
 exact ⟨b,rfl,(show Hid _ from ⟨(fun q=>hx'.out.2 (hT.1 q)),(fun q=>hT.2 (hx'.out.1 q))⟩),below_then (below_al (Below.refl _ _)) hb1⟩
set_option maxHeartbeats 1000000 in
set_option maxRecDepth 100000 in
theorem bare_5 (n:Nat) (h:Hd) (l:List (VT n)) (ns ls:Value) (w:World) (hr:RD (n + 1) w (h,l) ns ls) (hk:h.kind=5) :
  Calls Tryz.prog 200 #[.agg (vals h ns ls)] w fun e w'=>TB (Bare h l) w e w':=by
 obtain ⟨a1,m1,d1,a2,m2,d2,rfl,rfl⟩:=hr.shape
 have hr:=hide hr
 have hx:Bare h l↔(({h with kind:=5,text:=⟨#[]⟩},l):VT (n + 1))=(zr 5,[]):=by
  obtain ⟨k,f,ng,dg,ex,bt,tx,nm⟩:=h
  simp only at hk
  subst hk
  simp [Bare,strip,zr]
 have hx':=hide hx
 have hE:=hide (fun o=>equal_any (n + 1) ({h with kind:=5,text:=⟨#[]⟩},l) (zr 5,[]) (.slice a1 m1 d1) (.slice a2 m2 d2) _ _ (w.alloc o) ⟨(hr.out.below (below_al (o:=o) (Below.refl _ _))).1,(hr.out.below (below_al (o:=o) (Below.refl _ _))).2⟩ (rd_zero n _ 5))
 show Calls _ _ #[.agg #[.int .i64 h.kind,.bool h.flag,.bool h.neg,.string h.dig,.int .i64 h.exp,.int .u64 h.bits,.string h.text,.slice a1 m1 d1,.slice a2 m2 d2]] _ _
 rw [hk]
 clear hx hk
 go_enter Tryz.func200, Tryz.ntmps200
 go_wp2_with (go_at_call 132;refine (hE.out _).mono ?_;rintro e w1 ⟨b,rfl,hT,hb1⟩)
 go_ret
 exact ⟨b,rfl,(show Hid _ from ⟨(fun q=>hx'.out.2 (hT.1 q)),(fun q=>hT.2 (hx'.out.1 q))⟩),below_then (below_al (Below.refl _ _)) hb1⟩
set_option maxHeartbeats 1000000 in
set_option maxRecDepth 100000 in
theorem bare_6 (n:Nat) (h:Hd) (l:List (VT n)) (ns ls:Value) (w:World) (hr:RD (n + 1) w (h,l) ns ls) (hk:h.kind=6) :
  Calls Tryz.prog 200 #[.agg (vals h ns ls)] w fun e w'=>TB (Bare h l) w e w':=by
 obtain ⟨a1,m1,d1,a2,m2,d2,rfl,rfl⟩:=hr.shape
 have hr:=hide hr
 have hx:Bare h l↔(({h with kind:=6,text:=⟨#[]⟩},l):VT (n + 1))=(zr 6,[]):=by
  obtain ⟨k,f,ng,dg,ex,bt,tx,nm⟩:=h
  simp only at hk
  subst hk
  simp [Bare,strip,zr]
 have hx':=hide hx
 have hE:=hide (fun o=>equal_any (n + 1) ({h with kind:=6,text:=⟨#[]⟩},l) (zr 6,[]) (.slice a1 m1 d1) (.slice a2 m2 d2) _ _ (w.alloc o) ⟨(hr.out.below (below_al (o:=o) (Below.refl _ _))).1,(hr.out.below (below_al (o:=o) (Below.refl _ _))).2⟩ (rd_zero n _ 6))
 show Calls _ _ #[.agg #[.int .i64 h.kind,.bool h.flag,.bool h.neg,.string h.dig,.int .i64 h.exp,.int .u64 h.bits,.string h.text,.slice a1 m1 d1,.slice a2 m2 d2]] _ _
 rw [hk]
 clear hx hk
 go_enter Tryz.func200, Tryz.ntmps200
 go_wp2_with (go_at_call 132;refine (hE.out _).mono ?_;rintro e w1 ⟨b,rfl,hT,hb1⟩)
 go_ret
 exact ⟨b,rfl,(show Hid _ from ⟨(fun q=>hx'.out.2 (hT.1 q)),(fun q=>hT.2 (hx'.out.1 q))⟩),below_then (below_al (Below.refl _ _)) hb1⟩
set_option maxHeartbeats 1000000 in
set_option maxRecDepth 100000 in
theorem bare_7 (n:Nat) (h:Hd) (l:List (VT n)) (ns ls:Value) (w:World) (hr:RD (n + 1) w (h,l) ns ls) (hk:h.kind=7) :
  Calls Tryz.prog 200 #[.agg (vals h ns ls)] w fun e w'=>TB (Bare h l) w e w':=by
 obtain ⟨a1,m1,d1,a2,m2,d2,rfl,rfl⟩:=hr.shape
 have hr:=hide hr
 have hx:Bare h l↔(({h with kind:=7},[]):VT (n + 1))=(zr 7,[]):=by
  obtain ⟨k,f,ng,dg,ex,bt,tx,nm⟩:=h
  simp only at hk
  subst hk
  simp [Bare,strip,zr]
 have hx':=hide hx
 have hE:=hide (fun o=>equal_any (n + 1) ({h with kind:=7},[]) (zr 7,[]) (.slice a1 m1 d1) (.slice none 0 0) _ _ (w.alloc o) ⟨(hr.out.below (below_al (o:=o) (Below.refl _ _))).1,Or.inl ⟨rfl,rfl⟩⟩ (rd_zero n _ 7))
 show Calls _ _ #[.agg #[.int .i64 h.kind,.bool h.flag,.bool h.neg,.string h.dig,.int .i64 h.exp,.int .u64 h.bits,.string h.text,.slice a1 m1 d1,.slice a2 m2 d2]] _ _
 rw [hk]
 clear hx hk
 go_enter Tryz.func200, Tryz.ntmps200
 go_wp2_with (go_at_call 132;refine (hE.out _).mono ?_;rintro e w1 ⟨b,rfl,hT,hb1⟩)
 go_ret
 exact ⟨b,rfl,(show Hid _ from ⟨(fun q=>hx'.out.2 (hT.1 q)),(fun q=>hT.2 (hx'.out.1 q))⟩),below_then (below_al (Below.refl _ _)) hb1⟩
set_option maxHeartbeats 1000000 in
set_option maxRecDepth 100000 in
theorem bare_8 (n:Nat) (h:Hd) (l:List (VT n)) (ns ls:Value) (w:World) (hr:RD (n + 1) w (h,l) ns ls) (hk:h.kind=8) :
  Calls Tryz.prog 200 #[.agg (vals h ns ls)] w fun e w'=>TB (Bare h l) w e w':=by
 obtain ⟨a1,m1,d1,a2,m2,d2,rfl,rfl⟩:=hr.shape
 have hr:=hide hr
 have hx:Bare h l↔(({h with kind:=8,names:=[]},[]):VT (n + 1))=(zr 8,[]):=by
  obtain ⟨k,f,ng,dg,ex,bt,tx,nm⟩:=h
  simp only at hk
  subst hk
  simp [Bare,strip,zr]
 have hx':=hide hx
 have hE:=hide (fun o=>equal_any (n + 1) ({h with kind:=8,names:=[]},[]) (zr 8,[]) (.slice none 0 0) (.slice none 0 0) _ _ (w.alloc o) ⟨Or.inl ⟨rfl,rfl⟩,Or.inl ⟨rfl,rfl⟩⟩ (rd_zero n _ 8))
 show Calls _ _ #[.agg #[.int .i64 h.kind,.bool h.flag,.bool h.neg,.string h.dig,.int .i64 h.exp,.int .u64 h.bits,.string h.text,.slice a1 m1 d1,.slice a2 m2 d2]] _ _
 rw [hk]
 clear hx hk
 go_enter Tryz.func200, Tryz.ntmps200
 go_wp2_with (go_at_call 132;refine (hE.out _).mono ?_;rintro e w1 ⟨b,rfl,hT,hb1⟩)
 go_ret
 exact ⟨b,rfl,(show Hid _ from ⟨(fun q=>hx'.out.2 (hT.1 q)),(fun q=>hT.2 (hx'.out.1 q))⟩),below_then (below_al (Below.refl _ _)) hb1⟩
set_option maxHeartbeats 1000000 in
set_option maxRecDepth 100000 in
theorem bare_9 (n:Nat) (h:Hd) (l:List (VT n)) (ns ls:Value) (w:World) (hr:RD (n + 1) w (h,l) ns ls) (hk:h.kind=9) :
  Calls Tryz.prog 200 #[.agg (vals h ns ls)] w fun e w'=>TB (Bare h l) w e w':=by
 obtain ⟨a1,m1,d1,a2,m2,d2,rfl,rfl⟩:=hr.shape
 have hr:=hide hr
 have hx:Bare h l↔(({h with kind:=9,text:=⟨#[]⟩},[]):VT (n + 1))=(zr 9,[]):=by
  obtain ⟨k,f,ng,dg,ex,bt,tx,nm⟩:=h
  simp only at hk
  subst hk
  simp [Bare,strip,zr]
 have hx':=hide hx
 have hE:=hide (fun o=>equal_any (n + 1) ({h with kind:=9,text:=⟨#[]⟩},[]) (zr 9,[]) (.slice a1 m1 d1) (.slice none 0 0) _ _ (w.alloc o) ⟨(hr.out.below (below_al (o:=o) (Below.refl _ _))).1,Or.inl ⟨rfl,rfl⟩⟩ (rd_zero n _ 9))
 show Calls _ _ #[.agg #[.int .i64 h.kind,.bool h.flag,.bool h.neg,.string h.dig,.int .i64 h.exp,.int .u64 h.bits,.string h.text,.slice a1 m1 d1,.slice a2 m2 d2]] _ _
 rw [hk]
 clear hx hk
 go_enter Tryz.func200, Tryz.ntmps200
 go_wp2_with (go_at_call 132;refine (hE.out _).mono ?_;rintro e w1 ⟨b,rfl,hT,hb1⟩)
 go_ret
 exact ⟨b,rfl,(show Hid _ from ⟨(fun q=>hx'.out.2 (hT.1 q)),(fun q=>hT.2 (hx'.out.1 q))⟩),below_then (below_al (Below.refl _ _)) hb1⟩
set_option maxHeartbeats 1000000 in
set_option maxRecDepth 100000 in
theorem isBare_any (n:Nat) (h:Hd) (l:List (VT n)) (ns ls:Value) (w:World) (hr:RD (n + 1) w (h,l) ns ls) :
  Calls Tryz.prog 200 #[.agg (vals h ns ls)] w fun e w'=>TB (Bare h l) w e w':=by
 by_cases k1:h.kind=1
 ·exact bare_1 n h l ns ls w hr k1
 by_cases k2:h.kind=2
 ·exact bare_2 n h l ns ls w hr k2
 by_cases k3:h.kind=3
 ·exact bare_3 n h l ns ls w hr k3
 by_cases k4:h.kind=4
 ·exact bare_4 n h l ns ls w hr k4
 by_cases k5:h.kind=5
 ·exact bare_5 n h l ns ls w hr k5
 by_cases k6:h.kind=6
 ·exact bare_6 n h l ns ls w hr k6
 by_cases k7:h.kind=7
 ·exact bare_7 n h l ns ls w hr k7
 by_cases k8:h.kind=8
 ·exact bare_8 n h l ns ls w hr k8
 by_cases k9:h.kind=9
 ·exact bare_9 n h l ns ls w hr k9
 have hx:¬ Bare h l:=by
  rintro ⟨q1,q2,_⟩
  omega
 have hx':=hide hx
 obtain ⟨a1,m1,d1,a2,m2,d2,rfl,rfl⟩:=hr.shape
 clear hx hr
 show Calls _ _ #[.agg #[.int .i64 h.kind,.bool h.flag,.bool h.neg,.string h.dig,.int .i64 h.exp,.int .u64 h.bits,.string h.text,.slice a1 m1 d1,.slice a2 m2 d2]] _ _
 go_enter Tryz.func200, Tryz.ntmps200
 go_wp2_with fail
 go_ret
 exact TB.no hx'.out (below_al (Below.refl _ _))
end Go.Proofs.YtgicnopppgnjjaaGreatDoor
