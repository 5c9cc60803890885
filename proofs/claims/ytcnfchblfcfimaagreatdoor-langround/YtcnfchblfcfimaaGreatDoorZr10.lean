/- Merged by program: WdEqual, HaTree, HbBig, WfBare. -/
import Derived.Test.YtcnfchblfcfimaaGreatDoorZr06
import Derived.BigQuiet
set_option linter.unusedSimpArgs false
set_option linter.unusedVariables false
namespace Go.Proofs.YtcnfchblfcfimaaGreatDoor
open Go.RowKit
def Tells (b:Bool) (p:Prop):Prop:=Hid (b=true↔p)
def TB (p:Prop) (w:World) (e:Ending) (w':World):Prop:=∃ b,e=.returned (.bool b)∧Tells b p∧Below w.heap.size w w'
theorem TB.yes {p:Prop} {w w':World} (h:p) (hb:Below w.heap.size w w'):TB p w (.returned (.bool true)) w':=⟨true,rfl,(show Hid _ from ⟨(fun _=>h),(fun _=>rfl)⟩),hb⟩
theorem TB.no {p:Prop} {w w':World} (h:¬ p) (hb:Below w.heap.size w w'):TB p w (.returned (.bool false)) w':=⟨false,rfl,(show Hid _ from ⟨(fun h=>by cases h),(fun k=>absurd k h)⟩),hb⟩
theorem take_eq {α:Type} {l m:List α} {k:Nat} (hl:k<l.length) (hm:k<m.length) (h:l.take k=m.take k) (he:l[k]=m[k]):l.take (k + 1)=m.take (k + 1):=by
 rw [List.take_succ_eq_append_getElem hl,List.take_succ_eq_append_getElem hm,h,he]
theorem below_dn {B:Nat} {w W:World} (h:Below B w W) (n:Nat):Below B w (W.drewN n):=⟨h.os,h.tape,h.output,h.size,h.block⟩
set_option maxHeartbeats 1000000 in
set_option maxRecDepth 100000 in
theorem sequal_any (u v:Value) (l m:List ByteArray) (w:World) (hu:NL w u l) (hv:NL w v m) :
  Calls Tryz.prog 133 #[u,v] w fun e w'=>TB (l=m) w e w':=by
 obtain ⟨au,cu,rfl,hu1,hu2⟩:=hu.len
 obtain ⟨av,cv,rfl,hv1,hv2⟩:=hv.len
 have hu:=hide hu
 have hv:=hide hv
 have ml:maxLen=9223372036854775807:=rfl
 by_cases hl:(l.length:Int)=(m.length:Int)
 ·have hml:=hide (show m.length=l.length by omega)
  rw [hml.out] at hv1 ⊢
  clear hl
  go_enter Tryz.func133, Tryz.ntmps133
  go_wp2_with fail
  go_loopw [13] (fun i w'=>∃ k:Nat,i=.int .i64 k∧k≤l.length∧Hid (l.take k=m.take k∧Below w.heap.size w w')) (fun i _=>l.length - (intOf i).toNat)
  case atStart=>exact ⟨0,rfl,Nat.zero_le _,rfl,Below.refl _ _⟩
  case round =>
   obtain ⟨k,rfl,hk,H⟩:=hrel
   by_cases hkl:k<l.length
   ·have hki:(k:Int)<(l.length:Int):=by omega
    have hk63:(k:Int)<9223372036854775807:=by omega
    obtain ⟨b,o,c,he,hbl,hlc,hcm,hcell⟩:=hu.out.at k hkl
    have he':=Value.slice.inj he
    obtain ⟨rfl,_,rfl⟩:=he'
    clear he
    have hcell:=(H.out.2.cell (p:=⟨b,o + k,none⟩) hbl).trans hcell
    obtain ⟨b',o',c',he,hbl',hlc',hcm',hcell'⟩:=hv.out.at k (by rw [hml.out];exact hkl)
    have he':=Value.slice.inj he
    obtain ⟨rfl,_,rfl⟩:=he'
    clear he
    have hcell':=(H.out.2.cell (p:=⟨b',o' + k,none⟩) hbl').trans hcell'
    obtain ⟨s,hs⟩:∃ s,l[k]=s:=⟨_,rfl⟩
    obtain ⟨t,ht⟩:∃ t,m[k]'(by rw [hml.out];exact hkl)=t:=⟨_,rfl⟩
    rw [hs] at hcell
    rw [ht] at hcell'
    have hs':=hide hs
    have ht':=hide ht
    clear hs ht
    by_cases hst:s=t
    ·subst hst
     go_wp2_with fail
     go_quiet (fail)
     go_wp2_with fail
     refine ⟨⟨k + 1,by go_num,by omega,take_eq hkl (by rw [hml.out];exact hkl) H.out.1 (by rw [hs'.out,ht'.out]),?_⟩,by simp [intOf];omega⟩
     exact below_dn H.out.2 _
    ·have hst2:decide (s=t)=false:=decide_eq_false hst
     have hst3:(s.toList==t.toList)=false:=by
      rw [beq_eq_false_iff_ne]
      intro h
      exact hst (ByteArray.ext (Array.toList_inj.1 (by rw [ByteArray.toList_eq,ByteArray.toList_eq] at h;exact h)))
     have hne:l≠m:=by
      intro h
      subst h
      rw [hs'.out] at ht'
      exact hst ht'.out
     have hne':=hide hne
     clear hne
     go_wp2_with fail
     go_quiet (fail)
     go_wp2_with fail
     go_ret
     exact TB.no hne'.out (below_dn H.out.2 _)
   ·have hki:¬ ((k:Int)<(l.length:Int)):=by omega
    have hE:=H.out.1
    rw [List.take_of_length_le (by omega),List.take_of_length_le (by rw [hml.out];omega)] at hE
    have hE':=hide hE
    clear hE
    go_wp2_with fail
    go_ret
    exact TB.yes hE'.out H.out.2
 ·go_enter Tryz.func133, Tryz.ntmps133
  go_wp2_with fail
  go_ret
  exact TB.no (fun h=>by rw [h] at hl;exact absurd rfl hl) (Below.refl _ _)
theorem ba_ne {s t:ByteArray} (h:¬ s=t):(s.toList==t.toList)=false:=by
 rw [beq_eq_false_iff_ne]
 intro e
 exact h (ByteArray.ext (Array.toList_inj.1 (by rw [ByteArray.toList_eq,ByteArray.toList_eq] at e;exact e)))
theorem two_cells {w w1:World} {c1 c2:Array Value} {T1 T2:TypeId} (hb:Below ((w.alloc (.cells c1 T1)).alloc (.cells c2 T2)).heap.size ((w.alloc (.cells c1 T1)).alloc (.cells c2 T2)) w1) (j:Nat):w1.cell? ⟨w.heap.size,j,none⟩=c1[j]?∧w1.cell? ⟨w.heap.size + 1,j,none⟩=c2[j]?:=by
 have h1:((w.alloc (.cells c1 T1)).alloc (.cells c2 T2)).heap=(w.heap.push (.cells c1 T1)).push (.cells c2 T2):=rfl
 have s1:((w.alloc (.cells c1 T1)).alloc (.cells c2 T2)).heap.size=w.heap.size + 2:=by rw [h1];simp
 have b1:=hb.block w.heap.size (by rw [s1];omega)
 have b2:=hb.block (w.heap.size + 1) (by rw [s1];omega)
 rw [h1] at b1 b2
 have g1:((w.heap.push (Obj.cells c1 T1)).push (Obj.cells c2 T2))[w.heap.size]?=some (.cells c1 T1):=by simp [Array.getElem?_push]
 have g2:((w.heap.push (Obj.cells c1 T1)).push (Obj.cells c2 T2))[w.heap.size + 1]?=some (.cells c2 T2):=by rw [show w.heap.size + 1=(w.heap.push (Obj.cells c1 T1)).size by simp,Array.getElem?_push_size]
 rw [g1] at b1
 rw [g2] at b2
 unfold World.cell?
 simp only [b1,b2]
 exact ⟨rfl,rfl⟩
def EqOk (n:Nat):Prop:=∀ (x y:VT n) (ns ls ns' ls':Value) (w:World),RD n w x ns ls→RD n w y ns' ls' →
  Calls Tryz.prog 82 #[.agg (vals (vhd n x) ns ls),.agg (vals (vhd n y) ns' ls')] w fun e w'=>TB (x=y) w e w'
set_option maxHeartbeats 1000000 in
set_option maxRecDepth 100000 in
theorem eqfunc_any (n:Nat) (ih:EqOk n) (x y:VT (n + 1)) (ns ls ns' ls':Value) (w:World) (hu:RD (n + 1) w x ns ls) (hv:RD (n + 1) w y ns' ls') :
  Calls Tryz.prog 134 #[ls,ls',.func (.func 82) #[] #[]] w fun e w'=>TB (x.2=y.2) w e w':=by
 obtain ⟨h,l⟩:=x
 obtain ⟨g,m⟩:=y
 obtain ⟨al,cl,rfl,hl1,hl2⟩:=hu.len
 obtain ⟨bl',dl,rfl,hm1,hm2⟩:=hv.len
 have hu:=hide hu
 have hv:=hide hv
 simp only at hl1 hl2 hm1 hm2 ⊢
 have ml:maxLen=9223372036854775807:=rfl
 by_cases hl:(l.length:Int)=(m.length:Int)
 ·have hml:=hide (show m.length=l.length by omega)
  rw [hml.out] at hm1 ⊢
  clear hl
  go_enter Tryz.func134, Tryz.ntmps134
  go_wp2_with fail
  go_loopw [17] (fun i w'=>∃ k:Nat,i=.int .i64 k∧k≤l.length∧Hid (l.take k=m.take k∧Below w.heap.size w w')) (fun i _=>l.length - (intOf i).toNat)
  case atStart=>exact ⟨0,rfl,Nat.zero_le _,rfl,Below.refl _ _⟩
  case round =>
   obtain ⟨k,rfl,hk,H⟩:=hrel
   by_cases hkl:k<l.length
   ·have hki:(k:Int)<(l.length:Int):=by omega
    have hk63:(k:Int)<9223372036854775807:=by omega
    obtain ⟨b,o,c,he,hbl,hlc,hcm,ns1,ls1,hrg,hrd⟩:=hu.out.at k hkl
    have he':=Value.slice.inj he
    obtain ⟨rfl,_,rfl⟩:=he'
    clear he
    obtain ⟨q0,q1,q2,q3,q4,q5,q6,q7,q8⟩:=range9 (rangeAt_below hrg H.out.2 hbl)
    have hkm:k<m.length:=by rw [hml.out];exact hkl
    obtain ⟨b',o',c',he,hbl',hlc',hcm',ns2,ls2,hrg',hrd'⟩:=hv.out.at k hkm
    have he':=Value.slice.inj he
    obtain ⟨rfl,_,rfl⟩:=he'
    clear he
    have hwr:Hid (∀ o,Below w.heap.size w (wr.alloc o)):=fun o=>below_al H.out.2
    have hwr2:Hid (∀ o o',Below w.heap.size w ((wr.alloc o).alloc o')):=fun o o'=>below_al (below_al H.out.2)
    have R9:=fun ob=>range9 (rangeAt_below hrg' (hwr.out ob) hbl')
    have r0:=fun ob=>(R9 ob).1
    have r1:=fun ob=>(R9 ob).2.1
    have r2:=fun ob=>(R9 ob).2.2.1
    have r3:=fun ob=>(R9 ob).2.2.2.1
    have r4:=fun ob=>(R9 ob).2.2.2.2.1
    have r5:=fun ob=>(R9 ob).2.2.2.2.2.1
    have r6:=fun ob=>(R9 ob).2.2.2.2.2.2.1
    have r7:=fun ob=>(R9 ob).2.2.2.2.2.2.2.1
    have r8:=fun ob=>(R9 ob).2.2.2.2.2.2.2.2
    clear R9
    have hd1:=hide hrd
    have hd2:=hide hrd'
    obtain ⟨a1,m1,d1,a2,m2,d2,rfl,rfl⟩:=hrd.shape
    obtain ⟨a3,m3,d3,a4,m4,d4,rfl,rfl⟩:=hrd'.shape
    clear hrg hrd hrg' hrd'
    have hcall:=hide (fun o o'=>ih l[k] m[k] _ _ _ _ _ (hd1.out.below (hwr2.out o o')) (hd2.out.below (hwr2.out o o')))
    go_wp2_with fail
    refine (hcall.out _ _).mono ?_
    rintro e w2 ⟨b2,rfl,hT,hb1⟩
    have hb2:=hide (below_then (hwr2.out _ _) hb1)
    cases b2
    ·have hne:¬ l=m:=by
      intro e
      have:=hT.2 (by subst e;rfl)
      cases this
     have hne':=hide hne
     clear hne
     go_wp2_with fail
     go_ret
     exact TB.no hne'.out hb2.out
    ·have hEq:=hide (hT.1 rfl)
     go_wp2_with fail
     exact ⟨⟨k + 1,by go_num,by omega,take_eq hkl hkm H.out.1 hEq.out,hb2.out⟩,by simp [intOf];omega⟩
   ·have hki:¬ ((k:Int)<(l.length:Int)):=by omega
    have hE:=H.out.1
    rw [List.take_of_length_le (by omega),List.take_of_length_le (by rw [hml.out];omega)] at hE
    have hE':=hide hE
    clear hE
    go_wp2_with fail
    go_ret
    exact TB.yes hE'.out H.out.2
 ·go_enter Tryz.func134, Tryz.ntmps134
  go_wp2_with fail
  go_ret
  exact TB.no (fun h=>by rw [h] at hl;exact absurd rfl hl) (Below.refl _ _)
set_option maxHeartbeats 1000000 in
set_option maxRecDepth 100000 in
theorem equal_any:∀ n,EqOk n:=by
 intro n
 induction n with
 | zero=>intro x;exact Empty.elim x
 | succ n ih =>
  intro x y ns ls ns' ls' w hx hy
  obtain ⟨h,l⟩:=x
  obtain ⟨g,m⟩:=y
  obtain ⟨al,cl,rfl,hl1,hl2⟩:=hx.len
  obtain ⟨an,cn,rfl,hn1,hn2⟩:=hx.1.len
  obtain ⟨bl',dl,rfl,hm1,hm2⟩:=hy.len
  obtain ⟨bn,dn,rfl,ho1,ho2⟩:=hy.1.len
  have hx:=hide hx
  have hy:=hide hy
  show Calls _ _ #[.agg #[.int .i64 h.kind,.bool h.flag,.bool h.neg,.string h.dig,.int .i64 h.exp,.int .u64 h.bits,.string h.text,.slice an h.names.length cn,.slice al l.length cl],.agg #[.int .i64 g.kind,.bool g.flag,.bool g.neg,.string g.dig,.int .i64 g.exp,.int .u64 g.bits,.string g.text,.slice bn g.names.length dn,.slice bl' m.length dl]] _ _
  by_cases e0:h.kind=g.kind
  ·by_cases e1:h.flag=g.flag
   ·by_cases e2:h.neg=g.neg
    ·by_cases e3:h.dig=g.dig
     ·by_cases e4:h.exp=g.exp
      ·by_cases e5:h.bits=g.bits
       ·by_cases e6:h.text=g.text
        ·have hnm:=hide (fun o o'=>sequal_any (.slice an h.names.length cn) (.slice bn g.names.length dn) h.names g.names ((w.alloc o).alloc o') (hx.out.1.below (below_al (below_al (Below.refl _ _)))) (hy.out.1.below (below_al (below_al (Below.refl _ _)))))
         have hxy:((h,l):VT (n + 1))=(g,m)↔h.names=g.names∧l=m:=by
          constructor
          ·intro e;cases e;exact ⟨rfl,rfl⟩
          ·rintro ⟨e7,rfl⟩
           have:h=g:=by cases h;cases g;simp only at e0 e1 e2 e3 e4 e5 e6 e7;subst e0 e1 e2 e3 e4 e5 e6 e7;rfl
           rw [this]
         have hxy':=hide hxy
         have hlf:=hide (fun W (hb:Below w.heap.size w W)=>eqfunc_any n ih (h,l) (g,m) _ _ _ _ W (hx.out.below hb) (hy.out.below hb))
         clear hxy
         have B1:=hide (bx_new w h (.slice an h.names.length cn) (.slice al l.length cl))
         have B2:=hide (fun o=>bx_new (w.alloc o) g (.slice bn g.names.length dn) (.slice bl' m.length dl))
         go_enter Tryz.func82, Tryz.ntmps82
         go_wp2_with fail
         refine (hnm.out _ _).mono ?_
         rintro e w1 ⟨b,rfl,hT,hb1⟩
         obtain ⟨k1,k2⟩:=two_cells hb1 8
         replace k1:w1.cell? ⟨w.heap.size,8,none⟩=some (.slice al l.length cl):=k1
         replace k2:w1.cell? ⟨w.heap.size + 1,8,none⟩=some (.slice bl' m.length dl):=k2
         have hb2:=hide (below_then (below_al (below_al (Below.refl _ _))) hb1)
         cases b
         ·go_wp2_with fail
          go_ret
          exact TB.no (fun e=>by have:=hT.2 (hxy'.out.1 e).1;cases this) hb2.out
         ·have hcall:=hide (hlf.out w1 hb2.out)
          go_wp2_with (go_at_call 134;refine hcall.out.mono ?_;rintro e w2 ⟨b,rfl,hT2,hb3⟩)
          go_ret
          cases b
          ·exact TB.no (fun e=>by have:=hT2.2 (hxy'.out.1 e).2;cases this) (below_then hb2.out hb3)
          ·exact TB.yes (hxy'.out.2 ⟨hT.1 rfl,hT2.1 rfl⟩) (below_then hb2.out hb3)
        ·have q1:decide (h.text=g.text)=false:=decide_eq_false e6
         have q2:=ba_ne e6
         go_enter Tryz.func82, Tryz.ntmps82
         go_wp2_with fail
         go_ret
         exact TB.no (fun e=>e6 (by cases e;rfl)) (below_al (below_al (Below.refl _ _)))
       ·go_enter Tryz.func82, Tryz.ntmps82
        go_wp2_with fail
        go_ret
        exact TB.no (fun e=>e5 (by cases e;rfl)) (below_al (below_al (Below.refl _ _)))
      ·go_enter Tryz.func82, Tryz.ntmps82
       go_wp2_with fail
       go_ret
       exact TB.no (fun e=>e4 (by cases e;rfl)) (below_al (below_al (Below.refl _ _)))
     ·have q1:decide (h.dig=g.dig)=false:=decide_eq_false e3
      have q2:=ba_ne e3
      go_enter Tryz.func82, Tryz.ntmps82
      go_wp2_with fail
      go_ret
      exact TB.no (fun e=>e3 (by cases e;rfl)) (below_al (below_al (Below.refl _ _)))
    ·go_enter Tryz.func82, Tryz.ntmps82
     go_wp2_with fail
     go_ret
     exact TB.no (fun e=>e2 (by cases e;rfl)) (below_al (below_al (Below.refl _ _)))
   ·go_enter Tryz.func82, Tryz.ntmps82
    go_wp2_with fail
    go_ret
    exact TB.no (fun e=>e1 (by cases e;rfl)) (below_al (below_al (Below.refl _ _)))
  ·go_enter Tryz.func82, Tryz.ntmps82
   go_wp2_with fail
   go_ret
   exact TB.no (fun e=>e0 (by cases e;rfl)) (below_al (below_al (Below.refl _ _)))
end Go.Proofs.YtcnfchblfcfimaaGreatDoor
namespace Go.Proofs.YtcnfchblfcfimaaGreatDoor
open Go.RowKit
structure Th where
 kind:Int
 names:List ByteArray
def TT:Nat→Type
 | 0=>Empty
 | n + 1=>Th×List (TT n)
def thd:(n:Nat)→TT n→Th
 | 0,x=>Empty.elim x
 | _ + 1,x=>x.1
def tvs (h:Th) (ns ls:Value):Array Value:=#[.int .i64 h.kind,ns,ls]
def TLp {α:Type} (hd:α→Th) (R:α→Value→Value→Prop) (w:World) (v:Value) (l:List α):Prop :=
 (v=.slice none 0 0∧l=[])∨∃ (b o c:Nat) (sp:Option Nat),v=.slice (some ⟨b,o,sp⟩) l.length c∧l.length≤c∧c≤maxLen∧(0<l.length→sp=none∧b<w.heap.size) ∧
   ∀ i (h:i<l.length),∃ ns' ls',w.rangeAt b (o + i * 3) (tvs (hd l[i]) ns' ls').toList∧R l[i] ns' ls'
def RT:(n:Nat)→World→TT n→Value→Value→Prop
 | 0,_,_,_,_=>False
 | n + 1,w,x,ns,ls=>NL w ns x.1.names∧TLp (thd n) (fun y ns' ls'=>RT n w y ns' ls') w ls x.2
def TL (n:Nat) (w:World) (v:Value) (l:List (TT n)):Prop:=TLp (thd n) (fun y ns' ls'=>RT n w y ns' ls') w v l
theorem RT.below:∀ {n:Nat} {w W:World} {x:TT n} {ns ls:Value},RT n w x ns ls→Below w.heap.size w W→RT n W x ns ls
 | 0,_,_,x,_,_,_,_=>Empty.elim x
 | n + 1,w,W,x,ns,ls,h,hb=>by
  obtain ⟨h1,h2⟩:=h
  refine ⟨h1.below hb,?_⟩
  rcases h2 with h2|⟨b,o,c,sp,e,k1,k2,k3,hc⟩
  ·exact Or.inl h2
  ·refine Or.inr ⟨b,o,c,sp,e,k1,k2,fun h=>⟨(k3 h).1,Nat.lt_of_lt_of_le (k3 h).2 hb.size⟩,fun i hi=>?_⟩
   obtain ⟨ns',ls',r1,r2⟩:=hc i hi
   exact ⟨ns',ls',rangeAt_below r1 hb (k3 (by omega)).2,RT.below r2 hb⟩
theorem TL.below {n:Nat} {w W:World} {v:Value} {l:List (TT n)} (h:TL n w v l) (hb:Below w.heap.size w W):TL n W v l:=by
 rcases h with h2|⟨b,o,c,sp,e,k1,k2,k3,hc⟩
 ·exact Or.inl h2
 ·refine Or.inr ⟨b,o,c,sp,e,k1,k2,fun h=>⟨(k3 h).1,Nat.lt_of_lt_of_le (k3 h).2 hb.size⟩,fun i hi=>?_⟩
  obtain ⟨ns',ls',r1,r2⟩:=hc i hi
  exact ⟨ns',ls',rangeAt_below r1 hb (k3 (by omega)).2,RT.below r2 hb⟩
theorem RT.tl {n:Nat} {w:World} {x:TT (n + 1)} {ns ls:Value} (h:RT (n + 1) w x ns ls):TL n w ls x.2:=h.2
theorem TL.len {n:Nat} {w:World} {v:Value} {l:List (TT n)} (h:TL n w v l):∃ a c,v=.slice a l.length c∧l.length≤c∧c≤maxLen:=by
 rcases h with ⟨rfl,rfl⟩|⟨b,o,c,sp,rfl,h1,h2,_⟩
 ·exact ⟨none,0,rfl,Nat.le_refl _,by decide⟩
 ·exact ⟨_,c,rfl,h1,h2⟩
theorem RT.len {n:Nat} {w:World} {x:TT (n + 1)} {ns ls:Value} (h:RT (n + 1) w x ns ls):∃ a c,ls=.slice a x.2.length c∧x.2.length≤c∧c≤maxLen:=h.tl.len
theorem TL.at {n:Nat} {w:World} {v:Value} {l:List (TT n)} (h:TL n w v l) (i:Nat) (hi:i<l.length) :
  ∃ b o c,v=.slice (some ⟨b,o,none⟩) l.length c∧b<w.heap.size∧l.length≤c∧c≤maxLen∧∃ ns' ls',w.rangeAt b (o + i * 3) (tvs (thd n l[i]) ns' ls').toList∧RT n w l[i] ns' ls':=by
 rcases h with ⟨rfl,e⟩|⟨b,o,c,sp,rfl,h1,h2,h3,hc⟩
 ·rw [e] at hi;simp at hi
 ·obtain ⟨rfl,hb⟩:=h3 (by omega)
  exact ⟨b,o,c,rfl,hb,h1,h2,hc i hi⟩
theorem RT.at {n:Nat} {w:World} {x:TT (n + 1)} {ns ls:Value} (h:RT (n + 1) w x ns ls) (i:Nat) (hi:i<x.2.length) :
  ∃ b o c,ls=.slice (some ⟨b,o,none⟩) x.2.length c∧b<w.heap.size∧x.2.length≤c∧c≤maxLen∧∃ ns' ls',w.rangeAt b (o + i * 3) (tvs (thd n x.2[i]) ns' ls').toList∧RT n w x.2[i] ns' ls':=h.tl.at i hi
theorem range3 {w:World} {b o:Nat} {h:Th} {ns ls:Value} (k:w.rangeAt b o (tvs h ns ls).toList):w.cell? ⟨b,o,none⟩=some (.int .i64 h.kind)∧w.cell? ⟨b,o + 1,none⟩=some ns∧w.cell? ⟨b,o + 2,none⟩=some ls :=
 ⟨k 0 _ rfl,k 1 _ rfl,k 2 _ rfl⟩
theorem RT.shape:∀ {n:Nat} {w:World} {x:TT n} {ns ls:Value},RT n w x ns ls→∃ a m c a' m' c',ns=.slice a m c∧ls=.slice a' m' c'
 | 0,_,x,_,_,_=>Empty.elim x
 | n + 1,w,x,ns,ls,h=>by
  obtain ⟨a,c,e,_⟩:=h.1.len
  obtain ⟨a',c',e',_⟩:=h.len
  exact ⟨_,_,_,_,_,_,e,e'⟩
structure Tx (W:World) (i:Nat) (h:Th) (ns ls:Value):Prop where
 at_:W.heap[i]?=some (.cells (tvs h ns ls) 48 (0,0))
theorem tx_new (w:World) (h:Th) (ns ls:Value):Tx (w.alloc (.cells (tvs h ns ls) 48)) w.heap.size h ns ls:=⟨heap_alloc_last w _⟩
theorem Tx.lt {W:World} {i:Nat} {h:Th} {ns ls:Value} (k:Tx W i h ns ls):i<W.heap.size:=by
 have:=k.at_
 by_cases hlt:i<W.heap.size
 ·exact hlt
 ·have hn:W.heap[i]?=none:=by simp;omega
  rw [hn] at this;cases this
theorem Tx.below {W W1:World} {i:Nat} {h:Th} {ns ls:Value} (k:Tx W i h ns ls) (hb:Below W.heap.size W W1):Tx W1 i h ns ls:=⟨(hb.block _ k.lt).trans k.at_⟩
theorem Tx.cell {W:World} {i:Nat} {h:Th} {ns ls:Value} (k:Tx W i h ns ls) (j:Nat):W.cell? ⟨i,j,none⟩=(tvs h ns ls)[j]?:=by
 unfold World.cell?
 rw [k.at_]
 rfl
theorem Tx.cells {W:World} {i:Nat} {h:Th} {ns ls:Value} (k:Tx W i h ns ls):W.cell? ⟨i,0,none⟩=some (.int .i64 h.kind)∧W.cell? ⟨i,1,none⟩=some ns∧W.cell? ⟨i,2,none⟩=some ls :=
 ⟨k.cell 0,k.cell 1,k.cell 2⟩
def tdep:(n:Nat)→TT n→Nat
 | 0,_=>0
 | n + 1,x=>1 + mxl (x.2.map (tdep n))
def tsiz:(n:Nat)→TT n→Nat
 | 0,_=>0
 | n + 1,x=>1 + suml (x.2.map (tsiz n))
theorem tdep_le:∀ (n:Nat) (x:TT n),tdep n x≤tsiz n x
 | 0,x=>Empty.elim x
 | n + 1,x=>by
  simp only [tdep,tsiz]
  have:=mxl_le (l:=x.2.map (tdep n)) (m:=x.2.map (tsiz n)) (fun i h1 h2=>by simp only [List.getElem_map];exact tdep_le n _) (by simp)
  omega
theorem tsiz_mem {n:Nat} {x:TT (n + 1)} {i:Nat} (h:i<x.2.length):tsiz n x.2[i]<tsiz (n + 1) x:=by
 have:=suml_mem (l:=x.2.map (tsiz n)) (i:=i) (by simpa using h)
 simp only [List.getElem_map] at this
 simp only [tsiz];omega
set_option maxHeartbeats 1000000 in
set_option maxRecDepth 100000 in
theorem tdepth_any:∀ (n:Nat) (x:TT n) (ns ls:Value) (w:World),RT n w x ns ls→tsiz n x≤200000 →
  Calls Tryz.prog 100 #[.agg (tvs (thd n x) ns ls)] w fun e w'=>e=.returned (.int .i64 (tdep n x))∧Below w.heap.size w w':=by
 intro n
 induction n with
 | zero=>intro x;exact Empty.elim x
 | succ n ih =>
  intro x ns ls w hr hs
  obtain ⟨h,l⟩:=x
  obtain ⟨al,cl,rfl,hc1,hc2⟩:=hr.len
  have hr:=hide hr
  have ih':=hide ih
  have hs':=hide hs
  clear ih hs
  show Calls _ _ #[.agg #[.int .i64 h.kind,ns,.slice al l.length cl]] _ _
  go_enter Tryz.func100, Tryz.ntmps100
  go_wp2_with fail
  go_loopw [3,9] (fun m i w'=>∃ k:Nat,m=.int .i64 (mxl ((l.map (tdep n)).take k):Nat)∧i=.int .i64 k∧k≤l.length∧Hid (Below w.heap.size w w')) (fun _ i _=>l.length - (intOf i).toNat)
  case atStart=>exact ⟨0,rfl,rfl,Nat.zero_le _,below_al (Below.refl _ _)⟩
  case round =>
   obtain ⟨k,rfl,rfl,hk,hb⟩:=hrel
   have ml:maxLen=9223372036854775807:=rfl
   have hk63:(k:Int)≤9223372036854775807:=by omega
   by_cases hkl:k<l.length
   ·obtain ⟨b,o,c,he,hbl,hlc,hcm,ns',ls',hrg,hrd⟩:=hr.out.at k hkl
    have he':=Value.slice.inj he
    obtain ⟨rfl,_,rfl⟩:=he'
    clear he
    have hki:(k:Int)<(l.length:Int):=by omega
    have hk63:(k:Int)<9223372036854775807:=by omega
    obtain ⟨c0,c1,c2⟩:=range3 (rangeAt_below hrg hb.out hbl)
    have hrd':=hide (hrd.below hb.out)
    obtain ⟨a1,m1,d1,a2,m2,d2,rfl,rfl⟩:=hrd.shape
    clear hrg hrd
    have hsk:tsiz n l[k]≤200000:=by have h1:=tsiz_mem (x:=(h,l)) hkl;have h2:=hs'.out;simp only at h1;omega
    obtain ⟨D,hD⟩:∃ D,tdep n l[k]=D:=⟨_,rfl⟩
    have hmx:=mxl_take (l.map (tdep n)) k (by simpa using hkl)
    rw [List.getElem_map,hD] at hmx
    have hcall:=hide (fun o=>ih'.out l[k] (.slice a1 m1 d1) (.slice a2 m2 d2) (wr.alloc o) (hrd'.out.below (below_al (Below.refl _ _))) hsk)
    rw [hD] at hcall
    obtain ⟨M,hM⟩:∃ M,mxl ((l.map (tdep n)).take k)=M:=⟨_,rfl⟩
    rw [hM] at hmx ⊢
    have hmx':=hide hmx
    have hD':=hide hD
    have hM':=hide hM
    clear hD hM hsk hmx
    rcases Nat.lt_trichotomy M D with hlt|hlt|hlt
    ·have hdi:(M:Int)<(D:Int):=by omega
     have hdj:¬ ((D:Int)<(M:Int)):=by omega
     go_wp2_with (go_at_call 100;refine (hcall.out _).mono ?_;rintro e w1 ⟨rfl,hb1⟩)
     exact ⟨⟨k + 1,by rw [hmx'.out];congr 2;omega,by go_num,by omega,below_then (below_al hb.out) hb1⟩,by simp [intOf];omega⟩
    ·subst hlt
     have hdi:¬ ((M:Int)<(M:Int)):=by omega
     go_wp2_with (go_at_call 100;refine (hcall.out _).mono ?_;rintro e w1 ⟨rfl,hb1⟩)
     exact ⟨⟨k + 1,by rw [hmx'.out];congr 2;omega,by go_num,by omega,below_then (below_al hb.out) hb1⟩,by simp [intOf];omega⟩
    ·have hdi:(D:Int)<(M:Int):=by omega
     have hdj:¬ ((M:Int)<(D:Int)):=by omega
     go_wp2_with (go_at_call 100;refine (hcall.out _).mono ?_;rintro e w1 ⟨rfl,hb1⟩)
     exact ⟨⟨k + 1,by rw [hmx'.out];congr 2;omega,by go_num,by omega,below_then (below_al hb.out) hb1⟩,by simp [intOf];omega⟩
   ·have hki:¬ ((k:Int)<(l.length:Int)):=by omega
    have hkl2:k=l.length:=by omega
    have hD:tdep (n + 1) (h,l)=1 + mxl ((l.map (tdep n)).take k):=by
     simp only [tdep]
     rw [List.take_of_length_le (by simp;omega)]
    have hsz:1 + mxl ((l.map (tdep n)).take k)≤200000:=by
     rw [←hD];exact Nat.le_trans (tdep_le _ _) hs'.out
    obtain ⟨M,hM⟩:∃ M,mxl ((l.map (tdep n)).take k)=M:=⟨_,rfl⟩
    rw [hM] at hsz hD ⊢
    have hD':=hide hD
    clear hD hM hkl2
    have hM2:(M:Int)<200000:=by omega
    clear hsz
    go_wp2_with fail
    go_ret
    exact ⟨by rw [hD'.out];exact ret_int (by omega),hb.out⟩
set_option maxHeartbeats 1000000 in
set_option maxRecDepth 100000 in
theorem tsize_any:∀ (n:Nat) (x:TT n) (ns ls:Value) (w:World),RT n w x ns ls→tsiz n x≤200000 →
  Calls Tryz.prog 101 #[.agg (tvs (thd n x) ns ls)] w fun e w'=>e=.returned (.int .i64 (tsiz n x))∧Below w.heap.size w w':=by
 intro n
 induction n with
 | zero=>intro x;exact Empty.elim x
 | succ n ih =>
  intro x ns ls w hr hs
  obtain ⟨h,l⟩:=x
  obtain ⟨al,cl,rfl,hc1,hc2⟩:=hr.len
  have hr:=hide hr
  have ih':=hide ih
  have hs':=hide hs
  clear ih hs
  show Calls _ _ #[.agg #[.int .i64 h.kind,ns,.slice al l.length cl]] _ _
  go_enter Tryz.func101, Tryz.ntmps101
  go_wp2_with fail
  go_loopw [3,9] (fun m i w'=>∃ k:Nat,m=.int .i64 (1 + suml ((l.map (tsiz n)).take k):Nat)∧i=.int .i64 k∧k≤l.length∧Hid (Below w.heap.size w w')) (fun _ i _=>l.length - (intOf i).toNat)
  case atStart=>exact ⟨0,rfl,rfl,Nat.zero_le _,below_al (Below.refl _ _)⟩
  case round =>
   obtain ⟨k,rfl,rfl,hk,hb⟩:=hrel
   have ml:maxLen=9223372036854775807:=rfl
   have hk63:(k:Int)≤9223372036854775807:=by omega
   obtain ⟨M,hM⟩:∃ M,1 + suml ((l.map (tsiz n)).take k)=M:=⟨_,rfl⟩
   have hMle:M≤200000:=by
    have h1:=suml_take_le (l.map (tsiz n)) k
    have h2:=hs'.out
    simp only [tsiz] at h2
    omega
   by_cases hkl:k<l.length
   ·obtain ⟨b,o,c,he,hbl,hlc,hcm,ns',ls',hrg,hrd⟩:=hr.out.at k hkl
    have he':=Value.slice.inj he
    obtain ⟨rfl,_,rfl⟩:=he'
    clear he
    have hki:(k:Int)<(l.length:Int):=by omega
    have hk63:(k:Int)<9223372036854775807:=by omega
    obtain ⟨c0,c1,c2⟩:=range3 (rangeAt_below hrg hb.out hbl)
    have hrd':=hide (hrd.below hb.out)
    obtain ⟨a1,m1,d1,a2,m2,d2,rfl,rfl⟩:=hrd.shape
    clear hrg hrd
    have hsk:tsiz n l[k]≤200000:=by have h1:=tsiz_mem (x:=(h,l)) hkl;have h2:=hs'.out;simp only at h1;omega
    obtain ⟨D,hD⟩:∃ D,tsiz n l[k]=D:=⟨_,rfl⟩
    have hmx:=suml_take (l.map (tsiz n)) k (by simpa using hkl)
    rw [List.getElem_map,hD] at hmx
    have hcall:=hide (fun o=>ih'.out l[k] (.slice a1 m1 d1) (.slice a2 m2 d2) (wr.alloc o) (hrd'.out.below (below_al (Below.refl _ _))) hsk)
    rw [hD] at hcall hsk
    have hmx:1 + suml ((l.map (tsiz n)).take (k + 1))=M + D:=by omega
    rw [hM]
    have hmx':=hide hmx
    have hD1:(D:Int)≤200000:=by omega
    have hM1:(M:Int)≤200000:=by omega
    clear hD hM hsk hmx hMle
    go_wp2_with (go_at_call 101;refine (hcall.out _).mono ?_;rintro e w1 ⟨rfl,hb1⟩)
    exact ⟨⟨k + 1,by rw [hmx'.out];first|rfl|(congr 1),by go_num,by omega,below_then (below_al hb.out) hb1⟩,by simp [intOf];omega⟩
   ·have hki:¬ ((k:Int)<(l.length:Int)):=by omega
    have hD:tsiz (n + 1) (h,l)=M:=by
     rw [←hM]
     simp only [tsiz]
     rw [List.take_of_length_le (by simp;omega)]
    rw [hM]
    have hD':=hide hD
    clear hD hM hMle
    go_wp2_with fail
    go_ret
    exact ⟨by rw [hD'.out];rfl,hb.out⟩
end Go.Proofs.YtcnfchblfcfimaaGreatDoor
namespace Go.Proofs.YtcnfchblfcfimaaGreatDoor
open Go.RowKit
def tblk:(n:Nat)→TT n→Nat
 | 0,_=>0
 | n + 1,x=>1 + x.1.names.length + suml (x.1.names.map ByteArray.size) + suml (x.2.map (tblk n))
def TSz:(n:Nat)→TT n→Prop
 | 0,_=>True
 | n + 1,x=>x.1.names.length≤281474976710656∧(∀ s∈x.1.names,s.size≤281474976710656)∧∀ y∈x.2,TSz n y
theorem tsiz_tblk:∀ (n:Nat) (x:TT n),tsiz n x≤tblk n x
 | 0,x=>Empty.elim x
 | n + 1,x=>by
  simp only [tsiz,tblk]
  have:suml (x.2.map (tsiz n))≤suml (x.2.map (tblk n)):=by
   generalize x.2=l
   induction l with
   | nil=>exact Nat.le_refl _
   | cons a l ih=>simp only [List.map_cons,suml];have:=tsiz_tblk n a;omega
  omega
set_option maxHeartbeats 1000000 in
set_option maxRecDepth 100000 in
theorem tparts_any:∀ (n:Nat) (x:TT n) (ns ls:Value) (w:World) (m d:Nat),RT n w x ns ls→TSz n x→m≤32768→d≤301 →
  Calls Tryz.prog 48 #[.agg (tvs (thd n x) ns ls),.int .i64 m,.int .i64 32768,.int .i64 d] w fun e w'=>∃ p:Nat,e=.returned (.int .i64 p)∧Hid ((p≤32768→p=m + tblk n x)∧p≤1125899906842624)∧Below w.heap.size w w':=by
 intro n
 induction n with
 | zero=>intro x;exact Empty.elim x
 | succ n ih =>
  intro x ns ls w m d hr hz hm hd
  obtain ⟨h,l⟩:=x
  obtain ⟨al,cl,rfl,hc1,hc2⟩:=hr.len
  obtain ⟨an,cn,rfl,hn1,hn2⟩:=hr.1.len
  obtain ⟨z3,z4,z5⟩:=hz
  have hr:=hide hr
  have ih':=hide ih
  have z4:=hide z4
  have z5:=hide z5
  clear ih
  have hm1:(m:Int)≤32768:=by omega
  have e3:(h.names.length:Int)≤281474976710656:=by simp only at z3;omega
  clear z3
  simp only at hn1 hn2 hc1 hc2
  show Calls _ _ #[.agg #[.int .i64 h.kind,.slice an h.names.length cn,.slice al l.length cl],_,_,_] _ _
  by_cases hd3:(300:Int)<(d:Int)
  ·go_enter Tryz.func48, Tryz.ntmps48
   go_wp2_with fail
   go_ret
   exact ⟨32769,by first|rfl|simp,⟨fun h=>by omega,by omega⟩,by first|exact below_al (Below.refl _ _)|exact Below.refl _ _⟩
  ·have hB0:=hide (tx_new w h (.slice an h.names.length cn) (.slice al l.length cl))
   obtain ⟨q,hq⟩:∃ q:Nat,q=m + 1 + h.names.length:=⟨_,rfl⟩
   have hqi:(m:Int) + 1 + h.names.length=(q:Int):=by omega
   have hq2:q≤1125899906842624:=by omega
   have hD:m + tblk (n + 1) (h,l)=q + suml (h.names.map ByteArray.size) + suml (l.map (tblk n)):=by simp only [tblk];omega
   have hq':=hide hq
   have hD':=hide hD
   have hq2':=hide hq2
   clear hq hD hq2
   have ml:maxLen=9223372036854775807:=rfl
   go_enter Tryz.func48, Tryz.ntmps48
   go_wp2_with fail
   go_loopw [1,9] (fun u i w'=>∃ (k p:Nat),u=.int .i64 p∧i=.int .i64 k∧k≤h.names.length∧Hid (p=q + suml ((h.names.map ByteArray.size).take k)∧p≤1125899906842624∧Below w.heap.size w w'∧Tx w' w.heap.size h (.slice an h.names.length cn) (.slice al l.length cl))) (fun _ i _=>h.names.length - (intOf i).toNat)
   case atStart=>exact ⟨0,q,rfl,rfl,Nat.zero_le _,rfl,by have:=hq2'.out;omega,below_al (Below.refl _ _),hB0.out⟩
   case round =>
    obtain ⟨k,p,rfl,rfl,hk,H⟩:=hrel
    obtain ⟨c0,c7,c8⟩:=H.out.2.2.2.cells
    clear c0
    have hp63:(p:Int)≤1125899906842624:=by have:=H.out.2.1;omega
    by_cases hkl:k<h.names.length
    ·have hki:(k:Int)<(h.names.length:Int):=by omega
     by_cases hp:(p:Int)≤32768
     ·obtain ⟨b,o,c,he,hbl,hlc,hcm,hcell⟩:=hr.out.1.at k hkl
      have he':=Value.slice.inj he
      obtain ⟨rfl,_,rfl⟩:=he'
      clear he
      have hcell:=(H.out.2.2.1.cell (p:=⟨b,o + k,none⟩) hbl).trans hcell
      have hz:=z4.out h.names[k] (List.getElem_mem _)
      have hmx:=suml_take (h.names.map ByteArray.size) k (by simpa using hkl)
      rw [List.getElem_map] at hmx
      have hmx':=hide hmx
      obtain ⟨s,hs⟩:∃ s,h.names[k]=s:=⟨_,rfl⟩
      simp only at hcell
      rw [hs] at hcell hz
      have hzi:(s.size:Int)≤281474976710656:=by omega
      have hs':=hide hs
      have hz':=hide hz
      clear hmx hs hz
      go_wp2_with fail
      refine ⟨⟨k + 1,p + s.size,by go_num,by go_num,by omega,?_⟩,by simp [intOf];omega⟩
      refine ⟨?_,by omega,H.out.2.2⟩
      rw [hmx'.out,hs'.out,H.out.1];omega
     ·go_wp2_with fail
      go_loopw [1,10] (fun u i w'=>∃ (k p:Nat),u=.int .i64 p∧i=.int .i64 k∧k≤l.length∧Hid ((p≤32768→p=q + suml (h.names.map ByteArray.size) + suml ((l.map (tblk n)).take k))∧p≤1125899906842624∧Below w.heap.size w w'∧Tx w' w.heap.size h (.slice an h.names.length cn) (.slice al l.length cl))) (fun _ i _=>l.length - (intOf i).toNat)
      case atStart=>exact ⟨0,p,rfl,rfl,Nat.zero_le _,fun h=>by omega,H.out.2⟩
      case round =>
       clear H c7 c8 hp63
       obtain ⟨k2,p2,rfl,rfl,hk2,H⟩:=hrel
       obtain ⟨c0,c7,c8⟩:=H.out.2.2.2.cells
       clear c0
       have hp63:(p2:Int)≤1125899906842624:=by have:=H.out.2.1;omega
       by_cases hkl2:k2<l.length
       ·have hki2:(k2:Int)<(l.length:Int):=by omega
        have hk63:(k2:Int)<9223372036854775807:=by omega
        by_cases hp2:(p2:Int)≤32768
        ·obtain ⟨b,o,c,he,hbl,hlc,hcm,ns',ls',hrg,hrd⟩:=hr.out.at k2 hkl2
         have he':=Value.slice.inj he
         obtain ⟨rfl,_,rfl⟩:=he'
         clear he
         obtain ⟨q0,q1,q2⟩:=range3 (rangeAt_below hrg H.out.2.2.1 hbl)
         have hrd':=hide (hrd.below H.out.2.2.1)
         obtain ⟨a1,m1,d1,a2,m2,d2,rfl,rfl⟩:=hrd.shape
         clear hrg hrd
         have hmx:=suml_take (l.map (tblk n)) k2 (by simpa using hkl2)
         rw [List.getElem_map] at hmx
         have hcall:=hide (ih'.out l[k2] (.slice a1 m1 d1) (.slice a2 m2 d2) wr p2 (d + 1) hrd'.out (z5.out _ (List.getElem_mem _)) (by omega) (by omega))
         have ed:((d + 1:Nat):Int)=(d:Int) + 1:=by omega
         rw [ed] at hcall
         have hmx':=hide hmx
         have hp2':=hide hp2
         clear hmx ed
         go_wp2_with (go_at_call 48;refine hcall.out.mono ?_;rintro e w1 ⟨p3,rfl,H3,hb1⟩)
         refine ⟨⟨k2 + 1,p3,rfl,by go_num,by omega,?_⟩,by simp [intOf];omega⟩
         refine ⟨fun h3=>?_,H3.out.2,below_then H.out.2.2.1 hb1,H.out.2.2.2.below hb1⟩
         have e3:=H3.out.1 h3
         have e2:=H.out.1 (by have:=hp2'.out;omega)
         have e4:=hmx'.out
         omega
        ·go_wp2_with fail
         go_ret
         exact ⟨p2,rfl,⟨fun h3=>by omega,H.out.2.1⟩,H.out.2.2.1⟩
       ·have hki2:¬ ((k2:Int)<(l.length:Int)):=by omega
        have hD2:m + tblk (n + 1) (h,l)=q + suml (h.names.map ByteArray.size) + suml ((l.map (tblk n)).take k2):=by
         rw [hD'.out,List.take_of_length_le (by simp;omega)]
        have hD3:=hide hD2
        clear hD2
        go_wp2_with fail
        go_ret
        exact ⟨p2,rfl,⟨fun h3=>by rw [hD3.out];exact H.out.1 h3,H.out.2.1⟩,H.out.2.2.1⟩
    ·have hki:¬ ((k:Int)<(h.names.length:Int)):=by omega
     go_wp2_with fail
     go_loopw [1,10] (fun u i w'=>∃ (k p:Nat),u=.int .i64 p∧i=.int .i64 k∧k≤l.length∧Hid ((p≤32768→p=q + suml (h.names.map ByteArray.size) + suml ((l.map (tblk n)).take k))∧p≤1125899906842624∧Below w.heap.size w w'∧Tx w' w.heap.size h (.slice an h.names.length cn) (.slice al l.length cl))) (fun _ i _=>l.length - (intOf i).toNat)
     case atStart=>exact ⟨0,p,rfl,rfl,Nat.zero_le _,fun _=>by rw [H.out.1,List.take_of_length_le (by simp;omega)];simp [suml],H.out.2⟩
     case round =>
      clear H c7 c8 hp63
      obtain ⟨k2,p2,rfl,rfl,hk2,H⟩:=hrel
      obtain ⟨c0,c7,c8⟩:=H.out.2.2.2.cells
      clear c0
      have hp63:(p2:Int)≤1125899906842624:=by have:=H.out.2.1;omega
      by_cases hkl2:k2<l.length
      ·have hki2:(k2:Int)<(l.length:Int):=by omega
       have hk63:(k2:Int)<9223372036854775807:=by omega
       by_cases hp2:(p2:Int)≤32768
       ·obtain ⟨b,o,c,he,hbl,hlc,hcm,ns',ls',hrg,hrd⟩:=hr.out.at k2 hkl2
        have he':=Value.slice.inj he
        obtain ⟨rfl,_,rfl⟩:=he'
        clear he
        obtain ⟨q0,q1,q2⟩:=range3 (rangeAt_below hrg H.out.2.2.1 hbl)
        have hrd':=hide (hrd.below H.out.2.2.1)
        obtain ⟨a1,m1,d1,a2,m2,d2,rfl,rfl⟩:=hrd.shape
        clear hrg hrd
        have hmx:=suml_take (l.map (tblk n)) k2 (by simpa using hkl2)
        rw [List.getElem_map] at hmx
        have hcall:=hide (ih'.out l[k2] (.slice a1 m1 d1) (.slice a2 m2 d2) wr p2 (d + 1) hrd'.out (z5.out _ (List.getElem_mem _)) (by omega) (by omega))
        have ed:((d + 1:Nat):Int)=(d:Int) + 1:=by omega
        rw [ed] at hcall
        have hmx':=hide hmx
        have hp2':=hide hp2
        clear hmx ed
        go_wp2_with (go_at_call 48;refine hcall.out.mono ?_;rintro e w1 ⟨p3,rfl,H3,hb1⟩)
        refine ⟨⟨k2 + 1,p3,rfl,by go_num,by omega,?_⟩,by simp [intOf];omega⟩
        refine ⟨fun h3=>?_,H3.out.2,below_then H.out.2.2.1 hb1,H.out.2.2.2.below hb1⟩
        have e3:=H3.out.1 h3
        have e2:=H.out.1 (by have:=hp2'.out;omega)
        have e4:=hmx'.out
        omega
       ·go_wp2_with fail
        go_ret
        exact ⟨p2,rfl,⟨fun h3=>by omega,H.out.2.1⟩,H.out.2.2.1⟩
      ·have hki2:¬ ((k2:Int)<(l.length:Int)):=by omega
       have hD2:m + tblk (n + 1) (h,l)=q + suml (h.names.map ByteArray.size) + suml ((l.map (tblk n)).take k2):=by
        rw [hD'.out,List.take_of_length_le (by simp;omega)]
       have hD3:=hide hD2
       clear hD2
       go_wp2_with fail
       go_ret
       exact ⟨p2,rfl,⟨fun h3=>by rw [hD3.out];exact H.out.1 h3,H.out.2.1⟩,H.out.2.2.1⟩
def wde:(n:Nat)→TT n→Bool
 | 0,_=>false
 | n + 1,x=>decide (1000<x.1.names.length) || x.2.any (wde n)
set_option maxHeartbeats 1000000 in
set_option maxRecDepth 100000 in
theorem wide_any:∀ (n:Nat) (x:TT n) (ns ls:Value) (w:World),RT n w x ns ls →
  Calls Tryz.prog 49 #[.agg (tvs (thd n x) ns ls)] w fun e w'=>e=.returned (.bool (wde n x))∧Below w.heap.size w w':=by
 intro n
 induction n with
 | zero=>intro x;exact Empty.elim x
 | succ n ih =>
  intro x ns ls w hr
  obtain ⟨h,l⟩:=x
  obtain ⟨al,cl,rfl,hc1,hc2⟩:=hr.len
  obtain ⟨an,cn,rfl,hn1,hn2⟩:=hr.1.len
  have hr:=hide hr
  have ih':=hide ih
  clear ih
  simp only at hn1 hn2 hc1 hc2
  have ml:maxLen=9223372036854775807:=rfl
  have hB0:=hide (tx_new w h (.slice an h.names.length cn) (.slice al l.length cl))
  show Calls _ _ #[.agg #[.int .i64 h.kind,.slice an h.names.length cn,.slice al l.length cl]] _ _
  by_cases h2:(1000:Int)<(h.names.length:Int)
  ·have hD:wde (n + 1) (h,l)=true:=by simp only [wde];rw [decide_eq_true (by omega)];rfl
   have hD':=hide hD
   clear hD
   go_enter Tryz.func49, Tryz.ntmps49
   go_wp2_with fail
   go_ret
   exact ⟨by rw [hD'.out];rfl,below_al (Below.refl _ _)⟩
  ·have hD:wde (n + 1) (h,l)=l.any (wde n):=by simp only [wde];rw [decide_eq_false (by omega)];rfl
   have hD':=hide hD
   clear hD
   go_enter Tryz.func49, Tryz.ntmps49
   go_wp2_with fail
   go_loopw [3] (fun i w'=>∃ k:Nat,i=.int .i64 k∧k≤l.length∧Hid ((l.take k).any (wde n)=false∧Below w.heap.size w w'∧Tx w' w.heap.size h (.slice an h.names.length cn) (.slice al l.length cl))) (fun i _=>l.length - (intOf i).toNat)
   case atStart=>exact ⟨0,rfl,Nat.zero_le _,rfl,below_al (Below.refl _ _),hB0.out⟩
   case round =>
    obtain ⟨k,rfl,hk,H⟩:=hrel
    obtain ⟨c0,c7,c8⟩:=H.out.2.2.cells
    clear c0 c7
    by_cases hkl:k<l.length
    ·have hki:(k:Int)<(l.length:Int):=by omega
     have hk63:(k:Int)<9223372036854775807:=by omega
     obtain ⟨b,o,c,he,hbl,hlc,hcm,ns',ls',hrg,hrd⟩:=hr.out.at k hkl
     have he':=Value.slice.inj he
     obtain ⟨rfl,_,rfl⟩:=he'
     clear he
     obtain ⟨q0,q1,q2⟩:=range3 (rangeAt_below hrg H.out.2.1 hbl)
     have hrd':=hide (hrd.below H.out.2.1)
     obtain ⟨a1,m1,d1,a2,m2,d2,rfl,rfl⟩:=hrd.shape
     clear hrg hrd
     have hcall:=hide (ih'.out l[k] (.slice a1 m1 d1) (.slice a2 m2 d2) wr hrd'.out)
     cases hm:wde n l[k]
     ·rw [hm] at hcall
      have hm':=hide hm
      clear hm
      go_wp2_with (go_at_call 49;refine hcall.out.mono ?_;rintro e w1 ⟨rfl,hb1⟩)
      refine ⟨⟨k + 1,by go_num,by omega,?_,below_then H.out.2.1 hb1,H.out.2.2.below hb1⟩,by simp [intOf];omega⟩
      rw [List.take_succ_eq_append_getElem hkl,List.any_append,H.out.1]
      have:=hm'.out
      simp only [List.any_cons,List.any_nil,Bool.or_false,Bool.false_or]
      exact this
     ·rw [hm] at hcall
      have hm':=hide hm
      clear hm
      go_wp2_with (go_at_call 49;refine hcall.out.mono ?_;rintro e w1 ⟨rfl,hb1⟩)
      go_ret
      exact ⟨by rw [hD'.out,any_at hkl hm'.out];rfl,below_then H.out.2.1 hb1⟩
    ·have hki:¬ ((k:Int)<(l.length:Int)):=by omega
     have hE:=H.out.1
     rw [List.take_of_length_le (by omega)] at hE
     have hE':=hide hE
     clear hE
     go_wp2_with fail
     go_ret
     exact ⟨by rw [hD'.out,hE'.out];rfl,H.out.2.1⟩
set_option maxHeartbeats 1000000 in
set_option maxRecDepth 100000 in
theorem bigt_any (n:Nat) (x:TT n) (ns ls:Value) (w:World) (hr:RT n w x ns ls) (hz:TSz n x) :
  Calls Tryz.prog 19 #[.agg (tvs (thd n x) ns ls)] w fun e w'=>∃ b,e=.returned (.bool b)∧Hid (b=false→tblk n x≤32768∧wde n x=false)∧Below w.heap.size w w':=by
 obtain ⟨a1,m1,d1,a2,m2,d2,rfl,rfl⟩:=hr.shape
 obtain ⟨h,hh⟩:∃ h,thd n x=h:=⟨_,rfl⟩
 have hP:=hide (fun o=>tparts_any n x (.slice a1 m1 d1) (.slice a2 m2 d2) (w.alloc o) 0 0 (hr.below (below_al (Below.refl _ _))) hz (by omega) (by omega))
 have hM:=hide (fun W (hb:Below w.heap.size w W)=>wide_any n x (.slice a1 m1 d1) (.slice a2 m2 d2) W (hr.below hb))
 have hB0:=hide (tx_new w h (.slice a1 m1 d1) (.slice a2 m2 d2))
 rw [hh] at hP hM ⊢
 clear hr hz hh
 show Calls _ _ #[.agg #[.int .i64 h.kind,.slice a1 m1 d1,.slice a2 m2 d2]] _ _
 go_enter Tryz.func19, Tryz.ntmps19
 go_wp2_with fail
 refine (hP.out _).mono ?_
 rintro e w1 ⟨p,rfl,H,hb1⟩
 have hb2:=hide (below_then (below_al (o:=.cells (tvs h (.slice a1 m1 d1) (.slice a2 m2 d2)) 48) (Below.refl w.heap.size w)) hb1)
 obtain ⟨c0,c7,c8⟩:=(hB0.out.below hb1).cells
 have hcall:=hide (hM.out w1 hb2.out)
 by_cases hp:(32768:Int)<(p:Int)
 ·go_wp2_with (go_at_call 49;refine hcall.out.mono ?_;rintro e w2 ⟨rfl,hb3⟩)
  go_ret
  exact ⟨true,rfl,(fun h=>by cases h),hb2.out⟩
 ·cases hm:wde n x
  ·rw [hm] at hcall
   go_wp2_with (go_at_call 49;refine hcall.out.mono ?_;rintro e w2 ⟨rfl,hb3⟩)
   go_ret
   exact ⟨false,ret_bool (decide_eq_false (by omega)),(fun h=>⟨by have:=H.out.1 (by omega);omega,hm⟩),below_then hb2.out hb3⟩
  ·rw [hm] at hcall
   go_wp2_with (go_at_call 49;refine hcall.out.mono ?_;rintro e w2 ⟨rfl,hb3⟩)
   go_ret
   exact ⟨true,rfl,(fun h=>by cases h),below_then hb2.out hb3⟩
end Go.Proofs.YtcnfchblfcfimaaGreatDoor
namespace Go.Proofs.YtcnfchblfcfimaaGreatDoor
open Go.RowKit
def zr (k:Int):Hd:=⟨k,false,false,⟨#[]⟩,0,0,⟨#[]⟩,[]⟩
def strip (h:Hd):Hd:=⟨h.kind,bif h.kind==2 then false else h.flag,bif h.kind==3 then false else h.neg,bif h.kind==3 then ⟨#[]⟩ else h.dig,bif h.kind==3 then 0 else h.exp,bif h.kind==4 then 0 else h.bits,bif h.kind==5 || h.kind==6 || h.kind==9 then ⟨#[]⟩ else h.text,bif h.kind==8 then [] else h.names⟩
def Bare {α:Type} (h:Hd) (l:List α):Prop:=1≤h.kind∧h.kind≤9∧strip h=zr h.kind∧(7≤h.kind∨l=[])
theorem rd_zero (n:Nat) (w:World) (k:Int):RD (n + 1) w ((zr k,[]):VT (n + 1)) (.slice none 0 0) (.slice none 0 0):=⟨Or.inl ⟨rfl,rfl⟩,Or.inl ⟨rfl,rfl⟩⟩
set_option maxHeartbeats 1000000 in
set_option maxRecDepth 100000 in
theorem bare_1 (n:Nat) (h:Hd) (l:List (VT n)) (ns ls:Value) (w:World) (hr:RD (n + 1) w (h,l) ns ls) (hk:h.kind=1) :
  Calls Tryz.prog 164 #[.agg (vals h ns ls)] w fun e w'=>TB (Bare h l) w e w':=by
 obtain ⟨a1,m1,d1,a2,m2,d2,rfl,rfl⟩:=hr.shape
 have hr:=hide hr
 have hx:Bare h l↔(({h with kind:=1},l):VT (n + 1))=(zr 1,[]):=by
  obtain ⟨k,f,ng,dg,ex,bt,tx,nm⟩:=h
  simp only at hk
  subst hk
  simp [Bare,strip,zr]
 have hx':=hide hx
 have hE:=hide (fun o=>equal_any (n + 1) ({h with kind:=1},l) (zr 1,[]) (.slice a1 m1 d1) (.slice a2 m2 d2) _ _ (w.alloc o) ⟨(hr.out.below (below_al (o:=o) (Below.refl _ _))).1,(hr.out.below (below_al (o:=o) (Below.refl _ _))).2⟩ (rd_zero n _ 1))
 show Calls _ _ #[.agg #[.int .i64 h.kind,.bool h.flag,.bool h.neg,.string h.dig,.int .i64 h.exp,.int .u64 h.bits,.string h.text,.slice a1 m1 d1,.slice a2 m2 d2]] _ _
 rw [hk]
 clear hx hk
 go_enter Tryz.func164, Tryz.ntmps164
 go_wp2_with (go_at_call 82;refine (hE.out _).mono ?_;rintro e w1 ⟨b,rfl,hT,hb1⟩)
 go_ret
 exact ⟨b,rfl,(show Hid _ from ⟨(fun q=>hx'.out.2 (hT.1 q)),(fun q=>hT.2 (hx'.out.1 q))⟩),below_then (below_al (Below.refl _ _)) hb1⟩
set_option maxHeartbeats 1000000 in
set_option maxRecDepth 100000 in
theorem bare_2 (n:Nat) (h:Hd) (l:List (VT n)) (ns ls:Value) (w:World) (hr:RD (n + 1) w (h,l) ns ls) (hk:h.kind=2) :
  Calls Tryz.prog 164 #[.agg (vals h ns ls)] w fun e w'=>TB (Bare h l) w e w':=by
 obtain ⟨a1,m1,d1,a2,m2,d2,rfl,rfl⟩:=hr.shape
 have hr:=hide hr
 have hx:Bare h l↔(({h with kind:=2,flag:=false},l):VT (n + 1))=(zr 2,[]):=by
  obtain ⟨k,f,ng,dg,ex,bt,tx,nm⟩:=h
  simp only at hk
  subst hk
  simp [Bare,strip,zr]
 have hx':=hide hx
 have hE:=hide (fun o=>equal_any (n + 1) ({h with kind:=2,flag:=false},l) (zr 2,[]) (.slice a1 m1 d1) (.slice a2 m2 d2) _ _ (w.alloc o) ⟨(hr.out.below (below_al (o:=o) (Below.refl _ _))).1,(hr.out.below (below_al (o:=o) (Below.refl _ _))).2⟩ (rd_zero n _ 2))
 show Calls _ _ #[.agg #[.int .i64 h.kind,.bool h.flag,.bool h.neg,.string h.dig,.int .i64 h.exp,.int .u64 h.bits,.string h.text,.slice a1 m1 d1,.slice a2 m2 d2]] _ _
 rw [hk]
 clear hx hk
 go_enter Tryz.func164, Tryz.ntmps164
 go_wp2_with (go_at_call 82;refine (hE.out _).mono ?_;rintro e w1 ⟨b,rfl,hT,hb1⟩)
 go_ret
 exact ⟨b,rfl,(show Hid _ from ⟨(fun q=>hx'.out.2 (hT.1 q)),(fun q=>hT.2 (hx'.out.1 q))⟩),below_then (below_al (Below.refl _ _)) hb1⟩
set_option maxHeartbeats 1000000 in
set_option maxRecDepth 100000 in
theorem bare_3 (n:Nat) (h:Hd) (l:List (VT n)) (ns ls:Value) (w:World) (hr:RD (n + 1) w (h,l) ns ls) (hk:h.kind=3) :
  Calls Tryz.prog 164 #[.agg (vals h ns ls)] w fun e w'=>TB (Bare h l) w e w':=by
 obtain ⟨a1,m1,d1,a2,m2,d2,rfl,rfl⟩:=hr.shape
 have hr:=hide hr
 have hx:Bare h l↔(({h with kind:=3,neg:=false,dig:=⟨#[]⟩,exp:=0},l):VT (n + 1))=(zr 3,[]):=by
  obtain ⟨k,f,ng,dg,ex,bt,tx,nm⟩:=h
  simp only at hk
  subst hk
  simp [Bare,strip,zr]
 have hx':=hide hx
 have hE:=hide (fun o=>equal_any (n + 1) ({h with kind:=3,neg:=false,dig:=⟨#[]⟩,exp:=0},l) (zr 3,[]) (.slice a1 m1 d1) (.slice a2 m2 d2) _ _ (w.alloc o) ⟨(hr.out.below (below_al (o:=o) (Below.refl _ _))).1,(hr.out.below (below_al (o:=o) (Below.refl _ _))).2⟩ (rd_zero n _ 3))
 show Calls _ _ #[.agg #[.int .i64 h.kind,.bool h.flag,.bool h.neg,.string h.dig,.int .i64 h.exp,.int .u64 h.bits,.string h.text,.slice a1 m1 d1,.slice a2 m2 d2]] _ _
 rw [hk]
 clear hx hk
 go_enter Tryz.func164, Tryz.ntmps164
 go_wp2_with (go_at_call 82;refine (hE.out _).mono ?_;rintro e w1 ⟨b,rfl,hT,hb1⟩)
 go_ret
 exact ⟨b,rfl,(show Hid _ from ⟨(fun q=>hx'.out.2 (hT.1 q)),(fun q=>hT.2 (hx'.out.1 q))⟩),below_then (below_al (Below.refl _ _)) hb1⟩
set_option maxHeartbeats 1000000 in
set_option maxRecDepth 100000 in
theorem bare_4 (n:Nat) (h:Hd) (l:List (VT n)) (ns ls:Value) (w:World) (hr:RD (n + 1) w (h,l) ns ls) (hk:h.kind=4) :
  Calls Tryz.prog 164 #[.agg (vals h ns ls)] w fun e w'=>TB (Bare h l) w e w':=by
 obtain ⟨a1,m1,d1,a2,m2,d2,rfl,rfl⟩:=hr.shape
 have hr:=hide hr
 have hx:Bare h l↔(({h with kind:=4,bits:=0},l):VT (n + 1))=(zr 4,[]):=by
  obtain ⟨k,f,ng,dg,ex,bt,tx,nm⟩:=h
  simp only at hk
  subst hk
  simp [Bare,strip,zr]
 have hx':=hide hx
 have hE:=hide (fun o=>equal_any (n + 1) ({h with kind:=4,bits:=0},l) (zr 4,[]) (.slice a1 m1 d1) (.slice a2 m2 d2) _ _ (w.alloc o) ⟨(hr.out.below (below_al (o:=o) (Below.refl _ _))).1,(hr.out.below (below_al (o:=o) (Below.refl _ _))).2⟩ (rd_zero n _ 4))
 show Calls _ _ #[.agg #[.int .i64 h.kind,.bool h.flag,.bool h.neg,.string h.dig,.int .i64 h.exp,.int .u64 h.bits,.string h.text,.slice a1 m1 d1,.slice a2 m2 d2]] _ _
 rw [hk]
 clear hx hk
 go_enter Tryz.func164, Tryz.ntmps164
 go_wp2_with (go_at_call 82;refine (hE.out _).mono ?_;rintro e w1 ⟨b,rfl,hT,hb1⟩)
 go_ret
 exact ⟨b,rfl,(show Hid _ from ⟨(fun q=>hx'.out.2 (hT.1 q)),(fun q=>hT.2 (hx'.out.1 q))⟩),below_then (below_al (Below.refl _ _)) hb1⟩
set_option maxHeartbeats 1000000 in
set_option maxRecDepth 100000 in
theorem bare_5 (n:Nat) (h:Hd) (l:List (VT n)) (ns ls:Value) (w:World) (hr:RD (n + 1) w (h,l) ns ls) (hk:h.kind=5) :
  Calls Tryz.prog 164 #[.agg (vals h ns ls)] w fun e w'=>TB (Bare h l) w e w':=by
 obtain ⟨a1,m1,d1,a2,m2,d2,rfl,rfl⟩:=hr.shape
 have hr:=hide hr
 have hx:Bare h l↔(({h with kind:=5,text:=⟨#[]⟩},l):VT (n + 1))=(zr 5,[]):=by
  obtain ⟨k,f,ng,dg,ex,bt,tx,nm⟩:=h
  simp only at hk
  subst hk
  simp [Bare,strip,zr]
 have hx':=hide hx
 have hE:=hide (fun o=>equal_any (n + 1) ({h with kind:=5,text:=⟨#[]⟩},l) (zr 5,[]) (.slice a1 m1 d1) (.slice a2 m2 d2) _ _ (w.alloc o) ⟨(hr.out.below (below_al (o:=o) (Below.refl _ _))).1,(hr.out.below (below_al (o:=o) (Below.refl _ _))).2⟩ (rd_zero n _ 5))
 show Calls _ _ #[.agg #[.int .i64 h.kind,.bool h.flag,.bool h.neg,.string h.dig,.int .i64 h.exp,.int .u64 h.bits,.string h.text,.slice a1 m1 d1,.slice a2 m2 d2]] _ _
 rw [hk]
 clear hx hk
 go_enter Tryz.func164, Tryz.ntmps164
 go_wp2_with (go_at_call 82;refine (hE.out _).mono ?_;rintro e w1 ⟨b,rfl,hT,hb1⟩)
 go_ret
 exact ⟨b,rfl,(show Hid _ from ⟨(fun q=>hx'.out.2 (hT.1 q)),(fun q=>hT.2 (hx'.out.1 q))⟩),below_then (below_al (Below.refl _ _)) hb1⟩
set_option maxHeartbeats 1000000 in
set_option maxRecDepth 100000 in
theorem bare_6 (n:Nat) (h:Hd) (l:List (VT n)) (ns ls:Value) (w:World) (hr:RD (n + 1) w (h,l) ns ls) (hk:h.kind=6) :
  Calls Tryz.prog 164 #[.agg (vals h ns ls)] w fun e w'=>TB (Bare h l) w e w':=by
 obtain ⟨a1,m1,d1,a2,m2,d2,rfl,rfl⟩:=hr.shape
 have hr:=hide hr
 have hx:Bare h l↔(({h with kind:=6,text:=⟨#[]⟩},l):VT (n + 1))=(zr 6,[]):=by
  obtain ⟨k,f,ng,dg,ex,bt,tx,nm⟩:=h
  simp only at hk
  subst hk
  simp [Bare,strip,zr]
 have hx':=hide hx
 have hE:=hide (fun o=>equal_any (n + 1) ({h with kind:=6,text:=⟨#[]⟩},l) (zr 6,[]) (.slice a1 m1 d1) (.slice a2 m2 d2) _ _ (w.alloc o) ⟨(hr.out.below (below_al (o:=o) (Below.refl _ _))).1,(hr.out.below (below_al (o:=o) (Below.refl _ _))).2⟩ (rd_zero n _ 6))
 show Calls _ _ #[.agg #[.int .i64 h.kind,.bool h.flag,.bool h.neg,.string h.dig,.int .i64 h.exp,.int .u64 h.bits,.string h.text,.slice a1 m1 d1,.slice a2 m2 d2]] _ _
 rw [hk]
 clear hx hk
 go_enter Tryz.func164, Tryz.ntmps164
 go_wp2_with (go_at_call 82;refine (hE.out _).mono ?_;rintro e w1 ⟨b,rfl,hT,hb1⟩)
 go_ret
 exact ⟨b,rfl,(show Hid _ from ⟨(fun q=>hx'.out.2 (hT.1 q)),(fun q=>hT.2 (hx'.out.1 q))⟩),below_then (below_al (Below.refl _ _)) hb1⟩
set_option maxHeartbeats 1000000 in
set_option maxRecDepth 100000 in
theorem bare_7 (n:Nat) (h:Hd) (l:List (VT n)) (ns ls:Value) (w:World) (hr:RD (n + 1) w (h,l) ns ls) (hk:h.kind=7) :
  Calls Tryz.prog 164 #[.agg (vals h ns ls)] w fun e w'=>TB (Bare h l) w e w':=by
 obtain ⟨a1,m1,d1,a2,m2,d2,rfl,rfl⟩:=hr.shape
 have hr:=hide hr
 have hx:Bare h l↔(({h with kind:=7},[]):VT (n + 1))=(zr 7,[]):=by
  obtain ⟨k,f,ng,dg,ex,bt,tx,nm⟩:=h
  simp only at hk
  subst hk
  simp [Bare,strip,zr]
 have hx':=hide hx
 have hE:=hide (fun o=>equal_any (n + 1) ({h with kind:=7},[]) (zr 7,[]) (.slice a1 m1 d1) (.slice none 0 0) _ _ (w.alloc o) ⟨(hr.out.below (below_al (o:=o) (Below.refl _ _))).1,Or.inl ⟨rfl,rfl⟩⟩ (rd_zero n _ 7))
 show Calls _ _ #[.agg #[.int .i64 h.kind,.bool h.flag,.bool h.neg,.string h.dig,.int .i64 h.exp,.int .u64 h.bits,.string h.text,.slice a1 m1 d1,.slice a2 m2 d2]] _ _
 rw [hk]
 clear hx hk
 go_enter Tryz.func164, Tryz.ntmps164
 go_wp2_with (go_at_call 82;refine (hE.out _).mono ?_;rintro e w1 ⟨b,rfl,hT,hb1⟩)
 go_ret
 exact ⟨b,rfl,(show Hid _ from ⟨(fun q=>hx'.out.2 (hT.1 q)),(fun q=>hT.2 (hx'.out.1 q))⟩),below_then (below_al (Below.refl _ _)) hb1⟩
set_option maxHeartbeats 1000000 in
set_option maxRecDepth 100000 in
theorem bare_8 (n:Nat) (h:Hd) (l:List (VT n)) (ns ls:Value) (w:World) (hr:RD (n + 1) w (h,l) ns ls) (hk:h.kind=8) :
  Calls Tryz.prog 164 #[.agg (vals h ns ls)] w fun e w'=>TB (Bare h l) w e w':=by
 obtain ⟨a1,m1,d1,a2,m2,d2,rfl,rfl⟩:=hr.shape
 have hr:=hide hr
 have hx:Bare h l↔(({h with kind:=8,names:=[]},[]):VT (n + 1))=(zr 8,[]):=by
  obtain ⟨k,f,ng,dg,ex,bt,tx,nm⟩:=h
  simp only at hk
  subst hk
  simp [Bare,strip,zr]
 have hx':=hide hx
 have hE:=hide (fun o=>equal_any (n + 1) ({h with kind:=8,names:=[]},[]) (zr 8,[]) (.slice none 0 0) (.slice none 0 0) _ _ (w.alloc o) ⟨Or.inl ⟨rfl,rfl⟩,Or.inl ⟨rfl,rfl⟩⟩ (rd_zero n _ 8))
 show Calls _ _ #[.agg #[.int .i64 h.kind,.bool h.flag,.bool h.neg,.string h.dig,.int .i64 h.exp,.int .u64 h.bits,.string h.text,.slice a1 m1 d1,.slice a2 m2 d2]] _ _
 rw [hk]
 clear hx hk
 go_enter Tryz.func164, Tryz.ntmps164
 go_wp2_with (go_at_call 82;refine (hE.out _).mono ?_;rintro e w1 ⟨b,rfl,hT,hb1⟩)
 go_ret
 exact ⟨b,rfl,(show Hid _ from ⟨(fun q=>hx'.out.2 (hT.1 q)),(fun q=>hT.2 (hx'.out.1 q))⟩),below_then (below_al (Below.refl _ _)) hb1⟩
set_option maxHeartbeats 1000000 in
set_option maxRecDepth 100000 in
theorem bare_9 (n:Nat) (h:Hd) (l:List (VT n)) (ns ls:Value) (w:World) (hr:RD (n + 1) w (h,l) ns ls) (hk:h.kind=9) :
  Calls Tryz.prog 164 #[.agg (vals h ns ls)] w fun e w'=>TB (Bare h l) w e w':=by
 obtain ⟨a1,m1,d1,a2,m2,d2,rfl,rfl⟩:=hr.shape
 have hr:=hide hr
 have hx:Bare h l↔(({h with kind:=9,text:=⟨#[]⟩},[]):VT (n + 1))=(zr 9,[]):=by
  obtain ⟨k,f,ng,dg,ex,bt,tx,nm⟩:=h
  simp only at hk
  subst hk
  simp [Bare,strip,zr]
 have hx':=hide hx
 have hE:=hide (fun o=>equal_any (n + 1) ({h with kind:=9,text:=⟨#[]⟩},[]) (zr 9,[]) (.slice a1 m1 d1) (.slice none 0 0) _ _ (w.alloc o) ⟨(hr.out.below (below_al (o:=o) (Below.refl _ _))).1,Or.inl ⟨rfl,rfl⟩⟩ (rd_zero n _ 9))
 show Calls _ _ #[.agg #[.int .i64 h.kind,.bool h.flag,.bool h.neg,.string h.dig,.int .i64 h.exp,.int .u64 h.bits,.string h.text,.slice a1 m1 d1,.slice a2 m2 d2]] _ _
 rw [hk]
 clear hx hk
 go_enter Tryz.func164, Tryz.ntmps164
 go_wp2_with (go_at_call 82;refine (hE.out _).mono ?_;rintro e w1 ⟨b,rfl,hT,hb1⟩)
 go_ret
 exact ⟨b,rfl,(show Hid _ from ⟨(fun q=>hx'.out.2 (hT.1 q)),(fun q=>hT.2 (hx'.out.1 q))⟩),below_then (below_al (Below.refl _ _)) hb1⟩
set_option maxHeartbeats 1000000 in
set_option maxRecDepth 100000 in
theorem isBare_any (n:Nat) (h:Hd) (l:List (VT n)) (ns ls:Value) (w:World) (hr:RD (n + 1) w (h,l) ns ls) :
  Calls Tryz.prog 164 #[.agg (vals h ns ls)] w fun e w'=>TB (Bare h l) w e w':=by
 by_cases k1:h.kind=1
 ·exact bare_1 n h l ns ls w hr k1
 by_cases k2:h.kind=2
 ·exact bare_2 n h l ns ls w hr k2
 by_cases k3:h.kind=3
 ·exact bare_3 n h l ns ls w hr k3
 by_cases k4:h.kind=4
 ·exact bare_4 n h l ns ls w hr k4
 by_cases k5:h.kind=5
 ·exact bare_5 n h l ns ls w hr k5
 by_cases k6:h.kind=6
 ·exact bare_6 n h l ns ls w hr k6
 by_cases k7:h.kind=7
 ·exact bare_7 n h l ns ls w hr k7
 by_cases k8:h.kind=8
 ·exact bare_8 n h l ns ls w hr k8
 by_cases k9:h.kind=9
 ·exact bare_9 n h l ns ls w hr k9
 have hx:¬ Bare h l:=by
  rintro ⟨q1,q2,_⟩
  omega
 have hx':=hide hx
 obtain ⟨a1,m1,d1,a2,m2,d2,rfl,rfl⟩:=hr.shape
 clear hx hr
 show Calls _ _ #[.agg #[.int .i64 h.kind,.bool h.flag,.bool h.neg,.string h.dig,.int .i64 h.exp,.int .u64 h.bits,.string h.text,.slice a1 m1 d1,.slice a2 m2 d2]] _ _
 go_enter Tryz.func164, Tryz.ntmps164
 go_wp2_with fail
 go_ret
 exact TB.no hx'.out (below_al (Below.refl _ _))
end Go.Proofs.YtcnfchblfcfimaaGreatDoor
