/- Merged by program: VhName, ViTree, VkPure. -/
import Derived.Test.YtgicnopppgnjjaaGreatDoorZd23
import Derived.Test.YtgicnopppgnjjaaGreatDoorZd07
set_option linter.unusedSimpArgs false
set_option linter.unusedVariables false
namespace Go.Proofs.YtgicnopppgnjjaaGreatDoor
namespace Lx
open Go.RowKit
def endT (t:Tk) (l:List Tk):Sum Int (List Tk):=if t.w=0 then .inr (t :: l) else .inl t.p
set_option maxHeartbeats 1000000 in
set_option maxRecDepth 100000 in
theorem end_any {w:World} {B:Nat} {t:Tk} {l:List Tk} (h:TQ w B (t :: l)):Calls Tryz.prog 70 #[lv B] w fun e w'=>WP B w (endT t l) e w':=by
 have H:=hide h
 clear h
 unfold lv
 have hf:=hide (fun w' (hb:Below w.heap.size w w')=>first_any (H.out.below hb))
 unfold tkV at hf
 by_cases hm:t.w=0
 ·have e:endT t l=.inr (t :: l):=by simp [endT,hm]
  rw [e]
  have hm':=hide hm
  rw [hm] at hf
  clear e hm
  go_enter Tryz.func70, Tryz.ntmps70
  go_wp2_with (first|(go_at_call 123;refine (hf.out _ (below_al (Below.refl _ _))).mono ?_;rintro e w1 ⟨rfl,hb1⟩))
  go_end0
  have hx:=below_al (o:=.cells #[.int .i64 0,.string (mkB t.s),.int .i64 t.p] 110) (below_then (below_al (Below.refl _ _)) hb1)
  exact ⟨FB.of hx,rfl,H.out.below hx⟩
 ·have e:endT t l=.inl t.p:=by simp [endT,hm]
  rw [e]
  have b0:(t.w==0)=false:=by simp [hm]
  clear e
  go_enter Tryz.func70, Tryz.ntmps70
  go_wp2_with (first|(go_at_call 123;refine (hf.out _ (below_al (Below.refl _ _))).mono ?_;rintro e w1 ⟨rfl,hb1⟩))
  have hx:=below_al (o:=.cells #[.int .i64 t.w,.string (mkB t.s),.int .i64 t.p] 110) (below_then (below_al (Below.refl _ _)) hb1)
  exact ⟨rfl,FB.of hx,rfl⟩
def ixS (s:(List UInt8)):List (List UInt8)→Nat
 | []=>0
 | x :: l=>if s=x then 0 else ixS s l + 1
def ixV (s:(List UInt8)) (l:List (List UInt8)):Int:=if s∈l then (ixS s l:Nat) else -1
theorem ixS_first (s:(List UInt8)):∀ (l:List (List UInt8)) (k:Nat) (h:k<l.length),s ∉ l.take k→s=l[k]→s∈l∧ixS s l=k
 | [],k,h,_,_=>by simp at h
 | x :: l,0,h,_,e=>by
  simp only [List.getElem_cons_zero] at e
  exact ⟨by rw [e];simp,by simp [ixS,e]⟩
 | x :: l,k + 1,h,hn,e=>by
  simp only [List.take_succ_cons,List.mem_cons,not_or] at hn
  simp only [List.getElem_cons_succ] at e
  have:=ixS_first s l k (by simpa using h) hn.2 e
  exact ⟨List.mem_cons_of_mem _ this.1,by simp [ixS,hn.1,this.2]⟩
set_option maxHeartbeats 1000000 in
set_option maxRecDepth 100000 in
theorem index_any (v:Value) (l:List (List UInt8)) (s:List UInt8) (w:World) (h:NL w v (l.map mkB)):Calls Tryz.prog 195 #[v,.string (mkB s)] w fun e w'=>e=.returned (.int .i64 (ixV s l))∧w'=w:=by
 obtain ⟨a,c,rfl,hc1,hc2⟩:=h.len
 rw [List.length_map] at *
 have H:=hide h
 clear h
 have ml:maxLen=9223372036854775807:=rfl
 obtain ⟨U,hU⟩:∃ U,ixV s l=U:=⟨_,rfl⟩
 rw [hU]
 have HU:=hide hU
 clear hU
 go_enter Tryz.func195, Tryz.ntmps195
 go_wp2_with fail
 go_loopw [5,8] (fun _ i w'=>∃ k:Nat,i=.int .i64 k∧k≤l.length∧w'=w∧Hid (s ∉ l.take k)) (fun _ i _=>l.length - (intOf i).toNat)
 case atStart=>exact ⟨0,rfl,Nat.zero_le _,rfl,by show s ∉ _;simp⟩
 case round =>
  obtain ⟨k,rfl,hk,hw,hn⟩:=hrel
  have hw:=hw.symm
  subst hw
  by_cases hkl:k<l.length
  ·obtain ⟨b,o,c',he,hbl,hlc,hcm,hcell⟩:=H.out.at k (by rw [List.length_map];exact hkl)
   rw [List.length_map] at he hlc
   rw [List.getElem_map] at hcell
   have he':=Value.slice.inj he
   obtain ⟨rfl,_,rfl⟩:=he'
   clear he
   have hki:(k:Int)<(l.length:Int):=by omega
   have hk63:(k:Int)<9223372036854775807:=by omega
   obtain ⟨x,hx⟩:∃ x,l[k]=x:=⟨_,rfl⟩
   rw [hx] at hcell
   have HX:=hide hx
   clear hx
   by_cases hs:s=x
   ·have hv:Hid ((k:Int)=U):=by
     have:=ixS_first s l k hkl hn.out (hs.trans HX.out.symm)
     show _=_
     rw [←HU.out]
     simp [ixV,this.1,this.2]
    rw [hs]
    go_wp2_with fail
    go_ret
    exact ⟨by rw [←hv.out];rfl,rfl⟩
   ·have hne:=tl_ne (fun h=>hs (mkB_inj h))
    have hs':=hide hs
    clear hs
    go_wp2_with fail
    refine ⟨⟨k + 1,by go_num,by omega,by first|rfl|trivial,?_⟩,by simp [intOf];omega⟩
    show s ∉ _
    rw [List.take_add_one,List.getElem?_eq_getElem hkl]
    simp only [Option.toList_some,List.mem_append,List.mem_singleton,not_or]
    exact ⟨hn.out,by rw [HX.out];exact hs'.out⟩
  ·have hki:¬ ((k:Int)<(l.length:Int)):=by omega
   have hv:Hid (U=-1):=by
    have:=hn.out
    rw [List.take_of_length_le (by omega)] at this
    show _=_
    rw [←HU.out]
    simp [ixV,this]
   go_wp2_with fail
   go_ret
   exact ⟨by rw [hv.out];rfl,rfl⟩
set_option maxHeartbeats 1000000 in
set_option maxRecDepth 100000 in
theorem contains_any (v:Value) (l:List (List UInt8)) (s:List UInt8) (w:World) (h:NL w v (l.map mkB)):Calls Tryz.prog 164 #[v,.string (mkB s)] w fun e w'=>e=.returned (.bool (decide (s∈l)))∧w'=w:=by
 have hi:=hide (index_any v l s w h)
 obtain ⟨a,c,rfl,hc1,hc2⟩:=h.len
 rw [List.length_map] at *
 clear h
 by_cases hs:s∈l
 ·have hd:decide (s∈l)=true:=by simp [hs]
  rw [hd]
  have hv:ixV s l=((ixS s l:Nat):Int):=by simp [ixV,hs]
  obtain ⟨q,hq⟩:∃ q:Nat,ixS s l=q:=⟨_,rfl⟩
  rw [hv,hq] at hi
  have h0:(0:Int)≤(q:Int):=by omega
  clear hv hq hd hs
  go_enter Tryz.func164, Tryz.ntmps164
  go_wp2_with (go_at_call 195;refine hi.out.mono ?_;rintro e w1 ⟨rfl,hw1⟩;have hw1:=hw1.symm;subst hw1)
  go_ret
  exact ⟨rfl,rfl⟩
 ·have hd:decide (s∈l)=false:=by simp [hs]
  rw [hd]
  have hv:ixV s l=-1:=by simp [ixV,hs]
  rw [hv] at hi
  clear hv hd hs
  go_enter Tryz.func164, Tryz.ntmps164
  go_wp2_with (go_at_call 195;refine hi.out.mono ?_;rintro e w1 ⟨rfl,hw1⟩;have hw1:=hw1.symm;subst hw1)
  go_ret
  exact ⟨rfl,rfl⟩
def nameT (ns:List (List UInt8)) (t:Tk) (l:List Tk):Sum Int (List UInt8×List Tk):=if (t.w=1∨t.w=2)∧t.s ∉ ns then .inr (t.s,l) else .inl t.p
def NP (B:Nat) (w:World) (o:Sum Int (List UInt8×List Tk)) (e:Ending) (w':World):Prop:=FB B w w'∧match o with
 | .inl p=>e=.panicked (pw p)
 | .inr x=>e=.returned (.string (mkB x.1))∧TQ w' B x.2
theorem NL.nil (w:World):NL w (.slice none 0 0) []:=Or.inl ⟨rfl,rfl⟩
theorem NL.fb {w W:World} {B:Nat} {v:Value} {l:List ByteArray} (h:NL w v l) (hb:FB B w W) (hB:Hid (∀ b o sp n c,v=.slice (some ⟨b,o,sp⟩) n c→b≠B)):NL W v l:=by
 rcases h with ⟨rfl,rfl⟩|⟨b,o,c,sp,rfl,h1,h2,h3,hc⟩
 ·exact Or.inl ⟨rfl,rfl⟩
 ·refine Or.inr ⟨b,o,c,sp,rfl,h1,h2,fun h=>⟨(h3 h).1,Nat.lt_of_lt_of_le (h3 h).2 hb.size⟩,fun i hi=>?_⟩
  have hlt:=(h3 (by omega)).2
  exact (World.cell?_of_block (w:=w) (hb.blk b hlt (hB.out _ _ _ _ _ rfl))).trans (hc i hi)
def NotB (B:Nat) (v:Value):Prop:=∀ b o sp n c,v=.slice (some ⟨b,o,sp⟩) n c→b≠B
set_option maxHeartbeats 2000000 in
set_option maxRecDepth 100000 in
theorem name_any (ns:List (List UInt8)) (v:Value) {w:World} {B:Nat} {t:Tk} {l:List Tk} (h:TQ w B (t :: l)) (hv:NL w v (ns.map mkB)) (hB:NotB B v):Calls Tryz.prog 126 #[lv B,v] w fun e w'=>NP B w (nameT ns t l) e w':=by
 have H:=hide h
 clear h
 unfold lv
 have ht:=hide (fun w' (hb:Below w.heap.size w w')=>take_any (H.out.below hb))
 have hc:=hide (fun w' (hb:FB B w w')=>contains_any v ns t.s w' (NL.fb hv hb hB))
 obtain ⟨a,c,rfl,_,_⟩:=hv.len
 rw [List.length_map] at hc ⊢
 unfold tkV at ht
 clear hv hB
 by_cases hw:t.w=1∨t.w=2
 ·by_cases hm:t.s∈ns
  ·have e:nameT ns t l=.inl t.p:=by simp [nameT,hm]
   rw [e]
   have hd:decide (t.s∈ns)=true:=by simp [hm]
   rw [hd] at hc
   clear e hd hm
   rcases hw with hw|hw
   all_goals rw [hw] at ht
   all_goals go_enter Tryz.func126, Tryz.ntmps126
   all_goals go_wp2_with (first|(go_at_call 124;refine (ht.out _ (below_al (Below.refl _ _))).mono ?_;rintro e w3 ⟨rfl,hq3,hb3⟩)|(go_at_call 164;refine (hc.out _ (((FB.of (below_al (Below.refl _ _))).trans hb3).then (below_al (Below.refl _ _)))).mono ?_;rintro e w4 ⟨rfl,hw4⟩;have hw4:=hw4.symm;subst hw4))
   all_goals exact ⟨rfl,((FB.of (below_al (Below.refl _ _))).trans hb3).then (below_al (Below.refl _ _)),rfl⟩
  ·have e:nameT ns t l=.inr (t.s,l):=by simp [nameT,hm,hw]
   rw [e]
   have hd:decide (t.s∈ns)=false:=by simp [hm]
   rw [hd] at hc
   clear e hd hm
   rcases hw with hw|hw
   all_goals rw [hw] at ht
   all_goals go_enter Tryz.func126, Tryz.ntmps126
   all_goals go_wp2_with (first|(go_at_call 124;refine (ht.out _ (below_al (Below.refl _ _))).mono ?_;rintro e w3 ⟨rfl,hq3,hb3⟩)|(go_at_call 164;refine (hc.out _ (((FB.of (below_al (Below.refl _ _))).trans hb3).then (below_al (Below.refl _ _)))).mono ?_;rintro e w4 ⟨rfl,hw4⟩;have hw4:=hw4.symm;subst hw4))
   all_goals go_ret
   all_goals exact ⟨((FB.of (below_al (Below.refl _ _))).trans hb3).then (below_al (Below.refl _ _)),rfl,hq3.below (below_al (Below.refl _ _))⟩
 ·have e:nameT ns t l=.inl t.p:=by simp [nameT,hw]
  rw [e]
  have b1:(t.w==1)=false:=by simp;omega
  have b2:(t.w==2)=false:=by simp;omega
  have n1:(t.w != 1)=true:=by simp [bne,b1]
  have n2:(t.w != 2)=true:=by simp [bne,b2]
  clear e hw
  go_enter Tryz.func126, Tryz.ntmps126
  go_wp2_with (first|(go_at_call 124;refine (ht.out _ (below_al (Below.refl _ _))).mono ?_;rintro e w3 ⟨rfl,hq3,hb3⟩))
  exact ⟨rfl,((FB.of (below_al (Below.refl _ _))).trans hb3).then (below_al (Below.refl _ _)),rfl⟩
end Lx
end Go.Proofs.YtgicnopppgnjjaaGreatDoor
namespace Go.Proofs.YtgicnopppgnjjaaGreatDoor
namespace Lx
open Go.RowKit
structure Eh where
 op:Int
 name:ByteArray
 names:List ByteArray
 vn:Nat
 val:VT vn
def ET:Nat→Type
 | 0=>Empty
 | n + 1=>Eh×List (ET n)
def ehd:(n:Nat)→ET n→Eh
 | 0,x=>Empty.elim x
 | _ + 1,x=>x.1
structure Sl where
 ns:Value
 ls:Value
 vs:Value
 vl:Value
def ecl (h:Eh) (s:Sl):Array Value:=#[.int .i64 h.op,.string h.name,s.ns,s.ls,.int .i64 (vhd h.vn h.val).kind,.bool (vhd h.vn h.val).flag,.bool (vhd h.vn h.val).neg,.string (vhd h.vn h.val).dig,.int .i64 (vhd h.vn h.val).exp,.int .u64 (vhd h.vn h.val).bits,.string (vhd h.vn h.val).text,s.vs,s.vl]
def ELp {α:Type} (hd:α→Eh) (R:α→Sl→Prop) (w:World) (v:Value) (l:List α):Prop :=
 (v=.slice none 0 0∧l=[])∨∃ (b o c:Nat) (sp:Option Nat),v=.slice (some ⟨b,o,sp⟩) l.length c∧l.length≤c∧c≤maxLen∧(0<l.length→sp=none∧b<w.heap.size) ∧
   ∀ i (h:i<l.length),∃ s,w.rangeAt b (o + i * 13) (ecl (hd l[i]) s).toList∧R l[i] s
def RE:(n:Nat)→World→ET n→Sl→Prop
 | 0,_,_,_=>False
 | n + 1,w,x,s=>NL w s.ns x.1.names∧RD x.1.vn w x.1.val s.vs s.vl∧ELp (ehd n) (fun y s'=>RE n w y s') w s.ls x.2
def EL (n:Nat) (w:World) (v:Value) (l:List (ET n)):Prop:=ELp (ehd n) (fun y s'=>RE n w y s') w v l
theorem RE.below:∀ {n:Nat} {w W:World} {x:ET n} {s:Sl},RE n w x s→Below w.heap.size w W→RE n W x s
 | 0,_,_,x,_,_,_=>Empty.elim x
 | n + 1,w,W,x,s,h,hb=>by
  obtain ⟨h1,hv,h2⟩:=h
  refine ⟨h1.below hb,hv.below hb,?_⟩
  rcases h2 with h2|⟨b,o,c,sp,e,k1,k2,k3,hc⟩
  ·exact Or.inl h2
  ·refine Or.inr ⟨b,o,c,sp,e,k1,k2,fun h=>⟨(k3 h).1,Nat.lt_of_lt_of_le (k3 h).2 hb.size⟩,fun i hi=>?_⟩
   obtain ⟨s',r1,r2⟩:=hc i hi
   exact ⟨s',rangeAt_below r1 hb (k3 (by omega)).2,RE.below r2 hb⟩
theorem EL.below {n:Nat} {w W:World} {v:Value} {l:List (ET n)} (h:EL n w v l) (hb:Below w.heap.size w W):EL n W v l:=by
 rcases h with h2|⟨b,o,c,sp,e,k1,k2,k3,hc⟩
 ·exact Or.inl h2
 ·refine Or.inr ⟨b,o,c,sp,e,k1,k2,fun h=>⟨(k3 h).1,Nat.lt_of_lt_of_le (k3 h).2 hb.size⟩,fun i hi=>?_⟩
  obtain ⟨s',r1,r2⟩:=hc i hi
  exact ⟨s',rangeAt_below r1 hb (k3 (by omega)).2,RE.below r2 hb⟩
theorem RE.tl {n:Nat} {w:World} {x:ET (n + 1)} {s:Sl} (h:RE (n + 1) w x s):EL n w s.ls x.2:=h.2.2
theorem EL.len {n:Nat} {w:World} {v:Value} {l:List (ET n)} (h:EL n w v l):∃ a c,v=.slice a l.length c∧l.length≤c∧c≤maxLen:=by
 rcases h with ⟨rfl,rfl⟩|⟨b,o,c,sp,rfl,h1,h2,_⟩
 ·exact ⟨none,0,rfl,Nat.le_refl _,by decide⟩
 ·exact ⟨_,c,rfl,h1,h2⟩
theorem EL.at {n:Nat} {w:World} {v:Value} {l:List (ET n)} (h:EL n w v l) (i:Nat) (hi:i<l.length) :
  ∃ b o c,v=.slice (some ⟨b,o,none⟩) l.length c∧b<w.heap.size∧l.length≤c∧c≤maxLen∧∃ s,w.rangeAt b (o + i * 13) (ecl (ehd n l[i]) s).toList∧RE n w l[i] s:=by
 rcases h with ⟨rfl,e⟩|⟨b,o,c,sp,rfl,h1,h2,h3,hc⟩
 ·rw [e] at hi;simp at hi
 ·obtain ⟨rfl,hb⟩:=h3 (by omega)
  exact ⟨b,o,c,rfl,hb,h1,h2,hc i hi⟩
def upE:(n:Nat)→ET n→ET (n + 1)
 | 0,x=>Empty.elim x
 | n + 1,x=>(x.1,x.2.map (upE n))
theorem ehd_up:∀ (n:Nat) (x:ET n),ehd (n + 1) (upE n x)=ehd n x
 | 0,x=>Empty.elim x
 | _ + 1,_=>rfl
theorem RE.up:∀ {n:Nat} {w:World} {x:ET n} {s:Sl},RE n w x s→RE (n + 1) w (upE n x) s
 | 0,_,x,_,_=>Empty.elim x
 | n + 1,w,x,s,h=>by
  obtain ⟨h1,hv,h2⟩:=h
  refine ⟨h1,hv,?_⟩
  rcases h2 with ⟨e1,e2⟩|⟨b,o,c,sp,e,k1,k2,k3,hc⟩
  ·exact Or.inl ⟨e1,by simp [upE,e2]⟩
  ·have hl:(upE (n + 1) x).2.length=x.2.length:=by simp [upE]
   refine Or.inr ⟨b,o,c,sp,by rw [hl];exact e,by rw [hl];exact k1,k2,by rw [hl];exact k3,fun i hi=>?_⟩
   rw [hl] at hi
   obtain ⟨s',r1,r2⟩:=hc i hi
   refine ⟨s',?_,?_⟩
   ·simp only [upE,List.getElem_map,ehd_up];exact r1
   ·simp only [upE,List.getElem_map];exact RE.up r2
theorem RE.shape:∀ {n:Nat} {w:World} {x:ET n} {s:Sl},RE n w x s→∃ a m c a' m' c' a2 m2 c2 a3 m3 c3,s=⟨.slice a m c,.slice a' m' c',.slice a2 m2 c2,.slice a3 m3 c3⟩
 | 0,_,x,_,_=>Empty.elim x
 | n + 1,w,x,s,h=>by
  obtain ⟨a,c,e,_⟩:=h.1.len
  obtain ⟨a',c',e',_⟩:=h.tl.len
  have hv:=h.2.1
  obtain ⟨a2,m2,c2,a3,m3,c3,e2,e3⟩:=hv.shape
  refine ⟨a,x.1.names.length,c,a',x.2.length,c',a2,m2,c2,a3,m3,c3,?_⟩
  cases s
  simp only at e e' e2 e3
  rw [e,e',e2,e3]
end Lx
end Go.Proofs.YtgicnopppgnjjaaGreatDoor
namespace Go.Proofs.YtgicnopppgnjjaaGreatDoor
namespace Lx
def nilB:ByteArray:=⟨#[]⟩
def vH (k:Int) (fl neg:Bool) (dig:ByteArray) (ex:Int) (tx:ByteArray):VT 1:=(⟨k,fl,neg,dig,ex,0,tx,[]⟩,[])
def vz:VT 1:=vH 0 false false nilB 0 nilB
def lf (op:Int):Eh:=⟨op,nilB,[],1,vz⟩
def hasL (m:List UInt8):List Tk→Bool×List Tk
 | []=>(false,[])
 | t :: r=>hasT m t r
def wantL (m:List UInt8):List Tk→Sum Int (List Tk)
 | []=>.inl 0
 | t :: r=>wantT m t r
def nameL (ns:List (List UInt8)):List Tk→Sum Int (List UInt8×List Tk)
 | []=>.inl 0
 | t :: r=>nameT ns t r
def moreT {α:Type} (S:List Tk→Sum Int (α×List Tk)):Nat→List α→List Tk→Sum Int (List α×List Tk)
 | 0,_,_=>.inl 0
 | g + 1,acc,l=>if (hasL [59] l).1 then (match S (hasL [59] l).2 with
  | .inl p=>.inl p
  | .inr x=>moreT S g (acc++[x.1]) x.2) else .inr (acc,(hasL [59] l).2)
def pipeT {m:Nat}:List (ET m)→ET (m + 1)
 | [y]=>upE m y
 | l=>(lf 12,l)
def mpgT {m:Nat} (S:List Tk→Sum Int (ET m×List Tk)) (l:List Tk):Sum Int (ET (m + 1)×List Tk):=match S l with
 | .inl p=>.inl p
 | .inr x=>match moreT S l.length [x.1] x.2 with
  | .inl p=>.inl p
  | .inr y=>.inr (pipeT y.1,y.2)
def nmT {α:Type} (m:List UInt8) (I:List Tk→Sum Int (α×List Tk)):Nat→List (List UInt8)→List α→List Tk→Sum Int (List (List UInt8)×List α×List Tk)
 | 0,_,_,_=>.inl 0
 | g + 1,ns,xs,l=>match nameL ns l with
  | .inl p=>.inl p
  | .inr s=>match wantL m s.2 with
   | .inl p=>.inl p
   | .inr l2=>match I l2 with
    | .inl p=>.inl p
    | .inr x=>if (hasL [125] x.2).1 then .inr (ns++[s.1],xs++[x.1],(hasL [125] x.2).2) else (match wantL [44] (hasL [125] x.2).2 with
     | .inl p=>.inl p
     | .inr l5=>nmT m I g (ns++[s.1]) (xs++[x.1]) l5)
def namedT {α:Type} (m:List UInt8) (I:List Tk→Sum Int (α×List Tk)) (l:List Tk):Sum Int (List (List UInt8)×List α×List Tk):=if (hasL [125] l).1 then .inr ([],[],(hasL [125] l).2) else nmT m I l.length [] [] (hasL [125] l).2
def brT {m:Nat} (M:List Tk→Sum Int (ET m×List Tk)) (op:Int) (l:List Tk):Sum Int (ET (m + 1)×List Tk):=match namedT [61] M l with
 | .inl p=>.inl p
 | .inr y=>.inr ((⟨op,nilB,y.1.map mkB,1,vz⟩,y.2.1),y.2.2)
def clT {α:Type} (M:List Tk→Sum Int (α×List Tk)) (k:List UInt8) (l:List Tk):Sum Int (α×List Tk):=match M l with
 | .inl p=>.inl p
 | .inr x=>match wantL k x.2 with
  | .inl p=>.inl p
  | .inr l'=>.inr (x.1,l')
def cnT:List Tk→Sum Int (VT 1×List Tk)
 | []=>.inl 0
 | t :: r=>if t.w=2 then .inr (vH 5 false false nilB 0 (mkB t.s),r)
  else if t.w=3 then .inr (vH 3 false (parseF t.s).1 (parseF t.s).2.1 (parseF t.s).2.2.1 nilB,r)
  else if ownT t=[110,117,108,108] then .inr (vH 1 false false nilB 0 nilB,r)
  else if ownT t=[116,114,117,101] then .inr (vH 2 true false nilB 0 nilB,r)
  else if ownT t=[102,97,108,115,101] then .inr (vH 2 false false nilB 0 nilB,r)
  else .inl t.p
def plO (o:List UInt8):Option Int:=if o=[105,100] then some 1 else if o=[116,111,116,101,120,116] then some 8 else if o=[116,111,110,117,109] then some 9 else if o=[115,117,109] then some 10 else if o=[99,111,117,110,116] then some 11 else none
def gtT {m:Nat} (op:Int) (l:List Tk):Sum Int (ET (m + 1)×List Tk):=match nameL [] l with
 | .inl p=>.inl p
 | .inr s=>.inr ((⟨op,mkB s.1,[],1,vz⟩,[]),s.2)
def stpT {m:Nat} (M:List Tk→Sum Int (ET m×List Tk)):List Tk→Sum Int (ET (m + 1)×List Tk)
 | []=>.inl 0
 | t :: r =>
  if ownT t=[40] then (match clT M [41] r with
   | .inl p=>.inl p
   | .inr x=>.inr (upE m x.1,x.2))
  else if ownT t=[91] then (match clT M [93] r with
   | .inl p=>.inl p
   | .inr x=>.inr ((lf 4,[x.1]),x.2))
  else if ownT t=[46] then gtT 2 r
  else if ownT t=[116,97,103] then gtT 5 r
  else if ownT t=[123] then brT M 3 r
  else if ownT t=[99,97,115,101] then (match wantL [123] r with
   | .inl p=>.inl p
   | .inr l=>brT M 6 l)
  else if ownT t=[99,111,110,115,116] then (match cnT r with
   | .inl p=>.inl p
   | .inr v=>.inr ((⟨7,nilB,[],1,v.1⟩,[]),v.2))
  else match plO (ownT t) with
   | some op=>.inr ((lf op,[]),r)
   | none=>.inl t.p
def dp:Nat→Nat
 | 0=>0
 | f + 1=>dp f + 2
def stp:(f:Nat)→List Tk→Sum Int (ET (dp f)×List Tk)
 | 0,_=>.inl 0
 | f + 1,l=>stpT (m:=dp f + 1) (mpgT (stp f)) l
def Okl (l:List Tk):Prop:=∃ r e,l=r++[⟨0,[],e⟩]∧∀ t∈r,t.s.length≤70000
theorem Okl.tail {t:Tk} {l:List Tk} (h:Okl (t :: l)) (hw:¬ t.w=0):Okl l:=by
 obtain ⟨r,e,h,hs⟩:=h
 cases r with
 | nil=>simp only [List.nil_append,List.cons.injEq] at h;rw [h.1] at hw;exact absurd rfl hw
 | cons a r=>simp only [List.cons_append,List.cons.injEq] at h;exact ⟨r,e,h.2,fun t ht=>hs t (List.mem_cons_of_mem _ ht)⟩
theorem Okl.short {t:Tk} {l:List Tk} (h:Okl (t :: l)):t.s.length≤70000:=by
 obtain ⟨r,e,h,hs⟩:=h
 cases r with
 | nil=>simp only [List.nil_append,List.cons.injEq] at h;rw [h.1];simp
 | cons a r=>simp only [List.cons_append,List.cons.injEq] at h;rw [h.1];exact hs a (by simp)
theorem Okl.cons {l:List Tk} (h:Okl l):∃ t r,l=t :: r:=by
 obtain ⟨r,e,h,_⟩:=h
 cases r with
 | nil=>exact ⟨_,_,h⟩
 | cons a r=>exact ⟨_,_,h⟩
def Nx (l l':List Tk):Prop:=Okl l'∧l'.length<l.length
theorem own_w {t:Tk} (h:ownT t≠[]):¬ t.w=0:=by
 intro e;apply h;simp [ownT,e]
theorem has_nx {m:List UInt8} {l:List Tk} (h:Okl l) (hm:m≠[]):((hasL m l).1=true→Nx l (hasL m l).2)∧((hasL m l).1=false→(hasL m l).2=l):=by
 obtain ⟨t,r,rfl⟩:=h.cons
 simp only [hasL,hasT]
 by_cases e:ownT t=m
 ·simp only [e,if_true]
  exact ⟨fun _=>⟨h.tail (own_w (by rw [e];exact hm)),by simp⟩,fun h=>by cases h⟩
 ·simp [e]
theorem want_nx {m:List UInt8} {l l':List Tk} (h:Okl l) (hm:m≠[]) (e:wantL m l=.inr l'):Nx l l':=by
 obtain ⟨t,r,rfl⟩:=h.cons
 simp only [wantL,wantT] at e
 by_cases k:ownT t=m
 ·simp only [k,if_true,Sum.inr.injEq] at e
  subst e
  exact ⟨h.tail (own_w (by rw [k];exact hm)),by simp⟩
 ·simp [k] at e
theorem name_nx {ns:List (List UInt8)} {l:List Tk} {x:List UInt8×List Tk} (h:Okl l) (e:nameL ns l=.inr x):Nx l x.2:=by
 obtain ⟨t,r,rfl⟩:=h.cons
 simp only [nameL,nameT] at e
 split at e
 ·rename_i k
  cases e
  exact ⟨h.tail (by rcases k.1 with k|k <;> rw [k] <;> decide),by simp⟩
 ·cases e
theorem Nx.trans {a b c:List Tk} (h:Nx a b) (k:Nx b c):Nx a c:=⟨k.1,by have:=h.2;have:=k.2;omega⟩
def Gd {α:Type} (S:List Tk→Sum Int (α×List Tk)):Prop:=∀ l x,Okl l→S l=.inr x→Nx l x.2
theorem more_nx {α:Type} {S:List Tk→Sum Int (α×List Tk)} (hS:Gd S):∀ (g:Nat) (acc:List α) (l:List Tk) (y:List α×List Tk),Okl l→moreT S g acc l=.inr y→Okl y.2∧y.2.length≤l.length
 | 0,_,_,_,_,e=>by cases e
 | g + 1,acc,l,y,h,e=>by
  have hn:=has_nx (m:=[59]) h (by simp)
  unfold moreT at e
  split at e
  ·rename_i k
   have n1:=hn.1 k
   split at e
   ·cases e
   ·rename_i x ex
    have n2:=hS _ _ n1.1 ex
    have:=more_nx hS g _ _ _ n2.1 e
    exact ⟨this.1,by have:=n1.2;have:=n2.2;omega⟩
  ·rename_i k
   cases e
   have k':(hasL [59] l).1=false:=by simpa using k
   simp only [hn.2 k']
   exact ⟨h,Nat.le_refl _⟩
theorem mpg_nx {m:Nat} {S:List Tk→Sum Int (ET m×List Tk)} (hS:Gd S):Gd (mpgT S):=by
 intro l x h e
 unfold mpgT at e
 split at e
 ·cases e
 ·rename_i y ey
  have n1:=hS _ _ h ey
  split at e
  ·cases e
  ·rename_i z ez
   cases e
   have n2:=more_nx hS _ _ _ _ n1.1 ez
   exact ⟨n2.1,by have:=n1.2;have:=n2.2;simp only;omega⟩
theorem nm_nx {α:Type} {m:List UInt8} (hm:m≠[]) {I:List Tk→Sum Int (α×List Tk)} (hI:Gd I):∀ (g:Nat) (ns:List (List UInt8)) (xs:List α) (l:List Tk) (y:List (List UInt8)×List α×List Tk),Okl l→nmT m I g ns xs l=.inr y→Nx l y.2.2
 | 0,_,_,_,_,_,e=>by cases e
 | g + 1,ns,xs,l,y,h,e=>by
  unfold nmT at e
  split at e
  ·cases e
  ·rename_i s es
   have n1:=name_nx h es
   split at e
   ·cases e
   ·rename_i l2 e2
    have n2:=want_nx n1.1 hm e2
    split at e
    ·cases e
    ·rename_i x ex
     have n3:=hI _ _ n2.1 ex
     have hn:=has_nx (m:=[125]) n3.1 (by simp)
     split at e
     ·rename_i k
      cases e
      exact ((n1.trans n2).trans n3).trans (hn.1 k)
     ·rename_i k
      have k':(hasL [125] x.2).1=false:=by simpa using k
      rw [hn.2 k'] at e
      split at e
      ·cases e
      ·rename_i l5 e5
       have n5:=want_nx n3.1 (by simp) e5
       exact (((n1.trans n2).trans n3).trans n5).trans (nm_nx hm hI g _ _ _ _ n5.1 e)
theorem named_nx {α:Type} {m:List UInt8} (hm:m≠[]) {I:List Tk→Sum Int (α×List Tk)} (hI:Gd I) {l:List Tk} {y:List (List UInt8)×List α×List Tk} (h:Okl l) (e:namedT m I l=.inr y):Nx l y.2.2:=by
 have hn:=has_nx (m:=[125]) h (by simp)
 unfold namedT at e
 split at e
 ·rename_i k
  cases e
  exact hn.1 k
 ·rename_i k
  have k':(hasL [125] l).1=false:=by simpa using k
  rw [hn.2 k'] at e
  exact nm_nx hm hI _ _ _ _ _ h e
theorem br_nx {m:Nat} {M:List Tk→Sum Int (ET m×List Tk)} (hM:Gd M) (op:Int):Gd (brT M op):=by
 intro l x h e
 unfold brT at e
 split at e
 ·cases e
 ·rename_i y ey
  cases e
  exact named_nx (by simp) hM h ey
theorem cl_nx {α:Type} {M:List Tk→Sum Int (α×List Tk)} (hM:Gd M) {k:List UInt8} (hk:k≠[]):Gd (clT M k):=by
 intro l x h e
 unfold clT at e
 split at e
 ·cases e
 ·rename_i y ey
  have n1:=hM _ _ h ey
  split at e
  ·cases e
  ·rename_i l' e'
   cases e
   exact n1.trans (want_nx n1.1 hk e')
theorem cn_nx:Gd cnT:=by
 intro l x h e
 obtain ⟨t,r,rfl⟩:=h.cons
 have hw:¬ t.w=0:=by
  intro h0
  simp [cnT,h0,ownT] at e
 simp only [cnT] at e
 repeat' split at e
 all_goals first|(cases e;exact ⟨h.tail hw,by simp⟩)|cases e
theorem gt_nx {m:Nat} (op:Int):Gd (gtT (m:=m) op):=by
 intro l x h e
 unfold gtT at e
 split at e
 ·cases e
 ·rename_i s es
  cases e
  exact name_nx h es
theorem Nx.from {t:Tk} {r l:List Tk} (h:Nx r l):Nx (t :: r) l:=⟨h.1,by have:=h.2;simp;omega⟩
theorem stpT_nx {m:Nat} {M:List Tk→Sum Int (ET m×List Tk)} (hM:Gd M):Gd (stpT M):=by
 intro l x h e
 obtain ⟨t,r,rfl⟩:=h.cons
 have hw:¬ t.w=0:=by
  intro h0
  simp [stpT,h0,ownT,plO] at e
 have hr:=h.tail hw
 simp only [stpT] at e
 split at e
 ·split at e
  ·cases e
  ·rename_i y ey
   cases e
   exact (cl_nx hM (by simp) _ _ hr ey).from
 ·split at e
  ·split at e
   ·cases e
   ·rename_i y ey
    cases e
    exact (cl_nx hM (by simp) _ _ hr ey).from
  ·split at e
   ·exact (gt_nx 2 _ _ hr e).from
   ·split at e
    ·exact (gt_nx 5 _ _ hr e).from
    ·split at e
     ·exact (br_nx hM 3 _ _ hr e).from
     ·split at e
      ·split at e
       ·cases e
       ·rename_i l1 e1
        have n1:=want_nx hr (by simp) e1
        exact (n1.trans (br_nx hM 6 _ _ n1.1 e)).from
      ·split at e
       ·split at e
        ·cases e
        ·rename_i v ev
         cases e
         exact (cn_nx _ _ hr ev).from
       ·split at e
        ·cases e
         exact ⟨hr,by simp⟩
        ·cases e
theorem stp_nx:∀ f,Gd (stp f)
 | 0=>fun _ _ _ e=>by cases e
 | f + 1=>stpT_nx (mpg_nx (stp_nx f))
end Lx
end Go.Proofs.YtgicnopppgnjjaaGreatDoor
