/- Merged by program: HeCheck, HfCheck. -/
import Derived.Test.YtcnfchblfcfimaaGreatDoorZb19
set_option linter.unusedSimpArgs false
set_option linter.unusedVariables false
namespace Go.Proofs.YtcnfchblfcfimaaGreatDoor
open Go.RowKit Go.Maps
def TFil (h:Th) (m:Nat):Prop:=(h.kind=9∧h.names.length=0∧m=1)∨((h.kind=10∨h.kind=11)∧h.names.length=m∧Nms h.names)∨(1≤h.kind∧h.kind≤8∧h.names.length=0∧m=0)
def IsT:(n:Nat)→TT n→Prop
 | 0,_=>False
 | n + 1,x=>TFil x.1 x.2.length∧∀ y∈x.2,IsT n y
set_option maxHeartbeats 1000000 in
set_option maxRecDepth 100000 in
theorem tisFilled_any (n:Nat) (h:Th) (l:List (TT n)) (ns ls:Value) (w:World) (hr:RT (n + 1) w (h,l) ns ls) (hz:TSz (n + 1) (h,l)) (g:Ut.Gu w) (gt:Gt w) :
  Calls Tryz.prog 146 #[.agg (tvs h ns ls)] w fun e w'=>TB (TFil h l.length) w e w':=by
 obtain ⟨al,cl,rfl,hc1,hc2⟩:=hr.len
 obtain ⟨an,cn,rfl,hn1,hn2⟩:=hr.1.len
 have ml:maxLen=9223372036854775807:=rfl
 simp only at hc1 hc2 hn1 hn2
 obtain ⟨z3,z4,z5⟩:=hz
 simp only at z3 z4
 have hN:=hide (fun W (hb:Below w.heap.size w W)=>tareNames_any (.slice an h.names.length cn) h.names W (hr.1.below hb) (g.below hb) ⟨z3,z4⟩)
 have hP:=hide (fun W (hb:Below w.heap.size w W)=>plain_any h.kind W (gt.below hb))
 have hb0:Hid (∀ o,Below w.heap.size w (w.alloc o)):=fun o=>below_al (Below.refl _ _)
 have hB0:=hide (tx_new w h (.slice an h.names.length cn) (.slice al l.length cl))
 clear hr g z4 z5 gt
 show Calls _ _ #[.agg #[.int .i64 h.kind,.slice an h.names.length cn,.slice al l.length cl]] _ _
 by_cases k9:h.kind=9
 ·rw [k9]
  by_cases hn0:(h.names.length:Int)=0
  ·by_cases hl1:(l.length:Int)=1
   ·have hx:Hid (TFil h l.length):=Or.inl ⟨k9,by omega,by omega⟩
    go_enter Tryz.func146, Tryz.ntmps146
    go_wp2_with fail
    go_ret
    exact TB.yes hx.out (hb0.out _)
   ·have hx:Hid (¬ TFil h l.length):=by
     rintro (⟨_,_,q⟩|⟨q,_⟩|⟨_,q,_⟩) <;> omega
    have qe:((l.length:Int)==1)=false:=beq_eq_false_iff_ne.2 hl1
    go_enter Tryz.func146, Tryz.ntmps146
    go_wp2_with fail
    go_ret
    exact TB.no hx.out (hb0.out _)
  ·have hx:Hid (¬ TFil h l.length):=by
    rintro (⟨_,q,_⟩|⟨q,_⟩|⟨_,q,_⟩) <;> omega
   have qe:((h.names.length:Int)==0)=false:=beq_eq_false_iff_ne.2 hn0
   go_enter Tryz.func146, Tryz.ntmps146
   go_wp2_with fail
   go_ret
   exact TB.no hx.out (hb0.out _)
 have key:∀ kk:Int,(kk=10∨kk=11)→h.kind=kk→Calls Tryz.prog 146 #[.agg #[.int .i64 kk,.slice an h.names.length cn,.slice al l.length cl]] w fun e w'=>TB (TFil h l.length) w e w':=by
  intro kk hkk hk
  have hB0:=hide (tx_new w {h with kind:=kk} (.slice an h.names.length cn) (.slice al l.length cl))
  by_cases hlen:(h.names.length:Int)=(l.length:Int)
  ·have hl':h.names.length=l.length:=by omega
   have hx:=hide (show TFil h l.length↔Nms h.names by
    constructor
    ·rintro (⟨q,_⟩|⟨_,_,q⟩|⟨_,q,_⟩)
     ·omega
     ·exact q
     ·omega
    ·exact fun q=>Or.inr (Or.inl ⟨by omega,hl',q⟩))
   have hN:=hide (fun o=>hN.out (w.alloc o) (hb0.out o))
   obtain ⟨b,hb⟩:=tells (Nms h.names)
   have hN:=hide (fun o=>Calls.tb (hN.out o) hb)
   have hb:=hide hb
   rw [hl'] at hN ⊢
   clear hlen hl' hk
   rcases hkk with rfl|rfl
   all_goals
    cases b
    ·go_enter Tryz.func146, Tryz.ntmps146
     go_wp2_with (go_at_call 172;refine (hN.out _).mono ?_;rintro e w1 ⟨rfl,hb1⟩)
     go_ret
     exact TB.no (fun q=>by have:=hb.out.2 (hx.out.1 q);cases this) (below_then (hb0.out _) hb1)
    ·go_enter Tryz.func146, Tryz.ntmps146
     go_wp2_with (go_at_call 172;refine (hN.out _).mono ?_;rintro e w1 ⟨rfl,hb1⟩)
     go_ret
     exact TB.yes (hx.out.2 (hb.out.1 (by simp))) (below_then (hb0.out _) hb1)
  ·have hx:Hid (¬ TFil h l.length):=by
    rintro (⟨q,_⟩|⟨_,q,_⟩|⟨_,q,_⟩) <;> omega
   clear hk
   rcases hkk with rfl|rfl
   all_goals
    go_enter Tryz.func146, Tryz.ntmps146
    go_wp2_with fail
    go_ret
    exact TB.no hx.out (hb0.out _)
 by_cases k10:h.kind=10
 ·rw [k10];exact key 10 (Or.inl rfl) k10
 by_cases k11:h.kind=11
 ·rw [k11];exact key 11 (Or.inr rfl) k11
 clear key
 by_cases hk:1≤h.kind∧h.kind≤8
 ·have hP:Hid (∀ o,Calls Tryz.prog 173 #[.int .i64 h.kind] (w.alloc o) fun e w'=>e=.returned (.tuple #[.agg #[.int .i64 h.kind,.int .i64 (pk h.kind)],.bool true])∧Below (w.alloc o).heap.size (w.alloc o) w'):=fun o=>by
   have:=hP.out (w.alloc o) (hb0.out o)
   unfold plR at this
   rw [if_pos hk] at this
   exact this
  have hB0:Hid (∀ w1,Below (w.alloc (.cells (tvs h (.slice an h.names.length cn) (.slice al l.length cl)) 48)).heap.size (w.alloc (.cells (tvs h (.slice an h.names.length cn) (.slice al l.length cl)) 48)) w1→Tx w1 w.heap.size h (.slice an h.names.length cn) (.slice al l.length cl)):=fun w1 hb=>hB0.out.below hb
  by_cases hn0:(h.names.length:Int)=0
  ·by_cases hl1:(l.length:Int)=0
   ·have hx:Hid (TFil h l.length):=Or.inr (Or.inr ⟨hk.1,hk.2,by omega,by omega⟩)
    go_enter Tryz.func146, Tryz.ntmps146
    go_wp2_with (go_at_call 173;refine (hP.out _).mono ?_;rintro e w1 ⟨rfl,hb1⟩;have c1:=fun o=>((hB0.out w1 hb1).below (below_al (o:=o) (Below.refl _ _))).cells.2.1;have c2:=fun o=>((hB0.out w1 hb1).below (below_al (o:=o) (Below.refl _ _))).cells.2.2)
    go_ret
    exact TB.yes hx.out (below_al (below_then (hb0.out _) hb1))
   ·have hx:Hid (¬ TFil h l.length):=by
     rintro (⟨q,_⟩|⟨q,_⟩|⟨_,_,_,q⟩) <;> omega
    have qe:((l.length:Int)==0)=false:=beq_eq_false_iff_ne.2 hl1
    go_enter Tryz.func146, Tryz.ntmps146
    go_wp2_with (go_at_call 173;refine (hP.out _).mono ?_;rintro e w1 ⟨rfl,hb1⟩;have c1:=fun o=>((hB0.out w1 hb1).below (below_al (o:=o) (Below.refl _ _))).cells.2.1;have c2:=fun o=>((hB0.out w1 hb1).below (below_al (o:=o) (Below.refl _ _))).cells.2.2)
    go_ret
    exact TB.no hx.out (below_al (below_then (hb0.out _) hb1))
  ·have hx:Hid (¬ TFil h l.length):=by
    rintro (⟨q,_⟩|⟨q,_⟩|⟨_,_,q,_⟩) <;> omega
   have qe:((h.names.length:Int)==0)=false:=beq_eq_false_iff_ne.2 hn0
   go_enter Tryz.func146, Tryz.ntmps146
   go_wp2_with (go_at_call 173;refine (hP.out _).mono ?_;rintro e w1 ⟨rfl,hb1⟩;have c1:=fun o=>((hB0.out w1 hb1).below (below_al (o:=o) (Below.refl _ _))).cells.2.1;have c2:=fun o=>((hB0.out w1 hb1).below (below_al (o:=o) (Below.refl _ _))).cells.2.2)
   go_ret
   exact TB.no hx.out (below_al (below_then (hb0.out _) hb1))
 ·have hP:Hid (∀ o,Calls Tryz.prog 173 #[.int .i64 h.kind] (w.alloc o) fun e w'=>e=.returned (.tuple #[.agg #[.int .i64 0,.int .i64 0],.bool false])∧Below (w.alloc o).heap.size (w.alloc o) w'):=fun o=>by
   have:=hP.out (w.alloc o) (hb0.out o)
   unfold plR at this
   rw [if_neg hk] at this
   exact this
  have hx:Hid (¬ TFil h l.length):=by
   rintro (⟨q,_⟩|⟨q,_⟩|⟨q1,q2,_⟩) <;> omega
  go_enter Tryz.func146, Tryz.ntmps146
  go_wp2_with (go_at_call 173;refine (hP.out _).mono ?_;rintro e w1 ⟨rfl,hb1⟩)
  go_ret
  exact TB.no hx.out (below_al (below_then (hb0.out _) hb1))
end Go.Proofs.YtcnfchblfcfimaaGreatDoor
namespace Go.Proofs.YtcnfchblfcfimaaGreatDoor
open Go.RowKit Go.Maps
set_option maxHeartbeats 1000000 in
set_option maxRecDepth 100000 in
theorem isType_any:∀ (n:Nat) (x:TT n) (ns ls:Value) (w:World),RT n w x ns ls→TSz n x→Ut.Gu w→Gt w →
  Calls Tryz.prog 98 #[.agg (tvs (thd n x) ns ls)] w fun e w'=>TB (IsT n x) w e w':=by
 intro n
 induction n with
 | zero=>intro x;exact Empty.elim x
 | succ n ih =>
  intro x ns ls w hr hz g gt
  obtain ⟨h,l⟩:=x
  obtain ⟨al,cl,rfl,hc1,hc2⟩:=hr.len
  obtain ⟨an,cn,rfl,hn1,hn2⟩:=hr.1.len
  obtain ⟨b1,hb1⟩:=tells (TFil h l.length)
  have hF:=hide (fun o=>Calls.tb (tisFilled_any n h l (.slice an h.names.length cn) (.slice al l.length cl) (w.alloc o) (hr.below (below_al (Below.refl _ _))) hz (g.below (below_al (Below.refl _ _))) (gt.below (below_al (Below.refl _ _)))) hb1)
  have hb1':=hide hb1
  have hr:=hide hr
  have hz:=hide hz
  have g:=hide g
  have gt:=hide gt
  have ih':=hide ih
  clear ih hb1
  simp only at hn1 hn2 hc1 hc2
  have ml:maxLen=9223372036854775807:=rfl
  have hb0:Hid (∀ o,Below w.heap.size w (w.alloc o)):=fun o=>below_al (Below.refl _ _)
  have hB0:=hide (tx_new w h (.slice an h.names.length cn) (.slice al l.length cl))
  show Calls _ _ #[.agg #[.int .i64 h.kind,.slice an h.names.length cn,.slice al l.length cl]] _ _
  cases b1
  ·go_enter Tryz.func98, Tryz.ntmps98
   go_wp2_with (go_at_call 146;refine (hF.out _).mono ?_;rintro e w1 ⟨rfl,hb1⟩)
   go_ret
   exact TB.no (fun q=>by have:=hb1'.out.2 q.1;cases this) (below_then (hb0.out _) hb1)
  ·go_enter Tryz.func98, Tryz.ntmps98
   go_wp2_with fail
   refine (hF.out _).mono ?_
   rintro e w1 ⟨rfl,hb1⟩
   have hw1:=hide (below_then (hb0.out _) hb1)
   obtain ⟨c0,c1,c2⟩:=(hB0.out.below hb1).cells
   go_wp2_with fail
   go_loopw [11] (fun i w'=>∃ k:Nat,i=.int .i64 k∧k≤l.length∧Hid ((∀ y∈l.take k,IsT n y)∧Below w.heap.size w w')) (fun i _=>l.length - (intOf i).toNat)
   case atStart=>exact ⟨0,rfl,Nat.zero_le _,(fun y hy=>by simp at hy),hw1.out⟩
   case round =>
    clear c0 c1 c2
    obtain ⟨k,rfl,hk,H⟩:=hrel
    by_cases hkl:k<l.length
    ·have hki:(k:Int)<(l.length:Int):=by omega
     have hk63:(k:Int)<9223372036854775807:=by omega
     obtain ⟨b,o,c,he,hbl,hlc,hcm,ns',ls',hrg,hrd⟩:=hr.out.at k hkl
     have he':=Value.slice.inj he
     obtain ⟨rfl,_,rfl⟩:=he'
     clear he
     obtain ⟨q0,q1,q2⟩:=range3 (rangeAt_below hrg H.out.2 hbl)
     have hrd':=hide (hrd.below H.out.2)
     obtain ⟨a1,m1,d1,a2,m2,d2,rfl,rfl⟩:=hrd.shape
     clear hrg hrd
     obtain ⟨bk,hbk⟩:=tells (IsT n l[k])
     have hcall:=hide (fun o=>Calls.tb (ih'.out l[k] (.slice a1 m1 d1) (.slice a2 m2 d2) (wr.alloc o) (hrd'.out.below (below_al (Below.refl _ _))) (hz.out.2.2 _ (List.getElem_mem _)) (g.out.below (below_al H.out.2)) (gt.out.below (below_al H.out.2))) hbk)
     have hbk':=hide hbk
     clear hbk
     cases bk
     ·go_wp2_with (go_at_call 98;refine (hcall.out _).mono ?_;rintro e w3 ⟨rfl,hb3⟩)
      go_ret
      exact TB.no (fun q=>by have:=hbk'.out.2 (q.2 _ (List.getElem_mem _));cases this) (below_then (below_al H.out.2) hb3)
     ·go_wp2_with (go_at_call 98;refine (hcall.out _).mono ?_;rintro e w3 ⟨rfl,hb3⟩)
      exact ⟨⟨k + 1,by go_num,by omega,mem_take_more hkl H.out.1 (hbk'.out.1 (by simp)),below_then (below_al H.out.2) hb3⟩,by simp [intOf];omega⟩
    ·have hki:¬ ((k:Int)<(l.length:Int)):=by omega
     have hE:=H.out.1
     rw [List.take_of_length_le (by omega)] at hE
     have hE':=hide hE
     clear hE
     go_wp2_with fail
     go_ret
     exact TB.yes ⟨hb1'.out.1 (by simp),hE'.out⟩ H.out.2
def TSht:(n:Nat)→TT n→Prop
 | 0,_=>False
 | n + 1,x=>x.1.names.length≤256∧(∀ s∈x.1.names,s.size≤64)∧∀ y∈x.2,TSht n y
set_option maxHeartbeats 1000000 in
set_option maxRecDepth 100000 in
theorem tisShort_any:∀ (n:Nat) (x:TT n) (ns ls:Value) (w:World),RT n w x ns ls→TSz n x →
  Calls Tryz.prog 99 #[.agg (tvs (thd n x) ns ls)] w fun e w'=>TB (TSht n x) w e w':=by
 intro n
 induction n with
 | zero=>intro x;exact Empty.elim x
 | succ n ih =>
  intro x ns ls w hr hz
  obtain ⟨h,l⟩:=x
  obtain ⟨al,cl,rfl,hc1,hc2⟩:=hr.len
  obtain ⟨an,cn,rfl,hn1,hn2⟩:=hr.1.len
  have hr:=hide hr
  have hz:=hide hz
  have ih':=hide ih
  clear ih
  simp only at hn1 hn2 hc1 hc2
  have ml:maxLen=9223372036854775807:=rfl
  have hb0:Hid (∀ o,Below w.heap.size w (w.alloc o)):=fun o=>below_al (Below.refl _ _)
  have hB0:=hide (tx_new w h (.slice an h.names.length cn) (.slice al l.length cl))
  show Calls _ _ #[.agg #[.int .i64 h.kind,.slice an h.names.length cn,.slice al l.length cl]] _ _
  by_cases h2:(256:Int)<(h.names.length:Int)
  ·have hx:Hid (¬ TSht (n + 1) (h,l)):=fun q=>by have:=q.1;simp only at this;omega
   go_enter Tryz.func99, Tryz.ntmps99
   go_wp2_with fail
   go_ret
   exact TB.no hx.out (hb0.out _)
  ·have h2':=hide h2
   go_enter Tryz.func99, Tryz.ntmps99
   go_wp2_with fail
   clear h2
   go_loopw [14] (fun i w'=>∃ k:Nat,i=.int .i64 k∧k≤h.names.length∧Hid ((∀ y∈h.names.take k,y.size≤64)∧Below w.heap.size w w'∧Tx w' w.heap.size h (.slice an h.names.length cn) (.slice al l.length cl))) (fun i _=>h.names.length - (intOf i).toNat)
   case atStart=>exact ⟨0,rfl,Nat.zero_le _,(fun y hy=>by simp at hy),hb0.out _,hB0.out⟩
   case round =>
    obtain ⟨k,rfl,hk,H⟩:=hrel
    obtain ⟨c0,c1,c2⟩:=H.out.2.2.cells
    by_cases hkl:k<h.names.length
    ·have hki:(k:Int)<(h.names.length:Int):=by omega
     have hk63:(k:Int)<9223372036854775807:=by omega
     obtain ⟨b,o,c,he,hbl,hlc,hcm,hcell⟩:=hr.out.1.at k hkl
     have he':=Value.slice.inj he
     obtain ⟨rfl,_,rfl⟩:=he'
     clear he
     have hcell:=(H.out.2.1.cell (p:=⟨b,o + k,none⟩) hbl).trans hcell
     obtain ⟨s,hs⟩:∃ s,Hid (h.names[k]=s):=⟨_,hide rfl⟩
     simp only at hcell
     rw [hs.out] at hcell
     by_cases h64:(64:Int)<(s.size:Int)
     ·have hx:Hid (¬ TSht (n + 1) (h,l)):=fun q=>by have:=q.2.1 _ (List.getElem_mem hkl);simp only [hs.out] at this;omega
      go_wp2_with fail
      go_ret
      exact TB.no hx.out H.out.2.1
     ·go_wp2_with fail
      exact ⟨⟨k + 1,by go_num,by omega,mem_take_more hkl H.out.1 (by rw [hs.out];omega),H.out.2⟩,by simp [intOf];omega⟩
    ·have hki:¬ ((k:Int)<(h.names.length:Int)):=by omega
     have hE:=H.out.1
     rw [List.take_of_length_le (by omega)] at hE
     have hE':=hide hE
     clear hE
     have hH:=hide H.out.2.1
     go_wp2_with fail
     go_loopw [25] (fun i w'=>∃ k:Nat,i=.int .i64 k∧k≤l.length∧Hid ((∀ y∈l.take k,TSht n y)∧Below w.heap.size w w')) (fun i _=>l.length - (intOf i).toNat)
     case atStart=>exact ⟨0,rfl,Nat.zero_le _,(fun y hy=>by simp at hy),hH.out⟩
     case round =>
      clear c0 c1 c2 H hki hk
      obtain ⟨k,rfl,hk,H⟩:=hrel
      by_cases hkl:k<l.length
      ·have hki:(k:Int)<(l.length:Int):=by omega
       have hk63:(k:Int)<9223372036854775807:=by omega
       obtain ⟨b,o,c,he,hbl,hlc,hcm,ns',ls',hrg,hrd⟩:=hr.out.at k hkl
       have he':=Value.slice.inj he
       obtain ⟨rfl,_,rfl⟩:=he'
       clear he
       obtain ⟨q0,q1,q2⟩:=range3 (rangeAt_below hrg H.out.2 hbl)
       have hrd':=hide (hrd.below H.out.2)
       obtain ⟨a1,m1,d1,a2,m2,d2,rfl,rfl⟩:=hrd.shape
       clear hrg hrd
       obtain ⟨bk,hbk⟩:=tells (TSht n l[k])
       have hcall:=hide (fun o=>Calls.tb (ih'.out l[k] (.slice a1 m1 d1) (.slice a2 m2 d2) (wr.alloc o) (hrd'.out.below (below_al (Below.refl _ _))) (hz.out.2.2 _ (List.getElem_mem _))) hbk)
       have hbk':=hide hbk
       clear hbk
       cases bk
       ·go_wp2_with (go_at_call 99;refine (hcall.out _).mono ?_;rintro e w3 ⟨rfl,hb3⟩)
        go_ret
        exact TB.no (fun q=>by have:=hbk'.out.2 (q.2.2 _ (List.getElem_mem _));cases this) (below_then (below_al H.out.2) hb3)
       ·go_wp2_with (go_at_call 99;refine (hcall.out _).mono ?_;rintro e w3 ⟨rfl,hb3⟩)
        exact ⟨⟨k + 1,by go_num,by omega,mem_take_more hkl H.out.1 (hbk'.out.1 (by simp)),below_then (below_al H.out.2) hb3⟩,by simp [intOf];omega⟩
      ·have hki:¬ ((k:Int)<(l.length:Int)):=by omega
       have hF:=H.out.1
       rw [List.take_of_length_le (by omega)] at hF
       have hF':=hide hF
       clear hF
       go_wp2_with fail
       go_ret
       exact TB.yes ⟨by have:=h2'.out;simp only;omega,hE'.out,hF'.out⟩ H.out.2
def TWin (n:Nat) (x:TT n):Prop:=TSht n x∧tdep n x≤16∧tsiz n x≤4096
def TChk (n:Nat) (x:TT n) (e:Int):Prop:=(e=110∧¬ IsT n x)∨(e=2∧IsT n x∧¬ TWin n x)∨(e=0∧IsT n x∧TWin n x)
structure TRd (n:Nat) (w:World) (x:TT n) (ns ls:Value):Prop where
 rd:RT n w x ns ls
 sz:TSz n x
 le:tsiz n x≤200000
set_option maxHeartbeats 1000000 in
set_option maxRecDepth 100000 in
theorem tcheck_any (n:Nat) (x:TT n) (ns ls:Value) (w:World) (hr:TRd n w x ns ls) (g:Ut.Gu w) (gt:Gt w) (E:Int) (hE:TChk n x E) :
  Calls Tryz.prog 52 #[.agg (tvs (thd n x) ns ls)] w fun e w'=>e=.returned (.int .i64 E)∧Below w.heap.size w w':=by
 obtain ⟨a1,m1,d1,a2,m2,d2,rfl,rfl⟩:=hr.rd.shape
 obtain ⟨h,hh⟩:∃ h,thd n x=h:=⟨_,rfl⟩
 obtain ⟨b1,hb1⟩:=tells (IsT n x)
 obtain ⟨b2,hb2⟩:=tells (TSht n x)
 have hV:=hide (fun o=>Calls.tb (isType_any n x (.slice a1 m1 d1) (.slice a2 m2 d2) (w.alloc o) (hr.rd.below (below_al (Below.refl _ _))) hr.sz (g.below (below_al (Below.refl _ _))) (gt.below (below_al (Below.refl _ _)))) hb1)
 have hS:=hide (fun W (hb:Below w.heap.size w W)=>Calls.tb (tisShort_any n x (.slice a1 m1 d1) (.slice a2 m2 d2) W (hr.rd.below hb) hr.sz) hb2)
 have hD:=hide (fun W (hb:Below w.heap.size w W)=>tdepth_any n x (.slice a1 m1 d1) (.slice a2 m2 d2) W (hr.rd.below hb) hr.le)
 have hZ:=hide (fun W (hb:Below w.heap.size w W)=>tsize_any n x (.slice a1 m1 d1) (.slice a2 m2 d2) W (hr.rd.below hb) hr.le)
 have hb0:Hid (∀ o,Below w.heap.size w (w.alloc o)):=fun o=>below_al (Below.refl _ _)
 obtain ⟨D,hDD⟩:∃ D,tdep n x=D:=⟨_,rfl⟩
 obtain ⟨Z,hZZ⟩:∃ Z,tsiz n x=Z:=⟨_,rfl⟩
 have hE':=hide (show (E=110∧b1=false)∨(E=2∧b1=true∧¬ (b2=true∧D≤16∧Z≤4096))∨(E=0∧b1=true∧b2=true∧D≤16∧Z≤4096) by
  unfold TChk TWin at hE
  rw [hDD,hZZ,←hb1,←hb2] at hE
  simpa using hE)
 rw [hh] at hV hS hD hZ ⊢
 rw [hDD] at hD
 rw [hZZ] at hZ
 have hB0:=hide (tx_new w h (.slice a1 m1 d1) (.slice a2 m2 d2))
 clear hr g gt hh hDD hZZ hE hb1 hb2
 show Calls _ _ #[.agg #[.int .i64 h.kind,.slice a1 m1 d1,.slice a2 m2 d2]] _ _
 cases b1
 ·have e0:E=110:=by rcases hE'.out with ⟨q,_⟩|⟨_,q,_⟩|⟨_,q,_⟩;exact q;cases q;cases q
  subst e0
  go_enter Tryz.func52, Tryz.ntmps52
  go_wp2_with (go_at_call 98;refine (hV.out _).mono ?_;rintro e w1 ⟨rfl,hb1⟩)
  go_ret
  exact ⟨rfl,below_then (hb0.out _) hb1⟩
 ·have hE2:=hide (show (E=2∧¬ (b2=true∧D≤16∧Z≤4096))∨(E=0∧b2=true∧D≤16∧Z≤4096) by
   rcases hE'.out with ⟨_,q⟩|⟨q,_,r⟩|⟨q,_,r⟩
   ·cases q
   ·exact Or.inl ⟨q,r⟩
   ·exact Or.inr ⟨q,r⟩)
  clear hE'
  go_enter Tryz.func52, Tryz.ntmps52
  go_wp2_with fail
  refine (hV.out _).mono ?_
  rintro e w1 ⟨rfl,hb1⟩
  have hw1:=hide (below_then (hb0.out _) hb1)
  have hB1:=hide (hB0.out.below hb1)
  obtain ⟨c0,c1,c2⟩:=hB1.out.cells
  have hS1:=hide (hS.out w1 hw1.out)
  cases b2
  ·have e0:E=2:=by rcases hE2.out with ⟨q,_⟩|⟨_,q,_⟩;exact q;cases q
   subst e0
   go_wp2_with (go_at_call 99;refine hS1.out.mono ?_;rintro e w2 ⟨rfl,hb2⟩)
   go_ret
   exact ⟨rfl,below_then hw1.out hb2⟩
  ·have hE3:=hide (show (E=2∧¬ (D≤16∧Z≤4096))∨(E=0∧D≤16∧Z≤4096) by
    rcases hE2.out with ⟨q,r⟩|⟨q,_,r⟩
    ·exact Or.inl ⟨q,fun s=>r ⟨rfl,s⟩⟩
    ·exact Or.inr ⟨q,r⟩)
   clear hE2
   go_wp2_with fail
   refine hS1.out.mono ?_
   rintro e w2 ⟨rfl,hb2⟩
   have hw2:=hide (below_then hw1.out hb2)
   have hB2:=hide (hB1.out.below hb2)
   clear c0 c1 c2
   obtain ⟨c0,c1,c2⟩:=hB2.out.cells
   have hD1:=hide (hD.out w2 hw2.out)
   by_cases hd:(16:Int)<(D:Int)
   ·have e0:E=2:=by rcases hE3.out with ⟨q,_⟩|⟨_,q,_⟩;exact q;omega
    subst e0
    go_wp2_with (go_at_call 100;refine hD1.out.mono ?_;rintro e w3 ⟨rfl,hb3⟩)
    go_ret
    exact ⟨rfl,below_then hw2.out hb3⟩
   ·go_wp2_with fail
    refine hD1.out.mono ?_
    rintro e w3 ⟨rfl,hb3⟩
    have hw3:=hide (below_then hw2.out hb3)
    have hB3:=hide (hB2.out.below hb3)
    clear c0 c1 c2
    obtain ⟨c0,c1,c2⟩:=hB3.out.cells
    have hZ1:=hide (hZ.out w3 hw3.out)
    by_cases hz:(4096:Int)<(Z:Int)
    ·have e0:E=2:=by rcases hE3.out with ⟨q,_⟩|⟨_,_,q⟩;exact q;omega
     subst e0
     go_wp2_with (go_at_call 101;refine hZ1.out.mono ?_;rintro e w4 ⟨rfl,hb4⟩)
     go_ret
     exact ⟨rfl,below_then hw3.out hb4⟩
    ·have e0:E=0:=by
      rcases hE3.out with ⟨_,q⟩|⟨q,_⟩
      ·exact absurd ⟨by omega,by omega⟩ q
      ·exact q
     subst e0
     go_wp2_with (go_at_call 101;refine hZ1.out.mono ?_;rintro e w4 ⟨rfl,hb4⟩)
     go_ret
     exact ⟨rfl,below_then hw3.out hb4⟩
end Go.Proofs.YtcnfchblfcfimaaGreatDoor
