/- Merged by program: YcChar, YdChars. -/
import Derived.Test.YthodiandebahdaaGreatDoorZq23
namespace Go.Proofs.YthodiandebahdaaGreatDoor
open Go.RowKit
set_option linter.unusedSimpArgs false
set_option linter.unusedVariables false
set_option maxHeartbeats 8000000
set_option maxRecDepth 100000 in
theorem xdig_any (a s b:ByteArray)(ha:a.size≤281474976710656)(hs:s.size≤281474976710656)(hb:b.size≤281474976710656)(A:List UInt8)(W:World)(i:Nat)(h:WB W i A)(hA:A.length≤65536) :
  Calls Tryz.prog 43 #[.agg #[.pointer (some ⟨i,0,none⟩)],.string a,.string s,.string b] W fun e w'=>WO i A (bl a++(bl s++bl b)) W e w':=by
 have h':=hide h
 have hlt:=h.lt
 have X0:=hide (fun o=>h.below (below_al (o:=o) (Below.refl W.heap.size W)))
 have N0:Hid (∀ o,NB W.heap.size (W.alloc o) i):=fun o=>NB.new h
 have F0:Hid (∀ o,FW i W (W.alloc o)):=fun o=>FW.al (FW.refl _ _) hlt
 have R0:=hide (Rx.new W i)
 have hA':=hide hA
 have ha':=hide ha
 have hs':=hide hs
 have hb':=hide hb
 clear h hA ha hs hb
 go_enter Tryz.func43, Tryz.ntmps43
 go_wp2_with (go_at_call 40;refine Sto.out ?_)
 refine Sto.mk ((put_any a _ _ i (X0.out _) hA'.out ha'.out).mono ?_)
 rintro e w1 hw
 replace hw:WO i A (bl a) _ e w1:=hw
 have kp:=hide (hw.1.kept (N0.out _))
 have hw2:=WO.step (A:=A) (T:=[]) (F0.out _) (by simpa using hw)
 clear hw
 rcases hw2 with ⟨rfl,g1,g2,g3⟩|⟨rfl,g1,g2⟩
 ·have F1:=hide g1
  have X1:=hide g2
  have L1:=hide g3
  have R1:=hide (R0.out.of kp.out.1)
  have N1:=hide kp.out.2
  clear g1 g2 g3 kp
  have cp:=R1.out.cell
  go_wp2_with (go_at_call 40;refine Sto.out ?_)
  refine Sto.mk ((put_any s _ w1 i X1.out L1.out hs'.out).mono ?_)
  rintro e w2 hw
  replace hw:WO i (A++([]++(bl a))) (bl s) w1 e w2:=hw
  have kp:=hide (hw.1.kept N1.out)
  have hw2:=WO.step (A:=A) (T:=[]++(bl a)) F1.out (by simpa using hw)
  clear hw
  rcases hw2 with ⟨rfl,g1,g2,g3⟩|⟨rfl,g1,g2⟩
  ·have F2:=hide g1
   have X2:=hide g2
   have L2:=hide g3
   have R2:=hide (R1.out.of kp.out.1)
   have N2:=hide kp.out.2
   clear g1 g2 g3 kp
   have cp:=R2.out.cell
   go_wp2_with (go_at_call 40;refine Sto.out ?_)
   refine Sto.mk ((put_any b _ w2 i X2.out L2.out hb'.out).mono ?_)
   rintro e w3 hw
   replace hw:WO i (A++([]++(bl a)++(bl s))) (bl b) w2 e w3:=hw
   have hw2:=WO.step (A:=A) (T:=[]++(bl a)++(bl s)) F2.out (by simpa using hw)
   clear hw
   rcases hw2 with ⟨rfl,g1,g2,g3⟩|⟨rfl,g1,g2⟩
   ·have K:Hid (WO i A (bl a++(bl s++bl b)) W (.returned (.tuple #[])) w3):=⟨g1,Or.inl ⟨by simpa using g3,rfl,by simpa using g2⟩⟩
    clear g1 g2 g3
    go_wp2_with fail
    go_end0
    exact K.out
   ·have K:=hide (WO.pre (A:=A) (T:=[]++(bl a)++(bl s)++(bl b)) (U:=bl a++(bl s++bl b)) g1 (by simp) g2)
    clear g1 g2
    go_wp2_with fail
    refine ⟨rfl,?_⟩
    exact K.out
  ·have K:=hide (WO.pre (A:=A) (T:=[]++(bl a)++(bl s)) (U:=bl a++(bl s++bl b)) g1 (by simp) g2)
   clear g1 g2
   go_wp2_with fail
   refine ⟨rfl,?_⟩
   exact K.out
 ·have K:=hide (WO.pre (A:=A) (T:=[]++(bl a)) (U:=bl a++(bl s++bl b)) g1 (by simp) g2)
  clear g1 g2
  go_wp2_with fail
  refine ⟨rfl,?_⟩
  exact K.out
def xflg (b:Bool):List UInt8:=bif b then mTrue else mFalse
set_option maxRecDepth 100000 in
theorem xflag_true (A:List UInt8)(W:World)(i:Nat)(h:WB W i A)(hA:A.length≤65536) :
  Calls Tryz.prog 41 #[.agg #[.pointer (some ⟨i,0,none⟩)],.bool true] W fun e w'=>WO i A (xflg true) W e w':=by
 have h':=hide h
 have hlt:=h.lt
 have X0:=hide (fun o=>h.below (below_al (o:=o) (Below.refl W.heap.size W)))
 have N0:Hid (∀ o,NB W.heap.size (W.alloc o) i):=fun o=>NB.new h
 have F0:Hid (∀ o,FW i W (W.alloc o)):=fun o=>FW.al (FW.refl _ _) hlt
 have R0:=hide (Rx.new W i)
 have hA':=hide hA
 clear h hA
 go_enter Tryz.func41, Tryz.ntmps41
 go_wp2_with (go_at_call 40;refine Sto.out ?_)
 refine Sto.mk ((put_any ⟨#[60,116,114,117,101,47,62]⟩ _ _ i (X0.out _) hA'.out (by decide)).mono ?_)
 rintro e w1 hw
 replace hw:WO i A ([60,116,114,117,101,47,62]) _ e w1:=hw
 have hw2:=WO.step (A:=A) (T:=[]) (F0.out _) (by simpa using hw)
 clear hw
 rcases hw2 with ⟨rfl,g1,g2,g3⟩|⟨rfl,g1,g2⟩
 ·have K:Hid (WO i A ([60,116,114,117,101,47,62]) W (.returned (.tuple #[])) w1):=⟨g1,Or.inl ⟨by simpa using g3,rfl,by simpa using g2⟩⟩
  clear g1 g2 g3
  go_wp2_with fail
  go_end0
  exact K.out
 ·have K:=hide (WO.pre (A:=A) (T:=[]++([60,116,114,117,101,47,62])) (U:=[60,116,114,117,101,47,62]) g1 (by simp) g2)
  clear g1 g2
  go_wp2_with fail
  refine ⟨rfl,?_⟩
  exact K.out
set_option maxRecDepth 100000 in
theorem xflag_false (A:List UInt8)(W:World)(i:Nat)(h:WB W i A)(hA:A.length≤65536) :
  Calls Tryz.prog 41 #[.agg #[.pointer (some ⟨i,0,none⟩)],.bool false] W fun e w'=>WO i A (xflg false) W e w':=by
 have h':=hide h
 have hlt:=h.lt
 have X0:=hide (fun o=>h.below (below_al (o:=o) (Below.refl W.heap.size W)))
 have N0:Hid (∀ o,NB W.heap.size (W.alloc o) i):=fun o=>NB.new h
 have F0:Hid (∀ o,FW i W (W.alloc o)):=fun o=>FW.al (FW.refl _ _) hlt
 have R0:=hide (Rx.new W i)
 have hA':=hide hA
 clear h hA
 go_enter Tryz.func41, Tryz.ntmps41
 go_wp2_with (go_at_call 40;refine Sto.out ?_)
 refine Sto.mk ((put_any ⟨#[60,102,97,108,115,101,47,62]⟩ _ _ i (X0.out _) hA'.out (by decide)).mono ?_)
 rintro e w1 hw
 replace hw:WO i A ([60,102,97,108,115,101,47,62]) _ e w1:=hw
 have hw2:=WO.step (A:=A) (T:=[]) (F0.out _) (by simpa using hw)
 clear hw
 rcases hw2 with ⟨rfl,g1,g2,g3⟩|⟨rfl,g1,g2⟩
 ·have K:Hid (WO i A ([60,102,97,108,115,101,47,62]) W (.returned (.tuple #[])) w1):=⟨g1,Or.inl ⟨by simpa using g3,rfl,by simpa using g2⟩⟩
  clear g1 g2 g3
  go_wp2_with fail
  go_end0
  exact K.out
 ·have K:=hide (WO.pre (A:=A) (T:=[]++([60,102,97,108,115,101,47,62])) (U:=[60,102,97,108,115,101,47,62]) g1 (by simp) g2)
  clear g1 g2
  go_wp2_with fail
  refine ⟨rfl,?_⟩
  exact K.out
theorem xflag_any (b:Bool)(A:List UInt8)(W:World)(i:Nat)(h:WB W i A)(hA:A.length≤65536) :
  Calls Tryz.prog 41 #[.agg #[.pointer (some ⟨i,0,none⟩)],.bool b] W fun e w'=>WO i A (xflg b) W e w':=by
 cases b
 ·exact xflag_false A W i h hA
 ·exact xflag_true A W i h hA
set_option maxRecDepth 100000 in
theorem xchr_60 (A:List UInt8)(W:World)(i:Nat)(h:WB W i A)(hA:A.length≤65536) :
  Calls Tryz.prog 75 #[.agg #[.pointer (some ⟨i,0,none⟩)],.string (mkB [60])] W fun e w'=>WO i A (xeB 60) W e w':=by
 have h':=hide h
 have hlt:=h.lt
 have X0:=hide (fun o=>h.below (below_al (o:=o) (Below.refl W.heap.size W)))
 have N0:Hid (∀ o,NB W.heap.size (W.alloc o) i):=fun o=>NB.new h
 have F0:Hid (∀ o,FW i W (W.alloc o)):=fun o=>FW.al (FW.refl _ _) hlt
 have R0:=hide (Rx.new W i)
 have hA':=hide hA
 clear h hA
 obtain ⟨S1,hS1⟩:∃ S1,mkB [60]=S1:=⟨_,rfl⟩
 have hT:S1.toList=[60]:=by rw [←hS1,ByteArray.toList_eq];rfl
 rw [hS1]
 clear hS1
 go_enter Tryz.func75, Tryz.ntmps75
 go_wp2_with (go_at_call 40;refine Sto.out ?_)
 refine Sto.mk ((put_any ⟨#[38,108,116,59]⟩ _ _ i (X0.out _) hA'.out (by decide)).mono ?_)
 rintro e w1 hw
 replace hw:WO i A ([38,108,116,59]) _ e w1:=hw
 have hw2:=WO.step (A:=A) (T:=[]) (F0.out _) (by simpa using hw)
 clear hw
 rcases hw2 with ⟨rfl,g1,g2,g3⟩|⟨rfl,g1,g2⟩
 ·have K:Hid (WO i A ([38,108,116,59]) W (.returned (.tuple #[])) w1):=⟨g1,Or.inl ⟨by simpa using g3,rfl,by simpa using g2⟩⟩
  clear g1 g2 g3
  go_wp2_with fail
  go_end0
  exact K.out
 ·have K:=hide (WO.pre (A:=A) (T:=[]++([38,108,116,59])) (U:=[38,108,116,59]) g1 (by simp) g2)
  clear g1 g2
  go_wp2_with fail
  refine ⟨rfl,?_⟩
  exact K.out
set_option maxRecDepth 100000 in
theorem xchr_38 (A:List UInt8)(W:World)(i:Nat)(h:WB W i A)(hA:A.length≤65536) :
  Calls Tryz.prog 75 #[.agg #[.pointer (some ⟨i,0,none⟩)],.string (mkB [38])] W fun e w'=>WO i A (xeB 38) W e w':=by
 have h':=hide h
 have hlt:=h.lt
 have X0:=hide (fun o=>h.below (below_al (o:=o) (Below.refl W.heap.size W)))
 have N0:Hid (∀ o,NB W.heap.size (W.alloc o) i):=fun o=>NB.new h
 have F0:Hid (∀ o,FW i W (W.alloc o)):=fun o=>FW.al (FW.refl _ _) hlt
 have R0:=hide (Rx.new W i)
 have hA':=hide hA
 clear h hA
 obtain ⟨S1,hS1⟩:∃ S1,mkB [38]=S1:=⟨_,rfl⟩
 have hT:S1.toList=[38]:=by rw [←hS1,ByteArray.toList_eq];rfl
 rw [hS1]
 clear hS1
 go_enter Tryz.func75, Tryz.ntmps75
 go_wp2_with (go_at_call 40;refine Sto.out ?_)
 refine Sto.mk ((put_any ⟨#[38,97,109,112,59]⟩ _ _ i (X0.out _) hA'.out (by decide)).mono ?_)
 rintro e w1 hw
 replace hw:WO i A ([38,97,109,112,59]) _ e w1:=hw
 have hw2:=WO.step (A:=A) (T:=[]) (F0.out _) (by simpa using hw)
 clear hw
 rcases hw2 with ⟨rfl,g1,g2,g3⟩|⟨rfl,g1,g2⟩
 ·have K:Hid (WO i A ([38,97,109,112,59]) W (.returned (.tuple #[])) w1):=⟨g1,Or.inl ⟨by simpa using g3,rfl,by simpa using g2⟩⟩
  clear g1 g2 g3
  go_wp2_with fail
  go_end0
  exact K.out
 ·have K:=hide (WO.pre (A:=A) (T:=[]++([38,97,109,112,59])) (U:=[38,97,109,112,59]) g1 (by simp) g2)
  clear g1 g2
  go_wp2_with fail
  refine ⟨rfl,?_⟩
  exact K.out
set_option maxRecDepth 100000 in
theorem xchr_34 (A:List UInt8)(W:World)(i:Nat)(h:WB W i A)(hA:A.length≤65536) :
  Calls Tryz.prog 75 #[.agg #[.pointer (some ⟨i,0,none⟩)],.string (mkB [34])] W fun e w'=>WO i A (xeB 34) W e w':=by
 have h':=hide h
 have hlt:=h.lt
 have X0:=hide (fun o=>h.below (below_al (o:=o) (Below.refl W.heap.size W)))
 have N0:Hid (∀ o,NB W.heap.size (W.alloc o) i):=fun o=>NB.new h
 have F0:Hid (∀ o,FW i W (W.alloc o)):=fun o=>FW.al (FW.refl _ _) hlt
 have R0:=hide (Rx.new W i)
 have hA':=hide hA
 clear h hA
 obtain ⟨S1,hS1⟩:∃ S1,mkB [34]=S1:=⟨_,rfl⟩
 have hT:S1.toList=[34]:=by rw [←hS1,ByteArray.toList_eq];rfl
 rw [hS1]
 clear hS1
 go_enter Tryz.func75, Tryz.ntmps75
 go_wp2_with (go_at_call 40;refine Sto.out ?_)
 refine Sto.mk ((put_any ⟨#[38,113,117,111,116,59]⟩ _ _ i (X0.out _) hA'.out (by decide)).mono ?_)
 rintro e w1 hw
 replace hw:WO i A ([38,113,117,111,116,59]) _ e w1:=hw
 have hw2:=WO.step (A:=A) (T:=[]) (F0.out _) (by simpa using hw)
 clear hw
 rcases hw2 with ⟨rfl,g1,g2,g3⟩|⟨rfl,g1,g2⟩
 ·have K:Hid (WO i A ([38,113,117,111,116,59]) W (.returned (.tuple #[])) w1):=⟨g1,Or.inl ⟨by simpa using g3,rfl,by simpa using g2⟩⟩
  clear g1 g2 g3
  go_wp2_with fail
  go_end0
  exact K.out
 ·have K:=hide (WO.pre (A:=A) (T:=[]++([38,113,117,111,116,59])) (U:=[38,113,117,111,116,59]) g1 (by simp) g2)
  clear g1 g2
  go_wp2_with fail
  refine ⟨rfl,?_⟩
  exact K.out
set_option maxRecDepth 100000 in
theorem xchr_62 (A:List UInt8)(W:World)(i:Nat)(h:WB W i A)(hA:A.length≤65536) :
  Calls Tryz.prog 75 #[.agg #[.pointer (some ⟨i,0,none⟩)],.string (mkB [62])] W fun e w'=>WO i A (xeB 62) W e w':=by
 have h':=hide h
 have hlt:=h.lt
 have X0:=hide (fun o=>h.below (below_al (o:=o) (Below.refl W.heap.size W)))
 have N0:Hid (∀ o,NB W.heap.size (W.alloc o) i):=fun o=>NB.new h
 have F0:Hid (∀ o,FW i W (W.alloc o)):=fun o=>FW.al (FW.refl _ _) hlt
 have R0:=hide (Rx.new W i)
 have hA':=hide hA
 clear h hA
 obtain ⟨S1,hS1⟩:∃ S1,mkB [62]=S1:=⟨_,rfl⟩
 have hT:S1.toList=[62]:=by rw [←hS1,ByteArray.toList_eq];rfl
 rw [hS1]
 clear hS1
 go_enter Tryz.func75, Tryz.ntmps75
 go_wp2_with (go_at_call 40;refine Sto.out ?_)
 refine Sto.mk ((put_any ⟨#[38,103,116,59]⟩ _ _ i (X0.out _) hA'.out (by decide)).mono ?_)
 rintro e w1 hw
 replace hw:WO i A ([38,103,116,59]) _ e w1:=hw
 have hw2:=WO.step (A:=A) (T:=[]) (F0.out _) (by simpa using hw)
 clear hw
 rcases hw2 with ⟨rfl,g1,g2,g3⟩|⟨rfl,g1,g2⟩
 ·have K:Hid (WO i A ([38,103,116,59]) W (.returned (.tuple #[])) w1):=⟨g1,Or.inl ⟨by simpa using g3,rfl,by simpa using g2⟩⟩
  clear g1 g2 g3
  go_wp2_with fail
  go_end0
  exact K.out
 ·have K:=hide (WO.pre (A:=A) (T:=[]++([38,103,116,59])) (U:=[38,103,116,59]) g1 (by simp) g2)
  clear g1 g2
  go_wp2_with fail
  refine ⟨rfl,?_⟩
  exact K.out
set_option maxRecDepth 100000 in
theorem xchr_lo (c:UInt8)(hn60:¬ c=60)(hn38:¬ c=38)(hn34:¬ c=34)(hn62:¬ c=62)(h32:c.toNat<32)(W:World)(gz:Gz W)(A:List UInt8)(i:Nat)(h:WB W i A)(hA:A.length≤65536) :
  Calls Tryz.prog 75 #[.agg #[.pointer (some ⟨i,0,none⟩)],.string (mkB [c])] W fun e w'=>WO i A (xeB c) W e w':=by
 have h':=hide h
 have hlt:=h.lt
 have X0:=hide (fun o=>h.below (below_al (o:=o) (Below.refl W.heap.size W)))
 have N0:Hid (∀ o,NB W.heap.size (W.alloc o) i):=fun o=>NB.new h
 have F0:Hid (∀ o,FW i W (W.alloc o)):=fun o=>FW.al (FW.refl _ _) hlt
 have R0:=hide (Rx.new W i)
 have hA':=hide hA
 have hE:=hide (show xeB c=[38,35,120]++(smH c.toNat++[59]) by unfold xeB;rw [if_neg hn60,if_neg hn38,if_neg hn34,if_neg hn62,if_pos h32])
 clear h hA
 obtain ⟨S1,hS1⟩:∃ S1,mkB [c]=S1:=⟨_,rfl⟩
 rw [hS1]
 have hS1':=hide hS1
 clear hS1
 have hT:S1.toList=[c]:=by rw [←hS1'.out,ByteArray.toList_eq];rfl
 have n60:¬ c=60:=hn60
 have m60:(c==60)=false:=by simpa using hn60
 have o60:([c]==([60]:List UInt8))=false:=by simpa using hn60
 have n38:¬ c=38:=hn38
 have m38:(c==38)=false:=by simpa using hn38
 have o38:([c]==([38]:List UInt8))=false:=by simpa using hn38
 have n34:¬ c=34:=hn34
 have m34:(c==34)=false:=by simpa using hn34
 have o34:([c]==([34]:List UInt8))=false:=by simpa using hn34
 have n62:¬ c=62:=hn62
 have m62:(c==62)=false:=by simpa using hn62
 have o62:([c]==([62]:List UInt8))=false:=by simpa using hn62
 have hlt32:Op.bytesLess [c] [32]=true:=by rw [bless];exact decide_eq_true h32
 have h32':=hide h32
 clear h32 hn60 hn38 hn34 hn62
 have hz1:0<S1.size:=by rw [←hS1'.out];show 0<1;omega
 have hzi:(0:Int)<(S1.size:Int):=by omega
 have hg0:S1[0]=c:=by simp only [←hS1'.out];rfl
 have hc32:(c.toNat:Int)<32:=by have:=h32'.out;omega
 have hcw:IntKind.i64.wrap (c.toNat:Int)=(c.toNat:Int):=by rw [IntKind.wrap_i64] <;> omega
 have fm:=hide (fun w (hb:Below W.heap.size W w)=>fmt16 c.toNat h32'.out w (gz.low hb gz.low8))
 clear gz
 obtain ⟨S3,hS3⟩:∃ S3,mkB (smH c.toNat)=S3:=⟨_,rfl⟩
 rw [hS3] at fm
 obtain ⟨S4,hS4⟩:∃ S4,mkB ([38,35,120]++smH c.toNat)=S4:=⟨_,rfl⟩
 obtain ⟨S2,hS2⟩:∃ S2,mkB ([38,35,120]++(smH c.toNat++[59]))=S2:=⟨_,rfl⟩
 have hsl:(smH c.toNat).length≤2:=by unfold smH;split <;> simp
 have hb2:=hide (show bl S2=[38,35,120]++(smH c.toNat++[59]) by rw [←hS2,bl_mkB])
 have hz2:=hide (show S2.size≤281474976710656 by rw [←bl_length,hb2.out];simp;omega)
 have hadd:∀ w,(Op.stringOp .add ⟨#[38,35,120]⟩ S3).run Tryz.prog w=.ok (.string S4) w:=fun w=>by
  have:(⟨#[38,35,120]⟩:ByteArray)++S3=S4:=by rw [←hS3,←hS4];apply ByteArray.ext;simp [mkB]
  exact jcat_run _ _ _ w this (by rw [←hS3,mkB_size];show 3+_≤_;omega)
 have hadd2:∀ w,(Op.stringOp .add S4 ⟨#[59]⟩).run Tryz.prog w=.ok (.string S2) w:=fun w=>by
  have:S4++(⟨#[59]⟩:ByteArray)=S2:=by rw [←hS4,←hS2];apply ByteArray.ext;simp [mkB]
  exact jcat_run _ _ _ w this (by rw [←hS4,mkB_size];simp;show _+1≤_;omega)
 clear hS2 hS3 hS4 hsl
 go_enter Tryz.func75, Tryz.ntmps75
 go_wp2_with fail
 go_region_with (first|(go_at_call 101;refine (fm.out _ (by repeat (first|exact Below.refl _ _|refine Below.drew ?_|refine below_al ?_))).mono ?_;rintro e w5 ⟨rfl,hb5⟩;have B5:Hid (Below W.heap.size W w5):=below_then (by repeat (first|exact Below.refl _ _|refine Below.drew ?_|refine below_al ?_)) hb5;have cp:=(R0.out.of (W1:=w5) (hb5.block _ (by simp))).cell;clear hb5)|(go_at_call 40;refine (put_any S2 A _ i (h'.out.below (below_then B5.out (by repeat (first|exact Below.refl _ _|refine Below.drew ?_|refine below_al ?_)))) hA'.out hz2.out).mono ?_;rintro e w2 hw;rw [hb2.out] at hw;have K:Hid (WO i A (xeB c) W e w2):=(by show WO _ _ _ _ _ _;rw [hE.out];exact WO.base1 (FW.of (below_then B5.out (by repeat (first|exact Below.refl _ _|refine Below.drew ?_|refine below_al ?_))) h'.out.lt) hw);rcases hw.two1 with rfl|rfl;rotate_left;(first|exact ⟨rfl,K.out⟩|(go_simp;exact ⟨rfl,K.out⟩)|(unfold Exit.inBlock;exact ⟨rfl,K.out⟩));clear hw))
 all_goals
  first|(go_wp2_with fail;go_end0;exact K.out)|(go_wp2_with fail;exact ⟨rfl,K.out⟩)
set_option maxRecDepth 100000 in
theorem xchr_hi (c:UInt8)(hn60:¬ c=60)(hn38:¬ c=38)(hn34:¬ c=34)(hn62:¬ c=62)(h32:¬ c.toNat<32)(W:World)(gz:Gz W)(A:List UInt8)(i:Nat)(h:WB W i A)(hA:A.length≤65536) :
  Calls Tryz.prog 75 #[.agg #[.pointer (some ⟨i,0,none⟩)],.string (mkB [c])] W fun e w'=>WO i A (xeB c) W e w':=by
 have h':=hide h
 have hlt:=h.lt
 have X0:=hide (fun o=>h.below (below_al (o:=o) (Below.refl W.heap.size W)))
 have N0:Hid (∀ o,NB W.heap.size (W.alloc o) i):=fun o=>NB.new h
 have F0:Hid (∀ o,FW i W (W.alloc o)):=fun o=>FW.al (FW.refl _ _) hlt
 have R0:=hide (Rx.new W i)
 have hA':=hide hA
 have hE:=hide (show xeB c=[c] by unfold xeB;rw [if_neg hn60,if_neg hn38,if_neg hn34,if_neg hn62,if_neg h32])
 clear h hA
 obtain ⟨S1,hS1⟩:∃ S1,mkB [c]=S1:=⟨_,rfl⟩
 rw [hS1]
 have hS1':=hide hS1
 clear hS1
 have hT:S1.toList=[c]:=by rw [←hS1'.out,ByteArray.toList_eq];rfl
 have n60:¬ c=60:=hn60
 have m60:(c==60)=false:=by simpa using hn60
 have o60:([c]==([60]:List UInt8))=false:=by simpa using hn60
 have n38:¬ c=38:=hn38
 have m38:(c==38)=false:=by simpa using hn38
 have o38:([c]==([38]:List UInt8))=false:=by simpa using hn38
 have n34:¬ c=34:=hn34
 have m34:(c==34)=false:=by simpa using hn34
 have o34:([c]==([34]:List UInt8))=false:=by simpa using hn34
 have n62:¬ c=62:=hn62
 have m62:(c==62)=false:=by simpa using hn62
 have o62:([c]==([62]:List UInt8))=false:=by simpa using hn62
 have hlt32:Op.bytesLess [c] [32]=false:=by rw [bless];exact decide_eq_false h32
 have h32':=hide h32
 clear h32 hn60 hn38 hn34 hn62
 have hb2:=hide (show bl S1=[c] by rw [←hS1'.out];rfl)
 have hz2:=hide (show S1.size≤281474976710656 by rw [←bl_length,hb2.out];simp)
 have PU:Hid (∀ o,Calls Tryz.prog 40 #[.pointer (some ⟨i,0,none⟩),.string S1] (W.alloc o) fun e w'=>WO i A [c] (W.alloc o) e w'):=fun o=>by
  have:=put_any S1 A (W.alloc o) i (X0.out o) hA'.out hz2.out
  rw [hb2.out] at this
  exact this
 go_enter Tryz.func75, Tryz.ntmps75
 go_wp2_with (go_at_call 40;refine Sto.out ?_)
 refine Sto.mk ((PU.out _).mono ?_)
 rintro e w1 hw
 replace hw:WO i A ([c]) _ e w1:=hw
 have hw2:=WO.step (A:=A) (T:=[]) (F0.out _) (by simpa using hw)
 clear hw
 rcases hw2 with ⟨rfl,g1,g2,g3⟩|⟨rfl,g1,g2⟩
 ·have K:Hid (WO i A ([c]) W (.returned (.tuple #[])) w1):=⟨g1,Or.inl ⟨by simpa using g3,rfl,by simpa using g2⟩⟩
  clear g1 g2 g3
  go_wp2_with fail
  go_end0
  rw [hE.out];exact K.out
 ·have K:=hide (WO.pre (A:=A) (T:=[]++([c])) (U:=[c]) g1 (by simp) g2)
  clear g1 g2
  go_wp2_with fail
  refine ⟨rfl,?_⟩
  rw [hE.out];exact K.out
theorem xchr_any (c:UInt8)(W:World)(gz:Gz W)(A:List UInt8)(i:Nat)(h:WB W i A)(hA:A.length≤65536) :
  Calls Tryz.prog 75 #[.agg #[.pointer (some ⟨i,0,none⟩)],.string (mkB [c])] W fun e w'=>WO i A (xeB c) W e w':=by
 by_cases h1:c=60
 ·subst h1;exact xchr_60 A W i h hA
 by_cases h2:c=38
 ·subst h2;exact xchr_38 A W i h hA
 by_cases h3:c=34
 ·subst h3;exact xchr_34 A W i h hA
 by_cases h4:c=62
 ·subst h4;exact xchr_62 A W i h hA
 by_cases h5:c.toNat<32
 ·exact xchr_lo c h1 h2 h3 h4 h5 W gz A i h hA
 ·exact xchr_hi c h1 h2 h3 h4 h5 W gz A i h hA
set_option maxRecDepth 100000 in
theorem xchars_any (a s b:ByteArray)(ha:a.size≤1000)(hs:s.size≤281474976710656)(hb:b.size≤1000)(W:World)(gz:Gz W)(A:List UInt8)(i:Nat)(hi8:8≤i)(h:WB W i A)(hA:A.length≤65536) :
  Calls Tryz.prog 45 #[.agg #[.pointer (some ⟨i,0,none⟩)],.string a,.string s,.string b] W fun e w'=>WO i A (bl a++(xeL (bl s)++bl b)) W e w':=by
 have h':=hide h
 have hlt:=h.lt
 have X0:=hide (fun o=>h.below (below_al (o:=o) (Below.refl W.heap.size W)))
 have N0:Hid (∀ o,NB W.heap.size (W.alloc o) i):=fun o=>NB.new h
 have F0:Hid (∀ o,FW i W (W.alloc o)):=fun o=>FW.al (FW.refl _ _) hlt
 have R0:=hide (Rx.new W i)
 have hA':=hide hA
 have gz':=hide gz
 have ha':=hide (show a.size≤281474976710656 by omega)
 have hb':=hide (show b.size≤281474976710656 by omega)
 have hi8':=hide hi8
 clear h hA gz ha hb hi8
 go_enter Tryz.func45, Tryz.ntmps45
 go_wp2_with (go_at_call 40;refine Sto.out ?_)
 refine Sto.mk ((put_any a _ _ i (X0.out _) hA'.out ha'.out).mono ?_)
 rintro e w1 hw
 have kp:=hide (hw.1.kept (N0.out _))
 have hw2:=WO.step (A:=A) (T:=[]) (F0.out _) (by simpa using hw)
 clear hw
 rcases hw2 with ⟨rfl,g1,g2,g3⟩|⟨rfl,g1,g2⟩
 ·have F1:=hide g1
  have X1:Hid (WB w1 i (A++bl a)):=by show WB _ _ _;simpa using g2
  have L1:Hid ((A++bl a).length≤65536):=by show _≤_;simpa using g3
  have R1:=hide (R0.out.of kp.out.1)
  have N1:=hide kp.out.2
  clear g1 g2 g3 kp
  have cp:=R1.out.cell
  go_wp2_with fail
  go_loopw [15] (fun j wr=>∃ k:Nat,j=.int .i64 k∧k≤s.size∧Hid (FW i W wr∧WB wr i (A++(bl a++xeL ((bl s).take k)))∧(A++(bl a++xeL ((bl s).take k))).length≤65536∧Rx wr W.heap.size i∧NB W.heap.size wr i)) (fun j _=>s.size - (intOf j).toNat)
  case atStart=>exact ⟨0,rfl,Nat.zero_le _,hide ⟨F1.out,by simpa [xeL] using X1.out,by simpa [xeL] using L1.out,R1.out,N1.out⟩⟩
  case round =>
   obtain ⟨k,rfl,hk,HH⟩:=hrel
   obtain ⟨hF,hX,hL,hR,hN⟩:=HH.out
   have FR:=hide hF
   have XR:=hide hX
   have LR:=hide hL
   have RR:=hide hR
   have NR:=hide hN
   clear HH hF hX hL hR hN F1 X1 L1 R1 N1 cp
   have cp:=RR.out.cell
   by_cases hkl:k<s.size
   ·have hki:(k:Int)<(s.size:Int):=by omega
    have hk63:(k:Int)<9223372036854775807:=by omega
    have hk1:(k:Int)+1≤(s.size:Int):=by omega
    have hv:IntKind.i64.wrap ((k:Int)+1)=(k:Int)+1:=by rw [IntKind.wrap_i64] <;> omega
    obtain ⟨c,hc⟩:∃ c,s[k]=c:=⟨_,rfl⟩
    have hex:=byte_str s k hkl
    rw [hc] at hex
    have hst:=hide (show xeL ((bl s).take (k+1))=xeL ((bl s).take k)++xeB c by rw [List.take_succ_eq_append_getElem (by rw [bl_length];exact hkl),xeL_snoc,bl_get s k hkl,hc])
    have ch:=hide (fun w (hb:Below wr.heap.size wr w)=>(xchr_any c w ((gz'.out.low FR.out.1 hi8'.out).low hb (gz'.out.low FR.out.1 hi8'.out).low8) _ i (XR.out.below hb) LR.out).mono (fun e w2 hw=>show (e=.returned (.tuple #[])∧FW i W w2∧WB w2 i (A++(bl a++xeL ((bl s).take (k+1))))∧(A++(bl a++xeL ((bl s).take (k+1)))).length≤65536∧Rx w2 W.heap.size i∧NB W.heap.size w2 i)∨(e=.panicked (pan 2)∧WO i A (bl a++(xeL (bl s)++bl b)) W (.panicked (pan 2)) w2) from by
     have kp0:=(FW.of hb XR.out.lt).kept NR.out
     have kp:=hw.1.kept kp0.2
     have hw2:=WO.step (A:=A) (T:=bl a++xeL ((bl s).take k)) (FR.out.trans (FW.of hb XR.out.lt)) hw
     rcases hw2 with ⟨e1,g1,g2,g3⟩|⟨e1,g1,g2⟩
     ·refine Or.inl ⟨e1,g1,?_,?_,(RR.out.of kp0.1).of kp.1,kp.2⟩
      ·rw [hst.out];simpa only [List.append_assoc] using g2
      ·rw [hst.out];simpa only [List.append_assoc] using g3
     ·refine Or.inr ⟨e1,WO.pre (A:=A) (T:=bl a++xeL ((bl s).take k)++xeB c) (U:=bl a++(xeL (bl s)++bl b)) g1 ?_ g2⟩
      have e:xeL (bl s)=xeL ((bl s).take (k+1))++xeL ((bl s).drop (k+1)):=by rw [←xeL_app,List.take_append_drop]
      rw [e,hst.out]
      simp only [List.append_assoc]
      exact ⟨xeL ((bl s).drop (k+1))++bl b,by simp only [List.append_assoc]⟩))
    rw [←hex] at ch
    go_wp2_with fail
    clear hki hk63 hk1 hex hc hst
    go_region_with (go_at_call 75;refine (ch.out _ (by repeat (first|exact Below.refl _ _|refine Below.drew ?_|refine below_al ?_))).mono ?_;rintro e w2 (⟨rfl,q⟩|⟨rfl,q⟩);rotate_left;(first|exact ⟨rfl,q⟩|(go_simp;exact ⟨rfl,q⟩)|(unfold Exit.inBlock;exact ⟨rfl,q⟩));have K:=hide q;clear q)
    all_goals
     go_wp2_with fail
     exact ⟨⟨k+1,by go_num,hkl,K⟩,by simp [intOf];omega⟩
   ·have hki:¬ ((k:Int)<(s.size:Int)):=by omega
    have hfull:=hide (show (bl s).take k=bl s from List.take_of_length_le (by rw [bl_length];omega))
    rw [hfull.out] at XR LR
    go_wp2_with (go_at_call 40;refine Sto.out ?_)
    refine Sto.mk ((put_any b _ wr i XR.out LR.out hb'.out).mono ?_)
    rintro e w2 hw
    have hw2:=WO.step (A:=A) (T:=bl a++xeL (bl s)) FR.out hw
    clear hw
    rcases hw2 with ⟨rfl,g1,g2,g3⟩|⟨rfl,g1,g2⟩
    ·have K:Hid (WO i A (bl a++(xeL (bl s)++bl b)) W (.returned (.tuple #[])) w2):=⟨g1,Or.inl ⟨by simpa using g3,rfl,by simpa using g2⟩⟩
     clear g1 g2 g3
     go_wp2_with fail
     go_end0
     exact K.out
    ·have K:=hide (WO.pre (A:=A) (T:=bl a++xeL (bl s)++bl b) (U:=bl a++(xeL (bl s)++bl b)) g1 (by simp) g2)
     clear g1 g2
     go_wp2_with fail
     exact ⟨rfl,K.out⟩
 ·have K:=hide (WO.pre (A:=A) (T:=[]++bl a) (U:=bl a++(xeL (bl s)++bl b)) g1 (by simp) g2)
  clear g1 g2 kp
  go_wp2_with fail
  exact ⟨rfl,K.out⟩
end Go.Proofs.YthodiandebahdaaGreatDoor
