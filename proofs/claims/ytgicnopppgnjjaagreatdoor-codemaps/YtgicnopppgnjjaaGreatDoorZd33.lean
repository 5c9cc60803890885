/- Merged by program: VzCheck. -/
import Derived.Test.YtgicnopppgnjjaaGreatDoorZd28
import Derived.Test.YtgicnopppgnjjaaGreatDoorZd19
set_option linter.unusedSimpArgs false
set_option linter.unusedVariables false
namespace Go.Proofs.YtgicnopppgnjjaaGreatDoor
namespace Lx
open Go.RowKit
def ChkE (PF PS:(n:Nat)→ET n→Prop) (n:Nat) (x:ET n) (E:Int):Prop :=
 (E=140∧¬ (evA bareP n x∧evA PF n x))∨(E=2∧(evA bareP n x∧evA PF n x)∧¬ (evA PS n x∧edep n x≤16∧esiz n x≤512))∨(E=0∧(evA bareP n x∧evA PF n x)∧evA PS n x∧edep n x≤16∧esiz n x≤512)
theorem ChkE.of {PF PS:(n:Nat)→ET n→Prop} {n:Nat} {x:ET n} {E E':Int} (h:ChkE PF PS n x E) (h':ChkE PF PS n x E'):E=E':=by
 unfold ChkE at h h'
 by_cases a:evA bareP n x∧evA PF n x
 ·by_cases b:evA PS n x∧edep n x≤16∧esiz n x≤512
  ·simp only [a,b,not_true,and_false,false_or,and_true,and_self] at h h'
   omega
  ·simp only [a,b,not_true,and_false,false_or,and_true,and_self,not_false_eq_true,or_false] at h h'
   omega
 ·simp only [a,false_and,and_false,or_false,not_false_eq_true,and_true] at h h'
  omega
set_option maxHeartbeats 4000000 in
set_option maxRecDepth 100000 in
theorem lcheck_any {PF PS:(n:Nat)→ET n→Prop} {SF SS:(n:Nat)→ET n→World→Prop} (AF:Ask 75 PF SF) (AS:Ask 76 PS SS) (n:Nat) (x:ET n) (q:Sl) (w:World) (hr:RE n w x q) (hF:SF n x w) (hS:SS n x w) (hz:esiz n x≤200000) (E:Int) (hE:ChkE PF PS n x E) :
  Calls Tryz.prog 34 #[.agg (ecl (ehd n x) q)] w fun e w'=>e=.returned (.int .i64 E)∧Below w.heap.size w w':=by
 obtain ⟨x1,y1,z1,x2,y2,z2,x3,y3,z3,x4,y4,z4,hqs⟩:=hr.shape
 subst hqs
 obtain ⟨t1,ht1⟩:=tells (evA bareP n x)
 obtain ⟨t2,ht2⟩:=tells (evA PF n x)
 obtain ⟨t3,ht3⟩:=tells (evA PS n x)
 have h1:=hide (fun W (hb:Below w.heap.size w W)=>Calls.tb (every_any (Or.inl rfl) askBare n x ⟨.slice x1 y1 z1,.slice x2 y2 z2,.slice x3 y3 z3,.slice x4 y4 z4⟩ W (hr.below hb) trivial) ht1)
 have h2:=hide (fun W (hb:Below w.heap.size w W)=>Calls.tb (every_any (Or.inr (Or.inl rfl)) AF n x ⟨.slice x1 y1 z1,.slice x2 y2 z2,.slice x3 y3 z3,.slice x4 y4 z4⟩ W (hr.below hb) (AF.low _ _ _ _ hF hb)) ht2)
 have h3:=hide (fun W (hb:Below w.heap.size w W)=>Calls.tb (every_any (Or.inr (Or.inr rfl)) AS n x ⟨.slice x1 y1 z1,.slice x2 y2 z2,.slice x3 y3 z3,.slice x4 y4 z4⟩ W (hr.below hb) (AS.low _ _ _ _ hS hb)) ht3)
 have h4:=hide (fun W (hb:Below w.heap.size w W)=>edepth_any n x ⟨.slice x1 y1 z1,.slice x2 y2 z2,.slice x3 y3 z3,.slice x4 y4 z4⟩ W (hr.below hb) hz)
 have h5:=hide (fun W (hb:Below w.heap.size w W)=>esize_any n x ⟨.slice x1 y1 z1,.slice x2 y2 z2,.slice x3 y3 z3,.slice x4 y4 z4⟩ W (hr.below hb) hz)
 have hD:edep n x≤200000:=Nat.le_trans (edep_le n x) hz
 obtain ⟨D,hDD⟩:∃ D,edep n x=D:=⟨_,rfl⟩
 obtain ⟨Z,hZZ⟩:∃ Z,esiz n x=Z:=⟨_,rfl⟩
 rw [hDD] at h4 hD
 rw [hZZ] at h5 hz
 have fin:Hid (∀ E',ChkE PF PS n x E'→E'=E):=fun E' h=>h.of hE
 have HT1:=hide ht1
 have HT2:=hide ht2
 have HT3:=hide ht3
 have HD:=hide hDD
 have HZ:=hide hZZ
 clear hr AF AS hF hS hE ht1 ht2 ht3 hDD hZZ
 obtain ⟨h,hh⟩:∃ h,ehd n x=h:=⟨_,rfl⟩
 rw [hh] at h1 h2 h3 h4 h5 ⊢
 clear hh
 have X0:=hide (ex_new w h ⟨.slice x1 y1 z1,.slice x2 y2 z2,.slice x3 y3 z3,.slice x4 y4 z4⟩)
 unfold such at h1 h2 h3
 simp only [ecl] at h1 h2 h3 h4 h5 X0 ⊢
 go_enter Tryz.func34, Tryz.ntmps34
 go_wp2_with (go_at_call 73;refine Sto.out ?_)
 refine Sto.mk ?_
 refine (h1.out _ (below_al (Below.refl _ _))).mono ?_
 rintro e w1 ⟨rfl,hb1⟩
 have X1:=hide (X0.out.below hb1)
 have B1:=hide (below_then (below_al (Below.refl _ _)) hb1)
 have x0:=X1.out.cells
 clear hb1 X0
 cases t1
 ·have hn:=hide (fin.out 140 (Or.inl ⟨rfl,fun q=>by have:=HT1.out.2 q.1;cases this⟩))
  go_wp2_with fail
  go_ret
  exact ⟨by rw [←hn.out];rfl,B1.out⟩
 go_wp2_with (go_at_call 73;refine Sto.out ?_)
 refine Sto.mk ?_
 refine (h2.out _ B1.out).mono ?_
 rintro e w2 ⟨rfl,hb2⟩
 have X2:=hide (X1.out.below hb2)
 have B2:=hide (below_then B1.out hb2)
 clear x0 hb2 X1
 have x0:=X2.out.cells
 cases t2
 ·have hn:=hide (fin.out 140 (Or.inl ⟨rfl,fun q=>by have:=HT2.out.2 q.2;cases this⟩))
  go_wp2_with fail
  go_ret
  exact ⟨by rw [←hn.out];rfl,B2.out⟩
 have both:=hide (And.intro (HT1.out.1 (by simp)) (HT2.out.1 (by simp)))
 go_wp2_with (go_at_call 73;refine Sto.out ?_)
 refine Sto.mk ?_
 refine (h3.out _ B2.out).mono ?_
 rintro e w3 ⟨rfl,hb3⟩
 have X3:=hide (X2.out.below hb3)
 have B3:=hide (below_then B2.out hb3)
 clear x0 hb3 X2
 have x0:=X3.out.cells
 cases t3
 ·have hn:=hide (fin.out 2 (Or.inr (Or.inl ⟨rfl,both.out,fun q=>by have:=HT3.out.2 q.1;cases this⟩)))
  go_wp2_with fail
  go_ret
  exact ⟨by rw [←hn.out];rfl,B3.out⟩
 have hs:=hide (HT3.out.1 (by simp))
 go_wp2_with (go_at_call 77;refine Sto.out ?_)
 refine Sto.mk ?_
 refine (h4.out _ B3.out).mono ?_
 rintro e w4 ⟨rfl,hb4⟩
 have X4:=hide (X3.out.below hb4)
 have B4:=hide (below_then B3.out hb4)
 clear x0 hb4 X3
 have x0:=X4.out.cells
 by_cases d16:(16:Int)<(D:Int)
 ·have hn:=hide (fin.out 2 (Or.inr (Or.inl ⟨rfl,both.out,fun q=>by have:=q.2.1;rw [HD.out] at this;omega⟩)))
  go_wp2_with fail
  go_ret
  exact ⟨by rw [←hn.out];rfl,B4.out⟩
 go_wp2_with (go_at_call 78;refine Sto.out ?_)
 refine Sto.mk ?_
 refine (h5.out _ B4.out).mono ?_
 rintro e w5 ⟨rfl,hb5⟩
 have B5:=hide (below_then B4.out hb5)
 by_cases s512:(512:Int)<(Z:Int)
 ·have hn:=hide (fin.out 2 (Or.inr (Or.inl ⟨rfl,both.out,fun q=>by have:=q.2.2;rw [HZ.out] at this;omega⟩)))
  go_wp2_with fail
  go_ret
  exact ⟨by rw [←hn.out];rfl,B5.out⟩
 ·have hn:=hide (fin.out 0 (Or.inr (Or.inr ⟨rfl,both.out,hs.out,by rw [HD.out];omega,by rw [HZ.out];omega⟩)))
  go_wp2_with fail
  go_ret
  exact ⟨by rw [←hn.out];rfl,B5.out⟩
end Lx
end Go.Proofs.YtgicnopppgnjjaaGreatDoor
