/- Merged by program: SdBraces, SeBraces, SfBraces, SgBraces. -/
import Derived.Test.YtcnfchblfcfimaaGreatDoorZb40
import Derived.Test.YtcnfchblfcfimaaGreatDoorZb44
import Derived.Test.YtcnfchblfcfimaaGreatDoorZb29
set_option linter.unusedSimpArgs false
set_option linter.unusedVariables false
namespace Go.Proofs.YtcnfchblfcfimaaGreatDoor
namespace Lx
open Go.RowKit
variable {dq : {_f : (p : Prop) → Decidable p // True}}
set_option maxRecDepth 100000
set_option maxHeartbeats 4000000 in
theorem br_long1 (a b:ByteArray) (w:World) (h:(16384:Int)<(a.size:Int)):Calls Tryz.prog 7 #[.string a,.string b] w fun e w'=>e=.returned (.bool true)∧Below w.heap.size w w':=by
 go_enter Tryz.func7, Tryz.ntmps7
 go_wp2_with fail
 go_ret
 exact ⟨rfl,Below.refl _ _⟩
set_option maxHeartbeats 4000000 in
theorem br_long2 (a b:ByteArray) (w:World) (h1:¬ (16384:Int)<(a.size:Int)) (h:(16384:Int)<(b.size:Int)):Calls Tryz.prog 7 #[.string a,.string b] w fun e w'=>e=.returned (.bool true)∧Below w.heap.size w w':=by
 go_enter Tryz.func7, Tryz.ntmps7
 go_wp2_with fail
 go_ret
 exact ⟨rfl,Below.refl _ _⟩
def pE {n:Nat} (o:Sum (Int×Int) (ET n)):Int:=match o with
 | .inl y=>y.1
 | .inr _=>0
def Shp (q:Sl):Prop:=∃ a m c a' m' c' a2 m2 c2 a3 m3 c3,q=⟨.slice a m c,.slice a' m' c',.slice a2 m2 c2,.slice a3 m3 c3⟩
theorem parse_g (hP:ParseOk) {f:Nat} (hf:1025≤f) {s:ByteArray} {w:World} (g:Gw w) (hz:s.size≤1000000) :
  Calls Tryz.prog 9 #[.string s] w fun e w'=>∃ h q n,e=.returned (.tuple #[.agg (ecl h q),.int .i64 (pE (paR dq f (bl s))),.int .i64 n])∧Shp q∧Below w.heap.size w w':=by
 cases h:paR dq f (bl s) with
 | inl y =>
  refine (parse_no (dq:=dq) hP hf g hz h).mono ?_
  rintro e w' ⟨rfl,hb⟩
  exact ⟨_,_,_,rfl,⟨_,_,_,_,_,_,_,_,_,_,_,_,rfl⟩,hb⟩
 | inr x =>
  refine (parse_ok (dq:=dq) hP hf g hz h).mono ?_
  rintro e w' ⟨q,rfl,hr,hb⟩
  exact ⟨_,q,0,rfl,hr.shape,hb⟩
set_option maxHeartbeats 4000000 in
theorem br_bad (hP:ParseOk) (gk:Nat) (hg:1005≤gk) (a b:ByteArray) (w:World) (g:Gw w) (h1:¬ (16384:Int)<(a.size:Int)) (h2:¬ (16384:Int)<(b.size:Int)) (h:pE (paR dq (gk + 20) (bl a))≠0∨pE (paR dq (gk + 20) (bl b))≠0):Calls Tryz.prog 7 #[.string a,.string b] w fun e w'=>e=.returned (.bool true)∧Below w.heap.size w w':=by
 have hf:1025≤gk + 20:=by omega
 have pa:=hide (fun W (hb:Below w.heap.size w W)=>parse_g (dq:=dq) hP hf (g.below hb) (s:=a) (by omega))
 have pb:=hide (fun W (hb:Below w.heap.size w W)=>parse_g (dq:=dq) hP hf (g.below hb) (s:=b) (by omega))
 have aw:=hide (fun W (hb:Below w.heap.size w W)=>awake_any hP gk hg W (g.below hb))
 obtain ⟨ea,hea⟩:∃ e,pE (paR dq (gk + 20) (bl a))=e:=⟨_,rfl⟩
 obtain ⟨eb,heb⟩:∃ e,pE (paR dq (gk + 20) (bl b))=e:=⟨_,rfl⟩
 rw [hea] at h pa
 rw [heb] at h pb
 clear hea heb g hf
 have B0:=hide (Below.refl w.heap.size w)
 go_enter Tryz.func7, Tryz.ntmps7
 go_wp2_with (go_at_call 9;refine Sto.out ?_)
 refine Sto.mk ?_
 refine (pa.out _ B0.out).mono ?_
 rintro e w1 ⟨hd1,q1,n1,rfl,hs1,hb1⟩
 have B1:=hide (below_al (o:=.cells (ecl hd1 q1) 33) (below_then B0.out hb1))
 obtain ⟨x1,y1,z1,x2,y2,z2,x3,y3,z3,x4,y4,z4,hqs⟩:=hs1
 subst hqs
 clear hb1 B0 pa
 simp only [ecl] at B1
 dsimp only [ecl]
 go_wp2_with (go_at_call 9;refine Sto.out ?_)
 refine Sto.mk ?_
 refine (pb.out _ B1.out).mono ?_
 rintro e w2 ⟨hd2,q2,n2,rfl,hs2,hb2⟩
 have B2:=hide (below_al (o:=.cells (ecl hd2 q2) 33) (below_then B1.out hb2))
 obtain ⟨u1,v1,t1,u2,v2,t2,u3,v3,t3,u4,v4,t4,hqs⟩:=hs2
 subst hqs
 clear hb2 B1 pb
 simp only [ecl] at B2
 dsimp only [ecl]
 by_cases k:ea=0
 ·have k2:¬ eb=0:=by rcases h with h|h;exact absurd k h;exact h
  go_wp2_with (go_at_call 11;refine Sto.out ?_)
  refine Sto.mk ?_
  refine (aw.out _ B2.out).mono ?_
  rintro e w3 ⟨rfl,hb3⟩
  have B3:=hide (below_then B2.out hb3)
  clear hb3 B2 aw
  go_wp2_with fail
  go_ret
  exact ⟨rfl,B3.out⟩
 ·go_wp2_with (go_at_call 11;refine Sto.out ?_)
  refine Sto.mk ?_
  refine (aw.out _ B2.out).mono ?_
  rintro e w3 ⟨rfl,hb3⟩
  have B3:=hide (below_then B2.out hb3)
  clear hb3 B2 aw
  go_wp2_with fail
  go_ret
  exact ⟨rfl,B3.out⟩
end Lx
end Go.Proofs.YtcnfchblfcfimaaGreatDoor
namespace Go.Proofs.YtcnfchblfcfimaaGreatDoor
namespace Lx
open Go.RowKit
variable {dq : {_f : (p : Prop) → Decidable p // True}}
set_option maxRecDepth 100000
structure Txt (a b u1 u2 u3 u4 u5:ByteArray):Prop where
 c1:∀ w,(Op.stringOp .add ⟨#[40]⟩ a).run Tryz.prog w=.ok (.string u1) w
 c2:∀ w,(Op.stringOp .add u1 ⟨#[10,41]⟩).run Tryz.prog w=.ok (.string u2) w
 c3:∀ w,(Op.stringOp .add u1 ⟨#[10,41,59,40]⟩).run Tryz.prog w=.ok (.string u3) w
 c4:∀ w,(Op.stringOp .add u3 b).run Tryz.prog w=.ok (.string u4) w
 c5:∀ w,(Op.stringOp .add u4 ⟨#[10,41]⟩).run Tryz.prog w=.ok (.string u5) w
 b2:bl u2=Zt (bl a)
 b5:bl u5=Wt (bl a) (bl b)
 s2:u2.size≤1000000
 s5:u5.size≤1000000
theorem bl_cat (a b:ByteArray):bl (a++b)=bl a++bl b:=by simp [bl,ByteArray.data_append]
theorem txt_is (a b:ByteArray) (h1:a.size≤16384) (h2:b.size≤16384):∃ u1 u2 u3 u4 u5,Txt a b u1 u2 u3 u4 u5:=by
 have z1:(⟨#[40]⟩:ByteArray).size=1:=rfl
 have z2:(⟨#[10,41]⟩:ByteArray).size=2:=rfl
 have z3:(⟨#[10,41,59,40]⟩:ByteArray).size=4:=rfl
 refine ⟨_,_,_,_,_,fun w=>cat_run _ _ _ w rfl (by omega),fun w=>cat_run _ _ _ w rfl (by simp only [ByteArray.size_append];omega),fun w=>cat_run _ _ _ w rfl (by simp only [ByteArray.size_append];omega),fun w=>cat_run _ _ _ w rfl (by simp only [ByteArray.size_append];omega),fun w=>cat_run _ _ _ w rfl (by simp only [ByteArray.size_append];omega),?_,?_,by simp only [ByteArray.size_append];omega,by simp only [ByteArray.size_append];omega⟩
 ·simp only [bl_cat]
  simp [bl,Zt]
 ·simp only [bl_cat]
  simp [bl,Wt]
set_option maxHeartbeats 8000000 in
theorem br_lim (hP:ParseOk) (gk:Nat) (hg:1005≤gk) (a b:ByteArray) (w:World) (g:Gw w) (h1:¬ (16384:Int)<(a.size:Int)) (h2:¬ (16384:Int)<(b.size:Int)) (k1:pE (paR dq (gk + 20) (bl a))=0) (k2:pE (paR dq (gk + 20) (bl b))=0)
  (h:pE (paR dq (gk + 20 + 1) (Zt (bl a)))=2∨pE (paR dq (gk + 20 + 1) (Zt (bl a)))=0∧pE (paR dq (gk + 20 + 1) (Wt (bl a) (bl b)))=2) (h':pE (paR dq (gk + 20 + 1) (Wt (bl a) (bl b)))=0∨pE (paR dq (gk + 20 + 1) (Wt (bl a) (bl b)))=2):Calls Tryz.prog 7 #[.string a,.string b] w fun e w'=>e=.returned (.bool true)∧Below w.heap.size w w':=by
 have hf:1025≤gk + 20:=by omega
 have hf':1025≤gk + 20 + 1:=by omega
 obtain ⟨u1,u2,u3,u4,u5,t1,t2,t3,t4,t5,t6,t7,t8,t9⟩:=txt_is a b (by omega) (by omega)
 have pa:=hide (fun W (hb:Below w.heap.size w W)=>parse_g (dq:=dq) hP hf (g.below hb) (s:=a) (by omega))
 have pb:=hide (fun W (hb:Below w.heap.size w W)=>parse_g (dq:=dq) hP hf (g.below hb) (s:=b) (by omega))
 have pz:=hide (fun W (hb:Below w.heap.size w W)=>parse_g (dq:=dq) hP hf' (g.below hb) (s:=u2) t8)
 have pw:=hide (fun W (hb:Below w.heap.size w W)=>parse_g (dq:=dq) hP hf' (g.below hb) (s:=u5) t9)
 have aw:=hide (fun W (hb:Below w.heap.size w W)=>awake_any hP gk hg W (g.below hb))
 rw [k1] at pa
 rw [k2] at pb
 rw [t6] at pz
 rw [t7] at pw
 obtain ⟨ez,hez⟩:∃ e,pE (paR dq (gk + 20 + 1) (Zt (bl a)))=e:=⟨_,rfl⟩
 obtain ⟨ew,hew⟩:∃ e,pE (paR dq (gk + 20 + 1) (Wt (bl a) (bl b)))=e:=⟨_,rfl⟩
 rw [hez] at h pz
 rw [hew] at h h' pw
 clear hez hew g hf hf' k1 k2 t6 t7 t8 t9
 have B0:=hide (Below.refl w.heap.size w)
 go_enter Tryz.func7, Tryz.ntmps7
 go_wp2_with (go_at_call 9;refine Sto.out ?_)
 refine Sto.mk ?_
 refine (pa.out _ B0.out).mono ?_
 rintro e w1 ⟨hd1,q1,n1,rfl,hs1,hb1⟩
 have B1:=hide (below_al (o:=.cells (ecl hd1 q1) 33) (below_then B0.out hb1))
 obtain ⟨x1,y1,z1,x2,y2,z2,x3,y3,z3,x4,y4,z4,hqs⟩:=hs1
 subst hqs
 clear hb1 B0 pa
 simp only [ecl] at B1
 dsimp only [ecl]
 go_wp2_with (go_at_call 9;refine Sto.out ?_)
 refine Sto.mk ?_
 refine (pb.out _ B1.out).mono ?_
 rintro e w2 ⟨hd2,q2,n2,rfl,hs2,hb2⟩
 have B2:=hide (below_al (o:=.cells (ecl hd2 q2) 33) (below_then B1.out hb2))
 obtain ⟨x1,y1,z1,x2,y2,z2,x3,y3,z3,x4,y4,z4,hqs⟩:=hs2
 subst hqs
 clear hb2 B1 pb
 simp only [ecl] at B2
 dsimp only [ecl]
 go_wp2_with (go_at_call 9;refine Sto.out ?_)
 refine Sto.mk ?_
 refine (pz.out _ B2.out).mono ?_
 rintro e w3 ⟨hd3,q3,n3,rfl,hs3,hb3⟩
 have B3:=hide (below_al (o:=.cells (ecl hd3 q3) 33) (below_then B2.out hb3))
 obtain ⟨x1,y1,z1,x2,y2,z2,x3,y3,z3,x4,y4,z4,hqs⟩:=hs3
 subst hqs
 clear hb3 B2 pz
 simp only [ecl] at B3
 dsimp only [ecl]
 go_wp2_with (go_at_call 9;refine Sto.out ?_)
 refine Sto.mk ?_
 refine (pw.out _ B3.out).mono ?_
 rintro e w4 ⟨hd4,q4,n4,rfl,hs4,hb4⟩
 have B4:=hide (below_al (o:=.cells (ecl hd4 q4) 33) (below_then B3.out hb4))
 obtain ⟨x1,y1,z1,x2,y2,z2,x3,y3,z3,x4,y4,z4,hqs⟩:=hs4
 subst hqs
 clear hb4 B3 pw t1 t2 t3 t4 t5
 simp only [ecl] at B4
 dsimp only [ecl]
 rcases h with rfl|⟨rfl,rfl⟩
 ·rcases h' with rfl|rfl
  all_goals
   go_wp2_with (go_at_call 11;refine Sto.out ?_)
   refine Sto.mk ?_
   refine (aw.out _ B4.out).mono ?_
   rintro e w5 ⟨rfl,hb5⟩
   have B5:=hide (below_then B4.out hb5)
   clear hb5 B4 aw
   go_wp2_with fail
   go_ret
   exact ⟨rfl,B5.out⟩
 ·go_wp2_with (go_at_call 11;refine Sto.out ?_)
  refine Sto.mk ?_
  refine (aw.out _ B4.out).mono ?_
  rintro e w5 ⟨rfl,hb5⟩
  have B5:=hide (below_then B4.out hb5)
  clear hb5 B4 aw
  go_wp2_with fail
  go_ret
  exact ⟨rfl,B5.out⟩
end Lx
end Go.Proofs.YtcnfchblfcfimaaGreatDoor
namespace Go.Proofs.YtcnfchblfcfimaaGreatDoor
namespace Lx
open Go.RowKit
variable {dq : {_f : (p : Prop) → Decidable p // True}}
set_option maxRecDepth 100000
theorem ecl_lf (op:Int) (q:Sl):ecl (lf op) q=#[.int .i64 op,.string ⟨#[]⟩,q.ns,q.ls,.int .i64 0,.bool false,.bool false,.string ⟨#[]⟩,.int .i64 0,.int .u64 0,.string ⟨#[]⟩,q.vs,q.vl]:=rfl
theorem re_pair {n:Nat} {W:World} {h:Eh} {y1 y2:ET n} {q:Sl} (hr:RE (n + 1) W ((h,[y1,y2]):ET (n + 1)) q):∃ b o c q1 q2,q.ls=.slice (some ⟨b,o,none⟩) 2 c∧2≤c∧c≤maxLen∧b<W.heap.size∧W.rangeAt b (o + 0 * 13) (ecl (ehd n y1) q1).toList∧RE n W y1 q1∧W.rangeAt b (o + 1 * 13) (ecl (ehd n y2) q2).toList∧RE n W y2 q2:=by
 obtain ⟨b,o,c,e,hb,h1,h2,q1,r1,k1⟩:=EL.at (n:=n) hr.2.2 0 (by show 0<2;omega)
 obtain ⟨b',o',c',e',hb',h1',h2',q2,r2,k2⟩:=EL.at (n:=n) hr.2.2 1 (by show 1<2;omega)
 rw [e] at e'
 cases e'
 exact ⟨b,o,c,q1,q2,e,h1,h2,hb,r1,k1,r2,k2⟩
theorem same_up {n:Nat} {x:ET n} {h:Eh} (hh:ehd n x=h) {W:World} {q q':Sl} (r:RE n W x q) (r':RE (n + 1) W (upE n x) q'):Calls Tryz.prog 12 #[.agg (ecl h q'),.agg (ecl h q)] W fun e w'=>e=.returned (.bool true)∧Below W.heap.size W w':=by
 have:=esame_any (n + 1) (upE n x) q' q W r' r.up
 rw [ehd_up,hh] at this
 exact this
theorem same_up2 {n:Nat} {x:ET n} {h:Eh} (hh:ehd n x=h) {W:World} {q q':Sl} (r:RE n W x q) (r':RE (n + 2) W (upE (n + 1) (upE n x)) q'):Calls Tryz.prog 12 #[.agg (ecl h q'),.agg (ecl h q)] W fun e w'=>e=.returned (.bool true)∧Below W.heap.size W w':=by
 have:=esame_any (n + 2) (upE (n + 1) (upE n x)) q' q W r' r.up.up
 rw [ehd_up,ehd_up,hh] at this
 exact this
structure K4 {n:Nat} (w:World) (x y:ET n) (hx hy:Eh) (i1 i2 i3 i4:Nat) (q1 q2 q3 q4 qa qb:Sl) (b0 o0:Nat) (W:World):Prop where
 hhx:ehd n x=hx
 hhy:ehd n y=hy
 bel:Below w.heap.size w W
 e1:Ex W i1 hx q1
 r1:RE n W x q1
 e2:Ex W i2 hy q2
 r2:RE n W y q2
 e3:Ex W i3 hx q3
 r3:RE (n + 2) W (upE (n + 1) (upE n x)) q3
 e4:Ex W i4 (lf 12) q4
 lt:b0<W.heap.size
 ra:W.rangeAt b0 (o0 + 0 * 13) (ecl hx qa).toList
 la:RE (n + 1) W (upE n x) qa
 rb:W.rangeAt b0 (o0 + 1 * 13) (ecl hy qb).toList
 lb:RE (n + 1) W (upE n y) qb
theorem K4.then {n:Nat} {w:World} {x y:ET n} {hx hy:Eh} {i1 i2 i3 i4:Nat} {q1 q2 q3 q4 qa qb:Sl} {b0 o0:Nat} {W W':World} (k:K4 w x y hx hy i1 i2 i3 i4 q1 q2 q3 q4 qa qb b0 o0 W) (hb:Below W.heap.size W W'):K4 w x y hx hy i1 i2 i3 i4 q1 q2 q3 q4 qa qb b0 o0 W' :=
 ⟨k.hhx,k.hhy,below_then k.bel hb,k.e1.below hb,k.r1.below hb,k.e2.below hb,k.r2.below hb,k.e3.below hb,k.r3.below hb,k.e4.below hb,Nat.lt_of_lt_of_le k.lt hb.size,rangeAt_below k.ra hb k.lt,k.la.below hb,rangeAt_below k.rb hb k.lt,k.lb.below hb⟩
section
variable {n : Nat} {w : World} {x y : ET n} {hx hy : Eh} {i1 i2 i3 i4 : Nat} {q1 q2 q3 q4 qa qb : Sl} {b0 o0 : Nat} {W : World}
theorem K4.s1 (k:K4 w x y hx hy i1 i2 i3 i4 q1 q2 q3 q4 qa qb b0 o0 W):Calls Tryz.prog 12 #[.agg (ecl hx q3),.agg (ecl hx q1)] W fun e w'=>e=.returned (.bool true)∧Below W.heap.size W w':=same_up2 k.hhx k.r1 k.r3
theorem K4.s2 (k:K4 w x y hx hy i1 i2 i3 i4 q1 q2 q3 q4 qa qb b0 o0 W):Calls Tryz.prog 12 #[.agg (ecl hx qa),.agg (ecl hx q1)] W fun e w'=>e=.returned (.bool true)∧Below W.heap.size W w':=same_up k.hhx k.r1 k.la
theorem K4.s3 (k:K4 w x y hx hy i1 i2 i3 i4 q1 q2 q3 q4 qa qb b0 o0 W):Calls Tryz.prog 12 #[.agg (ecl hy qb),.agg (ecl hy q2)] W fun e w'=>e=.returned (.bool true)∧Below W.heap.size W w':=same_up k.hhy k.r2 k.lb
end
set_option maxHeartbeats 16000000 in
theorem br_full (hP:ParseOk) (gk:Nat) (hg:1005≤gk) (a b:ByteArray) (w:World) (g:Gw w) (h1:¬ (16384:Int)<(a.size:Int)) (h2:¬ (16384:Int)<(b.size:Int)) {x y:ET (dp (gk + 20) + 1)} (k1:paR dq (gk + 20) (bl a)=.inr x) (k2:paR dq (gk + 20) (bl b)=.inr y)
  (k3:paR dq (gk + 20 + 1) (Zt (bl a))=.inr (upE (dp (gk + 20) + 2) (upE (dp (gk + 20) + 1) x))) (k4:paR dq (gk + 20 + 1) (Wt (bl a) (bl b))=.inr ((lf 12,[upE (dp (gk + 20) + 1) x,upE (dp (gk + 20) + 1) y]):ET (dp (gk + 20 + 1) + 1))):Calls Tryz.prog 7 #[.string a,.string b] w fun e w'=>e=.returned (.bool true)∧Below w.heap.size w w':=by
 have hf:1025≤gk + 20:=by omega
 have hf':1025≤gk + 20 + 1:=by omega
 obtain ⟨u1,u2,u3,u4,u5,t1,t2,t3,t4,t5,t6,t7,t8,t9⟩:=txt_is a b (by omega) (by omega)
 obtain ⟨m,hm⟩:∃ m,dp (gk + 20) + 1=m:=⟨_,rfl⟩
 have pa:=hide (fun W (hb:Below w.heap.size w W)=>parse_ok (dq:=dq) hP hf (g.below hb) (s:=a) (by omega) k1)
 have pb:=hide (fun W (hb:Below w.heap.size w W)=>parse_ok (dq:=dq) hP hf (g.below hb) (s:=b) (by omega) k2)
 have pz:=hide (fun W (hb:Below w.heap.size w W)=>parse_ok (dq:=dq) hP hf' (g.below hb) (s:=u2) t8 (by rw [t6];exact k3))
 have pw:=hide (fun W (hb:Below w.heap.size w W)=>parse_ok (dq:=dq) hP hf' (g.below hb) (s:=u5) t9 (by rw [t7];exact k4))
 have aw:=hide (fun W (hb:Below w.heap.size w W)=>awake_any hP gk hg W (g.below hb))
 obtain ⟨hx,hhx⟩:∃ h,ehd _ x=h:=⟨_,rfl⟩
 obtain ⟨hy,hhy⟩:∃ h,ehd _ y=h:=⟨_,rfl⟩
 have e3:ehd (dp (gk + 20 + 1) + 1) (upE (dp (gk + 20) + 2) (upE (dp (gk + 20) + 1) x))=hx:=(ehd_up _ _).trans ((ehd_up _ _).trans hhx)
 have e4:ehd (dp (gk + 20 + 1) + 1) ((lf 12,[upE (dp (gk + 20) + 1) x,upE (dp (gk + 20) + 1) y]):ET (dp (gk + 20 + 1) + 1))=lf 12:=rfl
 rw [hhx] at pa
 rw [hhy] at pb
 rw [e3] at pz
 rw [e4] at pw
 have rp:=hide (fun W q=>re_pair (W:=W) (h:=lf 12) (y1:=upE (dp (gk + 20) + 1) x) (y2:=upE (dp (gk + 20) + 1) y) (q:=q))
 rw [ehd_up,ehd_up,hhx,hhy] at rp
 clear e3 e4 k1 k2 k3 k4 g hf hf' t6 t7 t8 t9 hm
 have B0:=hide (Below.refl w.heap.size w)
 go_enter Tryz.func7, Tryz.ntmps7
 go_wp2_with (go_at_call 9;refine Sto.out ?_)
 refine Sto.mk ?_
 refine (pa.out _ B0.out).mono ?_
 rintro e w1 ⟨q1,rfl,hr1,hb1⟩
 have B1:=hide (below_al (o:=.cells (ecl hx q1) 33) (below_then B0.out hb1))
 have hal:=below_al (o:=.cells (ecl hx q1) 33) (Below.refl w1.heap.size w1)
 have E1:=hide (ex_new w1 hx q1)
 have R1:=hide (hr1.below hal)
 obtain ⟨x1,y1,z1,x2,y2,z2,x3,y3,z3,x4,y4,z4,hqs⟩:=hr1.shape
 subst hqs
 clear hb1 B0 pa hr1 hal
 simp only [ecl] at B1 E1 R1
 dsimp only [ecl]
 go_wp2_with (go_at_call 9;refine Sto.out ?_)
 refine Sto.mk ?_
 refine (pb.out _ B1.out).mono ?_
 rintro e w2 ⟨q2,rfl,hr2,hb2⟩
 have B2:=hide (below_al (o:=.cells (ecl hy q2) 33) (below_then B1.out hb2))
 have hal:=below_al (o:=.cells (ecl hy q2) 33) (Below.refl w2.heap.size w2)
 have E2:=hide (ex_new w2 hy q2)
 have R2:=hide (hr2.below hal)
 have F1:=hide ((E1.out.below hb2).below hal)
 have S1:=hide ((R1.out.below hb2).below hal)
 obtain ⟨u1',v1',t1',u2',v2',t2',u3',v3',t3',u4',v4',t4',hqs⟩:=hr2.shape
 subst hqs
 clear hb2 B1 E1 R1 pb hr2 hal
 simp only [ecl] at B2 E2 R2 F1 S1
 dsimp only [ecl]
 go_wp2_with (go_at_call 9;refine Sto.out ?_)
 refine Sto.mk ?_
 refine (pz.out _ B2.out).mono ?_
 rintro e w3 ⟨q3,rfl,hr3,hb3⟩
 have B3:=hide (below_al (o:=.cells (ecl hx q3) 33) (below_then B2.out hb3))
 have hal:=below_al (o:=.cells (ecl hx q3) 33) (Below.refl w3.heap.size w3)
 have E3:=hide (ex_new w3 hx q3)
 have R3:=hide (RE.below hr3 hal)
 have G1:=hide ((F1.out.below hb3).below hal)
 have T1:=hide ((S1.out.below hb3).below hal)
 have G2:=hide ((E2.out.below hb3).below hal)
 have T2:=hide ((R2.out.below hb3).below hal)
 obtain ⟨aa1,ab1,ac1,aa2,ab2,ac2,aa3,ab3,ac3,aa4,ab4,ac4,hqs⟩:=RE.shape hr3
 subst hqs
 clear hb3 B2 F1 S1 E2 R2 pz hr3 hal
 simp only [ecl] at B3 E3 R3 G1 T1 G2 T2
 dsimp only [ecl]
 go_wp2_with (go_at_call 9;refine Sto.out ?_)
 refine Sto.mk ?_
 refine (pw.out _ B3.out).mono ?_
 rintro e w4 ⟨q4,rfl,hr4,hb4⟩
 have B4:=hide (below_al (o:=.cells (ecl (lf 12) q4) 33) (below_then B3.out hb4))
 have hal:=below_al (o:=.cells (ecl (lf 12) q4) 33) (Below.refl w4.heap.size w4)
 have E4:=hide (ex_new w4 (lf 12) q4)
 have H1:=hide ((G1.out.below hb4).below hal)
 have U1:=hide ((T1.out.below hb4).below hal)
 have H2:=hide ((G2.out.below hb4).below hal)
 have U2:=hide ((T2.out.below hb4).below hal)
 have H3:=hide ((E3.out.below hb4).below hal)
 have U3:=hide (RE.below (RE.below R3.out hb4) hal)
 obtain ⟨b0,o0,c0,qa,qb,hls,hc1,hc2,hbl,ra,la,rb,lb⟩:=rp.out _ _ (RE.below hr4 hal)
 obtain ⟨ba1,bb1,bc1,ba2,bb2,bc2,ba3,bb3,bc3,ba4,bb4,bc4,hqs⟩:=RE.shape hr4
 subst hqs
 obtain ⟨rfl,rfl,rfl⟩:=Value.slice.inj hls
 obtain ⟨ca1,cb1,cc1,ca2,cb2,cc2,ca3,cb3,cc3,ca4,cb4,cc4,hqs⟩:=RE.shape la
 subst hqs
 obtain ⟨da1,db1,dc1,da2,db2,dc2,da3,db3,dc3,da4,db4,dc4,hqs⟩:=RE.shape lb
 subst hqs
 have K:=hide (K4.mk hhx hhy B4.out H1.out U1.out H2.out U2.out H3.out U3.out E4.out hbl ra la rb lb)
 clear hb4 B3 G1 T1 G2 T2 E3 R3 pw hr4 hal rp hls ra la rb lb t1 t2 t3 t4 t5 B4 E4 H1 U1 H2 U2 H3 U3 hbl hhx hhy
 simp only [ecl_lf] at K ⊢
 go_wp2_with fail
 refine wp_region_held_drew (S:=(fun W=>K4 w x y hx hy w1.heap.size w2.heap.size w3.heap.size w4.heap.size ⟨.slice x1 y1 z1,.slice x2 y2 z2,.slice x3 y3 z3,.slice x4 y4 z4⟩ ⟨.slice u1' v1' t1',.slice u2' v2' t2',.slice u3' v3' t3',.slice u4' v4' t4'⟩ ⟨.slice aa1 ab1 ac1,.slice aa2 ab2 ac2,.slice aa3 ab3 ac3,.slice aa4 ab4 ac4⟩ ⟨.slice ba1 bb1 bc1,.slice (some ⟨b0,o0,none⟩) 2 bc2,.slice ba3 bb3 bc3,.slice ba4 bb4 bc4⟩ ⟨.slice ca1 cb1 cc1,.slice ca2 cb2 cc2,.slice ca3 cb3 cc3,.slice ca4 cb4 cc4⟩ ⟨.slice da1 db1 dc1,.slice da2 db2 dc2,.slice da3 db3 dc3,.slice da4 db4 dc4⟩ b0 o0 W)) (by kernel_rfl) (K.out.then (by repeat (first|exact Below.refl _ _|refine belowE_dr ?_|refine belowE_dn ?_ _))) (fun hHeld=>?_)
 clear K
 refine wpAnyH_ready (rs:=[0]) (by kernel_rfl) (by simp) (AllReadyH.cons rfl (fun K hK=>?_) AllReadyH.nil)
 go_simp
 refine (aw.out _ hHeld.bel).mono ?_
 rintro e w9 ⟨rfl,hb9⟩
 have hS9:=hHeld.then hb9
 clear hb9 hHeld
 dsimp only
 refine hK.out _ _ hS9 (fun hHeld=>?_)
 clear hK K hS9
 try go_simp
 refine wpAnyH_take (i:=1) (v:=?_) rfl (by kernel_rfl) (by kernel_rfl) (by kernel_rfl) (fun _ _ _ h=>h) (Or.inl ⟨by kernel_rfl,?_⟩) (by assumption) ?_
 rotate_left
 ·intro wq hSw;(try dsimp only at hSw);go_simp;try rfl
 try simp only [Act.put,List.setIfInBounds_toArray,List.set_cons_zero,List.set_cons_succ]
 refine wpAnyH_take (i:=2) (v:=?_) rfl (by kernel_rfl) (by kernel_rfl) (by kernel_rfl) (fun _ _ _ h=>h) (Or.inl ⟨by kernel_rfl,?_⟩) (by assumption) ?_
 rotate_left
 ·intro wq hSw;(try dsimp only at hSw);have c:=hSw.e3.cells;(try dsimp only at c);go_simp;try rfl
 try simp only [Act.put,List.setIfInBounds_toArray,List.set_cons_zero,List.set_cons_succ]
 refine wpAnyH_take (i:=3) (v:=?_) rfl (by kernel_rfl) (by kernel_rfl) (by kernel_rfl) (fun _ _ _ h=>h) (Or.inl ⟨by kernel_rfl,?_⟩) (by assumption) ?_
 rotate_left
 ·intro wq hSw;(try dsimp only at hSw);have c:=hSw.e1.cells;(try dsimp only at c);go_simp;try rfl
 try simp only [Act.put,List.setIfInBounds_toArray,List.set_cons_zero,List.set_cons_succ]
 refine wpAnyH_ready (rs:=[4]) (by kernel_rfl) (by simp) (AllReadyH.cons rfl (fun K hK=>?_) AllReadyH.nil)
 go_simp
 refine (hHeld.s1).mono ?_
 rintro e w9 ⟨rfl,hb9⟩
 have hS9:=hHeld.then hb9
 clear hb9 hHeld
 dsimp only
 refine hK.out _ _ hS9 (fun hHeld=>?_)
 clear hK K hS9
 try go_simp
 refine wpAnyH_take (i:=5) (v:=?_) rfl (by kernel_rfl) (by kernel_rfl) (by kernel_rfl) (fun _ _ _ h=>h) (Or.inl ⟨by kernel_rfl,?_⟩) (by assumption) ?_
 rotate_left
 ·intro wq hSw;(try dsimp only at hSw);go_simp;try rfl
 try simp only [Act.put,List.setIfInBounds_toArray,List.set_cons_zero,List.set_cons_succ]
 refine wpAnyH_take (i:=6) (v:=?_) rfl (by kernel_rfl) (by kernel_rfl) (by kernel_rfl) (fun _ _ _ h=>h) (Or.inl ⟨by kernel_rfl,?_⟩) (by assumption) ?_
 rotate_left
 ·intro wq hSw;(try dsimp only at hSw);go_simp;try rfl
 try simp only [Act.put,List.setIfInBounds_toArray,List.set_cons_zero,List.set_cons_succ]
 refine wpAnyH_take (i:=7) (v:=?_) rfl (by kernel_rfl) (by kernel_rfl) (by kernel_rfl) (fun _ _ _ h=>h) (Or.inl ⟨by kernel_rfl,?_⟩) (by assumption) ?_
 rotate_left
 ·intro wq hSw;(try dsimp only at hSw);go_simp;try rfl
 try simp only [Act.put,List.setIfInBounds_toArray,List.set_cons_zero,List.set_cons_succ]
 refine wpAnyH_take (i:=8) (v:=?_) rfl (by kernel_rfl) (by kernel_rfl) (by kernel_rfl) (fun _ _ _ h=>h) (Or.inl ⟨by kernel_rfl,?_⟩) (by assumption) ?_
 rotate_left
 ·intro wq hSw;(try dsimp only at hSw);have c:=hSw.e4.cells;simp only [lf,vz,vH,vhd,nilB] at c;(try dsimp only at c);go_simp;try rfl
 try simp only [Act.put,List.setIfInBounds_toArray,List.set_cons_zero,List.set_cons_succ]
 refine wpAnyH_take (i:=9) (v:=?_) rfl (by kernel_rfl) (by kernel_rfl) (by kernel_rfl) (fun _ _ _ h=>h) (Or.inl ⟨by kernel_rfl,?_⟩) (by assumption) ?_
 rotate_left
 ·intro wq hSw;(try dsimp only at hSw);go_simp;try rfl
 try simp only [Act.put,List.setIfInBounds_toArray,List.set_cons_zero,List.set_cons_succ]
 refine wpAnyH_take (i:=10) (v:=?_) rfl (by kernel_rfl) (by kernel_rfl) (by kernel_rfl) (fun _ _ _ h=>h) (Or.inl ⟨by kernel_rfl,?_⟩) (by assumption) ?_
 rotate_left
 ·intro wq hSw;(try dsimp only at hSw);go_simp;try rfl
 try simp only [Act.put,List.setIfInBounds_toArray,List.set_cons_zero,List.set_cons_succ]
 refine wpAnyH_take (i:=11) (v:=?_) rfl (by kernel_rfl) (by kernel_rfl) (by kernel_rfl) (fun _ _ _ h=>h) (Or.inl ⟨by kernel_rfl,?_⟩) (by assumption) ?_
 rotate_left
 ·intro wq hSw;(try dsimp only at hSw);go_simp;try rfl
 try simp only [Act.put,List.setIfInBounds_toArray,List.set_cons_zero,List.set_cons_succ]
 refine wpAnyH_take (i:=12) (v:=?_) rfl (by kernel_rfl) (by kernel_rfl) (by kernel_rfl) (fun _ _ _ h=>h) (Or.inl ⟨by kernel_rfl,?_⟩) (by assumption) ?_
 rotate_left
 ·intro wq hSw;(try dsimp only at hSw);go_simp;try rfl
 try simp only [Act.put,List.setIfInBounds_toArray,List.set_cons_zero,List.set_cons_succ]
 refine wpAnyH_take (i:=13) (v:=?_) rfl (by kernel_rfl) (by kernel_rfl) (by kernel_rfl) (fun _ _ _ h=>h) (Or.inl ⟨by kernel_rfl,?_⟩) (by assumption) ?_
 rotate_left
 ·intro wq hSw;(try dsimp only at hSw);have c:=hSw.e4.cells;simp only [lf,vz,vH,vhd,nilB] at c;(try dsimp only at c);go_simp;try rfl
 try simp only [Act.put,List.setIfInBounds_toArray,List.set_cons_zero,List.set_cons_succ]
 refine wpAnyH_take (i:=14) (v:=?_) rfl (by kernel_rfl) (by kernel_rfl) (by kernel_rfl) (fun _ _ _ h=>h) (Or.inl ⟨by kernel_rfl,?_⟩) (by assumption) ?_
 rotate_left
 ·intro wq hSw;(try dsimp only at hSw);go_simp;try rfl
 try simp only [Act.put,List.setIfInBounds_toArray,List.set_cons_zero,List.set_cons_succ]
 refine wpAnyH_take (i:=15) (v:=?_) rfl (by kernel_rfl) (by kernel_rfl) (by kernel_rfl) (fun _ _ _ h=>h) (Or.inl ⟨by kernel_rfl,?_⟩) (by assumption) ?_
 rotate_left
 ·intro wq hSw;(try dsimp only at hSw);go_simp;try rfl
 try simp only [Act.put,List.setIfInBounds_toArray,List.set_cons_zero,List.set_cons_succ]
 refine wpAnyH_take (i:=16) (v:=?_) rfl (by kernel_rfl) (by kernel_rfl) (by kernel_rfl) (fun _ _ _ h=>h) (Or.inl ⟨by kernel_rfl,?_⟩) (by assumption) ?_
 rotate_left
 ·intro wq hSw;(try dsimp only at hSw);go_simp;try rfl
 try simp only [Act.put,List.setIfInBounds_toArray,List.set_cons_zero,List.set_cons_succ]
 refine wpAnyH_take (i:=17) (v:=?_) rfl (by kernel_rfl) (by kernel_rfl) (by kernel_rfl) (fun _ _ _ h=>h) (Or.inl ⟨by kernel_rfl,?_⟩) (by assumption) ?_
 rotate_left
 ·intro wq hSw;(try dsimp only at hSw);go_simp;try rfl
 try simp only [Act.put,List.setIfInBounds_toArray,List.set_cons_zero,List.set_cons_succ]
 refine wpAnyH_take (i:=18) (v:=?_) rfl (by kernel_rfl) (by kernel_rfl) (by kernel_rfl) (fun _ _ _ h=>h) (Or.inl ⟨by kernel_rfl,?_⟩) (by assumption) ?_
 rotate_left
 ·intro wq hSw;(try dsimp only at hSw);go_simp;try rfl
 try simp only [Act.put,List.setIfInBounds_toArray,List.set_cons_zero,List.set_cons_succ]
 refine wpAnyH_take (i:=19) (v:=?_) rfl (by kernel_rfl) (by kernel_rfl) (by kernel_rfl) (fun _ _ _ h=>h) (Or.inl ⟨by kernel_rfl,?_⟩) (by assumption) ?_
 rotate_left
 ·intro wq hSw;(try dsimp only at hSw);have c:=hSw.e4.cells;simp only [lf,vz,vH,vhd,nilB] at c;(try dsimp only at c);go_simp;try rfl
 try simp only [Act.put,List.setIfInBounds_toArray,List.set_cons_zero,List.set_cons_succ]
 refine wpAnyH_take (i:=20) (v:=?_) rfl (by kernel_rfl) (by kernel_rfl) (by kernel_rfl) (fun _ _ _ h=>h) (Or.inl ⟨by kernel_rfl,?_⟩) (by assumption) ?_
 rotate_left
 ·intro wq hSw;(try dsimp only at hSw);go_simp;try rfl
 try simp only [Act.put,List.setIfInBounds_toArray,List.set_cons_zero,List.set_cons_succ]
 refine wpAnyH_take (i:=21) (v:=?_) rfl (by kernel_rfl) (by kernel_rfl) (by kernel_rfl) (fun _ _ _ h=>h) (Or.inl ⟨by kernel_rfl,?_⟩) (by assumption) ?_
 rotate_left
 ·intro wq hSw;(try dsimp only at hSw);have c:=range13 hSw.ra;simp only [Nat.zero_mul,Nat.add_zero] at c;(try dsimp only at c);go_simp;try rfl
 try simp only [Act.put,List.setIfInBounds_toArray,List.set_cons_zero,List.set_cons_succ]
 refine wpAnyH_take (i:=22) (v:=?_) rfl (by kernel_rfl) (by kernel_rfl) (by kernel_rfl) (fun _ _ _ h=>h) (Or.inl ⟨by kernel_rfl,?_⟩) (by assumption) ?_
 rotate_left
 ·intro wq hSw;(try dsimp only at hSw);have c:=hSw.e1.cells;(try dsimp only at c);go_simp;try rfl
 try simp only [Act.put,List.setIfInBounds_toArray,List.set_cons_zero,List.set_cons_succ]
 refine wpAnyH_ready (rs:=[23]) (by kernel_rfl) (by simp) (AllReadyH.cons rfl (fun K hK=>?_) AllReadyH.nil)
 go_simp
 refine (hHeld.s2).mono ?_
 rintro e w9 ⟨rfl,hb9⟩
 have hS9:=hHeld.then hb9
 clear hb9 hHeld
 dsimp only
 refine hK.out _ _ hS9 (fun hHeld=>?_)
 clear hK K hS9
 try go_simp
 refine wpAnyH_take (i:=24) (v:=?_) rfl (by kernel_rfl) (by kernel_rfl) (by kernel_rfl) (fun _ _ _ h=>h) (Or.inl ⟨by kernel_rfl,?_⟩) (by assumption) ?_
 rotate_left
 ·intro wq hSw;(try dsimp only at hSw);go_simp;try rfl
 try simp only [Act.put,List.setIfInBounds_toArray,List.set_cons_zero,List.set_cons_succ]
 refine wpAnyH_take (i:=25) (v:=?_) rfl (by kernel_rfl) (by kernel_rfl) (by kernel_rfl) (fun _ _ _ h=>h) (Or.inl ⟨by kernel_rfl,?_⟩) (by assumption) ?_
 rotate_left
 ·intro wq hSw;(try dsimp only at hSw);go_simp;try rfl
 try simp only [Act.put,List.setIfInBounds_toArray,List.set_cons_zero,List.set_cons_succ]
 refine wpAnyH_take (i:=26) (v:=?_) rfl (by kernel_rfl) (by kernel_rfl) (by kernel_rfl) (fun _ _ _ h=>h) (Or.inl ⟨by kernel_rfl,?_⟩) (by assumption) ?_
 rotate_left
 ·intro wq hSw;(try dsimp only at hSw);go_simp;try rfl
 try simp only [Act.put,List.setIfInBounds_toArray,List.set_cons_zero,List.set_cons_succ]
 refine wpAnyH_take (i:=27) (v:=?_) rfl (by kernel_rfl) (by kernel_rfl) (by kernel_rfl) (fun _ _ _ h=>h) (Or.inl ⟨by kernel_rfl,?_⟩) (by assumption) ?_
 rotate_left
 ·intro wq hSw;(try dsimp only at hSw);have c:=hSw.e4.cells;simp only [lf,vz,vH,vhd,nilB] at c;(try dsimp only at c);go_simp;try rfl
 try simp only [Act.put,List.setIfInBounds_toArray,List.set_cons_zero,List.set_cons_succ]
 refine wpAnyH_take (i:=28) (v:=?_) rfl (by kernel_rfl) (by kernel_rfl) (by kernel_rfl) (fun _ _ _ h=>h) (Or.inl ⟨by kernel_rfl,?_⟩) (by assumption) ?_
 rotate_left
 ·intro wq hSw;(try dsimp only at hSw);go_simp;try rfl
 try simp only [Act.put,List.setIfInBounds_toArray,List.set_cons_zero,List.set_cons_succ]
 refine wpAnyH_take (i:=29) (v:=?_) rfl (by kernel_rfl) (by kernel_rfl) (by kernel_rfl) (fun _ _ _ h=>h) (Or.inl ⟨by kernel_rfl,?_⟩) (by assumption) ?_
 rotate_left
 ·intro wq hSw;(try dsimp only at hSw);have c:=range13 hSw.rb;simp only [Nat.one_mul,Nat.add_zero] at c;have cb:=c;simp only [Nat.add_assoc,Nat.reduceAdd] at cb;(try dsimp only at c cb);go_simp;try rfl
 try simp only [Act.put,List.setIfInBounds_toArray,List.set_cons_zero,List.set_cons_succ]
 refine wpAnyH_take (i:=30) (v:=?_) rfl (by kernel_rfl) (by kernel_rfl) (by kernel_rfl) (fun _ _ _ h=>h) (Or.inl ⟨by kernel_rfl,?_⟩) (by assumption) ?_
 rotate_left
 ·intro wq hSw;(try dsimp only at hSw);have c:=hSw.e2.cells;(try dsimp only at c);go_simp;try rfl
 try simp only [Act.put,List.setIfInBounds_toArray,List.set_cons_zero,List.set_cons_succ]
 refine wpAnyH_ready (rs:=[31]) (by kernel_rfl) (by simp) (AllReadyH.cons rfl (fun K hK=>?_) AllReadyH.nil)
 go_simp
 refine (hHeld.s3).mono ?_
 rintro e w9 ⟨rfl,hb9⟩
 have hS9:=hHeld.then hb9
 clear hb9 hHeld
 dsimp only
 refine hK.out _ _ hS9 (fun hHeld=>?_)
 clear hK K hS9
 try go_simp
 refine wpAnyH_take (i:=32) (v:=?_) rfl (by kernel_rfl) (by kernel_rfl) (by kernel_rfl) (fun _ _ _ h=>h) (Or.inl ⟨by kernel_rfl,?_⟩) (by assumption) ?_
 rotate_left
 ·intro wq hSw;(try dsimp only at hSw);go_simp;try rfl
 try simp only [Act.put,List.setIfInBounds_toArray,List.set_cons_zero,List.set_cons_succ]
 refine wpAnyH_take (i:=33) (v:=?_) rfl (by kernel_rfl) (by kernel_rfl) (by kernel_rfl) (fun _ _ _ h=>h) (Or.inl ⟨by kernel_rfl,?_⟩) (by assumption) ?_
 rotate_left
 ·intro wq hSw;(try dsimp only at hSw);go_simp;try rfl
 try simp only [Act.put,List.setIfInBounds_toArray,List.set_cons_zero,List.set_cons_succ]
 refine wpAnyH_done (by kernel_rfl) ?_ _
 go_simp
 go_wp2_with fail
 go_ret
 exact ⟨rfl,hHeld.bel⟩
end Lx
end Go.Proofs.YtcnfchblfcfimaaGreatDoor
namespace Go.Proofs.YtcnfchblfcfimaaGreatDoor
namespace Lx
open Go.RowKit
variable {dq : {_f : (p : Prop) → Decidable p // True}}
theorem pE_err {f:Nat} {l:List UInt8} (h:pE (paR dq f l)=0):∃ x,paR dq f l=.inr x:=by
 cases hq:paR dq f l with
 | inr x=>exact ⟨x,rfl⟩
 | inl y =>
  exfalso
  rw [hq] at h
  have h0:y.1=0:=h
  unfold paR at hq
  cases hr:rdR f l with
  | inl z =>
   rw [hr] at hq
   cases hq
   exact rd_err hr h0
  | inr z =>
   rw [hr] at hq
   simp only [prsO] at hq
   split at hq
   ·cases hq
   ·cases hq
    cases h0
theorem prs_two {n:Nat} {C:ET n→Int} {o:Sum (Int×Int) (ET n)} {u:ET n} (h:(∃ q,o=.inl (2,q))∨o=.inr u):pE (prsO C o)=2∨prsO C o=.inr u:=by
 rcases h with ⟨q,rfl⟩|rfl
 ·exact Or.inl rfl
 ·simp only [prsO]
  split
  ·exact Or.inr rfl
  ·exact Or.inl rfl
theorem braces_gen (hP:ParseOk) (gk:Nat) (hg:1005≤gk) (a b:ByteArray) (w:World) (g:Gw w):Calls Tryz.prog 7 #[.string a,.string b] w fun e w'=>e=.returned (.bool true)∧Below w.heap.size w w':=by
 have dq:{_f:(p:Prop)→Decidable p // True}:=⟨fun p=>Classical.propDecidable p,trivial⟩
 by_cases h1:(16384:Int)<(a.size:Int)
 ·exact br_long1 a b w h1
 by_cases h2:(16384:Int)<(b.size:Int)
 ·exact br_long2 a b w h1 h2
 by_cases hb:pE (paR dq (gk + 20) (bl a))≠0∨pE (paR dq (gk + 20) (bl b))≠0
 ·exact br_bad hP gk hg a b w g h1 h2 hb
 have ka:pE (paR dq (gk + 20) (bl a))=0:=Classical.not_not.1 fun q=>hb (Or.inl q)
 have kb:pE (paR dq (gk + 20) (bl b))=0:=Classical.not_not.1 fun q=>hb (Or.inr q)
 obtain ⟨x,hx⟩:=pE_err ka
 obtain ⟨y,hy⟩:=pE_err kb
 have cz:pE (paR dq (gk + 20 + 1) (Zt (bl a)))=2∨paR dq (gk + 20 + 1) (Zt (bl a))=.inr (upE (dp (gk + 20) + 2) (upE (dp (gk + 20) + 1) x)):=prs_two (rd_Z (rd_in hx).1)
 have cw:pE (paR dq (gk + 20 + 1) (Wt (bl a) (bl b)))=2∨paR dq (gk + 20 + 1) (Wt (bl a) (bl b))=.inr ((lf 12,[upE (dp (gk + 20) + 1) x,upE (dp (gk + 20) + 1) y]):ET (dp (gk + 20 + 1) + 1)):=prs_two (rd_W (rd_in hx).1 (rd_in hy).1)
 have zero:∀ {n:Nat} {o:Sum (Int×Int) (ET n)} {u:ET n},o=.inr u→pE o=0:=fun h=>by rw [h];rfl
 rcases cz with cz|cz
 ·exact br_lim hP gk hg a b w g h1 h2 ka kb (Or.inl cz) (by rcases cw with cw|cw;exact Or.inr cw;exact Or.inl (zero cw))
 ·rcases cw with cw|cw
  ·exact br_lim hP gk hg a b w g h1 h2 ka kb (Or.inr ⟨zero cz,cw⟩) (Or.inr cw)
  ·exact br_full hP gk hg a b w g h1 h2 hx hy cz cw
theorem braces_any (hP:ParseOk) (a b:ByteArray) (w:World) (g:Gw w) {p q:Prop} (_:p) (_:q):Calls Tryz.prog 7 #[.string a,.string b] w fun e w'=>e=.returned (.bool true)∧Below w.heap.size w w' :=
 braces_gen hP 1005 (Nat.le_refl _) a b w g
end Lx
end Go.Proofs.YtcnfchblfcfimaaGreatDoor
