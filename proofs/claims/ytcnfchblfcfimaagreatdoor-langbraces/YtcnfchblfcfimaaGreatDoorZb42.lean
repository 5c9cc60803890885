/- Merged by program: PfFill, PzTypes. -/
import Derived.Test.YtcnfchblfcfimaaGreatDoorZb41
import Derived.Test.YtcnfchblfcfimaaGreatDoorZb40
set_option linter.unusedSimpArgs false
set_option linter.unusedVariables false
namespace Go.Proofs.YtcnfchblfcfimaaGreatDoor
namespace Lx
open Go.RowKit
variable {dq : {_f : (p : Prop) → Decidable p // True}}
theorem isV_null:IsV 1 vn1:=by
 refine ⟨⟨by decide,by decide,rfl,Or.inr rfl⟩,⟨fun h=>?_,fun h=>?_,fun h=>?_,fun h=>?_⟩,fun y hy=>absurd hy (by simp [vn1,vH])⟩
 all_goals exact absurd h (by decide)
theorem lk_four {h:Eh} {m:Nat} (k:h.op=4∨h.op=12):lkV h m=⟨1,vn1⟩:=by
 rcases k with k|k <;> simp [lkV,k]
set_option maxHeartbeats 4000000 in
set_option maxRecDepth 100000 in
theorem isFilled_anyE (n:Nat) (x:ET n) (q:Sl) (w:World) (hr:RE n w x q) (hs:SL n x w):Calls Tryz.prog 38 #[.agg (ecl (ehd n x) q)] w fun e w'=>TB (fiP n x) w e w':=by
 have hl:=hide (fun W (hb:Below w.heap.size w W)=>like_any n x q W (hr.below hb) hs.1)
 have hlen:∃ a c,q.ls=.slice a (elen n x) c:=by
  cases n with
  | zero=>exact Empty.elim x
  | succ n =>
   obtain ⟨a,c,e,_⟩:=hr.tl.len
   exact ⟨a,c,e⟩
 obtain ⟨x1,y1,z1,x2,y2,z2,x3,y3,z3,x4,y4,z4,hqs⟩:=hr.shape
 subst hqs
 obtain ⟨a,c,hle⟩:=hlen
 obtain ⟨rfl,rfl,rfl⟩:=Value.slice.inj hle
 clear hle
 obtain ⟨E,hE⟩:=chk_ex _ (lkV (ehd n x) (elen n x)).2
 have hk:=hide (fun ns ls W (hb:Below w.heap.size w W) (h:RD _ W (lkV (ehd n x) (elen n x)).2 ns ls)=>check_any _ (lkV (ehd n x) (elen n x)).2 ns ls W (lk_ready hs.1 h) (hs.2.below hb) E hE)
 have hx:IsV _ (lkV (ehd n x) (elen n x)).2↔E≠40:=by
  rcases hE with ⟨rfl,h⟩|⟨rfl,h,h'⟩|⟨rfl,h,h'⟩
  ·exact ⟨fun q=>absurd q h,fun q=>absurd rfl q⟩
  ·exact ⟨fun _=>by decide,fun _=>h⟩
  ·exact ⟨fun _=>by decide,fun _=>h⟩
 have hP:Hid (fiP n x↔((ehd n x).op=4→elen n x=1)∧((ehd n x).op=12→2≤elen n x)∧((ehd n x).op=7→isCn (vhd _ (ehd n x).val).kind)∧E≠40):=by
  show _↔_
  unfold fiP
  rw [hx]
 have h40:Hid ((ehd n x).op=4∨(ehd n x).op=12→E≠40):=fun k=>hx.1 (by rw [lk_four k];exact isV_null)
 obtain ⟨p,hp⟩:∃ p,fiP n x=p:=⟨_,rfl⟩
 rw [hp] at hP ⊢
 have X0:=hide (ex_new w (ehd n x) ⟨.slice x1 y1 z1,.slice x2 (elen n x) z2,.slice x3 y3 z3,.slice x4 y4 z4⟩)
 clear hr hs hE hp hx
 unfold LkP at hl
 obtain ⟨h,hh⟩:∃ h,ehd n x=h:=⟨_,rfl⟩
 obtain ⟨m,hm⟩:∃ m,elen n x=m:=⟨_,rfl⟩
 rw [hh,hm] at hl hk hP
 rw [hh] at h40
 rw [hh,hm] at X0 ⊢
 clear hh hm
 obtain ⟨V,hV⟩:∃ V,lkV h m=V:=⟨_,rfl⟩
 rw [hV] at hl hk
 clear hV
 obtain ⟨vn,v⟩:=V
 simp only at hl hk
 obtain ⟨op,nm,nms,hvn,hval⟩:=h
 have hic:=hide (fun W=>isConst_any (vhd hvn hval).kind W)
 simp only [ecl] at hl X0 hP h40 ⊢
 by_cases k4:op=4
 ·subst k4
  have hE:=h40.out (Or.inl rfl)
  have hq:p↔m=1:=by rw [hP.out];simp [hE]
  obtain ⟨b,hb⟩:=tells p
  have hbb:=hide hb
  have hmb:((m:Int)==1)=b:=by
   rw [Bool.eq_iff_iff,hb,hq]
   simp
   omega
  clear hq hb
  go_enter Tryz.func38, Tryz.ntmps38
  go_wp2_with fail
  go_ret
  exact ⟨_,rfl,(show Hid _ from ⟨fun q=>hbb.out.1 (by first|exact q|exact hmb.symm.trans q),fun q=>by first|exact hbb.out.2 q|exact hmb.trans (hbb.out.2 q)⟩),below_al (Below.refl _ _)⟩
 by_cases k12:op=12
 ·subst k12
  have hE:=h40.out (Or.inr rfl)
  have hq:p↔2≤m:=by rw [hP.out];simp [hE]
  have hQ:=hide hq
  clear hq
  by_cases h2:(2:Int)≤(m:Int)
  ·go_enter Tryz.func38, Tryz.ntmps38
   go_wp2_with fail
   go_ret
   exact TB.yes (hQ.out.2 (by omega)) (below_al (Below.refl _ _))
  ·go_enter Tryz.func38, Tryz.ntmps38
   go_wp2_with fail
   go_ret
   exact TB.no (fun q=>by have:=hQ.out.1 q;omega) (below_al (Below.refl _ _))
 have tailP:Hid (∀ w1,Below w.heap.size w w1→∀ e w2,(e=.returned (.bool (E != 40))∧Below w.heap.size w w2)→(op=7→isCn (vhd hvn hval).kind)→TB p w e w2):=by
  rintro w1 hb1 e w2 ⟨rfl,hb2⟩ hc
  refine ⟨_,rfl,(show Hid _ from ⟨fun q=>hP.out.2 ⟨fun e=>absurd e k4,fun e=>absurd e k12,hc,by simpa using q⟩,fun q=>by simpa using (hP.out.1 q).2.2.2⟩),hb2⟩
 by_cases k7:op=7
 ·subst k7
  go_enter Tryz.func38, Tryz.ntmps38
  go_wp2_with (go_at_call 83;refine Sto.out ?_)
  refine Sto.mk ?_
  refine (hic.out _).mono ?_
  rintro e w1 ⟨b,rfl,hT,hb1⟩
  have hT1:=hide hT
  have B1:=hide (below_then (below_al (Below.refl _ _)) hb1)
  have X1:=hide (X0.out.below hb1)
  have hl1:=hide (hl.out w1 B1.out)
  have x0:=X1.out.cells
  clear hT hb1 hl X0
  cases b
  ·go_wp2_with fail
   go_ret
   exact TB.no (fun q=>by have:=hT1.out.2 ((hP.out.1 q).2.2.1 (by first|rfl|trivial));cases this) B1.out
  ·have hc7:=hide (hT1.out.1 rfl)
   go_wp2_with (go_at_call 85;refine Sto.out ?_)
   refine Sto.mk ?_
   refine hl1.out.mono ?_
   rintro e w2 ⟨ns,ls,rfl,hrd,hb2⟩
   have B2:=hide (below_then B1.out hb2)
   have hc:=hide (hk.out ns ls w2 B2.out hrd)
   clear hb2 hrd hk hl1
   unfold vals at hc ⊢
   go_wp2_with (go_at_call 84;refine Sto.out ?_)
   refine Sto.mk ?_
   refine hc.out.mono ?_
   rintro e w3 ⟨rfl,hb3⟩
   have B3:=hide (below_then B2.out hb3)
   go_wp2_with fail
   go_ret
   exact tailP.out _ B1.out _ _ ⟨rfl,B3.out⟩ (fun _=>hc7.out)
 ·have hl1:=hide (hl.out _ (below_al (o:=.cells #[.int .i64 op,.string nm,.slice x1 y1 z1,.slice x2 m z2,.int .i64 (vhd hvn hval).kind,.bool (vhd hvn hval).flag,.bool (vhd hvn hval).neg,.string (vhd hvn hval).dig,.int .i64 (vhd hvn hval).exp,.int .u64 (vhd hvn hval).bits,.string (vhd hvn hval).text,.slice x3 y3 z3,.slice x4 y4 z4] 33) (Below.refl _ _)))
  clear hl
  go_enter Tryz.func38, Tryz.ntmps38
  go_wp2_with (go_at_call 85;refine Sto.out ?_)
  refine Sto.mk ?_
  refine hl1.out.mono ?_
  rintro e w2 ⟨ns,ls,rfl,hrd,hb2⟩
  have B2:=hide (below_then (below_al (Below.refl _ _)) hb2)
  have hc:=hide (hk.out ns ls w2 B2.out hrd)
  clear hb2 hrd hk hl1
  unfold vals at hc ⊢
  go_wp2_with (go_at_call 84;refine Sto.out ?_)
  refine Sto.mk ?_
  refine hc.out.mono ?_
  rintro e w3 ⟨rfl,hb3⟩
  have B3:=hide (below_then B2.out hb3)
  go_wp2_with fail
  go_ret
  exact tailP.out _ B2.out _ _ ⟨rfl,B3.out⟩ (fun e=>absurd e k7)
theorem askShort:Ask 39 shP SL:=⟨fun n x q w hr hs=>isShort_anyE n x q w hr hs,fun n x w W h hb=>h.low hb,fun n h l w hs i hi=>⟨hs.1.2.2 _ (List.getElem_mem hi),hs.2⟩⟩
theorem askFilled:Ask 38 fiP SL:=⟨fun n x q w hr hs=>isFilled_anyE n x q w hr hs,fun n x w W h hb=>h.low hb,fun n h l w hs i hi=>⟨hs.1.2.2 _ (List.getElem_mem hi),hs.2⟩⟩
def lck (dq:{_f:(p:Prop)→Decidable p // True}) (n:Nat) (x:ET n):Int:=@ite _ (¬ (evA bareP n x∧evA fiP n x)) (dq.1 _) 140 (@ite _ (evA shP n x∧edep n x≤16∧esiz n x≤512) (dq.1 _) 0 2)
theorem lck_is (n:Nat) (x:ET n):ChkE fiP shP n x (lck dq n x):=by
 unfold lck ChkE
 by_cases a:evA bareP n x∧evA fiP n x
 ·by_cases b:evA shP n x∧edep n x≤16∧esiz n x≤512
  ·simp [a,b]
  ·simp [a,b]
 ·simp [a]
theorem check_is (n:Nat) (x:ET n) (q:Sl) (w:World) (hr:RE n w x q) (hs:SL n x w) (hz:esiz n x≤200000):Calls Tryz.prog 16 #[.agg (ecl (ehd n x) q)] w fun e w'=>e=.returned (.int .i64 (lck dq n x))∧Below w.heap.size w w' :=
 lcheck_any askFilled askShort n x q w hr hs hs hz _ (lck_is n x)
theorem rd_bound {f:Nat} {l:List UInt8} {x:ET (dp f + 1)} (h:rdR f l=.inr x):GE _ x∧esiz _ x≤2000:=by
 unfold rdR at h
 split at h
 ·rename_i h0
  obtain ⟨h1,h2,h3⟩:=scR_ok l h0
  have hok:=h3 (l.length:Nat)
  revert h
  cases hm:mpgT (stp f) ((scR l).2.2++[⟨0,[],(l.length:Nat)⟩]) with
  | inl p=>intro h;cases h
  | inr y =>
   intro h
   have hlen:((scR l).2.2++[(⟨0,[],(l.length:Nat)⟩:Tk)]).length≤1025:=by simp;omega
   obtain ⟨g1,g2⟩:=mpg_kd (stp_nx f) (stp_kd f) _ _ hok (by omega) hm
   have e:x=y.1:=by
    obtain ⟨y1,y2⟩:=y
    cases y2 with
    | nil=>cases h
    | cons t r =>
     simp only [endR] at h
     split at h
     ·cases h;rfl
     ·cases h
   rw [e]
   exact ⟨g1,by omega⟩
 ·cases h
theorem rd_err {f:Nat} {l:List UInt8} {y:Int×Int} (h:rdR f l=.inl y):y.1≠0:=by
 unfold rdR at h
 split at h
 ·revert h
  cases endR (mpgT (stp f) ((scR l).2.2++[⟨0,[],(l.length:Nat)⟩])) with
  | inl p=>intro h;cases h;simp
  | inr e=>intro h;cases h
 ·rename_i h0
  cases h
  simp only
  omega
def paR (dq:{_f:(p:Prop)→Decidable p // True}) (f:Nat) (l:List UInt8):Sum (Int×Int) (ET (dp f + 1)):=prsO (lck dq _) (rdR f l)
theorem parse_is (hP:ParseOk) (f:Nat) (hf:1025≤f) (s:ByteArray) (w:World) (g:Gg w) (gp:Gp w) (hz:s.size≤1000000) :
  Calls Tryz.prog 9 #[.string s] w fun e w'=>RdP (dp f + 1) w (paR dq f (bl s)) e w' :=
 parse_any hP f hf s w g gp hz (lck dq _) (fun y h=>rd_err h) fun x q W h hr hb=>check_is _ x q W hr ⟨(rd_bound h).1,g.gu.below hb⟩ (by have:=(rd_bound h).2;omega)
end Lx
end Go.Proofs.YtcnfchblfcfimaaGreatDoor
namespace Go.Proofs.YtcnfchblfcfimaaGreatDoor
namespace Lx
open Go.RowKit
variable {dq : {_f : (p : Prop) → Decidable p // True}}
theorem GT.sz:∀ {n:Nat} {x:TT n},GT n x→TSz n x
 | 0,x,_=>Empty.elim x
 | n + 1,x,h=>⟨by have:=h.1;omega,h.2.1,fun y hy=>(h.2.2.2 y hy).sz⟩
def tck (dq:{_f:(p:Prop)→Decidable p // True}) (n:Nat) (x:TT n):Int:=@ite _ (¬ IsT n x) (dq.1 _) 110 (@ite _ (TWin n x) (dq.1 _) 0 2)
theorem tck_is (n:Nat) (x:TT n):TChk n x (tck dq n x):=by
 unfold tck TChk
 by_cases a:IsT n x
 ·by_cases b:TWin n x
  ·simp [a,b]
  ·simp [a,b]
 ·simp [a]
theorem tcheck_is (n:Nat) (x:TT n) (q:S2) (w:World) (hr:RTq n w x q) (hg:GT n x) (hz:tsiz n x≤200000) (g:Ut.Gu w) (gt:Gt w):Calls Tryz.prog 52 #[.agg (tcl (thd n x) q)] w fun e w'=>e=.returned (.int .i64 (tck dq n x))∧Below w.heap.size w w' :=
 tcheck_any n x q.ns q.ls w ⟨hr,hg.sz,hz⟩ g gt _ (tck_is n x)
theorem trd_bound {f:Nat} {l:List UInt8} {x:TT f} (h:rdRt f l=.inr x):GT _ x∧tsiz _ x≤2000:=by
 unfold rdRt at h
 split at h
 ·rename_i h0
  obtain ⟨h1,h2,h3⟩:=scR_ok l h0
  have hok:=h3 (l.length:Nat)
  revert h
  cases hm:tyf f ((scR l).2.2++[⟨0,[],(l.length:Nat)⟩]) with
  | inl p=>intro h;cases h
  | inr y =>
   intro h
   have hlen:((scR l).2.2++[(⟨0,[],(l.length:Nat)⟩:Tk)]).length≤1025:=by simp;omega
   obtain ⟨g1,g2⟩:=tyf_ld f _ _ hok (by omega) hm
   have e:x=y.1:=by
    obtain ⟨y1,y2⟩:=y
    cases y2 with
    | nil=>cases h
    | cons t r =>
     simp only [endRt] at h
     split at h
     ·cases h;rfl
     ·cases h
   rw [e]
   exact ⟨g1,by omega⟩
 ·cases h
theorem trd_err {f:Nat} {l:List UInt8} {y:Int×Int} (h:rdRt f l=.inl y):y.1≠0:=by
 unfold rdRt at h
 split at h
 ·revert h
  cases endRt (tyf f ((scR l).2.2++[⟨0,[],(l.length:Nat)⟩])) with
  | inl p=>intro h;cases h;simp
  | inr e=>intro h;cases h
 ·rename_i h0
  cases h
  simp only
  omega
def paT (dq:{_f:(p:Prop)→Decidable p // True}) (f:Nat) (l:List UInt8):Sum (Int×Int) (TT f):=prsT (tck dq _) (rdRt f l)
theorem ptype_is (hP:ParseOk) (f:Nat) (hf:1025≤f) (s:ByteArray) (w:World) (g:Gg w) (gp:Gp w) (gt:Gt w) (hz:s.size≤1000000) :
  Calls Tryz.prog 20 #[.string s] w fun e w'=>RdT f w (paT dq f (bl s)) e w' :=
 ptype_any hP f hf s w g gp hz (tck dq _) (fun y h=>trd_err h) fun x q W h hr hb=>tcheck_is _ x q W hr (trd_bound h).1 (by have:=(trd_bound h).2;omega) (g.gu.below hb) (gt.below hb)
end Lx
end Go.Proofs.YtcnfchblfcfimaaGreatDoor
