/- Merged by program: TyAwake, SvNames, SgIso, ShRound, SiStep, SjMap, SkType, SlLeaf, SuSame, SoSame. -/
import Derived.Test.YtcnfchblfcfimaaGreatDoorZr41
import Derived.Test.YtcnfchblfcfimaaGreatDoorZr25
import Derived.Test.YtcnfchblfcfimaaGreatDoorZr09
import Derived.Lib.ItoaLen
import Derived.Test.YtcnfchblfcfimaaGreatDoorZr13
import Derived.Deep.RegionLaw
import Derived.Test.YtcnfchblfcfimaaGreatDoorZr23
import Derived.Test.YtcnfchblfcfimaaGreatDoorZr31
import Derived.Test.YtcnfchblfcfimaaGreatDoorZr10
set_option linter.unusedSimpArgs false
set_option linter.unusedVariables false
namespace Go.Proofs.YtcnfchblfcfimaaGreatDoor
namespace Lx
open Go.RowKit
variable {dq : {_f : (p : Prop) → Decidable p // True}}
structure Gw (w:World):Prop where
 gs:Gs w
 gt:Gt w
theorem Gw.below {w W:World} (g:Gw w) (hb:Below w.heap.size w W):Gw W:=⟨g.gs.below hb,g.gt.below hb⟩
theorem rd_in {f:Nat} {l:List UInt8} {x:ET (dp f + 1)} (h:paR dq f l=.inr x):rdR f l=.inr x∧lck dq _ x=0:=by
 unfold paR at h
 cases hr:rdR f l with
 | inl y=>rw [hr] at h;cases h
 | inr z =>
  rw [hr] at h
  simp only [prsO] at h
  split at h
  ·rename_i k
   cases h
   exact ⟨rfl,k⟩
  ·cases h
theorem pa_bound {f:Nat} {l:List UInt8} {x:ET (dp f + 1)} (h:paR dq f l=.inr x):GE _ x∧esiz _ x≤2000:=rd_bound (rd_in h).1
theorem pt_in {f:Nat} {l:List UInt8} {x:TT f} (h:paT dq f l=.inr x):rdRt f l=.inr x∧tck dq _ x=0:=by
 unfold paT at h
 cases hr:rdRt f l with
 | inl y=>rw [hr] at h;cases h
 | inr z =>
  rw [hr] at h
  simp only [prsT] at h
  split at h
  ·rename_i k
   cases h
   exact ⟨rfl,k⟩
  ·cases h
theorem pt_bound {f:Nat} {l:List UInt8} {x:TT f} (h:paT dq f l=.inr x):GT _ x∧tsiz _ x≤2000:=trd_bound (pt_in h).1
theorem parse_ok (hP:ParseOk) {f:Nat} (hf:1025≤f) {s:ByteArray} {w:World} (g:Gw w) (hz:s.size≤1000000) {x:ET (dp f + 1)} (h:paR dq f (bl s)=.inr x) :
  Calls Tryz.prog 9 #[.string s] w fun e w'=>∃ q,e=.returned (.tuple #[.agg (ecl (ehd _ x) q),.int .i64 0,.int .i64 0])∧RE _ w' x q∧Below w.heap.size w w':=by
 refine (parse_is (dq:=dq) hP f hf s w g.gs.gg g.gs.gp hz).mono ?_
 rintro e w' ⟨hb,hr⟩
 rw [h] at hr
 obtain ⟨q,rfl,hk⟩:=hr
 exact ⟨q,rfl,hk.rd,hb⟩
theorem parse_no (hP:ParseOk) {f:Nat} (hf:1025≤f) {s:ByteArray} {w:World} (g:Gw w) (hz:s.size≤1000000) {y:Int×Int} (h:paR dq f (bl s)=.inl y) :
  Calls Tryz.prog 9 #[.string s] w fun e w'=>e=.returned (.tuple #[.agg (ecl ze zs),.int .i64 y.1,.int .i64 y.2])∧Below w.heap.size w w':=by
 refine (parse_is (dq:=dq) hP f hf s w g.gs.gg g.gs.gp hz).mono ?_
 rintro e w' ⟨hb,hr⟩
 rw [h] at hr
 exact ⟨hr,hb⟩
theorem ptype_ok (hP:ParseOk) {f:Nat} (hf:1025≤f) {s:ByteArray} {w:World} (g:Gw w) (hz:s.size≤1000000) {x:TT f} (h:paT dq f (bl s)=.inr x) :
  Calls Tryz.prog 20 #[.string s] w fun e w'=>∃ q,e=.returned (.tuple #[.agg (tcl (thd _ x) q),.int .i64 0,.int .i64 0])∧RTq _ w' x q∧Below w.heap.size w w':=by
 refine (ptype_is (dq:=dq) hP f hf s w g.gs.gg g.gs.gp g.gt hz).mono ?_
 rintro e w' ⟨hb,hr⟩
 rw [h] at hr
 obtain ⟨q,rfl,hk⟩:=hr
 exact ⟨q,rfl,hk.rd,hb⟩
theorem ptype_no (hP:ParseOk) {f:Nat} (hf:1025≤f) {s:ByteArray} {w:World} (g:Gw w) (hz:s.size≤1000000) {y:Int×Int} (h:paT dq f (bl s)=.inl y) :
  Calls Tryz.prog 20 #[.string s] w fun e w'=>e=.returned (.tuple #[.agg (tcl tz tzs),.int .i64 y.1,.int .i64 y.2])∧Below w.heap.size w w':=by
 refine (ptype_is (dq:=dq) hP f hf s w g.gs.gg g.gs.gp g.gt hz).mono ?_
 rintro e w' ⟨hb,hr⟩
 rw [h] at hr
 exact ⟨hr,hb⟩
set_option maxHeartbeats 4000000 in
set_option maxRecDepth 100000 in
theorem awake_any (hP:ParseOk) (gk:Nat) (hg:1005≤gk) (w:World) (g:Gw w):Calls Tryz.prog 11 #[] w fun e w'=>e=.returned (.bool true)∧Below w.heap.size w w':=by
 have dq:{_f:(p:Prop)→Decidable p // True}:=⟨fun p=>Classical.propDecidable p,trivial⟩
 have hf:1025≤gk + 20:=by omega
 have G:=hide g
 have p1:=hide (fun W (hb:Below w.heap.size w W)=>parse_ok hP hf (g.below hb) (s:=tx1) (by decide) (pa1 (dq:=dq) gk))
 have p2:=hide (fun W (hb:Below w.heap.size w W)=>parse_no hP hf (g.below hb) (s:=tx2) (by decide) (pa2 (dq:=dq) gk))
 have p3:=hide (fun W (hb:Below w.heap.size w W)=>parse_no hP hf (g.below hb) (s:=tx3) (by decide) (pa3 (dq:=dq) gk))
 have p4:=hide (fun W (hb:Below w.heap.size w W)=>ptype_ok hP hf (g.below hb) (s:=tx4) (by decide) (pa4 (dq:=dq) gk))
 have q1:=hide (fun q W (hb:Below w.heap.size w W) (h:RE _ W (exM gk) q)=>print_is (dq:=dq) hP _ (exM gk) q W h (pa_bound (pa1 (dq:=dq) gk)).1 (by have:=(pa_bound (pa1 (dq:=dq) gk)).2;omega) (g.below hb).gs)
 have q4:=hide (fun q W (hb:Below w.heap.size w W) (h:RTq _ W (exT gk) q)=>ptprint_is (dq:=dq) hP _ (exT gk) q W h (pt_bound (pa4 (dq:=dq) gk)).1 (by have:=(pt_bound (pa4 (dq:=dq) gk)).2;omega) (g.below hb).gs (g.below hb).gt)
 rw [pr1] at q1
 rw [pr4] at q4
 have hls:Hid (∀ W q,RE _ W (exM gk) q→∃ a c,q.ls=.slice a 3 c):=fun W q h=>by
  obtain ⟨a,c,e,_⟩:=(RE.tl h).len
  exact ⟨a,c,e⟩
 have ez:ecl ze zs=#[.int .i64 0,.string ⟨#[]⟩,.slice none 0 0,.slice none 0 0,.int .i64 0,.bool false,.bool false,.string ⟨#[]⟩,.int .i64 0,.int .u64 0,.string ⟨#[]⟩,.slice none 0 0,.slice none 0 0]:=rfl
 rw [ez] at p2 p3
 rw [show mkB px1=⟨#[46,32,97,32,59,32,91,32,116,111,110,117,109,32,93,32,59,32,115,117,109]⟩ from rfl] at q1
 rw [show mkB px4=⟨#[114,101,99,111,114,100,32,123,32,105,100,32,58,32,105,110,116,32,44,32,116,97,103,115,32,58,32,108,105,115,116,32,40,32,116,101,120,116,32,41,32,125]⟩ from rfl] at q4
 clear g hP hf ez
 obtain ⟨h1,hh1⟩:∃ h,ehd _ (exM gk)=h:=⟨_,rfl⟩
 obtain ⟨h4,hh4⟩:∃ h,thd _ (exT gk)=h:=⟨_,rfl⟩
 rw [hh1] at p1 q1
 rw [hh4] at p4 q4
 clear hh1 hh4
 unfold tx1 at p1
 unfold tx2 at p2
 unfold tx3 at p3
 unfold tx4 at p4
 unfold ecl at p1 q1
 unfold tcl tvs at p4 q4
 dsimp only at p2 p3
 go_enter Tryz.func11, Tryz.ntmps11
 go_wp2_with (go_at_call 9;refine Sto.out ?_)
 refine Sto.mk ?_
 refine (p1.out _ (Below.refl _ _)).mono ?_
 rintro e w1 ⟨q,rfl,hr1,hb1⟩
 obtain ⟨a3,c3,hls1⟩:=hls.out w1 q hr1
 obtain ⟨x1,y1,z1,x2,y2,z2,x3,y3,z3,x4,y4,z4,hqs⟩:=hr1.shape
 subst hqs
 obtain ⟨rfl,rfl,rfl⟩:=Value.slice.inj hls1
 have R1:=hide hr1
 have B1:=hide hb1
 have X1:=hide (ex_new w1 h1 ⟨.slice x1 y1 z1,.slice x2 3 z2,.slice x3 y3 z3,.slice x4 y4 z4⟩)
 have c1:=hide (q1.out ⟨.slice x1 y1 z1,.slice x2 3 z2,.slice x3 y3 z3,.slice x4 y4 z4⟩ (w1.alloc (.cells (ecl h1 ⟨.slice x1 y1 z1,.slice x2 3 z2,.slice x3 y3 z3,.slice x4 y4 z4⟩) 33)) (below_al hb1) (hr1.below (below_al (Below.refl _ _))))
 clear hr1 hb1 p1 q1 hls hls1
 unfold ecl at X1 c1
 dsimp only at X1 c1 ⊢
 go_wp2_with (go_at_call 15;refine Sto.out ?_)
 refine Sto.mk ?_
 refine c1.out.mono ?_
 rintro e w2 ⟨rfl,hb2⟩
 have B2:=hide (below_then (below_al B1.out) hb2)
 have X2:=hide (X1.out.below hb2)
 clear hb2 c1 X1
 go_wp2_with (go_at_call 9;refine Sto.out ?_)
 refine Sto.mk ?_
 refine (p2.out _ B2.out).mono ?_
 rintro e w3 ⟨rfl,hb3⟩
 have B3:=hide (below_al (o:=.cells #[.int .i64 0,.string ⟨#[]⟩,.slice none 0 0,.slice none 0 0,.int .i64 0,.bool false,.bool false,.string ⟨#[]⟩,.int .i64 0,.int .u64 0,.string ⟨#[]⟩,.slice none 0 0,.slice none 0 0] 33) (below_then B2.out hb3))
 have X3:=hide ((X2.out.below hb3).below (below_al (o:=.cells #[.int .i64 0,.string ⟨#[]⟩,.slice none 0 0,.slice none 0 0,.int .i64 0,.bool false,.bool false,.string ⟨#[]⟩,.int .i64 0,.int .u64 0,.string ⟨#[]⟩,.slice none 0 0,.slice none 0 0] 33) (Below.refl _ _)))
 clear hb3 p2 X2
 go_wp2_with (go_at_call 9;refine Sto.out ?_)
 refine Sto.mk ?_
 refine (p3.out _ B3.out).mono ?_
 rintro e w4 ⟨rfl,hb4⟩
 have B4:=hide (below_al (o:=.cells #[.int .i64 0,.string ⟨#[]⟩,.slice none 0 0,.slice none 0 0,.int .i64 0,.bool false,.bool false,.string ⟨#[]⟩,.int .i64 0,.int .u64 0,.string ⟨#[]⟩,.slice none 0 0,.slice none 0 0] 33) (below_then B3.out hb4))
 have X4:=hide ((X3.out.below hb4).below (below_al (o:=.cells #[.int .i64 0,.string ⟨#[]⟩,.slice none 0 0,.slice none 0 0,.int .i64 0,.bool false,.bool false,.string ⟨#[]⟩,.int .i64 0,.int .u64 0,.string ⟨#[]⟩,.slice none 0 0,.slice none 0 0] 33) (Below.refl _ _)))
 clear hb4 p3 X3
 go_wp2_with (go_at_call 20;refine Sto.out ?_)
 refine Sto.mk ?_
 refine (p4.out _ B4.out).mono ?_
 rintro e w5 ⟨q',rfl,hr5,hb5⟩
 obtain ⟨u1,v1,t1,u2,v2,t2,hqs⟩:=RTq.shape hr5
 subst hqs
 have B5:=hide (below_then B4.out hb5)
 have X5:=hide ((X4.out.below hb5).below (below_al (o:=.cells (tcl h4 ⟨.slice u1 v1 t1,.slice u2 v2 t2⟩) 48) (Below.refl _ _)))
 have c5:=hide (q4.out ⟨.slice u1 v1 t1,.slice u2 v2 t2⟩ (w5.alloc (.cells (tcl h4 ⟨.slice u1 v1 t1,.slice u2 v2 t2⟩) 48)) (below_al B5.out) (RTq.below hr5 (below_al (Below.refl _ _))))
 clear hr5 hb5 p4 q4 X4
 unfold tcl tvs at c5 X5
 dsimp only at c5 X5 ⊢
 go_wp2_with (go_at_call 22;refine Sto.out ?_)
 refine Sto.mk ?_
 refine c5.out.mono ?_
 rintro e w6 ⟨rfl,hb6⟩
 have B6:=hide (below_then (below_al B5.out) hb6)
 have k6:=(X5.out.below hb6).cells.2.2.2.1
 clear hb6 c5 X5
 go_wp2_with fail
 go_ret
 exact ⟨rfl,B6.out⟩
end Lx
end Go.Proofs.YtcnfchblfcfimaaGreatDoor
namespace Go.Proofs.YtcnfchblfcfimaaGreatDoor
namespace Lx
open Go.RowKit
variable {dq : {_f : (p : Prop) → Decidable p // True}}
set_option maxRecDepth 100000
theorem prR_in {l:List Tk} (h:(prR l).1=0):(∀ t∈l,isT nok t.w t.s=true)∧∀ t∈l,t.s.length≤lgK (kdW t.w):=by
 unfold prR at h
 split at h
 ·cases h
 ·rename_i k
  split at h
  ·cases h
  ·rename_i q
   refine ⟨Classical.not_not.1 k,fun t ht=>?_⟩
   by_cases hq:lgK (kdW t.w)<t.s.length
   ·exact absurd (Or.inr (Or.inl ⟨t,ht,decide_eq_true hq⟩)) q
   ·omega
theorem ntk_ok (nm:ByteArray) (h1:Go.Proofs.YtcnfchblfcfimaaGreatDoor.okT nm=true) (h2:nm.size≤64):isT nok (ntk (bl nm)).w (ntk (bl nm)).s=true∧(ntk (bl nm)).s.length≤lgK (kdW (ntk (bl nm)).w)∧((ntk (bl nm)).w=1∨(ntk (bl nm)).w=2)∧(splT (ntk (bl nm))).length≤400:=by
 have hl:(bl nm).length≤64:=by rw [bl_length];exact h2
 unfold ntk
 split
 ·rename_i h
  obtain ⟨a,b⟩:=prR_in h
  refine ⟨a _ (by simp),b _ (by simp),Or.inl rfl,?_⟩
  show (spl 1 (bl nm)).length≤400
  unfold spl
  rw [if_neg (by decide)]
  omega
 ·refine ⟨?_,?_,Or.inr rfl,?_⟩
  ·show isT nok 2 (bl nm)=true
   unfold isT
   rw [if_neg (by decide),if_pos (by decide)]
   exact h1
  ·show (bl nm).length≤lgK (kdW 2)
   rw [show lgK (kdW 2)=4096 by decide]
   omega
  ·show (spl 2 (bl nm)).length≤400
   unfold spl
   rw [if_pos rfl]
   have:=esc_len (bl nm)
   simp only [quo,List.length_cons,List.length_append,List.length_nil]
   omega
theorem scR_of {l:List Tk} (h:(prR l).1=0):∃ m a,scR (prR l).2=(0,a,m)∧same m l:=by
 obtain ⟨h1,h2,_⟩:=pr_round l h
 obtain ⟨x,y,z,e⟩:∃ x y z,scR (prR l).2=(x,y,z):=⟨_,_,_,rfl⟩
 rw [e] at h1 h2 ⊢
 simp only at h1 h2
 subst h1
 exact ⟨z,y,rfl,h2⟩
end Lx
end Go.Proofs.YtcnfchblfcfimaaGreatDoor
namespace Go.Proofs.YtcnfchblfcfimaaGreatDoor
namespace Lx
open Go.RowKit
variable {dq : {_f : (p : Prop) → Decidable p // True}}
set_option maxRecDepth 100000
def Lf:(n:Nat)→VT n→Prop
 | 0,_=>False
 | _ + 1,v=>v.1.names=[]∧v.2=[]
theorem rd_lf {a b:Nat} {x:VT a} {y:VT b} (hx:Lf a x) (hy:Lf b y) {W:World} {ns ls:Value} (h:RD a W x ns ls):RD b W y ns ls:=by
 cases a with
 | zero=>exact Empty.elim x
 | succ a =>
  cases b with
  | zero=>exact Empty.elim y
  | succ b =>
   obtain ⟨xh,xl⟩:=x
   obtain ⟨yh,yl⟩:=y
   obtain ⟨x1,x2⟩:=hx
   obtain ⟨y1,y2⟩:=hy
   simp only at x1 x2 y1 y2
   subst x2 y2
   obtain ⟨h1,h2⟩:=h
   refine ⟨?_,?_⟩
   ·show NL W ns yh.names
    rw [y1,←x1]
    exact h1
   ·rcases h2 with ⟨e,_⟩|⟨b',o,c,sp,e,k1,k2,k3,k4⟩
    ·exact Or.inl ⟨e,rfl⟩
    ·exact Or.inr ⟨b',o,c,sp,e,k1,k2,fun h=>absurd h (by simp),fun i hi=>absurd hi (by simp)⟩
theorem isv_lf {a b:Nat} {x:VT a} {y:VT b} (hx:Lf a x) (hy:Lf b y) (e:vhd b y=vhd a x):(IsV a x→IsV b y)∧(Win a x→Win b y):=by
 cases a with
 | zero=>exact Empty.elim x
 | succ a =>
  cases b with
  | zero=>exact Empty.elim y
  | succ b =>
   obtain ⟨xh,xl⟩:=x
   obtain ⟨yh,yl⟩:=y
   obtain ⟨x1,x2⟩:=hx
   obtain ⟨y1,y2⟩:=hy
   simp only at x1 x2 y1 y2
   subst x2 y2
   have e':yh=xh:=e
   subst e'
   refine ⟨fun h=>⟨⟨h.1.1,h.1.2.1,h.1.2.2.1,Or.inr rfl⟩,h.2.1,fun y hy=>absurd hy (by simp)⟩,fun h=>⟨⟨h.1.1,by simp,h.1.2.2.1,fun y hy=>absurd hy (by simp)⟩,?_,?_⟩⟩
   ·exact h.2.1
   ·exact h.2.2
def Iso:(n:Nat)→ET n→(m:Nat)→ET m→Prop
 | 0,_,_,_=>False
 | _ + 1,_,0,_=>False
 | n + 1,x,m + 1,y=>y.1.op=x.1.op∧y.1.name=x.1.name∧y.1.names=x.1.names∧vhd y.1.vn y.1.val=vhd x.1.vn x.1.val∧Lf x.1.vn x.1.val∧Lf y.1.vn y.1.val∧y.2.length=x.2.length∧∀ i (h:i<x.2.length) (h':i<y.2.length),Iso n x.2[i] m y.2[i]
theorem Iso.hd {n m:Nat} {x:ET n} {y:ET m} (h:Iso n x m y):(ehd m y).op=(ehd n x).op∧(ehd m y).name=(ehd n x).name∧(ehd m y).names=(ehd n x).names∧vhd (ehd m y).vn (ehd m y).val=vhd (ehd n x).vn (ehd n x).val∧Lf (ehd n x).vn (ehd n x).val∧Lf (ehd m y).vn (ehd m y).val:=by
 cases n with
 | zero=>exact Empty.elim x
 | succ n =>
  cases m with
  | zero=>exact Empty.elim y
  | succ m=>exact ⟨h.1,h.2.1,h.2.2.1,h.2.2.2.1,h.2.2.2.2.1,h.2.2.2.2.2.1⟩
theorem Iso.ecl {n m:Nat} {x:ET n} {y:ET m} (h:Iso n x m y) (q:Sl):Go.Proofs.YtcnfchblfcfimaaGreatDoor.Lx.ecl (ehd m y) q=Go.Proofs.YtcnfchblfcfimaaGreatDoor.Lx.ecl (ehd n x) q:=by
 obtain ⟨h1,h2,h3,h4,_⟩:=h.hd
 unfold Go.Proofs.YtcnfchblfcfimaaGreatDoor.Lx.ecl
 rw [h1,h2,h4]
theorem Iso.re:∀ {n m:Nat} {x:ET n} {y:ET m} {W:World} {q:Sl},Iso n x m y→RE n W x q→RE m W y q
 | 0,_,x,_,_,_,_,_=>Empty.elim x
 | _ + 1,0,_,y,_,_,_,_=>Empty.elim y
 | n + 1,m + 1,x,y,W,q,h,r=>by
  obtain ⟨h1,h2,h3,h4,h5,h6,h7,h8⟩:=h
  obtain ⟨r1,r2,r3⟩:=r
  refine ⟨by rw [h3];exact r1,rd_lf h5 h6 r2,?_⟩
  rcases r3 with ⟨e1,e2⟩|⟨b,o,c,sp,e,k1,k2,k3,hc⟩
  ·exact Or.inl ⟨e1,List.eq_nil_of_length_eq_zero (by rw [h7,e2];rfl)⟩
  ·refine Or.inr ⟨b,o,c,sp,by rw [h7];exact e,by rw [h7];exact k1,k2,fun h=>k3 (by omega),fun i hi=>?_⟩
   obtain ⟨s,s1,s2⟩:=hc i (by omega)
   refine ⟨s,?_,Iso.re (h8 i (by omega) hi) s2⟩
   rw [(h8 i (by omega) hi).ecl]
   exact s1
theorem Iso.up:∀ {n m:Nat} {x:ET n} {y:ET m},Iso n x m y→Iso n x (m + 1) (upE m y)
 | 0,_,x,_,_=>Empty.elim x
 | _ + 1,0,_,y,_=>Empty.elim y
 | n + 1,m + 1,x,y,h=>by
  obtain ⟨h1,h2,h3,h4,h5,h6,h7,h8⟩:=h
  have hl:(upE (m + 1) y).2.length=y.2.length:=by simp [upE]
  refine ⟨h1,h2,h3,h4,h5,h6,hl.trans h7,fun i h h'=>?_⟩
  have:(upE (m + 1) y).2[i]=upE m (y.2[i]'(by omega)):=by simp [upE]
  rw [this]
  exact Iso.up (h8 i h (by omega))
theorem Iso.siz:∀ {n m:Nat} {x:ET n} {y:ET m},Iso n x m y→edep m y=edep n x∧esiz m y=esiz n x
 | 0,_,x,_,_=>Empty.elim x
 | _ + 1,0,_,y,_=>Empty.elim y
 | n + 1,m + 1,x,y,h=>by
  obtain ⟨h1,h2,h3,h4,h5,h6,h7,h8⟩:=h
  have a:y.2.map (edep m)=x.2.map (edep n):=List.ext_getElem (by simpa using h7) fun i p q=>by
   simp only [List.getElem_map]
   exact (Iso.siz (h8 i (by simpa using q) (by simpa using p))).1
  have b:y.2.map (esiz m)=x.2.map (esiz n):=List.ext_getElem (by simpa using h7) fun i p q=>by
   simp only [List.getElem_map]
   exact (Iso.siz (h8 i (by simpa using q) (by simpa using p))).2
  simp only [edep,esiz,a,b]
  exact ⟨trivial,trivial⟩
theorem vz_lf {n:Nat} {v:VT n} (h:VZ n v):Lf n v∧vhd n v=zr 0:=by
 cases n with
 | zero=>exact Empty.elim v
 | succ n =>
  have e:v=(zr 0,[]):=h
  subst e
  exact ⟨⟨rfl,rfl⟩,rfl⟩
theorem lf_vz {n:Nat} {v:VT n} (h:Lf n v) (e:vhd n v=zr 0):VZ n v:=by
 cases n with
 | zero=>exact Empty.elim v
 | succ n =>
  obtain ⟨vh,vl⟩:=v
  obtain ⟨_,h2⟩:=h
  simp only at h2
  subst h2
  have e':vh=zr 0:=e
  subst e'
  rfl
theorem cn_lf {n:Nat} {v:VT n} (h:IsV n v) (k:isCn (vhd n v).kind):Lf n v:=by
 cases n with
 | zero=>exact Empty.elim v
 | succ n =>
  obtain ⟨vh,vl⟩:=v
  obtain ⟨⟨b1,b2,b3,b4⟩,_⟩:=h
  have hk:vh.kind<7:=by
   have:isCn vh.kind:=k
   rcases this with q|q|q|q <;> omega
  have hl:vl=[]:=by
   rcases b4 with b4|b4
   ·have:(7:Int)≤vh.kind:=b4
    omega
   ·exact b4
  refine ⟨?_,hl⟩
  have:=congrArg Hd.names b3
  have h8:(vh.kind==8)=false:=by simp;omega
  simpa [strip,zr,h8] using this
theorem Nod.lf {n:Nat} {x:ET (n + 1)} (h:Nod n x):Lf x.1.vn x.1.val:=by
 obtain ⟨⟨⟨b1,b2⟩,b3,b4,b5,b6⟩,h4,h12,h7,hv,hw⟩:=h
 obtain ⟨⟨k,nm,nms,vn,val⟩,l⟩:=x
 simp only at b1 b2 b3 b4 b5 b6 h4 h12 h7 hv hw ⊢
 rcases b6 with rfl|hz
 ·have e:lkV ⟨7,nm,nms,vn,val⟩ l.length=⟨vn,val⟩:=by simp [lkV]
  rw [e] at hv
  exact cn_lf hv (h7 rfl)
 ·exact (vz_lf hz).1
theorem lkV_same {n m:Nat} {x:ET (n + 1)} {y:ET (m + 1)} (h:Iso (n + 1) x (m + 1) y):(IsV _ (lkV x.1 x.2.length).2→IsV _ (lkV y.1 y.2.length).2)∧(Win _ (lkV x.1 x.2.length).2→Win _ (lkV y.1 y.2.length).2):=by
 obtain ⟨h1,h2,h3,h4,h5,h6,h7,h8⟩:=h
 unfold lkV
 rw [h1,h2,h3,h7]
 by_cases a:x.1.op=2∨x.1.op=5
 ·rw [if_pos a,if_pos a]
  exact ⟨id,id⟩
 ·rw [if_neg a,if_neg a]
  by_cases b:x.1.op=3∨x.1.op=6
  ·rw [if_pos b,if_pos b]
   exact ⟨id,id⟩
  ·rw [if_neg b,if_neg b]
   by_cases c:x.1.op=7
   ·rw [if_pos c,if_pos c]
    exact isv_lf h5 h6 h4
   ·rw [if_neg c,if_neg c]
    exact ⟨id,id⟩
theorem Iso.nod {n m:Nat} {x:ET (n + 1)} {y:ET (m + 1)} (h:Iso (n + 1) x (m + 1) y) (k:Nod n x):Nod m y:=by
 obtain ⟨hv,hw⟩:=lkV_same h
 obtain ⟨h1,h2,h3,h4,h5,h6,h7,h8⟩:=h
 obtain ⟨⟨b1,b3,b4,b5,b6⟩,k4,k12,k7,kv,kw⟩:=k
 refine ⟨⟨by rw [h1];exact b1,by rw [h1,h2];exact b3,by rw [h1,h3];exact b4,?_,?_⟩,by rw [h1,h7];exact k4,by rw [h1,h7];exact k12,by rw [h1,h4];exact k7,hv kv,hw kw⟩
 ·rw [h1]
  rcases b5 with q|q|q|q|q
  ·exact Or.inl q
  ·exact Or.inr (Or.inl q)
  ·exact Or.inr (Or.inr (Or.inl q))
  ·exact Or.inr (Or.inr (Or.inr (Or.inl q)))
  ·exact Or.inr (Or.inr (Or.inr (Or.inr (List.eq_nil_of_length_eq_zero (by rw [h7,q];rfl)))))
 ·rw [h1]
  rcases b6 with q|q
  ·exact Or.inl q
  ·exact Or.inr (lf_vz h6 (by rw [h4];exact (vz_lf q).2))
theorem Iso.nods:∀ {n m:Nat} {x:ET n} {y:ET m},Iso n x m y→Nods n x→Nods m y
 | 0,_,x,_,_,_=>Empty.elim x
 | _ + 1,0,_,y,_,_=>Empty.elim y
 | n + 1,m + 1,x,y,h,k=>by
  refine ⟨h.nod k.1,fun z hz=>?_⟩
  obtain ⟨i,hi,rfl⟩:=List.mem_iff_getElem.1 hz
  have hl:=h.2.2.2.2.2.2.1
  exact Iso.nods (h.2.2.2.2.2.2.2 i (by omega) hi) (k.2 _ (List.getElem_mem (by omega)))
theorem nods_ev:∀ {n:Nat} {x:ET n},Nods n x→evA bareP n x∧evA fiP n x∧evA shP n x
 | 0,x,_=>Empty.elim x
 | n + 1,x,h=>by
  have ih:=fun i (hi:i<x.2.length)=>nods_ev (h.2 _ (List.getElem_mem hi))
  obtain ⟨b,k4,k12,k7,kv,kw⟩:=h.1
  exact ⟨⟨b,fun i hi=>(ih i hi).1⟩,⟨⟨k4,k12,k7,kv⟩,fun i hi=>(ih i hi).2.1⟩,⟨⟨kv,kw⟩,fun i hi=>(ih i hi).2.2⟩⟩
theorem ok_lck {n:Nat} {x:ET n} (h:Nods n x) (h1:edep n x≤16) (h2:esiz n x≤512):lck dq n x=0:=by
 obtain ⟨a,b,c⟩:=nods_ev h
 unfold lck
 rw [if_neg (fun q=>q ⟨a,b⟩),if_pos ⟨c,h1,h2⟩]
theorem Iso.lck {n m:Nat} {x:ET n} {y:ET m} (h:Iso n x m y) (k:Go.Proofs.YtcnfchblfcfimaaGreatDoor.Lx.lck dq n x=0):Go.Proofs.YtcnfchblfcfimaaGreatDoor.Lx.lck dq m y=0:=by
 obtain ⟨a,b,c⟩:=lck_ok k
 obtain ⟨s1,s2⟩:=h.siz
 exact ok_lck (h.nods a) (by omega) (by omega)
def IsoT:(n:Nat)→TT n→(m:Nat)→TT m→Prop
 | 0,_,_,_=>False
 | _ + 1,_,0,_=>False
 | n + 1,x,m + 1,y=>y.1=x.1∧y.2.length=x.2.length∧∀ i (h:i<x.2.length) (h':i<y.2.length),IsoT n x.2[i] m y.2[i]
theorem IsoT.hd {n m:Nat} {x:TT n} {y:TT m} (h:IsoT n x m y):thd m y=thd n x:=by
 cases n with
 | zero=>exact Empty.elim x
 | succ n =>
  cases m with
  | zero=>exact Empty.elim y
  | succ m=>exact h.1
theorem IsoT.rt:∀ {n m:Nat} {x:TT n} {y:TT m} {W:World} {ns ls:Value},IsoT n x m y→RT n W x ns ls→RT m W y ns ls
 | 0,_,x,_,_,_,_,_,_=>Empty.elim x
 | _ + 1,0,_,y,_,_,_,_,_=>Empty.elim y
 | n + 1,m + 1,x,y,W,ns,ls,h,r=>by
  obtain ⟨h1,h7,h8⟩:=h
  obtain ⟨r1,r3⟩:=r
  refine ⟨by rw [h1];exact r1,?_⟩
  rcases r3 with ⟨e1,e2⟩|⟨b,o,c,sp,e,k1,k2,k3,hc⟩
  ·exact Or.inl ⟨e1,List.eq_nil_of_length_eq_zero (by rw [h7,e2];rfl)⟩
  ·refine Or.inr ⟨b,o,c,sp,by rw [h7];exact e,by rw [h7];exact k1,k2,fun h=>k3 (by omega),fun i hi=>?_⟩
   obtain ⟨a1,a2,s1,s2⟩:=hc i (by omega)
   refine ⟨a1,a2,?_,IsoT.rt (h8 i (by omega) hi) s2⟩
   rw [(h8 i (by omega) hi).hd]
   exact s1
theorem IsoT.all:∀ {n m:Nat} {x:TT n} {y:TT m},IsoT n x m y→tdep m y=tdep n x∧tsiz m y=tsiz n x∧(IsT n x→IsT m y)∧(TSht n x→TSht m y)
 | 0,_,x,_,_=>Empty.elim x
 | _ + 1,0,_,y,_=>Empty.elim y
 | n + 1,m + 1,x,y,h=>by
  obtain ⟨h1,h7,h8⟩:=h
  have ih:=fun i (h:i<x.2.length) (h':i<y.2.length)=>IsoT.all (h8 i h h')
  have a:y.2.map (tdep m)=x.2.map (tdep n):=List.ext_getElem (by simpa using h7) fun i p q=>by
   simp only [List.getElem_map]
   exact (ih i (by simpa using q) (by simpa using p)).1
  have b:y.2.map (tsiz m)=x.2.map (tsiz n):=List.ext_getElem (by simpa using h7) fun i p q=>by
   simp only [List.getElem_map]
   exact (ih i (by simpa using q) (by simpa using p)).2.1
  refine ⟨by simp only [tdep,a],by simp only [tsiz,b],fun k=>⟨by rw [h1,h7];exact k.1,fun z hz=>?_⟩,fun k=>⟨by rw [h1];exact k.1,by rw [h1];exact k.2.1,fun z hz=>?_⟩⟩
  ·obtain ⟨i,hi,rfl⟩:=List.mem_iff_getElem.1 hz
   exact (ih i (by omega) hi).2.2.1 (k.2 _ (List.getElem_mem (by omega)))
  ·obtain ⟨i,hi,rfl⟩:=List.mem_iff_getElem.1 hz
   exact (ih i (by omega) hi).2.2.2 (k.2.2 _ (List.getElem_mem (by omega)))
theorem IsoT.tck {n m:Nat} {x:TT n} {y:TT m} (h:IsoT n x m y) (k:Go.Proofs.YtcnfchblfcfimaaGreatDoor.Lx.tck dq n x=0):Go.Proofs.YtcnfchblfcfimaaGreatDoor.Lx.tck dq m y=0:=by
 obtain ⟨a1,a2,a3,a4⟩:=h.all
 unfold Go.Proofs.YtcnfchblfcfimaaGreatDoor.Lx.tck at k ⊢
 split at k
 ·cases k
 ·rename_i p
  split at k
  ·rename_i q
   rw [if_neg (fun r=>r (a3 (Classical.not_not.1 p))),if_pos ⟨a4 q.1,by rw [a1];exact q.2.1,by rw [a2];exact q.2.2⟩]
  ·cases k
end Lx
end Go.Proofs.YtcnfchblfcfimaaGreatDoor
namespace Go.Proofs.YtcnfchblfcfimaaGreatDoor
namespace Lx
open Go.RowKit
variable {dq : {_f : (p : Prop) → Decidable p // True}}
set_option maxRecDepth 100000
theorem same_cons {m:List Tk} {a:Tk} {l:List Tk} (h:same m (a :: l)):∃ t r,m=t :: r∧t.w=a.w∧t.s=a.s∧same r l:=by
 unfold same at h
 match m,h with
 | t :: r,h =>
  simp only [List.map_cons,List.cons.injEq,Prod.mk.injEq] at h
  exact ⟨t,r,rfl,h.1.1,h.1.2,h.2⟩
 | [],h=>simp at h
theorem same_nil {m:List Tk} (h:same m []):m=[]:=by
 unfold same at h
 simpa using h
theorem same_app:∀ {a:List Tk} {m b:List Tk},same m (a++b)→∃ m1 m2,m=m1++m2∧same m1 a∧same m2 b
 | [],m,b,h=>⟨[],m,rfl,rfl,h⟩
 | t :: a,m,b,h=>by
  obtain ⟨u,r,rfl,h1,h2,h3⟩:=same_cons (l:=a++b) h
  obtain ⟨m1,m2,rfl,h4,h5⟩:=same_app h3
  refine ⟨u :: m1,m2,rfl,?_,h5⟩
  unfold same at h4 ⊢
  simp only [List.map_cons,h1,h2,h4]
theorem own_mk {t:Tk} {s:List UInt8} (h1:t.w=(mk s).w) (h2:t.s=(mk s).s):ownT t=s:=by
 have a:t.w=4:=h1
 have b:t.s=s:=h2
 unfold ownT
 rw [if_pos (Or.inr a),b]
theorem own_wd {t:Tk} {s:List UInt8} (h1:t.w=(wd s).w) (h2:t.s=(wd s).s):ownT t=s:=by
 have a:t.w=1:=h1
 have b:t.s=s:=h2
 unfold ownT
 rw [if_pos (Or.inl a),b]
theorem has_no {m:List UInt8} {t:Tk} {l:List Tk} (h:¬ ownT t=m):hasL m (t :: l)=(false,t :: l):=by
 simp only [hasL,hasT,if_neg h]
theorem has_yes {m:List UInt8} {t:Tk} {l:List Tk} (h:ownT t=m):hasL m (t :: l)=(true,l):=by
 simp only [hasL,hasT,if_pos h]
theorem want_yes {m:List UInt8} {t:Tk} {l:List Tk} (h:ownT t=m):wantL m (t :: l)=.inr l:=by
 simp only [wantL,wantT,if_pos h]
def Rdr {α β:Type} (tk:α→List Tk) (I:List Tk→Sum Int (β×List Tk)) (R:α→β→Prop) (x:α):Prop:=∀ m t T,same m (tk x)→¬ ownT t=[59]→∃ y,I (m++t :: T)=.inr (y,t :: T)∧R x y
theorem sep_flat {α:Type} (c:Tk) (k:α→List Tk):∀ (r:List α) (a:α),sepT c ((a :: r).map k)=k a++r.flatMap fun y=>c :: k y
 | [],a=>by simp [sepT]
 | b :: r,a=>by
  have:=sep_flat c k r b
  simp only [List.map_cons] at this ⊢
  simp only [sepT]
  rw [this]
  simp
def pair {α:Type} (m:List UInt8) (tk:α→List Tk) (p:ByteArray×α):List Tk:=ntk (bl p.1) :: mk m :: tk p.2
theorem itm_pair {α:Type} (m:List UInt8) (tk:α→List Tk) (ns:List ByteArray) (l:List α):itm m ns (l.map tk)=(ns.zip l).map (pair m tk):=by
 unfold itm
 rw [List.zip_map_right,List.map_map]
 rfl
theorem nm_go {α β:Type} {tk:α→List Tk} {I:List Tk→Sum Int (β×List Tk)} {R:α→β→Prop} (m:List UInt8):∀ (r:List (ByteArray×α)) (p:ByteArray×α) (g:Nat) (ns:List (List UInt8)) (xs:List β) (mm T:List Tk),r.length<g →
  (∀ q∈p :: r,Rdr tk I R q.2)→(∀ q∈p :: r,((ntk (bl q.1)).w=1∨(ntk (bl q.1)).w=2)∧bl q.1 ∉ ns)→((p :: r).map fun q=>bl q.1).Nodup→same mm (pair m tk p++(r.flatMap (fun y=>mk [44] :: pair m tk y)++[mk [125]])) →
  ∃ ys,nmT m I g ns xs (mm++T)=.inr (ns++(p :: r).map (fun q=>bl q.1),xs++ys,T)∧ys.length=(p :: r).length∧∀ i (h:i<(p :: r).length) (h':i<ys.length),R (p :: r)[i].2 ys[i]
 | r,p,0,_,_,_,_,hg,_,_,_,_=>absurd hg (by omega)
 | r,p,g + 1,ns,xs,mm,T,hg,hI,hn,hd,hs=>by
  obtain ⟨a,m1,rfl,a1,a2,hs⟩:=same_cons (l:=mk m :: (tk p.2++(r.flatMap (fun y=>mk [44] :: pair m tk y)++[mk [125]]))) hs
  obtain ⟨b,m2,rfl,b1,b2,hs⟩:=same_cons hs
  obtain ⟨m3,m4,rfl,c1,hs⟩:=same_app hs
  obtain ⟨hw,hns⟩:=hn p (by simp)
  have e1:nameL ns (a :: b :: (m3++m4)++T)=.inr (bl p.1,b :: (m3++m4)++T):=by
   show nameT ns a _=_
   unfold nameT
   rw [ntk_s] at a2
   rw [if_pos ⟨by rw [a1];exact hw,by rw [a2];exact hns⟩,a2]
   rfl
  have e2:wantL m (b :: (m3++m4)++T)=.inr (m3++m4++T):=want_yes (own_mk b1 b2)
  unfold nmT
  simp only [e1,e2]
  cases r with
  | nil =>
   obtain ⟨t,m5,rfl,t1,t2,hs⟩:=same_cons (l:=[]) hs
   have:=same_nil hs
   subst this
   have ht:=own_mk t1 t2
   obtain ⟨y,ey,hy⟩:=hI p (by simp) m3 t T c1 (by rw [ht];decide)
   rw [show m3++[t]++T=m3++t :: T by simp]
   simp only [ey,has_yes ht,if_true]
   refine ⟨[y],rfl,rfl,fun i h h'=>?_⟩
   obtain rfl:i=0:=by simpa using h
   exact hy
  | cons p' r =>
   obtain ⟨t,m5,rfl,t1,t2,hs⟩:=same_cons (l:=pair m tk p'++(r.flatMap (fun y=>mk [44] :: pair m tk y)++[mk [125]])) (by simpa using hs)
   have ht:=own_mk t1 t2
   obtain ⟨y,ey,hy⟩:=hI p (by simp) m3 t (m5++T) c1 (by rw [ht];decide)
   rw [show m3++t :: m5++T=m3++t :: (m5++T) by simp]
   simp only [List.map_cons,List.nodup_cons] at hd
   simp only [ey,has_no (show ¬ ownT t=[125] by rw [ht];decide),want_yes ht]
   obtain ⟨ys,e,hl,hR⟩:=nm_go m r p' g (ns++[bl p.1]) (xs++[y]) m5 T (by simp only [List.length_cons] at hg;omega) (fun q hq=>hI q (by simp at hq ⊢;exact Or.inr hq))
    (fun q hq=>⟨(hn q (by simp at hq ⊢;exact Or.inr hq)).1,by
     intro hc
     rcases List.mem_append.1 hc with hc|hc
     ·exact (hn q (by simp at hq ⊢;exact Or.inr hq)).2 hc
     ·refine hd.1 ?_
      rw [←List.mem_singleton.1 hc]
      have:=List.mem_map_of_mem (f:=fun q:ByteArray×α=>bl q.1) hq
      simpa using this⟩) (by simpa using hd.2) hs
   refine ⟨y :: ys,?_,by simp [hl],fun i h h'=>?_⟩
   ·simp only [Bool.false_eq_true,if_false,e]
    simp
   ·cases i with
    | zero=>exact hy
    | succ i=>exact hR i (by simpa using h) (by simpa using h')
theorem zip_fst {α:Type}:∀ (ns:List ByteArray) (l:List α),ns.length=l.length→(ns.zip l).map (fun q=>bl q.1)=ns.map bl
 | [],[],_=>rfl
 | [],_ :: _,h=>by simp at h
 | _ :: _,[],h=>by simp at h
 | a :: ns,b :: l,h=>by
  have:=zip_fst ns l (by simpa using h)
  simp only [List.zip_cons_cons,List.map_cons,this]
theorem zip_snd {α:Type} (ns:List ByteArray) (l:List α) (i:Nat) (h:i<(ns.zip l).length) (h':i<l.length):(ns.zip l)[i].2=l[i]:=by simp
theorem bl_one {a b:ByteArray} (h:bl a=bl b):a=b:=by
 have:=congrArg mkB h
 rwa [mkB_bl,mkB_bl] at this
theorem nodup_bl {ns:List ByteArray} (h:ns.Nodup):(ns.map bl).Nodup:=by
 induction ns with
 | nil=>exact List.nodup_nil
 | cons a l ih =>
  rw [List.nodup_cons] at h
  rw [List.map_cons,List.nodup_cons]
  refine ⟨fun q=>?_,ih h.2⟩
  obtain ⟨b,hb,e⟩:=List.mem_map.1 q
  rw [bl_one e] at hb
  exact h.1 hb
theorem ntk_brace {s:ByteArray} {a:Tk} (h1:Go.Proofs.YtcnfchblfcfimaaGreatDoor.okT s=true) (h2:s.size≤64) (a1:a.w=(ntk (bl s)).w) (a2:a.s=(ntk (bl s)).s):¬ ownT a=[125]:=by
 obtain ⟨k1,k2,k3,k4⟩:=ntk_ok s h1 h2
 intro h
 unfold ownT at h
 rw [a1,a2] at h
 split at h
 ·rename_i q
  rcases k3 with k3|k3
  ·rw [h,k3] at k1
   exact absurd k1 (by decide)
  ·rw [k3] at q
   rcases q with q|q <;> exact absurd q (by decide)
 ·cases h
theorem named_go {α β:Type} {tk:α→List Tk} {I:List Tk→Sum Int (β×List Tk)} {R:α→β→Prop} (m:List UInt8) (ns:List ByteArray) (l:List α) (hl:ns.length=l.length) (hI:∀ x∈l,Rdr tk I R x) (hn:Nms ns) (h64:∀ s∈ns,s.size≤64) {mm:List Tk} (T:List Tk)
  (hs:same mm (sepT (mk [44]) (itm m ns (l.map tk))++[mk [125]])):∃ ys,namedT m I (mm++T)=.inr (ns.map bl,ys,T)∧ys.length=l.length∧∀ i (h:i<l.length) (h':i<ys.length),R l[i] ys[i]:=by
 cases l with
 | nil =>
  have:ns=[]:=List.eq_nil_of_length_eq_zero (by simpa using hl)
  subst this
  obtain ⟨t,r,rfl,t1,t2,hs⟩:=same_cons (l:=[]) hs
  have:=same_nil hs
  subst this
  refine ⟨[],?_,rfl,fun i h=>absurd h (by simp)⟩
  unfold namedT
  simp only [List.cons_append,List.nil_append,has_yes (own_mk t1 t2),if_true,List.map_nil]
 | cons x l =>
  cases ns with
  | nil=>simp at hl
  | cons s ns =>
   have hz:(s :: ns).zip (x :: l)=(s,x) :: ns.zip l:=rfl
   rw [itm_pair,hz,sep_flat,List.append_assoc] at hs
   have hlen:(mm++T).length≥(ns.zip l).length + 1:=by
    have:=congrArg List.length (show mm.map _=_ from hs)
    have hf:∀ r:List (ByteArray×α),r.length≤(r.flatMap fun y=>mk [44] :: pair m tk y).length:=fun r=>by
     induction r with
     | nil=>simp
     | cons a r ih=>simp only [List.flatMap_cons,List.length_append,List.length_cons];omega
    have:=hf (ns.zip l)
    simp only [List.length_map,List.length_append,pair,List.length_cons,List.length_nil] at *
    omega
   have hlz:∀ q∈(s,x) :: ns.zip l,q.1∈s :: ns∧q.2∈x :: l:=fun q hq=>by
    rw [←hz] at hq
    exact ⟨(List.of_mem_zip hq).1,(List.of_mem_zip hq).2⟩
   obtain ⟨ys,e,h1,h2⟩:=nm_go (I:=I) (R:=R) m (ns.zip l) (s,x) (mm++T).length [] [] mm T (by omega) (fun q hq=>hI _ (hlz q hq).2)
    (fun q hq=>⟨(ntk_ok q.1 (hn.1 _ (hlz q hq).1) (h64 _ (hlz q hq).1)).2.2.1,by simp⟩) (by rw [←hz,zip_fst _ _ hl];exact nodup_bl hn.2) hs
   obtain ⟨a,m1,rfl,a1,a2,_⟩:=same_cons (l:=mk m :: (tk x++((ns.zip l).flatMap (fun y=>mk [44] :: pair m tk y)++[mk [125]]))) hs
   have hb:=ntk_brace (hn.1 s (by simp)) (h64 s (by simp)) a1 a2
   refine ⟨ys,?_,?_,fun i h h'=>?_⟩
   ·unfold namedT
    rw [List.cons_append,has_no hb]
    simp only [Bool.false_eq_true,if_false]
    rw [List.cons_append] at e
    rw [e,←hz,zip_fst _ _ hl]
    rfl
   ·rw [h1,←hz]
    simp at hl ⊢
    omega
   ·have hh:i<((s :: ns).zip (x :: l)).length:=by simp at hl h ⊢;omega
    have e:=zip_snd (s :: ns) (x :: l) i hh h
    rw [←e]
    exact h2 i hh h'
end Lx
end Go.Proofs.YtcnfchblfcfimaaGreatDoor
namespace Go.Proofs.YtcnfchblfcfimaaGreatDoor
namespace Lx
open Go.RowKit
variable {dq : {_f : (p : Prop) → Decidable p // True}}
set_option maxRecDepth 100000
def StO (f n:Nat) (x:ET n):Prop:=∀ m T,same m (stk n x)→∃ y,stp f (m++T)=.inr (y,T)∧Iso n x (dp f) y
def MpO (f n:Nat) (x:ET n):Prop:=Rdr (mtk n) (mpgT (stp f)) (fun x y=>Iso n x (dp f + 1) y) x
theorem more_stops {α:Type} (S:List Tk→Sum Int (α×List Tk)) (g:Nat) (acc:List α) {t:Tk} (h:¬ ownT t=[59]) (T:List Tk):moreT S (g + 1) acc (t :: T)=.inr (acc,t :: T):=by
 unfold moreT
 rw [has_no h]
 rfl
theorem more_all {n f:Nat}:∀ (l:List (ET n)) (g:Nat) (acc:List (ET (dp f))) (m:List Tk) (t:Tk) (T:List Tk),l.length<g→(∀ y∈l,StO f n y)→same m (l.flatMap fun y=>mk [59] :: stk n y)→¬ ownT t=[59] →
  ∃ ys,moreT (stp f) g acc (m++t :: T)=.inr (acc++ys,t :: T)∧ys.length=l.length∧∀ i (h:i<l.length) (h':i<ys.length),Iso n l[i] (dp f) ys[i]
 | l,0,_,_,_,_,hg,_,_,_=>absurd hg (by omega)
 | [],g + 1,acc,m,t,T,hg,hS,hs,ht=>by
  have:=same_nil hs
  subst this
  exact ⟨[],by rw [List.nil_append,more_stops _ _ _ ht,List.append_nil],rfl,fun i h=>absurd h (by simp)⟩
 | y :: l,g + 1,acc,m,t,T,hg,hS,hs,ht=>by
  obtain ⟨a,r,rfl,a1,a2,hs⟩:=same_cons (l:=stk n y++l.flatMap fun y=>mk [59] :: stk n y) hs
  obtain ⟨m1,m2,rfl,c1,hs⟩:=same_app hs
  obtain ⟨z,ez,hz⟩:=hS y (by simp) m1 (m2++t :: T) c1
  obtain ⟨ys,e,h1,h2⟩:=more_all l g (acc++[z]) m2 t T (by simp only [List.length_cons] at hg;omega) (fun y hy=>hS y (by simp [hy])) hs ht
  refine ⟨z :: ys,?_,by simp [h1],fun i h h'=>?_⟩
  ·conv=>lhs;unfold moreT
   rw [List.cons_append,has_yes (own_mk a1 a2)]
   simp only [if_true]
   rw [List.append_assoc,ez]
   simp only [e]
   simp
  ·cases i with
   | zero=>exact hz
   | succ i=>exact h2 i (by simpa using h) (by simpa using h')
theorem mp_step {f n:Nat} {x:ET n} (h:¬ (ehd n x).op=12) (hS:StO f n x):MpO f n x:=by
 intro m t T hs ht
 have e:stk n x=mtk n x:=by unfold stk;rw [if_neg h]
 obtain ⟨y,ey,hy⟩:=hS m (t :: T) (by rw [e];exact hs)
 refine ⟨upE _ y,?_,hy.up⟩
 unfold mpgT
 rw [ey]
 obtain ⟨g,hg⟩:∃ g,(m++t :: T).length=g + 1:=⟨(m++t :: T).length - 1,by simp;omega⟩
 simp only [hg,more_stops _ _ _ ht]
 rfl
theorem mp_pipe {f n:Nat} {x:ET (n + 1)} (hd:Nod n x) (h:x.1.op=12) (hS:∀ y∈x.2,StO f n y):MpO f (n + 1) x:=by
 intro m t T hs ht
 have hl2:=hd.pipe h
 obtain ⟨⟨⟨b1,b2⟩,b3,b4,b5,b6⟩,k4,k12,k7,kv,kw⟩:=hd
 have hlf:Lf x.1.vn x.1.val:=Nod.lf ⟨⟨⟨b1,b2⟩,b3,b4,b5,b6⟩,k4,k12,k7,kv,kw⟩
 obtain ⟨⟨k,nm,nms,vn,val⟩,l⟩:=x
 simp only at h hl2 hS b3 b4 b6 hlf
 subst h
 obtain rfl:nm=⟨#[]⟩:=by
  rcases b3 with q|q|q
  ·exact absurd q (by decide)
  ·exact absurd q (by decide)
  ·exact q
 obtain rfl:nms=[]:=by
  rcases b4 with q|q|q
  ·exact absurd q (by decide)
  ·exact absurd q (by decide)
  ·exact q
 have hz:VZ vn val:=by
  rcases b6 with q|q
  ·exact absurd q (by decide)
  ·exact q
 have e:mtk (n + 1) (⟨12,⟨#[]⟩,[],vn,val⟩,l)=sepT (mk [59]) (l.map (stk n)):=by simp [mtk];rfl
 rw [e] at hs
 match l,hl2,hS,hs with
 | y1 :: y2 :: l,hl2,hS,hs =>
  rw [sep_flat] at hs
  have hlen:(m++t :: T).length≥(y2 :: l).length + 1:=by
   have:=congrArg List.length (show m.map _=_ from hs)
   have hf:∀ r:List (ET n),r.length≤(r.flatMap fun y=>mk [59] :: stk n y).length:=fun r=>by
    induction r with
    | nil=>simp
    | cons a r ih=>simp only [List.flatMap_cons,List.length_append,List.length_cons];omega
   have:=hf (y2 :: l)
   simp only [List.length_map,List.length_append] at *
   simp only [List.length_cons] at *
   omega
  obtain ⟨m1,m2,rfl,c1,c2⟩:=same_app hs
  obtain ⟨z,ez,hz1⟩:=hS y1 (by simp) m1 (m2++t :: T) c1
  obtain ⟨ys,e2,h1,h2⟩:=more_all (y2 :: l) (m1++m2++t :: T).length [z] m2 t T (by omega) (fun y hy=>hS y (by simp at hy ⊢;exact Or.inr hy)) c2 ht
  refine ⟨pipeT (z :: ys),?_,?_⟩
  ·unfold mpgT
   rw [List.append_assoc,ez]
   simp only
   rw [←List.append_assoc,e2]
   rfl
  ·cases ys with
   | nil=>simp at h1
   | cons z2 ys =>
    refine ⟨rfl,rfl,rfl,?_,hlf,⟨rfl,rfl⟩,?_,fun i h h'=>?_⟩
    ·exact ((vz_lf hz).2).symm ▸ rfl
    ·show (z :: z2 :: ys).length=(y1 :: y2 :: l).length
     simp only [List.length_cons] at h1 ⊢
     omega
    ·have h'':i<(z :: z2 :: ys).length:=h'
     cases i with
     | zero=>exact hz1
     | succ i=>exact h2 i (by simpa using h) (by simpa using h'')
theorem cnt_lf {n:Nat} {v:VT n} (hv:IsV n v) (k:isCn (vhd n v).kind) {t:Tk} (T:List Tk) (h1:t.w=(ctk (vhd n v)).w) (h2:t.s=(ctk (vhd n v)).s):∃ y,cnT (t :: T)=.inr (y,T)∧vhd 1 y=vhd n v∧Lf 1 y:=by
 have hl:=cn_lf hv k
 cases n with
 | zero=>exact Empty.elim v
 | succ n =>
  obtain ⟨⟨kd,fl,ng,dg,ex,bt,tx,ns⟩,vl⟩:=v
  obtain ⟨l1,l2⟩:=hl
  simp only at l1 l2
  subst l1 l2
  obtain ⟨⟨b1,b2,b3,b4⟩,⟨f3,f5,_,_⟩,_⟩:=hv
  simp only at b1 b2 b3 f3 f5
  simp only [vhd] at h1 h2 k ⊢
  simp only [strip,zr,Hd.mk.injEq,true_and] at b3
  obtain ⟨s1,s2,s3,s4,s5,s6,s7⟩:=b3
  rcases k with rfl|rfl|rfl|rfl
  ·have e1:t.w=1:=h1
   have e2:t.s=[110,117,108,108]:=h2
   have o:ownT t=[110,117,108,108]:=by unfold ownT;rw [if_pos (Or.inl e1),e2]
   refine ⟨_,by simp only [cnT,e1,o];rfl,?_,⟨rfl,rfl⟩⟩
   simp at s1 s2 s3 s4 s5 s6
   subst s1 s2 s3 s4 s5 s6
   rfl
  ·cases fl
   ·have e1:t.w=1:=h1
    have e2:t.s=[102,97,108,115,101]:=h2
    have o:ownT t=[102,97,108,115,101]:=by unfold ownT;rw [if_pos (Or.inl e1),e2]
    refine ⟨_,by simp only [cnT,e1,o];rfl,?_,⟨rfl,rfl⟩⟩
    simp at s2 s3 s4 s5 s6
    subst s2 s3 s4 s5 s6
    rfl
   ·have e1:t.w=1:=h1
    have e2:t.s=[116,114,117,101]:=h2
    have o:ownT t=[116,114,117,101]:=by unfold ownT;rw [if_pos (Or.inl e1),e2]
    refine ⟨_,by simp only [cnT,e1,o];rfl,?_,⟨rfl,rfl⟩⟩
    simp at s2 s3 s4 s5 s6
    subst s2 s3 s4 s5 s6
    rfl
  ·have e1:t.w=3:=h1
   have e2:t.s=printL ng (bl dg) ex:=h2
   have hp:=parse_print ng dg ex (f3 rfl)
   refine ⟨_,by simp only [cnT,e1,e2,hp];rfl,?_,⟨rfl,rfl⟩⟩
   simp at s1 s5 s6
   subst s1 s5 s6
   rfl
  ·have e1:t.w=2:=h1
   have e2:t.s=bl tx:=h2
   refine ⟨_,by simp only [cnT,e1,e2,mkB_bl];rfl,?_,⟨rfl,rfl⟩⟩
   simp at s1 s2 s3 s4 s5
   subst s1 s2 s3 s4 s5
   rfl
end Lx
end Go.Proofs.YtcnfchblfcfimaaGreatDoor
namespace Go.Proofs.YtcnfchblfcfimaaGreatDoor
namespace Lx
open Go.RowKit
variable {dq : {_f : (p : Prop) → Decidable p // True}}
set_option maxRecDepth 100000
theorem mem_mxl:∀ {l:List Nat} {a:Nat},a∈l→a≤mxl l
 | b :: l,a,h=>by
  simp only [mxl]
  rcases List.mem_cons.1 h with rfl|h
  ·omega
  ·have:=mem_mxl h;omega
theorem edep_mem {n:Nat} {x:ET (n + 1)} {y:ET n} (h:y∈x.2):edep n y + 1≤edep (n + 1) x:=by
 have:=mem_mxl (List.mem_map_of_mem (f:=edep n) h)
 simp only [edep]
 omega
theorem or3 {a b c:Prop} (h:a∨b∨c) (ha:¬ a) (hb:¬ b):c:=by
 rcases h with h|h|h
 ·exact absurd h ha
 ·exact absurd h hb
 ·exact h
theorem or5 {a b c d e:Prop} (h:a∨b∨c∨d∨e) (ha:¬ a) (hb:¬ b) (hc:¬ c) (hd:¬ d):e:=by
 rcases h with h|h|h|h|h
 ·exact absurd h ha
 ·exact absurd h hb
 ·exact absurd h hc
 ·exact absurd h hd
 ·exact h
theorem iso_leaf {n m:Nat} {op:Int} {nm:ByteArray} {vn:Nat} {val:VT vn} (hz:VZ vn val):Iso (n + 1) ((⟨op,nm,[],vn,val⟩,[]):ET (n + 1)) (m + 1) ((⟨op,nm,[],1,vz⟩,[]):ET (m + 1)) :=
 ⟨rfl,rfl,rfl,(vz_lf hz).2.symm ▸ rfl,(vz_lf hz).1,⟨rfl,rfl⟩,rfl,fun i h=>absurd h (by simp)⟩
theorem mp_any {f:Nat} (ih:∀ n (x:ET n),Nods n x→edep n x≤f→StO f n x) (n:Nat) (x:ET n) (hn:Nods n x) (h:edep n x≤f∨(ehd n x).op=12∧edep n x≤f + 1):MpO f n x:=by
 cases n with
 | zero=>exact Empty.elim x
 | succ n =>
  by_cases h12:(ehd (n + 1) x).op=12
  ·exact mp_pipe hn.1 h12 fun y hy=>ih n y (hn.2 y hy) (by have:=edep_mem hy;omega)
  ·refine mp_step h12 (ih _ _ hn ?_)
   rcases h with h|h
   ·exact h
   ·exact absurd h.1 h12
theorem st_next {f:Nat} (ih:∀ n (x:ET n),Nods n x→edep n x≤f→StO f n x) (n:Nat) (x:ET n) (hn:Nods n x) (hd:edep n x≤f + 1):StO (f + 1) n x:=by
 cases n with
 | zero=>exact Empty.elim x
 | succ n =>
  intro m T hs
  by_cases h12:(ehd (n + 1) x).op=12
  ·have e:stk (n + 1) x=btw [40] (mtk (n + 1) x) [41]:=by unfold stk;rw [if_pos h12]
   rw [e] at hs
   obtain ⟨a,r,rfl,a1,a2,hs⟩:=same_cons hs
   obtain ⟨m1,m2,rfl,c1,hs⟩:=same_app hs
   obtain ⟨b,r,rfl,b1,b2,hs⟩:=same_cons hs
   have:=same_nil hs
   subst this
   have ha:=own_mk a1 a2
   have hb:=own_mk b1 b2
   obtain ⟨y,ey,hy⟩:=mp_any ih _ _ hn (Or.inr ⟨h12,hd⟩) m1 b T c1 (by rw [hb];decide)
   refine ⟨upE _ y,?_,hy.up⟩
   show stpT (mpgT (stp f)) (a :: (m1++[b])++T)=_
   rw [List.cons_append,show m1++[b]++T=m1++b :: T by simp]
   simp only [stpT]
   rw [ha,if_pos rfl]
   simp only [clT,ey,want_yes hb]
   rfl
  have e:stk (n + 1) x=mtk (n + 1) x:=by unfold stk;rw [if_neg h12]
  rw [e] at hs
  clear e
  have hN:=hn.1
  have hlf:=hN.lf
  have hch:∀ y∈x.2,Rdr (mtk n) (mpgT (stp f)) (fun x y=>Iso n x (dp f + 1) y) y:=fun y hy=>mp_any ih n y (hn.2 y hy) (Or.inl (by have:=edep_mem hy;omega))
  have hpre:=hN.pre
  obtain ⟨⟨⟨b1,b2⟩,b3,b4,b5,b6⟩,k4,k12,k7,kv,kw⟩:=hN
  clear hn ih hd
  obtain ⟨⟨k,nm,nms,vn,val⟩,l⟩:=x
  obtain ⟨_,_,_,p4,_,p6,_,_⟩:=hpre
  simp only at b1 b2 b3 b4 b5 b6 k4 k7 kv kw hlf hch p4 p6
  have h12:¬ k=12:=h12
  show ∃ y,stpT (mpgT (stp f)) (m++T)=.inr (y,T)∧_
  have hk:k=1∨k=2∨k=3∨k=4∨k=5∨k=6∨k=7∨k=8∨k=9∨k=10∨k=11:=by omega
  rcases hk with rfl|rfl|rfl|rfl|rfl|rfl|rfl|rfl|rfl|rfl|rfl
  ·obtain rfl:=or3 b3 (by decide) (by decide)
   obtain rfl:=or3 b4 (by decide) (by decide)
   obtain rfl:=or5 b5 (by decide) (by decide) (by decide) (by decide)
   have hz:=b6.resolve_left (by decide)
   rw [show mtk (n + 1) (⟨1,⟨#[]⟩,[],vn,val⟩,[])=[wd [105,100]] by simp [mtk,plW]] at hs
   obtain ⟨a,r,rfl,a1,a2,hs⟩:=same_cons hs
   have:=same_nil hs
   subst this
   have ha:=own_wd a1 a2
   refine ⟨(⟨1,⟨#[]⟩,[],1,vz⟩,[]),?_,iso_leaf hz⟩
   simp only [List.cons_append,List.nil_append,stpT,ha]
   rfl
  ·obtain rfl:=or3 b4 (by decide) (by decide)
   obtain rfl:=or5 b5 (by decide) (by decide) (by decide) (by decide)
   have hz:=b6.resolve_left (by decide)
   rw [show mtk (n + 1) (⟨2,nm,[],vn,val⟩,[])=[mk [46],ntk (bl nm)] by simp [mtk]] at hs
   obtain ⟨a,r,rfl,a1,a2,hs⟩:=same_cons hs
   obtain ⟨b,r,rfl,c1,c2,hs⟩:=same_cons hs
   have:=same_nil hs
   subst this
   have ha:=own_mk a1 a2
   rw [ntk_s] at c2
   have hv2:=tag_isv nm |>.1 (by simpa [lkV] using kv)
   have hw2:=tag_win nm |>.1 (by simpa [lkV] using kw)
   have hb:nameL [] (b :: T)=.inr (bl nm,T):=by
    show nameT [] b T=_
    unfold nameT
    rw [if_pos ⟨by rw [c1];exact (ntk_ok nm hv2 hw2).2.2.1,by simp⟩,c2]
   refine ⟨(⟨2,nm,[],1,vz⟩,[]),?_,iso_leaf hz⟩
   simp only [List.cons_append,List.nil_append,stpT,ha]
   rw [if_neg (by decide),if_neg (by decide),if_pos trivial]
   simp only [gtT,hb,mkB_bl]
  ·obtain rfl:=or3 b3 (by decide) (by decide)
   have hz:=b6.resolve_left (by decide)
   have hv8:Nms nms:=by
    rw [show lkV ⟨3,⟨#[]⟩,nms,vn,val⟩ l.length=⟨2,(hdL 8 nilB nms,List.replicate l.length vn1)⟩ by simp [lkV]] at kv
    exact (kv.2.1.2.2.1 rfl).2
   rw [show mtk (n + 1) (⟨3,⟨#[]⟩,nms,vn,val⟩,l)=mk [123] :: (sepT (mk [44]) (itm [61] nms (l.map (mtk n)))++[mk [125]]) by simp [mtk];rfl] at hs
   obtain ⟨a,r,rfl,a1,a2,hs⟩:=same_cons hs
   have ha:=own_mk a1 a2
   obtain ⟨ys,e,h1,h2⟩:=named_go (I:=mpgT (stp f)) (R:=fun x y=>Iso n x (dp f + 1) y) [61] nms l (p4 (Or.inl rfl)) hch hv8 p6 T hs
   refine ⟨(⟨3,nilB,nms,1,vz⟩,ys),?_,rfl,rfl,rfl,(vz_lf hz).2.symm ▸ rfl,hlf,⟨rfl,rfl⟩,h1,h2⟩
   simp only [List.cons_append,stpT,ha]
   rw [if_neg (by decide),if_neg (by decide),if_neg (by decide),if_neg (by decide),if_pos trivial]
   simp only [brT,e,List.map_map,show (mkB ∘ bl)=id from funext fun s=>mkB_bl s,List.map_id]
  ·obtain rfl:=or3 b3 (by decide) (by decide)
   obtain rfl:=or3 b4 (by decide) (by decide)
   have hz:=b6.resolve_left (by decide)
   have hl1:=k4 rfl
   match l,hl1,hch,hs with
   | [x1],_,hch,hs =>
    rw [show mtk (n + 1) (⟨4,⟨#[]⟩,[],vn,val⟩,[x1])=mk [91] :: (mtk n x1++[mk [93]]) by simp [mtk,btw]] at hs
    obtain ⟨a,r,rfl,a1,a2,hs⟩:=same_cons hs
    obtain ⟨m1,m2,rfl,c1,hs⟩:=same_app hs
    obtain ⟨b,r,rfl,d1,d2,hs⟩:=same_cons hs
    have:=same_nil hs
    subst this
    have ha:=own_mk a1 a2
    have hb:=own_mk d1 d2
    obtain ⟨y,ey,hy⟩:=hch x1 (by simp) m1 b T c1 (by rw [hb];decide)
    refine ⟨(lf 4,[y]),?_,rfl,rfl,rfl,(vz_lf hz).2.symm ▸ rfl,hlf,⟨rfl,rfl⟩,rfl,fun i h h'=>?_⟩
    ·rw [List.cons_append,show m1++[b]++T=m1++b :: T by simp]
     simp only [stpT,ha]
     rw [if_neg (by decide),if_pos trivial]
     simp only [clT,ey,want_yes hb]
    ·obtain rfl:i=0:=by simpa using h
     exact hy
  ·obtain rfl:=or3 b4 (by decide) (by decide)
   obtain rfl:=or5 b5 (by decide) (by decide) (by decide) (by decide)
   have hz:=b6.resolve_left (by decide)
   rw [show mtk (n + 1) (⟨5,nm,[],vn,val⟩,[])=[wd [116,97,103],ntk (bl nm)] by simp [mtk]] at hs
   obtain ⟨a,r,rfl,a1,a2,hs⟩:=same_cons hs
   obtain ⟨b,r,rfl,c1,c2,hs⟩:=same_cons hs
   have:=same_nil hs
   subst this
   have ha:=own_wd a1 a2
   rw [ntk_s] at c2
   have hv2:=tag_isv nm |>.1 (by simpa [lkV] using kv)
   have hw2:=tag_win nm |>.1 (by simpa [lkV] using kw)
   have hb:nameL [] (b :: T)=.inr (bl nm,T):=by
    show nameT [] b T=_
    unfold nameT
    rw [if_pos ⟨by rw [c1];exact (ntk_ok nm hv2 hw2).2.2.1,by simp⟩,c2]
   refine ⟨(⟨5,nm,[],1,vz⟩,[]),?_,iso_leaf hz⟩
   simp only [List.cons_append,List.nil_append,stpT,ha]
   rw [if_neg (by decide),if_neg (by decide),if_neg (by decide),if_pos trivial]
   simp only [gtT,hb,mkB_bl]
  ·obtain rfl:=or3 b3 (by decide) (by decide)
   have hz:=b6.resolve_left (by decide)
   have hv8:Nms nms:=by
    rw [show lkV ⟨6,⟨#[]⟩,nms,vn,val⟩ l.length=⟨2,(hdL 8 nilB nms,List.replicate l.length vn1)⟩ by simp [lkV]] at kv
    exact (kv.2.1.2.2.1 rfl).2
   rw [show mtk (n + 1) (⟨6,⟨#[]⟩,nms,vn,val⟩,l)=wd [99,97,115,101] :: mk [123] :: (sepT (mk [44]) (itm [61] nms (l.map (mtk n)))++[mk [125]]) by simp [mtk];rfl] at hs
   obtain ⟨a,r,rfl,a1,a2,hs⟩:=same_cons hs
   obtain ⟨b,r,rfl,c1,c2,hs⟩:=same_cons hs
   have ha:=own_wd a1 a2
   have hb:=own_mk c1 c2
   obtain ⟨ys,e,h1,h2⟩:=named_go (I:=mpgT (stp f)) (R:=fun x y=>Iso n x (dp f + 1) y) [61] nms l (p4 (Or.inr rfl)) hch hv8 p6 T hs
   refine ⟨(⟨6,nilB,nms,1,vz⟩,ys),?_,rfl,rfl,rfl,(vz_lf hz).2.symm ▸ rfl,hlf,⟨rfl,rfl⟩,h1,h2⟩
   simp only [List.cons_append,stpT,ha]
   rw [if_neg (by decide),if_neg (by decide),if_neg (by decide),if_neg (by decide),if_neg (by decide),if_pos trivial]
   simp only [want_yes hb,brT,e,List.map_map,show (mkB ∘ bl)=id from funext fun s=>mkB_bl s,List.map_id]
  ·obtain rfl:=or3 b3 (by decide) (by decide)
   obtain rfl:=or3 b4 (by decide) (by decide)
   obtain rfl:=or5 b5 (by decide) (by decide) (by decide) (by decide)
   rw [show lkV ⟨7,⟨#[]⟩,[],vn,val⟩ ([]:List (ET n)).length=⟨vn,val⟩ by simp [lkV]] at kv
   rw [show mtk (n + 1) (⟨7,⟨#[]⟩,[],vn,val⟩,[])=[wd [99,111,110,115,116],ctk (vhd vn val)] by simp [mtk]] at hs
   obtain ⟨a,r,rfl,a1,a2,hs⟩:=same_cons hs
   obtain ⟨b,r,rfl,c1,c2,hs⟩:=same_cons hs
   have:=same_nil hs
   subst this
   have ha:=own_wd a1 a2
   obtain ⟨y,ey,h1,h2⟩:=cnt_lf kv (k7 rfl) T c1 c2
   refine ⟨(⟨7,nilB,[],1,y⟩,[]),?_,rfl,rfl,rfl,h1,hlf,h2,rfl,fun i h=>absurd h (by simp)⟩
   simp only [List.cons_append,List.nil_append,stpT,ha]
   rw [if_neg (by decide),if_neg (by decide),if_neg (by decide),if_neg (by decide),if_neg (by decide),if_neg (by decide),if_pos trivial]
   simp only [ey]
  ·obtain rfl:=or3 b3 (by decide) (by decide)
   obtain rfl:=or3 b4 (by decide) (by decide)
   obtain rfl:=or5 b5 (by decide) (by decide) (by decide) (by decide)
   have hz:=b6.resolve_left (by decide)
   rw [show mtk (n + 1) (⟨8,⟨#[]⟩,[],vn,val⟩,[])=[wd [116,111,116,101,120,116]] by simp [mtk,plW]] at hs
   obtain ⟨a,r,rfl,a1,a2,hs⟩:=same_cons hs
   have:=same_nil hs
   subst this
   have ha:=own_wd a1 a2
   refine ⟨(⟨8,⟨#[]⟩,[],1,vz⟩,[]),?_,iso_leaf hz⟩
   simp only [List.cons_append,List.nil_append,stpT,ha]
   rfl
  ·obtain rfl:=or3 b3 (by decide) (by decide)
   obtain rfl:=or3 b4 (by decide) (by decide)
   obtain rfl:=or5 b5 (by decide) (by decide) (by decide) (by decide)
   have hz:=b6.resolve_left (by decide)
   rw [show mtk (n + 1) (⟨9,⟨#[]⟩,[],vn,val⟩,[])=[wd [116,111,110,117,109]] by simp [mtk,plW]] at hs
   obtain ⟨a,r,rfl,a1,a2,hs⟩:=same_cons hs
   have:=same_nil hs
   subst this
   have ha:=own_wd a1 a2
   refine ⟨(⟨9,⟨#[]⟩,[],1,vz⟩,[]),?_,iso_leaf hz⟩
   simp only [List.cons_append,List.nil_append,stpT,ha]
   rfl
  ·obtain rfl:=or3 b3 (by decide) (by decide)
   obtain rfl:=or3 b4 (by decide) (by decide)
   obtain rfl:=or5 b5 (by decide) (by decide) (by decide) (by decide)
   have hz:=b6.resolve_left (by decide)
   rw [show mtk (n + 1) (⟨10,⟨#[]⟩,[],vn,val⟩,[])=[wd [115,117,109]] by simp [mtk,plW]] at hs
   obtain ⟨a,r,rfl,a1,a2,hs⟩:=same_cons hs
   have:=same_nil hs
   subst this
   have ha:=own_wd a1 a2
   refine ⟨(⟨10,⟨#[]⟩,[],1,vz⟩,[]),?_,iso_leaf hz⟩
   simp only [List.cons_append,List.nil_append,stpT,ha]
   rfl
  ·obtain rfl:=or3 b3 (by decide) (by decide)
   obtain rfl:=or3 b4 (by decide) (by decide)
   obtain rfl:=or5 b5 (by decide) (by decide) (by decide) (by decide)
   have hz:=b6.resolve_left (by decide)
   rw [show mtk (n + 1) (⟨11,⟨#[]⟩,[],vn,val⟩,[])=[wd [99,111,117,110,116]] by simp [mtk,plW]] at hs
   obtain ⟨a,r,rfl,a1,a2,hs⟩:=same_cons hs
   have:=same_nil hs
   subst this
   have ha:=own_wd a1 a2
   refine ⟨(⟨11,⟨#[]⟩,[],1,vz⟩,[]),?_,iso_leaf hz⟩
   simp only [List.cons_append,List.nil_append,stpT,ha]
   rfl
theorem st_all:∀ (f n:Nat) (x:ET n),Nods n x→edep n x≤f→StO f n x
 | 0,n,x,hn,hd=>by
  cases n with
  | zero=>exact Empty.elim x
  | succ n=>simp only [edep] at hd;omega
 | f + 1,n,x,hn,hd=>st_next (st_all f) n x hn hd
theorem pa_round {n:Nat} {x:ET n} (h:lck dq n x=0) (hp:(prX dq n x).1=0) {f:Nat} (hf:1025≤f):∃ y,paR dq f (prX dq n x).2=.inr y∧Iso n x (dp f + 1) y:=by
 obtain ⟨hn,hd,hz⟩:=lck_ok h
 unfold prX at hp ⊢
 rw [if_pos h] at hp ⊢
 simp only at hp ⊢
 obtain ⟨m,a,e,hs⟩:=scR_of (l:=mtk n x) (by omega)
 obtain ⟨y,ey,hy⟩:=mp_any (st_all f) n x hn (Or.inl (by omega)) m ⟨0,[],((prR (mtk n x)).2.length:Nat)⟩ [] hs (by simp [ownT])
 have hr:rdR f (prR (mtk n x)).2=.inr y:=by
  unfold rdR
  rw [e]
  simp only [if_true]
  rw [ey]
  rfl
 refine ⟨y,?_,hy⟩
 unfold paR
 rw [hr]
 simp only [prsO]
 rw [if_pos (hy.lck h)]
end Lx
end Go.Proofs.YtcnfchblfcfimaaGreatDoor
namespace Go.Proofs.YtcnfchblfcfimaaGreatDoor
namespace Lx
open Go.RowKit
variable {dq : {_f : (p : Prop) → Decidable p // True}}
set_option maxRecDepth 100000
def TyO (f n:Nat) (x:TT n):Prop:=∀ m T,same m (ttk n x)→∃ y,tyf f (m++T)=.inr (y,T)∧IsoT n x f y
theorem tdep_mem {n:Nat} {x:TT (n + 1)} {y:TT n} (h:y∈x.2):tdep n y + 1≤tdep (n + 1) x:=by
 have:=mem_mxl (List.mem_map_of_mem (f:=tdep n) h)
 simp only [tdep]
 omega
theorem ty_leaf {f n:Nat} (k:Int) (w:List UInt8) (e:ptW k=w) (ho:ptO w=some k) (h1:¬ w=[108,105,115,116]) (h2:¬ w=[114,101,99,111,114,100]) (h3:¬ w=[117,110,105,111,110]) (h9:¬ k=9) (h10:¬ k=10) (h11:¬ k=11):TyO (f + 1) (n + 1) ((⟨k,[]⟩,[]):TT (n + 1)):=by
 intro m T hs
 rw [show ttk (n + 1) ((⟨k,[]⟩,[]):TT (n + 1))=[wd w] by simp [ttk,h9,h10,h11,e]] at hs
 obtain ⟨a,r,rfl,a1,a2,hs⟩:=same_cons hs
 have:=same_nil hs
 subst this
 have ha:=own_wd a1 a2
 refine ⟨(⟨k,[]⟩,[]),?_,rfl,rfl,fun i h=>absurd h (by simp)⟩
 show tyT (tyf f) (a :: T)=_
 simp only [tyT,ha]
 rw [if_neg h1,if_neg h2,if_neg h3,ho]
theorem ty_next {f:Nat} (ih:∀ n (x:TT n),IsT n x→TSht n x→tdep n x≤f→TyO f n x) (n:Nat) (x:TT n) (hi:IsT n x) (hw:TSht n x) (hd:tdep n x≤f + 1):TyO (f + 1) n x:=by
 cases n with
 | zero=>exact Empty.elim x
 | succ n =>
  have hch:∀ y∈x.2,Rdr (ttk n) (tyf f) (fun x y=>IsoT n x f y) y:=fun y hy=>by
   have k:=ih n y (hi.2 y hy) (hw.2.2 y hy) (by have:=tdep_mem hy;omega)
   exact fun m t T hs _=>k m (t :: T) hs
  obtain ⟨⟨k,nms⟩,l⟩:=x
  have h64:∀ s∈nms,s.size≤64:=hw.2.1
  obtain ⟨hf,_⟩:=hi
  clear hw hd ih
  simp only at hch
  rcases hf with ⟨q1,q2,q3⟩|⟨q1,q2,q3⟩|⟨q1,q2,q3,q4⟩
  ·simp only at q1 q2 q3
   subst q1
   obtain rfl:=List.eq_nil_of_length_eq_zero q2
   intro m T hs
   match l,q3,hch,hs with
   | [x1],_,hch,hs =>
    rw [show ttk (n + 1) ((⟨9,[]⟩,[x1]):TT (n + 1))=wd [108,105,115,116] :: mk [40] :: (ttk n x1++[mk [41]]) by simp [ttk,btw]] at hs
    obtain ⟨a,r,rfl,a1,a2,hs⟩:=same_cons hs
    obtain ⟨a',r,rfl,a1',a2',hs⟩:=same_cons hs
    obtain ⟨m1,m2,rfl,c1,hs⟩:=same_app hs
    obtain ⟨b,r,rfl,d1,d2,hs⟩:=same_cons hs
    have:=same_nil hs
    subst this
    have ha:=own_wd a1 a2
    have ha':=own_mk a1' a2'
    have hb:=own_mk d1 d2
    obtain ⟨y,ey,hy⟩:=hch x1 (by simp) m1 b T c1 (by rw [hb];decide)
    refine ⟨(⟨9,[]⟩,[y]),?_,rfl,rfl,fun i h h'=>?_⟩
    ·show tyT (tyf f) (a :: a' :: (m1++[b])++T)=_
     rw [List.cons_append,List.cons_append,show m1++[b]++T=m1++b :: T by simp]
     simp only [tyT,ha]
     rw [if_pos trivial]
     simp only [ltT,want_yes ha',ey,want_yes hb]
    ·obtain rfl:i=0:=by simpa using h
     exact hy
  ·simp only at q1 q2 q3
   intro m T hs
   rcases q1 with rfl|rfl
   ·rw [show ttk (n + 1) ((⟨10,nms⟩,l):TT (n + 1))=wd [114,101,99,111,114,100] :: mk [123] :: (sepT (mk [44]) (itm [58] nms (l.map (ttk n)))++[mk [125]]) by simp [ttk];rfl] at hs
    obtain ⟨a,r,rfl,a1,a2,hs⟩:=same_cons hs
    obtain ⟨b,r,rfl,c1,c2,hs⟩:=same_cons hs
    have ha:=own_wd a1 a2
    have hb:=own_mk c1 c2
    obtain ⟨ys,e,h1,h2⟩:=named_go (I:=tyf f) (R:=fun x y=>IsoT n x f y) [58] nms l q2 hch q3 h64 T hs
    refine ⟨(⟨10,nms⟩,ys),?_,rfl,h1,h2⟩
    show tyT (tyf f) (a :: b :: r++T)=_
    simp only [List.cons_append,tyT,ha]
    rw [if_neg (by decide),if_pos trivial]
    simp only [fdT,want_yes hb,e,List.map_map,show (mkB ∘ bl)=id from funext fun s=>mkB_bl s,List.map_id]
   ·rw [show ttk (n + 1) ((⟨11,nms⟩,l):TT (n + 1))=wd [117,110,105,111,110] :: mk [123] :: (sepT (mk [44]) (itm [58] nms (l.map (ttk n)))++[mk [125]]) by simp [ttk];rfl] at hs
    obtain ⟨a,r,rfl,a1,a2,hs⟩:=same_cons hs
    obtain ⟨b,r,rfl,c1,c2,hs⟩:=same_cons hs
    have ha:=own_wd a1 a2
    have hb:=own_mk c1 c2
    obtain ⟨ys,e,h1,h2⟩:=named_go (I:=tyf f) (R:=fun x y=>IsoT n x f y) [58] nms l q2 hch q3 h64 T hs
    refine ⟨(⟨11,nms⟩,ys),?_,rfl,h1,h2⟩
    show tyT (tyf f) (a :: b :: r++T)=_
    simp only [List.cons_append,tyT,ha]
    rw [if_neg (by decide),if_neg (by decide),if_pos trivial]
    simp only [fdT,want_yes hb,e,List.map_map,show (mkB ∘ bl)=id from funext fun s=>mkB_bl s,List.map_id]
  ·simp only at q1 q2 q3 q4
   obtain rfl:=List.eq_nil_of_length_eq_zero q3
   obtain rfl:=List.eq_nil_of_length_eq_zero q4
   have hk:k=1∨k=2∨k=3∨k=4∨k=5∨k=6∨k=7∨k=8:=by omega
   rcases hk with rfl|rfl|rfl|rfl|rfl|rfl|rfl|rfl
   all_goals exact ty_leaf _ _ rfl (by decide) (by decide) (by decide) (by decide) (by decide) (by decide) (by decide)
theorem ty_all:∀ (f n:Nat) (x:TT n),IsT n x→TSht n x→tdep n x≤f→TyO f n x
 | 0,n,x,hi,hw,hd=>by
  cases n with
  | zero=>exact Empty.elim x
  | succ n=>simp only [tdep] at hd;omega
 | f + 1,n,x,hi,hw,hd=>ty_next (ty_all f) n x hi hw hd
theorem pt_round {n:Nat} {x:TT n} (h:tck dq n x=0) (hp:(prT dq n x).1=0) {f:Nat} (hf:1025≤f):∃ y,paT dq f (prT dq n x).2=.inr y∧IsoT n x f y:=by
 obtain ⟨hi,hw,hd,hz⟩:=tck_ok h
 unfold prT at hp ⊢
 rw [if_pos h] at hp ⊢
 simp only at hp ⊢
 obtain ⟨m,a,e,hs⟩:=scR_of (l:=ttk n x) (by omega)
 obtain ⟨y,ey,hy⟩:=ty_all f n x hi hw (by omega) m [⟨0,[],((prR (ttk n x)).2.length:Nat)⟩] hs
 have hr:rdRt f (prR (ttk n x)).2=.inr y:=by
  unfold rdRt
  rw [e]
  simp only [if_true]
  rw [ey]
  rfl
 refine ⟨y,?_,hy⟩
 unfold paT
 rw [hr]
 simp only [prsT]
 rw [if_pos (hy.tck h)]
end Lx
end Go.Proofs.YtcnfchblfcfimaaGreatDoor
namespace Go.Proofs.YtcnfchblfcfimaaGreatDoor
open Go.RowKit
def okC (c:UInt8):Bool:=isDig c || c==45 || c==46 || c==101
theorem okC_dig {l:List UInt8} (h:allD l=true):∀ c∈l,okC c=true:=by
 intro c hc
 have:=List.all_eq_true.1 h c hc
 unfold okC
 rw [this];rfl
theorem itoa_okC (p:Int) (h1:-439≤p) (h2:p≤439):∀ c∈Lib.itoa p,okC c=true:=by
 unfold Lib.itoa
 split
 ·intro c hc
  rcases List.mem_cons.1 hc with rfl|hc
  ·rfl
  ·exact okC_dig (dec_facts p.natAbs (by omega)).2.1 c hc
 ·exact okC_dig (dec_facts p.toNat (by omega)).2.1
theorem print_okC (n:Bool) (s:ByteArray) (x:Int) (h:isN n s x=true):∀ c∈printL n (bl s) x,okC c=true:=by
 obtain ⟨had,h1,h40,hx1,hx2,_⟩:=isN_all h
 have hd:=okC_dig had
 have hrep:∀ k,∀ c∈List.replicate k (48:UInt8),okC c=true:=fun k c hc=>by rw [List.eq_of_mem_replicate hc];rfl
 have hll:=bl_length s
 unfold printL
 intro c hc
 rcases List.mem_append.1 hc with q|q
 ·cases n with
  | true=>rw [List.mem_singleton.1 (show c∈[45] from q)];rfl
  | false=>cases q
 ·split at q
  ·rcases List.mem_append.1 q with q|q
   ·exact hd c q
   ·exact hrep _ c q
  ·split at q
   ·unfold pointed at q
    split at q
    ·rcases List.mem_cons.1 q with rfl|q
     ·rfl
     rcases List.mem_cons.1 q with rfl|q
     ·rfl
     rcases List.mem_append.1 q with q|q
     ·exact hrep _ c q
     ·exact hd c q
    ·rcases List.mem_append.1 q with q|q
     ·exact hd c (List.mem_of_mem_take q)
     rcases List.mem_cons.1 q with rfl|q
     ·rfl
     ·exact hd c (List.mem_of_mem_drop q)
   ·unfold powered at q
    rcases List.mem_append.1 q with q|q
    ·rcases List.mem_append.1 q with q|q
     ·exact hd c (List.mem_of_mem_take q)
     ·split at q
      ·rcases List.mem_cons.1 q with rfl|q
       ·rfl
       ·exact hd c (List.mem_of_mem_drop q)
      ·cases q
    ·rcases List.mem_cons.1 q with rfl|q
     ·rfl
     ·exact itoa_okC _ (by omega) (by omega) c q
namespace Lx
variable {dq : {_f : (p : Prop) → Decidable p // True}}
set_option maxRecDepth 100000
theorem dig_two_n:∀ n:_root_.Fin 256,Go.Proofs.YtcnfchblfcfimaaGreatDoor.isDig (UInt8.ofNat n.val)=true→isDig (UInt8.ofNat n.val)=true:=by decide +kernel
theorem dig_two (c:UInt8) (h:Go.Proofs.YtcnfchblfcfimaaGreatDoor.isDig c=true):isDig c=true:=by
 have:=dig_two_n ⟨c.toNat,c.toNat_lt⟩
 have e:UInt8.ofNat c.toNat=c:=by simp
 simp only [e] at this
 exact this h
theorem okC_num_n:∀ n:_root_.Fin 256,okC (UInt8.ofNat n.val)=true→inNum (UInt8.ofNat n.val)=true:=by decide +kernel
theorem okC_num (c:UInt8) (h:okC c=true):inNum c=true:=by
 have:=okC_num_n ⟨c.toNat,c.toNat_lt⟩
 have e:UInt8.ofNat c.toNat=c:=by simp
 simp only [e] at this
 exact this h
theorem wh_full {p:UInt8→Bool}:∀ {l:List UInt8},(∀ c∈l,p c=true)→wh p l=l.length
 | [],_=>rfl
 | c :: l,h=>by
  have:=wh_full (l:=l) fun d hd=>h d (by simp [hd])
  simp only [wh,List.length_cons]
  rw [h c (by simp),this]
  simp
theorem num_head {l:List UInt8} (h:(parseF l).2.2.2=0):∃ c r,l=c :: r∧(c.toNat=45∨isDig c=true):=by
 have hs:splitL l≠none:=by
  intro e
  unfold parseF at h
  rw [e] at h
  cases h
 have hb:badW ((tlB 45 l).takeWhile Go.Proofs.YtcnfchblfcfimaaGreatDoor.isDig)=false:=by
  cases hq:badW ((tlB 45 l).takeWhile Go.Proofs.YtcnfchblfcfimaaGreatDoor.isDig) with
  | false=>rfl
  | true =>
   refine absurd ?_ hs
   unfold splitL
   rw [hq]
   rfl
 cases l with
 | nil=>exact absurd hb (by decide)
 | cons c r =>
  refine ⟨c,r,rfl,?_⟩
  by_cases hc:c=45
  ·subst hc;exact Or.inl rfl
  ·right
   have e:tlB 45 (c :: r)=c :: r:=by simp [tlB,hdB,hc]
   rw [e] at hb
   cases hd:Go.Proofs.YtcnfchblfcfimaaGreatDoor.isDig c with
   | true=>exact dig_two c hd
   | false =>
    rw [List.takeWhile_cons,hd] at hb
    have hb2:badW []=false:=hb
    exact absurd hb2 (by decide)
theorem num_tok {n:Bool} {s:ByteArray} {x:Int} (h:isN n s x=true):isT nok 3 (printL n (bl s) x)=true:=by
 have hp:=parse_print n s x h
 have h0:(parseF (printL n (bl s) x)).2.2.2=0:=by rw [hp]
 have hc:=fun c q=>okC_num c (print_okC n s x h c q)
 obtain ⟨c,r,e,hh⟩:=num_head h0
 have hk:nok (printL n (bl s) x)=true:=by unfold nok;rw [h0];rfl
 rw [e] at hk hc ⊢
 have hw:=wh_full hc
 unfold isT
 rw [if_neg (by decide),if_neg (by decide),if_neg (by simp)]
 have e2:(cutK nok (kdW 3) (c :: r)).2=nuS nok (c :: r):=rfl
 have e3:nuS nok (c :: r)=(if (!(c.toNat==45) && !isDig c)=true then 0 else if nok ((c :: r).take (wh inNum (c :: r)))=true then wh inNum (c :: r) else 0):=rfl
 rw [e2,e3,hw,List.take_length,hk]
 have:(!(c.toNat==45) && !isDig c)=false:=by
  rcases hh with q|q
  ·simp [q]
  ·simp [q]
 rw [this]
 simp
theorem ctk_tok {n:Nat} {v:VT n} (hv:IsV n v) (k:isCn (vhd n v).kind):isT nok (ctk (vhd n v)).w (ctk (vhd n v)).s=true:=by
 cases n with
 | zero=>exact Empty.elim v
 | succ n =>
  obtain ⟨⟨kd,fl,ng,dg,ex,bt,tx,ns⟩,vl⟩:=v
  obtain ⟨_,⟨f3,f5,_,_⟩,_⟩:=hv
  simp only at f3 f5
  rcases k with k|k|k|k
  ·have k:kd=1:=k
   subst k
   exact (by decide +kernel:isT nok 1 [110,117,108,108]=true)
  ·have k:kd=2:=k
   subst k
   cases fl
   ·exact (by decide +kernel:isT nok 1 [102,97,108,115,101]=true)
   ·exact (by decide +kernel:isT nok 1 [116,114,117,101]=true)
  ·have k:kd=3:=k
   subst k
   exact num_tok (f3 rfl)
  ·have k:kd=5:=k
   subst k
   show isT nok 2 (bl tx)=true
   unfold isT
   rw [if_neg (by decide),if_pos (by decide)]
   exact f5 rfl
def Tkd (t:Tk):Prop:=isT nok t.w t.s=true
theorem tkd_mk {s:List UInt8} (h:isT nok 4 s=true):Tkd (mk s):=h
theorem tkd_wd {s:List UInt8} (h:isT nok 1 s=true):Tkd (wd s):=h
theorem nmd_tok {m:List UInt8} (hm:isT nok 4 m=true) {ns:List ByteArray} {ks:List (List Tk)} (hn:Nms ns) (h64:∀ s∈ns,s.size≤64) (hk:∀ k∈ks,∀ t∈k,Tkd t):∀ t∈nmd m ns ks,Tkd t:=by
 intro t ht
 unfold nmd at ht
 rcases btw_all ht with rfl|ht|rfl
 ·exact tkd_mk (by decide +kernel)
 ·rcases sep_all _ _ t ht with rfl|⟨a,ha,ht⟩
  ·exact tkd_mk (by decide +kernel)
  ·obtain ⟨s,k,h1,h2,rfl⟩:=itm_all m ns ks a ha
   rcases List.mem_cons.1 ht with rfl|ht
   ·exact (ntk_ok s (hn.1 s h1) (h64 s h1)).1
   ·rcases List.mem_cons.1 ht with rfl|ht
    ·exact tkd_mk hm
    ·exact hk k h2 t ht
 ·exact tkd_mk (by decide +kernel)
theorem mtk_tok:∀ (n:Nat) (x:ET n),Nods n x→∀ t∈mtk n x,Tkd t
 | 0,x,_=>Empty.elim x
 | n + 1,x,hn=>by
  have hch:∀ k∈x.2.map (mtk n),∀ t∈k,Tkd t:=fun k hk=>by
   obtain ⟨y,hy,rfl⟩:=List.mem_map.1 hk
   exact mtk_tok n y (hn.2 y hy)
  have hN:=hn.1
  have hpre:=hN.pre
  obtain ⟨⟨⟨b1,b2⟩,b3,b4,b5,b6⟩,k4,k12,k7,kv,kw⟩:=hN
  obtain ⟨⟨k,nm,nms,vn,val⟩,l⟩:=x
  obtain ⟨_,_,_,p4,_,p6,_,_⟩:=hpre
  simp only at b1 b2 b3 b4 b5 b6 k4 k7 kv kw p4 p6 hch
  clear hn
  intro t ht
  simp only [mtk] at ht
  split at ht
  ·rename_i q
   subst q
   have hv2:=tag_isv nm |>.1 (by simpa [lkV] using kv)
   have hw2:=tag_win nm |>.1 (by simpa [lkV] using kw)
   rcases List.mem_cons.1 ht with rfl|ht
   ·exact tkd_mk (by decide +kernel)
   ·rw [List.mem_singleton.1 ht]
    exact (ntk_ok nm hv2 hw2).1
  ·split at ht
   ·rename_i q
    subst q
    have hv2:=tag_isv nm |>.1 (by simpa [lkV] using kv)
    have hw2:=tag_win nm |>.1 (by simpa [lkV] using kw)
    rcases List.mem_cons.1 ht with rfl|ht
    ·exact tkd_wd (by decide +kernel)
    ·rw [List.mem_singleton.1 ht]
     exact (ntk_ok nm hv2 hw2).1
   ·split at ht
    ·rename_i q
     subst q
     rw [show lkV ⟨7,nm,nms,vn,val⟩ l.length=⟨vn,val⟩ by simp [lkV]] at kv
     rcases List.mem_cons.1 ht with rfl|ht
     ·exact tkd_wd (by decide +kernel)
     ·rw [List.mem_singleton.1 ht]
      exact ctk_tok kv (k7 rfl)
    ·split at ht
     ·rename_i q
      rcases btw_all ht with rfl|ht|rfl
      ·exact tkd_mk (by decide +kernel)
      ·cases l with
       | nil=>simp at ht
       | cons y l=>exact hch (mtk n y) (List.mem_map_of_mem (by simp)) t ht
      ·exact tkd_mk (by decide +kernel)
     ·split at ht
      ·rename_i q
       subst q
       rw [show lkV ⟨3,nm,nms,vn,val⟩ l.length=⟨2,(hdL 8 nilB nms,List.replicate l.length vn1)⟩ by simp [lkV]] at kv
       exact nmd_tok (by decide +kernel) (kv.2.1.2.2.1 rfl).2 p6 hch t ht
      ·split at ht
       ·rename_i q
        subst q
        rw [show lkV ⟨6,nm,nms,vn,val⟩ l.length=⟨2,(hdL 8 nilB nms,List.replicate l.length vn1)⟩ by simp [lkV]] at kv
        rcases List.mem_cons.1 ht with rfl|ht
        ·exact tkd_wd (by decide +kernel)
        ·exact nmd_tok (by decide +kernel) (kv.2.1.2.2.1 rfl).2 p6 hch t ht
       ·split at ht
        ·rcases sep_all _ _ t ht with rfl|⟨a,ha,ht⟩
         ·exact tkd_mk (by decide +kernel)
         ·obtain ⟨y,hy,rfl⟩:=List.mem_map.1 ha
          have hy':=hch (mtk n y) (List.mem_map_of_mem hy)
          split at ht
          ·rcases btw_all ht with rfl|ht|rfl
           ·exact tkd_mk (by decide +kernel)
           ·exact hy' t ht
           ·exact tkd_mk (by decide +kernel)
          ·exact hy' t ht
        ·rw [List.mem_singleton.1 ht]
         have hk:k=1∨k=8∨k=9∨k=10∨k=11:=by omega
         rcases hk with rfl|rfl|rfl|rfl|rfl
         ·exact tkd_wd (by decide +kernel)
         ·exact tkd_wd (by decide +kernel)
         ·exact tkd_wd (by decide +kernel)
         ·exact tkd_wd (by decide +kernel)
         ·exact tkd_wd (by decide +kernel)
theorem prX_two {n:Nat} {x:ET n} (h:lck dq n x=0):(prX dq n x).1=0∨(prX dq n x).1=2:=by
 obtain ⟨hn,_,_⟩:=lck_ok h
 unfold prX
 rw [if_pos h]
 have ht:=mtk_tok n x hn
 unfold prR
 rw [if_neg (fun q=>q ht)]
 split
 ·exact Or.inr rfl
 ·exact Or.inl rfl
end Lx
end Go.Proofs.YtcnfchblfcfimaaGreatDoor
namespace Go.Proofs.YtcnfchblfcfimaaGreatDoor
namespace Lx
open Go.RowKit
structure Be2 (w:World) (h:Eh) (q q':Sl) (W:World):Prop where
 below:Below w.heap.size w W
 ba:Ex W w.heap.size h q
 bb:Ex W (w.heap.size + 1) h q'
theorem Be2.then {w W W1:World} {h:Eh} {q q':Sl} (k:Be2 w h q q' W) (hb:Below W.heap.size W W1):Be2 w h q q' W1:=⟨below_then k.below hb,k.ba.below hb,k.bb.below hb⟩
theorem Be2.new (w:World) (h:Eh) (q q':Sl):Be2 w h q q' ((w.alloc (.cells (ecl h q) 33)).alloc (.cells (ecl h q') 33)):=by
 refine ⟨below_al (below_al (Below.refl _ _)),(ex_new w h q).below (below_al (Below.refl _ _)),?_⟩
 have:=ex_new (w.alloc (.cells (ecl h q) 33)) h q'
 rw [World.size_alloc] at this
 exact this
theorem belowE_dr {L:Nat} {w W:World} (h:Below L w W):Below L w W.drew:=h.drew
theorem belowE_dn {L:Nat} {w W:World} (h:Below L w W) (n:Nat):Below L w (W.drewN n):=h.trans (below_drewN _ _ _)
set_option maxHeartbeats 4000000 in
set_option maxRecDepth 100000 in
theorem esame_any:∀ (n:Nat) (x:ET n) (q q':Sl) (w:World),RE n w x q→RE n w x q' →
  Calls Tryz.prog 12 #[.agg (ecl (ehd n x) q),.agg (ecl (ehd n x) q')] w fun e w'=>e=.returned (.bool true)∧Below w.heap.size w w':=by
 intro n
 induction n with
 | zero=>intro x;exact Empty.elim x
 | succ n ih =>
  intro x q q' w hr hr'
  obtain ⟨⟨op,nm,nms,vn,val⟩,l⟩:=x
  have hx:=hide hr
  have hy:=hide hr'
  have ih':=hide ih
  obtain ⟨al,cl,e1,hc1,hc2⟩:=hr.tl.len
  obtain ⟨an,cn,e2,hn1,hn2⟩:=hr.1.len
  obtain ⟨bl',dl,e3,hd1,hd2⟩:=hr'.tl.len
  obtain ⟨bn,dn,e4,ho1,ho2⟩:=hr'.1.len
  obtain ⟨x1,y1,z1,x2,y2,z2,x3,y3,z3,x4,y4,z4,hqs⟩:=hr.shape
  subst hqs
  obtain ⟨uz1,vz1,tz1,uz2,vz2,tz2,uz3,vz3,tz3,uz4,vz4,tz4,hqs⟩:=hr'.shape
  subst hqs
  obtain ⟨rfl,rfl,rfl⟩:=Value.slice.inj e1
  obtain ⟨rfl,rfl,rfl⟩:=Value.slice.inj e2
  obtain ⟨rfl,rfl,rfl⟩:=Value.slice.inj e3
  obtain ⟨rfl,rfl,rfl⟩:=Value.slice.inj e4
  have hv:=hide (fun W (hb:Below w.heap.size w W)=>Calls.tb (b:=true) (requal_any vn val val (.slice x3 y3 z3) (.slice x4 y4 z4) (.slice uz3 vz3 tz3) (.slice uz4 vz4 tz4) W (hr.2.1.below hb) (hr'.2.1.below hb)) (by simp))
  have ml:maxLen=9223372036854775807:=rfl
  clear ih hr hr' e1 e2 e3 e4
  simp only at hn1 hn2 hc1 hc2 hd1 hd2 ho1 ho2
  have T0:=hide (Be2.new w ⟨op,nm,nms,vn,val⟩ ⟨.slice x1 nms.length z1,.slice x2 l.length z2,.slice x3 y3 z3,.slice x4 y4 z4⟩ ⟨.slice uz1 nms.length tz1,.slice uz2 l.length tz2,.slice uz3 vz3 tz3,.slice uz4 vz4 tz4⟩)
  show Calls _ _ #[.agg (ecl ⟨op,nm,nms,vn,val⟩ _),.agg (ecl ⟨op,nm,nms,vn,val⟩ _)] _ _
  unfold ecl at T0 ⊢
  unfold vals at hv
  dsimp only at T0 hv ⊢
  go_enter Tryz.func12, Tryz.ntmps12
  go_wp2_with (go_at_call 30;refine Sto.out ?_)
  refine Sto.mk ?_
  refine (hv.out _ T0.out.below).mono ?_
  rintro e w1 ⟨rfl,hb1⟩
  have T1:=hide (T0.out.then hb1)
  clear hb1 T0 hv
  go_wp2_with fail
  go_loopw [5] (fun i w'=>∃ k:Nat,i=.int .i64 k∧k≤nms.length∧Hid (Be2 w ⟨op,nm,nms,vn,val⟩ ⟨.slice x1 nms.length z1,.slice x2 l.length z2,.slice x3 y3 z3,.slice x4 y4 z4⟩ ⟨.slice uz1 nms.length tz1,.slice uz2 l.length tz2,.slice uz3 vz3 tz3,.slice uz4 vz4 tz4⟩ w')) (fun i _=>nms.length - (intOf i).toNat)
  case atStart=>exact ⟨0,rfl,Nat.zero_le _,T1.out⟩
  case round =>
   clear T1
   obtain ⟨k,rfl,hk',H⟩:=hrel
   have x0:=H.out.ba.cells
   have y0:=H.out.bb.cells
   by_cases hkl:k<nms.length
   ·have hki:(k:Int)<(nms.length:Int):=by omega
    have hk63:(k:Int)<9223372036854775807:=by omega
    obtain ⟨b,o,c,he,hbl,hlc,hcm,hcell⟩:=hx.out.1.at k hkl
    have he':=Value.slice.inj he
    obtain ⟨rfl,_,rfl⟩:=he'
    clear he
    have hcell:=(H.out.below.cell (p:=⟨b,o + k,none⟩) hbl).trans hcell
    obtain ⟨b',o',c',he,hbl',hlc',hcm',hcell'⟩:=hy.out.1.at k hkl
    have he':=Value.slice.inj he
    obtain ⟨rfl,_,rfl⟩:=he'
    clear he
    have hcell':=(H.out.below.cell (p:=⟨b',o' + k,none⟩) hbl').trans hcell'
    obtain ⟨s,hs⟩:∃ s,nms[k]=s:=⟨_,rfl⟩
    simp only at hcell hcell'
    rw [hs] at hcell hcell'
    clear hs
    go_wp2_with fail
    go_quiet (fail)
    go_wp2_with fail
    exact ⟨⟨k + 1,by go_num,by omega,H.out.then (belowE_dn (Below.refl _ _) _)⟩,by simp [intOf];omega⟩
   ·have hki:¬ ((k:Int)<(nms.length:Int)):=by omega
    have T1:=H
    clear H
    go_wp2_with fail
    go_loopw [6] (fun i w'=>∃ k:Nat,i=.int .i64 k∧k≤l.length∧Hid (Be2 w ⟨op,nm,nms,vn,val⟩ ⟨.slice x1 nms.length z1,.slice x2 l.length z2,.slice x3 y3 z3,.slice x4 y4 z4⟩ ⟨.slice uz1 nms.length tz1,.slice uz2 l.length tz2,.slice uz3 vz3 tz3,.slice uz4 vz4 tz4⟩ w')) (fun i _=>l.length - (intOf i).toNat)
    case atStart=>exact ⟨0,rfl,Nat.zero_le _,T1.out⟩
    case round =>
     clear T1 x0 y0 hki hk' hkl
     obtain ⟨k,rfl,hk',H⟩:=hrel
     have x0:=H.out.ba.cells
     have y0:=H.out.bb.cells
     by_cases hkl:k<l.length
     ·have hki:(k:Int)<(l.length:Int):=by omega
      have hk63:(k:Int)<9223372036854775807:=by omega
      obtain ⟨b1,o1,f1,he,hbl1,hlc1,hcm1,q1,hrg1,hrd1⟩:=hx.out.tl.at k hkl
      have he':=Value.slice.inj he
      obtain ⟨rfl,_,rfl⟩:=he'
      clear he
      obtain ⟨b2,o2,f2,he,hbl2,hlc2,hcm2,q2,hrg2,hrd2⟩:=hy.out.tl.at k hkl
      have he':=Value.slice.inj he
      obtain ⟨rfl,_,rfl⟩:=he'
      clear he
      have hd1':=hide hrd1
      have hd2':=hide hrd2
      obtain ⟨c1,c2,c3,c4,c5,c6,c7,c8,c9,c10,c11,c12,hqs⟩:=hrd1.shape
      subst hqs
      obtain ⟨d1,d2,d3,d4,d5,d6,d7,d8,d9,d10,d11,d12,hqs⟩:=hrd2.shape
      subst hqs
      have r0:=range13 (rangeAt_below hrg1 H.out.below hbl1)
      have s0:=range13 (rangeAt_below hrg2 H.out.below hbl2)
      clear hrg1 hrd1 hrg2 hrd2
      have hcall:=hide (fun W (hW:Below wr.heap.size wr W)=>ih'.out l[k] _ _ W (hd1'.out.below (below_then H.out.below hW)) (hd2'.out.below (below_then H.out.below hW)))
      simp only at r0 s0 hcall
      obtain ⟨hp,hhp⟩:∃ hp,ehd n l[k]=hp:=⟨_,rfl⟩
      rw [hhp] at r0 s0 hcall
      clear hhp
      simp only [ecl] at hcall
      go_wp2_with fail
      go_region_law (first|(go_simp;go_at_call 12;refine (hcall.out _ (by repeat (first|exact Below.refl _ _|refine belowE_dr ?_|refine belowE_dn ?_ _))).mono ?_;rintro e w3 ⟨rfl,hb3⟩;have T3:Hid (Below wr.heap.size wr w3):=below_then (by repeat (first|exact Below.refl _ _|refine belowE_dr ?_|refine belowE_dn ?_ _)) hb3;clear hb3;dsimp only))
      all_goals
       go_simp
       go_wp2_with fail
       exact ⟨⟨k + 1,by go_num,by omega,H.out.then T3.out⟩,by simp [intOf];omega⟩
     ·have hki:¬ ((k:Int)<(l.length:Int)):=by omega
      go_wp2_with fail
      go_ret
      exact ⟨rfl,H.out.below⟩
end Lx
end Go.Proofs.YtcnfchblfcfimaaGreatDoor
namespace Go.Proofs.YtcnfchblfcfimaaGreatDoor
namespace Lx
open Go.RowKit
variable {dq : {_f : (p : Prop) → Decidable p // True}}
set_option maxRecDepth 100000
theorem prX_lck {n:Nat} {x:ET n} (h:(prX dq n x).1=0):lck dq n x=0:=by
 unfold prX at h
 split at h
 ·assumption
 ·exact h
theorem prT_tck {n:Nat} {x:TT n} (h:(prT dq n x).1=0):tck dq n x=0:=by
 unfold prT at h
 split at h
 ·assumption
 ·exact h
theorem prR_small (l:List Tk):(prR l).2.length≤4096:=by
 unfold prR
 split
 ·simp
 ·split
  ·simp
  ·rename_i h
   have:¬ 4096<(jn (l.map splT)).length:=fun q=>h (Or.inr (Or.inr q))
   simp only
   omega
theorem prX_size (n:Nat) (x:ET n):(mkB (prX dq n x).2).size≤1000000:=by
 rw [mkB_size]
 unfold prX
 split
 ·exact Nat.le_trans (prR_small _) (by decide)
 ·simp
theorem prT_size (n:Nat) (x:TT n):(mkB (prT dq n x).2).size≤1000000:=by
 rw [mkB_size]
 unfold prT
 split
 ·exact Nat.le_trans (prR_small _) (by decide)
 ·simp
def Shp2 (q:Sl):Prop:=∃ a m c a' m' c' a2 m2 c2 a3 m3 c3,q=⟨.slice a m c,.slice a' m' c',.slice a2 m2 c2,.slice a3 m3 c3⟩
theorem parse_h (hP:ParseOk) {f:Nat} (hf:1025≤f) {s:ByteArray} {w:World} (g:Gw w) (hz:s.size≤1000000) :
  Calls Tryz.prog 9 #[.string s] w fun e w'=>∃ h q k n,e=.returned (.tuple #[.agg (ecl h q),.int .i64 k,.int .i64 n])∧Shp2 q∧Below w.heap.size w w':=by
 have dq:{_f:(p:Prop)→Decidable p // True}:=⟨fun p=>Classical.propDecidable p,trivial⟩
 cases h:paR dq f (bl s) with
 | inl y =>
  refine (parse_no (dq:=dq) hP hf g hz h).mono ?_
  rintro e w' ⟨rfl,hb⟩
  exact ⟨_,_,_,_,rfl,⟨_,_,_,_,_,_,_,_,_,_,_,_,rfl⟩,hb⟩
 | inr x =>
  refine (parse_ok (dq:=dq) hP hf g hz h).mono ?_
  rintro e w' ⟨q,rfl,hr,hb⟩
  exact ⟨_,q,0,0,rfl,hr.shape,hb⟩
theorem par_same (hP:ParseOk) {f:Nat} (hf:1025≤f) {n:Nat} {x:ET n} {qx:Sl} {w:World} (g:Gw w) (rx:RE n w x qx) (W:World) (hb:Below w.heap.size w W) :
  Calls Tryz.prog 9 #[.string (mkB (prX dq n x).2)] W fun e w'=>∃ h q k p,e=.returned (.tuple #[.agg (ecl h q),.int .i64 k,.int .i64 p])∧Shp2 q∧Below W.heap.size W w' ∧
   ((prX dq n x).1=0→k=0∧∀ W2,Below w'.heap.size w' W2 →
    Calls Tryz.prog 12 #[.agg (ecl (ehd n x) qx),.agg (ecl h q)] W2 (fun e w3=>e=.returned (.bool true)∧Below W2.heap.size W2 w3) ∧
    Calls Tryz.prog 12 #[.agg (ecl h q),.agg (ecl (ehd n x) qx)] W2 (fun e w3=>e=.returned (.bool true)∧Below W2.heap.size W2 w3)):=by
 by_cases h0:(prX dq n x).1=0
 ·obtain ⟨y,hy,iso⟩:=pa_round (prX_lck h0) h0 hf
  refine (parse_ok (dq:=dq) hP hf (g.below hb) (prX_size n x) (x:=y) (by rw [bl_mkB];exact hy)).mono ?_
  rintro e w' ⟨q,rfl,hr,hb'⟩
  refine ⟨_,q,0,0,rfl,hr.shape,hb',fun _=>⟨rfl,fun W2 hb2=>?_⟩⟩
  have ry:RE _ W2 y qx:=iso.re (rx.below (below_then hb (below_then hb' hb2)))
  have a:=esame_any _ y qx q W2 ry (hr.below hb2)
  have b:=esame_any _ y q qx W2 (hr.below hb2) ry
  rw [iso.ecl qx] at a b
  exact ⟨a,b⟩
 ·refine (parse_h hP hf (g.below hb) (prX_size n x)).mono ?_
  rintro e w' ⟨h,q,k,p,rfl,hs,hb'⟩
  exact ⟨h,q,k,p,rfl,hs,hb',fun k=>absurd k h0⟩
def Sh2 (q:S2):Prop:=∃ a m c a' m' c',q=⟨.slice a m c,.slice a' m' c'⟩
theorem typ_same (hP:ParseOk) {f:Nat} (hf:1025≤f) {n:Nat} {x:TT n} {qx:S2} {w:World} (g:Gw w) (rx:RTq n w x qx) (W:World) (hb:Below w.heap.size w W) :
  Calls Tryz.prog 20 #[.string (mkB (prT dq n x).2)] W fun e w'=>∃ h q k p,e=.returned (.tuple #[.agg (tcl h q),.int .i64 k,.int .i64 p])∧Sh2 q∧Below W.heap.size W w' ∧
   ((prT dq n x).1=0→k=0∧∀ W2,Below w'.heap.size w' W2 →
    Calls Tryz.prog 24 #[.agg (tcl (thd n x) qx),.agg (tcl h q)] W2 (fun e w3=>e=.returned (.bool true)∧Below W2.heap.size W2 w3)):=by
 by_cases h0:(prT dq n x).1=0
 ·obtain ⟨y,hy,iso⟩:=pt_round (prT_tck h0) h0 hf
  refine (ptype_ok (dq:=dq) hP hf (g.below hb) (prT_size n x) (x:=y) (by rw [bl_mkB];exact hy)).mono ?_
  rintro e w' ⟨q,rfl,hr,hb'⟩
  refine ⟨_,q,0,0,rfl,hr.shape,hb',fun _=>⟨rfl,fun W2 hb2=>?_⟩⟩
  have ry:RT _ W2 y qx.ns qx.ls:=iso.rt (RTq.below rx (below_then hb (below_then hb' hb2)))
  have a:=Calls.tb (b:=true) (rtsame_any _ y y qx.ns qx.ls q.ns q.ls W2 ry (RTq.below hr hb2)) (by simp)
  rw [iso.hd] at a ⊢
  exact a
 ·cases hq:paT dq f (bl (mkB (prT dq n x).2)) with
  | inl y =>
   refine (ptype_no (dq:=dq) hP hf (g.below hb) (prT_size n x) hq).mono ?_
   rintro e w' ⟨rfl,hb'⟩
   exact ⟨_,_,_,_,rfl,⟨_,_,_,_,_,_,rfl⟩,hb',fun k=>absurd k h0⟩
  | inr x' =>
   refine (ptype_ok (dq:=dq) hP hf (g.below hb) (prT_size n x) hq).mono ?_
   rintro e w' ⟨q,rfl,hr,hb'⟩
   exact ⟨_,q,_,_,rfl,hr.shape,hb',fun k=>absurd k h0⟩
theorem pa_err {f:Nat} {l:List UInt8} {y:Int×Int} (h:paR dq f l=.inl y):y.1≠0:=by
 unfold paR at h
 cases hr:rdR f l with
 | inl z =>
  rw [hr] at h
  cases h
  exact rd_err hr
 | inr z =>
  rw [hr] at h
  simp only [prsO] at h
  split at h
  ·cases h
  ·cases h
   simp
theorem tblk_gt:∀ (n:Nat) (x:TT n),TSz n x→tblk n x≤32768→GT n x
 | 0,x,_,_=>Empty.elim x
 | n + 1,x,h,hb=>by
  obtain ⟨h1,h2,h3⟩:=h
  have hs:=tsiz_tblk (n + 1) x
  have hl:x.2.length≤suml (x.2.map (tsiz n)):=suml_len (tsiz n) (tsiz_pos n) x.2
  have hs':1 + suml (x.2.map (tsiz n))≤tblk (n + 1) x:=hs
  simp only [tblk] at hb hs'
  refine ⟨by omega,h2,by omega,fun y hy=>tblk_gt n y (h3 y hy) ?_⟩
  have:=suml_mem (List.mem_map_of_mem (f:=tblk n) hy)
  omega
structure KR (w:World) (hx:Eh) (qx:Sl) (ht:Th) (qt:S2) (W:World):Prop where
 bel:Below w.heap.size w W
 ex:Ex W w.heap.size hx qx
 tx:W.heap[w.heap.size + 1]?=some (.cells (tcl ht qt) 48 (0,0))
section
variable {w W W1 : World} {hx : Eh} {qx : Sl} {ht : Th} {qt : S2}
theorem KR.new (w:World) (hx:Eh) (qx:Sl) (ht:Th) (qt:S2):KR w hx qx ht qt ((w.alloc (.cells (ecl hx qx) 33)).alloc (.cells (tcl ht qt) 48)) :=
 ⟨below_al (below_al (Below.refl _ _)),(ex_at w hx qx).below (below_al (Below.refl _ _)),last_at2 (by simp)⟩
theorem KR.below (H:KR w hx qx ht qt W) (hb:Below W.heap.size W W1):KR w hx qx ht qt W1 :=
 ⟨below_then H.bel hb,H.ex.below hb,(hb.block _ (Array.getElem?_eq_some_iff.1 H.tx).1).trans H.tx⟩
theorem KR.ct (H:KR w hx qx ht qt W):W.cell? ⟨w.heap.size + 1,0,none⟩=some (.int .i64 ht.kind)∧W.cell? ⟨w.heap.size + 1,1,none⟩=some qt.ns∧W.cell? ⟨w.heap.size + 1,2,none⟩=some qt.ls:=by
 refine ⟨?_,?_,?_⟩
 iterate 3 (unfold World.cell?;rw [H.tx];rfl)
end
end Lx
end Go.Proofs.YtcnfchblfcfimaaGreatDoor
