import Derived.Test.YtcnfchblfcfimaaGreatDoorZh16
import Derived.Test.YtcnfchblfcfimaaGreatDoorZh20
import Derived.Test.YtcnfchblfcfimaaGreatDoorZh23
import Derived.Test.YtcnfchblfcfimaaGreatDoorZh05
import Derived.WalkMore
import Derived.Test.YtcnfchblfcfimaaGreatDoorZh10
set_option linter.all false
set_option maxHeartbeats 4000000
set_option maxRecDepth 100000
namespace Go.Proofs.YtcnfchblfcfimaaGreatDoor
open Proofs.Tryz RowKit
namespace Lx
def aW:Prop:=∀(s:ByteArray) (w:World),s.size<=100000->Calls prog 155 #[.string s] w fun e w'=>e=ji (cx (bl s))/\Below w.heap.size w w'
def dE(l:List UInt8):Bool:=!decide ((cx l).2.2.2=10)
theorem fv(s:ByteArray)(h:0<s.size):∃l,bl s=s[0]::l:=by
 have hl:0<(bl s).length:=by rw[bl_length];exact h
 refine⟨(bl s).drop 1,?_⟩;have:=List.drop_eq_getElem_cons hl;rw[List.drop_zero]at this;rw[this,bH s 0 h];rfl
theorem vW(s:ByteArray)(w:World)(h0:0<s.size)(hs:s.size<=100000):Calls prog 148 #[.string s] w fun e w'=>e=.returned (.int .i64 (Bz (bl s):Nat))/\w'=w:=by
 obtain⟨l,hl⟩:=fv s h0;have hr:=aa (Kk s w (by omega));have hi:=aa (rO ⟨#[32,9,10,13]⟩ (s[0].toNat:Int) w);have hx:=(Ei s[0]).1;have e0:((s[0].toNat:Int)).toNat.toUInt8=s[0]:=by simp
 rw[e0]at hi;have h0i:(0:Int)<(s.size:Int):=by omega
 by_cases Rm:s[0].toNat=35
 ·have hb:Bz (bl s)=wh fW (bl s):=by rw[hl];simp only[Bz,Rm,if_true]
  rw[hb];have i35:((s[0].toNat:Int)==35)=true:=by simp;omega
  clear hb Rm hx hl e0;go_enter func148,ntmps148;go_wp2_with(go_at_call 175;refine hr.out.mono ?_;rintro e w1 ⟨rfl,aT⟩;have bi:=aT.symm;clear aT;subst bi)
  go_ret;exact⟨rfl,rfl⟩
 have i35:((s[0].toNat:Int)==35)=false:=by simp;omega
 have hb:Bz (bl s)=if zh s[0] then 1 else 0:=by rw[hl];simp only[Bz,Rm,if_false]
 rw[hb];obtain⟨q,hq⟩:∃q:Int,firstIdx ⟨#[32,9,10,13]⟩ s[0]=q:=⟨_,rfl⟩
 rw[hq]at hi hx;rw[<-hx];clear hb Rm hx hl e0 hq;by_cases kX:0<=q
 ·rw[decide_eq_true kX]
  go_enter func148,ntmps148;go_wp2_with(go_at_call 177;refine hi.out.mono ?_;rintro e w1 ⟨rfl,aT⟩;have bi:=aT.symm;clear aT;subst bi)
  go_ret;exact⟨rfl,rfl⟩
 rw[decide_eq_false kX];go_enter func148,ntmps148;go_wp2_with(go_at_call 177;refine hi.out.mono ?_;rintro e w1 ⟨rfl,aT⟩;have bi:=aT.symm;clear aT;subst bi)
 go_ret;exact⟨rfl,rfl⟩
theorem zO(s:ByteArray)(w:World)(h0:0<s.size)(hs:s.size<=100000):Calls prog 150 #[.string s] w fun e w'=>e=.returned (.int .i64 (uM (bl s):Nat))/\w'=w:=by
 obtain⟨l,hl⟩:=fv s h0;have hr:=aa (Kj s w (by omega));have hd:=aa (mw s[0] w);have h0i:(0:Int)<(s.size:Int):=by omega
 have hb:uM (bl s)=if isDig s[0] then 0 else wh dw (bl s):=by rw[hl];simp only[uM]
 rw[hb];obtain⟨b,gd⟩:∃b,isDig s[0]=b:=⟨_,rfl⟩
 rw[gd]at hd ⊢;clear hb hl gd;cases b
 all_goals
  simp only[Bool.false_eq_true,if_true,if_false];go_enter func150,ntmps150;go_wp2_with(first|(go_at_call 175;refine hr.out.mono ?_;rintro e w1 ⟨rfl,aT⟩;have bi:=aT.symm;clear aT;subst bi)|(go_at_call 179;refine hd.out.mono ?_;rintro e w1 ⟨rfl,aT⟩;have bi:=aT.symm;clear aT;subst bi))
  go_ret;exact⟨rfl,rfl⟩
theorem zP(s:ByteArray)(w:World)(h0:0<s.size)(hs:s.size<=100000):Calls prog 152 #[.string s] w fun e w'=>e=.returned (.int .i64 (cf (bl s):Nat))/\w'=w:=by
 obtain⟨l,hl⟩:=fv s h0;have hi:=aa (rO ⟨#[46,59,44,58,61,40,41,91,93,123,125]⟩ (s[0].toNat:Int) w);have hx:=(Ei s[0]).2.2;have e0:((s[0].toNat:Int)).toNat.toUInt8=s[0]:=by simp
 rw[e0]at hi;have h0i:(0:Int)<(s.size:Int):=by omega
 have hb:cf (bl s)=if gS s[0] then 1 else 0:=by rw[hl];simp only[cf]
 rw[hb];obtain⟨q,hq⟩:∃q:Int,firstIdx ⟨#[46,59,44,58,61,40,41,91,93,123,125]⟩ s[0]=q:=⟨_,rfl⟩
 rw[hq]at hi hx;have hm:gS s[0]=!decide (q<0):=by rw[hx];simp
 rw[hm];clear hb hx hl e0 hq hm;by_cases kX:q<0
 ·rw[decide_eq_true kX]
  go_enter func152,ntmps152;go_wp2_with(go_at_call 177;refine hi.out.mono ?_;rintro e w1 ⟨rfl,aT⟩;have bi:=aT.symm;clear aT;subst bi)
  go_ret;exact⟨rfl,rfl⟩
 rw[decide_eq_false kX];go_enter func152,ntmps152;go_wp2_with(go_at_call 177;refine hi.out.mono ?_;rintro e w1 ⟨rfl,aT⟩;have bi:=aT.symm;clear aT;subst bi)
 go_ret;exact⟨rfl,rfl⟩
theorem rL(s:ByteArray)(n:Nat):s.extract 0 n=aj ((bl s).take n):=by rw[aH];simp
theorem Cm(hP:aW)(s:ByteArray)(w:World)(h0:0<s.size)(hs:s.size<=100000):Calls prog 151 #[.string s] w fun e w'=>e=.returned (.int .i64 (uL dE (bl s):Nat))/\Below w.heap.size w w':=by
 obtain⟨l,hl⟩:=fv s h0;have hr:=aa (Ki s w (by omega));have hd:=aa (mw s[0] w);have h0i:(0:Int)<(s.size:Int):=by omega
 have hb:uL dE (bl s)=if !(s[0].toNat==45) && !isDig s[0] then 0 else if dE ((bl s).take (wh cT (bl s))) then wh cT (bl s) else 0:=by rw[hl];simp only[uL]
 rw[hb];have QT:=og cT (bl s);rw[bl_length]at QT;obtain⟨n,hn⟩:∃n,wh cT (bl s)=n:=⟨_,rfl⟩
 rw[hn]at hr QT ⊢;have Ua:=rL s n;obtain⟨t,ht⟩:∃t,s.extract 0 n=t:=⟨_,rfl⟩
 have mu:bl t=(bl s).take n:=by rw[<-ht,Ua,ah]
 have lG:t.size<=100000:=by rw[<-bl_length,mu,List.length_take,bl_length];omega
 have hp:=aa (hP t w lG);rw[<-mu];obtain⟨a,ha⟩:∃a,cx (bl t)=a:=⟨_,rfl⟩
 obtain⟨a1,a2,a3,a4⟩:=a;have vP:dE (bl t)=!decide (a4=10):=by unfold dE;rw[ha]
 rw[vP];rw[ha]at hp;simp only[ji]at hp;have xx:(0:Int)<=(n:Int)/\(n:Int)<=(s.size:Int):=by omega
 obtain⟨lI,cm⟩:=xx;obtain⟨b,gd⟩:∃b,isDig s[0]=b:=⟨_,rfl⟩
 rw[gd]at hd ⊢;obtain⟨m,hm⟩:∃m,(s[0].toNat==45)=m:=⟨_,rfl⟩
 have pd:((s[0].toNat:Int)==45)=m:=by rw[<-hm];cases h:(s[0].toNat==45)<;>simp at h ⊢ <;> omega
 have PC:((s[0].toNat:Int) != 45)=!m:=by unfold bne;rw[pd]
 rw[hm];clear hb hl gd hn Ua mu lG ha vP hm;by_cases Ch:a4=10
 ·subst Ch
  cases m<;>cases b
  all_goals
   simp only[Bool.not_true,Bool.not_false,Bool.and_self,Bool.and_true,Bool.and_false,Bool.false_eq_true,if_true,if_false,decide_true];go_enter func151,ntmps151;go_wp2_with(first|(go_at_call 175;refine hr.out.mono ?_;rintro e w1 ⟨rfl,aT⟩;have bi:=aT.symm;clear aT;subst bi)|(go_at_call 179;refine hd.out.mono ?_;rintro e w1 ⟨rfl,aT⟩;have bi:=aT.symm;clear aT;subst bi)|(go_at_call 155;refine hp.out.mono ?_;rintro e w2 ⟨rfl,aq⟩;have aq:=aa aq))
   go_ret
   first|exact⟨rfl,af⟩|exact⟨rfl,aq.out⟩|exact⟨rfl,ab aq.out⟩|(refine⟨rfl,?_⟩;trace_state;exact ao (ab aq.out) (by omega))
 have h10b:(a4==10)=false:=by simp[Ch]
 have h10d:decide (a4=10)=false:=decide_eq_false Ch;cases m<;>cases b
 all_goals
  simp only[Bool.not_true,Bool.not_false,Bool.and_self,Bool.and_true,Bool.and_false,Bool.false_eq_true,if_true,if_false,h10d];go_enter func151,ntmps151;go_wp2_with(first|(go_at_call 175;refine hr.out.mono ?_;rintro e w1 ⟨rfl,aT⟩;have bi:=aT.symm;clear aT;subst bi)|(go_at_call 179;refine hd.out.mono ?_;rintro e w1 ⟨rfl,aT⟩;have bi:=aT.symm;clear aT;subst bi)|(go_at_call 155;refine hp.out.mono ?_;rintro e w2 ⟨rfl,aq⟩;have aq:=aa aq))
  go_ret
  first|exact⟨rfl,af⟩|exact⟨rfl,aq.out⟩|exact⟨rfl,ab aq.out⟩|(refine⟨rfl,?_⟩;trace_state;exact ao (ab aq.out) (by omega))
structure Gg(w:World):Prop where
 gu:Ut.Gu w
 tabs:Lib.Utf8Tabs 8 9 w
 ge:Ge w
 lo:∀k,k<5->w.cell? ⟨0,k,none⟩=some (.int .i64 (lgK k:Nat))
 wo:∀k,k<5->w.cell? ⟨3,k,none⟩=some (.int .i64 (wdK k:Nat))
 sz:12<=w.heap.size
theorem Gg.below{w W:World}(g:Gg w){L:Nat}(hb:Below L w W)(hL:12<=L):Gg W:=by have hc:∀k o,k<12->W.cell? ⟨k,o,none⟩=w.cell? ⟨k,o,none⟩:=fun k o hk=>World.cell?_of_block (w:=w) (hb.block k (by omega));obtain⟨t,fr,h0⟩:=g.gu.bt;obtain⟨t',fr',h1⟩:=g.gu.lg;refine⟨⟨⟨t,fr,by rw[hb.block _ (by omega)];exact h0⟩,⟨t',fr',by rw[hb.block _ (by omega)];exact h1⟩⟩,⟨fun c vQ=>by rw[hc _ c (by omega)];exact g.tabs.1 c vQ,fun i hi=>?_⟩,g.ge.low hb hL,fun k hk=>by rw[hc _ k (by omega)];exact g.lo k hk,fun k hk=>by rw[hc _ k (by omega)];exact g.wo k hk,Nat.le_trans g.sz hb.size⟩;rw[hc _ _ (by omega),hc _ _ (by omega)];exact g.tabs.2 i hi
def MF(o:Option (List UInt8×Nat)):Ending:=match o with
 |none=>.returned (.tuple #[.string ⟨#[]⟩,.int .i64 0])
 |some (s,n)=>.returned (.tuple #[.string (aj s),.int .i64 (n:Nat)])
theorem eE:MF none=.returned (.tuple #[.string ⟨#[]⟩,.int .i64 0]):=rfl
theorem gU(s:List UInt8)(n:Nat):MF (some (s,n))=.returned (.tuple #[.string (aj s),.int .i64 (n:Nat)]):=rfl
theorem MN(s:ByteArray)(h:1<s.size):∃l,bl s=s[0]::s[1]::l:=by
 have h0:0<s.size:=by omega
 have hl:0<(bl s).length:=by rw[bl_length];omega
 have aJ:1<(bl s).length:=by rw[bl_length];exact h
 refine⟨(bl s).drop 2,?_⟩;have e0:=List.drop_eq_getElem_cons hl;have e1:=List.drop_eq_getElem_cons aJ;rw[List.drop_zero]at e0;exact(e0.trans (congrArg _ e1)).trans (by rw[bH s 0 h0,bH s 1 h])
theorem Bw(s:ByteArray)(w:World)(g:Gg w)(h2:2<=s.size)(hs:s.size<=100000):Calls prog 225 #[.string s] w fun e w'=>e=MF (Ck ((bl s).drop 2))/\Below w.heap.size w w':=by
 unfold Ck;have aL:((bl s).drop 2).length=s.size-2:=by rw[List.length_drop,bl_length]
 rw[aL];by_cases h6:s.size<6
 ·rw[if_pos (by omega),eE]
  have i6:(s.size:Int)<6:=by omega
  go_enter func225,ntmps225;go_wp2;go_ret2;exact⟨rfl,af⟩
 rw[if_neg (by omega)];have i6:¬(s.size:Int)<6:=by omega
 have i6':(6:Int)<=(s.size:Int):=by omega
 obtain⟨t,ht⟩:∃t,s.extract 2 6=t:=⟨_,rfl⟩
 have mu:bl t=((bl s).drop 2).take 4:=by rw[<-ht,aH,ah]
 have lG:t.size=4:=by rw[<-bl_length,mu,List.length_take,aL];omega
 have BX:=aa (Rx t (by omega) w g.ge g.sz);have Ug:Jh t=ov 0 (((bl s).drop 2).take 4):=by unfold Jh;rw[if_neg (by omega),mu]
 rw[Ug]at BX;have bm:∀r,ov 0 (((bl s).drop 2).take 4)=some r->r<65536:=fun r hr=>by
  have:=Ej _ _ _ hr;rw[<-mu,bl_length,lG]at this
  simpa using this
 obtain⟨o,ho⟩:∃o,ov 0 (((bl s).drop 2).take 4)=o:=⟨_,rfl⟩
 rw[ho]at BX bm ⊢;clear g Ug mu ho aL;cases o with
 |none=>
  rw[eE];obtain BX:Hid (Calls prog 234 #[.string t,.int .i64 16,.int .i64 16] w fun e w'=>(∃T p,e=.returned (.tuple #[.int .u64 0,.iface T (.pointer (some p))]))/\Below w.heap.size w w'):=BX;go_enter func225,ntmps225;go_wp2_with(go_at_call 234;refine BX.out.mono ?_;rintro e w1 ⟨⟨T,p,rfl⟩,ai⟩;have ai:=aa ai)
  go_ret2;exact⟨rfl,ai.out⟩
 |some r=>
  have hr:=bm r rfl;obtain BX:Hid (Calls prog 234 #[.string t,.int .i64 16,.int .i64 16] w fun e w'=>e=.returned (.tuple #[.int .u64 (r:Int),.nilIface])/\Below w.heap.size w w'):=BX;have Em:IntKind.i64.wrap (r:Int)=r:=by rw[IntKind.wrap_i64];omega
  have PP:=aa (fun w=>Ut.encode_any (r:Int) w (by omega) (by omega));clear bm;simp only;cases hv:Utf8.valid (r:Int)
  ·simp only[hv,Bool.false_eq_true,if_false]at PP ⊢
   rw[eE];go_enter func225,ntmps225;go_wp2_with(first|(go_at_call 234;refine BX.out.mono ?_;rintro e w1 ⟨rfl,ai⟩;have ai:=aa ai)|(go_at_call 235;refine(PP.out _).mono ?_;rintro e w2 ⟨rfl,gi⟩;have jm:=gi.symm;clear gi;subst jm))
   go_ret2;exact⟨rfl,ai.out⟩
  simp only[hv,if_true]at PP ⊢;rw[gU,show aj (Ut.bl (Utf8.encode (r:Int)))=Utf8.encode (r:Int)from dh _];obtain⟨E,hE⟩:∃E,Utf8.encode (r:Int)=E:=⟨_,rfl⟩
  rw[hE]at PP ⊢;clear hE;go_enter func225,ntmps225;go_wp2_with(first|(go_at_call 234;refine BX.out.mono ?_;rintro e w1 ⟨rfl,ai⟩;have ai:=aa ai)|(go_at_call 235;refine(PP.out _).mono ?_;rintro e w2 ⟨rfl,gi⟩;have jm:=gi.symm;clear gi;subst jm))
  go_ret2;exact⟨rfl,ai.out⟩
theorem Iv(s:ByteArray)(w:World)(g:Gg w)(h0:0<s.size)(hs:s.size<=100000):Calls prog 207 #[.string s] w fun e w'=>e=MF (vx ((bl s).drop 1))/\Below w.heap.size w w':=by
 by_cases h1:s.size=1
 ·have he:(bl s).drop 1=[]:=List.drop_of_length_le (by rw[bl_length];omega)
  rw[he];have i1:((s.size:Int)==1)=true:=by simp;omega
  show Calls _ _ _ _ fun e w'=>e=.returned (.tuple #[.string ⟨#[]⟩,.int .i64 0])/\Below w.heap.size w w';clear he h1;go_enter func207,ntmps207;go_wp2;go_ret2;exact⟨rfl,af⟩
 have i1:((s.size:Int)==1)=false:=by simp;omega
 have i2:(1:Int)<(s.size:Int):=by omega
 have i3:(2:Int)<=(s.size:Int):=by omega
 have h2:1<s.size:=by omega
 obtain⟨l,hl⟩:=MN s h2;have hd:(bl s).drop 1=s[1]::l:=by rw[hl];rfl
 have mc:(bl s).drop 2=l:=by rw[hl];rfl
 have tT:=aa (Bw s w g (by omega) hs);rw[mc]at tT;rw[hd];simp only[vx];have eW:s.extract 1 2=aj [s[1]]:=by rw[aH,hd];rfl
 obtain⟨c,hc⟩:∃c,s[1]=c:=⟨_,rfl⟩
 rw[hc]at eW ⊢;obtain⟨o,ho⟩:∃o,MF (Ck l)=o:=⟨_,rfl⟩
 clear hl hd mc h1 g;by_cases Bh:c.toNat=34
 ·rw[if_pos (Or.inl Bh),gU]
  have j1:((c.toNat:Int)==34)=true:=by simp;omega
  clear Bh ho;go_enter func207,ntmps207;go_wp2;go_ret2;exact⟨rfl,af⟩
 by_cases Gn:c.toNat=92
 ·rw[if_pos (Or.inr Gn),gU]
  have j1:((c.toNat:Int)==34)=false:=by simp;omega
  have j2:((c.toNat:Int)==92)=true:=by simp;omega
  clear Bh Gn ho;go_enter func207,ntmps207;go_wp2;go_ret2;exact⟨rfl,af⟩
 rw[if_neg (by omega)];have j1:((c.toNat:Int)==34)=false:=by simp;omega
 have j2:((c.toNat:Int)==92)=false:=by simp;omega
 by_cases h117:c.toNat=117
 ·rw[if_pos h117]
  have j3:((c.toNat:Int)==117)=true:=by simp;omega
  clear Bh Gn h117;cases hq:Ck l with
  |none=>
   rw[hq]at tT;simp only[eE]at tT ⊢;go_enter func207,ntmps207;go_wp2_with(go_at_call 225;refine tT.out.mono ?_;rintro e w1 ⟨rfl,ai⟩;have ai:=aa ai)
   go_ret2;exact⟨rfl,ai.out⟩
  |some x=>
   obtain⟨x1,x2⟩:=x;rw[hq]at tT;simp only[gU]at tT ⊢;go_enter func207,ntmps207;go_wp2_with(go_at_call 225;refine tT.out.mono ?_;rintro e w1 ⟨rfl,ai⟩;have ai:=aa ai)
   go_ret2;exact⟨rfl,ai.out⟩
 rw[if_neg h117,eE];have j3:((c.toNat:Int)==117)=false:=by simp;omega
 clear Bh Gn h117 ho;go_enter func207,ntmps207;go_wp2;go_ret2;exact⟨rfl,af⟩
theorem FH(s:ByteArray)(w:World)(g:Gg w)(h0:0<s.size)(hs:s.size<=100000):Calls prog 178 #[.string s] w fun e w'=>e=MF (vS (bl s))/\Below w.heap.size w w':=by
 obtain⟨l,hl⟩:=fv s h0;have h0i:(0:Int)<(s.size:Int):=by omega
 have rl:=aa (Iv s w g h0 hs);have hd:(bl s).drop 1=l:=by rw[hl];rfl
 rw[hd]at rl;have lp:vS (bl s)=if s[0].toNat=92 then vx l else if s[0].toNat<32 then none else match Ut.chr (bl s)with|none=>none|some (_,n)=>some ((bl s).take n,n):=by rw[hl];rfl
 rw[lp];clear lp;by_cases Gn:s[0].toNat=92
 ·rw[if_pos Gn]
  have j1:((s[0].toNat:Int)==92)=true:=by simp;omega
  clear Gn hl hd;cases hq:vx l with
  |none=>
   rw[hq]at rl;simp only[eE]at rl ⊢;go_enter func178,ntmps178;go_wp2_with(go_at_call 207;refine rl.out.mono ?_;rintro e w1 ⟨rfl,ai⟩;have ai:=aa ai)
   go_ret2;exact⟨rfl,ai.out⟩
  |some x=>
   obtain⟨x1,x2⟩:=x;rw[hq]at rl;simp only[gU]at rl ⊢;go_enter func178,ntmps178;go_wp2_with(go_at_call 207;refine rl.out.mono ?_;rintro e w1 ⟨rfl,ai⟩;have ai:=aa ai)
   go_ret2;exact⟨rfl,ai.out⟩
 rw[if_neg Gn];have j1:((s[0].toNat:Int)==92)=false:=by simp;omega
 by_cases Mx:s[0].toNat<32
 ·rw[if_pos Mx,eE]
  have j2:(s[0].toNat:Int)<32:=by omega
  clear Gn hl hd;go_enter func178,ntmps178;go_wp2;go_ret2;exact⟨rfl,af⟩
 rw[if_neg Mx];have j2:¬(s[0].toNat:Int)<32:=by omega
 have EP:=aa (xV s 0 w g.gu g.tabs (by omega));have Uv:nW (Ut.bl s) 0=fD (bl s):=by unfold nW;rw[if_pos ⟨by omega,by rw[Ut.bl_length];omega⟩];rfl
 rw[Uv]at EP;clear Gn hl hd Uv g rl;cases hq:Ut.chr (bl s)with
 |none=>
  have hz:(fD (bl s)).2.1=0:=by unfold fD;rw[hq];simp only;split<;>rfl
  obtain⟨x,hx⟩:∃x,fD (bl s)=x:=⟨_,rfl⟩
  rw[hx]at hz EP;obtain⟨x1,x2,x3⟩:=x;simp only at hz;subst hz;simp only[eE];have he:s.extract 0 0=⟨#[]⟩:=by rw[aH];simp[aj]
  have cy:(s.extract 0 ((0:Nat):Int).toNat)=⟨#[]⟩:=he;clear hx hq;go_enter func178,ntmps178;go_wp2_with(go_at_call 208;refine EP.out.mono ?_;rintro e w1 ⟨rfl,ai⟩;have ai:=aa ai)
  go_ret2;exact⟨by first|rfl|(rw[he];rfl)|simp[he],ai.out⟩
 |some rn=>
  obtain⟨r,n⟩:=rn;have hz:fD (bl s)=(r,n,0):=by unfold fD;rw[hq]
  rw[hz]at EP;have hn:=(Ut.chr_some hq).2.2.1;rw[bl_length]at hn;have xx:(0:Int)<=(n:Int)/\(n:Int)<=(s.size:Int):=by omega
  obtain⟨lI,cm⟩:=xx;simp only[gU];have he:=rL s n;clear hq hz hn;go_enter func178,ntmps178;go_wp2_with(go_at_call 208;refine EP.out.mono ?_;rintro e w1 ⟨rfl,ai⟩;have ai:=aa ai)
  go_ret2;exact⟨by first|rfl|(rw[<-he];rfl)|simp[he],ai.out⟩
theorem IG{l s:List UInt8}{n:Nat}(h:Ck l=some (s,n)):s.length<=n:=by
 unfold Ck at h
 split at h
 ·cases h
 split at h
 ·cases h
 rename_i r _
 split at h
 ·rename_i hv
  simp only[Option.some.injEq,Prod.mk.injEq]at h;have hc:=Ut.chr_encode r hv [];have:=(Ut.chr_some hc).2.1;rw[<-h.1,<-h.2];omega
 cases h
theorem IE{l s:List UInt8}{n:Nat}(h:vS l=some (s,n)):s.length<=n:=by
 cases l with
 |nil=>cases h
 |cons c l=>
  simp only[vS]at h
  split at h
  ·cases l with
   |nil=>cases h
   |cons d l=>
    simp only[vx]at h
    split at h
    ·cases h;simp
    split at h
    ·exact IG h
    cases h
  split at h
  ·cases h
  split at h
  ·cases h
  cases h;simp only[List.length_take];omega
def qo(A:List UInt8)(p:Nat)(R:Option (List UInt8×Nat)):Option (List UInt8×Nat):=match R with
 |none=>none
 |some (s,m)=>some (A++s,p+m)
def yB(l:List UInt8)(p:Nat):Option (List UInt8×Nat):=tZ (l.drop p).length (l.drop p)
theorem GP(l:List UInt8)(p:Nat)(h:l.length<=p):yB l p=none:=by unfold yB;rw[List.drop_of_length_le h];rfl
theorem Ko(l:List UInt8)(p:Nat)(c:UInt8)(t:List UInt8)(h:l.drop p=c::t)(hc:c.toNat=34):yB l p=some ([],1):=by unfold yB;rw[h];simp[tZ,hc]
theorem CS(l:List UInt8)(p:Nat)(c:UInt8)(t:List UInt8)(h:l.drop p=c::t)(hc:¬c.toNat=34)(hn:vS (l.drop p)=none):yB l p=none:=by unfold yB;rw[h]at hn ⊢;simp[tZ,hc,hn]
theorem CR(l:List UInt8)(p:Nat)(c:UInt8)(t:List UInt8)(h:l.drop p=c::t)(hc:¬c.toNat=34){s:List UInt8}{n:Nat}(hn:vS (l.drop p)=some (s,n)):yB l p=qo s n (yB l (p+n)):=by
 have SE:1<=n/\n<=(c::t).length:=vD (by rw[<-h];exact hn);have hd:l.drop (p+n)=(c::t).drop n:=by rw[<-List.drop_drop,h]
 unfold yB;rw[hd,h];rw[h]at hn;simp only[List.length_cons,tZ];rw[if_neg hc,hn];simp only;rw[pm t.length _ (by rw[List.length_drop,List.length_cons];omega)];rfl
theorem BJ(A s:List UInt8)(p n:Nat)(R:Option (List UInt8×Nat)):qo A p (qo s n R)=qo (A++s) (p+n) R:=by
 cases R with
 |none=>rfl
 |some x=>obtain⟨a,b⟩:=x;simp[qo,Nat.add_assoc]
theorem GX(c:UInt8)(l:List UInt8)(hc:c.toNat=34):wJ (c::l)=qo [] 1 (yB (c::l) 1):=by
 unfold yB;simp only[wJ,hc,if_true,List.drop_succ_cons,List.drop_zero];cases tZ l.length l with
 |none=>rfl
 |some x=>obtain⟨a,b⟩:=x;simp[qo,Nat.add_comm]
theorem Gx(s:ByteArray)(w:World)(g:Gg w)(h0:0<s.size)(hs:s.size<=40000):Calls prog 149 #[.string s] w fun e w'=>e=MF (wJ (bl s))/\Below w.heap.size w w':=by
 obtain⟨l,hl⟩:=fv s h0;have h0i:(0:Int)<(s.size:Int):=by omega
 by_cases Bh:s[0].toNat=34
 ·have kX:wJ (bl s)=qo [] 1 (yB (bl s) 1):=by rw[hl];exact GX _ _ Bh
  obtain⟨U,hU⟩:∃U,wJ (bl s)=U:=⟨_,rfl⟩
  rw[hU]at kX ⊢;have i1:((s[0].toNat:Int)==34)=true:=by simp;omega
  have i2:((s[0].toNat:Int) != 34)=false:=by simp;omega
  have g0:=aa g;have kX:=aa kX;clear hl Bh hU g;rename_i LO;clear LO;go_enter func149,ntmps149;go_wp2;go_loopw [4,5] (fun v i W=>∃(p:Nat) (A:List UInt8),i=.int .i64 (p:Nat)/\p<=s.size/\Hid (dj W w.heap.size v A/\A.length<=p/\U=qo A p (yB (bl s) p)/\Below w.heap.size w W/\1<=p)) (fun _ i _=>s.size-(intOf i).toNat)
  case atStart=>exact⟨1,[],rfl,by omega,fo _ _,by simp,kX.out,af,by omega⟩
  case round=>
   obtain⟨p,A,rfl,hp,H⟩:=hrel;obtain⟨hO,UL,UD,hB,AR⟩:=H.out;have O1:=aa hO;have B1:=aa hB;have U1:=aa UD;have A1:=aa UL;have gr:=aa (g0.out.below hB g0.out.sz);clear H hO hB UD UL;by_cases Sq:p<s.size
   ·have Sr:(p:Int)<(s.size:Int):=by omega
    have xq:p<(bl s).length:=by rw[bl_length];exact Sq
    have hd:(bl s).drop p=s[p]::(bl s).drop (p+1):=by rw[List.drop_eq_getElem_cons xq];exact congrArg (· :: (bl s).drop (p+1)) (bH s p Sq)
    by_cases hc:s[p].toNat=34
    ·have hr:=Ko (bl s) p _ _ hd hc
     have U2:Hid (U=some (A,p+1)):=by show _=_;rw[U1.out,hr];simp[qo]
     have j1:((s[p].toNat:Int)==34)=true:=by simp;omega
     have j2:((s[p].toNat:Int) != 34)=false:=by simp;omega
     have j3:((p:Int)==(s.size:Int))=false:=by simp;omega
     have ln:=cJ O1.out;clear hr hc hd U1;go_wp2;go_ret2;exact⟨by rw[U2.out];rfl,B1.out⟩
    have j1:((s[p].toNat:Int)==34)=false:=by simp;omega
    have j2:((s[p].toNat:Int) != 34)=true:=by simp;omega
    obtain⟨t,ht⟩:∃t,s.extract p s.size=t:=⟨_,rfl⟩
    have mu:bl t=(bl s).drop p:=by rw[<-ht,bd,ah]
    have lG:t.size=s.size-p:=by rw[<-bl_length,mu,List.length_drop,bl_length]
    have lp:=aa (FH t _ gr.out (by omega) (by omega));rw[mu]at lp;cases ho:vS ((bl s).drop p)with
    |none=>
     have hr:=CS (bl s) p _ _ hd hc ho;have U2:Hid (U=none):=by show _=_;rw[U1.out,hr];rfl
     rw[ho]at lp;simp only[eE]at lp;clear hr hc hd U1 ho mu lG;go_wp2_with(go_at_call 178;refine lp.out.mono ?_;rintro e w1 ⟨rfl,ai⟩;have ai:=aa (ac B1.out ai))
     go_ret2;exact⟨by rw[U2.out];rfl,ai.out⟩
    |some x=>
     obtain⟨c,n⟩:=x;have hr:=CR (bl s) p _ _ hd hc ho;have U2:Hid (U=qo (A++c) (p+n) (yB (bl s) (p+n))):=by show _=_;rw[U1.out,hr,BJ]
     have SE:1<=n/\n<=s.size-p:=by have hh:=vD (by rw[<-hd];exact ho);rw[<-hd,List.length_drop,bl_length]at hh;exact hh
     have Bb:=aa (IE ho);rw[ho]at lp;simp only[gU]at lp;have jn1:((n:Int)==0)=false:=by simp;omega
     have kZ:Hid ((aj c).size=c.length):=ag c;have Ux:=aa (ah c);obtain⟨C,hC⟩:∃C,aj c=C:=⟨_,rfl⟩
     rw[hC]at lp kZ Ux;clear hr hc hd U1 ho mu lG hC;have Se:∀W:World,Below w.heap.size w W->w.heap.size<=W.heap.size:=fun W h=>h.size;have jp:(p:Int)+(n:Int)<=9223372036854775807:=by omega
     go_wp2_with(first|(go_at_call 178;refine lp.out.mono ?_;rintro e w1 ⟨rfl,ai⟩;have O2:=aa (gJ O1.out ai);have ai:=aa (ac B1.out ai))|(at_builtin;refine ak.out ?_))
     refine ak.mk ?_;refine fP rfl (.tmp 30) (.tmp 31) rfl w.heap.size u4 A rfl O2.out C rfl (by have:=A1.out;have:=Bb.out;have:=kZ.out;omega) (Se _ ai.out) ?_;intro v' w' ho hb hz;have O3:Hid (dj w' w.heap.size v' (A++c)):=by have:=ho.out;rw[Ux.out]at this;exact this
     have B3:Hid (Below w.heap.size w w'):=ai.out.trans hb.out;clear ho hb;go_wp2
     go_roundw
     case rel=>exact⟨p+n,A++c,by go_num,by omega,O3.out,by rw[List.length_append];have:=A1.out;have:=Bb.out;omega,U2.out,B3.out,by omega⟩
     case measure=>simp[intOf];omega
   have Sr:¬(p:Int)<(s.size:Int):=by omega
   have hr:=GP (bl s) p (by rw[bl_length];omega);have U2:Hid (U=none):=by show _=_;rw[U1.out,hr];rfl
   have j3:((p:Int)==(s.size:Int))=true:=by simp;omega
   clear hr U1;go_wp2;go_ret2;exact⟨by rw[U2.out];rfl,B1.out⟩
 have kX:wJ (bl s)=none:=by rw[hl];simp[wJ,Bh]
 rw[kX,eE];have i1:((s[0].toNat:Int)==34)=false:=by simp;omega
 have i2:((s[0].toNat:Int) != 34)=true:=by simp;omega
 clear kX hl Bh;go_enter func149,ntmps149;go_wp2;go_ret2;exact⟨rfl,af⟩
def Fw(x:List UInt8×Nat):Ending:=.returned (.tuple #[.string (aj x.1),.int .i64 (x.2:Nat)])
theorem zI(hP:aW)(k:Nat)(hk:k<5)(s:ByteArray)(w:World)(g:Gg w)(h0:0<s.size)(hs:s.size<=40000\/(k≠3/\s.size<=100000)):Calls prog 113 #[.int .i64 (k:Nat),.string s] w fun e w'=>e=Fw (eZ dE k (bl s))/\Below w.heap.size w w':=by
 obtain⟨l,hl⟩:=fv s h0;have ll:s.size<=100000:=by omega
 have cd:=aa (tC dE k s[0] l);rw[<-hl,bl_length]at cd;have tk:=rL s;have:k=0\/k=1\/k=2\/k=3\/k=4:=by omega
 rcases this with rfl|rfl|rfl|rfl|rfl
 ·have hc:=aa (vW s w h0 ll)
  have he:eZ dE 0 (bl s)=([],Bz (bl s)):=rfl;rw[he];obtain⟨n,hn⟩:∃n,Bz (bl s)=n:=⟨_,rfl⟩
  rw[hn]at hc ⊢;clear hn he hl g tk cd;go_enter func113,ntmps113;go_wp2_with(go_at_call 148;refine hc.out.mono ?_;rintro e w1 ⟨rfl,aT⟩;have bi:=aT.symm;clear aT;subst bi)
  go_ret2;exact⟨rfl,af⟩
 ·have hc:=aa (zO s w h0 ll)
  have he:eZ dE 1 (bl s)=((bl s).take (uM (bl s)),uM (bl s)):=rfl;rw[he]at cd ⊢;obtain⟨n,hn⟩:∃n,uM (bl s)=n:=⟨_,rfl⟩
  rw[hn]at hc cd ⊢;have xx:(0:Int)<=(n:Int)/\(n:Int)<=(s.size:Int):=by have:=cd.out;simp only at this;omega
  obtain⟨lI,cm⟩:=xx;have ht:=(tk n).symm;unfold Fw;simp only;rw[ht];clear hn he hl g tk cd ht;go_enter func113,ntmps113;go_wp2_with(go_at_call 150;refine hc.out.mono ?_;rintro e w1 ⟨rfl,aT⟩;have bi:=aT.symm;clear aT;subst bi)
  go_ret2;exact⟨rfl,af⟩
 ·have hc:=aa (Cm hP s w h0 ll)
  have he:eZ dE 2 (bl s)=((bl s).take (uL dE (bl s)),uL dE (bl s)):=rfl;rw[he]at cd ⊢;obtain⟨n,hn⟩:∃n,uL dE (bl s)=n:=⟨_,rfl⟩
  rw[hn]at hc cd ⊢;have xx:(0:Int)<=(n:Int)/\(n:Int)<=(s.size:Int):=by have:=cd.out;simp only at this;omega
  obtain⟨lI,cm⟩:=xx;have ht:=(tk n).symm;unfold Fw;simp only;rw[ht];clear hn he hl g tk cd ht;go_enter func113,ntmps113;go_wp2_with(go_at_call 151;refine hc.out.mono ?_;rintro e w1 ⟨rfl,ai⟩;have ai:=aa ai)
  go_ret2;exact⟨rfl,ai.out⟩
 ·have hc:=aa (Gx s w g h0 (by omega))
  have he:eZ dE 3 (bl s)=(wJ (bl s)).getD ([],0):=rfl;rw[he];obtain⟨o,ho⟩:∃o,wJ (bl s)=o:=⟨_,rfl⟩
  rw[ho]at hc ⊢;clear ho he hl g tk cd;cases o with
  |none=>
   have br:Hid (Calls prog 149 #[.string s] w fun e w'=>e=.returned (.tuple #[.string ⟨#[]⟩,.int .i64 0])/\Below w.heap.size w w'):=hc;clear hc;go_enter func113,ntmps113;go_wp2_with(go_at_call 149;refine br.out.mono ?_;rintro e w1 ⟨rfl,ai⟩;have ai:=aa ai)
   go_ret2;exact⟨rfl,ai.out⟩
  |some x=>
   obtain⟨x1,x2⟩:=x;have br:Hid (Calls prog 149 #[.string s] w fun e w'=>e=.returned (.tuple #[.string (aj x1),.int .i64 (x2:Nat)])/\Below w.heap.size w w'):=hc;clear hc;go_enter func113,ntmps113;go_wp2_with(go_at_call 149;refine br.out.mono ?_;rintro e w1 ⟨rfl,ai⟩;have ai:=aa ai)
   go_ret2;exact⟨rfl,ai.out⟩
 have hc:=aa (zP s w h0 ll);have he:eZ dE 4 (bl s)=((bl s).take (cf (bl s)),cf (bl s)):=rfl;rw[he]at cd ⊢;obtain⟨n,hn⟩:∃n,cf (bl s)=n:=⟨_,rfl⟩
 rw[hn]at hc cd ⊢;have xx:(0:Int)<=(n:Int)/\(n:Int)<=(s.size:Int):=by have:=cd.out;simp only at this;omega
 obtain⟨lI,cm⟩:=xx;have ht:=(tk n).symm;unfold Fw;simp only;rw[ht];clear hn he hl g tk cd ht;go_enter func113,ntmps113;go_wp2_with(go_at_call 152;refine hc.out.mono ?_;rintro e w1 ⟨rfl,aT⟩;have bi:=aT.symm;clear aT;subst bi)
 go_ret2;exact⟨rfl,af⟩
def gV(l:List Tk):List Value:=l.flatMap fun t=>[.int .i64 t.w,.string (aj t.s),.int .i64 t.p]
theorem oT(a b:List Tk):gV (a++b)=gV a++gV b:=by simp[gV]
theorem mC(l:List Tk):(gV l).length=3*l.length:=by
 induction l with
 |nil=>rfl
 |cons a l ih=>simp only[gV,List.flatMap_cons,List.length_append,List.length_cons,List.length_nil]at ih ⊢;omega
theorem mD(l:List Tk):∀u∈gV l,u.oneCell'=true:=by intro u hu;simp only[gV,List.mem_flatMap,List.mem_cons,List.not_mem_nil,or_false]at hu;obtain⟨t,_,rfl|rfl|rfl⟩:=hu<;>rfl
theorem zi:(Tryz.prog.info? 88).map (fun i=>(i.zero,i.size,i.bytes))=some (some (.agg #[.int .i64 0,.string ⟨#[]⟩,.int .i64 0]),3,32):=by kernel_rfl
def OT(W:World)(B:Nat)(v:Value)(l:List Tk):Prop:=W.ownsRow B 88 3 v l.length (gV l)
theorem mT{W:World}{B T sz n:Nat}{v:Value}{xs:List Value}(h:W.ownsRow B T sz v (n+1) xs):∃g c,v=.slice (some ⟨g,0,none⟩) (n+1) c:=by
 rcases h.2 with⟨_,h0⟩|⟨g,cap,cur,rfl,_⟩
 ·cases h0
 exact⟨g,cap,rfl⟩
section
variable {w : World} {ops : Array Oper} {rest : List Oper} {o : Oper} {a : Act} {Q : Exit → Act → World → Prop}
theorem MY(hgd:o.guard=none)(s x:Operand)(ho:o.op=.call {callee:=.builtin .append,args:=#[s,x],argTypes:=#[59,59]})
  (B:Nat) (v:Value) (l:List Tk) (hs:a.eval s=v) (bz:OT w B v l) (ad:Addr) (c:Nat) (hx:a.eval x=.slice (some ad) 1 c) (t:Tk)
  (hnews:∀j u,(gV [t])[j]?=some u->w.cell? (ad.add j)=some u) (hk:l.length<=100000) (hB:B<=w.heap.size)
  (h:∀g c' w',Hid (OT w' B (.slice (some ⟨g,0,none⟩) (l.length+1) c') (l++[t]))->Hid (Below B w w')->wpList prog ops Q rest (a.put o.dst (.slice (some ⟨g,0,none⟩) (l.length+1) c')) w'):wpList prog ops Q (o::rest) a w:=by
 obtain⟨i0,hi,fY,gD,eR⟩:=info_parts zi;refine wpList_append_own_at w hgd s x 59 ho B 88 i0 _ 3 32 Tryz.underlying59 hi fY gD eR rfl (by decide) v l.length (gV l) hs bz ad 1 c (gV [t]) hx (by rw[mC];rfl) hnews (mD _) (by unfold maxLen;omega) (by omega) hB ?_;intro v' w' h1 h2 _ _;rw[<-oT]at h1;obtain⟨g,c',rfl⟩:=mT h1;refine h g c' w' ?_ ?_
 ·show OT _ _ _ _
  unfold OT;rw[List.length_append];exact h1
 refine(Below.refl B w).grown h2 hB (fun k hk=>(World.ownsRow.lt bz k hk).1)
end
theorem OT.keep{W W1:World}{B:Nat}{v:Value}{l:List Tk}(h:OT W B v l)(hb:Below W.heap.size W W1):OT W1 B v l:=aX h fun k _ hk=>hb.block k hk
theorem OT.nil(W:World)(B:Nat):OT W B (.slice none 0 0) []:=World.ownsRow_nil _ _ _ _
theorem OT.shape{W:World}{B:Nat}{v:Value}{l:List Tk}(h:OT W B v l):∃a c,v=.slice a l.length c:=by
 rcases h.2 with⟨rfl,h0⟩|⟨g,cap,cur,rfl,_⟩
 ·exact⟨none,0,by rw[h0]⟩
 exact⟨_,_,rfl⟩
def jd(l:List UInt8):Nat×Nat×List Tk:=if 4096<l.length then (2,0,[]) else match iS dE l 0 []with
 | .inl (e,p)=>(e,p,[])
 | .inr ts=>(0,0,ts)
def UU(w:World)(x:Nat×Nat×List Tk)(e:Ending)(w':World):Prop:=∃v,e=.returned (.tuple #[v,.int .i64 (x.1:Nat),.int .i64 (x.2.1:Nat)])/\OT w' w.heap.size v x.2.2/\Below w.heap.size w w'
def Nc(o:Sum (Nat×Nat) (List Tk)):Nat×Nat×List Tk:=match o with
 | .inl (e,p)=>(e,p,[])
 | .inr ts=>(0,0,ts)
theorem yP(W:World)(t:Tk)(T:TypeId):∀j u,(gV [t])[j]?=some u->(W.alloc (.cells #[.int .i64 t.w,.string (aj t.s),.int .i64 t.p] T)).cell? ((⟨W.heap.size,0,none⟩:Addr).add j)=some u:=by
 intro j u h;simp only[gV,List.flatMap_cons,List.flatMap_nil,List.append_nil]at h
 match j,h with
 |0,h=>simpa [Addr.add] using h
 |1,h=>simpa [Addr.add] using h
 |2,h=>simpa [Addr.add] using h
 |j+3,h=>simp at h
theorem Fh(l:List UInt8)(f k:Nat)(h:(eZ dE k l).2=0):mg dE l (f+1) k=mg dE l f (k+1):=by simp[mg,h]
theorem Fi(l:List UInt8)(f k:Nat)(h:(eZ dE k l).2≠0):mg dE l (f+1) k=some (k,(eZ dE k l).1,(eZ dE k l).2):=by simp[mg,h]
theorem uo(hP:aW)(s:ByteArray)(w:World)(g:Gg w)(hs:s.size<=1000000):Calls prog 57 #[.string s] w fun e w'=>UU w (jd (bl s)) e w':=by
 unfold jd;rw[bl_length];by_cases eX:4096<s.size
 ·have ib:(4096:Int)<(s.size:Int):=by omega
  rw[if_pos eX];go_enter func57,ntmps57;go_wp2
  go_step3
  go_wp2;rw[Exit.noGoto_ret]
  go_ret3
  exact⟨_,rfl,OT.nil _ _,af⟩
 have ib:¬(4096:Int)<(s.size:Int):=by omega
 rw[if_neg eX];show Calls _ _ _ _ fun e w'=>UU w (Nc (iS dE (bl s) 0 [])) e w';obtain⟨U,hU⟩:∃U,Nc (iS dE (bl s) 0 [])=U:=⟨_,rfl⟩
 rw[hU];have HU:=aa hU;have g0:=aa g;have JI:=aa hP;clear hU g hP hs;go_enter func57,ntmps57;go_wp2
 go_step3
 go_wp2
 go_step3
 go_wp2;go_loopw [5,6] (fun v i W=>∃(p:Nat) (ts:List Tk),i=.int .i64 (p:Nat)/\p<=s.size/\Hid (OT W w.heap.size v ts/\ts.length<=1024/\U=Nc (iS dE ((bl s).drop p) p ts)/\Below w.heap.size w W)) (fun _ i _=>s.size-(intOf i).toNat)
 case atStart=>exact⟨0,[],rfl,Nat.zero_le _,OT.nil _ _,by simp,HU.out.symm,af⟩
 case round=>
  obtain⟨p,ts,rfl,hp,H⟩:=hrel;by_cases Sq:p<s.size
  ·have Sr:(p:Int)<(s.size:Int):=by omega
   obtain⟨a,c,hv⟩:=H.out.1.shape;have hH:=H.out;clear H;rw[hv]at hH ⊢;clear hv;have H:=aa hH;clear hH;go_wp2
   go_hide hQ
   go_loopw [5,6,17] (fun v i k W=>∃(j:Nat),v=.slice a ts.length c/\i=.int .i64 (p:Nat)/\k=.int .i64 (j:Nat)/\j<=5/\Hid (OT W w.heap.size (.slice a ts.length c) ts/\Below w.heap.size w W/\ym dE ((bl s).drop p)=mg dE ((bl s).drop p) (5-j) j)) (fun _ _ k _=>5-(intOf k).toNat)
   case atStart=>exact⟨0,rfl,rfl,rfl,by omega,H.out.1,H.out.2.2.2,rfl⟩
   case round=>
    obtain⟨j,rfl,rfl,rfl,hj,K⟩:=hrel;obtain⟨ko,kb,kt⟩:=K.out;have KO:=aa ko;have KB:=aa kb;have KT:=aa kt;have gr:=aa (g0.out.below kb g0.out.sz);clear K ko kb kt;by_cases PJ:j<5
    ·have Gj:(j:Int)<5:=by omega
     have Nr:(0:Int)<=(j:Int):=by omega
     obtain⟨t,ht⟩:∃t,s.extract p s.size=t:=⟨_,rfl⟩
     have mu:bl t=(bl s).drop p:=by rw[<-ht,bd,ah]
     have lG:t.size=s.size-p:=by rw[<-bl_length,mu,List.length_drop,bl_length]
     have pY:=aa (zI JI.out j PJ t _ gr.out (by omega) (Or.inl (by omega)));rw[mu]at pY;obtain⟨c0,l0,Cb⟩:∃c0 l0,bl t=c0::l0:=by obtain⟨l0,Cb⟩:=fv t (by omega);exact⟨_,l0,Cb⟩
     have cd:=tC dE j c0 l0;rw[<-Cb,mu,List.length_drop,bl_length]at cd;have ef:5-j=(4-j)+1:=by omega
     have KT2:Hid (ym dE ((bl s).drop p)=mg dE ((bl s).drop p) ((4-j)+1) j):=by have:=KT.out;rw[ef]at this;exact this
     have EP:Hid ((bl s).drop p=c0::l0):=by show _=_;rw[<-mu];exact Cb
     obtain⟨xn,Pa⟩:∃xn,eZ dE j ((bl s).drop p)=xn:=⟨_,rfl⟩
     have hz:=Fh ((bl s).drop p) (4-j) j;have Jw:=Fi ((bl s).drop p) (4-j) j;rw[Pa]at pY cd hz Jw;obtain⟨x,n⟩:=xn;have vm:Hid (Calls prog 113 #[.int .i64 (j:Nat),.string t] wr fun e w'=>e=.returned (.tuple #[.string (aj x),.int .i64 (n:Nat)])/\Below wr.heap.size wr w'):=pY;have xh:Hid ((aj x).size=x.length):=ag x;have Vt:(aj x).size<=100000\/True:=Or.inr trivial;simp only at cd hz Jw;clear pY mu lG Cb ef KT Pa Vt;by_cases lI:n=0
     ·have e0:((n:Int)==0)=true:=by simp;omega
      have KT3:Hid (ym dE ((bl s).drop p)=mg dE ((bl s).drop p) (5-(j+1)) (j+1)):=by
       show _=_;rw[KT2.out,hz lI]
       congr 1
       omega
      clear hz Jw KT2 lI;go_wp2_with(go_at_call 113;refine vm.out.mono ?_;rintro e w1 ⟨rfl,ai⟩;have ai:=aa ai)
      go_roundw
      case rel=>exact⟨j+1,rfl,rfl,by go_num,by omega,KO.out.keep ai.out,ac KB.out ai.out,KT3.out⟩
      case measure=>simp[intOf];omega
     have e0:((n:Int)==0)=false:=by simp;omega
     have KT3:Hid (ym dE ((bl s).drop p)=some (j,x,n)):=by show _=_;rw[KT2.out,Jw lI]
     have US:Hid (U=Nc (if j=0 then iS dE ((bl s).drop (p+n)) (p+n) ts else if lgK j<x.length\/ts.length=1024 then .inl (2,p) else iS dE ((bl s).drop (p+n)) (p+n) (ts++[⟨wdK j,x,p⟩]))):=by show _=_;rw[H.out.2.2.1,EP.out,gB,<-EP.out,KT3.out];simp only[List.drop_drop]
     have jp:(p:Int)+(n:Int)<=9223372036854775807:=by omega
     clear hz Jw KT2;by_cases AW:j=0
     ·subst AW
      have US2:Hid (U=Nc (iS dE ((bl s).drop (p+n)) (p+n) ts)):=by have:=US.out;rw[if_pos rfl]at this;exact this
      clear US;go_wp2_with(go_at_call 113;refine vm.out.mono ?_;rintro e w1 ⟨rfl,ai⟩;have ai:=aa ai)
      subst hQ;go_wp2
      go_roundw
      case rel=>exact⟨p+n,ts,by go_num,by omega,KO.out.keep ai.out,H.out.2.1,US2.out,ac KB.out ai.out⟩
      case measure=>simp[intOf];omega
     have ej:((j:Int)==0)=false:=by simp;omega
     by_cases ED:lgK j<x.length\/ts.length=1024
     ·have US2:Hid (U=(2,p,[])):=by have:=US.out;rw[if_neg AW,if_pos ED]at this;exact this
      clear US;by_cases aJ:lgK j<x.length
      ·have i1:((lgK j:Nat):Int)<((aj x).size:Int):=by rw[xh.out];omega
       clear ED aJ AW;go_wp2_with(go_at_call 113;refine vm.out.mono ?_;rintro e w1 ⟨rfl,ai⟩;have g1:=(g0.out.below (ac KB.out ai) g0.out.sz);have tR:=g1.lo j PJ;have ai:=aa ai;clear g1)
       subst hQ;go_wp2
       go_ret3
       exact⟨_,by rw[US2.out];rfl,by rw[US2.out];exact OT.nil _ _,ac KB.out ai.out⟩
      have i1:¬((lgK j:Nat):Int)<((aj x).size:Int):=by rw[xh.out];omega
      have i2:((ts.length:Int)==1024)=true:=by simp;omega
      have i3:decide ((ts.length:Int)=1024)=true:=by simp;omega
      clear ED aJ AW;go_wp2_with(go_at_call 113;refine vm.out.mono ?_;rintro e w1 ⟨rfl,ai⟩;have g1:=(g0.out.below (ac KB.out ai) g0.out.sz);have tR:=g1.lo j PJ;have ai:=aa ai;clear g1)
      subst hQ;go_wp2
      go_ret3
      exact⟨_,by rw[US2.out];rfl,by rw[US2.out];exact OT.nil _ _,ac KB.out ai.out⟩
     have US2:Hid (U=Nc (iS dE ((bl s).drop (p+n)) (p+n) (ts++[⟨wdK j,x,p⟩]))):=by have:=US.out;rw[if_neg AW,if_neg ED]at this;exact this
     have i1:¬((lgK j:Nat):Int)<((aj x).size:Int):=by rw[xh.out];omega
     have i2:((ts.length:Int)==1024)=false:=by simp;omega
     have i3:decide ((ts.length:Int)=1024)=false:=by simp;omega
     have Ph:Hid (ts.length<1024):=by show _<_;have:=H.out.2.1;omega
     clear US ED AW;go_wp2_with(first|(go_at_call 113;refine vm.out.mono ?_;rintro e w1 ⟨rfl,ai⟩;have g1:=(g0.out.below (ac KB.out ai) g0.out.sz);have tR:=g1.lo j PJ;have Xt:=g1.wo j PJ;have O1:=aa (KO.out.keep ai);have ai:=aa ai;clear g1)|(at_builtin;refine ak.out ?_))
     refine ak.mk ?_;have O2:=aa (O1.out.keep (ab (o:=.cells #[.int .i64 (wdK j:Nat),.string (aj x),.int .i64 (p:Nat)] 88) (Below.refl _ w1)));refine MY rfl (.tmp 28) (.tmp 35) rfl w.heap.size _ ts rfl O2.out ⟨w1.heap.size,0,none⟩ 1 rfl ⟨wdK j,x,p⟩ (yP w1 ⟨wdK j,x,p⟩ _) (by have:=Ph.out;omega) (by have:=(ac KB.out ai.out).size;simp;omega) ?_;intro g' c' w' ho hb;have B2:Hid (Below w.heap.size w w'):=(ab (ac KB.out ai.out)).trans hb.out;clear hb;go_wp2;subst hQ;go_wp2
     go_roundw
     case rel=>exact⟨p+n,ts++[⟨wdK j,x,p⟩],by go_num,by omega,ho.out,by have:=Ph.out;simp;omega,US2.out,B2.out⟩
     case measure=>simp[intOf];omega
    have SY:j=5:=by omega
    subst SY;have US:Hid (U=(130,p,[])):=by
     show _=_;have aQ:∃c0 l0,(bl s).drop p=c0::l0:=by
      cases hd:(bl s).drop p with
      |nil=>have:=congrArg List.length hd;rw[List.length_drop,bl_length]at this;simp at this;omega
      |cons c0 l0=>exact⟨c0,l0,rfl⟩
     obtain⟨c0,l0,EP⟩:=aQ;rw[H.out.2.2.1,EP,gB,<-EP,KT.out];rfl
    go_wp2;subst hQ;go_wp2
    go_ret3
    exact⟨_,by rw[US.out];rfl,by rw[US.out];exact OT.nil _ _,KB.out⟩
  have Sr:¬(p:Int)<(s.size:Int):=by omega
  have UE:Hid (U=(0,0,ts)):=by show _=_;rw[H.out.2.2.1,List.drop_of_length_le (by rw[bl_length];omega)];rfl
  go_wp2
  go_ret3
  exact⟨_,by rw[UE.out];rfl,by rw[UE.out];exact H.out.1,H.out.2.2.2⟩
def TQ(w:World)(B:Nat)(l:List Tk):Prop:=∃a c,w.heap[B]?=some (.cells #[.slice a l.length c] 59 (0,0))/\l.length<=c/\(c<=9223372036854775807/\l.length<=100000)/\B+4<=w.heap.size/\(0<l.length->∃b o,a=some ⟨b,o,none⟩/\b≠B/\b<B+4/\∀k (h:k<l.length),w.cell? ⟨b,o+k*3,none⟩=some (.int .i64 l[k].w)/\w.cell? ⟨b,o+k*3+1,none⟩=some (.string (aj l[k].s))/\w.cell? ⟨b,o+k*3+2,none⟩=some (.int .i64 l[k].p))
structure FB(B:Nat)(w w':World):Prop where
 os:w'.os=w.os
 tape:w'.tape=w.tape
 output:w'.output=w.output
 size:w.heap.size<=w'.heap.size
 blk:∀k,k<w.heap.size->k≠B->w'.heap[k]?=w.heap[k]?
theorem FB.trans{B:Nat}{a b c:World}(h:FB B a b)(k:FB B b c):FB B a c :=
 ⟨k.os.trans h.os,k.tape.trans h.tape,k.output.trans h.output,Nat.le_trans h.size k.size,fun i hi hn=>(k.blk i (Nat.lt_of_lt_of_le hi h.size) hn).trans (h.blk i hi hn)⟩
theorem FB.of{B:Nat}{a b:World}(h:Below a.heap.size a b):FB B a b:=⟨h.os,h.tape,h.output,h.size,fun k hk _=>h.block k hk⟩
theorem FB.then{B:Nat}{a b c:World}(h:FB B a b)(k:Below b.heap.size b c):FB B a c:=h.trans (FB.of k)
theorem FB.low{B:Nat}{a b:World}(h:FB B a b)(hB:B<=a.heap.size):Below B a b:=⟨h.os,h.tape,h.output,h.size,fun k hk=>h.blk k (by omega) (by omega)⟩
theorem TQ.sz{w:World}{B:Nat}{l:List Tk}(h:TQ w B l):B+4<=w.heap.size:=by obtain⟨a,c,_,_,_,h,_⟩:=h;exact h
theorem TQ.lt{w:World}{B:Nat}{l:List Tk}(h:TQ w B l):B<w.heap.size:=by have:=h.sz;omega
theorem TQ.keep{w W:World}{B:Nat}{l:List Tk}(h:TQ w B l)(hz:w.heap.size<=W.heap.size)(hb:∀k,k<B+4->W.heap[k]?=w.heap[k]?):TQ W B l:=by obtain⟨a,c,h0,h1,h2,h4,h3⟩:=h;refine⟨a,c,(hb _ (by omega)).trans h0,h1,h2,by omega,fun hl=>?_⟩;obtain⟨b,o,e,aQ,cQ,hc⟩:=h3 hl;exact⟨b,o,e,aQ,cQ,fun k hk=>⟨(World.cell?_of_block (w:=w) (hb b cQ)).trans (hc k hk).1,(World.cell?_of_block (w:=w) (hb b cQ)).trans (hc k hk).2.1,(World.cell?_of_block (w:=w) (hb b cQ)).trans (hc k hk).2.2⟩⟩
theorem TQ.below{w W:World}{B:Nat}{l:List Tk}(h:TQ w B l)(hb:Below w.heap.size w W):TQ W B l:=h.keep hb.size fun k hk=>hb.block k (by have:=h.sz;omega)
theorem TQ.set{W:World}{B i o:Nat}{l:List Tk}{u:Value}(h:TQ W B l)(hi:B+4<=i):TQ (W.setCell ⟨i,o,none⟩ u) B l:=h.keep (by simp) fun k hk=>Below.heap_setCell _ _ _ _ (by show k≠i;omega)
theorem TQ.al{W:World}{B:Nat}{l:List Tk}{o:Obj}(h:TQ W B l):TQ (W.alloc o) B l:=h.keep (by simp) fun k hk=>Below.heap_alloc _ _ _ (by have:=h.sz;omega)
theorem FB.set{B:Nat}{w W:World}{i o:Nat}{u:Value}(h:FB B w W)(hi:w.heap.size<=i):FB B w (W.setCell ⟨i,o,none⟩ u) :=
 ⟨h.os,h.tape,h.output,by simp;exact h.size,fun k hk hn=>(Below.heap_setCell _ _ _ _ (by show k≠i;omega)).trans (h.blk k hk hn)⟩
theorem FB.al{B:Nat}{w W:World}{o:Obj}(h:FB B w W):FB B w (W.alloc o) :=
 ⟨h.os,h.tape,h.output,by simp;have:=h.size;omega,fun k hk hn=>(Below.heap_alloc _ _ _ (by have:=h.size;omega)).trans (h.blk k hk hn)⟩
theorem TQ.next{w W:World}{B:Nat}{t:Tk}{l:List Tk}{b o c:Nat}(hz:w.heap.size<=W.heap.size)(hs:B+4<=w.heap.size)(hc:∀k (h:k<(t::l).length),w.cell? ⟨b,o+k*3,none⟩=some (.int .i64 (t::l)[k].w)/\w.cell? ⟨b,o+k*3+1,none⟩=some (.string (aj (t::l)[k].s))/\w.cell? ⟨b,o+k*3+2,none⟩=some (.int .i64 (t::l)[k].p))(hb:b<B+4)(aQ:b≠B)(hf:∀k,k<w.heap.size->k≠B->W.heap[k]?=w.heap[k]?)(h1:l.length<=c)(h2:c<=9223372036854775807/\l.length<=100000)
  (hW:W.heap[B]?=some (.cells #[.slice (some ⟨b,o+3,none⟩) l.length c] 59 (0,0))):TQ W B l:=by
 refine⟨_,c,hW,h1,h2,by omega,fun hl=>⟨b,o+3,rfl,aQ,hb,fun k hk=>?_⟩⟩;have h:=hc (k+1) (by simp;omega);simp only[List.getElem_cons_succ]at h;have e:o+3+k*3=o+(k+1)*3:=by omega
 rw[e];exact⟨(World.cell?_of_block (w:=w) (hf b (by omega) aQ)).trans h.1,(World.cell?_of_block (w:=w) (hf b (by omega) aQ)).trans h.2.1,(World.cell?_of_block (w:=w) (hf b (by omega) aQ)).trans h.2.2⟩
def dO(t:Tk):Value:=.agg #[.int .i64 t.w,.string (aj t.s),.int .i64 t.p]
def bx(B:Nat):Value:=.pointer (some ⟨B,0,none⟩)
def lv(B:Nat):Value:=.agg #[.func (.func 114) #[] #[.pointer (some ⟨B,0,none⟩)],.func (.func 115) #[] #[.pointer (some ⟨B,0,none⟩)]]
def pw(p:Int):List PanicEntry:=[{v:=.iface 79 (.int .i64 p),recovered:=false}]
def bj(t:Tk):List UInt8:=if t.w=1\/t.w=4 then t.s else []
theorem ij{w:World}{B:Nat}{v:Value}{T:TypeId}(h:w.heap[B]?=some (.cells #[v] T (0,0)))(u:Value):(w.setCell ⟨B,0,none⟩ u).heap[B]?=some (.cells #[u] T (0,0)):=by obtain⟨bm,e⟩:=Array.getElem?_eq_some_iff.1 h;simp[World.setCell,bm,Array.getElem_modify,e]
theorem rq{w:World}{B:Nat}{t:Tk}{l:List Tk}(h:TQ w B (t::l)):Calls prog 114 #[.pointer (some ⟨B,0,none⟩)] w fun e w'=>e=.returned (dO t)/\Below w.heap.size w w':=by
 have bm:=h.lt;have Pj:=h.sz;obtain⟨a,c,h0,h1,h2,_,h3⟩:=h;obtain⟨b,o,rfl,aQ,Qa,hc⟩:=h3 (by simp);have cQ:b<w.heap.size:=by omega
 obtain⟨c0,c1,c2⟩:=hc 0 (by simp);have cB:w.cell? ⟨B,0,none⟩=some (.slice (some ⟨b,o,none⟩) (t::l).length c):=by unfold World.cell?;rw[h0];rfl
 simp only[List.getElem_cons_zero,Nat.zero_mul,Nat.add_zero]at c0 c1 c2;have hn:(0:Int)<((t::l).length:Int):=by simp only[List.length_cons];omega
 obtain⟨n,hN⟩:∃n,(t::l).length=n:=⟨_,rfl⟩
 rw[hN]at cB hn h1;clear h0 h3 hc h1 hN;go_enter func114,ntmps114;go_wp2_with fail
 refine bodyPost_ret (v:=dO t) (by simp[results,Tryz.results114,go_sem,dO, *]) rfl ⟨rfl,ab af⟩
theorem iN{w:World}{B:Nat}{t:Tk}{l:List Tk}(h:TQ w B (t::l)):Calls prog 115 #[.pointer (some ⟨B,0,none⟩)] w fun e w'=>e=.returned (dO t)/\TQ w' B l/\FB B w w':=by
 have bm:=h.lt;have Pj:=h.sz;obtain⟨a,c,h0,h1,h2,_,h3⟩:=h;obtain⟨b,o,rfl,aQ,Qa,hc⟩:=h3 (by simp);have cQ:b<w.heap.size:=by omega
 have HC:=aa hc;obtain⟨c0,c1,c2⟩:=hc 0 (by simp);have cB:w.cell? ⟨B,0,none⟩=some (.slice (some ⟨b,o,none⟩) (t::l).length c):=by unfold World.cell?;rw[h0];rfl
 have fB:w.frozen? ⟨B,0,none⟩=false:=by unfold World.frozen?;rw[h0];rfl
 simp only[List.getElem_cons_zero,Nat.zero_mul,Nat.add_zero]at c0 c1 c2;have hn:(0:Int)<((t::l).length:Int):=by simp only[List.length_cons];omega
 have cm:(1:Int)<=((t::l).length:Int):=by simp only[List.length_cons];omega
 have LV:((t::l).length:Int)<=(c:Int):=by omega
 have bB:(c:Int)<=9223372036854775807:=by omega
 have H0:=aa h0;have HL:=aa (show l.length<=c-1 by simp only[List.length_cons]at h1;omega);have H2:=aa h2;have HL9:=aa (show l.length<=100000 by have:=h2.2;simp only[List.length_cons]at this;omega);clear h0 h3 hc h1 h2;have key:∀a' c',(∀c'',c'=c''->l.length<=c'/\c'<=9223372036854775807)->(a'=some ⟨b,o+3,none⟩\/l=[])->∀X o1 o2,X=((w.setCell ⟨B,0,none⟩ (.slice a' l.length c')).alloc o1).alloc o2->TQ X B l/\FB B w X:=by
  intro a' c' xD ha X o1 o2 hX;have cC:X.heap.size=w.heap.size+2:=by rw[hX];simp
  have hf:∀k,k<w.heap.size->k≠B->X.heap[k]?=w.heap[k]?:=fun k hk hn=>by rw[hX,Below.heap_alloc _ _ _ (by simp;omega),Below.heap_alloc _ _ _ (by simp;omega),Below.heap_setCell _ _ _ _ hn]
  have hB:X.heap[B]?=some (.cells #[.slice a' l.length c'] 59 (0,0)):=by rw[hX,Below.heap_alloc _ _ _ (by simp;omega),Below.heap_alloc _ _ _ (by simp;omega)];exact ij H0.out _
  refine⟨?_,⟨by rw[hX];rfl,by rw[hX];rfl,by rw[hX];rfl,by omega,hf⟩⟩;obtain⟨q1,q2⟩:=xD _ rfl;rcases ha with rfl|rfl
  ·exact TQ.next (by omega) Pj HC.out Qa aQ hf q1 ⟨q2,HL9.out⟩ hB
  exact⟨_,_,hB,q1,⟨q2,HL9.out⟩,by omega,fun h=>by simp at h⟩
 have KEY:=aa key;clear key;go_enter func115,ntmps115;go_wp2_with fail
 ·have Cb:l=[]:=by have:=HL.out;exact List.eq_nil_of_length_eq_zero (by omega)
  refine bodyPost_ret (v:=dO t) (by simp[results,Tryz.results115,go_sem,dO, *]) rfl ⟨rfl,KEY.out _ _ (fun _ _=>by subst Cb;simp) (Or.inr Cb) _ _ _ rfl⟩
 refine bodyPost_ret (v:=dO t) (by simp[results,Tryz.results115,go_sem,dO, *]) rfl ⟨rfl,KEY.out _ _ (fun _ _=>⟨HL.out,by have:=H2.out;omega⟩) (Or.inl rfl) _ _ _ rfl⟩
theorem im(t:Tk)(w:World):Calls prog 95 #[dO t] w fun e w'=>e=.returned (.string (aj (bj t)))/\Below w.heap.size w w':=by
 unfold dO bj;by_cases h1:t.w=1
 ·have e:(if t.w=1\/t.w=4 then t.s else [])=t.s:=by simp[h1]
  rw[e];clear e;go_enter func95,ntmps95;go_wp2_with fail
  go_ret;exact⟨rfl,ab af⟩
 have b1:(t.w==1)=false:=by simp[h1]
 by_cases h4:t.w=4
 ·have e:(if t.w=1\/t.w=4 then t.s else [])=t.s:=by simp[h4]
  rw[e];clear e;go_enter func95,ntmps95;go_wp2_with fail
  go_ret;exact⟨rfl,ab af⟩
 have b4:(t.w==4)=false:=by simp[h4]
 have e:(if t.w=1\/t.w=4 then t.s else [])=[]:=by simp[h1,h4]
 rw[e];clear e;go_enter func95,ntmps95;go_wp2_with fail
 go_ret;exact⟨rfl,ab af⟩
def vo(m:List UInt8)(t:Tk)(l:List Tk):Bool×List Tk:=if bj t=m then (true,l) else (false,t::l)
def pl(m:List UInt8)(t:Tk)(l:List Tk):Sum Int (List Tk):=if bj t=m then .inr l else .inl t.p
def WP(B:Nat)(w:World)(o:Sum Int (List Tk))(e:Ending)(w':World):Prop:=FB B w w'/\match o with
 | .inl p=>e=.panicked (pw p)
 | .inr l=>e=.returned (.tuple #[])/\TQ w' B l
theorem co{a b:List UInt8}(h:aj a=aj b):a=b:=by have:=congrArg bl h;rwa [ah,ah]at this
theorem Jf(w:World)(t:Tk):(w.alloc (.cells #[.int .i64 t.w,.string (aj t.s),.int .i64 t.p] 88)).cell? ⟨w.heap.size,2,none⟩=some (.int .i64 t.p):=by unfold World.cell?;rw[show(w.alloc (.cells #[.int .i64 t.w,.string (aj t.s),.int .i64 t.p] 88)).heap[w.heap.size]?=_ from Array.getElem?_push_size];rfl
theorem ud{a b:ByteArray}(h:¬a=b):(a.toList==b.toList)=false:=by rw[beq_eq_false_iff_ne];intro e;exact h (ByteArray.ext (Array.toList_inj.1 (by rw[ByteArray.toList_eq,ByteArray.toList_eq]at e;exact e)))
def LB(W:World)(i B:Nat):Prop:=W.heap[i]?=some (.cells #[.func (.func 114) #[] #[.pointer (some ⟨B,0,none⟩)],.func (.func 115) #[] #[.pointer (some ⟨B,0,none⟩)]] 83 (0,0))
theorem gO(w:World)(B:Nat):LB (w.alloc (.cells #[.func (.func 114) #[] #[.pointer (some ⟨B,0,none⟩)],.func (.func 115) #[] #[.pointer (some ⟨B,0,none⟩)]] 83)) w.heap.size B:=Array.getElem?_push_size
theorem LB.lt{W:World}{i B:Nat}(h:LB W i B):i<W.heap.size:=by
 by_cases bm:i<W.heap.size
 ·exact bm
 have hn:W.heap[i]?=none:=by simp;omega
 unfold LB at h;rw[hn]at h;cases h
theorem LB.below{W W1:World}{i B:Nat}(h:LB W i B)(hb:Below W.heap.size W W1):LB W1 i B:=(hb.block _ h.lt).trans h
theorem LB.fb{W W1:World}{i B:Nat}(h:LB W i B)(hb:FB B W W1)(hn:i≠B):LB W1 i B:=(hb.blk _ h.lt hn).trans h
theorem LB.cells{W:World}{i B:Nat}(h:LB W i B):W.cell? ⟨i,0,none⟩=some (.func (.func 114) #[] #[.pointer (some ⟨B,0,none⟩)])/\W.cell? ⟨i,1,none⟩=some (.func (.func 115) #[] #[.pointer (some ⟨B,0,none⟩)]):=by unfold LB at h;constructor<;>(unfold World.cell?;rw[h];rfl)
theorem Iq(m:List UInt8){w:World}{B:Nat}{t:Tk}{l:List Tk}(h:TQ w B (t::l)):Calls prog 62 #[lv B,.string (aj m)] w fun e w'=>e=.returned (.bool (vo m t l).1)/\TQ w' B (vo m t l).2/\FB B w w':=by
 have H:=aa h;clear h;unfold lv;have L0:=aa (gO w B);have hf:=aa (fun w' (hb:Below w.heap.size w w')=>rq (H.out.below hb));have ho:=aa (im t);unfold dO at hf ho;obtain⟨S,hS⟩:∃S,aj (bj t)=S:=⟨_,rfl⟩
 rw[hS]at ho;by_cases hm:bj t=m
 ·have e:vo m t l=(true,l):=by simp[vo,hm]
  rw[e];rw[hm]at hS;rw[hS];clear e hm hS;have ht:=aa (fun w' (hb:Below w.heap.size w w')=>iN (H.out.below hb));unfold dO at ht;go_enter func62,ntmps62;go_wp2_with(first|(go_at_call 114;refine(hf.out _ (ab af)).mono ?_;rintro e w1 ⟨rfl,ai⟩)|(go_at_call 95;refine(ho.out _).mono ?_;rintro e w2 ⟨rfl,aq⟩;have L2:=((L0.out.below ai).below aq).cells.2)|(go_at_call 115;refine(ht.out _ (ac (ac (ab af) ai) aq)).mono ?_;rintro e w3 ⟨rfl,dC,ar⟩))
  go_ret;exact⟨rfl,dC,(FB.of (ac (ac (ab af) ai) aq)).trans ar⟩
 have e:vo m t l=(false,t::l):=by simp[vo,hm]
 rw[e];have aQ:=ud (fun h:S=aj m=>hm (co (hS.trans h)));clear e hm hS;go_enter func62,ntmps62;go_wp2_with(first|(go_at_call 114;refine(hf.out _ (ab af)).mono ?_;rintro e w1 ⟨rfl,ai⟩)|(go_at_call 95;refine(ho.out _).mono ?_;rintro e w2 ⟨rfl,aq⟩))
 go_ret;exact⟨rfl,H.out.below (ac (ac (ab af) ai) aq),FB.of (ac (ac (ab af) ai) aq)⟩
theorem tY(m:List UInt8){w:World}{B:Nat}{t:Tk}{l:List Tk}(h:TQ w B (t::l)):Calls prog 96 #[lv B,.string (aj m)] w fun e w'=>WP B w (pl m t l) e w':=by
 have H:=aa h;clear h;unfold lv;have ho:=aa (im t);have ht:=aa (fun w' (hb:Below w.heap.size w w')=>iN (H.out.below hb));unfold dO at ho ht;obtain⟨S,hS⟩:∃S,aj (bj t)=S:=⟨_,rfl⟩
 rw[hS]at ho;by_cases hm:bj t=m
 ·have e:pl m t l=.inr l:=by simp[pl,hm]
  rw[e];rw[hm]at hS;rw[hS];clear e hm hS;go_enter func96,ntmps96;go_wp2_with(first|(go_at_call 95;refine(ho.out _).mono ?_;rintro e w2 ⟨rfl,aq⟩)|(go_at_call 115;refine(ht.out _ (ab af)).mono ?_;rintro e w3 ⟨rfl,dC,ar⟩))
  go_end0
  have hx:=ac (ab (o:=.cells #[.int .i64 t.w,.string (aj t.s),.int .i64 t.p] 88) (Below.refl w3.heap.size w3)) aq;exact⟨((FB.of (ab af)).trans ar).then hx,rfl,dC.below hx⟩
 have e:pl m t l=.inl t.p:=by simp[pl,hm]
 rw[e];have aQ:=ud (fun h:S=aj m=>hm (co (hS.trans h)));clear e hm hS;have c3:=fun w3:World=>(Jf w3 t)
 go_enter func96,ntmps96;go_wp2_with(first|(go_at_call 115;refine(ht.out _ (ab af)).mono ?_;rintro e w3 ⟨rfl,dC,ar⟩)|(go_at_call 95;refine(ho.out _).mono ?_;rintro e w2 ⟨rfl,aq⟩;have c2:=(aq.cell (p:=⟨w3.heap.size,2,none⟩) (by simp)).trans (Jf w3 t)))
 have hx:=ac (ab (o:=.cells #[.int .i64 t.w,.string (aj t.s),.int .i64 t.p] 88) (Below.refl w3.heap.size w3)) aq;exact⟨rfl,((FB.of (ab af)).trans ar).then hx,rfl⟩
def mi(t:Tk)(l:List Tk):Sum Int (List Tk):=if t.w=0 then .inr (t::l) else .inl t.p
theorem zH{w:World}{B:Nat}{t:Tk}{l:List Tk}(h:TQ w B (t::l)):Calls prog 60 #[lv B] w fun e w'=>WP B w (mi t l) e w':=by
 have H:=aa h;clear h;unfold lv;have hf:=aa (fun w' (hb:Below w.heap.size w w')=>rq (H.out.below hb));unfold dO at hf;by_cases hm:t.w=0
 ·have e:mi t l=.inr (t::l):=by simp[mi,hm]
  rw[e];have Nm:=aa hm;rw[hm]at hf;clear e hm;go_enter func60,ntmps60;go_wp2_with(first|(go_at_call 114;refine(hf.out _ (ab af)).mono ?_;rintro e w1 ⟨rfl,ai⟩))
  go_end0
  have hx:=ab (o:=.cells #[.int .i64 0,.string (aj t.s),.int .i64 t.p] 88) (ac (ab af) ai);exact⟨FB.of hx,rfl,H.out.below hx⟩
 have e:mi t l=.inl t.p:=by simp[mi,hm]
 rw[e];have b0:(t.w==0)=false:=by simp[hm]
 clear e;go_enter func60,ntmps60;go_wp2_with(first|(go_at_call 114;refine(hf.out _ (ab af)).mono ?_;rintro e w1 ⟨rfl,ai⟩))
 have hx:=ab (o:=.cells #[.int .i64 t.w,.string (aj t.s),.int .i64 t.p] 88) (ac (ab af) ai);exact⟨rfl,FB.of hx,rfl⟩
def Lh(s:(List UInt8)):List (List UInt8)->Nat
 | []=>0
 |x::l=>if s=x then 0 else Lh s l+1
def Jm(s:(List UInt8))(l:List (List UInt8)):Int:=if s∈l then (Lh s l:Nat) else -1
theorem re(s:(List UInt8)):∀(l:List (List UInt8)) (k:Nat) (h:k<l.length),s∉l.take k->s=l[k]->s∈l/\Lh s l=k
 | [],k,h,_,_=>by simp at h
 |x::l,0,h,_,e=>by simp only[List.getElem_cons_zero]at e;exact⟨by rw[e];simp,by simp[Lh,e]⟩
 |x::l,k+1,h,hn,e=>by simp only[List.take_succ_cons,List.mem_cons,not_or]at hn;simp only[List.getElem_cons_succ]at e;have:=re s l k (by simpa using h) hn.2 e;exact⟨List.mem_cons_of_mem _ this.1,by simp[Lh,hn.1,this.2]⟩
theorem AO(v:Value)(l:List (List UInt8))(s:List UInt8)(w:World)(h:NL w v (l.map aj)):Calls prog 183 #[v,.string (aj s)] w fun e w'=>e=.returned (.int .i64 (Jm s l))/\w'=w:=by
 obtain⟨a,c,rfl,bB,br⟩:=h.len;rw[List.length_map]at *
 have H:=aa h;clear h;have ml:maxLen=9223372036854775807:=rfl;obtain⟨U,hU⟩:∃U,Jm s l=U:=⟨_,rfl⟩
 rw[hU];have HU:=aa hU;clear hU;go_enter func183,ntmps183;go_wp2_with fail
 go_loopw [5,8] (fun _ i w'=>∃k:Nat,i=.int .i64 k/\k<=l.length/\w'=w/\Hid (s∉l.take k)) (fun _ i _=>l.length-(intOf i).toNat)
 case atStart=>exact⟨0,rfl,Nat.zero_le _,rfl,by show s∉_;simp⟩
 case round=>
  obtain⟨k,rfl,hk,hw,hn⟩:=hrel;have hw:=hw.symm;subst hw;by_cases aE:k<l.length
  ·obtain⟨b,o,c',he,cQ,gq,iE,hcell⟩:=H.out.at k (by rw[List.length_map];exact aE)
   rw[List.length_map]at he gq;rw[List.getElem_map]at hcell;have cy:=Value.slice.inj he;obtain⟨rfl,_,rfl⟩:=cy;clear he;have bF:(k:Int)<(l.length:Int):=by omega
   have cR:(k:Int)<9223372036854775807:=by omega
   obtain⟨x,hx⟩:∃x,l[k]=x:=⟨_,rfl⟩
   rw[hx]at hcell;have HX:=aa hx;clear hx;by_cases hs:s=x
   ·have hv:Hid ((k:Int)=U):=by
     have:=re s l k aE hn.out (hs.trans HX.out.symm);show _=_;rw[<-HU.out];simp[Jm,this.1,this.2]
    rw[hs];go_wp2_with fail
    go_ret;exact⟨by rw[<-hv.out];rfl,rfl⟩
   have aQ:=ud (fun h=>hs (co h));have eK:=aa hs;clear hs;go_wp2_with fail
   refine⟨⟨k+1,by go_num,by omega,by first|rfl|trivial,?_⟩,by simp[intOf];omega⟩;show s∉_;rw[List.take_add_one,List.getElem?_eq_getElem aE];simp only[Option.toList_some,List.mem_append,List.mem_singleton,not_or];exact⟨hn.out,by rw[HX.out];exact eK.out⟩
  have bF:¬((k:Int)<(l.length:Int)):=by omega
  have hv:Hid (U=-1):=by have:=hn.out;rw[List.take_of_length_le (by omega)]at this;show _=_;rw[<-HU.out];simp[Jm,this]
  go_wp2_with fail
  go_ret;exact⟨by rw[hv.out];rfl,rfl⟩
theorem tD(v:Value)(l:List (List UInt8))(s:List UInt8)(w:World)(h:NL w v (l.map aj)):Calls prog 153 #[v,.string (aj s)] w fun e w'=>e=.returned (.bool (decide (s∈l)))/\w'=w:=by
 have hi:=aa (AO v l s w h);obtain⟨a,c,rfl,bB,br⟩:=h.len;rw[List.length_map]at *
 clear h;by_cases hs:s∈l
 ·have hd:decide (s∈l)=true:=by simp[hs]
  rw[hd];have hv:Jm s l=((Lh s l:Nat):Int):=by simp[Jm,hs]
  obtain⟨q,hq⟩:∃q:Nat,Lh s l=q:=⟨_,rfl⟩
  rw[hv,hq]at hi;have h0:(0:Int)<=(q:Int):=by omega
  clear hv hq hd hs;go_enter func153,ntmps153;go_wp2_with(go_at_call 183;refine hi.out.mono ?_;rintro e w1 ⟨rfl,aT⟩;have aT:=aT.symm;subst aT)
  go_ret;exact⟨rfl,rfl⟩
 have hd:decide (s∈l)=false:=by simp[hs]
 rw[hd];have hv:Jm s l=-1:=by simp[Jm,hs]
 rw[hv]at hi;clear hv hd hs;go_enter func153,ntmps153;go_wp2_with(go_at_call 183;refine hi.out.mono ?_;rintro e w1 ⟨rfl,aT⟩;have aT:=aT.symm;subst aT)
 go_ret;exact⟨rfl,rfl⟩
def jB(ns:List (List UInt8))(t:Tk)(l:List Tk):Sum Int (List UInt8×List Tk):=if (t.w=1\/t.w=2)/\t.s∉ns then .inr (t.s,l) else .inl t.p
def NP(B:Nat)(w:World)(o:Sum Int (List UInt8×List Tk))(e:Ending)(w':World):Prop:=FB B w w'/\match o with
 | .inl p=>e=.panicked (pw p)
 | .inr x=>e=.returned (.string (aj x.1))/\TQ w' B x.2
theorem NL.nil(w:World):NL w (.slice none 0 0) []:=Or.inl ⟨rfl,rfl⟩
theorem NL.fb{w W:World}{B:Nat}{v:Value}{l:List ByteArray}(h:NL w v l)(hb:FB B w W)(hB:Hid (∀b o sp n c,v=.slice (some ⟨b,o,sp⟩) n c->b≠B)):NL W v l:=by
 rcases h with⟨rfl,rfl⟩|⟨b,o,c,sp,rfl,h1,h2,h3,hc⟩
 ·exact Or.inl ⟨rfl,rfl⟩
 refine Or.inr ⟨b,o,c,sp,rfl,h1,h2,fun h=>⟨(h3 h).1,Nat.lt_of_lt_of_le (h3 h).2 hb.size⟩,fun i hi=>?_⟩;have bm:=(h3 (by omega)).2;exact(World.cell?_of_block (w:=w) (hb.blk b bm (hB.out _ _ _ _ _ rfl))).trans (hc i hi)
def IX(B:Nat)(v:Value):Prop:=∀b o sp n c,v=.slice (some ⟨b,o,sp⟩) n c->b≠B
theorem DF(ns:List (List UInt8))(v:Value){w:World}{B:Nat}{t:Tk}{l:List Tk}(h:TQ w B (t::l))(hv:NL w v (ns.map aj))(hB:IX B v):Calls prog 117 #[lv B,v] w fun e w'=>NP B w (jB ns t l) e w':=by
 have H:=aa h;clear h;unfold lv;have ht:=aa (fun w' (hb:Below w.heap.size w w')=>iN (H.out.below hb));have hc:=aa (fun w' (hb:FB B w w')=>tD v ns t.s w' (NL.fb hv hb hB));obtain⟨a,c,rfl,_,_⟩:=hv.len;rw[List.length_map]at hc ⊢;unfold dO at ht;clear hv hB;by_cases hw:t.w=1\/t.w=2
 ·by_cases hm:t.s∈ns
  ·have e:jB ns t l=.inl t.p:=by simp[jB,hm]
   rw[e];have hd:decide (t.s∈ns)=true:=by simp[hm]
   rw[hd]at hc;clear e hd hm;rcases hw with hw|hw
   all_goals rw[hw]at ht
   all_goals go_enter func117,ntmps117
   all_goals go_wp2_with(first|(go_at_call 115;refine(ht.out _ (ab af)).mono ?_;rintro e w3 ⟨rfl,dC,ar⟩)|(go_at_call 153;refine(hc.out _ (((FB.of (ab af)).trans ar).then (ab af))).mono ?_;rintro e w4 ⟨rfl,Ls⟩;have Ls:=Ls.symm;subst Ls))
   all_goals exact⟨rfl,((FB.of (ab af)).trans ar).then (ab af),rfl⟩
  have e:jB ns t l=.inr (t.s,l):=by simp[jB,hm,hw]
  rw[e];have hd:decide (t.s∈ns)=false:=by simp[hm]
  rw[hd]at hc;clear e hd hm;rcases hw with hw|hw
  all_goals rw[hw]at ht
  all_goals go_enter func117,ntmps117
  all_goals go_wp2_with(first|(go_at_call 115;refine(ht.out _ (ab af)).mono ?_;rintro e w3 ⟨rfl,dC,ar⟩)|(go_at_call 153;refine(hc.out _ (((FB.of (ab af)).trans ar).then (ab af))).mono ?_;rintro e w4 ⟨rfl,Ls⟩;have Ls:=Ls.symm;subst Ls))
  all_goals go_ret
  all_goals exact⟨((FB.of (ab af)).trans ar).then (ab af),rfl,dC.below (ab af)⟩
 have e:jB ns t l=.inl t.p:=by simp[jB,hw]
 rw[e];have b1:(t.w==1)=false:=by simp;omega
 have b2:(t.w==2)=false:=by simp;omega
 have n1:(t.w != 1)=true:=by simp[bne,b1]
 have n2:(t.w != 2)=true:=by simp[bne,b2]
 clear e hw;go_enter func117,ntmps117;go_wp2_with(first|(go_at_call 115;refine(ht.out _ (ab af)).mono ?_;rintro e w3 ⟨rfl,dC,ar⟩))
 exact⟨rfl,((FB.of (ab af)).trans ar).then (ab af),rfl⟩
end Lx
