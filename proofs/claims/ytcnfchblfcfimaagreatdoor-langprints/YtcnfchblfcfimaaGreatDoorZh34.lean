import Derived.Test.YtcnfchblfcfimaaGreatDoorZh25
import Derived.Test.YtcnfchblfcfimaaGreatDoorZh33
import Derived.Test.YtcnfchblfcfimaaGreatDoorZh27
set_option linter.all false
set_option maxHeartbeats 4000000
set_option maxRecDepth 100000
namespace Go.Proofs.YtcnfchblfcfimaaGreatDoor
open Proofs.Tryz RowKit
structure Rn(n k m:Nat)(l:List Nat):Prop where
 len:l.length=k
 dgs:pi l
 le:k<=13
 eq:n=m*10^k+val l
theorem Rn.step{n k m:Nat}{l:List Nat}(h:Rn n k m l)(hn:n<10000000000000)(hk:k=0\/0<m):Rn n (k+1) (m/10) (m%10::l):=by
 refine⟨by simp[h.len],h.dgs.put (by omega),?_,?_⟩
 ·rcases hk with rfl|hm
  ·omega
  have h1:10^k<=m*10^k:=Nat.le_mul_of_pos_left _ hm;have h2:=h.eq;have h3:10^k<10^13:=by have:(10:Nat)^13=10000000000000:=rfl;omega
  have:=(Nat.pow_lt_pow_iff_right (by decide:1<10)).1 h3;omega
 have h2:=h.eq;show n=m/10*10^(k+1)+(m%10*10^l.length+val l)
 rw[h.len,Nat.pow_succ];have e3:(10*(m/10)+m%10)*10^k=m*10^k:=by rw[Nat.div_add_mod]
 rw[Nat.add_mul]at e3;have e4:m/10*(10^k*10)=10*(m/10)*10^k:=by rw[Nat.mul_comm (10^k),<-Nat.mul_assoc,Nat.mul_comm (m/10)]
 omega
theorem oj(l:List Nat):(cf l).toList.isEmpty=l.isEmpty:=by rw[dJ,iD];cases l<;>rfl
def lE:Value->Nat
 | .int _ n=>n.toNat
 |_=>0
def IA(l:List Nat):List UInt8:=l.map fun v=>UInt8.ofNat (v+48)
theorem kW(l:List Nat):cf l=aj (IA l):=by rw[<-dh (cf l),iD];rfl
structure yf(n k m:Nat)(l:List Nat):Prop where
 base:Rn n k m l
 dec:Lib.decDigits n=(if k=0\/0<m then Lib.decDigits m else [])++IA l
theorem yf.len{n k m:Nat}{l:List Nat}(h:yf n k m l):l.length=k:=h.base.len
theorem yf.le{n k m:Nat}{l:List Nat}(h:yf n k m l):k<=13:=h.base.le
theorem yf.start(n:Nat):yf n 0 n []:=⟨⟨rfl,fun x hx=>by simp at hx,by omega,by simp[val]⟩,by simp[IA]⟩
theorem yf.step{n k m:Nat}{l:List Nat}(h:yf n k m l)(hn:n<10000000000000)(hk:k=0\/0<m):yf n (k+1) (m/10) (m%10::l):=by
 refine⟨h.base.step hn hk,?_⟩;rw[h.dec,if_pos hk,Lib.decDigits];have e:IA (m%10::l)=UInt8.ofNat (48+m%10)::IA l:=by rw[Nat.add_comm];rfl
 rw[e]
 split
 ·rename_i q
  rw[if_neg (by omega),Nat.mod_eq_of_lt q];simp
 rename_i q;rw[if_pos (by omega)];simp
theorem wC(n:Nat)(w:World)(hn:n<10000000000000):Calls prog 170 #[.int .i64 n] w fun e w'=>e=.returned (.string (aj (Lib.decDigits n)))/\w'=w:=by
 go_enter func170,ntmps170;go_wp2;go_loop [0,4] (fun x s=>∃(k m:Nat) (l:List Nat),m<=n/\x=.int .i64 m/\s=.string (cf l)/\Hid (yf n k m l)) (fun x s=>lE x+(if oJ s=0 then 1 else 0))
 case atStart=>exact⟨0,n,[],Nat.le_refl _,rfl,rfl,yf.start n⟩
 case round=>
  obtain⟨k,m,l,hm,rfl,rfl,hI⟩:=hrel;have Ij:k<=13:=hI.out.le;have cC:(cf l).size=k:=by rw[dF];exact hI.out.len
  have oO:=oj l;by_cases AY:k=0\/0<m
  ·have cb:=aa (hI.out.step hn AY)
   obtain⟨r,hr⟩:∃r,m%10=r:=⟨_,rfl⟩
   have QW:r<=9:=by omega
   have t1:(m:Int).tdiv 10=((m/10:Nat):Int):=by rw[Int.tdiv_eq_ediv_of_nonneg (by omega)];omega
   have t2:(m:Int).tmod 10=(r:Int):=by rw[Int.tmod_eq_emod_of_nonneg (by omega)];omega
   have hp:=aa (ru r QW);rw[hr]at cb;have EB:=aa (show m/10<m+(if k=0 then 1 else 0)by
    rcases AY with rfl|h
    ·simp;omega
    split<;>omega)
   have Ml:=aa (show m/10<=n by omega);have rl:=aa (show(⟨#[48,49,50,51,52,53,54,55,56,57]⟩:ByteArray).extract r (r+1)++cf l=cf (r::l)by rw[hp.out,fN];rfl);have eA:Hid ((∃(k' m':Nat) (l':List Nat),m'<=n/\Value.int IntKind.i64 ((m:Int)/10)=.int .i64 m'/\Value.string ((⟨#[48,49,50,51,52,53,54,55,56,57]⟩:ByteArray).extract r (r+1)++cf l)=.string (cf l')/\Hid (yf n k' m' l')) /\
     (lE (Value.int IntKind.i64 ((m:Int)/10))+if oJ (Value.string ((⟨#[48,49,50,51,52,53,54,55,56,57]⟩:ByteArray).extract r (r+1)++cf l))=0 then 1 else 0)<lE (Value.int IntKind.i64 (m:Int))+if oJ (Value.string (cf l))=0 then 1 else 0):=by
    refine⟨⟨k+1,m/10,r::l,Ml.out,rfl,congrArg Value.string rl.out,cb.out⟩,?_⟩;rw[rl.out];have e1:oJ (Value.string (cf (r::l)))=k+1:=by show(cf _).size=_;rw[dF];simp[hI.out.len]
    have e2:oJ (Value.string (cf l))=k:=cC;have e3:lE (Value.int IntKind.i64 ((m:Int)/10))=m/10:=by show((m:Int)/10).toNat=_;omega
    have e4:lE (Value.int IntKind.i64 (m:Int))=m:=by show((m:Int)).toNat=_;omega
    rw[e1,e2,e3,e4,if_neg (by omega)];exact EB.out
   by_cases eM:k=0
   ·have Cb:l=[]:=by
     have:=hI.out.len;rw[eM]at this;exact List.length_eq_zero_iff.1 this
    subst Cb;simp only[List.isEmpty_nil]at oO;clear hr AY;go_wp2;exact eA.out
   have Jz:0<m:=by omega
   have SI:(0:Int)<m:=by omega
   have aQ:l.isEmpty=false:=by
    cases l with
    |nil=>have:=hI.out.len;simp at this;omega
    |cons=>rfl
   rw[aQ]at oO;clear hr AY aQ;go_wp2;exact eA.out
  have Jz:m=0:=by omega
  subst Jz;have aQ:l.isEmpty=false:=by
   cases l with
   |nil=>have:=hI.out.len;simp at this;omega
   |cons=>rfl
  rw[aQ]at oO;have gj:=aa (show cf l=aj (Lib.decDigits n)by rw[hI.out.dec,if_neg AY,kW];rfl);clear aQ AY;go_wp2;go_ret;refine⟨?_,rfl⟩;exact congrArg (fun s=>Ending.returned (Value.string s)) ((fN [] l).trans gj.out)
theorem wB(n:Nat)(w:World)(h0:0<n)(hn:n<10000000000000):Calls prog 170 #[.int .i64 (-(n:Int))] w fun e w'=>e=.returned (.string (aj (45::Lib.decDigits n)))/\w'=w:=by
 have Qs:(0:Int)<(n:Int):=by omega
 go_enter func170,ntmps170;go_wp2;go_loop [0,4] (fun x s=>∃(k m:Nat) (l:List Nat),m<=n/\x=.int .i64 m/\s=.string (cf l)/\Hid (yf n k m l)) (fun x s=>lE x+(if oJ s=0 then 1 else 0))
 case atStart=>exact⟨0,n,[],Nat.le_refl _,rfl,rfl,yf.start n⟩
 case round=>
  obtain⟨k,m,l,hm,rfl,rfl,hI⟩:=hrel;have Ij:k<=13:=hI.out.le;have cC:(cf l).size=k:=by rw[dF];exact hI.out.len
  have oO:=oj l;by_cases AY:k=0\/0<m
  ·have cb:=aa (hI.out.step hn AY)
   obtain⟨r,hr⟩:∃r,m%10=r:=⟨_,rfl⟩
   have QW:r<=9:=by omega
   have t1:(m:Int).tdiv 10=((m/10:Nat):Int):=by rw[Int.tdiv_eq_ediv_of_nonneg (by omega)];omega
   have t2:(m:Int).tmod 10=(r:Int):=by rw[Int.tmod_eq_emod_of_nonneg (by omega)];omega
   have hp:=aa (ru r QW);rw[hr]at cb;have EB:=aa (show m/10<m+(if k=0 then 1 else 0)by
    rcases AY with rfl|h
    ·simp;omega
    split<;>omega)
   have Ml:=aa (show m/10<=n by omega);have rl:=aa (show(⟨#[48,49,50,51,52,53,54,55,56,57]⟩:ByteArray).extract r (r+1)++cf l=cf (r::l)by rw[hp.out,fN];rfl);have eA:Hid ((∃(k' m':Nat) (l':List Nat),m'<=n/\Value.int IntKind.i64 ((m:Int)/10)=.int .i64 m'/\Value.string ((⟨#[48,49,50,51,52,53,54,55,56,57]⟩:ByteArray).extract r (r+1)++cf l)=.string (cf l')/\Hid (yf n k' m' l')) /\
     (lE (Value.int IntKind.i64 ((m:Int)/10))+if oJ (Value.string ((⟨#[48,49,50,51,52,53,54,55,56,57]⟩:ByteArray).extract r (r+1)++cf l))=0 then 1 else 0)<lE (Value.int IntKind.i64 (m:Int))+if oJ (Value.string (cf l))=0 then 1 else 0):=by
    refine⟨⟨k+1,m/10,r::l,Ml.out,rfl,congrArg Value.string rl.out,cb.out⟩,?_⟩;rw[rl.out];have e1:oJ (Value.string (cf (r::l)))=k+1:=by show(cf _).size=_;rw[dF];simp[hI.out.len]
    have e2:oJ (Value.string (cf l))=k:=cC;have e3:lE (Value.int IntKind.i64 ((m:Int)/10))=m/10:=by show((m:Int)/10).toNat=_;omega
    have e4:lE (Value.int IntKind.i64 (m:Int))=m:=by show((m:Int)).toNat=_;omega
    rw[e1,e2,e3,e4,if_neg (by omega)];exact EB.out
   by_cases eM:k=0
   ·have Cb:l=[]:=by
     have:=hI.out.len;rw[eM]at this;exact List.length_eq_zero_iff.1 this
    subst Cb;simp only[List.isEmpty_nil]at oO;clear hr AY;go_wp2;exact eA.out
   have Jz:0<m:=by omega
   have SI:(0:Int)<m:=by omega
   have aQ:l.isEmpty=false:=by
    cases l with
    |nil=>have:=hI.out.len;simp at this;omega
    |cons=>rfl
   rw[aQ]at oO;clear hr AY aQ;go_wp2;exact eA.out
  have Jz:m=0:=by omega
  subst Jz;have aQ:l.isEmpty=false:=by
   cases l with
   |nil=>have:=hI.out.len;simp at this;omega
   |cons=>rfl
  rw[aQ]at oO;have gj:=aa (show cf l=aj (Lib.decDigits n)by rw[hI.out.dec,if_neg AY,kW];rfl);clear aQ AY;go_wp2;go_ret;refine⟨?_,rfl⟩;refine congrArg (fun s=>Ending.returned (Value.string s)) ?_;rw[gj.out];exact ss [45] _
theorem dy(n:Int)(w:World)(h0:-10000<=n)(h1:n<=10000):Calls prog 170 #[.int .i64 n] w fun e w'=>e=.returned (.string (aj (Lib.itoa n)))/\w'=w:=by
 by_cases h:n<0
 ·obtain⟨u,rfl⟩:∃u:Nat,n=-(u:Int):=⟨n.natAbs,by omega⟩
  rw[Lib.itoa_neg u (by omega)];exact wB u w (by omega) (by omega)
 obtain⟨u,rfl⟩:∃u:Nat,n=u:=⟨n.toNat,by omega⟩
 rw[Lib.itoa_nonneg u];exact wC u w (by omega)
namespace Lx
def mk(s:List UInt8):Tk:=⟨4,s,0⟩
def wd(s:List UInt8):Tk:=⟨1,s,0⟩
def de(s:List UInt8):Tk:=if (kS [wd s]).1=0 then wd s else ⟨2,s,0⟩
def tW(h:Hd):Tk:=if h.kind=5 then ⟨2,bl h.text,0⟩ else if h.kind=3 then ⟨3,fF h.neg (bl h.dig) h.exp,0⟩ else if h.kind=1 then wd [110,117,108,108] else if h.flag=true then wd [116,114,117,101] else wd [102,97,108,115,101]
def aU(c:Tk):List (List Tk)->List Tk
 | []=>[]
 | [a]=>a
 |a::b::r=>a++c::aU c (b::r)
theorem ul(c:Tk):∀(l:List (List Tk)) (a:List Tk),aU c (l++[a])=(if l=[] then a else aU c l++c::a)
 | [],a=>rfl
 | [b],a=>by simp[aU]
 |b::d::l,a=>by have:=ul c (d::l) a;rw[if_neg (by simp)]at this ⊢;simp only[List.cons_append]at this ⊢;simp only[aU];rw[this];simp
def fM(o:List UInt8)(l:List Tk)(s:List UInt8):List Tk:=mk o::(l++[mk s])
def mY(m:List UInt8)(ns:List ByteArray)(ks:List (List Tk)):List (List Tk):=(ns.zip ks).map fun x=>de (bl x.1)::mk m::x.2
def io(m:List UInt8)(ns:List ByteArray)(ks:List (List Tk)):List Tk:=fM [123] (aU (mk [44]) (mY m ns ks)) [125]
def wO(op:Int):List UInt8:=if op=1 then [105,100] else if op=8 then [116,111,116,101,120,116] else if op=9 then [116,111,110,117,109] else if op=10 then [115,117,109] else if op=11 then [99,111,117,110,116] else []
def bp:(n:Nat)->ET n->List Tk
 |0,_=>[]
 |n+1,x=>
  if x.1.op=2 then [mk [46],de (bl x.1.name)]
  else if x.1.op=5 then [wd [116,97,103],de (bl x.1.name)]
  else if x.1.op=7 then [wd [99,111,110,115,116],tW (aI x.1.vn x.1.val)]
  else if x.1.op=4 then fM [91] ((x.2.map (bp n)).headD []) [93]
  else if x.1.op=3 then io [61] x.1.names (x.2.map (bp n))
  else if x.1.op=6 then wd [99,97,115,101]::io [61] x.1.names (x.2.map (bp n))
  else if x.1.op=12 then aU (mk [59]) (x.2.map fun y=>if (ehd n y).op=12 then fM [40] (bp n y) [41] else bp n y)
  else [wd (wO x.1.op)]
def FY(k:Int):List UInt8:=if k=1 then [97,110,121] else if k=2 then [110,117,108,108] else if k=3 then [98,111,111,108] else if k=4 then [110,117,109] else if k=5 then [105,110,116] else if k=6 then [102,108,111,97,116] else if k=7 then [116,101,120,116] else if k=8 then [98,121,116,101,115] else []
def eh:(n:Nat)->TT n->List Tk
 |0,_=>[]
 |n+1,x=>
  if x.1.kind=9 then wd [108,105,115,116]::fM [40] ((x.2.map (eh n)).headD []) [41]
  else if x.1.kind=10 then wd [114,101,99,111,114,100]::io [58] x.1.names (x.2.map (eh n))
  else if x.1.kind=11 then wd [117,110,105,111,110]::io [58] x.1.names (x.2.map (eh n))
  else [wd (FY x.1.kind)]
end Lx
theorem aF(a b c:ByteArray)(hc:bl a++bl b=bl c)(h:c.size<=100000):∀w,(Op.stringOp .add a b).run prog w=.ok (.string c) w:=fun w=>by
 have e:a++b=c:=by rw[<-dh a,<-dh b,ss,hc,dh]
 have hs:a.size+b.size=c.size:=by rw[<-bl_length,<-bl_length,<-bl_length,<-hc,List.length_append]
 rw[<-e];exact run_string_add_sum w _ _ (by omega)
theorem Nd(n:Bool)(s:ByteArray)(x:Int)(w:World)(hs:s.size<=100000)(h:eI n s x=false):Calls prog 142 #[.agg #[.bool n,.string s,.int .i64 x]] w fun e w'=>e=.returned (.tuple #[.string ⟨#[]⟩,.int .i64 10])/\Below w.heap.size w w':=by
 have ml:maxLen=2^63-1:=rfl;have hB:=aa (aV w n s x);go_enter func142,ntmps142;go_wp2_with fail
 refine(bQ n s _ _ (by omega)).mono ?_;rw[h];rintro e w1 ⟨rfl,ai⟩;have hb:=aa (ay ai);clear ai hB;go_wp2;go_ret2;exact⟨rfl,hb.out⟩
theorem lR(s:ByteArray)(k:Nat)(hx21:s.size+k<=21)(w:World)(h:eI false s (k:Int)=true):Calls prog 142 #[.agg #[.bool false,.string s,.int .i64 (k:Int)]] w fun e w'=>e=.returned (.tuple #[.string (aj ([]++(bl s++List.replicate k 48))),.int .i64 0])/\Below w.heap.size w w':=by
 have ml:maxLen=2^63-1:=rfl;obtain⟨eV,aJ,ie,dx,gT,eU⟩:=bL h;clear eV eU;have hB:=aa (aV w false s (k:Int));obtain⟨R,hR⟩:∃R,aj ([]++(bl s++List.replicate k 48))=R:=⟨_,rfl⟩
 rw[hR];have jL:decide ((s.size:Int)+(k:Int)<=21)=true:=decide_eq_true (by omega);obtain⟨A1,dR⟩:∃A1,aj ([]++bl s)=A1:=⟨_,rfl⟩
 have bB:=aF ⟨#[]⟩ s A1 (by rw[<-dR,ah];rfl) (by rw[<-dR,ag,List.length_append,bl_length];simp;omega);have br:=aF A1 (cf (List.replicate k 0)) R (by rw[<-dR,<-hR,ah,ah,kW,ah,IA,List.map_replicate,List.append_assoc];rfl) (by rw[<-hR,ag];simp[bl_length];omega);clear dR;clear hR;go_enter func142,ntmps142;go_wp2_with fail
 refine(bQ false s _ _ (by omega)).mono ?_;rw[h];rintro e w1 ⟨rfl,ai⟩;have bO:=aa (hB.out.below ai (by simp));have iI:=bO.out.lt;obtain⟨c0,c1,c2,f0,f1,f2⟩:=bO.out.cells;have hb:=aa (ay ai);clear ai hB;go_wp2_with fail
 go_fit(kP k _ (by omega));rintro e w2 ⟨rfl,rfl⟩;go_wp2;go_ret2;exact⟨rfl,hb.out⟩
theorem oG(s:ByteArray)(bh j:Nat)(hj:s.size=bh+j)(h0:0<bh)(Nr:0<j)(hx21:bh<=21)(w:World)(h:eI false s (-(bh:Int))=true):Calls prog 142 #[.agg #[.bool false,.string s,.int .i64 (-(bh:Int))]] w fun e w'=>e=.returned (.tuple #[.string (aj ([]++((bl s).take j++46::(bl s).drop j))),.int .i64 0])/\Below w.heap.size w w':=by
 have ml:maxLen=2^63-1:=rfl;obtain⟨eV,aJ,ie,dx,gT,eU⟩:=bL h;clear eV eU;have hB:=aa (aV w false s (-(bh:Int)));obtain⟨R,hR⟩:∃R,aj ([]++((bl s).take j++46::(bl s).drop j))=R:=⟨_,rfl⟩
 rw[hR];have lZ:decide ((0:Int)<=-(bh:Int))=false:=decide_eq_false (by omega);have Pn:=aa hj;have tT:(- -(bh:Int))=(bh:Int):=by omega
 have jL:decide ((bh:Int)<=21)=true:=decide_eq_true (by omega);have ii:decide ((s.size:Int)<=(bh:Int))=false:=decide_eq_false (by omega);have Nq:(s.size:Int) + -(bh:Int)=(j:Int):=by omega
 have xA:(j:Int)<=(s.size:Int):=by omega
 obtain⟨A1,dR⟩:∃A1,aj ([]++(bl s).take j)=A1:=⟨_,rfl⟩
 obtain⟨A2,et⟩:∃A2,aj ([]++(bl s).take j++[46])=A2:=⟨_,rfl⟩
 have bB:=aF ⟨#[]⟩ (s.extract 0 j) A1 (by rw[<-dR,ah,aH,ah];simp;rfl) (by rw[<-dR,ag];simp[bl_length];omega);have br:=aF A1 ⟨#[46]⟩ A2 (by rw[<-dR,<-et,ah,ah];rfl) (by rw[<-et,ag];simp[bl_length];omega);have Bc:=aF A2 (s.extract j s.size) R (by rw[<-et,<-hR,ah,ah,bd,ah];simp) (by rw[<-hR,ag];simp[bl_length];omega);clear dR et;clear hj;clear hR;go_enter func142,ntmps142;go_wp2_with fail
 refine(bQ false s _ _ (by omega)).mono ?_;rw[h];rintro e w1 ⟨rfl,ai⟩;have bO:=aa (hB.out.below ai (by simp));have iI:=bO.out.lt;obtain⟨c0,c1,c2,f0,f1,f2⟩:=bO.out.cells;have hb:=aa (ay ai);clear ai hB;have Em:IntKind.i64.wrap ((s.size:Int) + -(bh:Int))=(j:Int):=by rw[IntKind.wrap_i64];have:=Pn.out;omega
 have hj0i:(0:Int)<=(j:Int):=by omega
 go_wp2
 all_goals
  go_region
  all_goals
   go_wp2;go_ret2;exact⟨rfl,hb.out.drew⟩
theorem oF(s:ByteArray)(bh y:Nat)(hy:bh=s.size+y)(h0:0<bh)(hx21:bh<=21)(w:World)(h:eI false s (-(bh:Int))=true):Calls prog 142 #[.agg #[.bool false,.string s,.int .i64 (-(bh:Int))]] w fun e w'=>e=.returned (.tuple #[.string (aj ([]++(48::46::(List.replicate y 48++bl s)))),.int .i64 0])/\Below w.heap.size w w':=by
 have ml:maxLen=2^63-1:=rfl;obtain⟨eV,aJ,ie,dx,gT,eU⟩:=bL h;clear eV eU;have hB:=aa (aV w false s (-(bh:Int)));obtain⟨R,hR⟩:∃R,aj ([]++(48::46::(List.replicate y 48++bl s)))=R:=⟨_,rfl⟩
 rw[hR];have lZ:decide ((0:Int)<=-(bh:Int))=false:=decide_eq_false (by omega);have Pn:=aa hy;have tT:(- -(bh:Int))=(bh:Int):=by omega
 have jL:decide ((bh:Int)<=21)=true:=decide_eq_true (by omega);have ii:decide ((s.size:Int)<=(bh:Int))=true:=decide_eq_true (by omega);have Rf:(s.size:Int)<=(bh:Int):=by omega
 obtain⟨z,hz⟩:∃z:Nat,y+1=z:=⟨_,rfl⟩
 have RR:(1:Int)+(bh:Int)-(s.size:Int)=(z:Int):=by omega
 have hz100:z<=100:=by omega
 obtain⟨D,hD⟩:∃D,aj (List.replicate (y+1) 48++bl s)=D:=⟨_,rfl⟩
 have Mv:=aa (show D.size=bh+1 by rw[<-hD,ag,List.length_append,List.length_replicate,bl_length];omega);have Gj:(D.size:Int) + -(bh:Int)=1:=by rw[Mv.out];omega
 have Em:IntKind.i64.wrap ((D.size:Int) + -(bh:Int))=1:=by rw[Gj];rfl
 have h1D:(1:Int)<=(D.size:Int):=by rw[Mv.out];omega
 have iY:=aF (cf (List.replicate z 0)) s D (by rw[<-hD,<-hz,ah,kW,ah,IA,List.map_replicate];rfl) (by rw[Mv.out];omega);obtain⟨A1,dR⟩:∃A1,aj ([]++[48])=A1:=⟨_,rfl⟩
 obtain⟨A2,et⟩:∃A2,aj ([]++[48,46])=A2:=⟨_,rfl⟩
 have bB:=aF ⟨#[]⟩ (D.extract 0 1) A1 (by rw[<-dR,ah,aH,ah,<-hD,ah,List.replicate_succ];rfl) (by rw[<-dR,ag];simp);have br:=aF A1 ⟨#[46]⟩ A2 (by rw[<-dR,<-et,ah,ah];rfl) (by rw[<-et,ag];simp);have Bc:=aF A2 (D.extract 1 D.size) R (by rw[<-et,<-hR,ah,ah,bd,ah,<-hD,ah,List.replicate_succ];rfl) (by rw[<-hR,ag];simp[bl_length];omega);clear dR et hD hy hz;clear hR;go_enter func142,ntmps142;go_wp2_with fail
 refine(bQ false s _ _ (by omega)).mono ?_;rw[h];rintro e w1 ⟨rfl,ai⟩;have bO:=aa (hB.out.below ai (by simp));have iI:=bO.out.lt;obtain⟨c0,c1,c2,f0,f1,f2⟩:=bO.out.cells;have hb:=aa (ay ai);clear ai hB;go_wp2_with fail
 go_fit(kP z _ (by omega));rintro e w2 ⟨rfl,rfl⟩;go_wp2
 all_goals
  go_region
  all_goals
   go_wp2;go_ret2;exact⟨rfl,hb.out.drew⟩
theorem nK(s:ByteArray)(x:Int)(ll:1<s.size)(iW:0<=x)(hx21:21<(s.size:Int)+x)(w:World)(h:eI false s x=true):Calls prog 142 #[.agg #[.bool false,.string s,.int .i64 x]] w fun e w'=>e=.returned (.tuple #[.string (aj ([]++((bl s).take 1++46::(bl s).drop 1++101::Lib.itoa (x+s.size-1)))),.int .i64 0])/\Below w.heap.size w w':=by
 have ml:maxLen=2^63-1:=rfl;obtain⟨eV,aJ,ie,dx,gT,eU⟩:=bL h;clear eV eU;have hB:=aa (aV w false s x);obtain⟨R,hR⟩:∃R,aj ([]++((bl s).take 1++46::(bl s).drop 1++101::Lib.itoa (x+s.size-1)))=R:=⟨_,rfl⟩
 rw[hR];have lZ:decide ((0:Int)<=x)=true:=decide_eq_true iW;have jL:decide ((s.size:Int)+x<=21)=false:=decide_eq_false (by omega);have ii:decide (x<0)=false:=decide_eq_false (by omega);have Il:=Lib.itoa_length_le (x+s.size-1) (by omega) (by omega);have My:(1:Int)<=(s.size:Int):=by omega
 have e1:(bl s).length=s.size:=bl_length s;have hs1i:(1:Int)<(s.size:Int):=by omega
 obtain⟨H1,tg⟩:∃H1,aj ((bl s).take 1++[46])=H1:=⟨_,rfl⟩
 obtain⟨H2,sZ⟩:∃H2,aj ((bl s).take 1++46::(bl s).drop 1)=H2:=⟨_,rfl⟩
 obtain⟨A1,dR⟩:∃A1,aj ([]++((bl s).take 1++46::(bl s).drop 1))=A1:=⟨_,rfl⟩
 obtain⟨A2,et⟩:∃A2,aj ([]++((bl s).take 1++46::(bl s).drop 1)++[101])=A2:=⟨_,rfl⟩
 have bB:=aF (s.extract 0 1) ⟨#[46]⟩ H1 (by rw[<-tg,ah,aH,ah];rfl) (by rw[<-tg,ag];simp;omega);have br:=aF H1 (s.extract 1 s.size) H2 (by rw[<-tg,<-sZ,ah,ah,bd,ah];simp) (by rw[<-sZ,ag];simp[e1];omega);have Bc:=aF ⟨#[]⟩ H2 A1 (by rw[<-sZ,<-dR,ah,ah];rfl) (by rw[<-dR,ag];simp[e1];omega);have Io:=aF A1 ⟨#[101]⟩ A2 (by rw[<-dR,<-et,ah,ah];rfl) (by rw[<-et,ag];simp[e1];omega);have Mm:=aF A2 (aj (Lib.itoa (x+s.size-1))) R (by rw[<-et,<-hR,ah,ah,ah];simp) (by rw[<-hR,ag];simp[e1];omega);clear tg sZ dR et e1;clear hR;go_enter func142,ntmps142;go_wp2_with fail
 refine(bQ false s _ _ (by omega)).mono ?_;rw[h];rintro e w1 ⟨rfl,ai⟩;have bO:=aa (hB.out.below ai (by simp));have iI:=bO.out.lt;obtain⟨c0,c1,c2,f0,f1,f2⟩:=bO.out.cells;have hb:=aa (ay ai);clear ai hB;go_wp2_with fail
 go_fit(dy (x+s.size-1) _ (by omega) (by omega));rintro e w2 ⟨rfl,rfl⟩;go_wp2;go_ret2;exact⟨rfl,hb.out⟩
theorem nJ(s:ByteArray)(x:Int)(ll:s.size=1)(iW:0<=x)(hx21:21<(s.size:Int)+x)(w:World)(h:eI false s x=true):Calls prog 142 #[.agg #[.bool false,.string s,.int .i64 x]] w fun e w'=>e=.returned (.tuple #[.string (aj ([]++((bl s).take 1++101::Lib.itoa (x+s.size-1)))),.int .i64 0])/\Below w.heap.size w w':=by
 have ml:maxLen=2^63-1:=rfl;obtain⟨eV,aJ,ie,dx,gT,eU⟩:=bL h;clear eV eU;have hB:=aa (aV w false s x);obtain⟨R,hR⟩:∃R,aj ([]++((bl s).take 1++101::Lib.itoa (x+s.size-1)))=R:=⟨_,rfl⟩
 rw[hR];have lZ:decide ((0:Int)<=x)=true:=decide_eq_true iW;have jL:decide ((s.size:Int)+x<=21)=false:=decide_eq_false (by omega);have ii:decide (x<0)=false:=decide_eq_false (by omega);have Il:=Lib.itoa_length_le (x+s.size-1) (by omega) (by omega);have My:(1:Int)<=(s.size:Int):=by omega
 have e1:(bl s).length=s.size:=bl_length s;obtain⟨A1,dR⟩:∃A1,aj ([]++(bl s).take 1)=A1:=⟨_,rfl⟩
 obtain⟨A2,et⟩:∃A2,aj ([]++(bl s).take 1++[101])=A2:=⟨_,rfl⟩
 have Bc:=aF ⟨#[]⟩ (s.extract 0 1) A1 (by rw[<-dR,aH,ah,ah];rfl) (by rw[<-dR,ag];simp[e1];omega);have Io:=aF A1 ⟨#[101]⟩ A2 (by rw[<-dR,<-et,ah,ah];rfl) (by rw[<-et,ag];simp[e1];omega);have Mm:=aF A2 (aj (Lib.itoa (x+s.size-1))) R (by rw[<-et,<-hR,ah,ah,ah];simp) (by rw[<-hR,ag];simp[e1];omega);have vM:¬(1:Int)<(s.size:Int):=by omega
 clear dR et e1 ll;clear hR;go_enter func142,ntmps142;go_wp2_with fail
 refine(bQ false s _ _ (by omega)).mono ?_;rw[h];rintro e w1 ⟨rfl,ai⟩;have bO:=aa (hB.out.below ai (by simp));have iI:=bO.out.lt;obtain⟨c0,c1,c2,f0,f1,f2⟩:=bO.out.cells;have hb:=aa (ay ai);clear ai hB;go_wp2_with fail
 go_fit(dy (x+s.size-1) _ (by omega) (by omega));rintro e w2 ⟨rfl,rfl⟩;go_wp2;go_ret2;exact⟨rfl,hb.out⟩
theorem lT(s:ByteArray)(x:Int)(ll:1<s.size)(iW:x<0)(hx21:x < -21)(w:World)(h:eI false s x=true):Calls prog 142 #[.agg #[.bool false,.string s,.int .i64 x]] w fun e w'=>e=.returned (.tuple #[.string (aj ([]++((bl s).take 1++46::(bl s).drop 1++101::Lib.itoa (x+s.size-1)))),.int .i64 0])/\Below w.heap.size w w':=by
 have ml:maxLen=2^63-1:=rfl;obtain⟨eV,aJ,ie,dx,gT,eU⟩:=bL h;clear eV eU;have hB:=aa (aV w false s x);obtain⟨R,hR⟩:∃R,aj ([]++((bl s).take 1++46::(bl s).drop 1++101::Lib.itoa (x+s.size-1)))=R:=⟨_,rfl⟩
 rw[hR];have lZ:decide ((0:Int)<=x)=false:=decide_eq_false (by omega);have jL:decide (x<0)=true:=decide_eq_true iW;have ii:decide (-x<=21)=false:=decide_eq_false (by omega);have Il:=Lib.itoa_length_le (x+s.size-1) (by omega) (by omega);have My:(1:Int)<=(s.size:Int):=by omega
 have e1:(bl s).length=s.size:=bl_length s;have hs1i:(1:Int)<(s.size:Int):=by omega
 obtain⟨H1,tg⟩:∃H1,aj ((bl s).take 1++[46])=H1:=⟨_,rfl⟩
 obtain⟨H2,sZ⟩:∃H2,aj ((bl s).take 1++46::(bl s).drop 1)=H2:=⟨_,rfl⟩
 obtain⟨A1,dR⟩:∃A1,aj ([]++((bl s).take 1++46::(bl s).drop 1))=A1:=⟨_,rfl⟩
 obtain⟨A2,et⟩:∃A2,aj ([]++((bl s).take 1++46::(bl s).drop 1)++[101])=A2:=⟨_,rfl⟩
 have bB:=aF (s.extract 0 1) ⟨#[46]⟩ H1 (by rw[<-tg,ah,aH,ah];rfl) (by rw[<-tg,ag];simp;omega);have br:=aF H1 (s.extract 1 s.size) H2 (by rw[<-tg,<-sZ,ah,ah,bd,ah];simp) (by rw[<-sZ,ag];simp[e1];omega);have Bc:=aF ⟨#[]⟩ H2 A1 (by rw[<-sZ,<-dR,ah,ah];rfl) (by rw[<-dR,ag];simp[e1];omega);have Io:=aF A1 ⟨#[101]⟩ A2 (by rw[<-dR,<-et,ah,ah];rfl) (by rw[<-et,ag];simp[e1];omega);have Mm:=aF A2 (aj (Lib.itoa (x+s.size-1))) R (by rw[<-et,<-hR,ah,ah,ah];simp) (by rw[<-hR,ag];simp[e1];omega);clear tg sZ dR et e1;clear hR;go_enter func142,ntmps142;go_wp2_with fail
 refine(bQ false s _ _ (by omega)).mono ?_;rw[h];rintro e w1 ⟨rfl,ai⟩;have bO:=aa (hB.out.below ai (by simp));have iI:=bO.out.lt;obtain⟨c0,c1,c2,f0,f1,f2⟩:=bO.out.cells;have hb:=aa (ay ai);clear ai hB;go_wp2_with fail
 go_fit(dy (x+s.size-1) _ (by omega) (by omega));rintro e w2 ⟨rfl,rfl⟩;go_wp2;go_ret2;exact⟨rfl,hb.out⟩
theorem lS(s:ByteArray)(x:Int)(ll:s.size=1)(iW:x<0)(hx21:x < -21)(w:World)(h:eI false s x=true):Calls prog 142 #[.agg #[.bool false,.string s,.int .i64 x]] w fun e w'=>e=.returned (.tuple #[.string (aj ([]++((bl s).take 1++101::Lib.itoa (x+s.size-1)))),.int .i64 0])/\Below w.heap.size w w':=by
 have ml:maxLen=2^63-1:=rfl;obtain⟨eV,aJ,ie,dx,gT,eU⟩:=bL h;clear eV eU;have hB:=aa (aV w false s x);obtain⟨R,hR⟩:∃R,aj ([]++((bl s).take 1++101::Lib.itoa (x+s.size-1)))=R:=⟨_,rfl⟩
 rw[hR];have lZ:decide ((0:Int)<=x)=false:=decide_eq_false (by omega);have jL:decide (x<0)=true:=decide_eq_true iW;have ii:decide (-x<=21)=false:=decide_eq_false (by omega);have Il:=Lib.itoa_length_le (x+s.size-1) (by omega) (by omega);have My:(1:Int)<=(s.size:Int):=by omega
 have e1:(bl s).length=s.size:=bl_length s;obtain⟨A1,dR⟩:∃A1,aj ([]++(bl s).take 1)=A1:=⟨_,rfl⟩
 obtain⟨A2,et⟩:∃A2,aj ([]++(bl s).take 1++[101])=A2:=⟨_,rfl⟩
 have Bc:=aF ⟨#[]⟩ (s.extract 0 1) A1 (by rw[<-dR,aH,ah,ah];rfl) (by rw[<-dR,ag];simp[e1];omega);have Io:=aF A1 ⟨#[101]⟩ A2 (by rw[<-dR,<-et,ah,ah];rfl) (by rw[<-et,ag];simp[e1];omega);have Mm:=aF A2 (aj (Lib.itoa (x+s.size-1))) R (by rw[<-et,<-hR,ah,ah,ah];simp) (by rw[<-hR,ag];simp[e1];omega);have vM:¬(1:Int)<(s.size:Int):=by omega
 clear dR et e1 ll;clear hR;go_enter func142,ntmps142;go_wp2_with fail
 refine(bQ false s _ _ (by omega)).mono ?_;rw[h];rintro e w1 ⟨rfl,ai⟩;have bO:=aa (hB.out.below ai (by simp));have iI:=bO.out.lt;obtain⟨c0,c1,c2,f0,f1,f2⟩:=bO.out.cells;have hb:=aa (ay ai);clear ai hB;go_wp2_with fail
 go_fit(dy (x+s.size-1) _ (by omega) (by omega));rintro e w2 ⟨rfl,rfl⟩;go_wp2;go_ret2;exact⟨rfl,hb.out⟩
theorem mM(s:ByteArray)(k:Nat)(hx21:s.size+k<=21)(w:World)(h:eI true s (k:Int)=true):Calls prog 142 #[.agg #[.bool true,.string s,.int .i64 (k:Int)]] w fun e w'=>e=.returned (.tuple #[.string (aj ([45]++(bl s++List.replicate k 48))),.int .i64 0])/\Below w.heap.size w w':=by
 have ml:maxLen=2^63-1:=rfl;obtain⟨eV,aJ,ie,dx,gT,eU⟩:=bL h;clear eV eU;have hB:=aa (aV w true s (k:Int));obtain⟨R,hR⟩:∃R,aj ([45]++(bl s++List.replicate k 48))=R:=⟨_,rfl⟩
 rw[hR];have jL:decide ((s.size:Int)+(k:Int)<=21)=true:=decide_eq_true (by omega);obtain⟨A1,dR⟩:∃A1,aj ([45]++bl s)=A1:=⟨_,rfl⟩
 have bB:=aF ⟨#[45]⟩ s A1 (by rw[<-dR,ah];rfl) (by rw[<-dR,ag,List.length_append,bl_length];simp;omega);have br:=aF A1 (cf (List.replicate k 0)) R (by rw[<-dR,<-hR,ah,ah,kW,ah,IA,List.map_replicate,List.append_assoc];rfl) (by rw[<-hR,ag];simp[bl_length];omega);clear dR;clear hR;go_enter func142,ntmps142;go_wp2_with fail
 refine(bQ true s _ _ (by omega)).mono ?_;rw[h];rintro e w1 ⟨rfl,ai⟩;have bO:=aa (hB.out.below ai (by simp));have iI:=bO.out.lt;obtain⟨c0,c1,c2,f0,f1,f2⟩:=bO.out.cells;have hb:=aa (ay ai);clear ai hB;go_wp2_with fail
 go_fit(kP k _ (by omega));rintro e w2 ⟨rfl,rfl⟩;go_wp2;go_ret2;exact⟨rfl,hb.out⟩
theorem pC(s:ByteArray)(bh j:Nat)(hj:s.size=bh+j)(h0:0<bh)(Nr:0<j)(hx21:bh<=21)(w:World)(h:eI true s (-(bh:Int))=true):Calls prog 142 #[.agg #[.bool true,.string s,.int .i64 (-(bh:Int))]] w fun e w'=>e=.returned (.tuple #[.string (aj ([45]++((bl s).take j++46::(bl s).drop j))),.int .i64 0])/\Below w.heap.size w w':=by
 have ml:maxLen=2^63-1:=rfl;obtain⟨eV,aJ,ie,dx,gT,eU⟩:=bL h;clear eV eU;have hB:=aa (aV w true s (-(bh:Int)));obtain⟨R,hR⟩:∃R,aj ([45]++((bl s).take j++46::(bl s).drop j))=R:=⟨_,rfl⟩
 rw[hR];have lZ:decide ((0:Int)<=-(bh:Int))=false:=decide_eq_false (by omega);have Pn:=aa hj;have tT:(- -(bh:Int))=(bh:Int):=by omega
 have jL:decide ((bh:Int)<=21)=true:=decide_eq_true (by omega);have ii:decide ((s.size:Int)<=(bh:Int))=false:=decide_eq_false (by omega);have Nq:(s.size:Int) + -(bh:Int)=(j:Int):=by omega
 have xA:(j:Int)<=(s.size:Int):=by omega
 obtain⟨A1,dR⟩:∃A1,aj ([45]++(bl s).take j)=A1:=⟨_,rfl⟩
 obtain⟨A2,et⟩:∃A2,aj ([45]++(bl s).take j++[46])=A2:=⟨_,rfl⟩
 have bB:=aF ⟨#[45]⟩ (s.extract 0 j) A1 (by rw[<-dR,ah,aH,ah];simp;rfl) (by rw[<-dR,ag];simp[bl_length];omega);have br:=aF A1 ⟨#[46]⟩ A2 (by rw[<-dR,<-et,ah,ah];rfl) (by rw[<-et,ag];simp[bl_length];omega);have Bc:=aF A2 (s.extract j s.size) R (by rw[<-et,<-hR,ah,ah,bd,ah];simp) (by rw[<-hR,ag];simp[bl_length];omega);clear dR et;clear hj;clear hR;go_enter func142,ntmps142;go_wp2_with fail
 refine(bQ true s _ _ (by omega)).mono ?_;rw[h];rintro e w1 ⟨rfl,ai⟩;have bO:=aa (hB.out.below ai (by simp));have iI:=bO.out.lt;obtain⟨c0,c1,c2,f0,f1,f2⟩:=bO.out.cells;have hb:=aa (ay ai);clear ai hB;have Em:IntKind.i64.wrap ((s.size:Int) + -(bh:Int))=(j:Int):=by rw[IntKind.wrap_i64];have:=Pn.out;omega
 have hj0i:(0:Int)<=(j:Int):=by omega
 go_wp2
 all_goals
  go_region
  all_goals
   go_wp2;go_ret2;exact⟨rfl,hb.out.drew⟩
theorem pB(s:ByteArray)(bh y:Nat)(hy:bh=s.size+y)(h0:0<bh)(hx21:bh<=21)(w:World)(h:eI true s (-(bh:Int))=true):Calls prog 142 #[.agg #[.bool true,.string s,.int .i64 (-(bh:Int))]] w fun e w'=>e=.returned (.tuple #[.string (aj ([45]++(48::46::(List.replicate y 48++bl s)))),.int .i64 0])/\Below w.heap.size w w':=by
 have ml:maxLen=2^63-1:=rfl;obtain⟨eV,aJ,ie,dx,gT,eU⟩:=bL h;clear eV eU;have hB:=aa (aV w true s (-(bh:Int)));obtain⟨R,hR⟩:∃R,aj ([45]++(48::46::(List.replicate y 48++bl s)))=R:=⟨_,rfl⟩
 rw[hR];have lZ:decide ((0:Int)<=-(bh:Int))=false:=decide_eq_false (by omega);have Pn:=aa hy;have tT:(- -(bh:Int))=(bh:Int):=by omega
 have jL:decide ((bh:Int)<=21)=true:=decide_eq_true (by omega);have ii:decide ((s.size:Int)<=(bh:Int))=true:=decide_eq_true (by omega);have Rf:(s.size:Int)<=(bh:Int):=by omega
 obtain⟨z,hz⟩:∃z:Nat,y+1=z:=⟨_,rfl⟩
 have RR:(1:Int)+(bh:Int)-(s.size:Int)=(z:Int):=by omega
 have hz100:z<=100:=by omega
 obtain⟨D,hD⟩:∃D,aj (List.replicate (y+1) 48++bl s)=D:=⟨_,rfl⟩
 have Mv:=aa (show D.size=bh+1 by rw[<-hD,ag,List.length_append,List.length_replicate,bl_length];omega);have Gj:(D.size:Int) + -(bh:Int)=1:=by rw[Mv.out];omega
 have Em:IntKind.i64.wrap ((D.size:Int) + -(bh:Int))=1:=by rw[Gj];rfl
 have h1D:(1:Int)<=(D.size:Int):=by rw[Mv.out];omega
 have iY:=aF (cf (List.replicate z 0)) s D (by rw[<-hD,<-hz,ah,kW,ah,IA,List.map_replicate];rfl) (by rw[Mv.out];omega);obtain⟨A1,dR⟩:∃A1,aj ([45]++[48])=A1:=⟨_,rfl⟩
 obtain⟨A2,et⟩:∃A2,aj ([45]++[48,46])=A2:=⟨_,rfl⟩
 have bB:=aF ⟨#[45]⟩ (D.extract 0 1) A1 (by rw[<-dR,ah,aH,ah,<-hD,ah,List.replicate_succ];rfl) (by rw[<-dR,ag];simp);have br:=aF A1 ⟨#[46]⟩ A2 (by rw[<-dR,<-et,ah,ah];rfl) (by rw[<-et,ag];simp);have Bc:=aF A2 (D.extract 1 D.size) R (by rw[<-et,<-hR,ah,ah,bd,ah,<-hD,ah,List.replicate_succ];rfl) (by rw[<-hR,ag];simp[bl_length];omega);clear dR et hD hy hz;clear hR;go_enter func142,ntmps142;go_wp2_with fail
 refine(bQ true s _ _ (by omega)).mono ?_;rw[h];rintro e w1 ⟨rfl,ai⟩;have bO:=aa (hB.out.below ai (by simp));have iI:=bO.out.lt;obtain⟨c0,c1,c2,f0,f1,f2⟩:=bO.out.cells;have hb:=aa (ay ai);clear ai hB;go_wp2_with fail
 go_fit(kP z _ (by omega));rintro e w2 ⟨rfl,rfl⟩;go_wp2
 all_goals
  go_region
  all_goals
   go_wp2;go_ret2;exact⟨rfl,hb.out.drew⟩
theorem oE(s:ByteArray)(x:Int)(ll:1<s.size)(iW:0<=x)(hx21:21<(s.size:Int)+x)(w:World)(h:eI true s x=true):Calls prog 142 #[.agg #[.bool true,.string s,.int .i64 x]] w fun e w'=>e=.returned (.tuple #[.string (aj ([45]++((bl s).take 1++46::(bl s).drop 1++101::Lib.itoa (x+s.size-1)))),.int .i64 0])/\Below w.heap.size w w':=by
 have ml:maxLen=2^63-1:=rfl;obtain⟨eV,aJ,ie,dx,gT,eU⟩:=bL h;clear eV eU;have hB:=aa (aV w true s x);obtain⟨R,hR⟩:∃R,aj ([45]++((bl s).take 1++46::(bl s).drop 1++101::Lib.itoa (x+s.size-1)))=R:=⟨_,rfl⟩
 rw[hR];have lZ:decide ((0:Int)<=x)=true:=decide_eq_true iW;have jL:decide ((s.size:Int)+x<=21)=false:=decide_eq_false (by omega);have ii:decide (x<0)=false:=decide_eq_false (by omega);have Il:=Lib.itoa_length_le (x+s.size-1) (by omega) (by omega);have My:(1:Int)<=(s.size:Int):=by omega
 have e1:(bl s).length=s.size:=bl_length s;have hs1i:(1:Int)<(s.size:Int):=by omega
 obtain⟨H1,tg⟩:∃H1,aj ((bl s).take 1++[46])=H1:=⟨_,rfl⟩
 obtain⟨H2,sZ⟩:∃H2,aj ((bl s).take 1++46::(bl s).drop 1)=H2:=⟨_,rfl⟩
 obtain⟨A1,dR⟩:∃A1,aj ([45]++((bl s).take 1++46::(bl s).drop 1))=A1:=⟨_,rfl⟩
 obtain⟨A2,et⟩:∃A2,aj ([45]++((bl s).take 1++46::(bl s).drop 1)++[101])=A2:=⟨_,rfl⟩
 have bB:=aF (s.extract 0 1) ⟨#[46]⟩ H1 (by rw[<-tg,ah,aH,ah];rfl) (by rw[<-tg,ag];simp;omega);have br:=aF H1 (s.extract 1 s.size) H2 (by rw[<-tg,<-sZ,ah,ah,bd,ah];simp) (by rw[<-sZ,ag];simp[e1];omega);have Bc:=aF ⟨#[45]⟩ H2 A1 (by rw[<-sZ,<-dR,ah,ah];rfl) (by rw[<-dR,ag];simp[e1];omega);have Io:=aF A1 ⟨#[101]⟩ A2 (by rw[<-dR,<-et,ah,ah];rfl) (by rw[<-et,ag];simp[e1];omega);have Mm:=aF A2 (aj (Lib.itoa (x+s.size-1))) R (by rw[<-et,<-hR,ah,ah,ah];simp) (by rw[<-hR,ag];simp[e1];omega);clear tg sZ dR et e1;clear hR;go_enter func142,ntmps142;go_wp2_with fail
 refine(bQ true s _ _ (by omega)).mono ?_;rw[h];rintro e w1 ⟨rfl,ai⟩;have bO:=aa (hB.out.below ai (by simp));have iI:=bO.out.lt;obtain⟨c0,c1,c2,f0,f1,f2⟩:=bO.out.cells;have hb:=aa (ay ai);clear ai hB;go_wp2_with fail
 go_fit(dy (x+s.size-1) _ (by omega) (by omega));rintro e w2 ⟨rfl,rfl⟩;go_wp2;go_ret2;exact⟨rfl,hb.out⟩
theorem oD(s:ByteArray)(x:Int)(ll:s.size=1)(iW:0<=x)(hx21:21<(s.size:Int)+x)(w:World)(h:eI true s x=true):Calls prog 142 #[.agg #[.bool true,.string s,.int .i64 x]] w fun e w'=>e=.returned (.tuple #[.string (aj ([45]++((bl s).take 1++101::Lib.itoa (x+s.size-1)))),.int .i64 0])/\Below w.heap.size w w':=by
 have ml:maxLen=2^63-1:=rfl;obtain⟨eV,aJ,ie,dx,gT,eU⟩:=bL h;clear eV eU;have hB:=aa (aV w true s x);obtain⟨R,hR⟩:∃R,aj ([45]++((bl s).take 1++101::Lib.itoa (x+s.size-1)))=R:=⟨_,rfl⟩
 rw[hR];have lZ:decide ((0:Int)<=x)=true:=decide_eq_true iW;have jL:decide ((s.size:Int)+x<=21)=false:=decide_eq_false (by omega);have ii:decide (x<0)=false:=decide_eq_false (by omega);have Il:=Lib.itoa_length_le (x+s.size-1) (by omega) (by omega);have My:(1:Int)<=(s.size:Int):=by omega
 have e1:(bl s).length=s.size:=bl_length s;obtain⟨A1,dR⟩:∃A1,aj ([45]++(bl s).take 1)=A1:=⟨_,rfl⟩
 obtain⟨A2,et⟩:∃A2,aj ([45]++(bl s).take 1++[101])=A2:=⟨_,rfl⟩
 have Bc:=aF ⟨#[45]⟩ (s.extract 0 1) A1 (by rw[<-dR,aH,ah,ah];rfl) (by rw[<-dR,ag];simp[e1];omega);have Io:=aF A1 ⟨#[101]⟩ A2 (by rw[<-dR,<-et,ah,ah];rfl) (by rw[<-et,ag];simp[e1];omega);have Mm:=aF A2 (aj (Lib.itoa (x+s.size-1))) R (by rw[<-et,<-hR,ah,ah,ah];simp) (by rw[<-hR,ag];simp[e1];omega);have vM:¬(1:Int)<(s.size:Int):=by omega
 clear dR et e1 ll;clear hR;go_enter func142,ntmps142;go_wp2_with fail
 refine(bQ true s _ _ (by omega)).mono ?_;rw[h];rintro e w1 ⟨rfl,ai⟩;have bO:=aa (hB.out.below ai (by simp));have iI:=bO.out.lt;obtain⟨c0,c1,c2,f0,f1,f2⟩:=bO.out.cells;have hb:=aa (ay ai);clear ai hB;go_wp2_with fail
 go_fit(dy (x+s.size-1) _ (by omega) (by omega));rintro e w2 ⟨rfl,rfl⟩;go_wp2;go_ret2;exact⟨rfl,hb.out⟩
theorem mO(s:ByteArray)(x:Int)(ll:1<s.size)(iW:x<0)(hx21:x < -21)(w:World)(h:eI true s x=true):Calls prog 142 #[.agg #[.bool true,.string s,.int .i64 x]] w fun e w'=>e=.returned (.tuple #[.string (aj ([45]++((bl s).take 1++46::(bl s).drop 1++101::Lib.itoa (x+s.size-1)))),.int .i64 0])/\Below w.heap.size w w':=by
 have ml:maxLen=2^63-1:=rfl;obtain⟨eV,aJ,ie,dx,gT,eU⟩:=bL h;clear eV eU;have hB:=aa (aV w true s x);obtain⟨R,hR⟩:∃R,aj ([45]++((bl s).take 1++46::(bl s).drop 1++101::Lib.itoa (x+s.size-1)))=R:=⟨_,rfl⟩
 rw[hR];have lZ:decide ((0:Int)<=x)=false:=decide_eq_false (by omega);have jL:decide (x<0)=true:=decide_eq_true iW;have ii:decide (-x<=21)=false:=decide_eq_false (by omega);have Il:=Lib.itoa_length_le (x+s.size-1) (by omega) (by omega);have My:(1:Int)<=(s.size:Int):=by omega
 have e1:(bl s).length=s.size:=bl_length s;have hs1i:(1:Int)<(s.size:Int):=by omega
 obtain⟨H1,tg⟩:∃H1,aj ((bl s).take 1++[46])=H1:=⟨_,rfl⟩
 obtain⟨H2,sZ⟩:∃H2,aj ((bl s).take 1++46::(bl s).drop 1)=H2:=⟨_,rfl⟩
 obtain⟨A1,dR⟩:∃A1,aj ([45]++((bl s).take 1++46::(bl s).drop 1))=A1:=⟨_,rfl⟩
 obtain⟨A2,et⟩:∃A2,aj ([45]++((bl s).take 1++46::(bl s).drop 1)++[101])=A2:=⟨_,rfl⟩
 have bB:=aF (s.extract 0 1) ⟨#[46]⟩ H1 (by rw[<-tg,ah,aH,ah];rfl) (by rw[<-tg,ag];simp;omega);have br:=aF H1 (s.extract 1 s.size) H2 (by rw[<-tg,<-sZ,ah,ah,bd,ah];simp) (by rw[<-sZ,ag];simp[e1];omega);have Bc:=aF ⟨#[45]⟩ H2 A1 (by rw[<-sZ,<-dR,ah,ah];rfl) (by rw[<-dR,ag];simp[e1];omega);have Io:=aF A1 ⟨#[101]⟩ A2 (by rw[<-dR,<-et,ah,ah];rfl) (by rw[<-et,ag];simp[e1];omega);have Mm:=aF A2 (aj (Lib.itoa (x+s.size-1))) R (by rw[<-et,<-hR,ah,ah,ah];simp) (by rw[<-hR,ag];simp[e1];omega);clear tg sZ dR et e1;clear hR;go_enter func142,ntmps142;go_wp2_with fail
 refine(bQ true s _ _ (by omega)).mono ?_;rw[h];rintro e w1 ⟨rfl,ai⟩;have bO:=aa (hB.out.below ai (by simp));have iI:=bO.out.lt;obtain⟨c0,c1,c2,f0,f1,f2⟩:=bO.out.cells;have hb:=aa (ay ai);clear ai hB;go_wp2_with fail
 go_fit(dy (x+s.size-1) _ (by omega) (by omega));rintro e w2 ⟨rfl,rfl⟩;go_wp2;go_ret2;exact⟨rfl,hb.out⟩
theorem mN(s:ByteArray)(x:Int)(ll:s.size=1)(iW:x<0)(hx21:x < -21)(w:World)(h:eI true s x=true):Calls prog 142 #[.agg #[.bool true,.string s,.int .i64 x]] w fun e w'=>e=.returned (.tuple #[.string (aj ([45]++((bl s).take 1++101::Lib.itoa (x+s.size-1)))),.int .i64 0])/\Below w.heap.size w w':=by
 have ml:maxLen=2^63-1:=rfl;obtain⟨eV,aJ,ie,dx,gT,eU⟩:=bL h;clear eV eU;have hB:=aa (aV w true s x);obtain⟨R,hR⟩:∃R,aj ([45]++((bl s).take 1++101::Lib.itoa (x+s.size-1)))=R:=⟨_,rfl⟩
 rw[hR];have lZ:decide ((0:Int)<=x)=false:=decide_eq_false (by omega);have jL:decide (x<0)=true:=decide_eq_true iW;have ii:decide (-x<=21)=false:=decide_eq_false (by omega);have Il:=Lib.itoa_length_le (x+s.size-1) (by omega) (by omega);have My:(1:Int)<=(s.size:Int):=by omega
 have e1:(bl s).length=s.size:=bl_length s;obtain⟨A1,dR⟩:∃A1,aj ([45]++(bl s).take 1)=A1:=⟨_,rfl⟩
 obtain⟨A2,et⟩:∃A2,aj ([45]++(bl s).take 1++[101])=A2:=⟨_,rfl⟩
 have Bc:=aF ⟨#[45]⟩ (s.extract 0 1) A1 (by rw[<-dR,aH,ah,ah];rfl) (by rw[<-dR,ag];simp[e1];omega);have Io:=aF A1 ⟨#[101]⟩ A2 (by rw[<-dR,<-et,ah,ah];rfl) (by rw[<-et,ag];simp[e1];omega);have Mm:=aF A2 (aj (Lib.itoa (x+s.size-1))) R (by rw[<-et,<-hR,ah,ah,ah];simp) (by rw[<-hR,ag];simp[e1];omega);have vM:¬(1:Int)<(s.size:Int):=by omega
 clear dR et e1 ll;clear hR;go_enter func142,ntmps142;go_wp2_with fail
 refine(bQ true s _ _ (by omega)).mono ?_;rw[h];rintro e w1 ⟨rfl,ai⟩;have bO:=aa (hB.out.below ai (by simp));have iI:=bO.out.lt;obtain⟨c0,c1,c2,f0,f1,f2⟩:=bO.out.cells;have hb:=aa (ay ai);clear ai hB;go_wp2_with fail
 go_fit(dy (x+s.size-1) _ (by omega) (by omega));rintro e w2 ⟨rfl,rfl⟩;go_wp2;go_ret2;exact⟨rfl,hb.out⟩
namespace Lx
theorem lV(hP:aW)(u:Value)(l:List Tk)(w:World)(hu:TS w u l)(g:Gg w)(hzs:∀t∈l,t.s.length<=70000)(Wc:l.length<=2000000):Calls prog 34 #[u] w fun e w'=>e=Ng (kS l)/\Below w.heap.size w w':=by
 obtain⟨au,cu,rfl,Ly,xm⟩:=hu.shape;have hu:=aa hu;have g0:=aa g;have JI:=aa hP;have ml:maxLen=9223372036854775807:=rfl;have QS:=aa hzs;clear hzs;obtain⟨U,hU⟩:∃U,kS l=U:=⟨_,rfl⟩
 rw[hU];have HU:=aa hU;clear hU g hP;go_enter func34,ntmps34;go_wp2;go_loopw [11] (fun i W=>∃k:Nat,i=.int .i64 k/\k<=l.length/\Hid ((∀j (h:j<l.length),j<k->mZ dE l[j].w l[j].s=true)/\Below w.heap.size w W)) (fun i _=>l.length-(intOf i).toNat)
 case atStart=>exact⟨0,rfl,Nat.zero_le _,fun j h1 h2=>by omega,af⟩
 case round=>
  obtain⟨k,rfl,hk,H⟩:=hrel;by_cases aE:k<l.length
  ·have bF:(k:Int)<(l.length:Int):=by omega
   obtain⟨hA,hB⟩:=H.out;have A1:=aa hA;have B1:=aa hB;have gr:=aa (g0.out.below hB g0.out.sz);obtain⟨b,o,rfl,hb,p1,p2,p3⟩:=(hu.out.below hB).at k aE;have sL:Hid (∀W,Below wr.heap.size wr W->Calls prog 70 #[.agg #[.int .i64 l[k].w,.string (aj l[k].s),.int .i64 l[k].p]] W fun e w'=>e=.returned (.bool (mZ dE l[k].w l[k].s))/\Below W.heap.size W w'):=(fun W hb=>AM JI.out l[k] W (gr.out.below hb gr.out.sz) (QS.out _ (List.getElem_mem _)))
   clear H hA hB;obtain⟨x,hx⟩:∃x,l[k].w=x:=⟨_,rfl⟩
   obtain⟨y,hy⟩:∃y,aj l[k].s=y:=⟨_,rfl⟩
   obtain⟨z,hz⟩:∃z,l[k].p=z:=⟨_,rfl⟩
   obtain⟨q,hq⟩:∃q,mZ dE l[k].w l[k].s=q:=⟨_,rfl⟩
   rw[hq]at sL;rw[hx]at p1 sL;rw[hy]at p2 sL;rw[hz]at p3 sL;have hq:=aa hq;clear hx hy hz;rename_i LO;clear LO;go_wp2_with fail
   refine(sL.out _ (ab af)).mono ?_;rintro e w1 ⟨rfl,ai⟩;have B2:=aa (ac (ab B1.out) ai);clear ai;cases q
   ·have U2:Hid (U=(1,[])):=by
     show _=_;rw[<-HU.out];unfold kS;rw[if_pos (fun h=>by have:=h _ (List.getElem_mem aE);rw[hq.out]at this;cases this)]
    go_wp2;go_ret2;exact⟨by rw[U2.out];rfl,B2.out⟩
   have A2:Hid (∀j (h:j<l.length),j<k+1->mZ dE l[j].w l[j].s=true):=fun j h1 h2=>by
    by_cases oN:j=k
    ·subst oN;exact hq.out
    exact A1.out j h1 (by omega)
   clear A1 hq;go_wp2
   go_roundw
   case rel=>exact⟨k+1,by go_num,by omega,A2.out,B2.out⟩
   case measure=>simp[intOf];omega
  have bF:¬(k:Int)<(l.length:Int):=by omega
  have dU:Hid (∀t∈l,mZ dE t.w t.s=true):=fun t ht=>by obtain⟨j,hj,rfl⟩:=List.mem_iff_getElem.1 ht;exact H.out.1 j hj (by omega)
  have B0:=aa H.out.2;have U1:Hid (U=if 1024<l.length\/(∃t∈l,wZ t=true)\/4096<(jn (l.map cF)).length then (2,[]) else (0,jn (l.map cF))):=by show _=_;rw[<-HU.out];unfold kS;rw[if_neg (fun h=>h dU.out)]
  clear H HU;by_cases eX:1024<l.length
  ·have ib:(1024:Int)<(l.length:Int):=by omega
   have U2:Hid (U=(2,[])):=by show _=_;rw[U1.out,if_pos (Or.inl eX)]
   go_wp2;go_ret2;exact⟨by rw[U2.out];rfl,B0.out⟩
  have ib:¬(1024:Int)<(l.length:Int):=by omega
  go_wp2;clear aE bF hk;go_loopw [6,24] (fun v i W=>∃k:Nat,i=.int .i64 k/\k<=l.length/\Hid (dj W w.heap.size v (jn ((l.take k).map cF))/\(∀j (h:j<l.length),j<k->wZ l[j]=false)/\(jn ((l.take k).map cF)).length<=4096/\Below w.heap.size w W)) (fun _ i _=>l.length-(intOf i).toNat)
  case atStart=>exact⟨0,rfl,Nat.zero_le _,fo _ _,fun j h1 h2=>by omega,by simp[jn],B0.out⟩
  case round=>
   obtain⟨k,rfl,hk,H⟩:=hrel;obtain⟨hO,hA,hL,hB⟩:=H.out;have O1:=aa hO;have A1:=aa hA;have L1:=aa hL;have B1:=aa hB;clear H hO hA hL hB;by_cases aE:k<l.length
   ·have bF:(k:Int)<(l.length:Int):=by omega
    have gr:=aa (g0.out.below B1.out g0.out.sz);obtain⟨b,o,rfl,hb,p1,p2,p3⟩:=(hu.out.below B1.out).at k aE;obtain⟨T,hT⟩:∃T,l[k]=T:=⟨_,rfl⟩
    have Nw:Hid (T∈l):=by rw[<-hT];exact List.getElem_mem _
    have Tw:=aa hT;have Np:Hid ((l.take (k+1)).map cF=(l.take k).map cF++[cF T]):=by show _=_;rw[List.take_succ_eq_append_getElem aE,List.map_append,hT];rfl
    have WV:Hid (mZ dE T.w T.s=true):=dU.out T Nw.out;rw[hT]at p1 p2 p3;obtain⟨x,ys,z⟩:=T;simp only at p1 p2 p3;have Ga:Hid ((aj ys).size=ys.length):=ag ys;have Gh:Hid (∀o n,Calls prog 71 #[.int .i64 x] ((wr.alloc o).drewN n) fun e w'=>e=.returned (.int .i64 (mq x:Nat))/\w'=(wr.alloc o).drewN n):=fun o n=>pP x _ (gr.out.below (ac (ab af) (gc _ _ _)) gr.out.sz);have iy:mq x<5:=by unfold mq;(repeat' split)<;>omega
    have tR:∀o,(wr.alloc o).cell? ⟨0,mq x,none⟩=some (.int .i64 (lgK (mq x):Nat)):=fun o=>(gr.out.below (ab af) gr.out.sz).lo _ iy;have xz:Hid (wZ ⟨x,ys,z⟩=decide (lgK (mq x)<ys.length)):=rfl;have Rb:lgK (mq x)<=4096:=by unfold lgK;(repeat' split)<;>omega
    have gy:Hid (ys.length<=4096->∀W,Calls prog 72 #[.agg #[.int .i64 x,.string (aj ys),.int .i64 z]] W fun e w'=>e=.returned (.string (aj (cF ⟨x,ys,z⟩)))/\Below W.heap.size W w'):=fun h W=>Ak ⟨x,ys,z⟩ W (by simp only;omega);obtain⟨q,hq⟩:∃q,mq x=q:=⟨_,rfl⟩
    obtain⟨m,hm⟩:∃m,lgK q=m:=⟨_,rfl⟩
    rw[hq]at Gh iy tR xz Rb;rw[hm]at tR xz Rb;have kX:(0:Int)<=(q:Int):=by omega
    have ir:(q:Int)<5:=by omega
    obtain⟨y,hy⟩:∃y,aj ys=y:=⟨_,rfl⟩
    rw[hy]at p2 Ga gy;have HQ:Hid ((cF ⟨x,ys,z⟩).length<=6*ys.length+2):=by
     show _<=_;unfold cF NT;simp only
     split
     ·have:=nn ys;simp only[rY,List.length_cons,List.length_append,List.length_nil];omega
     omega
    clear hT hm hq hy;by_cases EE:m<ys.length
    ·have U2:Hid (U=(2,[])):=by
      show _=_;rw[U1.out,if_pos (Or.inr (Or.inl ⟨_,Nw.out,by rw[xz.out];exact decide_eq_true EE⟩))]
     have i1:((m:Nat):Int)<((y.size:Nat):Int):=by rw[Ga.out];omega
     clear EE Rb iy HQ gy;go_wp2_with fail
     go_quiet (first|(go_at_call 71;exact Calls.quiet_of_same (Gh.out _ _)))
     go_wp2;go_ret2;exact⟨by rw[U2.out];rfl,ac (ab B1.out) (gc _ _ _)⟩
    have i1:¬((m:Nat):Int)<((y.size:Nat):Int):=by rw[Ga.out];omega
    have HY:=aa (gy.out (by omega));have A2:Hid (∀j (h:j<l.length),j<k+1->wZ l[j]=false):=fun j h1 h2=>by
     by_cases oN:j=k
     ·subst oN;rw[Tw.out,xz.out];exact decide_eq_false EE
     exact A1.out j h1 (by omega)
    have hS:Hid (aj (cF ⟨x,ys,z⟩)=aj (cF ⟨x,ys,z⟩)):=rfl;have TZ:Hid (ys.length<=4096):=by show _<=_;omega
    obtain⟨S,Qi⟩:∃S,cF ⟨x,ys,z⟩=S:=⟨_,rfl⟩
    rw[Qi]at Np HQ HY;have Tz:=aa (ah S);have Ny:Hid ((aj S).size=S.length):=ag S;obtain⟨Sb,Qj⟩:∃Sb,aj S=Sb:=⟨_,rfl⟩
    rw[Qj]at Tz Ny HY;obtain⟨J,hJ⟩:∃J,jn ((l.take k).map cF)=J:=⟨_,rfl⟩
    rw[hJ]at O1 L1;have Ce:Hid (jn ((l.take (k+1)).map cF)=if k=0 then S else J++32::S):=by
     show _=_;rw[Np.out,sA,hJ];by_cases eM:k=0
     ·subst eM;simp
     rw[if_neg eM,if_neg];intro e;have:=congrArg List.length e;rw[List.length_map,List.length_take,List.length_nil]at this;omega
    have xL:Hid (k=0->J=[]):=fun e=>by rw[<-hJ,e];rfl
    have i1n:¬m<y.size:=by rw[Ga.out];exact EE
    have Mr:Hid ((jn ((l.take (k+1)).map cF)).length<=(jn (l.map cF)).length):=by show _<=_;rw[List.map_take];exact Hp _ _
    obtain⟨J2,Cf⟩:∃J2,jn ((l.take (k+1)).map cF)=J2:=⟨_,rfl⟩
    rw[Cf]at Ce Mr;have Cf:=aa Cf;clear EE Rb iy A1 gy hS Qi Qj Np hJ;rename_i hJ2q;clear hJ2q;have Ma:k=0\/0<k:=by omega
    rcases Ma with eM|eM
    ·have ik:¬(0:Int)<(k:Int):=by omega
     have Is:Hid (J2=S):=by have:=Ce.out;rw[if_pos eM]at this;exact this
     have Rk:Hid (J=[]):=xL.out eM;clear Ce eM xL;go_wp2_with fail
     go_quiet (first|(go_at_call 71;exact Calls.quiet_of_same (Gh.out _ _)))
     have BW:Hid (Below wr.heap.size wr ((wr.alloc (Obj.cells #[Value.int IntKind.i64 x,Value.string y,Value.int IntKind.i64 z] 88)).drewN nq)):=ac (ab af) (gc _ _ _);go_wp2_with(first|(go_at_call 72;refine(HY.out _).mono ?_;rintro e w2 ⟨rfl,aq⟩;have B2':=aa (ac BW.out aq);clear aq)|(at_builtin;refine ak.out ?_))
     refine ak.mk ?_;have O2:=aa (gJ O1.out B2'.out);have B2:=aa (ac B1.out B2'.out);refine fP rfl (.tmp 43) (.tmp 45) rfl w.heap.size u6 J rfl O2.out Sb rfl (by have:=L1.out;have:=Ny.out;have:=HQ.out;have:=TZ.out;omega) B2.out.size ?_;intro v3 w3 lH ar mr;have O3:Hid (dj w3 w.heap.size v3 J2):=by have:=lH.out;rw[Tz.out,Rk.out,List.nil_append,<-Is.out]at this;exact this
     have B3:Hid (Below w.heap.size w w3):=B2.out.trans ar.out;obtain⟨a3,c3,rfl⟩:=nP O3.out;clear lH ar mr tR;by_cases h4096:4096<J2.length
     ·have j4:(4096:Int)<(J2.length:Int):=by omega
      have U2:Hid (U=(2,[])):=by show _=_;rw[U1.out,if_pos (Or.inr (Or.inr (by have:=Mr.out;omega)))]
      go_wp2;go_ret2;exact⟨by rw[U2.out];rfl,B3.out⟩
     have j4:¬(4096:Int)<(J2.length:Int):=by omega
     go_wp2
     go_roundw
     case rel=>exact⟨k+1,by go_num,by omega,by rw[Cf.out];exact O3.out,A2.out,by rw[Cf.out];omega,B3.out⟩
     case measure=>simp[intOf];omega
    have ik:(0:Int)<(k:Int):=by omega
    have Is:Hid (J2=J++32::S):=by have:=Ce.out;rw[if_neg (by omega)]at this;exact this
    clear Ce eM xL;go_wp2_with fail
    go_quiet (first|(go_at_call 71;exact Calls.quiet_of_same (Gh.out _ _)))
    have BW:Hid (Below wr.heap.size wr ((wr.alloc (Obj.cells #[Value.int IntKind.i64 x,Value.string y,Value.int IntKind.i64 z] 88)).drewN nq)):=ac (ab af) (gc _ _ _);obtain⟨W1,Be⟩:∃W1,W1=((wr.alloc (Obj.cells #[Value.int IntKind.i64 x,Value.string y,Value.int IntKind.i64 z] 88)).drewN nq):=⟨_,rfl⟩
    have c0:Hid (W1.heap[wr.heap.size]?=some (Obj.cells #[Value.int IntKind.i64 x,Value.string y,Value.int IntKind.i64 z] 88)):=by show _=_;rw[Be];exact Array.getElem?_push_size
    have z1:Hid (W1.heap.size=wr.heap.size+1):=by show _=_;rw[Be];simp
    rw[<-Be]at BW ⊢;clear Be;have hn:=aa (cM W1 32 5);have OW:=aa (gJ O1.out BW.out);have iu:=aa (World.ownsRow.lt O1.out);go_wp2_with(at_builtin;refine ak.out ?_)
    refine ak.mk ?_;refine yb rfl (.tmp 40) (.tmp 41) rfl w.heap.size u6 J rfl (OW.out.alloc _) ⟨W1.heap.size,0,none⟩ 1 1 [32] rfl rfl hn.out (by have:=L1.out;omega) (by have:=B1.out.size;have:=z1.out;simp;omega) ?_;intro v2 w2 nR ii;have cB:Hid (w2.heap[wr.heap.size]?=some (Obj.cells #[Value.int IntKind.i64 x,Value.string y,Value.int IntKind.i64 z] 88)):=by show _=_;rw[ii.out.block wr.heap.size (by have:=z1.out;simp;omega) (fun q=>by have:=(iu.out _ q.symm).2;omega),Below.heap_alloc _ _ _ (by have:=z1.out;omega)];exact c0.out
    have d0:w2.cell? ⟨wr.heap.size,0,none⟩=some (.int .i64 x):=by simp[World.cell?,cB.out]
    have d1:w2.cell? ⟨wr.heap.size,1,none⟩=some (.string y):=by simp[World.cell?,cB.out]
    have d2:w2.cell? ⟨wr.heap.size,2,none⟩=some (.int .i64 z):=by simp[World.cell?,cB.out]
    have B2:Hid (Below w.heap.size w w2):=(ab (ac B1.out BW.out)).grown ii.out (by have:=B1.out.size;have:=z1.out;simp;omega) (fun q hq=>(iu.out q hq).1);have O2:Hid (dj w2 w.heap.size v2 (J++[32])):=nR.out;clear nR ii hn OW tR;go_wp2_with(first|(go_at_call 72;refine(HY.out _).mono ?_;rintro e w4 ⟨rfl,aO⟩;have B4':=aa aO;clear aO)|(at_builtin;refine ak.out ?_))
    refine ak.mk ?_;have O4:=aa (gJ O2.out B4'.out);have B4:=aa (ac B2.out B4'.out);refine fP rfl (.tmp 43) (.tmp 45) rfl w.heap.size v2 (J++[32]) rfl O4.out Sb rfl (by have:=L1.out;have:=Ny.out;have:=HQ.out;have:=TZ.out;simp;omega) B4.out.size ?_;intro v3 w3 lH ar mr;have O3:Hid (dj w3 w.heap.size v3 J2):=by have:=lH.out;rw[Tz.out,List.append_assoc,List.singleton_append,<-Is.out]at this;exact this
    have B3:Hid (Below w.heap.size w w3):=B4.out.trans ar.out;obtain⟨a3,c3,rfl⟩:=nP O3.out;clear lH ar mr d0 d1 d2;by_cases h4096:4096<J2.length
    ·have j4:(4096:Int)<(J2.length:Int):=by omega
     have U2:Hid (U=(2,[])):=by show _=_;rw[U1.out,if_pos (Or.inr (Or.inr (by have:=Mr.out;omega)))]
     go_wp2;go_ret2;exact⟨by rw[U2.out];rfl,B3.out⟩
    have j4:¬(4096:Int)<(J2.length:Int):=by omega
    go_wp2
    go_roundw
    case rel=>exact⟨k+1,by go_num,by omega,by rw[Cf.out];exact O3.out,A2.out,by rw[Cf.out];omega,B3.out⟩
    case measure=>simp[intOf];omega
   have bF:¬(k:Int)<(l.length:Int):=by omega
   have ln:=cJ O1.out;obtain⟨J,hJ⟩:∃J,jn ((l.take k).map cF)=J:=⟨_,rfl⟩
   rw[hJ]at ln;have ms:l.take k=l:=List.take_of_length_le (by omega);have U2:Hid (U=(0,J)):=by
    show _=_;rw[U1.out,<-hJ,ms,if_neg];intro h;rcases h with h|⟨t,ht,h⟩|h
    ·omega
    ·obtain⟨j,hj,rfl⟩:=List.mem_iff_getElem.1 ht
     have:=A1.out j hj (by omega);rw[h]at this;cases this
    have:=L1.out;rw[ms]at this;omega
   clear ms hJ;go_wp2;go_ret2;exact⟨by rw[U2.out];rfl,B1.out⟩
theorem Du(W:World)(B:Nat)(l:List Tk)(hB:B<=W.heap.size)(h1:l.length<=1000000):OT (W.alloc (.cells (gV l).toArray 88)) B (.slice (some ⟨W.heap.size,0,none⟩) l.length l.length) l:=by
 have e:(gV l).length=l.length*3:=by rw[mC];omega
 exact⟨e,Or.inr ⟨W.heap.size,l.length,(gV l).toArray,rfl,hB,heap_alloc_new W _,Nat.le_refl _,by unfold maxLen;omega,by simpa using e,by simpa using List.take_of_length_le (by rw[e];exact Nat.le_refl _)⟩⟩
theorem OT.low{W:World}{B C:Nat}{v:Value}{l:List Tk}(h:OT W B v l)(hc:C<=B):OT W C v l:=by
 refine⟨h.1,?_⟩;rcases h.2 with h|⟨g,cap,cur,rfl,h1,h2⟩
 ·exact Or.inl h
 exact Or.inr ⟨g,cap,cur,rfl,by omega,h2⟩
theorem OT.below{W W1:World}{B:Nat}{v:Value}{l:List Tk}(h:OT W B v l)(hb:Below W.heap.size W W1):OT W1 B v l:=h.keep hb
section
variable {W : World} {ops : Array Oper} {rest : List Oper} {o : Oper} {a : Act} {Q : Exit → Act → World → Prop}
theorem qX{W:World}{B T sz g n cap:Nat}{xs:List Value}(h:W.ownsRow B T sz (.slice (some ⟨g,0,none⟩) n cap) n xs):∀j u,xs[j]?=some u->W.cell? ((⟨g,0,none⟩:Addr).add j)=some u:=World.ownsRow.cells h (g:=g) rfl
theorem nu(hgd:o.guard=none)(s x:Operand)(ho:o.op=.call {callee:=.builtin .append,args:=#[s,x],argTypes:=#[59,59]})
  (B:Nat) (v:Value) (l:List Tk) (hs:a.eval s=v) (bz:OT W B v l) (C:Nat) (u:Value) (m:List Tk) (hx:a.eval x=u) (hu:OT W C u m) (hk:l.length+m.length<=3000000) (hB:B<=W.heap.size)
  (h:∀ta tn tc w',Hid (OT w' B (.slice ta tn tc) (l++m))->Hid (Below B W w')->Hid (∀k,k<W.heap.size->v.ownBlock≠some k->w'.heap[k]?=W.heap[k]?)->wpList prog ops Q rest (a.put o.dst (.slice ta tn tc)) w'):wpList prog ops Q (o::rest) a W:=by
 obtain⟨i0,hi,fY,gD,eR⟩:=info_parts zi;rcases id hu.2 with⟨hu0,e0⟩|⟨g,cap,cur,hu0,_⟩
 ·have hf:m=[]:=List.eq_nil_of_length_eq_zero (by rw[<-e0])
  subst hf;refine wpList_plain hgd fun K hK=>?_;have hr:=run_append_owned_none (P:=prog) W B 59 o.type 88 i0 3 Tryz.underlying59 hi v l.length (gV l) bz;rw[hu0]at hx;unfold Oper.wp execOp;simp only[ho,resolve,invoke,builtin,Sem.run_bind,Sem.run_pure,Result.andThen_ok,List.map_toArray,List.map_cons,List.map_nil,hs,hx,hr];obtain⟨ta,tc,rfl⟩:=bz.shape;exact hK _ _ (h ta _ tc W (show OT _ _ _ _ by simpa using bz) af (fun _ _ _=>rfl))
 have xm:=hu;unfold OT at xm;rw[hu0]at hx xm;refine wpList_append_own_at W hgd s x 59 ho B 88 i0 _ 3 32 Tryz.underlying59 hi fY gD eR rfl (by decide) v l.length (gV l) hs bz ⟨g,0,none⟩ m.length cap (gV m) hx (by rw[mC];omega) (qX xm) (mD _) (by unfold maxLen;omega) (by omega) hB ?_;intro v' w' h1 h2 _ _;rw[<-oT]at h1;have It:OT w' B v' (l++m):=by unfold OT;rw[List.length_append];exact h1
 obtain⟨ta,tc,rfl⟩:=It.shape;exact h ta _ tc w' It ((Below.refl B W).grown h2 hB fun k hk=>(World.ownsRow.lt bz k hk).1) (fun k hk aQ=>h2.block k hk fun e=>aQ e.symm)
theorem aZ(hgd:o.guard=none)(s x:Operand)(ho:o.op=.call {callee:=.builtin .append,args:=#[s,x],argTypes:=#[59,59]})
  (B:Nat) (v:Value) (l:List Tk) (hs:a.eval s=v) (bz:OT W B v l) (C:Nat) (u:Value) (m:List Tk) (hx:a.eval x=u) (hu:OT W C u m) (hk:l.length+m.length<=3000000) (hB:B<=W.heap.size)
  (h:∀ta tn tc w',Hid (OT w' B (.slice ta tn tc) (l++m))->Hid (Below B W w')->wpList prog ops Q rest (a.put o.dst (.slice ta tn tc)) w'):wpList prog ops Q (o::rest) a W :=
 nu hgd s x ho B v l hs bz C u m hx hu hk hB fun ta tn tc w' h1 h2 _=>h ta tn tc w' h1 h2
end
def bE(l:List Tk)(w:World)(e:Ending)(w':World):Prop:=∃v,e=.returned v/\OT w' w.heap.size v l/\Below w.heap.size w w'
theorem eC(s:ByteArray)(w:World):Calls prog 73 #[.string s] w fun e w'=>e=.returned (.agg #[.int .i64 4,.string s,.int .i64 0])/\Below w.heap.size w w':=by
 go_enter func73,ntmps73;go_wp2_with fail
 refine bodyPost_ret (v:=.agg #[.int .i64 4,.string s,.int .i64 0]) (by simp[results,Tryz.results73,go_sem, *]) rfl ⟨rfl,ab af⟩
theorem bu(s:ByteArray)(w:World):Calls prog 75 #[.string s] w fun e w'=>e=.returned (.agg #[.int .i64 1,.string s,.int .i64 0])/\Below w.heap.size w w':=by
 go_enter func75,ntmps75;go_wp2_with fail
 refine bodyPost_ret (v:=.agg #[.int .i64 1,.string s,.int .i64 0]) (by simp[results,Tryz.results75,go_sem, *]) rfl ⟨rfl,ab af⟩
end Lx
