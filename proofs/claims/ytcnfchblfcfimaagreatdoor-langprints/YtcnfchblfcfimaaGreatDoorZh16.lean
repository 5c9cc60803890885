import Derived.Test.YtcnfchblfcfimaaGreatDoorZh09
import Derived.Test.YtcnfchblfcfimaaGreatDoorZh04
import Derived.Test.YtcnfchblfcfimaaGreatDoorZh08
import Derived.Test.YtcnfchblfcfimaaGreatDoorZh02
set_option linter.all false
set_option maxHeartbeats 1000000
namespace Go.Proofs.YtcnfchblfcfimaaGreatDoor
open Proofs.Tryz RowKit
theorem iQ(s:ByteArray)(w:World)(hs:s.size<=100000):Calls prog 184 #[.string s] w fun e w'=>e=cw (dv (bl s))/\Below w.heap.size w w':=by
 unfold dv;obtain⟨wh,bR⟩:∃wh,(aC 45 (bl s)).takeWhile isDig=wh:=⟨_,rfl⟩
 cases cP:lA ((aC 45 (bl s)).takeWhile isDig)
 ·simp only[Bool.false_eq_true,if_false]
  simp only[lA,Bool.or_eq_false_iff]at cP;have aQ:1<=((aC 45 (bl s)).takeWhile isDig).length:=by
   rcases hh:(aC 45 (bl s)).takeWhile isDig with _|⟨a,l⟩
   ·rw[hh]at cP;simp at cP
   simp
  by_cases h1:((aC 45 (bl s)).takeWhile isDig).length=1
  ·cases dD:dV 46 ((aC 45 (bl s)).dropWhile isDig)
   ·simp only[Bool.false_eq_true,if_false]
    cases hL:(aC 45 (bl s)).dropWhile isDig with
    |nil=>have:=nF s w hs h1 dD hL;rwa [hL]at this
    |cons c r=>
     by_cases bB:c=101
     ·have:=kg s w hs h1 dD c r hL (Or.inl bB);rwa [hL]at this
     by_cases br:c=69
     ·have:=kg s w hs h1 dD c r hL (Or.inr br);rwa [hL]at this
     have:=nG s w hs h1 dD c r hL bB br;rwa [hL]at this
   simp only[if_true];cases dL:((aC 46 ((aC 45 (bl s)).dropWhile isDig)).takeWhile isDig).isEmpty
   ·simp only[Bool.false_eq_true,if_false]
    cases hL:(aC 46 ((aC 45 (bl s)).dropWhile isDig)).dropWhile isDig with
    |nil=>have:=nD s w hs h1 dD dL hL;rwa [hL]at this
    |cons c r=>
     by_cases bB:c=101
     ·have:=ke s w hs h1 dD dL c r hL (Or.inl bB);rwa [hL]at this
     by_cases br:c=69
     ·have:=ke s w hs h1 dD dL c r hL (Or.inr br);rwa [hL]at this
     have:=nE s w hs h1 dD dL c r hL bB br;rwa [hL]at this
   exact mF s w hs h1 dD dL
  have h1:1<((aC 45 (bl s)).takeWhile isDig).length/\((aC 45 (bl s)).takeWhile isDig).head?≠some 48:=by
   have h2:1<((aC 45 (bl s)).takeWhile isDig).length:=by omega
   refine⟨h2,?_⟩;have:=cP.2;rw[decide_eq_true h2,Bool.true_and,beq_eq_false_iff_ne]at this;exact this
  cases dD:dV 46 ((aC 45 (bl s)).dropWhile isDig)
  ·simp only[Bool.false_eq_true,if_false]
   cases hL:(aC 45 (bl s)).dropWhile isDig with
   |nil=>have:=mI s w hs h1 dD hL;rwa [hL]at this
   |cons c r=>
    by_cases bB:c=101
    ·have:=jz s w hs h1 dD c r hL (Or.inl bB);rwa [hL]at this
    by_cases br:c=69
    ·have:=jz s w hs h1 dD c r hL (Or.inr br);rwa [hL]at this
    have:=mJ s w hs h1 dD c r hL bB br;rwa [hL]at this
  simp only[if_true];cases dL:((aC 46 ((aC 45 (bl s)).dropWhile isDig)).takeWhile isDig).isEmpty
  ·simp only[Bool.false_eq_true,if_false]
   cases hL:(aC 46 ((aC 45 (bl s)).dropWhile isDig)).dropWhile isDig with
   |nil=>have:=mG s w hs h1 dD dL hL;rwa [hL]at this
   |cons c r=>
    by_cases bB:c=101
    ·have:=jy s w hs h1 dD dL c r hL (Or.inl bB);rwa [hL]at this
    by_cases br:c=69
    ·have:=jy s w hs h1 dD dL c r hL (Or.inr br);rwa [hL]at this
    have:=mH s w hs h1 dD dL c r hL bB br;rwa [hL]at this
  exact lQ s w hs h1 dD dL
 simp only[if_true];simp only[lA,Bool.or_eq_true,Bool.and_eq_true,decide_eq_true_eq,beq_iff_eq]at cP;rcases cP with h|h
 ·exact uk s w hs h
 exact wu s w hs h
theorem jx(l:List UInt8):bW (l.takeWhile isDig)=true:=by
 unfold bW
 induction l with
 |nil=>rfl
 |cons a l ih=>
  by_cases h:isDig a=true
  ·simp[h]
  simp[h]
theorem fj{l:List UInt8}{n:Bool}{wh fr:List UInt8}{pn:Bool}{pw:List UInt8}(h:dv l=some (n,wh,fr,pn,pw)):bW wh=true/\bW fr=true/\bW pw=true/\1<=wh.length/\wh.length+fr.length<=l.length/\pw.length<=l.length:=by
 have key:∀(n:Bool) (wh fr l4:List UInt8) (m:Nat),bW wh=true->bW fr=true->1<=wh.length->wh.length+fr.length<=m->l4.length<=m->∀n' wh' fr' pn' pw',aY n wh fr l4=some (n',wh',fr',pn',pw')->bW wh'=true/\bW fr'=true/\bW pw'=true/\1<=wh'.length/\wh'.length+fr'.length<=m/\pw'.length<=m:=by
  intro n wh fr l4 m h1 h2 h3 h4 h5 n' wh' fr' pn' pw' h;unfold aY at h;cases l4 with
  |nil=>
   simp only[Option.some.injEq,Prod.mk.injEq]at h;obtain⟨_,rfl,rfl,_,rfl⟩:=h;exact⟨h1,h2,rfl,h3,h4,Nat.zero_le _⟩
  |cons c r=>
   simp only at h;by_cases hc:(c==101||c==69)=true
   ·by_cases hs:jg r=true
    ·simp only[hc,hs,if_true,Option.some.injEq,Prod.mk.injEq]at h
     obtain⟨_,rfl,rfl,_,rfl⟩:=h;simp only[jg,Bool.and_eq_true]at hs;refine⟨h1,h2,hs.2,h3,h4,?_⟩;have:(gm r).length<=r.length:=by unfold gm;split<;>exact aG _ _
     simp at h5;omega
    simp only[hc,hs,if_true]at h;cases h
   simp only[hc]at h;cases h
 unfold dv at h;have e0:(aC 45 l).takeWhile isDig++(aC 45 l).dropWhile isDig=aC 45 l:=List.takeWhile_append_dropWhile;have e1:=congrArg List.length e0;rw[List.length_append]at e1;have e2:=aG 45 l;cases cP:lA ((aC 45 l).takeWhile isDig)
 ·rw[cP]at h
  simp only[Bool.false_eq_true,if_false]at h;have aQ:1<=((aC 45 l).takeWhile isDig).length:=by
   rcases hh:(aC 45 l).takeWhile isDig with _|⟨a,l⟩
   ·rw[hh]at cP;simp[lA]at cP
   simp
  by_cases dD:dV 46 ((aC 45 l).dropWhile isDig)=true
  ·rw[if_pos dD]at h
   by_cases dL:((aC 46 ((aC 45 l).dropWhile isDig)).takeWhile isDig).isEmpty=true
   ·rw[if_pos dL]at h;cases h
   rw[if_neg dL]at h;have f0:(aC 46 ((aC 45 l).dropWhile isDig)).takeWhile isDig++(aC 46 ((aC 45 l).dropWhile isDig)).dropWhile isDig=aC 46 ((aC 45 l).dropWhile isDig):=List.takeWhile_append_dropWhile;have f1:=congrArg List.length f0;rw[List.length_append]at f1;have f2:=aG 46 ((aC 45 l).dropWhile isDig);exact key _ _ _ _ l.length (jx _) (jx _) aQ (by omega) (by omega) _ _ _ _ _ h
  rw[if_neg dD]at h;exact key _ _ _ _ l.length (jx _) rfl aQ (by simp;omega) (by omega) _ _ _ _ _ h
 rw[cP]at h;simp only[if_true]at h;cases h
def bo(l:List UInt8):List Nat:=l.map fun c=>c.toNat-48
theorem jt(l:List UInt8):dg (aj l)=bo l:=by unfold dg bo;rw[ah]
def cx(l:List UInt8):Bool×ByteArray×Int×Int :=
 match dv l with
 |none=>(false,⟨#[]⟩,0,10)
 |some (n,wh,fr,pn,pw)=>if 512<l.length then (false,⟨#[]⟩,0,2) else cg n (bo wh++bo fr) (fU pn pw-fr.length)
theorem uV(p:List Nat)(o:Nat):fX p o []=p:=by unfold fX;simp
theorem pO(a b:List Nat)(m:Nat)(h:a.length+b.length<=m)(i:Nat)(hi:i<(a++b).length)(hi':i<(fX (fX (List.replicate m 0) 0 a) a.length b).length):(fX (fX (List.replicate m 0) 0 a) a.length b)[i]=(a++b)[i]:=by
 have e:fX (fX (List.replicate m 0) 0 a) a.length b=a++b++List.replicate (m-a.length-b.length) 0:=by unfold fX;simp[List.take_append,List.drop_append]
 simp only[e];rw[List.getElem_append_left hi]
theorem du(l:List UInt8)(h:bW l=true):pi (bo l):=by intro d hd;simp only[bo,List.mem_map]at hd;obtain⟨c,hc,rfl⟩:=hd;have:=(bZ c).1 ((List.all_eq_true.1 h) c hc);omega
structure IW(w:World)(b:Nat)(n:Bool)(wh fr:ByteArray)(pn:Bool)(pw:ByteArray)(d:List Nat)(W:World):Prop where
 below:Below w.heap.size w W
 hp:cI W b n wh fr pn pw
 hb:iM W w.heap.size false ⟨#[]⟩ 0
 hz:b+1<W.heap.size
 hc:∀i (h:i<d.length),W.cell? ⟨b+1,0+i,none⟩=some (.int .u8 (d[i]:Nat))
theorem IW.drew{w:World}{b:Nat}{n:Bool}{wh fr:ByteArray}{pn:Bool}{pw:ByteArray}{d:List Nat}{W:World}(h:IW w b n wh fr pn pw d W):IW w b n wh fr pn pw d W.drew:=⟨h.below.drew,h.hp,h.hb,h.hz,h.hc⟩
theorem IW.then{w:World}{b:Nat}{n:Bool}{wh fr:ByteArray}{pn:Bool}{pw:ByteArray}{d:List Nat}{W W1:World}(h:IW w b n wh fr pn pw d W)(hb:Below W.heap.size W W1):IW w b n wh fr pn pw d W1 :=
 ⟨ac h.below hb,h.hp.below hb h.hp.lt,h.hb.below hb h.hb.lt,Nat.lt_of_lt_of_le h.hz hb.size,fun i hi=>(hb.cell (p:=⟨b+1,0+i,none⟩) h.hz).trans (h.hc i hi)⟩
theorem eQ(pn:Bool)(l:List UInt8)(h:bW l=true):-9129<=fU pn l/\fU pn l<=9129:=by
 have:=Dk l 0 h (by omega);unfold fU
 split<;>omega
theorem wR(s:ByteArray)(w:World)(hs:s.size<=100000)(h:dv (bl s)=none):Calls prog 155 #[.string s] w fun e w'=>e=ji (false,⟨#[]⟩,0,10)/\Below w.heap.size w w':=by
 have hB:=aa (aV w false ⟨#[]⟩ 0);have h:=aa h;go_enter func155,ntmps155;go_wp2_with fail
 refine(iQ s _ hs).mono ?_;rw[h.out];rintro e w1 ⟨rfl,ai⟩;have bO:=aa (hB.out.below ai (by simp));have hl:=bO.out.lt;obtain⟨c0,c1,c2,f0,f1,f2⟩:=bO.out.cells;have hb:=aa (ay ai);clear ai;simp only[cw,ch,if_true,Bool.false_eq_true,if_false];go_wp2;refine bodyPost_ret (v:=.tuple #[.agg #[.bool false,.string ⟨#[]⟩,.int .i64 0],.int .i64 10]) (by simp[results,Tryz.results155,go_sem,c0,c1,c2,hl]) rfl ⟨rfl,?_⟩;refine ab ?_;iterate 3 refine ao ?_ (by omega)
 exact hb.out
theorem wS(s:ByteArray)(w:World)(hs:s.size<=100000)(n:Bool)(wh fr:List UInt8)(pn:Bool)(pw:List UInt8)(h:dv (bl s)=some (n,wh,fr,pn,pw))(hlong:512<s.size):Calls prog 155 #[.string s] w fun e w'=>e=ji (false,⟨#[]⟩,0,2)/\Below w.heap.size w w':=by
 have hB:=aa (aV w false ⟨#[]⟩ 0);have h:=aa h;go_enter func155,ntmps155;go_wp2_with fail
 refine(iQ s _ hs).mono ?_;rw[h.out];rintro e w1 ⟨rfl,ai⟩;have bO:=aa (hB.out.below ai (by simp));have hl:=bO.out.lt;obtain⟨c0,c1,c2,f0,f1,f2⟩:=bO.out.cells;have hb:=aa (ay ai);clear ai;simp only[cw,ch,if_true,Bool.false_eq_true,if_false];go_wp2;refine bodyPost_ret (v:=.tuple #[.agg #[.bool false,.string ⟨#[]⟩,.int .i64 0],.int .i64 2]) (by simp[results,Tryz.results155,go_sem,c0,c1,c2,hl]) rfl ⟨rfl,?_⟩;refine ab ?_;iterate 3 refine ao ?_ (by omega)
 exact hb.out
