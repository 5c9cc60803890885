import Derived.Test.YtcnfchblfcfimaaGreatDoorRows
import Derived.Deep.RegionHeld3
import Derived.Test.YtcnfchblfcfimaaGreatDoorZh01
set_option linter.all false
set_option maxHeartbeats 2000000
set_option maxRecDepth 100000
namespace Go.Proofs.YtcnfchblfcfimaaGreatDoor
open Proofs.Tryz RowKit
def lz(d:List Nat):Nat:=(d.takeWhile (·==0)).length
theorem DT(d:List Nat)(k:Nat)(hk:k<=d.length)(h1:∀i (h:i<d.length),i<k->d[i]=0)(h2:∀h:k<d.length,d[k]≠0):lz d=k :=
 jf _ d k hk (fun j h hj=>by simp[h1 j h hj]) (fun h=>by simpa using h2 h)
def lenOf:Value->Nat | .slice _ m _=>m|_=>0
theorem mA(b o n c:Nat)(d:List Nat)(w:World)(hd:d.length=n)(lI:0<n)(hn:n<=100000)(hc:n<=c)(xD:c<=100000)
  (hcell:∀i (h:i<d.length),w.cell? ⟨b,o+i,none⟩=some (.int .u8 (d[i]:Nat))) :
  Calls prog 228 #[.slice (some ⟨b,o,none⟩) n c,.int .u8 0] w fun e w'=>(lz d<n->e=.returned (.slice (some ⟨b,o+lz d,none⟩) (n-lz d) (c-lz d)))/\(lz d=n->e=.returned (.slice none 0 0))/\w'=w:=by
 go_enter func228,ntmps228;go_wp2;go_loop [0] (fun s=>∃k:Nat,k<=n/\(∀i (h:i<d.length),i<k->d[i]=0)/\((k<n/\s=.slice (some ⟨b,o+k,none⟩) (n-k) (c-k))\/(k=n/\∃a cc,s=.slice a 0 cc))) (fun s=>lenOf s)
 case atStart=>exact⟨0,Nat.zero_le _,fun i h hi=>by omega,Or.inl ⟨lI,rfl⟩⟩
 case round=>
  obtain⟨k,hk,hz,hs⟩:=hrel;rcases hs with⟨bm,rfl⟩|⟨rfl,a,cc,rfl⟩
  ·have WK:=hcell k (by omega)
   by_cases h0:d[k]'(by omega)=0
   ·rw[h0]at WK
    have Lm:∀i (h:i<d.length),i<k+1->d[i]=0:=fun i h hi=>by
     by_cases e:i=k
     ·subst e;exact h0
     exact hz i h (by omega)
    have Lm:=aa Lm;go_wp2;refine⟨⟨k+1,by omega,Lm.out,?_⟩,by simp[lenOf];omega⟩;by_cases hl:k+1<n
    ·exact Or.inl ⟨hl,by rw[if_neg (by omega)];simp[Nat.sub_sub,Nat.add_assoc]⟩
    exact Or.inr ⟨by omega,_,_,by rw[show n-k-1=0 by omega]⟩
   have h1:((d[k]'(by omega):Int)==0)=false:=by simp;exact h0
   have h2:(((n-k:Nat):Int)==0)=false:=by simp;omega
   have hl:=aa (DT d k (by omega) hz (fun _=>h0));clear h0;go_wp2;go_ret;exact⟨fun _=>by rw[hl.out];rfl,fun h=>by rw[hl.out]at h;omega,rfl⟩
  have hl:=aa (DT d k (by omega) hz (fun h=>by omega));go_wp2;go_ret;exact⟨fun h=>by rw[hl.out]at h;omega,fun h=>rfl,rfl⟩
theorem mz(b o n c:Nat)(d:List Nat)(w:World)(hd:d.length=n)(lI:0<n)(hn:n<=100000)(hc:n<=c)(xD:c<=100000)
  (hcell:∀i (h:i<d.length),w.cell? ⟨b,o+i,none⟩=some (.int .u8 (d[i]:Nat))) :
  Calls prog 212 #[.slice (some ⟨b,o,none⟩) n c,.string ⟨#[0]⟩] w fun e w'=>(lz d<n->e=.returned (.slice (some ⟨b,o+lz d,none⟩) (n-lz d) (c-lz d)))/\(lz d=n->e=.returned (.slice none 0 0))/\w'=w:=by
 have h2:((n:Int)==0)=false:=by simp;omega
 have hcell:=aa hcell;by_cases hl:lz d<n
 ·go_enter func212,ntmps212
  go_wp2_with(go_at_call 228;refine(mA b o n c d _ hd lI hn hc xD hcell.out).mono ?_;rintro e w' ⟨h1,_,rfl⟩;obtain rfl:=h1 hl)
  go_ret;exact⟨fun _=>rfl,fun h=>by omega,rfl⟩
 have qJ:Hid (lz d=n):=by
  have:lz d<=n:=by unfold lz;rw[<-hd];exact(List.takeWhile_prefix _).length_le
  show lz d=n;omega
 go_enter func212,ntmps212;go_wp2_with(go_at_call 228;refine(mA b o n c d _ hd lI hn hc xD hcell.out).mono ?_;rintro e w' ⟨_,h1,rfl⟩;obtain rfl:=h1 qJ.out)
 go_ret;exact⟨fun h=>by omega,fun _=>rfl,rfl⟩
theorem Hr{n:Bool}{s:ByteArray}{x:Int}(h:eI n s x=true):s.size<=40/\-400<=x/\x<=400:=by
 simp[eI,xe,tP]at h;rcases h with⟨⟨_,h1⟩,h2⟩|h
 ·have:=bl_length s;rw[h1]at this;simp at this;omega
 rw[bl_length]at h;omega
def cf(l:List Nat):ByteArray:=strOfNums (l.map fun v:Nat=>((v:Int)+48))
def Qt(ok neg:Bool)(s:ByteArray)(x:Int):Ending :=
 if ok then .returned (.tuple #[.agg #[.bool neg,.string s,.int .i64 x],.int .i64 0]) else .returned (.tuple #[.agg #[.bool false,.string ⟨#[]⟩,.int .i64 0],.int .i64 2])
def tz(d:List Nat):Nat:=lz d.reverse
theorem NG(d:List Nat)(m k:Nat)(hm:d.length=m)(hk:k<m)(h1:∀i (h:i<d.length),m-k<=i->d[i]=0)(h2:d[m-k-1]'(by omega)≠0):tz d=k:=by
 refine DT d.reverse k (by simp;omega) (fun i h hi=>?_) (fun h=>?_)
 ·rw[List.getElem_reverse]
  exact h1 _ _ (by simp at h;omega)
 rw[List.getElem_reverse];have e:d.length-1-k=m-k-1:=by omega
 simp only[e];exact h2
theorem uQ(d:List Nat)(h:lz d<d.length):d[lz d]≠0:=by
 intro h0;have key:∀(l:List Nat) (h:(l.takeWhile (·==0)).length<l.length),l[(l.takeWhile (·==0)).length]≠0:=by
  intro l
  induction l with
  |nil=>intro h;simp at h
  |cons a l ih=>
   intro h;by_cases ha:a=0
   ·subst ha
    simp only[List.takeWhile_cons,beq_self_eq_true,if_true,List.length_cons,List.getElem_cons_succ];exact ih (by simpa using h)
   simp[ha]
 exact key d h h0
theorem Bj(neg:Bool)(b o n c:Nat)(d:List Nat)(x:Int)(w:World)(hd:d.length=n)(lI:0<n)(hn:n<=100000)(hc:n<=c)(xD:c<=100000)(hb:b<w.heap.size)
  (hcell:∀i (h:i<d.length),w.cell? ⟨b,o+i,none⟩=some (.int .u8 (d[i]:Nat))) (hz:lz d=n) :
  Calls prog 186 #[.bool neg,.slice (some ⟨b,o,none⟩) n c,.int .i64 x] w fun e w'=>e=.returned (.tuple #[.agg #[.bool false,.string ⟨#[48]⟩,.int .i64 0],.int .i64 0])/\Below w.heap.size w w':=by
 have hcell':∀cs T,∀i (h:i<d.length),(w.alloc (.cells cs T)).cell? ⟨b,o+i,none⟩=some (.int .u8 (d[i]:Nat)):=fun cs T i h=>by rw[<-hcell i h];exact(af.alloc (Nat.le_refl _) _).cell (p:=⟨b,o+i,none⟩) hb
 have hcell':=aa hcell';have hz:=aa hz;clear hcell;go_enter func186,ntmps186;go_wp2_with(go_at_call 212;refine(mz b o n c d _ hd lI hn hc xD (hcell'.out _ _)).mono ?_;rintro e w' ⟨_,h1,rfl⟩;obtain rfl:=h1 hz.out)
 exact bodyPost_ret (v:=.tuple #[.agg #[.bool false,.string ⟨#[48]⟩,.int .i64 0],.int .i64 0]) (by simp[results,Tryz.results186,go_sem]) rfl ⟨rfl,af.alloc (Nat.le_refl _) _⟩
theorem Bk(neg:Bool)(b o n c:Nat)(d d1 d2:List Nat)(m k1:Nat)(x:Int)(w:World)(hd:d.length=n)(hn:n<=100000)(hc:n<=c)(xD:c<=100000)(hb:b<w.heap.size)
  (hcell:∀i (h:i<d.length),w.cell? ⟨b,o+i,none⟩=some (.int .u8 (d[i]:Nat))) (hz:lz d<n) (hx:-1000000<=x) (jC:x<=1000000)
  (jN:d1=d.drop (lz d)) (hm:m=n-lz d) (nj:k1=tz d1) (mc:d2=d1.take (m-k1)) (eU:pi d) (fit:Bool) (ma:fit=decide (d2.length<=40/\-400<=x+k1/\x+k1<=400)) :
  Calls prog 186 #[.bool neg,.slice (some ⟨b,o,none⟩) n c,.int .i64 x] w fun e w'=>
   e=Qt fit neg (cf d2) (x+k1)/\Below w.heap.size w w':=by
 have hcell':∀cs T,∀i (h:i<d.length),(w.alloc (.cells cs T)).cell? ⟨b,o+i,none⟩=some (.int .u8 (d[i]:Nat)):=fun cs T i h=>by rw[<-hcell i h];exact(af.alloc (Nat.le_refl _) _).cell (p:=⟨b,o+i,none⟩) hb
 have hcell':=aa hcell';clear hcell;have aQ:Hid (d1[0]?≠some 0):=by
  show d1[0]?≠some 0;rw[jN,List.getElem?_drop,List.getElem?_eq_getElem (by omega)];have:=uQ d (by omega)
  simpa using this
 have jL:Hid (∀i (h:i<d1.length) (h':lz d+i<d.length),d1[i]=d[lz d+i]):=by show ∀i (h:i<d1.length) (h':lz d+i<d.length),d1[i]=d[lz d+i];intro i h h';simp only[jN,List.getElem_drop]
 have WA:=aa jN;have Ca:=aa hm;have Wa:m<=n:=by omega
 have Jz:0<m:=by omega
 have LV:m+lz d=n:=by omega
 have Lm:=aa hz;have hd1l:d1.length=m:=by rw[jN,List.length_drop];omega
 obtain⟨z,Jr⟩:∃z,lz d=z:=⟨_,rfl⟩
 have Wt:=aa nj;have PN:=aa mc;have hhfit:=aa ma;have eU:=aa eU;clear jN nj mc ma;have ec:Hid (n-lz d=m/\c-lz d=c-z):=by constructor<;>omega
 rw[Jr]at LV;have Jr:=aa Jr;clear hm hz;go_enter func186,ntmps186;go_wp2_with(go_at_call 212;refine(mz b o n c d _ hd (by omega) hn hc xD (hcell'.out _ _)).mono ?_;rintro e w' ⟨h1,_,rfl⟩;have h1:=h1 Lm.out;rw[ec.out.1,ec.out.2,Jr.out]at h1;obtain rfl:=h1)
 have QZ:((m:Int)==0)=false:=by simp;omega
 go_loop [1,2] (fun s e=>∃k:Nat,k<m/\s=.slice (some ⟨b,o+z,none⟩) (m-k) (c-z)/\e=.int .i64 (x+k)/\Hid (∀i (h:i<d1.length),m-k<=i->d1[i]=0)) (fun s _=>lenOf s)
 case atStart=>exact⟨0,Jz,rfl,by simp,fun i h hi=>by omega⟩
 case round=>
  obtain⟨k,hk,rfl,rfl,RQ⟩:=hrel;obtain⟨q,hq⟩:∃q,d1[m-k-1]'(by omega)=q:=⟨_,rfl⟩
  have Bb:=hcell'.out #[Value.bool false,Value.string {data:=#[]},Value.int IntKind.i64 0] 27 (z+(m-k-1)) (by omega);have zm:d[z+(m-k-1)]'(by omega)=q:=by rw[<-hq,jL.out (m-k-1) (by omega) (by rw[Jr.out];omega)];simp only[Jr.out]
  rw[zm,<-Nat.add_assoc]at Bb;have hq:=aa hq;clear zm;by_cases h0:q=0
  ·subst h0
   have OZ:Hid (∀i (h:i<d1.length),m-(k+1)<=i->d1[i]=0):=by
    show ∀i (h:i<d1.length),m-(k+1)<=i->d1[i]=0;intro i h hi;by_cases e:i=m-k-1
    ·subst e;exact hq.out
    exact RQ.out i h (by omega)
   have No:k+1<m:=by
    by_cases e:k+1<m
    ·exact e
    have h1:=OZ.out 0 (by omega) (by omega);exact absurd (by rw[List.getElem?_eq_getElem (by omega),h1]) aQ.out
   go_wp2;refine⟨⟨k+1,No,by rw[Nat.sub_sub],?_,OZ.out⟩,by simp[lenOf];omega⟩;show Value.int _ _=Value.int _ _
   congr 1
   omega
  have Qs:((q:Int)==0)=false:=by simp;exact h0
  have tS:k1=k:=by rw[Wt.out];exact NG d1 m k hd1l hk RQ.out (by rw[hq.out];exact h0)
  have bq:d2.length=m-k:=by rw[PN.out,List.length_take,tS];omega
  subst tS;have Wd:=aa bq;clear h0;by_cases Ff:40<m-k1
  ·go_wp2
   exact bodyPost_ret (v:=.tuple #[.agg #[.bool false,.string ⟨#[]⟩,.int .i64 0],.int .i64 2]) (by simp[results,Tryz.results186,go_sem]) rfl ⟨by
    have:fit=false:=by rw[hhfit.out];exact decide_eq_false (by omega)
    rw[this];rfl,af.alloc (Nat.le_refl _) _⟩
  by_cases he:-400<=x+k1/\x+k1<=400
  ·have e3:decide (-400<=x+k1/\x+k1<=400)=true:=decide_eq_true he
   have Tg:Hid (fit=true):=by show fit=true;rw[hhfit.out];exact decide_eq_true ⟨by omega,he⟩
   go_wp2_with(go_at_call 213;refine(iB _ _).mono ?_;rintro e w' ⟨rfl,rfl⟩;rw[e3])
   have ii:Hid (∀i (h:i<d2.length) (h':z+i<d.length),d2[i]=d[z+i]):=by show ∀i (h:i<d2.length) (h':z+i<d.length),d2[i]=d[z+i];intro i h h';simp only[PN.out,List.getElem_take];rw[jL.out i (by omega) (by rw[Jr.out];exact h')];simp only[Jr.out]
   go_loopw [42] (fun i wr=>∃k:Nat,k<=m-k1/\i=.int .i64 k/\Hid (jX wr (w.heap.size+1) 201 ((d2.take k).map (fun v=>48+v)++List.replicate (40-k) 0))/\Hid (Below (w.heap.size+1) (w.alloc (.cells #[Value.bool false,Value.string {data:=#[]},Value.int IntKind.i64 0] 27)) wr)) (fun i _=>m-k1-(intOf i).toNat)
   case atStart=>
    refine⟨0,Nat.zero_le _,rfl,?_,?_⟩
    ·show jX _ _ _ _
     rw[show w.heap.size+1=(w.alloc (.cells #[Value.bool false,Value.string {data:=#[]},Value.int IntKind.i64 0] 27)).heap.size from by simp];exact pg _ _ 40 _ rfl
    exact af.alloc (by simp) _
   case round=>
    obtain⟨k,hk,rfl,Fd,hB⟩:=hrel;by_cases bm:k<m-k1
    ·have Bb:=hcell'.out #[Value.bool false,Value.string {data:=#[]},Value.int IntKind.i64 0] 27 (z+k) (by omega)
     rw[<-hB.out.cell (p:=⟨b,o+(z+k),none⟩) (by show b<_;omega),<-ii.out k (by omega) (by omega),<-Nat.add_assoc]at Bb;have VC:d2[k]'(by omega)<=9:=by rw[ii.out k (by omega) (by omega)];exact eU.out _ (List.getElem_mem _)
     obtain⟨v,hv⟩:∃v,d2[k]'(by omega)=v:=⟨_,rfl⟩
     rw[hv]at Bb VC;have kZ:=Fd.out.cell k (by simp;omega);have Wu:=Fd.out.frozen k;have hv:=aa hv;have Sh:Hid (((d2.take k).map (fun v=>48+v)++List.replicate (40-k) 0).set k (48+v)=(d2.take (k+1)).map (fun v=>48+v)++List.replicate (40-(k+1)) 0):=by
      show _=_;have aL:((d2.take k).map (fun v=>48+v)).length=k:=by simp;omega
      rw[List.set_append_right _ _ (by omega),aL,Nat.sub_self,show 40-k=(40-(k+1))+1 by omega,List.replicate_succ,List.set_cons_zero,List.take_succ_eq_append_getElem (by omega),List.map_append,hv.out];simp
     go_wp2;refine⟨⟨k+1,by omega,by go_num,?_,?_⟩,by simp[intOf];omega⟩
     ·show jX _ _ _ _
      rw[<-Sh.out];exact Fd.out.set k (48+v)
     exact hB.out.setCell (Nat.le_refl _) _
    have ox:k=m-k1:=by omega
    subst ox;have ms:d2.take (m-k1)=d2:=List.take_of_length_le (by omega);rw[ms]at Fd;have hconv:(convert 94 9 (.slice (some ⟨w.heap.size+1,0,none⟩) (m-k1) 40)).run prog wr=.ok (.string (cf d2)) wr:=by
     refine run_convert_bytes_arg (P:=prog) wr 94 5 Tryz.underlying94 Tryz.underlying5 (w.heap.size+1) 0 (m-k1) 40 (d2.map fun v:Nat=>((v:Int)+48)) (by simp;omega) (fun i hi=>?_) 9 Tryz.underlying9;rw[Nat.zero_add,Fd.out.cell i (by simp;omega)]
     congr 2
     rw[List.getElem_append_left (by simp;omega),List.getElem_map,List.getD_eq_getElem?_getD,List.getElem?_map,List.getElem?_eq_getElem (by omega)];simp;omega
    have QX:=hB.out.cell (p:=⟨w.heap.size,0,none⟩) (Nat.lt_succ_self _);have Jy:=hB.out.cell (p:=⟨w.heap.size,1,none⟩) (Nat.lt_succ_self _);have zl:=hB.out.cell (p:=⟨w.heap.size,2,none⟩) (Nat.lt_succ_self _);have vj:=hB.out.frozen (p:=⟨w.heap.size,0,none⟩) (Nat.lt_succ_self _);have Wx:=hB.out.frozen (p:=⟨w.heap.size,1,none⟩) (Nat.lt_succ_self _);have Ww:=hB.out.frozen (p:=⟨w.heap.size,2,none⟩) (Nat.lt_succ_self _);simp[go_sem]at QX Jy zl vj Wx Ww;clear ms;go_wp2;refine bodyPost_ret (v:=.tuple #[.agg #[.bool neg,.string (cf d2),.int .i64 (x+k1)],.int .i64 0]) (by simp[results,Tryz.results186,go_sem,QX,Jy,zl]) rfl ⟨by rw[Tg.out];rfl,?_⟩;exact((((((Below.refl _ w).alloc (Nat.le_refl _) _).trans (hB.out.mono (Nat.le_succ _))).setCell (Nat.le_refl _) _).setCell (Nat.le_refl _) _).setCell (Nat.le_refl _) _)
  have e3:decide (-400<=x+k1/\x+k1<=400)=false:=decide_eq_false he;have Tg:Hid (fit=false):=by show fit=false;rw[hhfit.out];exact decide_eq_false (fun h=>he h.2)
  go_wp2_with(go_at_call 213;refine(iB _ _).mono ?_;rintro e w' ⟨rfl,rfl⟩;rw[e3])
  exact bodyPost_ret (v:=.tuple #[.agg #[.bool false,.string ⟨#[]⟩,.int .i64 0],.int .i64 2]) (by simp[results,Tryz.results186,go_sem]) rfl ⟨by rw[Tg.out];rfl,af.alloc (Nat.le_refl _) _⟩
def KN(s:ByteArray)(x:Int):Nat:=val (dg s)*10^(x+400).toNat
def Zv(n:Bool)(s:ByteArray)(x:Int):Int:=if n then -(KN s x:Int) else KN s x
structure TX(l:List Nat):Prop where
 dgs:pi l
 first:∀c,l.head?=some c->c≠0
 last:∀c,l.getLast?=some c->c≠0
theorem rg{s:ByteArray}{x:Int}(h:tP (bl s) x=true):1<=s.size/\s.size<=40/\-400<=x/\x<=400/\bW (bl s)=true/\TX (dg s)/\dg s≠[]:=by
 simp only[tP,Bool.and_eq_true,decide_eq_true_eq,bne_iff_ne,ne_eq,bl_length]at h;obtain⟨⟨⟨⟨⟨h1,h2⟩,h3,h4⟩,h5⟩,h6⟩,h7⟩:=h;refine⟨h1,h2,h3,h4,h5,⟨Fu s h5,?_,?_⟩,?_⟩
 ·intro c hc
  have:(dg s).head?=(bl s).head?.map fun c=>c.toNat-48:=by simp[dg]
  rw[this,dQ s h1]at hc;rw[dQ s h1]at h6;simp at hc;have hd:=kN s h5 0 h1;have:s[0].toNat≠48:=fun e=>h6 (by congr 1;exact UInt8.toNat_inj.1 e);omega
 ·intro c hc
  have:(dg s).getLast?=(bl s).getLast?.map fun c=>c.toNat-48:=by simp[dg]
  rw[this,sx s h1]at hc;rw[sx s h1]at h7;simp at hc;have hd:=kN s h5 (s.size-1) (by omega);have:(s[s.size-1]'(by omega)).toNat≠48:=fun e=>h7 (by congr 1;exact UInt8.toNat_inj.1 e);omega
 intro e;have:=gF s;rw[e]at this;simp at this;omega
theorem rf{n:Bool}{s:ByteArray}{x:Int}(h:xe n s x=true):n=false/\bl s=[48]/\x=0:=by simp[xe]at h;exact⟨h.1.1,h.1.2,h.2⟩
theorem zd{n:Bool}{s:ByteArray}{x:Int}(h:xe n s x=true):dg s=[0]/\s.size=1/\KN s x=0/\Zv n s x=0:=by
 obtain⟨rfl,h2,rfl⟩:=rf h;have h3:dg s=[0]:=by simp[dg,h2]
 have h4:s.size=1:=by rw[<-bl_length,h2];rfl
 have h5:KN s 0=0:=by unfold KN;rw[h3,show val [0]=0 from rfl,Nat.zero_mul]
 exact⟨h3,h4,h5,by simp[Zv,h5]⟩
def dz(d:List Nat):List Nat:=d.drop (lz d)
def gb(d:List Nat):List Nat:=(dz d).take ((dz d).length-tz (dz d))
def cg(neg:Bool)(d:List Nat)(x:Int):Bool×ByteArray×Int×Int :=
 if lz d=d.length then (false,⟨#[48]⟩,0,0)
 else if (gb d).length<=40/\-400<=x+tz (dz d)/\x+tz (dz d)<=400 then (neg,cf (gb d),x+tz (dz d),0) else (false,⟨#[]⟩,0,2)
def ji(r:Bool×ByteArray×Int×Int):Ending:=.returned (.tuple #[.agg #[.bool r.1,.string r.2.1,.int .i64 r.2.2.1],.int .i64 r.2.2.2])
theorem yX(d:List Nat):lz d<=d.length:=(List.takeWhile_prefix _).length_le
theorem Cx(d:List Nat):tz d<=d.length:=by have:=yX d.reverse;simpa [tz] using this
theorem qc(neg:Bool)(b o n c:Nat)(d:List Nat)(x:Int)(w:World)(hd:d.length=n)(lI:0<n)(hn:n<=100000)(hc:n<=c)(xD:c<=100000)(hb:b<w.heap.size)
  (hcell:∀i (h:i<d.length),w.cell? ⟨b,o+i,none⟩=some (.int .u8 (d[i]:Nat))) (hx:-1000000<=x) (jC:x<=1000000) (eU:pi d) :
  Calls prog 186 #[.bool neg,.slice (some ⟨b,o,none⟩) n c,.int .i64 x] w fun e w'=>e=ji (cg neg d x)/\Below w.heap.size w w':=by
 by_cases hz:lz d=n
 ·refine(Bj neg b o n c d x w hd lI hn hc xD hb hcell hz).mono ?_
  rintro e w' ⟨rfl,hB⟩;refine⟨?_,hB⟩;unfold cg;rw[if_pos (by rw[hd];exact hz)];rfl
 have:=yX d;have hl:(dz d).length=n-lz d:=by rw[dz,List.length_drop,hd]
 refine(Bk neg b o n c d (dz d) (gb d) (n-lz d) (tz (dz d)) x w hd hn hc xD hb hcell (by omega) hx jC rfl rfl rfl (by rw[gb,hl]) eU _ rfl).mono ?_;rintro e w' ⟨rfl,hB⟩;refine⟨?_,hB⟩;have e1:cg neg d x=if (gb d).length<=40/\-400<=x+tz (dz d)/\x+tz (dz d)<=400 then (neg,cf (gb d),x+tz (dz d),0) else (false,⟨#[]⟩,0,2):=by unfold cg;rw[if_neg (by rw[hd];exact hz)]
 rw[e1];by_cases h:(gb d).length<=40/\-400<=x+tz (dz d)/\x+tz (dz d)<=400
 ·rw[if_pos h,decide_eq_true h];rfl
 rw[if_neg h,decide_eq_false h];rfl
theorem yq(d:List Nat):d.take (lz d)=List.replicate (lz d) 0:=by
 induction d with
 |nil=>rfl
 |cons a d ih=>
  by_cases h:a=0
  ·subst h
   have:lz (0::d)=lz d+1:=by simp[lz]
   rw[this,List.take_succ_cons,ih,List.replicate_succ]
  have:lz (a::d)=0:=by simp[lz,h]
  rw[this];rfl
theorem Cw(d:List Nat):d=d.take (d.length-tz d)++List.replicate (tz d) 0:=by
 have h:=yq d.reverse;have:=congrArg List.reverse h;rw[List.reverse_take,List.reverse_reverse,List.length_reverse,List.reverse_replicate]at this
 conv=>lhs;rw[<-List.take_append_drop (d.length-tz d) d]
 rw[show d.drop (d.length-tz d)=List.replicate (tz d) 0 from this]
theorem yY(d:List Nat)(h:lz d<d.length):∀c,(dz d).head?=some c->c≠0:=by intro c hc;have:=uQ d h;rw[dz,List.head?_drop,List.getElem?_eq_getElem h]at hc;rw[<-Option.some.inj hc];exact this
theorem Jd(d:List Nat)(h:lz d<d.length):tz (dz d)<(dz d).length:=by
 have h1:=Cx (dz d);have hl:0<(dz d).length:=by rw[dz,List.length_drop];omega
 by_cases e:tz (dz d)<(dz d).length
 ·exact e
 have h2:=Cw (dz d);rw[show(dz d).length-tz (dz d)=0 by omega,List.take_zero,List.nil_append]at h2;have h3:(dz d).head?=some 0:=by rw[h2,List.head?_replicate,if_neg (by omega)]
 exact absurd rfl (yY d h 0 h3)
theorem vy(d:List Nat):(gb d).length=(dz d).length-tz (dz d):=by rw[gb,List.length_take];omega
theorem vA(d:List Nat)(h:lz d<d.length)(hd:pi d):TX (gb d)/\gb d≠[]:=by
 have h1:=Jd d h;have hl:=vy d;have aQ:gb d≠[]:=by intro e;rw[e]at hl;simp at hl;omega
 refine⟨⟨?_,?_,?_⟩,aQ⟩
 ·intro x hx
  exact hd x (List.mem_of_mem_drop (List.mem_of_mem_take hx))
 ·intro c hc
  refine yY d h c ?_;rw[gb,List.head?_take,if_neg (by omega)]at hc;exact hc
 intro c hc;have h2:=uQ (dz d).reverse (by simpa [tz] using h1);rw[List.getElem_reverse]at h2;rw[gb,List.getLast?_take,if_neg (by omega)]at hc;rw[List.getElem?_eq_getElem (by omega)]at hc;simp only[Option.some_or]at hc;have e:(dz d).length-tz (dz d)-1=(dz d).length-1-lz (dz d).reverse:=by unfold tz;omega
 simp only[e]at hc;rw[<-Option.some.inj hc];exact h2
theorem dF(l:List Nat):(cf l).size=l.length:=by simp[cf,strOfNums_size]
theorem iD(l:List Nat):bl (cf l)=l.map fun v=>UInt8.ofNat (v+48):=by
 unfold bl cf;rw[strOfNums_data,List.map_map];apply List.map_congr_left;intro v _;show UInt8.ofNat ((v:Int)+48).toNat=_
 congr 1
theorem fV(v:Nat)(h:v<=9):(UInt8.ofNat (v+48)).toNat=v+48:=by rw[UInt8.toNat_ofNat'];omega
theorem KM(l:List Nat)(h:pi l):dg (cf l)=l:=by
 unfold dg;rw[iD,List.map_map]
 conv=>rhs;rw[<-List.map_id l]
 apply List.map_congr_left;intro v hv;show(UInt8.ofNat (v+48)).toNat-48=v;rw[fV v (h v hv)];omega
theorem Hj(l:List Nat)(h:pi l):bW (bl (cf l))=true:=by rw[iD];unfold bW;rw[List.all_eq_true];intro c hc;rw[List.mem_map]at hc;obtain⟨v,hv,rfl⟩:=hc;rw[bZ,fV v (h v hv)];have:=h v hv;omega
theorem yU(l:List Nat)(x:Int)(h:TX l)(aQ:l≠[])(Ff:l.length<=40)(hx:-400<=x)(jC:x<=400):tP (bl (cf l)) x=true:=by
 have hl:1<=l.length:=List.length_pos_iff.2 aQ;simp only[tP,Bool.and_eq_true,decide_eq_true_eq,bne_iff_ne,ne_eq];refine⟨⟨⟨⟨⟨?_,?_⟩,hx,jC⟩,Hj l h.dgs⟩,?_⟩,?_⟩
 ·rw[bl_length,dF];exact hl
 ·rw[bl_length,dF];exact Ff
 ·rw[iD,List.head?_map]
  intro e;cases hh:l.head? with
  |none=>rw[hh]at e;cases e
  |some v=>
   rw[hh]at e;have e1:=Option.some.inj e;have e2:=congrArg UInt8.toNat e1;have hm:v∈l:=List.mem_of_head? hh;have h9:=h.dgs v hm;rw[fV v h9]at e2;have:=h.first v hh
   have:(48:UInt8).toNat=48:=rfl;omega
 rw[iD,List.getLast?_map];intro e;cases hh:l.getLast? with
 |none=>rw[hh]at e;cases e
 |some v=>
  rw[hh]at e;have e1:=Option.some.inj e;have e2:=congrArg UInt8.toNat e1;have hm:v∈l:=List.mem_of_getLast? hh;have h9:=h.dgs v hm;rw[fV v h9]at e2;have:=h.last v hh;have:(48:UInt8).toNat=48:=rfl;omega
def iM(W:World)(i:Nat)(n:Bool)(s:ByteArray)(x:Int):Prop:=W.heap[i]?=some (.cells #[.bool n,.string s,.int .i64 x] 27 (0,0))
theorem iM.cells{W:World}{i:Nat}{n:Bool}{s:ByteArray}{x:Int}(h:iM W i n s x):W.cell? ⟨i,0,none⟩=some (.bool n)/\W.cell? ⟨i,1,none⟩=some (.string s)/\W.cell? ⟨i,2,none⟩=some (.int .i64 x)/\W.frozen? ⟨i,0,none⟩=false/\W.frozen? ⟨i,1,none⟩=false/\W.frozen? ⟨i,2,none⟩=false:=by unfold iM at h;simp[World.cell?,World.frozen?,h]
theorem iM.lt{W:World}{i:Nat}{n:Bool}{s:ByteArray}{x:Int}(h:iM W i n s x):i<W.heap.size:=by
 unfold iM at h;by_cases bm:i<W.heap.size
 ·exact bm
 have hn:W.heap[i]?=none:=by simp;omega
 rw[hn]at h;cases h
theorem iM.below{W W1:World}{i B:Nat}{n:Bool}{s:ByteArray}{x:Int}(h:iM W i n s x)(hb:Below B W W1)(hi:i<B):iM W1 i n s x:=by unfold iM at h ⊢;rw[hb.block i hi];exact h
theorem iM.only{W W1:World}{i b:Nat}{n:Bool}{s:ByteArray}{x:Int}(h:iM W i n s x)(hb:lB b W W1)(hi:i≠b):iM W1 i n s x:=by unfold iM at h ⊢;rw[hb.block i hi];exact h
theorem iM.set{W:World}{i:Nat}{n n':Bool}{s s':ByteArray}{x x':Int}(h:iM W i n s x):iM (((W.setCell ⟨i,0,none⟩ (.bool n')).setCell ⟨i,1,none⟩ (.string s')).setCell ⟨i,2,none⟩ (.int .i64 x')) i n' s' x':=by unfold iM at h ⊢;simp only[World.setCell,Array.getElem?_modify,if_true,h,Option.map_some];simp
theorem aV(w:World)(n:Bool)(s:ByteArray)(x:Int):iM (w.alloc (.cells #[.bool n,.string s,.int .i64 x] 27)) w.heap.size n s x:=by unfold iM;show(w.heap.push _)[w.heap.size]?=_;simp
theorem iM.alloc{W:World}{i:Nat}{n:Bool}{s:ByteArray}{x:Int}(h:iM W i n s x)(o:Obj):iM (W.alloc o) i n s x:=by have hl:=h.lt;unfold iM at h ⊢;rw[<-h];exact Below.heap_alloc W o i hl
theorem bL{n:Bool}{s:ByteArray}{x:Int}(h:eI n s x=true):bW (bl s)=true/\1<=s.size/\s.size<=40/\-400<=x/\x<=400/\pi (dg s):=by
 cases hz:xe n s x
 ·have ho:tP (bl s) x=true:=by simpa [eI,hz] using h
  obtain⟨a1,a2,a3,a4,a5,a6,a7⟩:=rg ho;exact⟨a5,a1,a2,a3,a4,a6.dgs⟩
 obtain⟨_,h2,h3⟩:=rf hz;have h4:=(zd hz).2.1;have h5:bW (bl s)=true:=by rw[h2];rfl
 exact⟨h5,by omega,by omega,by omega,by omega,Fu s h5⟩
structure XP(na:Bool)(a:ByteArray)(xa:Int)(nb:Bool)(b:ByteArray)(xb y low:Int):Prop where
 n1:eI na a xa=true
 n2:eI nb b xb=true
 le:KN b xb<=KN a xa
 y0:xe nb b xb=true->y=xa
 y1:xe nb b xb=false->y=xb
 l0:low=min xa y
theorem IM(s:ByteArray)(h:∀j (h:j<s.size),isDig s[j]=true):bW (bl s)=true:=by unfold bW;rw[List.all_eq_true];intro c hc;obtain⟨i,hi,rfl⟩:=List.getElem_of_mem hc;rw[bl_length]at hi;rw[bH s i hi];exact h i hi
theorem km(s:ByteArray)(w:World)(hs:s.size<=maxLen):Calls prog 202 #[.string s] w fun e w'=>e=.returned (.bool (bW (bl s)&&decide (0<s.size)))/\w'=w:=by
 unfold maxLen at hs;go_enter func202,ntmps202;go_wp2;go_loop [3] (fun i=>∃k:Nat,k<=s.size/\i=.int .i64 k/\Hid (∀j (hj:j<k) (h:j<s.size),isDig s[j]=true)) (fun i=>s.size-(intOf i).toNat)
 case atStart=>exact⟨0,Nat.zero_le _,rfl,fun j hj=>by omega⟩
 case round=>
  obtain⟨k,hk,rfl,dU⟩:=hrel;by_cases bm:k<s.size
  ·by_cases hd:isDig s[k]=true
   ·have Gk:=(bZ _).1 hd
    have h1:=Gk.1;have h2:=Gk.2;have HH:=aa hd;clear hd Gk;go_wp2
    go_round
    case rel=>exact⟨k+1,by omega,by go_num,fun j hj h=>by
     by_cases e:j=k
     ·subst e;exact HH.out
     exact dU.out j (by omega) h⟩
    case measure=>simp[intOf];omega
   have iH:=aa (show bW (bl s)=false by
    cases ha:bW (bl s)
    ·rfl
    exfalso;apply hd;have:=kN s ha k bm;rw[bZ];omega)
   have Gk:¬(48<=(s[k].toNat:Int)/\(s[k].toNat:Int)<=57):=fun h=>hd ((bZ _).2 h);clear hd;go_wp2
   all_goals
    go_ret;exact⟨cD (by rw[iH.out];rfl),rfl⟩
  have Ln:=aa (IM s (fun j h=>dU.out j (by omega) h));go_wp2;go_ret;refine⟨cD ?_,rfl⟩;rw[Ln.out,Bool.true_and]
theorem oK(n:Bool)(s:ByteArray)(x:Int)(h:s.toList=[48]):eI n s x=(!n&&x==0):=by
 rw[dJ]at h;have ho:tP [48] x=false:=by unfold tP;simp
 simp[eI,xe,h,ho]
theorem AN(n:Bool)(s:ByteArray)(x:Int)(h:¬s.toList=[48]):eI n s x=tP (bl s) x:=by
 rw[dJ]at h;have hz:xe n s x=false:=by simp[xe,h]
 simp[eI,hz]
theorem bQ(n:Bool)(s:ByteArray)(x:Int)(w:World)(hs:s.size<=maxLen):Calls prog 168 #[.agg #[.bool n,.string s,.int .i64 x]] w fun e w'=>e=.returned (.bool (eI n s x))/\Below w.heap.size w w':=by
 by_cases hz:s.toList=[48]
 ·have hr:=aa (oK n s x hz)
  cases n
  all_goals
   go_enter func168,ntmps168;go_wp2;go_ret;exact⟨cD (by rw[hr.out];rfl),af.alloc (Nat.le_refl _) _⟩
 have hr:=aa (AN n s x hz);have Xr:(s.toList==[48])=false:=by simpa using hz
 clear hz;by_cases h0:0<s.size
 ·have hO:=aa (Ef s x h0)
  have h0i:(0:Int)<s.size:=by omega
  cases eV:bW (bl s)
  ·have xJ:=aa (show(bW (bl s)&&decide (0<s.size))=false by rw[eV];rfl)
   go_enter func168,ntmps168;go_wp2_with(go_at_call 202;go_fit(km s _ hs);rw[xJ.out];rintro e w' ⟨rfl,rfl⟩)
   go_ret;exact⟨cD (by rw[hr.out,hO.out,eV];simp),af.alloc (Nat.le_refl _) _⟩
  have xJ:=aa (show(bW (bl s)&&decide (0<s.size))=true by rw[eV];simp[h0]);by_cases Ff:(s.size:Int)<=40
  ·by_cases dx:-400<=x
   ·go_enter func168,ntmps168
    go_wp2_with(go_at_call 202;go_fit(km s _ hs);rw[xJ.out];rintro e w' ⟨rfl,rfl⟩)
    all_goals
     go_ret;refine⟨cD ?_,af.alloc (Nat.le_refl _) _⟩;have Qr:s.size<=40:=by omega
     rw[hr.out,hO.out,eV];simp only[<-JV];simp[Qr,dx, *]
     try rw[Bool.and_comm,Bool.and_assoc]
   have Vu:decide (-400<=x)=false:=decide_eq_false dx;go_enter func168,ntmps168;go_wp2_with(go_at_call 202;go_fit(km s _ hs);rw[xJ.out];rintro e w' ⟨rfl,rfl⟩)
   all_goals
    go_ret;refine⟨cD ?_,af.alloc (Nat.le_refl _) _⟩;rw[hr.out,hO.out,eV];simp
    intros
    omega
  have Qr:decide ((s.size:Int)<=40)=false:=decide_eq_false Ff;go_enter func168,ntmps168;go_wp2_with(go_at_call 202;go_fit(km s _ hs);rw[xJ.out];rintro e w' ⟨rfl,rfl⟩)
  go_ret;refine⟨cD ?_,af.alloc (Nat.le_refl _) _⟩;rw[hr.out,hO.out,eV];simp;omega
 have WW:=aa (show tP (bl s) x=false by unfold tP;rw[bl_length];simp;omega);have xJ:=aa (show(bW (bl s)&&decide (0<s.size))=false by simp[h0]);go_enter func168,ntmps168;go_wp2_with(go_at_call 202;go_fit(km s _ hs);rw[xJ.out];rintro e w' ⟨rfl,rfl⟩)
 go_ret;exact⟨cD (by rw[hr.out,WW.out]),af.alloc (Nat.le_refl _) _⟩
def oJ:Value->Nat | .string s=>s.size|_=>0
theorem ss(a b:List UInt8):aj a++aj b=aj (a++b):=by apply ByteArray.ext;simp[aj]
theorem kV(l:List Nat):cf l=aj (l.map fun v=>UInt8.ofNat (v+48)):=by rw[<-iD,dh]
theorem fN(a b:List Nat):cf a++cf b=cf (a++b):=by rw[kV,kV,kV,ss,List.map_append]
theorem oY:cf []=⟨#[]⟩:=rfl
theorem OE:cf [0]=⟨#[48]⟩:=rfl
theorem KL(s:ByteArray)(h:bW (bl s)=true):cf (dg s)=s:=by
 rw[kV]
 conv=>rhs;rw[<-dh s]
 congr 1
 unfold dg;rw[List.map_map]
 conv=>rhs;rw[<-List.map_id (bl s)]
 apply List.map_congr_left;intro c hc;have:=(bZ c).1 ((List.all_eq_true.1 h) c hc);apply UInt8.toNat_inj.1;show(UInt8.ofNat (c.toNat-48+48)).toNat=_;rw[UInt8.toNat_ofNat'];show _=c.toNat;omega
theorem sr(l:List Nat)(hd:pi l)(k:Nat)(h:k<l.length)(h':k<(cf l).size):(cf l)[k].toNat=l[k]+48:=by rw[<-bH _ k h'];simp only[iD,List.getElem_map];exact fV _ (hd _ (List.getElem_mem _))
theorem kP(n:Nat)(w:World)(hn:n<=100000):Calls prog 169 #[.int .i64 n] w fun e w'=>e=.returned (.string (cf (List.replicate n 0)))/\w'=w:=by
 go_enter func169,ntmps169;go_wp2;go_loop [3,4] (fun s i=>∃k:Nat,k<=n/\i=.int .i64 k/\s=.string (cf (List.replicate k 0))) (fun s i=>n-(intOf i).toNat)
 case atStart=>exact⟨0,Nat.zero_le _,rfl,rfl⟩
 case round=>
  obtain⟨k,hk,rfl,rfl⟩:=hrel;by_cases bm:k<n
  ·have cC:(cf (List.replicate k 0)).size=k:=by rw[dF,List.length_replicate]
   go_wp2;refine⟨⟨k+1,by omega,by go_num,?_⟩,by simp[intOf];omega⟩;show Value.string _=Value.string _
   congr 1
   rw[<-OE,fN,<-List.replicate_succ']
  have ox:k=n:=by omega
  subst ox;go_wp2;go_ret;exact⟨rfl,rfl⟩
theorem pi.put{d:Nat}{l:List Nat}(h:d<=9)(hl:pi l):pi (d::l):=by
 intro x hx;rcases List.mem_cons.1 hx with e|e
 ·rw[e];exact h
 exact hl x e
theorem ru(r:Nat)(h:r<=9):(⟨#[48,49,50,51,52,53,54,55,56,57]⟩:ByteArray).extract r (r+1)=cf [r]:=by
 have:r=0\/r=1\/r=2\/r=3\/r=4\/r=5\/r=6\/r=7\/r=8\/r=9:=by omega
 rcases this with rfl|rfl|rfl|rfl|rfl|rfl|rfl|rfl|rfl|rfl<;>rfl
theorem DI(l:List Nat):(cf l).extract 1 (cf l).size=cf (l.drop 1):=by rw[bd,iD,kV,List.map_drop]
theorem DH(l:List Nat)(k:Nat):(cf l).extract 0 k=cf (l.take k):=by rw[aH,List.drop_zero,Nat.sub_zero,iD,kV,List.map_take]
theorem yW(d:List Nat)(j:Nat)(h:j<lz d)(h':j<d.length):d[j]=0:=by have e:=yq d;have h1:(d.take (lz d))[j]'(by simp;omega)=d[j]:=List.getElem_take;rw[<-h1];simp only[e];exact List.getElem_replicate ..
theorem Gy(d:List Nat)(k:Nat)(h:k<tz d)(h':d.length-1-k<d.length):d[d.length-1-k]=0:=by have h0:=yW d.reverse k h (by have:=Cx d;simp;omega);rw[List.getElem_reverse]at h0;exact h0
theorem NH(d:List Nat)(h:tz d<d.length):d[d.length-1-tz d]'(by omega)≠0:=by have h0:=uQ d.reverse (by simpa [tz] using h);rw[List.getElem_reverse]at h0;exact h0
def wG(r:Bool×ByteArray×Int×Int):Ending:=.returned (.tuple #[.agg #[.bool r.1,.string r.2.1,.int .i64 r.2.2.1],.bool (r.2.2.2==0)])
theorem Fx(neg:Bool)(d:List Nat)(x:Int)(h:lz d<d.length)(hd:pi d):eI neg (cf (gb d)) x=decide ((gb d).length<=40/\-400<=x/\x<=400):=by
 obtain⟨hc,aQ⟩:=vA d h hd;by_cases hf:(gb d).length<=40/\-400<=x/\x<=400
 ·rw[decide_eq_true hf]
  have:=yU (gb d) x hc aQ hf.1 hf.2.1 hf.2.2;simp[eI,this]
 rw[decide_eq_false hf];cases hn:eI neg (cf (gb d)) x
 ·rfl
 exfalso;apply hf;simp only[eI,Bool.or_eq_true]at hn;rcases hn with hz|ho
 ·have h1:=(zd hz).1
  rw[KM _ hc.dgs]at h1;exact absurd rfl (hc.first 0 (by rw[h1];rfl))
 obtain⟨b1,b2,b3,b4,_⟩:=rg ho;rw[dF]at b2;exact⟨b2,b3,b4⟩
theorem iV(neg:Bool)(d:List Nat)(x:Int)(w:World)(hd:pi d)(hl:d.length<=100000)(hx:-2000000<=x)(jC:x<=1000000):Calls prog 190 #[.bool neg,.string (cf d),.int .i64 x] w fun e w'=>e=wG (cg neg d x)/\Below w.heap.size w w':=by
 have Hd:=aa hd;obtain⟨n,hn⟩:∃n,d.length=n:=⟨_,rfl⟩
 obtain⟨z,hz⟩:∃z,lz d=z:=⟨_,rfl⟩
 have Xq:z<=n:=by rw[<-hz,<-hn];exact yX d
 have AT:n<=100000:=by omega
 have Hn:=aa hn;have Hz:=aa hz;clear hd hl hn hz;go_enter func190,ntmps190;go_wp2;go_loop [1] (fun s=>∃j:Nat,j<=z/\s=.string (cf (d.drop j))) (fun s=>oJ s)
 case atStart=>exact⟨0,Nat.zero_le _,rfl⟩
 case round=>
  obtain⟨j,hj,rfl⟩:=hrel;have cC:(cf (d.drop j)).size=n-j:=by rw[dF,List.length_drop,Hn.out]
  by_cases Um:j<z
  ·have hc:(cf (d.drop j))[0]'(by omega)=48:=by
    apply UInt8.toNat_inj.1;rw[sr (d.drop j) (fun x hx=>Hd.out x (List.mem_of_mem_drop hx)) 0 (by rw[List.length_drop,Hn.out];omega) (by omega)];simp only[List.getElem_drop];rw[show d[j+0]'(by rw[Hn.out];omega)=0 from yW d j (by rw[Hz.out];exact Um) (by rw[Hn.out];omega)];rfl
   have zw:=aa (DI (d.drop j));obtain⟨S,hS⟩:∃S,cf (d.drop j)=S:=⟨_,rfl⟩
   rw[hS]at cC zw ⊢;have xD:S[0]'(by omega)=48:=by subst hS;exact hc
   have h0:0<S.size:=by omega
   have Qs:(0:Int)<S.size:=by omega
   have It:(1:Int)<=S.size:=by omega
   clear hS hc;go_wp2;have rl:S.extract 1 (n-j)=cf (d.drop (j+1)):=by rw[<-cC,zw.out,List.drop_drop]
   refine⟨⟨j+1,Um,congrArg Value.string rl⟩,?_⟩;rw[rl];show(cf _).size<S.size;rw[dF,List.length_drop,Hn.out,cC];omega
  have SW:j=z:=by omega
  subst SW;by_cases dU:j=n
  ·have hE:cf (d.drop j)=⟨#[]⟩:=by rw[List.drop_of_length_le (by rw[Hn.out];omega)];rfl
   have hr:=aa (show cg neg d x=(false,⟨#[48]⟩,0,0)by unfold cg;rw[if_pos (by rw[Hz.out,Hn.out];exact dU)]);rw[hE];go_wp2;exact bodyPost_ret (v:=.tuple #[.agg #[.bool false,.string ⟨#[48]⟩,.int .i64 0],.bool true]) (by simp[results,Tryz.results190,go_sem]) rfl ⟨by rw[hr.out];rfl,ab af⟩
  have bm:Hid (lz d<d.length):=by show lz d<d.length;rw[Hz.out,Hn.out];omega
  obtain⟨m,hm⟩:∃m,n-j=m:=⟨_,rfl⟩
  have Jz:0<m:=by omega
  have Wy:Hid (d.drop j=dz d):=by show _=_;rw[dz,Hz.out]
  have oP:Hid ((dz d).length=m):=by show _=_;rw[dz,List.length_drop,Hz.out,Hn.out];exact hm
  have Uu:Hid (pi (dz d)):=fun x hx=>Hd.out x (List.mem_of_mem_drop hx);obtain⟨T,hT⟩:∃T,tz (dz d)=T:=⟨_,rfl⟩
  have Nw:T<m:=by rw[<-hT,<-oP.out];exact Jd d bm.out
  have HT:=aa hT;have hc:(cf (d.drop j))[0]'(by omega)≠48:=by
   intro e;have e':=congrArg UInt8.toNat e;rw[sr (d.drop j) (fun x hx=>Hd.out x (List.mem_of_mem_drop hx)) 0 (by rw[List.length_drop,Hn.out];omega) (by omega)]at e';simp only[List.getElem_drop]at e';have h5:d[j+0]'(by rw[Hn.out];omega)≠0:=by have:=uQ d bm.out;simp only[Hz.out]at this;exact this
   have:(48:UInt8).toNat=48:=rfl;omega
  have Ny:=aa (show cf (d.drop j)=cf ((dz d).take (m-0))by rw[Wy.out,List.take_of_length_le (by rw[oP.out];omega)]);obtain⟨S,hS⟩:∃S,cf (d.drop j)=S:=⟨_,rfl⟩
  rw[hS]at cC Ny ⊢;have xD:(S[0]'(by omega)).toNat≠48:=by subst hS;intro e;exact hc (UInt8.toNat_inj.1 (by rw[e];rfl))
  have h0:0<S.size:=by omega
  have Qs:(0:Int)<S.size:=by omega
  have br:(((S[0]'(by omega)).toNat:Int)==48)=false:=by simp;omega
  have aQ:S.toList.isEmpty=false:=by
   rw[dJ];cases hb:bl S with
   |nil=>have:=bl_length S;rw[hb]at this;simp at this;omega
   |cons=>rfl
  rw[hm]at cC;clear hS hc hT xD;go_wp2;clear cC h0 Qs br aQ;go_loop [1,2] (fun s e=>∃k:Nat,k<=T/\s=.string (cf ((dz d).take (m-k)))/\e=.int .i64 (x+k)) (fun s e=>oJ s)
  case atStart=>exact⟨0,Nat.zero_le _,congrArg Value.string Ny.out,by simp⟩
  case round=>
   obtain⟨k,hk,rfl,rfl⟩:=hrel;have cC:(cf ((dz d).take (m-k))).size=m-k:=by rw[dF,List.length_take,oP.out];omega
   have Tj:pi ((dz d).take (m-k)):=fun x hx=>Uu.out x (List.mem_of_mem_take hx);obtain⟨c,qs⟩:∃c,(dz d)[m-1-k]'(by rw[oP.out];omega)=c:=⟨_,rfl⟩
   have Rd:((cf ((dz d).take (m-k)))[m-k-1]'(by omega)).toNat=c+48:=by
    rw[sr _ Tj (m-k-1) (by rw[List.length_take,oP.out];omega) (by omega)];simp only[List.getElem_take];rw[<-qs]
    congr 2
    omega
   have ms:=aa (DH ((dz d).take (m-k)) (m-k-1));have XK:c<=9:=by rw[<-qs];exact Uu.out _ (List.getElem_mem _)
   obtain⟨i,hi⟩:∃i,m-k-1=i:=⟨_,rfl⟩
   have Td:((m-k:Nat):Int)-1=i:=by omega
   by_cases Ul:k<T
   ·have iY:c=0:=by
     rw[<-qs];have:=Gy (dz d) k (by rw[HT.out];exact Ul) (by rw[oP.out];omega);simp only[oP.out]at this;exact this
    obtain⟨S,hS⟩:∃S,cf ((dz d).take (m-k))=S:=⟨_,rfl⟩
    rw[hi]at ms;rw[hS]at cC ms ⊢;have Wq:i<S.size:=by omega
    have Ta:(i:Int)<S.size:=by omega
    have oM:i<m-k:=by omega
    have SG:(i:Int)<((m-k:Nat):Int):=by omega
    have hg:S[i].toNat=48:=by subst hS;simp only[<-hi];rw[Rd];omega
    have ii:((S[i].toNat:Int)==48)=true:=by simp;omega
    clear hS Rd qs;go_wp2;have rl:S.extract 0 i=cf ((dz d).take (m-(k+1))):=by
     rw[ms.out,List.take_take]
     congr 2
     omega
    refine⟨⟨k+1,Ul,congrArg Value.string rl,congrArg (Value.int IntKind.i64) (by omega)⟩,?_⟩;rw[rl];show(cf _).size<S.size;rw[dF,List.length_take,oP.out,cC];omega
   have ox:k=T:=by omega
   subst ox;have iY:c≠0:=by rw[<-qs];have:=NH (dz d) (by rw[HT.out,oP.out];exact Nw);simp only[oP.out,HT.out]at this;exact this
   have hcore:Hid (cf ((dz d).take (m-k))=cf (gb d)):=by show _=_;rw[gb,oP.out,HT.out]
   have hclen:Hid ((gb d).length=m-k):=by show _=_;rw[vy,oP.out,HT.out]
   obtain⟨fit,ma⟩:∃fit,decide ((gb d).length<=40/\-400<=x+k/\x+k<=400)=fit:=⟨_,rfl⟩
   have Ik:=aa (Fx neg d (x+k) bm.out Hd.out);rw[<-hcore.out,ma]at Ik;have hform:Hid (cg neg d x=if fit then (neg,cf ((dz d).take (m-k)),x+k,0) else (false,⟨#[]⟩,0,2)):=by
    show cg neg d x=_;unfold cg;rw[if_neg (by have:=bm.out;omega),HT.out,hcore.out];by_cases q:(gb d).length<=40/\-400<=x+(k:Int)/\x+(k:Int)<=400
    ·rw[if_pos q];rw[decide_eq_true q]at ma;rw[<-ma];rfl
    rw[if_neg q];rw[decide_eq_false q]at ma;rw[<-ma];rfl
   obtain⟨S,hS⟩:∃S,cf ((dz d).take (m-k))=S:=⟨_,rfl⟩
   rw[hS]at cC Ik hform ⊢;have Wq:i<S.size:=by omega
   have Ta:(i:Int)<S.size:=by omega
   have oM:i<m-k:=by omega
   have SG:(i:Int)<((m-k:Nat):Int):=by omega
   have hg:S[i].toNat=c+48:=by subst hS;simp only[<-hi];exact Rd
   have ii:((S[i].toNat:Int)==48)=false:=by simp;omega
   have UG:=aa (show S.size<=maxLen by unfold maxLen;omega);clear hS Rd qs ma;cases fit
   ·go_wp2_with fail
    go_fit(bQ neg S (x+k) _ UG.out);rw[Ik.out];rintro e w1 ⟨rfl,bO⟩;obtain⟨q1,q2⟩:=zK bO;have f0:=q2 w.heap.size 0 (by simp<;>omega);have f1:=q2 w.heap.size 1 (by simp<;>omega);have f2:=q2 w.heap.size 2 (by simp<;>omega);have c0:=q1 w.heap.size 0 (by simp<;>omega);have c1:=q1 w.heap.size 1 (by simp<;>omega);have c2:=q1 w.heap.size 2 (by simp<;>omega);simp[go_sem]at f0 f1 f2 c0 c1 c2;clear q1 q2;go_wp2;refine bodyPost_ret (v:=.tuple #[.agg #[.bool false,.string ⟨#[]⟩,.int .i64 0],.bool false]) (by simp[results,Tryz.results190,go_sem,c0,c1,c2]) rfl ⟨by rw[hform.out];rfl,?_⟩;exact(((ay (ay bO)).setCell (Nat.le_refl _) _).setCell (Nat.le_refl _) _).setCell (Nat.le_refl _) _
   go_wp2_with fail
   go_fit(bQ neg S (x+k) _ UG.out);rw[Ik.out];rintro e w1 ⟨rfl,bO⟩;obtain⟨q1,q2⟩:=zK bO;have f0:=q2 w.heap.size 0 (by simp<;>omega);have f1:=q2 w.heap.size 1 (by simp<;>omega);have f2:=q2 w.heap.size 2 (by simp<;>omega);have c0:=q1 w.heap.size 0 (by simp<;>omega);have c1:=q1 w.heap.size 1 (by simp<;>omega);have c2:=q1 w.heap.size 2 (by simp<;>omega);have c3:=q1 (w.heap.size+1) 0 (by simp<;>omega);have c4:=q1 (w.heap.size+1) 1 (by simp<;>omega);have c5:=q1 (w.heap.size+1) 2 (by simp<;>omega);simp[go_sem]at f0 f1 f2 c0 c1 c2 c3 c4 c5;clear q1 q2;go_wp2;refine bodyPost_ret (v:=.tuple #[.agg #[.bool neg,.string S,.int .i64 (x+k)],.bool true]) (by simp[results,Tryz.results190,go_sem,c0,c1,c2]) rfl ⟨by rw[hform.out];rfl,?_⟩;exact(((ay (ay bO)).setCell (Nat.le_refl _) _).setCell (Nat.le_refl _) _).setCell (Nat.le_refl _) _
