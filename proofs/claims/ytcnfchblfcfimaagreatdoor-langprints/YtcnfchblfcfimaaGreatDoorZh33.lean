import Derived.Test.YtcnfchblfcfimaaGreatDoorZh26
import Derived.Test.YtcnfchblfcfimaaGreatDoorZh21
import Derived.Test.YtcnfchblfcfimaaGreatDoorUZh19
import Derived.Test.YtcnfchblfcfimaaGreatDoorZh31
import Derived.Laws.CopyRow
import Derived.Laws.MakeOwn
import Derived.Laws.CopyOwn
set_option linter.all false
set_option maxHeartbeats 4000000
set_option maxRecDepth 100000
namespace Go.Proofs.YtcnfchblfcfimaaGreatDoor
open Proofs.Tryz RowKit
namespace Lx
theorem gc(w:World)(n B:Nat):Below B w (w.drewN n):=⟨rfl,rfl,rfl,Nat.le_refl _,fun _ _=>rfl⟩
theorem BI(g q:Nat):((⟨g,0,none⟩:Addr).add q)=⟨g,0+q,none⟩:=by
 unfold Addr.add
 split
 ·rename_i h;rw[h]
 simp
def TS(W:World)(v:Value)(l:List Tk):Prop:=∃a c,v=.slice a l.length c/\l.length<=c/\c<=maxLen/\(0<l.length->∃b o,a=some ⟨b,o,none⟩/\b<W.heap.size/\∀k (h:k<l.length),W.cell? ⟨b,o+k*3,none⟩=some (.int .i64 l[k].w)/\W.cell? ⟨b,o+k*3+1,none⟩=some (.string (aj l[k].s))/\W.cell? ⟨b,o+k*3+2,none⟩=some (.int .i64 l[k].p))
theorem TS.of{w W:World}{v:Value}{l:List Tk}(h:TS w v l)(hz:w.heap.size<=W.heap.size)(hb:∀k,k<w.heap.size->W.heap[k]?=w.heap[k]?):TS W v l:=by obtain⟨a,c,rfl,h1,h2,h3⟩:=h;refine⟨a,c,rfl,h1,h2,fun hp=>?_⟩;obtain⟨b,o,e,bm,hc⟩:=h3 hp;refine⟨b,o,e,by omega,fun k hk=>?_⟩;have hq:∀x,W.cell? ⟨b,x,none⟩=w.cell? ⟨b,x,none⟩:=fun x=>World.cell?_of_block (w:=w) (hb b bm);rw[hq,hq,hq];exact hc k hk
theorem TS.below{w W:World}{v:Value}{l:List Tk}(h:TS w v l)(hb:Below w.heap.size w W):TS W v l:=h.of hb.size hb.block
theorem TS.nil(W:World):TS W (.slice none 0 0) []:=⟨none,0,rfl,by simp,by unfold maxLen;omega,fun h=>by simp at h⟩
theorem CE:∀(l:List Tk) (k:Nat) (h:k<l.length),(gV l)[k*3]?=some (.int .i64 l[k].w)/\(gV l)[k*3+1]?=some (.string (aj l[k].s))/\(gV l)[k*3+2]?=some (.int .i64 l[k].p)
 | [],k,h=>by simp at h
 |t::l,0,h=>by simp[gV]
 |t::l,k+1,h=>by
  have:=CE l k (by simpa using h);have e:gV (t::l)=[.int .i64 t.w,.string (aj t.s),.int .i64 t.p]++gV l:=by simp[gV]
  rw[e];have ap:∀q,([.int .i64 t.w,.string (aj t.s),.int .i64 t.p]++gV l:List Value)[3+q]?=(gV l)[q]?:=fun q=>by rw[List.getElem?_append_right (by simp)];simp
  have e1:(k+1)*3=3+k*3:=by omega
  have e2:(k+1)*3+1=3+(k*3+1):=by omega
  have e3:(k+1)*3+2=3+(k*3+2):=by omega
  rw[e2,e3,e1,ap,ap,ap]
  simpa using this
theorem OT.ts{W:World}{B:Nat}{v:Value}{l:List Tk}(h:OT W B v l)(hl:l.length<=100000):TS W v l:=by
 have hc:=h;have bm:=World.ownsRow.lt h;rcases h.2 with⟨rfl,h0⟩|⟨g,cap,cur,rfl,h1,h2,h3,h4,h5⟩
 ·have:l=[]:=List.length_eq_zero_iff.1 h0
  subst this;exact TS.nil W
 refine⟨_,cap,rfl,h3,by first|exact h4|(unfold maxLen;omega),fun hp=>⟨g,0,rfl,(bm g rfl).2,fun k hk=>?_⟩⟩;have hcells:∀j u,(gV l)[j]?=some u->W.cell? ((⟨g,0,none⟩:Addr).add j)=some u:=World.ownsRow.cells hc (g:=g) rfl;obtain⟨t1,t2,t3⟩:=CE l k hk;have ad:∀q,((⟨g,0,none⟩:Addr).add q)=⟨g,0+q,none⟩:=fun q=>BI g q;exact⟨by have:=hcells _ _ t1;rwa [ad]at this,by have:=hcells _ _ t2;rwa [ad]at this,by have:=hcells _ _ t3;rwa [ad]at this⟩
theorem TS.shape{W:World}{v:Value}{l:List Tk}(h:TS W v l):∃a c,v=.slice a l.length c/\l.length<=c/\c<=maxLen:=by obtain⟨a,c,rfl,h1,h2,_⟩:=h;exact⟨a,c,rfl,h1,h2⟩
theorem TS.at{W:World}{a:Option Addr}{n c:Nat}{l:List Tk}(h:TS W (.slice a n c) l)(k:Nat)(hk:k<l.length):∃b o,a=some ⟨b,o,none⟩/\b<W.heap.size/\W.cell? ⟨b,o+k*3,none⟩=some (.int .i64 l[k].w)/\W.cell? ⟨b,o+k*3+1,none⟩=some (.string (aj l[k].s))/\W.cell? ⟨b,o+k*3+2,none⟩=some (.int .i64 l[k].p):=by obtain⟨a',c',e,h1,h2,h3⟩:=h;cases e;obtain⟨b,o,e,bm,hc⟩:=h3 (by omega);exact⟨b,o,e,bm,hc k hk⟩
def oC(l:List Tk):Nat:=l.length+(l.map fun t=>t.s.length).sum
theorem Ho{w:Int}{k:Nat}(h1:1<=k)(h5:k<5)(h:((wdK k:Nat):Int)=w):mq w=k:=by
 have:k=1\/k=2\/k=3\/k=4:=by omega
 rcases this with rfl|rfl|rfl|rfl<;>(subst h;rfl)
theorem Eb{w:Int}(h:∀i,1<=i->i<5->¬((wdK i:Nat):Int)=w):mq w=0:=by
 have a1:=h 1 (by omega) (by omega);have a2:=h 2 (by omega) (by omega);have a3:=h 3 (by omega) (by omega);have a4:=h 4 (by omega) (by omega);simp only[wdK]at a1 a2 a3 a4;unfold mq
 (repeat' split)<;>simp_all
theorem pP(x:Int)(w:World)(g:Gg w):Calls prog 71 #[.int .i64 x] w fun e w'=>e=.returned (.int .i64 (mq x:Nat))/\w'=w:=by
 have wo:=aa g.wo;clear g;go_enter func71,ntmps71;go_wp2;go_loop [3] (fun i=>∃k:Nat,i=.int .i64 k/\1<=k/\k<=5/\Hid (∀i,1<=i->i<k->¬((wdK i:Nat):Int)=x)) (fun i=>5-(intOf i).toNat)
 case atStart=>exact⟨1,rfl,by omega,by omega,fun i h1 h2=>by omega⟩
 case round=>
  obtain⟨k,rfl,h1,h5,H⟩:=hrel;by_cases hk:k<5
  ·have bF:(k:Int)<5:=by omega
   have eM:(0:Int)<=(k:Int):=by omega
   have hc:=wo.out k hk;by_cases he:((wdK k:Nat):Int)=x
   ·have hd:=aa (Ho h1 hk he)
    have e1:(((wdK k:Nat):Int)==x)=true:=by simpa using he
    clear he;go_wp2;go_ret;exact⟨by rw[hd.out];rfl,rfl⟩
   have e1:(((wdK k:Nat):Int)==x)=false:=by simpa using he
   have H2:Hid (∀i,1<=i->i<k+1->¬((wdK i:Nat):Int)=x):=fun i a b=>by
    by_cases hi:i=k
    ·subst hi;exact he
    exact H.out i a (by omega)
   clear he H;go_wp2
   go_round
   case rel=>exact⟨k+1,by go_num,by omega,by omega,H2⟩
   case measure=>simp[intOf];omega
  have bF:¬(k:Int)<5:=by omega
  have hd:Hid (mq x=0):=Eb fun i a b=>H.out i a (by omega);clear H;go_wp2;go_ret;exact⟨by rw[hd.out];rfl,rfl⟩
theorem AM(hP:aW)(t:Tk)(w:World)(g:Gg w)(hs:t.s.length<=70000):Calls prog 70 #[.agg #[.int .i64 t.w,.string (aj t.s),.int .i64 t.p]] w fun e w'=>e=.returned (.bool (mZ dE t.w t.s))/\Below w.heap.size w w':=by
 obtain⟨x,l,p⟩:=t;simp only at hs ⊢;have g1:Hid (∀o,Gg (w.alloc o)):=fun o=>g.below (ab af) g.sz;obtain⟨s,nQ⟩:∃s,aj l=s:=⟨_,rfl⟩
 have pc:bl s=l:=by rw[<-nQ,ah]
 have cC:s.size=l.length:=by rw[<-nQ,ag]
 rw[nQ];have Gh:=aa (fun o=>pP x (w.alloc o) (g1.out o));have dM:Hid (∀o,Below w.heap.size w (w.alloc o)):=fun o=>ab af;unfold mZ;obtain⟨k,hk⟩:∃k,mq x=k:=⟨_,rfl⟩
 have iy:k<5:=by rw[<-hk];unfold mq;(repeat' split)<;>omega
 rw[hk]at Gh ⊢;clear hk g nQ;by_cases h0:k=0
 ·subst h0
  rw[if_pos rfl];clear pc;go_enter func70,ntmps70;go_wp2_with(go_at_call 71;refine(Gh.out _).mono ?_;rintro e w1 ⟨rfl,aT⟩;have bi:=aT.symm;clear aT;subst bi)
  go_ret;exact⟨rfl,dM.out _⟩
 rw[if_neg h0];have e0:((k:Int)==0)=false:=by simp;omega
 by_cases h3:k=3
 ·subst h3
  rw[if_pos rfl];have RV:=aa (fun o=>Ut.valid_any s (w.alloc o) (g1.out o).gu (by omega));have QU:Ut.okT (Ut.bl s)=okT l:=by rw[<-pc];rfl
  rw[QU]at RV;obtain⟨b,hb⟩:∃b,okT l=b:=⟨_,rfl⟩
  rw[hb]at RV ⊢;clear pc QU hb h0;go_enter func70,ntmps70;go_wp2_with(first|(go_at_call 71;refine(Gh.out _).mono ?_;rintro e w1 ⟨rfl,aT⟩;have bi:=aT.symm;clear aT;subst bi)|(go_at_call 129;refine(RV.out _).mono ?_;rintro e w2 ⟨rfl,aq⟩;have aq:=aa (ac (dM.out _) aq)))
  go_ret;exact⟨rfl,aq.out⟩
 rw[if_neg h3];have e3:((k:Int)==3)=false:=by simp;omega
 by_cases hn:l=[]
 ·rw[if_pos hn]
  have ow:s=⟨#[]⟩:=by rw[<-dh s,pc,hn];rfl
  subst ow;clear pc cC hn;go_enter func70,ntmps70;go_wp2_with(go_at_call 71;refine(Gh.out _).mono ?_;rintro e w1 ⟨rfl,aT⟩;have bi:=aT.symm;clear aT;subst bi)
  go_ret;exact⟨rfl,dM.out _⟩
 rw[if_neg hn];have Id:0<s.size:=by rw[cC];exact List.length_pos_iff.2 hn
 have aQ:¬s.toList=[]:=by rw[dJ,pc];exact hn
 have VU:s.toList.isEmpty=false:=by rw[dJ,pc];cases l with|nil=>exact absurd rfl hn|cons a t=>rfl
 have pY:=aa (fun o=>zI hP k iy s (w.alloc o) (g1.out o) Id (Or.inr ⟨h3,by omega⟩));rw[pc]at pY;obtain⟨xn,Pa⟩:∃xn,eZ dE k l=xn:=⟨_,rfl⟩
 rw[Pa]at pY ⊢;obtain⟨y,n⟩:=xn;simp only[Fw]at pY ⊢;have AT:((n:Int)==(s.size:Int))=(n==l.length):=by rw[cC];cases h:(n==l.length)<;>simp at h ⊢ <;> omega
 obtain⟨b,hb⟩:∃b,(n==l.length)=b:=⟨_,rfl⟩
 rw[hb]at AT ⊢;clear pc cC hn Pa hb h0 h3 Id;go_enter func70,ntmps70;go_wp2_with(first|(go_at_call 71;refine(Gh.out _).mono ?_;rintro e w1 ⟨rfl,aT⟩;have bi:=aT.symm;clear aT;subst bi)|(go_at_call 113;refine(pY.out _).mono ?_;rintro e w2 ⟨rfl,aq⟩;have br:w2.cell? ⟨w.heap.size,1,none⟩=some (.string s):=(World.cell?_of_block (aq.block w.heap.size (by simp))).trans (by simp);have aq:=aa (ac (dM.out _) aq)))
 go_ret;exact⟨rfl,aq.out⟩
theorem Ak(t:Tk)(w:World)(hs:t.s.length<=5000):Calls prog 72 #[.agg #[.int .i64 t.w,.string (aj t.s),.int .i64 t.p]] w fun e w'=>e=.returned (.string (aj (cF t)))/\Below w.heap.size w w':=by
 obtain⟨x,l,p⟩:=t;simp only at hs ⊢;unfold cF NT;simp only;obtain⟨s,nQ⟩:∃s,aj l=s:=⟨_,rfl⟩
 have pc:bl s=l:=by rw[<-nQ,ah]
 have cC:s.size=l.length:=by rw[<-nQ,ag]
 have dM:Hid (∀o,Below w.heap.size w (w.alloc o)):=fun o=>ab af;have hq:=aa (fun o=>Ar s (w.alloc o) (by omega));rw[pc]at hq;obtain⟨Z,hZ⟩:∃Z,aj (rY l)=Z:=⟨_,rfl⟩
 rw[hZ]at hq;rw[nQ];by_cases h2:x=2
 ·subst h2
  rw[if_pos rfl,hZ];clear nQ pc cC hZ;go_enter func72,ntmps72;go_wp2_with(go_at_call 130;refine(hq.out _).mono ?_;rintro e w2 ⟨rfl,aq⟩;have aq:=aa (ac (dM.out _) aq))
  go_ret;exact⟨rfl,aq.out⟩
 rw[if_neg h2,nQ];have e2:(x==2)=false:=by simpa using h2
 clear nQ pc cC hZ h2;go_enter func72,ntmps72;go_wp2;go_ret;exact⟨rfl,dM.out _⟩
section
variable {w : World} {ops : Array Oper} {rest : List Oper} {o : Oper} {a : Act} {Q : Exit → Act → World → Prop}
theorem yb(hgd:o.guard=none)(s x:Operand)(ho:o.op=.call {callee:=.builtin .append,args:=#[s,x],argTypes:=#[94,94]})
  (B:Nat) (v:Value) (l:List UInt8) (hs:a.eval s=v) (bz:dj w B v l) (ad:Addr) (m c:Nat) (news:List UInt8) (hx:a.eval x=.slice (some ad) m c) (hm:news.length=m)
  (hnews:∀j u,(jS news)[j]?=some u->w.cell? (ad.add j)=some u) (hl:l.length+m<=100000) (hB:B<=w.heap.size)
  (h:∀v' w',Hid (dj w' B v' (l++news))->Hid (w.grownBy w' v.ownBlock)->wpList prog ops Q rest (a.put o.dst v') w'):wpList prog ops Q (o::rest) a w:=by
 obtain⟨i0,hi,fY,gD,eR⟩:=info_parts ou;refine wpList_append_own w hgd s x 94 ho B 5 i0 (.int .u8 0) 1 1 Tryz.underlying94 hi fY gD eR rfl (by decide) v l.length (jS l) hs bz ad m c (jS news) hx (by rw[jv,hm];simp) hnews ?_ ?_ ?_ hB ?_
 ·intro u hu
  simp only[jS,List.mem_map]at hu;obtain⟨c,_,rfl⟩:=hu;rfl
 ·unfold maxLen;omega
 ·omega
 intro v' w' h1 h2 _;refine h v' w' ?_ h2;show dj _ _ _ _;unfold dj;rw[eO,List.length_append,hm];exact h1
end
def wZ(t:Tk):Bool:=decide (lgK (mq t.w)<t.s.length)
def kS(l:List Tk):Nat×List UInt8:=if ¬(∀t∈l,mZ dE t.w t.s=true) then (1,[]) else if 1024<l.length\/(∃t∈l,wZ t=true)\/4096<(jn (l.map cF)).length then (2,[]) else (0,jn (l.map cF))
def Ng(x:Nat×List UInt8):Ending:=.returned (.tuple #[.string (aj x.2),.int .i64 (x.1:Nat)])
theorem yV:∀ {l:List Nat} {a:Nat},a∈l->a<=l.sum
 |b::l,a,h=>by
  rw[List.sum_cons];rcases List.mem_cons.1 h with rfl|h
  ·omega
  have:=yV h;omega
theorem sA:∀(l:List (List UInt8)) (a:List UInt8),jn (l++[a])=(if l=[] then a else jn l++32::a)
 | [],a=>rfl
 | [b],a=>by simp[jn]
 |b::c::l,a=>by have:=sA (c::l) a;rw[if_neg (by simp)]at this ⊢;simp only[List.cons_append]at this ⊢;simp only[jn];rw[this];simp
theorem Hp(l:List (List UInt8)):∀k,(jn (l.take k)).length<=(jn l).length:=by
 intro k
 induction l generalizing k with
 |nil=>simp
 |cons a l ih=>
  cases k with
  |zero=>simp[jn]
  |succ k=>
   rw[List.take_succ_cons];cases l with
   |nil=>simp
   |cons b l=>
    cases k with
    |zero=>simp[jn]
    |succ k=>
     have:=ih (k+1);rw[List.take_succ_cons]at this ⊢;simp only[jn,List.length_append,List.length_cons];omega
end Lx
theorem Dj:∀(l:List UInt8) (acc:Nat),913<=acc->913<=gI acc l
 | [],acc,h=>h
 |c::l,acc,h=>by unfold gI;exact Dj l _ (by omega)
theorem JY(c:UInt8):c.toNat-48<=207:=by have:=c.toNat_lt;omega
theorem yD:∀(l:List UInt8) (acc:Nat),tO acc l=gI acc l\/(913<=tO acc l/\913<=gI acc l)
 | [],acc=>Or.inl rfl
 |c::l,acc=>by
  by_cases h:acc<=912
  ·have hc:=JY c
   have e1:tO acc (c::l)=tO (acc*10+(c.toNat-48)) l:=if_pos h;have e2:gI acc (c::l)=gI (min (10*acc+(c.toNat-48)) 1000000) l:=rfl;have e3:min (10*acc+(c.toNat-48)) 1000000=acc*10+(c.toNat-48):=by omega
   rw[e1,e2,e3];exact yD l _
  right;rw[yE acc (c::l) h];exact⟨by omega,Dj (c::l) acc (by omega)⟩
theorem Dp(pn:Bool)(l:List UInt8):gw pn l=fU pn l\/(913<=gw pn l/\913<=fU pn l)\/(gw pn l<=-913/\fU pn l<=-913):=by
 unfold gw fU;rcases yD l 0 with h|⟨h1,h2⟩
 ·left;rw[h]
 right;cases pn
 ·left;simp;omega
 right;simp;omega
theorem ro(n:Bool)(d:List Nat)(x y:Int)(h:(∀t:Nat,t<=d.length->¬(-400<=x+t/\x+t<=400))/\(∀t:Nat,t<=d.length->¬(-400<=y+t/\y+t<=400))):cg n d x=cg n d y:=by
 have ht:tz (dz d)<=d.length:=Nat.le_trans (Cx _) (by unfold dz;rw[List.length_drop];omega);unfold cg
 split
 ·rfl
 rw[if_neg (fun q=>h.1 _ ht q.2),if_neg (fun q=>h.2 _ ht q.2)]
theorem wQ(l:List UInt8):aS l=cx l:=by
 unfold aS cx;cases h:dv l with
 |none=>rfl
 |some r=>
  obtain⟨n,wh,fr,pn,pw⟩:=r;have hf:=fj h;show(if 512<l.length then _ else _)=(if 512<l.length then _ else _)
  split
  ·rfl
  rename_i hs;have hl:wh.length+fr.length<=512:=by omega
  have oP:(bo wh++bo fr).length=wh.length+fr.length:=by rw[List.length_append,fO,fO]
  rcases Dp pn pw with e|⟨e1,e2⟩|⟨e1,e2⟩
  ·rw[e]
  ·exact ro _ _ _ _ ⟨fun t ht=>by omega,fun t ht=>by omega⟩
  exact ro _ _ _ _ ⟨fun t ht=>by omega,fun t ht=>by omega⟩
theorem ut(s:ByteArray)(w:World)(hs:s.size<=80000):Calls prog 156 #[.string s] w fun e w'=>e=ji (cx (bl s))/\Below w.heap.size w w':=by have h:=wE (bl s) w (by rw[bl_length];exact hs);rw[dh,wQ]at h;exact h
namespace Lx
theorem uw(c:UInt8)(w:World):Calls prog 122 #[.int .u8 (c.toNat:Int)] w fun e w'=>e=.returned (.bool (isDig c))/\w'=w:=by
 unfold isDig;by_cases h1:48<=c.toNat
 ·have i1:(48:Int)<=(c.toNat:Int):=by omega
  by_cases h2:c.toNat<=57
  ·have i2:(c.toNat:Int)<=57:=by omega
   rw[decide_eq_true ⟨h1,h2⟩];go_enter func122,ntmps122;go_wp2;go_ret;exact⟨rfl,rfl⟩
  have i2:¬((c.toNat:Int)<=57):=by omega
  rw[decide_eq_false (fun q=>h2 q.2)];go_enter func122,ntmps122;go_wp2;go_ret;exact⟨rfl,rfl⟩
 have i1:(c.toNat:Int)<48:=by omega
 rw[decide_eq_false (fun q=>h1 q.1)];go_enter func122,ntmps122;go_wp2;go_ret;exact⟨rfl,rfl⟩
theorem Db(c:UInt8)(w:World):Calls prog 121 #[.int .u8 (c.toNat:Int)] w fun e w'=>e=.returned (.bool (eD c))/\w'=w:=by
 rcases uT c with⟨h1,h⟩|⟨h1,h2,h⟩|⟨h1,h2,h3,h⟩|⟨h1,h⟩|⟨h1,h2,h⟩|⟨h1,h⟩<;>rw[h]<;>clear h
 ·have i1:(c.toNat:Int)<97:=by omega
  have i2:(c.toNat:Int)<65:=by omega
  have i3:((c.toNat:Int)==95)=false:=by simp;omega
  clear h1;go_enter func121,ntmps121;go_wp2;go_ret;exact⟨rfl,rfl⟩
 ·have i1:(c.toNat:Int)<97:=by omega
  have i2:(65:Int)<=(c.toNat:Int):=by omega
  have i3:(c.toNat:Int)<=90:=by omega
  clear h1 h2;go_enter func121,ntmps121;go_wp2;go_ret;exact⟨rfl,rfl⟩
 ·have i1:(c.toNat:Int)<97:=by omega
  have i2:(65:Int)<=(c.toNat:Int):=by omega
  have i3:¬((c.toNat:Int)<=90):=by omega
  have i4:((c.toNat:Int)==95)=false:=by simp;omega
  clear h1 h2 h3;go_enter func121,ntmps121;go_wp2;go_ret;exact⟨rfl,rfl⟩
 ·rw[h1]
  clear h1;go_enter func121,ntmps121;go_wp2;go_ret;exact⟨rfl,rfl⟩
 ·have i1:(97:Int)<=(c.toNat:Int):=by omega
  have i3:(c.toNat:Int)<=122:=by omega
  clear h1 h2;go_enter func121,ntmps121;go_wp2;go_ret;exact⟨rfl,rfl⟩
 have i1:(97:Int)<=(c.toNat:Int):=by omega
 have i2:(65:Int)<=(c.toNat:Int):=by omega
 have i3:¬((c.toNat:Int)<=122):=by omega
 have i5:¬((c.toNat:Int)<=90):=by omega
 have i4:((c.toNat:Int)==95)=false:=by simp;omega
 clear h1;go_enter func121,ntmps121;go_wp2;go_ret;exact⟨rfl,rfl⟩
theorem GS(s:ByteArray)(c:UInt8)(w:World)(hs:s.size<=1000):Calls prog 123 #[.string s,.int .u8 (c.toNat:Int)] w fun e w'=>e=.returned (.bool (decide (c∈bl s)))/\w'=w:=by
 go_enter func123,ntmps123;go_wp2;go_loop [5] (fun i=>∃k:Nat,i=.int .i64 k/\k<=s.size/\Hid (∀j (h:j<s.size),j<k->¬s[j]=c)) (fun i=>s.size-(intOf i).toNat)
 case atStart=>exact⟨0,rfl,Nat.zero_le _,fun j h1 h2=>by omega⟩
 case round=>
  obtain⟨k,rfl,hk,H⟩:=hrel;by_cases aE:k<s.size
  ·have bF:(k:Int)<(s.size:Int):=by omega
   by_cases he:s[k]=c
   ·have hd:Hid (decide (c∈bl s)=true):=decide_eq_true (by rw[<-he,<-bH s k aE];exact List.getElem_mem _)
    have e1:((s[k].toNat:Int)==(c.toNat:Int))=true:=by rw[he];simp
    clear he;go_wp2;go_ret;exact⟨by rw[hd.out];rfl,rfl⟩
   have e1:((s[k].toNat:Int)==(c.toNat:Int))=false:=by have:¬s[k].toNat=c.toNat:=fun q=>he (UInt8.toNat_inj.1 q);simp;omega
   have H2:Hid (∀j (h:j<s.size),j<k+1->¬s[j]=c):=fun j h1 h2=>by
    by_cases hj:j=k
    ·subst hj;exact he
    exact H.out j h1 (by omega)
   clear he H;go_wp2
   go_round
   case rel=>exact⟨k+1,by go_num,by omega,H2⟩
   case measure=>simp[intOf];omega
  have bF:¬(k:Int)<(s.size:Int):=by omega
  have hd:Hid (decide (c∈bl s)=false):=decide_eq_false (fun h=>by
   obtain⟨j,hj,e⟩:=List.mem_iff_getElem.1 h;have Mc:j<s.size:=by rw[bl_length]at hj;exact hj
   rw[bH s j Mc]at e;exact H.out j Mc (by omega) e)
  go_wp2;go_ret;exact⟨by rw[hd.out];rfl,rfl⟩
theorem RO:∀n:Fin 256,let c:=UInt8.ofNat n.val;
  decide (c∈bl ⟨#[46,59,44,58,61,40,41,91,93,123,125]⟩)=gS c/\(isDig c||decide (c∈bl ⟨#[46,101,69,43,45]⟩))=cT c:=by decide +kernel
theorem RP(c:UInt8):decide (c∈bl ⟨#[46,59,44,58,61,40,41,91,93,123,125]⟩)=gS c/\(isDig c||decide (c∈bl ⟨#[46,101,69,43,45]⟩))=cT c:=by
 have:=RO ⟨c.toNat,c.toNat_lt⟩;simp only at this
 rwa [show UInt8.ofNat c.toNat=c by simp]at this
theorem RM:∀n:Fin 256,let c:=UInt8.ofNat n.val;(eD c=true->isDig c=false/\dw c=true)/\(dw c=true->isDig c=false->eD c=true):=by decide +kernel
theorem KV(c:UInt8):(eD c=true->isDig c=false/\dw c=true)/\(dw c=true->isDig c=false->eD c=true):=by
 have:=RM ⟨c.toNat,c.toNat_lt⟩;simp only at this
 rwa [show UInt8.ofNat c.toNat=c by simp]at this
def iU(l:List UInt8):Bool:=!l.isEmpty&&(uM l==l.length)
theorem Cq{p:UInt8->Bool}:∀ {l:List UInt8},wh p l=l.length↔∀c∈l,p c=true
 | []=>by simp[wh]
 |c::l=>by
  constructor
  ·intro h d hd
   simp only[wh,List.length_cons]at h
   split at h
   ·rename_i hc
    rcases List.mem_cons.1 hd with rfl|hd
    ·exact hc
    exact(Cq (l:=l)).1 (by omega) d hd
   omega
  intro h;exact pj h
theorem DE(s:ByteArray):iU (bl s)=true↔0<s.size/\∀j (h:j<s.size),eD s[j]=true\/(j≠0/\isDig s[j]=true):=by
 cases hl:bl s with
 |nil=>
  have:s.size=0:=by rw[<-bl_length,hl];rfl
  simp[iU];omega
 |cons c l=>
  have hz:s.size=l.length+1:=by rw[<-bl_length,hl];rfl
  have sU:∀j (h:j<s.size),s[j]=(c::l)[j]'(by simp;omega):=fun j h=>by rw[<-bH s j h];simp only[hl]
  have hm:iU (c::l)=true↔(isDig c=false/\∀d∈c::l,dw d=true):=by
   unfold iU uM;simp only[List.isEmpty_cons,Bool.not_false,Bool.true_and,beq_iff_eq];cases hd:isDig c
   ·simp only[Bool.false_eq_true,if_false,true_and]
    exact Cq
   simp
  rw[hm];constructor
  ·rintro⟨h1,h2⟩
   refine⟨by omega,fun j hj=>?_⟩;rw[sU j hj];have Wr:=h2 _ (List.getElem_mem (l:=c::l) (n:=j) (by simp;omega));cases hd:isDig ((c::l)[j]'(by simp;omega))
   ·exact Or.inl ((KV _).2 Wr hd)
   refine Or.inr ⟨fun e=>?_,rfl⟩;subst e;simp only[List.getElem_cons_zero]at hd;rw[h1]at hd;cases hd
  rintro⟨h1,h2⟩;have h0:=h2 0 h1;rw[sU 0 h1]at h0;simp only[List.getElem_cons_zero,ne_eq,not_true_eq_false,false_and,or_false]at h0;refine⟨((KV c).1 h0).1,fun d hd=>?_⟩;obtain⟨j,hj,rfl⟩:=List.mem_iff_getElem.1 hd;have Mc:j<s.size:=by rw[hz];simpa using hj
  have:=h2 j Mc;rw[sU j Mc]at this;rcases this with h|⟨_,h⟩
  ·exact((KV _).1 h).2
  simp[dw,h]
theorem qY(s:ByteArray)(w:World)(hs:s.size<=100000):Calls prog 140 #[.string s] w fun e w'=>e=.returned (.bool (iU (bl s)))/\w'=w:=by
 have xx:=aa (DE s);obtain⟨r,hr⟩:∃r,iU (bl s)=r:=⟨_,rfl⟩
 rw[hr]at xx ⊢;clear hr;go_enter func140,ntmps140;go_wp2;go_loop [3] (fun i=>∃k:Nat,i=.int .i64 k/\k<=s.size/\Hid (∀j (h:j<s.size),j<k->eD s[j]=true\/(j≠0/\isDig s[j]=true))) (fun i=>s.size-(intOf i).toNat)
 case atStart=>exact⟨0,rfl,Nat.zero_le _,fun j h1 h2=>by omega⟩
 case round=>
  obtain⟨k,rfl,hk,H⟩:=hrel;by_cases aE:k<s.size
  ·have bF:(k:Int)<(s.size:Int):=by omega
   have hl:=aa (fun w=>Db s[k] w);have hd:=aa (fun w=>uw s[k] w);obtain⟨a,ha⟩:∃a,eD s[k]=a:=⟨_,rfl⟩
   obtain⟨b,hb⟩:∃b,isDig s[k]=b:=⟨_,rfl⟩
   rw[ha]at hl;rw[hb]at hd;by_cases eS:a=true\/(k≠0/\b=true)
   ·have H2:Hid (∀j (h:j<s.size),j<k+1->eD s[j]=true\/(j≠0/\isDig s[j]=true)):=fun j h1 h2=>by
     by_cases hj:j=k
     ·subst hj;rw[ha,hb];exact eS
     exact H.out j h1 (by omega)
    have Pg:a=true\/(a=false/\k≠0/\b=true):=by
     cases a
     ·rcases eS with h|h
      ·cases h
      exact Or.inr ⟨rfl,h⟩
     exact Or.inl rfl
    clear H eS ha hb;rcases Pg with rfl|⟨rfl,eM,rfl⟩
    ·go_wp2_with(first|(go_at_call 121;refine(hl.out _).mono ?_;rintro e w1 ⟨rfl,aT⟩;have bi:=aT.symm;clear aT;subst bi))
     go_round
     case rel=>exact⟨k+1,by go_num,by omega,H2⟩
     case measure=>simp[intOf];omega
    have e0:((k:Int)==0)=false:=by simp;omega
    clear eM;go_wp2_with(first|(go_at_call 121;refine(hl.out _).mono ?_;rintro e w1 ⟨rfl,aT⟩;have bi:=aT.symm;clear aT;subst bi)|(go_at_call 122;refine(hd.out _).mono ?_;rintro e w2 ⟨rfl,gi⟩;have jm:=gi.symm;clear gi;subst jm))
    go_round
    case rel=>exact⟨k+1,by go_num,by omega,H2⟩
    case measure=>simp[intOf];omega
   have hr:Hid (r=false):=by
    show _=_;cases r
    ·rfl
    have:=(xx.out.1 rfl).2 k aE;rw[ha,hb]at this;exact absurd this eS
   have WN:a=false:=by
    cases a
    ·rfl
    exact absurd (Or.inl rfl) eS
   subst WN;have Wj:k=0\/(k≠0/\b=false):=by
    by_cases eM:k=0
    ·exact Or.inl eM
    refine Or.inr ⟨eM,?_⟩;cases b
    ·rfl
    exact absurd (Or.inr ⟨eM,rfl⟩) eS
   clear eS ha hb H;rcases Wj with eM|⟨eM,rfl⟩
   ·have e0:((k:Int)==0)=true:=by simp;omega
    clear eM;go_wp2_with(first|(go_at_call 121;refine(hl.out _).mono ?_;rintro e w1 ⟨rfl,aT⟩;have bi:=aT.symm;clear aT;subst bi))
    go_ret;exact⟨by rw[hr.out];rfl,rfl⟩
   have e0:((k:Int)==0)=false:=by simp;omega
   clear eM;go_wp2_with(first|(go_at_call 121;refine(hl.out _).mono ?_;rintro e w1 ⟨rfl,aT⟩;have bi:=aT.symm;clear aT;subst bi)|(go_at_call 122;refine(hd.out _).mono ?_;rintro e w2 ⟨rfl,gi⟩;have jm:=gi.symm;clear gi;subst jm))
   go_ret;exact⟨by rw[hr.out];rfl,rfl⟩
  have bF:¬(k:Int)<(s.size:Int):=by omega
  by_cases h0:0<s.size
  ·have h0i:(0:Int)<(s.size:Int):=by omega
   have hr:Hid (r=true):=xx.out.2 ⟨h0,fun j hj=>H.out j hj (by omega)⟩;go_wp2;go_ret;exact⟨by rw[hr.out];rfl,rfl⟩
  have h0i:¬(0:Int)<(s.size:Int):=by omega
  have hr:Hid (r=false):=by
   show _=_;cases r
   ·rfl
   exact absurd (xx.out.1 rfl).1 h0
  go_wp2;go_ret;exact⟨by rw[hr.out];rfl,rfl⟩
theorem rI{b c:UInt8}{l:List UInt8}(h:c∈l):c=b\/c∈aC b l:=by
 cases l with
 |nil=>cases h
 |cons d l=>
  unfold aC dV;by_cases hd:d=b
  ·subst hd
   rcases List.mem_cons.1 h with rfl|h
   ·exact Or.inl rfl
   right;simpa using h
  right;rw[if_neg (by simpa using hd)];exact h
theorem OQ:∀n:Fin 256,Go.Proofs.YtcnfchblfcfimaaGreatDoor.isDig (UInt8.ofNat n.val)=isDig (UInt8.ofNat n.val):=by decide +kernel
theorem Ee(c:UInt8):Go.Proofs.YtcnfchblfcfimaaGreatDoor.isDig c=isDig c:=by
 have:=OQ ⟨c.toNat,c.toNat_lt⟩;simp only at this
 rwa [show UInt8.ofNat c.toNat=c by simp]at this
theorem CA{p:UInt8->Bool}{c:UInt8}:∀ {l:List UInt8},c∈l.takeWhile p->p c=true
 | [],h=>by cases h
 |d::l,h=>by
  rw[List.takeWhile_cons]at h
  split at h
  ·rename_i hd
   rcases List.mem_cons.1 h with rfl|h
   ·exact hd
   exact CA h
  cases h
theorem Cz{c:UInt8}{l:List UInt8}(h:c∈l):isDig c=true\/c∈l.dropWhile Go.Proofs.YtcnfchblfcfimaaGreatDoor.isDig:=by
 rw[<-List.takeWhile_append_dropWhile (p:=Go.Proofs.YtcnfchblfcfimaaGreatDoor.isDig) (l:=l)]at h;rcases List.mem_append.1 h with h|h
 ·left
  have:=CA h
  rwa [Ee]at this
 exact Or.inr h
theorem Ks{l:List UInt8}(h:jg l=true):∀c∈l,cT c=true:=by
 intro c hc;have dU:∀d∈gm l,isDig d=true:=fun d hd=>by
  unfold jg bW at h;simp only[Bool.and_eq_true]at h;have:=List.all_eq_true.1 h.2 d hd
  rwa [Ee]at this
 have key:c=43\/c=45\/c∈gm l:=by
  unfold gm
  split
  ·rcases rI (b:=43) hc with h|h
   ·exact Or.inl h
   exact Or.inr (Or.inr h)
  rcases rI (b:=45) hc with h|h
  ·exact Or.inr (Or.inl h)
  exact Or.inr (Or.inr h)
 rcases key with rfl|rfl|h
 ·rfl
 ·rfl
 simp[cT,dU c h]
theorem Aj{l:List UInt8}(h:dv l≠none):∀c∈l,cT c=true:=by
 have dg:∀c,isDig c=true->cT c=true:=fun c h=>by simp[cT,h]
 have tail:∀(n:Bool) (wh fr l4:List UInt8),aY n wh fr l4≠none->∀c∈l4,cT c=true:=by
  intro n wh fr l4 h c hc;unfold aY at h;cases l4 with
  |nil=>cases hc
  |cons d r=>
   simp only at h
   split at h
   ·rename_i hd
    split at h
    ·rename_i eS
     rcases List.mem_cons.1 hc with rfl|hc
     ·simp only[Bool.or_eq_true,beq_iff_eq]at hd
      rcases hd with rfl|rfl<;>rfl
     exact Ks eS c hc
    exact absurd rfl h
   exact absurd rfl h
 intro c hc;unfold dv at h
 split at h
 ·exact absurd rfl h
 rcases rI (b:=45) hc with rfl|hc
 ·rfl
 rcases Cz hc with hd|hc
 ·exact dg c hd
 split at h
 ·split at h
  ·exact absurd rfl h
  rcases rI (b:=46) hc with rfl|hc
  ·rfl
  rcases Cz hc with hd|hc
  ·exact dg c hd
  exact tail _ _ _ _ h c hc
 exact tail _ _ _ _ h c hc
theorem He{l:List UInt8}(h:dE l=true):∀c∈l,cT c=true:=by refine Aj fun e=>?_;unfold dE cx at h;rw[e]at h;simp at h
def AC:List UInt8->Bool
 | []=>false
 |c::l=>(isDig c||c.toNat==45)&&dE (c::l)
theorem Hc(l:List UInt8)(aQ:l≠[]):((eZ dE 2 l).2==l.length)=AC l:=by
 cases l with
 |nil=>exact absurd rfl aQ
 |cons c l=>
  have e:(eZ dE 2 (c::l)).2=uL dE (c::l):=rfl;rw[e];simp only[AC,uL];cases hd:(isDig c||c.toNat==45)
  ·have h0:(!(c.toNat==45) && !isDig c)=true:=by
    simp only[Bool.or_eq_false_iff]at hd;simp[hd.1,hd.2]
   rw[if_pos h0];simp
  have h0:(!(c.toNat==45) && !isDig c)=false:=by
   cases h1:isDig c
   ·rw[h1]at hd;simp only[Bool.false_or]at hd;simp[hd]
   simp
  simp only[h0,Bool.false_eq_true,if_false,Bool.true_and];cases hn:dE (c::l)
  ·by_cases hw:wh cT (c::l)=(c::l).length
   ·rw[hw,List.take_length,hn];simp
   split
   ·simpa using hw
   simp
  have hw:wh cT (c::l)=(c::l).length:=pj (He hn);rw[hw,List.take_length,hn];simp
theorem Da(s:ByteArray)(w:World)(hs:s.size<=80000):Calls prog 124 #[.string s] w fun e w'=>e=.returned (.bool (AC (bl s)))/\Below w.heap.size w w':=by
 have hp:=aa (ut s w hs);obtain⟨a,ha⟩:∃a,cx (bl s)=a:=⟨_,rfl⟩
 obtain⟨a1,a2,a3,a4⟩:=a;have vP:dE (bl s)=!decide (a4=10):=by unfold dE;rw[ha]
 rw[ha]at hp;simp only[ji]at hp;by_cases h0:0<s.size
 ·have h0i:(0:Int)<(s.size:Int):=by omega
  obtain⟨l,hl⟩:=fv s h0;have hB:AC (bl s)=((isDig s[0]||s[0].toNat==45)&&dE (bl s)):=by rw[hl];rfl
  rw[hB,vP];have hd:=aa (fun w=>uw s[0] w);obtain⟨b,gd⟩:∃b,isDig s[0]=b:=⟨_,rfl⟩
  rw[gd]at hd ⊢;obtain⟨m,hm⟩:∃m,(s[0].toNat==45)=m:=⟨_,rfl⟩
  have pd:((s[0].toNat:Int)==45)=m:=by rw[<-hm];cases h:(s[0].toNat==45)<;>simp at h ⊢ <;> omega
  rw[hm];have Ch:(a4 != 10)=!decide (a4=10):=by by_cases h:a4=10<;>simp[h]
  obtain⟨q,hq⟩:∃q,(!decide (a4=10))=q:=⟨_,rfl⟩
  rw[hq]at Ch ⊢;clear hB vP ha hl gd hm hq;cases b<;>cases m
  all_goals
   go_enter func124,ntmps124;go_wp2_with(first|(go_at_call 156;refine hp.out.mono ?_;rintro e w1 ⟨rfl,ai⟩;have ai:=aa ai)|(go_at_call 122;refine(hd.out _).mono ?_;rintro e w2 ⟨rfl,gi⟩;have jm:=gi.symm;clear gi;subst jm))
   go_ret
   first|exact⟨rfl,ab ai.out⟩|exact⟨by simp,ab ai.out⟩|exact⟨by cases q<;>rfl,ab ai.out⟩
 have h0i:¬(0:Int)<(s.size:Int):=by omega
 have hl:bl s=[]:=List.length_eq_zero_iff.1 (by rw[bl_length];omega);rw[hl];clear vP ha hl;go_enter func124,ntmps124;go_wp2_with(first|(go_at_call 156;refine hp.out.mono ?_;rintro e w1 ⟨rfl,ai⟩;have ai:=aa ai))
 go_ret;exact⟨rfl,ab ai.out⟩
theorem wz(s:ByteArray)(w:World)(hs:s.size<=100000):Calls prog 141 #[.string s] w fun e w'=>e=.returned (.bool (okT (bl s)))/\Below w.heap.size w w':=by
 have hc:=aa (Ut.rcount_any s w (by omega));have he:Hid (Ut.okT (Ut.bl s)=okT (bl s)):=rfl;go_enter func141,ntmps141;go_wp2_with fail
 refine hc.out.mono ?_;rintro e w1 ⟨⟨m,e,PX,rfl⟩,ai⟩;rcases PX with⟨h1,_,h3⟩|⟨h1,_,h3⟩
 ·subst h3
  have h2:Hid (okT (bl s)=true):=by have:=he.out;rw[h1]at this;exact this.symm
  clear h1;go_wp2;go_ret;exact⟨by rw[h2.out];rfl,ai⟩
 have h2:Hid (okT (bl s)=false):=by have:=he.out;rw[h1]at this;exact this.symm
 have e0:((e:Int)==0)=false:=by simp;omega
 clear h1 h3;go_wp2;go_ret;exact⟨by rw[h2.out];rfl,ai⟩
theorem Jo(l:List UInt8):mZ dE 1 l=iU l:=by
 cases l with
 |nil=>rfl
 |cons c l=>simp[mZ,mq,iU,eZ]
theorem OU(l:List UInt8):mZ dE 2 l=okT l:=by simp[mZ,mq]
theorem OS(l:List UInt8):mZ dE 3 l=AC l:=by
 cases l with
 |nil=>rfl
 |cons c l=>
  rw[<-Hc (c::l) (by simp)];simp[mZ,mq]
def OG:List UInt8->Bool
 | [c]=>gS c
 |_=>false
theorem Jn(l:List UInt8):mZ dE 4 l=OG l:=by
 match l with
 | []=>rfl
 | [c]=>simp only[mZ,mq,eZ,cf,OG];cases gS c<;>simp
 |c::d::l=>simp only[mZ,mq,eZ,cf,OG];cases gS c<;>simp
theorem Jp(x:Int)(l:List UInt8)(h1:¬x=1)(h2:¬x=2)(h3:¬x=3)(h4:¬x=4):mZ dE x l=false:=by unfold mZ mq;simp[h1,h2,h3,h4]
theorem bQ(t:Tk)(w:World)(hs:t.s.length<=70000):Calls prog 86 #[.agg #[.int .i64 t.w,.string (aj t.s),.int .i64 t.p]] w fun e w'=>e=.returned (.bool (mZ dE t.w t.s))/\Below w.heap.size w w':=by
 obtain⟨x,l,p⟩:=t;simp only at hs ⊢;obtain⟨s,nQ⟩:∃s,aj l=s:=⟨_,rfl⟩
 have pc:bl s=l:=by rw[<-nQ,ah]
 have cC:s.size=l.length:=by rw[<-nQ,ag]
 rw[nQ];have dM:Hid (∀o,Below w.heap.size w (w.alloc o)):=fun o=>ab af;by_cases h1:x=1
 ·subst h1
  have hn:=aa (fun o=>qY s (w.alloc o) (by omega));rw[pc]at hn;rw[Jo];obtain⟨b,hb⟩:∃b,iU l=b:=⟨_,rfl⟩
  rw[hb]at hn ⊢;clear pc nQ hb;go_enter func86,ntmps86;go_wp2_with(go_at_call 140;refine(hn.out _).mono ?_;rintro e w1 ⟨rfl,aT⟩;have bi:=aT.symm;clear aT;subst bi)
  go_ret;exact⟨rfl,dM.out _⟩
 have e1:(x==1)=false:=by simpa using h1
 by_cases h2:x=2
 ·subst h2
  have hn:=aa (fun o=>wz s (w.alloc o) (by omega));rw[pc]at hn;rw[OU];obtain⟨b,hb⟩:∃b,okT l=b:=⟨_,rfl⟩
  rw[hb]at hn ⊢;clear pc nQ hb h1;go_enter func86,ntmps86;go_wp2_with(go_at_call 141;refine(hn.out _).mono ?_;rintro e w1 ⟨rfl,ai⟩;have ai:=aa (ac (dM.out _) ai))
  go_ret;exact⟨rfl,ai.out⟩
 have e2:(x==2)=false:=by simpa using h2
 by_cases h3:x=3
 ·subst h3
  have hn:=aa (fun o=>Da s (w.alloc o) (by omega));rw[pc]at hn;rw[OS];obtain⟨b,hb⟩:∃b,AC l=b:=⟨_,rfl⟩
  rw[hb]at hn ⊢;clear pc nQ hb h1 h2;go_enter func86,ntmps86;go_wp2_with(go_at_call 124;refine(hn.out _).mono ?_;rintro e w1 ⟨rfl,ai⟩;have ai:=aa (ac (dM.out _) ai))
  go_ret;exact⟨rfl,ai.out⟩
 have e3:(x==3)=false:=by simpa using h3
 by_cases h4:x=4
 ·subst h4
  rw[Jn];by_cases aJ:l.length=1
  ·have i1:((s.size:Int)==1)=true:=by rw[cC,aJ];rfl
   have i0:(0:Int)<(s.size:Int):=by rw[cC,aJ];decide
   have i0n:0<s.size:=by omega
   obtain⟨c,rfl⟩:∃c,l=[c]:=by
    match l,aJ with
    | [c],_=>exact⟨c,rfl⟩
   have hc:s[0]=c:=by rw[<-bH s 0 i0n];simp only[pc,List.getElem_cons_zero]
   have hn:=aa (fun o=>GS ⟨#[46,59,44,58,61,40,41,91,93,123,125]⟩ s[0] (w.alloc o) (by decide));rw[(RP _).1,hc]at hn;simp only[OG];obtain⟨b,hb⟩:∃b,gS c=b:=⟨_,rfl⟩
   rw[hb]at hn ⊢;clear pc nQ hb h1 h2 h3 cC;go_enter func86,ntmps86;go_wp2_with(go_at_call 123;refine(hn.out _).mono ?_;rintro e w1 ⟨rfl,aT⟩;have bi:=aT.symm;clear aT;subst bi)
   go_ret;exact⟨rfl,dM.out _⟩
  have i1:((s.size:Int)==1)=false:=by rw[cC];simp;omega
  have hm:OG l=false:=by
   match l,aJ with
   | [],_=>rfl
   | [c],h=>simp at h
   |c::d::l,_=>rfl
  rw[hm];clear pc nQ h1 h2 h3 cC hm aJ;go_enter func86,ntmps86;go_wp2;go_ret;exact⟨rfl,dM.out _⟩
 have e4:(x==4)=false:=by simpa using h4
 rw[Jp x l h1 h2 h3 h4];clear pc nQ h1 h2 h3 h4 cC;go_enter func86,ntmps86;go_wp2;go_ret;exact⟨rfl,dM.out _⟩
def Hk(t:Tk):Bool:=if t.w=1 then decide (64<t.s.length) else if t.w=3 then decide (512<t.s.length) else decide (4096<t.s.length)
theorem kR(t:Tk)(w:World)(hs:t.s.length<=70000):Calls prog 65 #[.agg #[.int .i64 t.w,.string (aj t.s),.int .i64 t.p]] w fun e w'=>e=.returned (.bool (Hk t))/\Below w.heap.size w w':=by
 obtain⟨x,l,p⟩:=t;simp only[Hk]at hs ⊢;obtain⟨s,nQ⟩:∃s,aj l=s:=⟨_,rfl⟩
 have cC:s.size=l.length:=by rw[<-nQ,ag]
 rw[nQ];have dM:Hid (∀o,Below w.heap.size w (w.alloc o)):=fun o=>ab af;have hw:∀m:Nat,decide (m<l.length)=decide ((m:Int)<(s.size:Int)):=fun m=>by rw[cC];simp
 by_cases h1:x=1
 ·subst h1
  rw[if_pos rfl,hw 64];clear hw nQ cC;go_enter func65,ntmps65;go_wp2;go_ret;exact⟨by first|rfl|simp,dM.out _⟩
 have e1:(x==1)=false:=by simpa using h1
 rw[if_neg h1];by_cases h3:x=3
 ·subst h3
  rw[if_pos rfl,hw 512];clear hw nQ h1 cC;go_enter func65,ntmps65;go_wp2;go_ret;exact⟨by first|rfl|simp,dM.out _⟩
 have e3:(x==3)=false:=by simpa using h3
 rw[if_neg h3,hw 4096];clear hw nQ h1 h3 cC;go_enter func65,ntmps65;go_wp2;go_ret;exact⟨by first|rfl|simp,dM.out _⟩
theorem KS(t:Tk)(h:mZ dE t.w t.s=true):Hk t=wZ t:=by
 obtain⟨x,l,p⟩:=t;simp only[Hk,wZ]at h ⊢;by_cases h1:x=1
 ·subst h1;rfl
 by_cases h2:x=2
 ·subst h2;rfl
 by_cases h3:x=3
 ·subst h3;rfl
 by_cases h4:x=4
 ·subst h4
  rw[Jn]at h
  match l,h with
  | [c],_=>rfl
 rw[Jp x l h1 h2 h3 h4]at h;cases h
theorem nw{w:World}{ops:Array Oper}{rest:List Oper}{o:Oper}{a:Act}{Q:Exit->Act->World->Prop}(hgd:o.guard=none)(sl x:Operand)(ho:o.op=.call {callee:=.builtin .append,args:=#[sl,x],argTypes:=#[94,9]})
  (B:Nat) (v:Value) (l:List UInt8) (hs:a.eval sl=v) (bz:dj w B v l) (s:ByteArray) (hx:a.eval x=.string s) (hl:l.length+s.size<=1000000000) (hB:B<=w.heap.size)
  (h:∀v' w',Hid (dj w' B v' (l++bl s))->Hid (Below B w w')->wpList prog ops Q rest (a.put o.dst v') w'):wpList prog ops Q (o::rest) a w:=by
 obtain⟨i0,hi,fY,gD,eR⟩:=info_parts ou;refine Lib.wpList_append_own_string w hgd sl x 94 9 ho B 5 i0 Tryz.underlying94 Tryz.underlying9 hi fY gD eR v l.length (jS l) hs bz s hx (by unfold maxLen;omega) (by omega) hB ?_;intro v' w' h1 h2 _;refine h v' w' ?_ ?_
 ·show dj _ _ _ _
  unfold dj;rw[eO,List.length_append,bl_length,<-mE];exact h1
 exact(Below.refl B w).grown h2 hB bz.row
theorem Ec:∀(l:List Tk),(∀t∈l,t.s.length<=4096)->(jn (l.map cF)).length<=l.length*24579
 | [],_=>by simp[jn]
 | [t],h=>by
  have h1:(cF t).length<=6*t.s.length+2:=by
   unfold cF NT
   split
   ·have:=nn t.s;simp only[rY,List.length_cons,List.length_append,List.length_nil];omega
   omega
  have:=h t (by simp);simp only[List.map_cons,List.map_nil,jn,List.length_cons,List.length_nil];omega
 |t::u::l,h=>by
  have h1:(cF t).length<=6*t.s.length+2:=by
   unfold cF NT
   split
   ·have:=nn t.s;simp only[rY,List.length_cons,List.length_append,List.length_nil];omega
   omega
  have h2:=h t (by simp);have h3:=Ec (u::l) (fun x hx=>h x (by simp only[List.mem_cons]at hx ⊢;exact Or.inr hx));simp only[List.map_cons,jn,List.length_append,List.length_cons]at h3 ⊢;omega
theorem rprint_any(u:Value)(l:List Tk)(w:World)(hu:TS w u l)(hz:oC l<=70000):Calls prog 42 #[u] w fun e w'=>e=Ng (kS l)/\Below w.heap.size w w':=by
 obtain⟨au,cu,rfl,Ly,xm⟩:=hu.shape;have hu:=aa hu;have ml:maxLen=9223372036854775807:=rfl;have QS:Hid (∀t∈l,t.s.length<=70000):=fun t ht=>by have:t.s.length<=(l.map fun t=>t.s.length).sum:=yV (List.mem_map.2 ⟨t,ht,rfl⟩);unfold oC at hz;omega
 have Wc:l.length<=70000:=by unfold oC at hz;omega
 obtain⟨U,hU⟩:∃U,kS l=U:=⟨_,rfl⟩
 rw[hU];have HU:=aa hU;clear hU hz;go_enter func42,ntmps42;go_wp2;go_loopw [4] (fun i W=>∃k:Nat,i=.int .i64 k/\k<=l.length/\Hid ((∀j (h:j<l.length),j<k->mZ dE l[j].w l[j].s=true)/\Below w.heap.size w W)) (fun i _=>l.length-(intOf i).toNat)
 case atStart=>exact⟨0,rfl,Nat.zero_le _,fun j h1 h2=>by omega,af⟩
 case round=>
  obtain⟨k,rfl,hk,H⟩:=hrel;by_cases aE:k<l.length
  ·have bF:(k:Int)<(l.length:Int):=by omega
   obtain⟨hA,hB⟩:=H.out;have A1:=aa hA;have B1:=aa hB;obtain⟨b,o,rfl,hb,p1,p2,p3⟩:=(hu.out.below hB).at k aE;have sL:Hid (Calls prog 86 #[.agg #[.int .i64 l[k].w,.string (aj l[k].s),.int .i64 l[k].p]] wr fun e w'=>e=.returned (.bool (mZ dE l[k].w l[k].s))/\Below wr.heap.size wr w'):=bQ l[k] wr (QS.out _ (List.getElem_mem _));clear H hA hB;obtain⟨x,hx⟩:∃x,l[k].w=x:=⟨_,rfl⟩
   obtain⟨y,hy⟩:∃y,aj l[k].s=y:=⟨_,rfl⟩
   obtain⟨z,hz⟩:∃z,l[k].p=z:=⟨_,rfl⟩
   obtain⟨q,kX⟩:∃q,mZ dE l[k].w l[k].s=q:=⟨_,rfl⟩
   rw[kX]at sL;rw[hx]at p1 sL;rw[hy]at p2 sL;rw[hz]at p3 sL;have hq:=aa kX;clear hx hy hz kX;go_wp2_with(go_at_call 86;refine sL.out.mono ?_;rintro e w1 ⟨rfl,ai⟩;have B2:=aa (ac B1.out ai);clear ai;refine ak.out ?_)
   refine ak.mk ?_;cases q
   ·have U2:Hid (U=(1,[])):=by
     show _=_;rw[<-HU.out];unfold kS;rw[if_pos (fun h=>by have:=h _ (List.getElem_mem aE);rw[hq.out]at this;cases this)]
    go_wp2;go_ret2;exact⟨by rw[U2.out];rfl,B2.out⟩
   have A2:Hid (∀j (h:j<l.length),j<k+1->mZ dE l[j].w l[j].s=true):=fun j h1 h2=>by
    by_cases oN:j=k
    ·subst oN;exact hq.out
    exact A1.out j h1 (by omega)
   clear A1 hq;go_wp2
   go_roundw
   case rel=>exact⟨k+1,by go_num,by omega,A2.out,B2.out⟩
   case measure=>simp[intOf];omega
  have bF:¬(k:Int)<(l.length:Int):=by omega
  have dU:Hid (∀t∈l,mZ dE t.w t.s=true):=fun t ht=>by obtain⟨j,hj,rfl⟩:=List.mem_iff_getElem.1 ht;exact H.out.1 j hj (by omega)
  have B0:=aa H.out.2;have U1:Hid (U=if 1024<l.length\/(∃t∈l,wZ t=true)\/4096<(jn (l.map cF)).length then (2,[]) else (0,jn (l.map cF))):=by show _=_;rw[<-HU.out];unfold kS;rw[if_neg (fun h=>h dU.out)]
  clear H HU;go_wp2;clear aE bF hk;go_loopw [5] (fun i W=>∃k:Nat,i=.int .i64 k/\k<=l.length/\k<=1024/\Hid ((∀j (h:j<l.length),j<k->wZ l[j]=false)/\Below w.heap.size w W)) (fun i _=>l.length-(intOf i).toNat)
  case atStart=>exact⟨0,rfl,Nat.zero_le _,by omega,fun j h1 h2=>by omega,B0.out⟩
  case round=>
   obtain⟨k,rfl,hk,nj,H⟩:=hrel;by_cases aE:k<l.length
   ·have bF:(k:Int)<(l.length:Int):=by omega
    obtain⟨hA,hB⟩:=H.out;have A1:=aa hA;have B1:=aa hB;obtain⟨b,o,rfl,hb,p1,p2,p3⟩:=(hu.out.below hB).at k aE;have sL:Hid (Calls prog 65 #[.agg #[.int .i64 l[k].w,.string (aj l[k].s),.int .i64 l[k].p]] wr fun e w'=>e=.returned (.bool (wZ l[k]))/\Below wr.heap.size wr w'):=by have:=kR l[k] wr (QS.out _ (List.getElem_mem _));rw[KS _ (dU.out _ (List.getElem_mem _))]at this;exact this
    have jJ:Hid (l[k]∈l):=List.getElem_mem _;clear H hA hB;obtain⟨x,hx⟩:∃x,l[k].w=x:=⟨_,rfl⟩
    obtain⟨y,hy⟩:∃y,aj l[k].s=y:=⟨_,rfl⟩
    obtain⟨z,hz⟩:∃z,l[k].p=z:=⟨_,rfl⟩
    obtain⟨q,kX⟩:∃q,wZ l[k]=q:=⟨_,rfl⟩
    rw[kX]at sL;rw[hx]at p1 sL;rw[hy]at p2 sL;rw[hz]at p3 sL;have hq:=aa kX;clear hx hy hz kX;cases q
    ·by_cases nU:k<1024
     ·have qK:¬(1024:Int)<=(k:Int):=by omega
      have A2:Hid (∀j (h:j<l.length),j<k+1->wZ l[j]=false):=fun j h1 h2=>by
       by_cases oN:j=k
       ·subst oN;exact hq.out
       exact A1.out j h1 (by omega)
      clear A1 hq;go_wp2_with(go_at_call 65;refine sL.out.mono ?_;rintro e w1 ⟨rfl,ai⟩;have B2:=aa (ac B1.out ai);clear ai)
      go_roundw
      case rel=>exact⟨k+1,by go_num,by omega,by omega,A2.out,B2.out⟩
      case measure=>simp[intOf];omega
     have qK:(1024:Int)<=(k:Int):=by omega
     have U2:Hid (U=(2,[])):=by show _=_;rw[U1.out,if_pos (Or.inl (by omega))]
     go_wp2_with(go_at_call 65;refine sL.out.mono ?_;rintro e w1 ⟨rfl,ai⟩;have B2:=aa (ac B1.out ai);clear ai)
     go_ret2;exact⟨by rw[U2.out];rfl,B2.out⟩
    have U2:Hid (U=(2,[])):=by show _=_;rw[U1.out,if_pos (Or.inr (Or.inl ⟨_,jJ.out,hq.out⟩))]
    go_wp2_with(go_at_call 65;refine sL.out.mono ?_;rintro e w1 ⟨rfl,ai⟩;have B2:=aa (ac B1.out ai);clear ai)
    go_ret2;exact⟨by rw[U2.out];rfl,B2.out⟩
   have bF:¬(k:Int)<(l.length:Int):=by omega
   have We:l.length<=1024:=by omega
   have xz:Hid (∀t∈l,wZ t=false):=fun t ht=>by obtain⟨j,hj,rfl⟩:=List.mem_iff_getElem.1 ht;exact H.out.1 j hj (by omega)
   have Ig:Hid (∀t∈l,t.s.length<=4096):=fun t ht=>by
    have h1:=xz.out t ht;unfold wZ at h1;have h2:¬lgK (mq t.w)<t.s.length:=of_decide_eq_false h1;have h3:lgK (mq t.w)<=4096:=by unfold lgK;(repeat' split)<;>omega
    omega
   have B3:=aa H.out.2;have U3:Hid (U=if 4096<(jn (l.map cF)).length then (2,[]) else (0,jn (l.map cF))):=by
    show _=_;rw[U1.out];by_cases h4:4096<(jn (l.map cF)).length
    ·rw[if_pos h4,if_pos (Or.inr (Or.inr h4))]
    rw[if_neg h4,if_neg];rintro(h|⟨t,ht,h⟩|h)
    ·omega
    ·rw[xz.out t ht]at h;cases h
    exact h4 h
   clear H U1;go_wp2;clear aE bF hk;go_loopw [6,7] (fun v i W=>∃k:Nat,i=.int .i64 k/\k<=l.length/\Hid (dj W w.heap.size v (jn ((l.take k).map cF))/\Below w.heap.size w W)) (fun _ i _=>l.length-(intOf i).toNat)
   case atStart=>exact⟨0,rfl,Nat.zero_le _,fo _ _,B3.out⟩
   case round=>
    obtain⟨k,rfl,hk,H⟩:=hrel;obtain⟨hO,hB⟩:=H.out;have O1:=aa hO;have B1:=aa hB;clear H hO hB;by_cases aE:k<l.length
    ·have bF:(k:Int)<(l.length:Int):=by omega
     obtain⟨b,o,rfl,hb,p1,p2,p3⟩:=(hu.out.below B1.out).at k aE;obtain⟨T,hT⟩:∃T,l[k]=T:=⟨_,rfl⟩
     have Nw:Hid (T∈l):=by rw[<-hT];exact List.getElem_mem _
     have Np:Hid ((l.take (k+1)).map cF=(l.take k).map cF++[cF T]):=by show _=_;rw[List.take_succ_eq_append_getElem aE,List.map_append,hT];rfl
     have xA:Hid ((jn ((l.take k).map cF)).length<=25168896):=by show _<=_;have:=Ec (l.take k) (fun t ht=>Ig.out t (List.mem_of_mem_take ht));rw[List.length_take]at this;have h2:min k l.length*24579<=1024*24579:=Nat.mul_le_mul_right _ (by omega);omega
     have Qh:=aa (Ig.out T Nw.out);have Tw:=aa hT;rw[hT]at p1 p2 p3;obtain⟨x,ys,z⟩:=T;simp only at p1 p2 p3 Qh;have Ga:Hid ((aj ys).size=ys.length):=ag ys;have RS:Hid (bl (aj ys)=ys):=ah ys;have hq:Hid (∀W,Calls prog 87 #[.string (aj ys)] W fun e w'=>e=.returned (.string (aj (rY ys)))/\Below W.heap.size W w'):=fun W=>by have:=ur (aj ys) W (by rw[ag];have:=Qh.out;omega);rw[ah]at this;exact this
     have aK:Hid ((aj (rY ys)).size<=24578):=by show _<=_;rw[ag];have:=nn ys;have:=Qh.out;simp only[rY,List.length_cons,List.length_append,List.length_nil];omega
     have Sm:Hid (bl (aj (rY ys))=rY ys):=ah _;obtain⟨J,hJ⟩:∃J,jn ((l.take k).map cF)=J:=⟨_,rfl⟩
     rw[hJ]at O1 xA;have Ce:Hid (jn ((l.take (k+1)).map cF)=if k=0 then cF ⟨x,ys,z⟩ else J++32::cF ⟨x,ys,z⟩):=by
      show _=_;rw[Np.out,sA,hJ];by_cases eM:k=0
      ·subst eM;simp
      rw[if_neg eM,if_neg];intro e;have:=congrArg List.length e;rw[List.length_map,List.length_take,List.length_nil]at this;omega
     have xL:Hid (k=0->J=[]):=fun e=>by rw[<-hJ,e];rfl
     have gy:Hid (cF ⟨x,ys,z⟩=if x=2 then rY ys else ys):=rfl;obtain⟨S,Qi⟩:∃S,cF ⟨x,ys,z⟩=S:=⟨_,rfl⟩
     rw[Qi]at Ce gy;obtain⟨J2,hJ2d⟩:∃J2,jn ((l.take (k+1)).map cF)=J2:=⟨_,rfl⟩
     rw[hJ2d]at Ce;have Cf:=aa hJ2d;obtain⟨y,hy⟩:∃y,aj ys=y:=⟨_,rfl⟩
     have Vp:=aa hy;obtain⟨qy,Ue⟩:∃qy,aj (rY ys)=qy:=⟨_,rfl⟩
     rw[hy]at p2 Ga RS hq;rw[Ue]at hq aK Sm;clear hT Qi Np hJ hy Ue hJ2d;have Ma:k=0\/0<k:=by omega
     have gT:x=2\/¬x=2:=by omega
     rcases Ma with eM|eM
     ·have ik:¬(0:Int)<(k:Int):=by omega
      have Is:Hid (J2=S):=by have:=Ce.out;rw[if_pos eM]at this;exact this
      have Rk:Hid (J=[]):=xL.out eM;clear Ce eM xL;rcases gT with rfl|gT
      ·have hS:Hid (S=rY ys):=by have:=gy.out;rw[if_pos rfl]at this;exact this
       go_wp2_with(first|(go_at_call 87;refine(hq.out _).mono ?_;rintro e w2 ⟨rfl,aq⟩;have O2:=aa (gJ O1.out aq);have B2:=aa (ac B1.out aq);clear aq)|(at_builtin;refine ak.out ?_))
       refine ak.mk ?_;refine nw rfl (.tmp 52) (.tmp 58) rfl w.heap.size u6 J rfl O2.out qy rfl (by have:=xA.out;have:=aK.out;omega) B2.out.size ?_;intro v3 w3 lH ar;have O3:Hid (dj w3 w.heap.size v3 J2):=by have:=lH.out;rw[Sm.out,Rk.out,List.nil_append,<-hS.out,<-Is.out]at this;exact this
       have B3':Hid (Below w.heap.size w w3):=B2.out.trans ar.out;clear lH ar;go_wp2
       go_roundw
       case rel=>exact⟨k+1,by go_num,by omega,by rw[Cf.out];exact O3.out,B3'.out⟩
       case measure=>simp[intOf];omega
      have hS:Hid (S=ys):=by have:=gy.out;rw[if_neg gT]at this;exact this
      have ex:(x==2)=false:=by simpa using gT
      go_wp2_with(at_builtin;refine ak.out ?_)
      refine ak.mk ?_;refine nw rfl (.tmp 60) (.tmp 65) rfl w.heap.size u6 J rfl O1.out y rfl (by have:=xA.out;have:=Ga.out;have:=Qh.out;omega) B1.out.size ?_;intro v3 w3 lH ar;have O3:Hid (dj w3 w.heap.size v3 J2):=by have:=lH.out;rw[RS.out,Rk.out,List.nil_append,<-hS.out,<-Is.out]at this;exact this
      have B3':Hid (Below w.heap.size w w3):=B1.out.trans ar.out;clear lH ar;go_wp2
      go_roundw
      case rel=>exact⟨k+1,by go_num,by omega,by rw[Cf.out];exact O3.out,B3'.out⟩
      case measure=>simp[intOf];omega
     have ik:(0:Int)<(k:Int):=by omega
     have Is:Hid (J2=J++32::S):=by have:=Ce.out;rw[if_neg (by omega)]at this;exact this
     clear Ce eM xL;have hn:=aa (ku wr _ [32] 5 rfl);go_wp2_with(at_builtin;refine ak.out ?_)
     refine ak.mk ?_;refine tJ rfl (.tmp 43) (.tmp 44) rfl w.heap.size u6 J rfl (O1.out.alloc _) ⟨wr.heap.size,0,none⟩ 1 1 [32] rfl rfl hn.out (by have:=xA.out;omega) (by have:=B1.out.size;simp;omega) (by omega) ?_;intro av c' w2 nR aq;have B2:Hid (Below w.heap.size w w2):=(ab B1.out).trans aq.out;obtain⟨b',o',e',Nu,f1,f2,f3⟩:=(hu.out.below B2.out).at k aE;cases e';rw[Tw.out]at f1 f2 f3;simp only at f1 f2 f3;rw[Vp.out]at f2;have O2:Hid (dj w2 w.heap.size (.slice av (J.length+1) c') (J++[32])):=nR.out;clear nR aq hn p1 p2 p3;rcases gT with rfl|gT
     ·have hS:Hid (S=rY ys):=by have:=gy.out;rw[if_pos rfl]at this;exact this
      go_wp2_with(first|(go_at_call 87;refine(hq.out _).mono ?_;rintro e w4 ⟨rfl,aO⟩;have O4:=aa (gJ O2.out aO);have B4:=aa (ac B2.out aO);clear aO)|(at_builtin;refine ak.out ?_))
      refine ak.mk ?_;refine nw rfl (.tmp 52) (.tmp 58) rfl w.heap.size _ (J++[32]) rfl O4.out qy rfl (by have:=xA.out;have:=aK.out;simp;omega) B4.out.size ?_;intro v3 w3 lH ar;have O3:Hid (dj w3 w.heap.size v3 J2):=by have:=lH.out;rw[Sm.out,List.append_assoc,List.singleton_append,<-hS.out,<-Is.out]at this;exact this
      have B3':Hid (Below w.heap.size w w3):=B4.out.trans ar.out;clear lH ar;go_wp2
      go_roundw
      case rel=>exact⟨k+1,by go_num,by omega,by rw[Cf.out];exact O3.out,B3'.out⟩
      case measure=>simp[intOf];omega
     have hS:Hid (S=ys):=by have:=gy.out;rw[if_neg gT]at this;exact this
     have ex:(x==2)=false:=by simpa using gT
     go_wp2_with(at_builtin;refine ak.out ?_)
     refine ak.mk ?_;refine nw rfl (.tmp 60) (.tmp 65) rfl w.heap.size _ (J++[32]) rfl O2.out y rfl (by have:=xA.out;have:=Ga.out;have:=Qh.out;simp;omega) B2.out.size ?_;intro v3 w3 lH ar;have O3:Hid (dj w3 w.heap.size v3 J2):=by have:=lH.out;rw[RS.out,List.append_assoc,List.singleton_append,<-hS.out,<-Is.out]at this;exact this
     have B3':Hid (Below w.heap.size w w3):=B2.out.trans ar.out;clear lH ar;go_wp2
     go_roundw
     case rel=>exact⟨k+1,by go_num,by omega,by rw[Cf.out];exact O3.out,B3'.out⟩
     case measure=>simp[intOf];omega
    have bF:¬(k:Int)<(l.length:Int):=by omega
    have ms:l.take k=l:=List.take_of_length_le (by omega);rw[ms]at O1;have ln:=cJ O1.out;obtain⟨J,hJ⟩:∃J,jn (l.map cF)=J:=⟨_,rfl⟩
    rw[hJ]at O1 ln U3;obtain⟨a6,c6,RW⟩:=nP O1.out;subst RW;clear ms hJ;by_cases h4:4096<J.length
    ·have j4:(4096:Int)<(J.length:Int):=by omega
     have U2:Hid (U=(2,[])):=by show _=_;rw[U3.out,if_pos h4]
     go_wp2;go_ret2;exact⟨by rw[U2.out];rfl,B1.out⟩
    have j4:¬(4096:Int)<(J.length:Int):=by omega
    have U2:Hid (U=(0,J)):=by show _=_;rw[U3.out,if_neg h4]
    go_wp2;go_ret2;exact⟨by rw[U2.out];rfl,B1.out⟩
theorem yA(l:List UInt8):(jd l).2.2.length<=1024:=by
 unfold jd
 split
 ·simp
 cases h:iS dE l 0 []with
 |inl x=>obtain⟨e,q⟩:=x;simp
 |inr r=>
  obtain⟨x,hx,h1,_⟩:=oW dE _ _ _ _ _ (Nat.le_refl _) h (by simp);exact h1
end Lx
