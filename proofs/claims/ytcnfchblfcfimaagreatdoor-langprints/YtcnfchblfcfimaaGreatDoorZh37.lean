import Derived.Test.YtcnfchblfcfimaaGreatDoorZh30
import Derived.Test.YtcnfchblfcfimaaGreatDoorZh29
import Derived.Test.YtcnfchblfcfimaaGreatDoorAfShelf
import Derived.Test.YtcnfchblfcfimaaGreatDoorZh35
import Derived.Test.YtcnfchblfcfimaaGreatDoorZh32
import Derived.Test.YtcnfchblfcfimaaGreatDoorZh36
set_option linter.all false
set_option maxHeartbeats 4000000
set_option maxRecDepth 100000
namespace Go.Proofs.YtcnfchblfcfimaaGreatDoor
open Proofs.Tryz RowKit
namespace Lx
def vL(PF PS:(n:Nat)->ET n->Prop)(n:Nat)(x:ET n)(E:Int):Prop :=
 (E=140/\¬(fd jc n x/\fd PF n x))\/(E=2/\(fd jc n x/\fd PF n x)/\¬(fd PS n x/\dN n x<=16/\aM n x<=512))\/(E=0/\(fd jc n x/\fd PF n x)/\fd PS n x/\dN n x<=16/\aM n x<=512)
theorem vL.of{PF PS:(n:Nat)->ET n->Prop}{n:Nat}{x:ET n}{E E':Int}(h:vL PF PS n x E)(h':vL PF PS n x E'):E=E':=by
 unfold vL at h h';by_cases a:fd jc n x/\fd PF n x
 ·by_cases b:fd PS n x/\dN n x<=16/\aM n x<=512
  ·simp only[a,b,not_true,and_false,false_or,and_true,and_self]at h h'
   omega
  simp only[a,b,not_true,and_false,false_or,and_true,and_self,not_false_eq_true,or_false]at h h';omega
 simp only[a,false_and,and_false,or_false,not_false_eq_true,and_true]at h h';omega
theorem xd{PF PS:(n:Nat)->ET n->Prop}{SF SS:(n:Nat)->ET n->World->Prop}(AF:Gr 38 PF SF)(AS:Gr 39 PS SS)(n:Nat)(x:ET n)(q:Sl)(w:World)(hr:RE n w x q)(hF:SF n x w)(hS:SS n x w)(hz:aM n x<=200000)(E:Int)(hE:vL PF PS n x E):Calls prog 16 #[.agg (ecl (ehd n x) q)] w fun e w'=>e=.returned (.int .i64 E)/\Below w.heap.size w w':=by
 obtain⟨x1,y1,z1,x2,y2,z2,x3,y3,z3,x4,y4,z4,aK⟩:=hr.shape;subst aK;obtain⟨t1,tQ⟩:=dX (fd jc n x);obtain⟨t2,HJ⟩:=dX (fd PF n x);obtain⟨t3,Sc⟩:=dX (fd PS n x);have h1:=aa (fun W (hb:Below w.heap.size w W)=>Calls.tb (lj (Or.inl rfl) IK n x ⟨.slice x1 y1 z1,.slice x2 y2 z2,.slice x3 y3 z3,.slice x4 y4 z4⟩ W (hr.below hb) trivial) tQ);have h2:=aa (fun W (hb:Below w.heap.size w W)=>Calls.tb (lj (Or.inr (Or.inl rfl)) AF n x ⟨.slice x1 y1 z1,.slice x2 y2 z2,.slice x3 y3 z3,.slice x4 y4 z4⟩ W (hr.below hb) (AF.low _ _ _ _ hF hb)) HJ);have h3:=aa (fun W (hb:Below w.heap.size w W)=>Calls.tb (lj (Or.inr (Or.inr rfl)) AS n x ⟨.slice x1 y1 z1,.slice x2 y2 z2,.slice x3 y3 z3,.slice x4 y4 z4⟩ W (hr.below hb) (AS.low _ _ _ _ hS hb)) Sc);have h4:=aa (fun W (hb:Below w.heap.size w W)=>xU n x ⟨.slice x1 y1 z1,.slice x2 y2 z2,.slice x3 y3 z3,.slice x4 y4 z4⟩ W (hr.below hb) hz);have h5:=aa (fun W (hb:Below w.heap.size w W)=>Bm n x ⟨.slice x1 y1 z1,.slice x2 y2 z2,.slice x3 y3 z3,.slice x4 y4 z4⟩ W (hr.below hb) hz);have hD:dN n x<=200000:=Nat.le_trans (nr n x) hz;obtain⟨D,oz⟩:∃D,dN n x=D:=⟨_,rfl⟩
 obtain⟨Z,zx⟩:∃Z,aM n x=Z:=⟨_,rfl⟩
 rw[oz]at h4 hD;rw[zx]at h5 hz;have fin:Hid (∀E',vL PF PS n x E'->E'=E):=fun E' h=>h.of hE;have HT1:=aa tQ;have HT2:=aa HJ;have HT3:=aa Sc;have HD:=aa oz;have HZ:=aa zx;clear hr AF AS hF hS hE tQ HJ Sc oz zx;obtain⟨h,hh⟩:∃h,ehd n x=h:=⟨_,rfl⟩
 rw[hh]at h1 h2 h3 h4 h5 ⊢;clear hh;have X0:=aa (bC w h ⟨.slice x1 y1 z1,.slice x2 y2 z2,.slice x3 y3 z3,.slice x4 y4 z4⟩);unfold qA at h1 h2 h3;simp only[ecl]at h1 h2 h3 h4 h5 X0 ⊢;go_enter func16,ntmps16;go_wp2_with(go_at_call 36;refine ak.out ?_)
 refine ak.mk ?_;refine(h1.out _ (ab af)).mono ?_;rintro e w1 ⟨rfl,ai⟩;have X1:=aa (X0.out.below ai);have B1:=aa (ac (ab af) ai);have x0:=X1.out.cells;clear ai X0;cases t1
 ·have hn:=aa (fin.out 140 (Or.inl ⟨rfl,fun q=>by have:=HT1.out.2 q.1;cases this⟩))
  go_wp2_with fail
  go_ret;exact⟨by rw[<-hn.out];rfl,B1.out⟩
 go_wp2_with(go_at_call 36;refine ak.out ?_)
 refine ak.mk ?_;refine(h2.out _ B1.out).mono ?_;rintro e w2 ⟨rfl,aq⟩;have X2:=aa (X1.out.below aq);have B2:=aa (ac B1.out aq);clear x0 aq X1;have x0:=X2.out.cells;cases t2
 ·have hn:=aa (fin.out 140 (Or.inl ⟨rfl,fun q=>by have:=HT2.out.2 q.2;cases this⟩))
  go_wp2_with fail
  go_ret;exact⟨by rw[<-hn.out];rfl,B2.out⟩
 have both:=aa (And.intro (HT1.out.1 (by simp)) (HT2.out.1 (by simp)));go_wp2_with(go_at_call 36;refine ak.out ?_)
 refine ak.mk ?_;refine(h3.out _ B2.out).mono ?_;rintro e w3 ⟨rfl,ar⟩;have X3:=aa (X2.out.below ar);have B3:=aa (ac B2.out ar);clear x0 ar X2;have x0:=X3.out.cells;cases t3
 ·have hn:=aa (fin.out 2 (Or.inr (Or.inl ⟨rfl,both.out,fun q=>by have:=HT3.out.2 q.1;cases this⟩)))
  go_wp2_with fail
  go_ret;exact⟨by rw[<-hn.out];rfl,B3.out⟩
 have hs:=aa (HT3.out.1 (by simp));go_wp2_with(go_at_call 40;refine ak.out ?_)
 refine ak.mk ?_;refine(h4.out _ B3.out).mono ?_;rintro e w4 ⟨rfl,aO⟩;have X4:=aa (X3.out.below aO);have B4:=aa (ac B3.out aO);clear x0 aO X3;have x0:=X4.out.cells;by_cases d16:(16:Int)<(D:Int)
 ·have hn:=aa (fin.out 2 (Or.inr (Or.inl ⟨rfl,both.out,fun q=>by have:=q.2.1;rw[HD.out]at this;omega⟩)))
  go_wp2_with fail
  go_ret;exact⟨by rw[<-hn.out];rfl,B4.out⟩
 go_wp2_with(go_at_call 41;refine ak.out ?_)
 refine ak.mk ?_;refine(h5.out _ B4.out).mono ?_;rintro e w5 ⟨rfl,bg⟩;have B5:=aa (ac B4.out bg);by_cases s512:(512:Int)<(Z:Int)
 ·have hn:=aa (fin.out 2 (Or.inr (Or.inl ⟨rfl,both.out,fun q=>by have:=q.2.2;rw[HZ.out]at this;omega⟩)))
  go_wp2_with fail
  go_ret;exact⟨by rw[<-hn.out];rfl,B5.out⟩
 have hn:=aa (fin.out 0 (Or.inr (Or.inr ⟨rfl,both.out,hs.out,by rw[HD.out];omega,by rw[HZ.out];omega⟩)));go_wp2_with fail
 go_ret;exact⟨by rw[<-hn.out];rfl,B5.out⟩
theorem ki{P:Program}(w:World)(dT sT ty elem:TypeId)(g off dLen dCap:Nat)(a:Addr)(sLen sCap sz m:Nat)(cur:Array Value)(t:TypeId)(cs:List Value)
  (hu:P.underlying dT=some (.slice elem)) (hs:(P.info? elem).map (·.size)=some sz)
  (hg:w.heap[g]?=some (.cells cur t (0,0))) (hm:Nat.min sLen dLen=m) (hn:cs.length=m*sz)
  (hsrc:∀j v,cs[j]?=some v->w.cell? (a.add j)=some v) (ma:off+cs.length<=cur.size) (h1:∀v∈cs,v.oneCell'=true) :
  (Builtin.copy_ #[dT,sT] ty #[.slice (some ⟨g,off,none⟩) dLen dCap,.slice (some a) sLen sCap]).run P w =
   .ok (goInt m) (w.setRow g (cur.toList.take off++(cs++cur.toList.drop (off+cs.length))).toArray):=by
 have hl:=run_loadCells_list (P:=P) w a cs hsrc;have cb:=run_storeCells_at P g off t cs 0 cur w hg (by simpa using ma) h1;cases hq:P.info? elem with
 |none=>simp[hq]at hs
 |some i=>
  have hi:i.size=sz:=by simpa [hq] using hs
  simp[Builtin.copy_,run_underlying hu,Builtin.lenOf,Builtin.firstCells,sizeOf,typeInfo,hq,hi,hm,<-hn,hl,cb]
theorem Eg:(Tryz.prog.info? 31).map (·.size)=some 9:=by kernel_rfl
theorem wt{ops:Array Oper}{o:Oper}{a:Act}{w:World}{K:Act->World->Prop}{Q:Exit->Act->World->Prop}{E:Prop}(hgd:o.guard=none)(d s:Operand)
  (ho:o.op=.call {callee:=.builtin .copy,args:=#[d,s],argTypes:=#[29,29]})
  (g off dLen dCap sLen sCap m:Nat) (ad:Addr) (hd:a.eval d=.slice (some ⟨g,off,none⟩) dLen dCap) (hs:a.eval s=.slice (some ad) sLen sCap)
  (cur:List Value) (t:TypeId) (hg:w.heap[g]?=some (.cells cur.toArray t (0,0))) (cs:List Value) (hm:Nat.min sLen dLen=m) (hn:cs.length=m*9)
  (hsrc:∀j v,cs[j]?=some v->w.cell? (ad.add j)=some v) (ma:off+cs.length<=cur.length) (h1:∀v∈cs,v.oneCell'=true) (B:Nat) (w0:World) (hb:Below B w0 w) (hBg:B<=g)
  (h:∀w',Hid (w'.heap[g]?=some (.cells (splice cur off cs).toArray t (0,0)))->Hid (Below B w0 w')->K (a.put o.dst (goInt m)) w') :
  if Region.wanted o (yielded ops a.tmps)=true then Oper.wp prog o a w K Q else E:=by
 have hw:Region.wanted o (yielded ops a.tmps)=true:=by simp[Region.wanted,hgd]
 rw[if_pos hw];have qH:=ki (P:=prog) w 29 29 o.type 31 g off dLen dCap ad sLen sCap 9 m cur.toArray t cs Tryz.underlying29 Eg hg hm hn hsrc (by simpa using ma) h1;unfold Oper.wp;simp[execOp,ho,resolve,invoke,builtin,hd,hs,qH,Result.andThen];exact h _ (show _=_ by simpa [splice] using setRow_heap w g _ _ t _ hg) (below_setRow hb hBg _)
theorem Co{ops:Array Oper}{rest:List Oper}{o:Oper}{a:Act}{w:World}{Q:Exit->Act->World->Prop}(hgd:o.guard=none)(d s:Operand)
  (ho:o.op=.call {callee:=.builtin .copy,args:=#[d,s],argTypes:=#[29,29]})
  (g off dLen dCap sLen sCap m:Nat) (ad:Addr) (hd:a.eval d=.slice (some ⟨g,off,none⟩) dLen dCap) (hs:a.eval s=.slice (some ad) sLen sCap)
  (cur:List Value) (t:TypeId) (hg:w.heap[g]?=some (.cells cur.toArray t (0,0))) (cs:List Value) (hm:Nat.min sLen dLen=m) (hn:cs.length=m*9)
  (hsrc:∀j v,cs[j]?=some v->w.cell? (ad.add j)=some v) (ma:off+cs.length<=cur.length) (h1:∀v∈cs,v.oneCell'=true) (B:Nat) (w0:World) (hb:Below B w0 w) (hBg:B<=g)
  (h:∀w',Hid (w'.heap[g]?=some (.cells (splice cur off cs).toArray t (0,0)))->Hid (Below B w0 w')->wpList prog ops Q rest (a.put o.dst (goInt m)) w'):wpList prog ops Q (o::rest) a w:=by
 refine wpList_plain hgd fun K hK=>?_;have qH:=ki (P:=prog) w 29 29 o.type 31 g off dLen dCap ad sLen sCap 9 m cur.toArray t cs Tryz.underlying29 Eg hg hm hn hsrc (by simpa using ma) h1;unfold Oper.wp;simp[execOp,ho,resolve,invoke,builtin,hd,hs,qH,Result.andThen];exact hK _ _ (h _ (show _=_ by simpa [splice] using setRow_heap w g _ _ t _ hg) (below_setRow hb hBg _))
def iT(k:Nat)(c:List Value):List Value:=(List.replicate k c).flatten
theorem eH(k:Nat)(c:List Value):(iT k c).length=k*c.length:=by
 induction k with
 |zero=>simp[iT]
 |succ k ih=>simp only[iT,List.replicate_succ,List.flatten_cons,List.length_append]at ih ⊢;rw[ih,Nat.succ_mul];omega
theorem kQ(a b:Nat)(c:List Value):iT (a+b) c=iT a c++iT b c:=by unfold iT;rw[<-List.replicate_append_replicate,List.flatten_append]
def gn(k:Int):List Value:=[.int .i64 k,.bool false,.bool false,.string ⟨#[]⟩,.int .i64 0,.int .u64 0,.string ⟨#[]⟩,.slice none 0 0,.slice none 0 0]
def LN(n N:Nat):List Value:=iT n (gn 1)++iT (N-n) (gn 0)
theorem FP{n N:Nat}(h:n<=N):(LN n N).length=N*9:=by unfold LN;rw[List.length_append,eH,eH,show(gn 1).length=9 from rfl,show(gn 0).length=9 from rfl];omega
theorem rB{n m N:Nat}(h:n+m<=N):splice (LN n N) (n*9) (iT m (gn 1))=LN (n+m) N:=by
 have e:N-n=m+(N-(n+m)):=by omega
 unfold splice LN;rw[e,kQ m _ (gn 0)];have l1:(iT n (gn 1)).length=n*9:=eH _ _;have l2:(iT m (gn 1)).length=m*9:=eH _ _;have l3:(iT m (gn 0)).length=m*9:=eH _ _;rw[List.take_append_of_le_length (by omega),List.take_of_length_le (by omega),kQ n m (gn 1),l2];rw[List.drop_append,List.drop_of_length_le (by omega),l1];rw[show n*9+m*9-n*9=m*9 by omega,List.drop_append,List.drop_of_length_le (by omega),l3];simp
theorem IY{n N j:Nat}{v:Value}{m:Nat}(hm:m<=n)(h:(iT m (gn 1))[j]?=some v):(LN n N)[j]?=some v:=by have l2:(iT m (gn 1)).length=m*9:=eH _ _;have hj:=(List.getElem?_eq_some_iff.1 h).1;unfold LN;rw[show n=m+(n-m)by omega,kQ,List.append_assoc,List.getElem?_append_left hj];exact h
theorem yC(k:Nat)(c:List Value)(hc:∀v∈c,v.oneCell'=true):∀v∈iT k c,v.oneCell'=true:=by intro v hv;unfold iT at hv;obtain⟨l,hl,hv⟩:=List.mem_flatten.1 hv;rw[List.mem_replicate]at hl;rw[hl.2]at hv;exact hc v hv
theorem yQ(k:Int):∀v∈gn k,v.oneCell'=true:=by intro v hv;simp only[gn,List.mem_cons,List.not_mem_nil,or_false]at hv;rcases hv with rfl|rfl|rfl|rfl|rfl|rfl|rfl|rfl|rfl<;>rfl
theorem OH(N:Nat):(madeCells (gn 0).toArray (N*9)).toList=iT N (gn 0):=by
 induction N with
 |zero=>simp[madeCells,iT]
 |succ N ih=>
  have e:(N+1)*9=N*9+9:=by omega
  rw[kQ N 1,<-ih,e];apply List.ext_getElem?;intro j;have l1:(madeCells (gn 0).toArray (N*9)).toList.length=N*9:=by simp[madeCells]
  by_cases hj:j<N*9
  ·rw[List.getElem?_append_left (by omega)]
   simp only[madeCells,Array.toList_map,Array.toList_range,List.getElem?_map];rw[List.getElem?_range (by omega),List.getElem?_range hj]
  rw[List.getElem?_append_right (by omega),l1];by_cases Wm:j<N*9+9
  ·obtain⟨r,rfl⟩:∃r,j=N*9+r:=⟨j-N*9,by omega⟩
   have hr:r<9:=by omega
   simp only[madeCells,Array.toList_map,Array.toList_range,List.getElem?_map];rw[List.getElem?_range Wm,Nat.add_sub_cancel_left];have em:(N*9+r)%(gn 0).toArray.size=r:=by show(N*9+r)%9=r;omega
   simp only[Option.map_some,em]
   match r,hr with
   |0,_=>rfl
   |1,_=>rfl
   |2,_=>rfl
   |3,_=>rfl
   |4,_=>rfl
   |5,_=>rfl
   |6,_=>rfl
   |7,_=>rfl
   |8,_=>rfl
  rw[List.getElem?_eq_none (by simp[madeCells];omega),List.getElem?_eq_none (by simp[iT,gn];omega)]
theorem Li:(Tryz.prog.info? 31).map (fun i=>(i.zero,i.size,i.bytes))=some (some (.agg #[.int .i64 0,.bool false,.bool false,.string ⟨#[]⟩,.int .i64 0,.int .u64 0,.string ⟨#[]⟩,.slice none 0 0,.slice none 0 0]),9,120):=by kernel_rfl
theorem wH{w:World}{b o c:Nat}(N:Nat)(hN:N<=100000)(hx:∀j v,(gn 1)[j]?=some v->w.cell? ⟨b,o+j,none⟩=some v)(hb:b<w.heap.size):Calls prog 139 #[.slice (some ⟨b,o,none⟩) 1 c,.int .i64 N] w fun e w'=>e=.returned (.slice (some ⟨w.heap.size,0,none⟩) N N)/\w'.heap[w.heap.size]?=some (.cells (iT N (gn 1)).toArray 31 (0,0))/\Below w.heap.size w w':=by
 have hX:=aa hx;have hm:=aa (fun W=>Any.bits_Mul laysBM 1 N (by omega) (by omega) W);have e1:1*N/18446744073709551616=0:=by omega
 have e2:1*N%18446744073709551616=N:=by omega
 rw[e1,e2]at hm;have xx:¬(N:Int)<0:=by omega
 have Xy:IntKind.u64.wrap (N:Int)=(N:Int):=by rw[IntKind.wrap_u64];omega
 have VR:IntKind.i64.wrap (N:Int)=(N:Int):=by rw[IntKind.wrap_i64];omega
 have BZ:¬(9223372036854775807:Int)<(N:Int):=by omega
 clear hx e1 e2;go_enter func139,ntmps139;go_wp2_with(first|(go_at_call 166;refine ak.out ?_)|(at_builtin;refine ak.out ?_))
 refine ak.mk ?_;refine(hm.out _).mono ?_;rintro e w1 ⟨rfl,aT⟩;rw[aT];clear aT hm;obtain⟨i0,hi,fY,gD,eR⟩:=info_parts Li;go_wp2_with(refine wpList_make_full w rfl _ _ 29 rfl w.heap.size 31 i0 (.agg #[.int .i64 0,.bool false,.bool false,.string ⟨#[]⟩,.int .i64 0,.int .u64 0,.string ⟨#[]⟩,.slice none 0 0,.slice none 0 0]) 9 Tryz.underlying29 hi fY gD .i64 .i64 _ _ N rfl rfl rfl rfl (by rw[eR];omega) (by unfold maxLen;omega) (Nat.le_refl _) ?_;refine ak.out ?_)
 refine ak.mk ?_;intro w2 ho hg;have H2:Hid (w2.heap[w.heap.size]?=some (.cells (LN 0 N).toArray 31 (0,0))):=by
  rcases ho.2 with⟨h,_⟩|⟨g,cap,cur,e,_,hcell,_,_,cC,ms⟩
  ·cases h
  obtain⟨e1,_,e3⟩:=Value.slice.inj e;cases e1;cases e3;have e5:cur.toList=LN 0 N:=by
   have:cur.toList.length=N*9:=by simpa using cC
   rw[List.take_of_length_le (by omega)]at ms;rw[ms];exact(OH N).trans (by simp[LN,iT])
  show _=_;rw[hcell,<-e5]
 have B2:Hid (Below w.heap.size w w2):=af.grown hg (Nat.le_refl _) (fun k hk=>by cases hk);have UA:Hid (∀j v,(gn 1)[j]?=some v->w2.cell? ⟨b,o+j,none⟩=some v):=fun j v hj=>(World.cell?_of_block (w:=w) (B2.out.block b hb)).trans (hX.out j v hj);obtain⟨m,Ca⟩:∃m,Nat.min 1 N=m:=⟨_,rfl⟩
 have pd:m<=N/\m<=1/\(1<=m\/N=0):=by rw[<-Ca];show min 1 N<=N/\min 1 N<=1/\(1<=min 1 N\/N=0);omega
 have HM:=aa Ca;clear ho hg hi fY gD eR Ca hX;have HS:Hid (∀j v,(iT m (gn 1))[j]?=some v->w2.cell? ((⟨b,o,none⟩:Addr).add j)=some v):=by
  intro j v hj;have Wn:(gn 1)[j]?=some v:=by
   rcases Nat.le_one_iff_eq_zero_or_eq_one.1 pd.2.1 with h|h
   ·rw[h]at hj;simp[iT]at hj
   rw[h]at hj;simpa [iT] using hj
  rw[show(⟨b,o,none⟩:Addr).add j=⟨b,o+j,none⟩by unfold Addr.add;split<;>simp_all];exact UA.out j v Wn
 have HL:Hid (0+(iT m (gn 1)).length<=(LN 0 N).length):=by have e1:(iT m (gn 1)).length=m*9:=eH _ _;show _<=_;rw[FP (Nat.zero_le _),e1];omega
 go_wp2_with(refine Co rfl (.tmp 31) (.tmp 32) rfl w.heap.size 0 N N 1 c m ⟨b,o,none⟩ rfl rfl (LN 0 N) 31 H2.out (iT m (gn 1)) HM.out (eH _ _) HS.out HL.out (yC _ _ (yQ 1)) w.heap.size w B2.out (Nat.le_refl _) ?_;refine ak.out ?_)
 refine ak.mk ?_;intro w3 H3 B3;have H4:Hid (w3.heap[w.heap.size]?=some (.cells (LN m N).toArray 31 (0,0))):=by have e:=rB (n:=0) (m:=m) (N:=N) (by omega);have h:=H3.out;rw[Nat.zero_mul,Nat.zero_add]at e;rw[e]at h;exact h
 clear H3 H2 B2 UA;go_wp2_with fail
 go_loopw [8] (fun v W=>∃n:Nat,v=.int .i64 (n:Nat)/\n<=N/\(1<=n\/N=0)/\Hid (W.heap[w.heap.size]?=some (.cells (LN n N).toArray 31 (0,0))/\Below w.heap.size w W)) (fun v _=>N-(intOf v).toNat)
 case atStart=>exact⟨m,rfl,pd.1,pd.2.2,H4.out,B3.out⟩
 case round=>
  obtain⟨n,rfl,cm,df,H⟩:=hrel;by_cases bm:n<N
  ·have SN:(n:Int)<(N:Int):=by omega
   have lI:(0:Int)<=(n:Int):=by omega
   have Ez:(n:Int)<=(N:Int):=by omega
   obtain⟨k,hk⟩:∃k,Nat.min n (N-n)=k:=⟨_,rfl⟩
   have nj:k<=n/\n+k<=N/\(1<=n->1<=k):=by rw[<-hk];show min n (N-n)<=n/\n+min n (N-n)<=N/\(1<=n->1<=min n (N-n));omega
   have HK:=aa hk;have HS2:Hid (∀j v,(iT k (gn 1))[j]?=some v->wr.cell? ((⟨w.heap.size,0,none⟩:Addr).add j)=some v):=by
    intro j v hj;rw[show(⟨w.heap.size,0,none⟩:Addr).add j=⟨w.heap.size,0+j,none⟩by unfold Addr.add;split<;>simp_all];unfold World.cell?;rw[H.out.1]
    simpa using IY (N:=N) nj.1 hj
   have HL2:Hid (n*9+(iT k (gn 1)).length<=(LN n N).length):=by have e1:(iT k (gn 1)).length=k*9:=eH _ _;show _<=_;rw[FP cm,e1];omega
   clear hk;have XB:IntKind.i64.wrap ((n:Int)+(k:Int))=((n+k:Nat):Int):=by rw[IntKind.wrap_i64];omega
   have aQ:¬N=n:=by omega
   go_wp2_with fail
   go_region_law (refine wt rfl (.tmp 41) (.tmp 44) rfl w.heap.size (n*9) (N-n) (N-n) n N k ⟨w.heap.size,0,none⟩ (by simp[Act.eval,Act.put,aQ]) (by simp[Act.eval,Act.put]) (LN n N) 31 H.out.1 (iT k (gn 1)) HK.out (eH _ _) HS2.out HL2.out (yC _ _ (yQ 1)) w.heap.size w (by exact H.out.2.drew) (Nat.le_refl _) ?_;intro w4 H4 B4)
   all_goals
    go_wp2_with fail
    refine⟨⟨Value.int .i64 ((n:Int)+(k:Int)),_,_,_,_,_,_,_,_,_,_,_,_,_,⟨n+k,by rw[Int.natCast_add],nj.2.1,by omega,?_,B4.out⟩,rfl⟩,?_⟩
    ·rw[<-rB nj.2.1];exact H4.out
    show N-(intOf (Value.int .i64 ((n:Int)+(k:Int)))).toNat<N-(intOf (Value.int .i64 (n:Int))).toNat;have e1:(intOf (Value.int .i64 ((n:Int)+(k:Int)))).toNat=n+k:=by show((n:Int)+(k:Int)).toNat=n+k;omega
    have e2:(intOf (Value.int .i64 (n:Int))).toNat=n:=by show(n:Int).toNat=n;omega
    rw[e1,e2];omega
  have SN:¬(n:Int)<(N:Int):=by omega
  have SE:n=N:=by omega
  subst SE;go_wp2_with fail
  go_ret;refine⟨rfl,?_,H.out.2⟩;have:=H.out.1
  simpa [LN,iT] using this
theorem yZ{W:World}{o:Obj}{i:Nat}(h:i=W.heap.size):(W.alloc o).heap[i]?=some o:=by subst h;exact heap_alloc_last _ _
def AJ(k:Int)(t:ByteArray)(ns ls:Value):Array Value:=#[.int .i64 k,.bool false,.bool false,.string ⟨#[]⟩,.int .i64 0,.int .u64 0,.string t,ns,ls]
theorem DV(k:Int)(hk:k=2\/k=5)(n:Nat)(nm:ByteArray)(nms:List ByteArray)(vn:Nat)(val:VT vn)(l:List (ET n))(q:Sl)(w:World)(hr:RE (n+1) w (⟨k,nm,nms,vn,val⟩,l) q):Calls prog 85 #[.agg (ecl ⟨k,nm,nms,vn,val⟩ q)] w fun e w'=>∃g,e=.returned (.agg (AJ 9 nm (.slice none 0 0) (.slice (some ⟨g,0,none⟩) 1 1)))/\w'.heap[g]?=some (.cells (gn 1).toArray 31 (0,0))/\w.heap.size<=g/\Below w.heap.size w w':=by
 obtain⟨x1,y1,z1,x2,y2,z2,x3,y3,z3,x4,y4,z4,aK⟩:=hr.shape;subst aK;clear hr;unfold ecl;simp only[];rcases hk with rfl|rfl
 ·go_enter func85,ntmps85
  go_wp2_with fail
  refine bodyPost_ret (v:=.agg (AJ 9 nm (.slice none 0 0) (.slice (some ⟨w.heap.size+1+1+1,0,none⟩) 1 1))) (by simp[results,Tryz.results85,go_sem,AJ]) rfl ⟨_,rfl,?_,by omega,ab (ab (ab (ab af)))⟩;exact yZ (by simp[World.size_alloc])
 go_enter func85,ntmps85;go_wp2_with fail
 refine bodyPost_ret (v:=.agg (AJ 9 nm (.slice none 0 0) (.slice (some ⟨w.heap.size+1+1+1,0,none⟩) 1 1))) (by simp[results,Tryz.results85,go_sem,AJ]) rfl ⟨_,rfl,?_,by omega,ab (ab (ab (ab af)))⟩;exact yZ (by simp[World.size_alloc])
theorem DU(n:Nat)(nm:ByteArray)(nms:List ByteArray)(vn:Nat)(val:VT vn)(l:List (ET n))(q:Sl)(w:World)(hr:RE (n+1) w (⟨7,nm,nms,vn,val⟩,l) q):Calls prog 85 #[.agg (ecl ⟨7,nm,nms,vn,val⟩ q)] w fun e w'=>e=.returned (.agg (aP (aI vn val) q.vs q.vl))/\Below w.heap.size w w':=by
 obtain⟨x1,y1,z1,x2,y2,z2,x3,y3,z3,x4,y4,z4,aK⟩:=hr.shape;subst aK;clear hr;unfold ecl;simp only[];go_enter func85,ntmps85;go_wp2_with fail
 refine bodyPost_ret (v:=.agg (aP (aI vn val) (.slice x3 y3 z3) (.slice x4 y4 z4))) (by simp[results,Tryz.results85,go_sem,aP]) rfl ⟨rfl,ab (ab (ab af))⟩
theorem AK(k:Int)(hk:¬k=2/\¬k=5/\¬k=3/\¬k=6/\¬k=7)(n:Nat)(nm:ByteArray)(nms:List ByteArray)(vn:Nat)(val:VT vn)(l:List (ET n))(q:Sl)(w:World)(hr:RE (n+1) w (⟨k,nm,nms,vn,val⟩,l) q):Calls prog 85 #[.agg (ecl ⟨k,nm,nms,vn,val⟩ q)] w fun e w'=>e=.returned (.agg (AJ 1 ⟨#[]⟩ (.slice none 0 0) (.slice none 0 0)))/\Below w.heap.size w w':=by
 obtain⟨x1,y1,z1,x2,y2,z2,x3,y3,z3,x4,y4,z4,aK⟩:=hr.shape;subst aK;obtain⟨h1,h2,h3,h4,h5⟩:=hk;clear hr;unfold ecl;simp only[];go_enter func85,ntmps85;go_wp2_with fail
 refine bodyPost_ret (v:=.agg (AJ 1 ⟨#[]⟩ (.slice none 0 0) (.slice none 0 0))) (by simp[results,Tryz.results85,go_sem,AJ]) rfl ⟨rfl,ab (ab (ab af))⟩
structure LR(k:Nat)(w:World)(h:Eh)(q:Sl)(W:World):Prop where
 bel:Below k w W
 ex:W.heap[k]?=some (.cells (ecl h q) 33 (0,0))
 rs:W.heap[k+1]?=some (.cells (gn 0).toArray 31 (0,0))
 nl:W.heap[k+1+1]?=some (.cells (gn 1).toArray 31 (0,0))
structure LS(k:Nat)(h:Eh)(q:Sl)(W:World):Prop where
 ex:W.heap[k]?=some (.cells (ecl h q) 33 (0,0))
 nl:W.heap[k+1+1]?=some (.cells (gn 1).toArray 31 (0,0))
section
variable {k : Nat} {w W : World} {h : Eh} {q : Sl}
theorem LR.dr(H:LR k w h q W):LR k w h q W.drew:=⟨H.bel.drew,H.ex,H.rs,H.nl⟩
theorem LR.low{W1:World}(H:LR k w h q W)(hb:Below (k+3) W W1):LR k w h q W1:=⟨H.bel.trans (hb.mono (by omega)),(hb.block _ (by omega)).trans H.ex,(hb.block _ (by omega)).trans H.rs,(hb.block _ (by omega)).trans H.nl⟩
theorem LR.al{o:Obj}(H:LR k w h q W):LR k w h q (W.alloc o):=by have hz:k+1+1<W.heap.size:=(Array.getElem?_eq_some_iff.1 H.nl).1;exact H.low ((ab (Below.refl W.heap.size W)).mono (by omega))
theorem LR.ls(H:LR k w h q W):LS k h q W:=⟨H.ex,H.nl⟩
theorem LS.dr(H:LS k h q W):LS k h q W.drew:=⟨H.ex,H.nl⟩
theorem LS.al{o:Obj}(H:LS k h q W):LS k h q (W.alloc o):=⟨(Below.heap_alloc _ _ _ (Array.getElem?_eq_some_iff.1 H.ex).1).trans H.ex,(Below.heap_alloc _ _ _ (Array.getElem?_eq_some_iff.1 H.nl).1).trans H.nl⟩
theorem LS.set{j:Nat}{u:Value}(H:LS k h q W):LS k h q (W.setCell ⟨k+1,j,none⟩ u):=⟨(Below.heap_setCell _ _ _ _ (by show k≠k+1;omega)).trans H.ex,(Below.heap_setCell _ _ _ _ (by show k+1+1≠k+1;omega)).trans H.nl⟩
theorem LS.cells(H:LS k h q W):W.cell? ⟨k,2,none⟩=some q.ns/\W.cell? ⟨k,3,none⟩=some q.ls/\W.cell? ⟨k+1+1,0,none⟩=some (.int .i64 1)/\W.cell? ⟨k+1+1,1,none⟩=some (.bool false)/\W.cell? ⟨k+1+1,2,none⟩=some (.bool false)/\W.cell? ⟨k+1+1,3,none⟩=some (.string ⟨#[]⟩)/\W.cell? ⟨k+1+1,4,none⟩=some (.int .i64 0)/\W.cell? ⟨k+1+1,5,none⟩=some (.int .u64 0)/\W.cell? ⟨k+1+1,6,none⟩=some (.string ⟨#[]⟩)/\W.cell? ⟨k+1+1,7,none⟩=some (.slice none 0 0)/\W.cell? ⟨k+1+1,8,none⟩=some (.slice none 0 0):=by obtain⟨_,_,c2,c3,_⟩:=(show Ex W k h q from⟨H.ex⟩).cells;refine⟨c2,c3,?_,?_,?_,?_,?_,?_,?_,?_,?_⟩;iterate 9(unfold World.cell?;rw[H.nl];rfl)
theorem LR.res(H:LR k w h q W):W.cell? ⟨k+1,0,none⟩=some (.int .i64 0)/\W.cell? ⟨k+1,1,none⟩=some (.bool false)/\W.cell? ⟨k+1,2,none⟩=some (.bool false)/\W.cell? ⟨k+1,3,none⟩=some (.string ⟨#[]⟩)/\W.cell? ⟨k+1,4,none⟩=some (.int .i64 0)/\W.cell? ⟨k+1,5,none⟩=some (.int .u64 0)/\W.cell? ⟨k+1,6,none⟩=some (.string ⟨#[]⟩)/\W.cell? ⟨k+1,7,none⟩=some (.slice none 0 0)/\W.cell? ⟨k+1,8,none⟩=some (.slice none 0 0):=by refine⟨?_,?_,?_,?_,?_,?_,?_,?_,?_⟩;iterate 9(unfold World.cell?;rw[H.rs];rfl)
theorem LR.frz(H:LR k w h q W):∀j,W.frozen? ⟨k+1,j,none⟩=false:=fun j=>by have:=H.rs;simp[World.frozen?,this]
end
theorem gR{W:World}{o:Obj}{i:Nat}(h:i=W.heap.size):(W.alloc o).heap[i]?=some o:=by subst h;exact heap_alloc_last _ _
theorem su{W:World}{o:Obj}{i:Nat}{c:Option Obj}(hi:i<W.heap.size)(h:W.heap[i]?=c):(W.alloc o).heap[i]?=c:=(Below.heap_alloc _ _ _ hi).trans h
theorem KP(w:World)(h:Eh)(q:Sl):LR w.heap.size w h q (((w.alloc (.cells (ecl h q) 33)).alloc (.cells (gn 0).toArray 31)).alloc (.cells (gn 1).toArray 31)) :=
 ⟨ab (ab (ab af)),su (by simp;omega) (su (by simp) (gR rfl)),su (by simp) (gR (by simp)),gR (by simp)⟩
theorem Oj{W:World}{k:Nat}{T:TypeId}{c0 c1 c2 c3 c4 c5 c6 c7 c8 d0 d1 d2 d3 d4 d5 d6 d7 d8:Value}(h0:W.heap[k]?=some (.cells #[c0,c1,c2,c3,c4,c5,c6,c7,c8] T (0,0))):(((((((((W.setCell ⟨k,0,none⟩ d0).setCell ⟨k,1,none⟩ d1).setCell ⟨k,2,none⟩ d2).setCell ⟨k,3,none⟩ d3).setCell ⟨k,4,none⟩ d4).setCell ⟨k,5,none⟩ d5).setCell ⟨k,6,none⟩ d6).setCell ⟨k,7,none⟩ d7).setCell ⟨k,8,none⟩ d8).heap[k]?=some (.cells #[d0,d1,d2,d3,d4,d5,d6,d7,d8] T (0,0)):=by have q0:=di h0 0 d0;have q1:=di q0 1 d1;have q2:=di q1 2 d2;have q3:=di q2 3 d3;have q4:=di q3 4 d4;have q5:=di q4 5 d5;have q6:=di q5 6 d6;have q7:=di q6 7 d7;have q8:=di q7 8 d8;simp only[List.setIfInBounds_toArray,List.set_cons_zero,List.set_cons_succ]at q8;exact q8
theorem Dz{W:World}{i:Nat}(h:W.heap[i]?=some (.cells (gn 1).toArray 31 (0,0))):∀j v,(gn 1)[j]?=some v->W.cell? ⟨i,0+j,none⟩=some v:=by
 intro j v hj;unfold World.cell?;rw[h]
 simpa using hj
theorem DW(k:Int)(hk:k=3\/k=6)(n:Nat)(nm:ByteArray)(nms:List ByteArray)(vn:Nat)(val:VT vn)(l:List (ET n))(q:Sl)(w:World)(hl:l.length<=100000)(hr:RE (n+1) w (⟨k,nm,nms,vn,val⟩,l) q):Calls prog 85 #[.agg (ecl ⟨k,nm,nms,vn,val⟩ q)] w fun e w'=>∃g,e=.returned (.agg (AJ 8 ⟨#[]⟩ q.ns (.slice (some ⟨g,0,none⟩) l.length l.length)))/\w'.heap[g]?=some (.cells (iT l.length (gn 1)).toArray 31 (0,0))/\w.heap.size<=g/\Below w.heap.size w w':=by
 obtain⟨al,cl,cd,bB,br⟩:=hr.tl.len;obtain⟨x1,y1,z1,x2,y2,z2,x3,y3,z3,x4,y4,z4,aK⟩:=hr.shape;subst aK;obtain⟨rfl,rfl,rfl⟩:=Value.slice.inj cd;clear cd hr bB br;simp only;obtain⟨N,hN⟩:∃N,l.length=N:=⟨_,rfl⟩
 rw[hN]at hl ⊢;clear hN;have Pp:=aa (fun(W:World) (h:∀j v,(gn 1)[j]?=some v->W.cell? ⟨w.heap.size+1+1+1,0+j,none⟩=some v) (hb:w.heap.size+1+1+1<W.heap.size)=>wH (c:=1) N hl h hb);have L0:=aa (KP w ⟨k,nm,nms,vn,val⟩ ⟨.slice x1 y1 z1,.slice x2 N z2,.slice x3 y3 z3,.slice x4 y4 z4⟩);unfold ecl at L0 ⊢;unfold gn at L0;simp only[]at L0 ⊢;rcases hk with rfl|rfl
 ·go_enter func85,ntmps85
  go_wp2_with fail
  have c0:=L0.out.ls.cells;simp only[]at c0
  go_region_held3 (fun W=>W.cell? ⟨w.heap.size,2,none⟩=some (.slice x1 y1 z1)/\W.cell? ⟨w.heap.size,3,none⟩=some (.slice x2 N z2)/\W.cell? ⟨w.heap.size+1+1,0,none⟩=some (.int .i64 1)/\W.cell? ⟨w.heap.size+1+1,1,none⟩=some (.bool false)/\W.cell? ⟨w.heap.size+1+1,2,none⟩=some (.bool false)/\W.cell? ⟨w.heap.size+1+1,3,none⟩=some (.string ⟨#[]⟩)/\W.cell? ⟨w.heap.size+1+1,4,none⟩=some (.int .i64 0)/\W.cell? ⟨w.heap.size+1+1,5,none⟩=some (.int .u64 0)/\W.cell? ⟨w.heap.size+1+1,6,none⟩=some (.string ⟨#[]⟩)/\W.cell? ⟨w.heap.size+1+1,7,none⟩=some (.slice none 0 0)/\W.cell? ⟨w.heap.size+1+1,8,none⟩=some (.slice none 0 0)) (first|(refine LS.cells (h:=⟨3,nm,nms,vn,val⟩) (q:=⟨.slice x1 y1 z1,.slice x2 N z2,.slice x3 y3 z3,.slice x4 y4 z4⟩) ?_;(repeat (first|with_reducible (exact L0.out.ls)|with_reducible (exact L3.out.ls)|with_reducible (refine LS.dr ?_)|with_reducible (refine LS.al ?_)|with_reducible (refine LS.set ?_))))) (first|(go_at_call 139;refine(Pp.out _ (Dz (show(World.drew _).heap[_]?=_ from gR (by simp))) (by simp)).mono ?_;rintro e w3 ⟨rfl,h1,h2⟩;have L3:=aa (L0.out.al.dr.low (h2.mono (by simp)));have f3:=L3.out.frz;have r3:=L3.out.res;have H1:=aa h1;have H2:=aa h2;clear h1 h2))
  clear c0;go_wp2_with fail
  have p3:=Oj (d0:=.int .i64 8) (d1:=.bool false) (d2:=.bool false) (d3:=.string ⟨#[]⟩) (d4:=.int .i64 0) (d5:=.int .u64 0) (d6:=.string ⟨#[]⟩) (d7:=.slice x1 y1 z1) (d8:=.slice (some ⟨w.heap.size+1+1+1+1,0,none⟩) N N) L3.out.rs;have mr:w.heap.size+1+1+1+1<=w3.heap.size:=by have:=H2.out.size;simpa using this
  generalize hY:World.setCell (World.setCell (World.setCell (World.setCell (World.setCell (World.setCell (World.setCell (World.setCell (World.setCell w3 _ _) _ _) _ _) _ _) _ _) _ _) _ _) _ _) _ _=Y at p3 ⊢;have bY:Below w.heap.size w Y:=by
   rw[<-hY];iterate 9(refine Below.setCell ?_ (by show w.heap.size<=w.heap.size+1;omega) _)
   exact L3.out.bel
  have gY:Y.heap[w.heap.size+1+1+1+1]?=some (.cells (iT N (gn 1)).toArray 31 (0,0)):=by
   rw[<-hY];iterate 9(rw[Below.heap_setCell _ _ _ _ (by show w.heap.size+1+1+1+1≠w.heap.size+1;omega)])
   have:=H1.out
   simpa using this
  clear hY r3 f3 H1 H2 L3;have y0:Y.cell? ⟨w.heap.size+1,0,none⟩=some (.int .i64 8)/\Y.cell? ⟨w.heap.size+1,1,none⟩=some (.bool false)/\Y.cell? ⟨w.heap.size+1,2,none⟩=some (.bool false)/\Y.cell? ⟨w.heap.size+1,3,none⟩=some (.string ⟨#[]⟩)/\Y.cell? ⟨w.heap.size+1,4,none⟩=some (.int .i64 0)/\Y.cell? ⟨w.heap.size+1,5,none⟩=some (.int .u64 0)/\Y.cell? ⟨w.heap.size+1,6,none⟩=some (.string ⟨#[]⟩)/\Y.cell? ⟨w.heap.size+1,7,none⟩=some (.slice x1 y1 z1)/\Y.cell? ⟨w.heap.size+1,8,none⟩=some (.slice (some ⟨w.heap.size+1+1+1+1,0,none⟩) N N):=by refine⟨?_,?_,?_,?_,?_,?_,?_,?_,?_⟩;iterate 9(unfold World.cell?;rw[p3];rfl)
  refine bodyPost_ret (v:=.agg (AJ 8 ⟨#[]⟩ (.slice x1 y1 z1) (.slice (some ⟨w.heap.size+1+1+1+1,0,none⟩) N N))) (by simp[results,Tryz.results85,go_sem,AJ,y0]) rfl ⟨_,rfl,gY,by omega,bY⟩
 go_enter func85,ntmps85;go_wp2_with fail
 have c0:=L0.out.ls.cells;simp only[]at c0
 go_region_held3 (fun W=>W.cell? ⟨w.heap.size,2,none⟩=some (.slice x1 y1 z1)/\W.cell? ⟨w.heap.size,3,none⟩=some (.slice x2 N z2)/\W.cell? ⟨w.heap.size+1+1,0,none⟩=some (.int .i64 1)/\W.cell? ⟨w.heap.size+1+1,1,none⟩=some (.bool false)/\W.cell? ⟨w.heap.size+1+1,2,none⟩=some (.bool false)/\W.cell? ⟨w.heap.size+1+1,3,none⟩=some (.string ⟨#[]⟩)/\W.cell? ⟨w.heap.size+1+1,4,none⟩=some (.int .i64 0)/\W.cell? ⟨w.heap.size+1+1,5,none⟩=some (.int .u64 0)/\W.cell? ⟨w.heap.size+1+1,6,none⟩=some (.string ⟨#[]⟩)/\W.cell? ⟨w.heap.size+1+1,7,none⟩=some (.slice none 0 0)/\W.cell? ⟨w.heap.size+1+1,8,none⟩=some (.slice none 0 0)) (first|(refine LS.cells (h:=⟨6,nm,nms,vn,val⟩) (q:=⟨.slice x1 y1 z1,.slice x2 N z2,.slice x3 y3 z3,.slice x4 y4 z4⟩) ?_;(repeat (first|with_reducible (exact L0.out.ls)|with_reducible (exact L3.out.ls)|with_reducible (refine LS.dr ?_)|with_reducible (refine LS.al ?_)|with_reducible (refine LS.set ?_))))) (first|(go_at_call 139;refine(Pp.out _ (Dz (show(World.drew _).heap[_]?=_ from gR (by simp))) (by simp)).mono ?_;rintro e w3 ⟨rfl,h1,h2⟩;have L3:=aa (L0.out.al.dr.low (h2.mono (by simp)));have f3:=L3.out.frz;have r3:=L3.out.res;have H1:=aa h1;have H2:=aa h2;clear h1 h2))
 clear c0;go_wp2_with fail
 have p3:=Oj (d0:=.int .i64 8) (d1:=.bool false) (d2:=.bool false) (d3:=.string ⟨#[]⟩) (d4:=.int .i64 0) (d5:=.int .u64 0) (d6:=.string ⟨#[]⟩) (d7:=.slice x1 y1 z1) (d8:=.slice (some ⟨w.heap.size+1+1+1+1,0,none⟩) N N) L3.out.rs;have mr:w.heap.size+1+1+1+1<=w3.heap.size:=by have:=H2.out.size;simpa using this
 generalize hY:World.setCell (World.setCell (World.setCell (World.setCell (World.setCell (World.setCell (World.setCell (World.setCell (World.setCell w3 _ _) _ _) _ _) _ _) _ _) _ _) _ _) _ _) _ _=Y at p3 ⊢;have bY:Below w.heap.size w Y:=by
  rw[<-hY];iterate 9(refine Below.setCell ?_ (by show w.heap.size<=w.heap.size+1;omega) _)
  exact L3.out.bel
 have gY:Y.heap[w.heap.size+1+1+1+1]?=some (.cells (iT N (gn 1)).toArray 31 (0,0)):=by
  rw[<-hY];iterate 9(rw[Below.heap_setCell _ _ _ _ (by show w.heap.size+1+1+1+1≠w.heap.size+1;omega)])
  have:=H1.out
  simpa using this
 clear hY r3 f3 H1 H2 L3;have y0:Y.cell? ⟨w.heap.size+1,0,none⟩=some (.int .i64 8)/\Y.cell? ⟨w.heap.size+1,1,none⟩=some (.bool false)/\Y.cell? ⟨w.heap.size+1,2,none⟩=some (.bool false)/\Y.cell? ⟨w.heap.size+1,3,none⟩=some (.string ⟨#[]⟩)/\Y.cell? ⟨w.heap.size+1,4,none⟩=some (.int .i64 0)/\Y.cell? ⟨w.heap.size+1,5,none⟩=some (.int .u64 0)/\Y.cell? ⟨w.heap.size+1,6,none⟩=some (.string ⟨#[]⟩)/\Y.cell? ⟨w.heap.size+1,7,none⟩=some (.slice x1 y1 z1)/\Y.cell? ⟨w.heap.size+1,8,none⟩=some (.slice (some ⟨w.heap.size+1+1+1+1,0,none⟩) N N):=by refine⟨?_,?_,?_,?_,?_,?_,?_,?_,?_⟩;iterate 9(unfold World.cell?;rw[p3];rfl)
 refine bodyPost_ret (v:=.agg (AJ 8 ⟨#[]⟩ (.slice x1 y1 z1) (.slice (some ⟨w.heap.size+1+1+1+1,0,none⟩) N N))) (by simp[results,Tryz.results85,go_sem,AJ,y0]) rfl ⟨_,rfl,gY,by omega,bY⟩
def fQ:VT 1:=vH 1 false false aR 0 aR
def lJ(k:Int)(t:ByteArray)(ns:List ByteArray):Hd:=⟨k,false,false,aR,0,0,t,ns⟩
def cX(h:Eh)(m:Nat):(n:Nat)×VT n :=
 if h.op=2\/h.op=5 then ⟨2,(lJ 9 h.name [],List.replicate 1 fQ)⟩
 else if h.op=3\/h.op=6 then ⟨2,(lJ 8 aR h.names,List.replicate m fQ)⟩
 else if h.op=7 then ⟨h.vn,h.val⟩ else ⟨1,fQ⟩
theorem Dg(W:World):RD 1 W fQ (.slice none 0 0) (.slice none 0 0):=⟨Or.inl ⟨rfl,rfl⟩,Or.inl ⟨rfl,rfl⟩⟩
theorem GQ{N i r:Nat}{c:List Value}{v:Value}(hi:i<N)(h:c[r]?=some v):(iT N c)[i*c.length+r]?=some v:=by
 obtain⟨k,rfl⟩:∃k,N=i+(1+k):=⟨N-i-1,by omega⟩
 rw[kQ,kQ];rw[List.getElem?_append_right (by rw[eH];omega),eH,Nat.add_sub_cancel_left];have hr:=(List.getElem?_eq_some_iff.1 h).1;have e1:iT 1 c=c:=by simp[iT]
 rw[e1,List.getElem?_append_left hr];exact h
theorem uz{W:World}{g N:Nat}{h:Hd}{ns:Value}(hg:W.heap[g]?=some (.cells (iT N (gn 1)).toArray 31 (0,0)))(hN:N<=maxLen)(hn:NL W ns h.names):RD 2 W ((h,List.replicate N fQ):VT 2) ns (.slice (some ⟨g,0,none⟩) N N):=by
 have bm:=(Array.getElem?_eq_some_iff.1 hg).1;refine⟨hn,Or.inr ⟨g,0,N,none,by simp,by simp,hN,fun _=>⟨rfl,bm⟩,fun i hi=>?_⟩⟩;simp only[List.length_replicate]at hi;simp only[List.getElem_replicate];refine⟨.slice none 0 0,.slice none 0 0,fun j v hj=>?_,Dg W⟩;have h9:(gn 1)[j]?=some v:=hj;unfold World.cell?;rw[hg];have:=GQ hi h9;rw[show(gn 1).length=9 from rfl]at this
 simpa using this
def iF:(n:Nat)->ET n->Nat
 |0,_=>0
 |_+1,x=>x.2.length
def QF(h:Eh)(m:Nat)(w:World)(e:Ending)(w':World):Prop:=∃ns ls,e=.returned (.agg (aP (aI _ (cX h m).2) ns ls))/\RD _ w' (cX h m).2 ns ls/\Below w.heap.size w w'
theorem uS(n:Nat)(x:ET n)(q:Sl)(w:World)(hr:RE n w x q)(hg:GE n x):Calls prog 85 #[.agg (ecl (ehd n x) q)] w fun e w'=>QF (ehd n x) (iF n x) w e w':=by
 cases n with
 |zero=>exact Empty.elim x
 |succ n=>
  obtain⟨⟨k,nm,nms,vn,val⟩,l⟩:=x;show Calls _ _ #[.agg (ecl ⟨k,nm,nms,vn,val⟩ q)] _ fun e w'=>QF ⟨k,nm,nms,vn,val⟩ l.length w e w';unfold QF;by_cases h2:k=2\/k=5
  ·have e:cX ⟨k,nm,nms,vn,val⟩ l.length=⟨2,(lJ 9 nm [],List.replicate 1 fQ)⟩:=by simp[cX,h2]
   rw[e];refine(DV k h2 n nm nms vn val l q w hr).mono ?_;rintro e w1 ⟨g,rfl,jL,ii,hb⟩;exact⟨.slice none 0 0,_,rfl,uz (by simpa [iT] using jL) (by decide) (Or.inl ⟨rfl,rfl⟩),hb⟩
  by_cases h3:k=3\/k=6
  ·have e:cX ⟨k,nm,nms,vn,val⟩ l.length=⟨2,(lJ 8 aR nms,List.replicate l.length fQ)⟩:=by simp[cX,h2,h3]
   rw[e];have hl:l.length<=100000:=hg.2.1;refine(DW k h3 n nm nms vn val l q w hl hr).mono ?_;rintro e w1 ⟨g,rfl,jL,ii,hb⟩;exact⟨q.ns,_,rfl,uz jL (by unfold maxLen;omega) (hr.1.below hb),hb⟩
  by_cases h7:k=7
  ·have e:cX ⟨k,nm,nms,vn,val⟩ l.length=⟨vn,val⟩:=by simp[cX,h7]
   rw[e];subst h7;refine(DU n nm nms vn val l q w hr).mono ?_;rintro e w1 ⟨rfl,hb⟩;exact⟨q.vs,q.vl,rfl,hr.2.1.below hb,hb⟩
  have e:cX ⟨k,nm,nms,vn,val⟩ l.length=⟨1,fQ⟩:=by simp[cX,h2,h3,h7]
  rw[e];refine(AK k ⟨fun e=>h2 (Or.inl e),fun e=>h2 (Or.inr e),fun e=>h3 (Or.inl e),fun e=>h3 (Or.inr e),h7⟩ n nm nms vn val l q w hr).mono ?_;rintro e w1 ⟨rfl,hb⟩;exact⟨.slice none 0 0,.slice none 0 0,rfl,Dg w1,hb⟩
theorem nH(h:Hd)(m:Nat):jA 2 ((h,List.replicate m fQ):VT 2)=1+m:=by
 show 1+aA ((List.replicate m fQ).map (jA 1))=1+m
 induction m with
 |zero=>rfl
 |succ m ih=>rw[List.replicate_succ,List.map_cons,aA,show jA 1 fQ=1 from rfl];omega
theorem ug(h:Hd)(m:Nat)(h1:h.text.size<=281474976710656)(h2:h.dig.size<=281474976710656)(h3:h.names.length<=281474976710656)(h4:∀s∈h.names,s.size<=281474976710656):Sz 2 ((h,List.replicate m fQ):VT 2):=by refine⟨h1,h2,h3,h4,fun y hy=>?_⟩;rw[List.eq_of_mem_replicate hy];exact(zR 1 false false aR 0 aR fp fp).1
theorem uR{n:Nat}{x:ET n}{w:World}{ns ls:Value}(hg:GE n x)(hr:RD _ w (cX (ehd n x) (iF n x)).2 ns ls):UV _ w (cX (ehd n x) (iF n x)).2 ns ls:=by
 cases n with
 |zero=>exact Empty.elim x
 |succ n=>
  obtain⟨⟨k,nm,nms,vn,val⟩,l⟩:=x;obtain⟨⟨g1,g2,g3,g4,g5⟩,hl,_⟩:=hg;simp only at g1 g2 g3 g4 g5 hl;have key:Sz _ (cX ⟨k,nm,nms,vn,val⟩ l.length).2/\jA _ (cX ⟨k,nm,nms,vn,val⟩ l.length).2<=200000:=by
   by_cases h2:k=2\/k=5
   ·have e:cX ⟨k,nm,nms,vn,val⟩ l.length=⟨2,(lJ 9 nm [],List.replicate 1 fQ)⟩:=by simp[cX,h2]
    rw[e];exact⟨ug _ _ g1 fp (Nat.zero_le _) (fun s hs=>absurd hs (by simp[lJ])),by rw[nH];omega⟩
   by_cases h3:k=3\/k=6
   ·have e:cX ⟨k,nm,nms,vn,val⟩ l.length=⟨2,(lJ 8 aR nms,List.replicate l.length fQ)⟩:=by simp[cX,h2,h3]
    rw[e];exact⟨ug _ _ fp fp (by show nms.length<=_;omega) g3,by rw[nH];omega⟩
   by_cases h7:k=7
   ·have e:cX ⟨k,nm,nms,vn,val⟩ l.length=⟨vn,val⟩:=by simp[cX,h7]
    rw[e];exact⟨g4,g5⟩
   have e:cX ⟨k,nm,nms,vn,val⟩ l.length=⟨1,fQ⟩:=by simp[cX,h2,h3,h7]
   rw[e];exact zR 1 false false aR 0 aR fp fp
  exact⟨hr,key.1,key.2⟩
def SL(n:Nat)(x:ET n)(w:World):Prop:=GE n x/\Ut.Gu w
def wv(n:Nat)(x:ET n):Prop:=iL _ (cX (ehd n x) (iF n x)).2/\yc _ (cX (ehd n x) (iF n x)).2
def jI(k:Int):Prop:=k=1\/k=2\/k=3\/k=5
def rr(n:Nat)(x:ET n):Prop:=((ehd n x).op=4->iF n x=1)/\((ehd n x).op=12->2<=iF n x)/\((ehd n x).op=7->jI (aI _ (ehd n x).val).kind)/\iL _ (cX (ehd n x) (iF n x)).2
theorem SL.low{n:Nat}{x:ET n}{w W:World}(h:SL n x w)(hb:Below w.heap.size w W):SL n x W:=⟨h.1,h.2.below hb⟩
theorem sH(n:Nat)(x:ET n)(q:Sl)(w:World)(hr:RE n w x q)(hs:SL n x w):Calls prog 39 #[.agg (ecl (ehd n x) q)] w fun e w'=>TB (wv n x) w e w':=by
 have hl:=aa (fun o=>uS n x q (w.alloc o) (hr.below (ab af)) hs.1);obtain⟨x1,y1,z1,x2,y2,z2,x3,y3,z3,x4,y4,z4,aK⟩:=hr.shape;subst aK;obtain⟨E,hE⟩:=FG _ (cX (ehd n x) (iF n x)).2;have hk:=aa (fun ns ls W (hb:Below w.heap.size w W) (h:RD _ W (cX (ehd n x) (iF n x)).2 ns ls)=>ry _ (cX (ehd n x) (iF n x)).2 ns ls W (uR hs.1 h) (hs.2.below hb) E hE);have hx:Hid (wv n x↔E=0):=by
  show wv n x↔E=0;rcases hE with⟨rfl,h⟩|⟨rfl,h,h'⟩|⟨rfl,h,h'⟩
  ·exact⟨fun q=>absurd q.1 h,fun q=>by cases q⟩
  ·exact⟨fun q=>absurd q.2 h',fun q=>by cases q⟩
  exact⟨fun _=>rfl,fun _=>⟨h,h'⟩⟩
 obtain⟨p,hp⟩:∃p,wv n x=p:=⟨_,rfl⟩
 rw[hp]at hx ⊢;have X0:=aa (bC w (ehd n x) ⟨.slice x1 y1 z1,.slice x2 y2 z2,.slice x3 y3 z3,.slice x4 y4 z4⟩);clear hr hs hE hp;unfold QF at hl;obtain⟨h,hh⟩:∃h,ehd n x=h:=⟨_,rfl⟩
 obtain⟨m,hm⟩:∃m,iF n x=m:=⟨_,rfl⟩
 rw[hh,hm]at hl hk;rw[hh]at X0 ⊢;clear hh hm;obtain⟨V,hV⟩:∃V,cX h m=V:=⟨_,rfl⟩
 rw[hV]at hl hk;clear hV;obtain⟨vn,v⟩:=V;simp only at hl hk;simp only[ecl]at hl X0 ⊢;go_enter func39,ntmps39;go_wp2_with(go_at_call 85;refine ak.out ?_)
 refine ak.mk ?_;refine(hl.out _).mono ?_;rintro e w1 ⟨ns,ls,rfl,bf,ai⟩;have B1:=aa (ac (ab af) ai);have hc:=aa (hk.out ns ls w1 B1.out bf);clear ai bf hk hl;unfold aP at hc ⊢;go_wp2_with(go_at_call 84;refine ak.out ?_)
 refine ak.mk ?_;refine hc.out.mono ?_;rintro e w2 ⟨rfl,aq⟩;have B2:=aa (ac B1.out aq);go_wp2_with fail
 go_ret;exact⟨_,rfl,(show Hid _ from⟨fun q=>hx.out.2 (by simpa using q),fun q=>by simpa using hx.out.1 q⟩),B2.out⟩
variable {dq : {_f : (p : Prop) → Decidable p // True}}
theorem dZ:iL 1 fQ:=by
 refine⟨⟨by decide,by decide,rfl,Or.inr rfl⟩,⟨fun h=>?_,fun h=>?_,fun h=>?_,fun h=>?_⟩,fun y hy=>absurd hy (by simp[fQ,vH])⟩
 all_goals exact absurd h (by decide)
theorem Hl{h:Eh}{m:Nat}(k:h.op=4\/h.op=12):cX h m=⟨1,fQ⟩:=by rcases k with k|k<;>simp[cX,k]
theorem qG(n:Nat)(x:ET n)(q:Sl)(w:World)(hr:RE n w x q)(hs:SL n x w):Calls prog 38 #[.agg (ecl (ehd n x) q)] w fun e w'=>TB (rr n x) w e w':=by
 have hl:=aa (fun W (hb:Below w.heap.size w W)=>uS n x q W (hr.below hb) hs.1);have aL:∃a c,q.ls=.slice a (iF n x) c:=by
  cases n with
  |zero=>exact Empty.elim x
  |succ n=>
   obtain⟨a,c,e,_⟩:=hr.tl.len;exact⟨a,c,e⟩
 obtain⟨x1,y1,z1,x2,y2,z2,x3,y3,z3,x4,y4,z4,aK⟩:=hr.shape;subst aK;obtain⟨a,c,cd⟩:=aL;obtain⟨rfl,rfl,rfl⟩:=Value.slice.inj cd;clear cd;obtain⟨E,hE⟩:=FG _ (cX (ehd n x) (iF n x)).2;have hk:=aa (fun ns ls W (hb:Below w.heap.size w W) (h:RD _ W (cX (ehd n x) (iF n x)).2 ns ls)=>ry _ (cX (ehd n x) (iF n x)).2 ns ls W (uR hs.1 h) (hs.2.below hb) E hE);have hx:iL _ (cX (ehd n x) (iF n x)).2↔E≠40:=by
  rcases hE with⟨rfl,h⟩|⟨rfl,h,h'⟩|⟨rfl,h,h'⟩
  ·exact⟨fun q=>absurd q h,fun q=>absurd rfl q⟩
  ·exact⟨fun _=>by decide,fun _=>h⟩
  exact⟨fun _=>by decide,fun _=>h⟩
 have hP:Hid (rr n x↔((ehd n x).op=4->iF n x=1)/\((ehd n x).op=12->2<=iF n x)/\((ehd n x).op=7->jI (aI _ (ehd n x).val).kind)/\E≠40):=by show _↔_;unfold rr;rw[hx]
 have Ff:Hid ((ehd n x).op=4\/(ehd n x).op=12->E≠40):=fun k=>hx.1 (by rw[Hl k];exact dZ);obtain⟨p,hp⟩:∃p,rr n x=p:=⟨_,rfl⟩
 rw[hp]at hP ⊢;have X0:=aa (bC w (ehd n x) ⟨.slice x1 y1 z1,.slice x2 (iF n x) z2,.slice x3 y3 z3,.slice x4 y4 z4⟩);clear hr hs hE hp hx;unfold QF at hl;obtain⟨h,hh⟩:∃h,ehd n x=h:=⟨_,rfl⟩
 obtain⟨m,hm⟩:∃m,iF n x=m:=⟨_,rfl⟩
 rw[hh,hm]at hl hk hP;rw[hh]at Ff;rw[hh,hm]at X0 ⊢;clear hh hm;obtain⟨V,hV⟩:∃V,cX h m=V:=⟨_,rfl⟩
 rw[hV]at hl hk;clear hV;obtain⟨vn,v⟩:=V;simp only at hl hk;obtain⟨op,nm,nms,Hu,fZ⟩:=h;have Ws:=aa (fun W=>uY (aI Hu fZ).kind W);simp only[ecl]at hl X0 hP Ff ⊢;by_cases k4:op=4
 ·subst k4
  have hE:=Ff.out (Or.inl rfl);have hq:p↔m=1:=by rw[hP.out];simp[hE]
  obtain⟨b,hb⟩:=dX p;have gd:=aa hb;have Ui:((m:Int)==1)=b:=by rw[Bool.eq_iff_iff,hb,hq];simp;omega
  clear hq hb;go_enter func38,ntmps38;go_wp2_with fail
  go_ret;exact⟨_,rfl,(show Hid _ from⟨fun q=>gd.out.1 (by first|exact q|exact Ui.symm.trans q),fun q=>by first|exact gd.out.2 q|exact Ui.trans (gd.out.2 q)⟩),ab af⟩
 by_cases k12:op=12
 ·subst k12
  have hE:=Ff.out (Or.inr rfl);have hq:p↔2<=m:=by rw[hP.out];simp[hE]
  have hQ:=aa hq;clear hq;by_cases h2:(2:Int)<=(m:Int)
  ·go_enter func38,ntmps38
   go_wp2_with fail
   go_ret;exact TB.yes (hQ.out.2 (by omega)) (ab af)
  go_enter func38,ntmps38;go_wp2_with fail
  go_ret;exact TB.no (fun q=>by have:=hQ.out.1 q;omega) (ab af)
 have tailP:Hid (∀w1,Below w.heap.size w w1->∀e w2,(e=.returned (.bool (E != 40))/\Below w.heap.size w w2)->(op=7->jI (aI Hu fZ).kind)->TB p w e w2):=by rintro w1 ai e w2 ⟨rfl,aq⟩ hc;refine⟨_,rfl,(show Hid _ from⟨fun q=>hP.out.2 ⟨fun e=>absurd e k4,fun e=>absurd e k12,hc,by simpa using q⟩,fun q=>by simpa using (hP.out.1 q).2.2.2⟩),aq⟩
 by_cases k7:op=7
 ·subst k7
  go_enter func38,ntmps38;go_wp2_with(go_at_call 83;refine ak.out ?_)
  refine ak.mk ?_;refine(Ws.out _).mono ?_;rintro e w1 ⟨b,rfl,hT,ai⟩;have eN:=aa hT;have B1:=aa (ac (ab af) ai);have X1:=aa (X0.out.below ai);have aJ:=aa (hl.out w1 B1.out);have x0:=X1.out.cells;clear hT ai hl X0;cases b
  ·go_wp2_with fail
   go_ret;exact TB.no (fun q=>by have:=eN.out.2 ((hP.out.1 q).2.2.1 (by first|rfl|trivial));cases this) B1.out
  have WL:=aa (eN.out.1 rfl);go_wp2_with(go_at_call 85;refine ak.out ?_)
  refine ak.mk ?_;refine aJ.out.mono ?_;rintro e w2 ⟨ns,ls,rfl,bf,aq⟩;have B2:=aa (ac B1.out aq);have hc:=aa (hk.out ns ls w2 B2.out bf);clear aq bf hk aJ;unfold aP at hc ⊢;go_wp2_with(go_at_call 84;refine ak.out ?_)
  refine ak.mk ?_;refine hc.out.mono ?_;rintro e w3 ⟨rfl,ar⟩;have B3:=aa (ac B2.out ar);go_wp2_with fail
  go_ret;exact tailP.out _ B1.out _ _ ⟨rfl,B3.out⟩ (fun _=>WL.out)
 have aJ:=aa (hl.out _ (ab (o:=.cells #[.int .i64 op,.string nm,.slice x1 y1 z1,.slice x2 m z2,.int .i64 (aI Hu fZ).kind,.bool (aI Hu fZ).flag,.bool (aI Hu fZ).neg,.string (aI Hu fZ).dig,.int .i64 (aI Hu fZ).exp,.int .u64 (aI Hu fZ).bits,.string (aI Hu fZ).text,.slice x3 y3 z3,.slice x4 y4 z4] 33) af));clear hl;go_enter func38,ntmps38;go_wp2_with(go_at_call 85;refine ak.out ?_)
 refine ak.mk ?_;refine aJ.out.mono ?_;rintro e w2 ⟨ns,ls,rfl,bf,aq⟩;have B2:=aa (ac (ab af) aq);have hc:=aa (hk.out ns ls w2 B2.out bf);clear aq bf hk aJ;unfold aP at hc ⊢;go_wp2_with(go_at_call 84;refine ak.out ?_)
 refine ak.mk ?_;refine hc.out.mono ?_;rintro e w3 ⟨rfl,ar⟩;have B3:=aa (ac B2.out ar);go_wp2_with fail
 go_ret;exact tailP.out _ B2.out _ _ ⟨rfl,B3.out⟩ (fun e=>absurd e k7)
theorem FL:Gr 39 wv SL:=⟨fun n x q w hr hs=>sH n x q w hr hs,fun n x w W h hb=>h.low hb,fun n h l w hs i hi=>⟨hs.1.2.2 _ (List.getElem_mem hi),hs.2⟩⟩
theorem BH:Gr 38 rr SL:=⟨fun n x q w hr hs=>qG n x q w hr hs,fun n x w W h hb=>h.low hb,fun n h l w hs i hi=>⟨hs.1.2.2 _ (List.getElem_mem hi),hs.2⟩⟩
def mX(dq:{_f:(p:Prop)->Decidable p // True})(n:Nat)(x:ET n):Int:=@ite _ (¬(fd jc n x/\fd rr n x)) (dq.1 _) 140 (@ite _ (fd wv n x/\dN n x<=16/\aM n x<=512) (dq.1 _) 0 2)
theorem KW(n:Nat)(x:ET n):vL rr wv n x (mX dq n x):=by
 unfold mX vL;by_cases a:fd jc n x/\fd rr n x
 ·by_cases b:fd wv n x/\dN n x<=16/\aM n x<=512
  ·simp[a,b]
  simp[a,b]
 simp[a]
theorem qn(n:Nat)(x:ET n)(q:Sl)(w:World)(hr:RE n w x q)(hs:SL n x w)(hz:aM n x<=200000):Calls prog 16 #[.agg (ecl (ehd n x) q)] w fun e w'=>e=.returned (.int .i64 (mX dq n x))/\Below w.heap.size w w' :=
 xd BH FL n x q w hr hs hs hz _ (KW n x)
theorem pH{f:Nat}{l:List UInt8}{x:ET (dp f+1)}(h:qq f l=.inr x):GE _ x/\aM _ x<=2000:=by
 unfold qq at h
 split at h
 ·rename_i h0
  obtain⟨h1,h2,h3⟩:=rS l h0;have eS:=h3 (l.length:Nat)
  revert h
  cases hm:jH (BO f) ((jd l).2.2++[⟨0,[],(l.length:Nat)⟩])with
  |inl p=>intro h;cases h
  |inr y=>
   intro h;have aL:((jd l).2.2++[(⟨0,[],(l.length:Nat)⟩:Tk)]).length<=1025:=by simp;omega
   obtain⟨g1,g2⟩:=DG (kc f) (CG f) _ _ eS (by omega) hm;have e:x=y.1:=by
    obtain⟨y1,y2⟩:=y;cases y2 with
    |nil=>cases h
    |cons t r=>
     simp only[xS]at h
     split at h
     ·cases h;rfl
     cases h
   rw[e];exact⟨g1,by omega⟩
 cases h
theorem Kr{f:Nat}{l:List UInt8}{y:Int×Int}(h:qq f l=.inl y):y.1≠0:=by
 unfold qq at h
 split at h
 ·revert h
  cases xS (jH (BO f) ((jd l).2.2++[⟨0,[],(l.length:Nat)⟩]))with
  |inl p=>intro h;cases h;simp
  |inr e=>intro h;cases h
 rename_i h0;cases h;simp only;omega
def BQ(dq:{_f:(p:Prop)->Decidable p // True})(f:Nat)(l:List UInt8):Sum (Int×Int) (ET (dp f+1)):=Do (mX dq _) (qq f l)
theorem uG(hP:aW)(f:Nat)(hf:1025<=f)(s:ByteArray)(w:World)(g:Gg w)(gp:Gp w)(hz:s.size<=1000000):Calls prog 9 #[.string s] w fun e w'=>IU (dp f+1) w (BQ dq f (bl s)) e w' :=
 nO hP f hf s w g gp hz (mX dq _) (fun y h=>Kr h) fun x q W h hr hb=>qn _ x q W hr ⟨(pH h).1,g.gu.below hb⟩ (by have:=(pH h).2;omega)
variable {dq : {_f : (p : Prop) → Decidable p // True}}
theorem uP(hP:aW)(n:Nat)(ih:tK n):tK (n+1):=by
 intro x q w hr hp hz g;obtain⟨⟨k,nm,nms,vn,val⟩,l⟩:=x;obtain⟨p1,p2,p3,p4,p5,p6,p7,p8,p9⟩:=hp;simp only at p1 p2 p3 p4 p5 p6 p7 p8 p9;show Calls _ _ #[.agg (ecl ⟨k,nm,nms,vn,val⟩ q)] _ _;have hk:k=1\/k=2\/k=3\/k=4\/k=5\/k=6\/k=7\/k=8\/k=9\/k=10\/k=11\/k=12:=by omega
 rcases hk with rfl|rfl|rfl|rfl|rfl|rfl|rfl|rfl|rfl|rfl|rfl|rfl
 ·have e:bp (n+1) (⟨1,nm,nms,vn,val⟩,l)=[wd [105,100]]:=by simp[bp,wO]
  rw[e];exact DR hr g
 ·have e:bp (n+1) (⟨2,nm,nms,vn,val⟩,l)=[mk [46],de (bl nm)]:=by simp[bp]
  rw[e];exact DQ hP hr p5 g
 ·have e:bp (n+1) (⟨3,nm,nms,vn,val⟩,l)=io [61] nms (l.map (bp n)):=by simp[bp]
  rw[e]at hz ⊢;exact DP hP ih hr (p4 (Or.inl rfl)) p6 p9 p8 hz g
 ·have e:bp (n+1) (⟨4,nm,nms,vn,val⟩,l)=fM [91] ((l.map (bp n)).headD []) [93]:=by simp[bp]
  rw[e]at hz ⊢;exact DO ih hr (p3 rfl) p9 hz g
 ·have e:bp (n+1) (⟨5,nm,nms,vn,val⟩,l)=[wd [116,97,103],de (bl nm)]:=by simp[bp]
  rw[e];exact DN hP hr p5 g
 ·have e:bp (n+1) (⟨6,nm,nms,vn,val⟩,l)=wd [99,97,115,101]::io [61] nms (l.map (bp n)):=by simp[bp]
  rw[e]at hz ⊢;exact DM hP ih hr (p4 (Or.inr rfl)) p6 p9 p8 (by simp only[List.length_cons]at hz;omega) g
 ·have e:bp (n+1) (⟨7,nm,nms,vn,val⟩,l)=[wd [99,111,110,115,116],tW (aI vn val)]:=by simp[bp]
  rw[e];exact DL hr p7 g
 ·have e:bp (n+1) (⟨8,nm,nms,vn,val⟩,l)=[wd [116,111,116,101,120,116]]:=by simp[bp,wO]
  rw[e];exact DK hr g
 ·have e:bp (n+1) (⟨9,nm,nms,vn,val⟩,l)=[wd [116,111,110,117,109]]:=by simp[bp,wO]
  rw[e];exact DJ hr g
 ·have e:bp (n+1) (⟨10,nm,nms,vn,val⟩,l)=[wd [115,117,109]]:=by simp[bp,wO]
  rw[e];exact AI hr g
 ·have e:bp (n+1) (⟨11,nm,nms,vn,val⟩,l)=[wd [99,111,117,110,116]]:=by simp[bp,wO]
  rw[e];exact AH hr g
 have e:bp (n+1) (⟨12,nm,nms,vn,val⟩,l)=aU (mk [59]) (l.map (jV n)):=by simp[bp,jV];rfl
 rw[e]at hz ⊢;exact AG ih hr p9 p8 hz g
theorem ra(hP:aW):∀n,tK n
 |0=>fun x=>Empty.elim x
 |n+1=>uP hP n (ra hP n)
theorem wM(n:Bool)(s:ByteArray)(x:Int)(h:eI n s x=true):(fF n (bl s) x).length<=512:=by
 obtain⟨_,h1,Ff,dx,gT,_⟩:=bL h;have hs:(CO n).length<=1:=by cases n<;>simp[CO]
 have Il:=Lib.itoa_length_le (x+s.size-1) (by omega) (by omega);unfold fF;rw[List.length_append,bl_length]
 split
 ·rw[List.length_append,List.length_replicate,bl_length];omega
 split
 ·have:(dB (bl s) (-x).toNat).length<=200:=by
   unfold dB
   split<;>simp[bl_length]<;>omega
  omega
 have:(dd (bl s) (Lib.itoa (x+s.size-1))).length<=200:=by
  unfold dd
  split<;>simp[bl_length]<;>omega
 omega
structure QE(n:Nat)(x:ET (n+1)):Prop where
 bare:dH x.1 x.2
 four:x.1.op=4->x.2.length=1
 pipe:x.1.op=12->2<=x.2.length
 cn:x.1.op=7->jI (aI _ x.1.val).kind
 isv:iL _ (cX x.1 x.2.length).2
 win:yc _ (cX x.1 x.2.length).2
def mo:(n:Nat)->ET n->Prop
 |0,_=>False
 |n+1,x=>QE n x/\∀y∈x.2,mo n y
theorem yM:∀(n:Nat) (x:ET n),fd jc n x->fd rr n x->fd wv n x->mo n x
 |0,x,_,_,_=>Empty.elim x
 |n+1,x,a,b,c=>by refine⟨⟨a.1,b.1.1,b.1.2.1,b.1.2.2.1,b.1.2.2.2,c.1.2⟩,fun y hy=>?_⟩;obtain⟨i,hi,rfl⟩:=List.mem_iff_getElem.1 hy;exact yM n _ (a.2 i hi) (b.2 i hi) (c.2 i hi)
theorem gN{n:Nat}{x:ET n}(h:mX dq n x=0):mo n x/\dN n x<=16/\aM n x<=512:=by
 unfold mX at h
 split at h
 ·cases h
 rename_i a
 split at h
 ·rename_i b
  have a':=Classical.not_not.1 a;exact⟨yM n x a'.1 a'.2 b.1,b.2⟩
 cases h
theorem QE.pre{n:Nat}{x:ET (n+1)}(h:QE n x):1<=x.1.op/\x.1.op<=12/\(x.1.op=4->x.2.length=1)/\(x.1.op=3\/x.1.op=6->x.1.names.length=x.2.length)/\x.1.name.size<=64/\(∀s∈x.1.names,s.size<=64)/\((aI x.1.vn x.1.val).kind=3->eI (aI x.1.vn x.1.val).neg (aI x.1.vn x.1.val).dig (aI x.1.vn x.1.val).exp=true)/\(aI x.1.vn x.1.val).text.size<=4096:=by
 obtain⟨⟨⟨b1,b2⟩,b3,b4,b5,b6⟩,h4,iK,h7,hv,hw⟩:=h;obtain⟨⟨k,nm,nms,vn,val⟩,l⟩:=x;simp only at b1 b2 b3 b4 b5 b6 h4 iK h7 hv hw ⊢;refine⟨b1,b2,h4,fun Xf=>?_,?_,fun s hs=>?_,fun AV=>?_,?_⟩
 ·have e:cX ⟨k,nm,nms,vn,val⟩ l.length=⟨2,(lJ 8 aR nms,List.replicate l.length fQ)⟩:=by rcases Xf with rfl|rfl<;>simp[cX]
  rw[e]at hv;have:=(hv.2.1.2.2.1 rfl).1
  simpa [lJ] using this
 ·by_cases h2:k=2\/k=5
  ·have e:cX ⟨k,nm,nms,vn,val⟩ l.length=⟨2,(lJ 9 nm [],List.replicate 1 fQ)⟩:=by rcases h2 with rfl|rfl<;>simp[cX]
   rw[e]at hw;have:=hw.1.1;simp[lJ]at this;omega
  rcases b3 with rfl|rfl|rfl
  ·exact absurd (Or.inl rfl) h2
  ·exact absurd (Or.inr rfl) h2
  decide
 ·by_cases h3:k=3\/k=6
  ·have e:cX ⟨k,nm,nms,vn,val⟩ l.length=⟨2,(lJ 8 aR nms,List.replicate l.length fQ)⟩:=by rcases h3 with rfl|rfl<;>simp[cX]
   rw[e]at hw;exact hw.1.2.2.1 s hs
  rcases b4 with rfl|rfl|rfl
  ·exact absurd (Or.inl rfl) h3
  ·exact absurd (Or.inr rfl) h3
  simp at hs
 ·rcases b6 with rfl|hz
  ·have e:cX ⟨7,nm,nms,vn,val⟩ l.length=⟨vn,val⟩:=by simp[cX]
   rw[e]at hv;cases vn with
   |zero=>exact Empty.elim val
   |succ vn=>exact hv.2.1.1 AV
  cases vn with
  |zero=>exact Empty.elim val
  |succ vn=>
   have e:val=(zr 0,[]):=hz;subst e;exact absurd AV (by simp[aI,zr])
 rcases b6 with rfl|hz
 ·have e:cX ⟨7,nm,nms,vn,val⟩ l.length=⟨vn,val⟩:=by simp[cX]
  rw[e]at hw;cases vn with
  |zero=>exact Empty.elim val
  |succ vn=>
   have:=hw.1.1;show val.1.text.size<=4096;cases hq:(val.1.kind==9)<;>rw[hq]at this<;>simp at this<;>omega
 cases vn with
 |zero=>exact Empty.elim val
 |succ vn=>
  have e:val=(zr 0,[]):=hz;subst e;show(ByteArray.size ⟨#[]⟩)<=4096;decide
theorem mo.pre:∀ {n:Nat} {x:ET n},mo n x->aM n x<=512->IV n x
 |0,x,_,_=>Empty.elim x
 |n+1,x,h,hz=>by
  obtain⟨p1,p2,p3,p4,p5,p6,p7,p8⟩:=h.1.pre;have hl:x.2.length<=512:=by have:=iP (aM n) (kM n) x.2;simp only[aM]at hz;omega
  refine⟨p1,p2,p3,p4,by omega,fun s hs=>by have:=p6 s hs;omega,p7,by omega,fun y hy=>?_⟩;obtain⟨i,hi,rfl⟩:=List.mem_iff_getElem.1 hy;exact mo.pre (h.2 _ hy) (by have:=iZ hi;omega)
end Lx
