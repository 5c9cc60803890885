import Derived.Test.YtcnfchblfcfimaaGreatDoorZh10
import Derived.BigQuiet
import Derived.Deep.RegionHeld3
set_option linter.all false
set_option maxHeartbeats 2000000
set_option maxRecDepth 100000
namespace Go.Proofs.YtcnfchblfcfimaaGreatDoor
open Proofs.Tryz RowKit
def QC(b:Bool)(p:Prop):Prop:=Hid (b=true↔p)
def TB(p:Prop)(w:World)(e:Ending)(w':World):Prop:=∃b,e=.returned (.bool b)/\QC b p/\Below w.heap.size w w'
theorem TB.yes{p:Prop}{w w':World}(h:p)(hb:Below w.heap.size w w'):TB p w (.returned (.bool true)) w':=⟨true,rfl,(show Hid _ from⟨(fun _=>h),(fun _=>rfl)⟩),hb⟩
theorem TB.no{p:Prop}{w w':World}(h:¬p)(hb:Below w.heap.size w w'):TB p w (.returned (.bool false)) w':=⟨false,rfl,(show Hid _ from⟨(fun h=>by cases h),(fun k=>absurd k h)⟩),hb⟩
theorem oU{α:Type}{l m:List α}{k:Nat}(hl:k<l.length)(hm:k<m.length)(h:l.take k=m.take k)(he:l[k]=m[k]):l.take (k+1)=m.take (k+1):=by rw[List.take_succ_eq_append_getElem hl,List.take_succ_eq_append_getElem hm,h,he]
theorem eF{B:Nat}{w W:World}(h:Below B w W)(n:Nat):Below B w (W.drewN n):=⟨h.os,h.tape,h.output,h.size,h.block⟩
theorem ww(u v:Value)(l m:List ByteArray)(w:World)(hu:NL w u l)(hv:NL w v m):Calls prog 133 #[u,v] w fun e w'=>TB (l=m) w e w':=by
 obtain⟨au,cu,rfl,Ly,xm⟩:=hu.len;obtain⟨av,cv,rfl,Hv,Lu⟩:=hv.len;have hu:=aa hu;have hv:=aa hv;have ml:maxLen=9223372036854775807:=rfl;by_cases hl:(l.length:Int)=(m.length:Int)
 ·have nS:=aa (show m.length=l.length by omega)
  rw[nS.out]at Hv ⊢;clear hl;go_enter func133,ntmps133;go_wp2_with fail
  go_loopw [13] (fun i w'=>∃k:Nat,i=.int .i64 k/\k<=l.length/\Hid (l.take k=m.take k/\Below w.heap.size w w')) (fun i _=>l.length-(intOf i).toNat)
  case atStart=>exact⟨0,rfl,Nat.zero_le _,rfl,af⟩
  case round=>
   obtain⟨k,rfl,hk,H⟩:=hrel;by_cases aE:k<l.length
   ·have bF:(k:Int)<(l.length:Int):=by omega
    have cR:(k:Int)<9223372036854775807:=by omega
    obtain⟨b,o,c,he,cQ,gq,iE,hcell⟩:=hu.out.at k aE;have cy:=Value.slice.inj he;obtain⟨rfl,_,rfl⟩:=cy;clear he;have hcell:=(H.out.2.cell (p:=⟨b,o+k,none⟩) cQ).trans hcell;obtain⟨b',o',c',he,md,EG,EU,hcell'⟩:=hv.out.at k (by rw[nS.out];exact aE);have cy:=Value.slice.inj he;obtain⟨rfl,_,rfl⟩:=cy;clear he;have hcell':=(H.out.2.cell (p:=⟨b',o'+k,none⟩) md).trans hcell';obtain⟨s,hs⟩:∃s,l[k]=s:=⟨_,rfl⟩
    obtain⟨t,ht⟩:∃t,m[k]'(by rw[nS.out];exact aE)=t:=⟨_,rfl⟩
    rw[hs]at hcell;rw[ht]at hcell';have eK:=aa hs;have Lz:=aa ht;clear hs ht;by_cases cb:s=t
    ·subst cb
     go_wp2_with fail
     go_quiet (fail)
     go_wp2_with fail
     refine⟨⟨k+1,by go_num,by omega,oU aE (by rw[nS.out];exact aE) H.out.1 (by rw[eK.out,Lz.out]),?_⟩,by simp[intOf];omega⟩;exact eF H.out.2 _
    have LD:decide (s=t)=false:=decide_eq_false cb;have LC:(s.toList==t.toList)=false:=by rw[beq_eq_false_iff_ne];intro h;exact cb (ByteArray.ext (Array.toList_inj.1 (by rw[ByteArray.toList_eq,ByteArray.toList_eq]at h;exact h)))
    have aQ:l≠m:=by intro h;subst h;rw[eK.out]at Lz;exact cb Lz.out
    have pR:=aa aQ;clear aQ;go_wp2_with fail
    go_quiet (fail)
    go_wp2_with fail
    go_ret;exact TB.no pR.out (eF H.out.2 _)
   have bF:¬((k:Int)<(l.length:Int)):=by omega
   have hE:=H.out.1;rw[List.take_of_length_le (by omega),List.take_of_length_le (by rw[nS.out];omega)]at hE;have iJ:=aa hE;clear hE;go_wp2_with fail
   go_ret;exact TB.yes iJ.out H.out.2
 go_enter func133,ntmps133;go_wp2_with fail
 go_ret;exact TB.no (fun h=>by rw[h]at hl;exact absurd rfl hl) af
theorem gv{s t:ByteArray}(h:¬s=t):(s.toList==t.toList)=false:=by rw[beq_eq_false_iff_ne];intro e;exact h (ByteArray.ext (Array.toList_inj.1 (by rw[ByteArray.toList_eq,ByteArray.toList_eq]at e;exact e)))
theorem Ae{w w1:World}{c1 c2:Array Value}{T1 T2:TypeId}(hb:Below ((w.alloc (.cells c1 T1)).alloc (.cells c2 T2)).heap.size ((w.alloc (.cells c1 T1)).alloc (.cells c2 T2)) w1)(j:Nat):w1.cell? ⟨w.heap.size,j,none⟩=c1[j]?/\w1.cell? ⟨w.heap.size+1,j,none⟩=c2[j]?:=by
 have h1:((w.alloc (.cells c1 T1)).alloc (.cells c2 T2)).heap=(w.heap.push (.cells c1 T1)).push (.cells c2 T2):=rfl;have s1:((w.alloc (.cells c1 T1)).alloc (.cells c2 T2)).heap.size=w.heap.size+2:=by rw[h1];simp
 have b1:=hb.block w.heap.size (by rw[s1];omega);have b2:=hb.block (w.heap.size+1) (by rw[s1];omega);rw[h1]at b1 b2;have g1:((w.heap.push (Obj.cells c1 T1)).push (Obj.cells c2 T2))[w.heap.size]?=some (.cells c1 T1):=by simp[Array.getElem?_push]
 have g2:((w.heap.push (Obj.cells c1 T1)).push (Obj.cells c2 T2))[w.heap.size+1]?=some (.cells c2 T2):=by rw[show w.heap.size+1=(w.heap.push (Obj.cells c1 T1)).size by simp,Array.getElem?_push_size]
 rw[g1]at b1;rw[g2]at b2;unfold World.cell?;simp only[b1,b2];exact⟨rfl,rfl⟩
def QG(n:Nat):Prop:=∀(x y:VT n) (ns ls ns' ls':Value) (w:World),RD n w x ns ls->RD n w y ns' ls' ->
  Calls prog 82 #[.agg (aP (aI n x) ns ls),.agg (aP (aI n y) ns' ls')] w fun e w'=>TB (x=y) w e w'
theorem xR(n:Nat)(ih:QG n)(x y:VT (n+1))(ns ls ns' ls':Value)(w:World)(hu:RD (n+1) w x ns ls)(hv:RD (n+1) w y ns' ls'):Calls prog 134 #[ls,ls',.func (.func 82) #[] #[]] w fun e w'=>TB (x.2=y.2) w e w':=by
 obtain⟨h,l⟩:=x;obtain⟨g,m⟩:=y;obtain⟨al,cl,rfl,aJ,bq⟩:=hu.len;obtain⟨bl',dl,rfl,pd,PC⟩:=hv.len;have hu:=aa hu;have hv:=aa hv;simp only at aJ bq pd PC ⊢;have ml:maxLen=9223372036854775807:=rfl;by_cases hl:(l.length:Int)=(m.length:Int)
 ·have nS:=aa (show m.length=l.length by omega)
  rw[nS.out]at pd ⊢;clear hl;go_enter func134,ntmps134;go_wp2_with fail
  go_loopw [17] (fun i w'=>∃k:Nat,i=.int .i64 k/\k<=l.length/\Hid (l.take k=m.take k/\Below w.heap.size w w')) (fun i _=>l.length-(intOf i).toNat)
  case atStart=>exact⟨0,rfl,Nat.zero_le _,rfl,af⟩
  case round=>
   obtain⟨k,rfl,hk,H⟩:=hrel;by_cases aE:k<l.length
   ·have bF:(k:Int)<(l.length:Int):=by omega
    have cR:(k:Int)<9223372036854775807:=by omega
    obtain⟨b,o,c,he,cQ,gq,iE,ns1,ls1,bT,bf⟩:=hu.out.at k aE;have cy:=Value.slice.inj he;obtain⟨rfl,_,rfl⟩:=cy;clear he;obtain⟨q0,q1,q2,q3,q4,q5,q6,q7,q8⟩:=fm (am bT H.out.2 cQ);have Gi:k<m.length:=by rw[nS.out];exact aE
    obtain⟨b',o',c',he,md,EG,EU,ns2,ls2,Es,cA⟩:=hv.out.at k Gi;have cy:=Value.slice.inj he;obtain⟨rfl,_,rfl⟩:=cy;clear he;have Em:Hid (∀o,Below w.heap.size w (wr.alloc o)):=fun o=>ab H.out.2;have AQ:Hid (∀o o',Below w.heap.size w ((wr.alloc o).alloc o')):=fun o o'=>ab (ab H.out.2);have R9:=fun ob=>fm (am Es (Em.out ob) md);have r0:=fun ob=>(R9 ob).1;have r1:=fun ob=>(R9 ob).2.1;have r2:=fun ob=>(R9 ob).2.2.1;have r3:=fun ob=>(R9 ob).2.2.2.1;have r4:=fun ob=>(R9 ob).2.2.2.2.1;have r5:=fun ob=>(R9 ob).2.2.2.2.2.1;have r6:=fun ob=>(R9 ob).2.2.2.2.2.2.1;have r7:=fun ob=>(R9 ob).2.2.2.2.2.2.2.1;have r8:=fun ob=>(R9 ob).2.2.2.2.2.2.2.2;clear R9;have jN:=aa bf;have mc:=aa cA;obtain⟨a1,m1,d1,a2,m2,d2,rfl,rfl⟩:=bf.shape;obtain⟨a3,m3,d3,a4,m4,d4,rfl,rfl⟩:=cA.shape;clear bT bf Es cA;have hcall:=aa (fun o o'=>ih l[k] m[k] _ _ _ _ _ (jN.out.below (AQ.out o o')) (mc.out.below (AQ.out o o')));go_wp2_with fail
    refine(hcall.out _ _).mono ?_;rintro e w2 ⟨b2,rfl,hT,ai⟩;have aq:=aa (ac (AQ.out _ _) ai);cases b2
    ·have aQ:¬l=m:=by
      intro e;have:=hT.2 (by subst e;rfl);cases this
     have pR:=aa aQ;clear aQ;go_wp2_with fail
     go_ret;exact TB.no pR.out aq.out
    have TH:=aa (hT.1 rfl);go_wp2_with fail
    exact⟨⟨k+1,by go_num,by omega,oU aE Gi H.out.1 TH.out,aq.out⟩,by simp[intOf];omega⟩
   have bF:¬((k:Int)<(l.length:Int)):=by omega
   have hE:=H.out.1;rw[List.take_of_length_le (by omega),List.take_of_length_le (by rw[nS.out];omega)]at hE;have iJ:=aa hE;clear hE;go_wp2_with fail
   go_ret;exact TB.yes iJ.out H.out.2
 go_enter func134,ntmps134;go_wp2_with fail
 go_ret;exact TB.no (fun h=>by rw[h]at hl;exact absurd rfl hl) af
theorem cz:∀n,QG n:=by
 intro n
 induction n with
 |zero=>intro x;exact Empty.elim x
 |succ n ih=>
  intro x y ns ls ns' ls' w hx hy;obtain⟨h,l⟩:=x;obtain⟨g,m⟩:=y;obtain⟨al,cl,rfl,aJ,bq⟩:=hx.len;obtain⟨an,cn,rfl,cm,df⟩:=hx.1.len;obtain⟨bl',dl,rfl,pd,PC⟩:=hy.len;obtain⟨bn,dn,rfl,qr,nR⟩:=hy.1.len;have hx:=aa hx;have hy:=aa hy;show Calls _ _ #[.agg #[.int .i64 h.kind,.bool h.flag,.bool h.neg,.string h.dig,.int .i64 h.exp,.int .u64 h.bits,.string h.text,.slice an h.names.length cn,.slice al l.length cl],.agg #[.int .i64 g.kind,.bool g.flag,.bool g.neg,.string g.dig,.int .i64 g.exp,.int .u64 g.bits,.string g.text,.slice bn g.names.length dn,.slice bl' m.length dl]] _ _;by_cases e0:h.kind=g.kind
  ·by_cases e1:h.flag=g.flag
   ·by_cases e2:h.neg=g.neg
    ·by_cases e3:h.dig=g.dig
     ·by_cases e4:h.exp=g.exp
      ·by_cases e5:h.bits=g.bits
       ·by_cases e6:h.text=g.text
        ·have Gf:=aa (fun o o'=>ww (.slice an h.names.length cn) (.slice bn g.names.length dn) h.names g.names ((w.alloc o).alloc o') (hx.out.1.below (ab (ab af))) (hy.out.1.below (ab (ab af))))
         have uZ:((h,l):VT (n+1))=(g,m)↔h.names=g.names/\l=m:=by
          constructor
          ·intro e;cases e;exact⟨rfl,rfl⟩
          rintro⟨e7,rfl⟩;have:h=g:=by cases h;cases g;simp only at e0 e1 e2 e3 e4 e5 e6 e7;subst e0 e1 e2 e3 e4 e5 e6 e7;rfl
          rw[this]
         have Lo:=aa uZ;have AU:=aa (fun W (hb:Below w.heap.size w W)=>xR n ih (h,l) (g,m) _ _ _ _ W (hx.out.below hb) (hy.out.below hb));clear uZ;have B1:=aa (eg w h (.slice an h.names.length cn) (.slice al l.length cl));have B2:=aa (fun o=>eg (w.alloc o) g (.slice bn g.names.length dn) (.slice bl' m.length dl));go_enter func82,ntmps82;go_wp2_with fail
         refine(Gf.out _ _).mono ?_;rintro e w1 ⟨b,rfl,hT,ai⟩;obtain⟨k1,k2⟩:=Ae ai 8
         replace k1:w1.cell? ⟨w.heap.size,8,none⟩=some (.slice al l.length cl):=k1
         replace k2:w1.cell? ⟨w.heap.size+1,8,none⟩=some (.slice bl' m.length dl):=k2
         have aq:=aa (ac (ab (ab af)) ai);cases b
         ·go_wp2_with fail
          go_ret;exact TB.no (fun e=>by have:=hT.2 (Lo.out.1 e).1;cases this) aq.out
         have hcall:=aa (AU.out w1 aq.out);go_wp2_with(go_at_call 134;refine hcall.out.mono ?_;rintro e w2 ⟨b,rfl,oy,ar⟩)
         go_ret;cases b
         ·exact TB.no (fun e=>by have:=oy.2 (Lo.out.1 e).2;cases this) (ac aq.out ar)
         exact TB.yes (Lo.out.2 ⟨hT.1 rfl,oy.1 rfl⟩) (ac aq.out ar)
        have q1:decide (h.text=g.text)=false:=decide_eq_false e6;have q2:=gv e6;go_enter func82,ntmps82;go_wp2_with fail
        go_ret;exact TB.no (fun e=>e6 (by cases e;rfl)) (ab (ab af))
       go_enter func82,ntmps82;go_wp2_with fail
       go_ret;exact TB.no (fun e=>e5 (by cases e;rfl)) (ab (ab af))
      go_enter func82,ntmps82;go_wp2_with fail
      go_ret;exact TB.no (fun e=>e4 (by cases e;rfl)) (ab (ab af))
     have q1:decide (h.dig=g.dig)=false:=decide_eq_false e3;have q2:=gv e3;go_enter func82,ntmps82;go_wp2_with fail
     go_ret;exact TB.no (fun e=>e3 (by cases e;rfl)) (ab (ab af))
    go_enter func82,ntmps82;go_wp2_with fail
    go_ret;exact TB.no (fun e=>e2 (by cases e;rfl)) (ab (ab af))
   go_enter func82,ntmps82;go_wp2_with fail
   go_ret;exact TB.no (fun e=>e1 (by cases e;rfl)) (ab (ab af))
  go_enter func82,ntmps82;go_wp2_with fail
  go_ret;exact TB.no (fun e=>e0 (by cases e;rfl)) (ab (ab af))
def zr(k:Int):Hd:=⟨k,false,false,⟨#[]⟩,0,0,⟨#[]⟩,[]⟩
def bV(h:Hd):Hd:=⟨h.kind,bif h.kind==2 then false else h.flag,bif h.kind==3 then false else h.neg,bif h.kind==3 then ⟨#[]⟩ else h.dig,bif h.kind==3 then 0 else h.exp,bif h.kind==4 then 0 else h.bits,bif h.kind==5||h.kind==6||h.kind==9 then ⟨#[]⟩ else h.text,bif h.kind==8 then [] else h.names⟩
def dk{α:Type}(h:Hd)(l:List α):Prop:=1<=h.kind/\h.kind<=9/\bV h=zr h.kind/\(7<=h.kind\/l=[])
theorem dt(n:Nat)(w:World)(k:Int):RD (n+1) w ((zr k,[]):VT (n+1)) (.slice none 0 0) (.slice none 0 0):=⟨Or.inl ⟨rfl,rfl⟩,Or.inl ⟨rfl,rfl⟩⟩
theorem MX(n:Nat)(h:Hd)(l:List (VT n))(ns ls:Value)(w:World)(hr:RD (n+1) w (h,l) ns ls)(hk:h.kind=1):Calls prog 164 #[.agg (aP h ns ls)] w fun e w'=>TB (dk h l) w e w':=by
 obtain⟨a1,m1,d1,a2,m2,d2,rfl,rfl⟩:=hr.shape;have hr:=aa hr;have hx:dk h l↔(({h with kind:=1},l):VT (n+1))=(zr 1,[]):=by obtain⟨k,f,ng,dg,ex,bt,tx,nm⟩:=h;simp only at hk;subst hk;simp[dk,bV,zr]
 have jC:=aa hx;have hE:=aa (fun o=>cz (n+1) ({h with kind:=1},l) (zr 1,[]) (.slice a1 m1 d1) (.slice a2 m2 d2) _ _ (w.alloc o) ⟨(hr.out.below (ab (o:=o) af)).1,(hr.out.below (ab (o:=o) af)).2⟩ (dt n _ 1));show Calls _ _ #[.agg #[.int .i64 h.kind,.bool h.flag,.bool h.neg,.string h.dig,.int .i64 h.exp,.int .u64 h.bits,.string h.text,.slice a1 m1 d1,.slice a2 m2 d2]] _ _;rw[hk];clear hx hk;go_enter func164,ntmps164;go_wp2_with(go_at_call 82;refine(hE.out _).mono ?_;rintro e w1 ⟨b,rfl,hT,ai⟩)
 go_ret;exact⟨b,rfl,(show Hid _ from⟨(fun q=>jC.out.2 (hT.1 q)),(fun q=>hT.2 (jC.out.1 q))⟩),ac (ab af) ai⟩
theorem MW(n:Nat)(h:Hd)(l:List (VT n))(ns ls:Value)(w:World)(hr:RD (n+1) w (h,l) ns ls)(hk:h.kind=2):Calls prog 164 #[.agg (aP h ns ls)] w fun e w'=>TB (dk h l) w e w':=by
 obtain⟨a1,m1,d1,a2,m2,d2,rfl,rfl⟩:=hr.shape;have hr:=aa hr;have hx:dk h l↔(({h with kind:=2,flag:=false},l):VT (n+1))=(zr 2,[]):=by obtain⟨k,f,ng,dg,ex,bt,tx,nm⟩:=h;simp only at hk;subst hk;simp[dk,bV,zr]
 have jC:=aa hx;have hE:=aa (fun o=>cz (n+1) ({h with kind:=2,flag:=false},l) (zr 2,[]) (.slice a1 m1 d1) (.slice a2 m2 d2) _ _ (w.alloc o) ⟨(hr.out.below (ab (o:=o) af)).1,(hr.out.below (ab (o:=o) af)).2⟩ (dt n _ 2));show Calls _ _ #[.agg #[.int .i64 h.kind,.bool h.flag,.bool h.neg,.string h.dig,.int .i64 h.exp,.int .u64 h.bits,.string h.text,.slice a1 m1 d1,.slice a2 m2 d2]] _ _;rw[hk];clear hx hk;go_enter func164,ntmps164;go_wp2_with(go_at_call 82;refine(hE.out _).mono ?_;rintro e w1 ⟨b,rfl,hT,ai⟩)
 go_ret;exact⟨b,rfl,(show Hid _ from⟨(fun q=>jC.out.2 (hT.1 q)),(fun q=>hT.2 (jC.out.1 q))⟩),ac (ab af) ai⟩
theorem MV(n:Nat)(h:Hd)(l:List (VT n))(ns ls:Value)(w:World)(hr:RD (n+1) w (h,l) ns ls)(hk:h.kind=3):Calls prog 164 #[.agg (aP h ns ls)] w fun e w'=>TB (dk h l) w e w':=by
 obtain⟨a1,m1,d1,a2,m2,d2,rfl,rfl⟩:=hr.shape;have hr:=aa hr;have hx:dk h l↔(({h with kind:=3,neg:=false,dig:=⟨#[]⟩,exp:=0},l):VT (n+1))=(zr 3,[]):=by obtain⟨k,f,ng,dg,ex,bt,tx,nm⟩:=h;simp only at hk;subst hk;simp[dk,bV,zr]
 have jC:=aa hx;have hE:=aa (fun o=>cz (n+1) ({h with kind:=3,neg:=false,dig:=⟨#[]⟩,exp:=0},l) (zr 3,[]) (.slice a1 m1 d1) (.slice a2 m2 d2) _ _ (w.alloc o) ⟨(hr.out.below (ab (o:=o) af)).1,(hr.out.below (ab (o:=o) af)).2⟩ (dt n _ 3));show Calls _ _ #[.agg #[.int .i64 h.kind,.bool h.flag,.bool h.neg,.string h.dig,.int .i64 h.exp,.int .u64 h.bits,.string h.text,.slice a1 m1 d1,.slice a2 m2 d2]] _ _;rw[hk];clear hx hk;go_enter func164,ntmps164;go_wp2_with(go_at_call 82;refine(hE.out _).mono ?_;rintro e w1 ⟨b,rfl,hT,ai⟩)
 go_ret;exact⟨b,rfl,(show Hid _ from⟨(fun q=>jC.out.2 (hT.1 q)),(fun q=>hT.2 (jC.out.1 q))⟩),ac (ab af) ai⟩
theorem MU(n:Nat)(h:Hd)(l:List (VT n))(ns ls:Value)(w:World)(hr:RD (n+1) w (h,l) ns ls)(hk:h.kind=4):Calls prog 164 #[.agg (aP h ns ls)] w fun e w'=>TB (dk h l) w e w':=by
 obtain⟨a1,m1,d1,a2,m2,d2,rfl,rfl⟩:=hr.shape;have hr:=aa hr;have hx:dk h l↔(({h with kind:=4,bits:=0},l):VT (n+1))=(zr 4,[]):=by obtain⟨k,f,ng,dg,ex,bt,tx,nm⟩:=h;simp only at hk;subst hk;simp[dk,bV,zr]
 have jC:=aa hx;have hE:=aa (fun o=>cz (n+1) ({h with kind:=4,bits:=0},l) (zr 4,[]) (.slice a1 m1 d1) (.slice a2 m2 d2) _ _ (w.alloc o) ⟨(hr.out.below (ab (o:=o) af)).1,(hr.out.below (ab (o:=o) af)).2⟩ (dt n _ 4));show Calls _ _ #[.agg #[.int .i64 h.kind,.bool h.flag,.bool h.neg,.string h.dig,.int .i64 h.exp,.int .u64 h.bits,.string h.text,.slice a1 m1 d1,.slice a2 m2 d2]] _ _;rw[hk];clear hx hk;go_enter func164,ntmps164;go_wp2_with(go_at_call 82;refine(hE.out _).mono ?_;rintro e w1 ⟨b,rfl,hT,ai⟩)
 go_ret;exact⟨b,rfl,(show Hid _ from⟨(fun q=>jC.out.2 (hT.1 q)),(fun q=>hT.2 (jC.out.1 q))⟩),ac (ab af) ai⟩
theorem MT(n:Nat)(h:Hd)(l:List (VT n))(ns ls:Value)(w:World)(hr:RD (n+1) w (h,l) ns ls)(hk:h.kind=5):Calls prog 164 #[.agg (aP h ns ls)] w fun e w'=>TB (dk h l) w e w':=by
 obtain⟨a1,m1,d1,a2,m2,d2,rfl,rfl⟩:=hr.shape;have hr:=aa hr;have hx:dk h l↔(({h with kind:=5,text:=⟨#[]⟩},l):VT (n+1))=(zr 5,[]):=by obtain⟨k,f,ng,dg,ex,bt,tx,nm⟩:=h;simp only at hk;subst hk;simp[dk,bV,zr]
 have jC:=aa hx;have hE:=aa (fun o=>cz (n+1) ({h with kind:=5,text:=⟨#[]⟩},l) (zr 5,[]) (.slice a1 m1 d1) (.slice a2 m2 d2) _ _ (w.alloc o) ⟨(hr.out.below (ab (o:=o) af)).1,(hr.out.below (ab (o:=o) af)).2⟩ (dt n _ 5));show Calls _ _ #[.agg #[.int .i64 h.kind,.bool h.flag,.bool h.neg,.string h.dig,.int .i64 h.exp,.int .u64 h.bits,.string h.text,.slice a1 m1 d1,.slice a2 m2 d2]] _ _;rw[hk];clear hx hk;go_enter func164,ntmps164;go_wp2_with(go_at_call 82;refine(hE.out _).mono ?_;rintro e w1 ⟨b,rfl,hT,ai⟩)
 go_ret;exact⟨b,rfl,(show Hid _ from⟨(fun q=>jC.out.2 (hT.1 q)),(fun q=>hT.2 (jC.out.1 q))⟩),ac (ab af) ai⟩
theorem MS(n:Nat)(h:Hd)(l:List (VT n))(ns ls:Value)(w:World)(hr:RD (n+1) w (h,l) ns ls)(hk:h.kind=6):Calls prog 164 #[.agg (aP h ns ls)] w fun e w'=>TB (dk h l) w e w':=by
 obtain⟨a1,m1,d1,a2,m2,d2,rfl,rfl⟩:=hr.shape;have hr:=aa hr;have hx:dk h l↔(({h with kind:=6,text:=⟨#[]⟩},l):VT (n+1))=(zr 6,[]):=by obtain⟨k,f,ng,dg,ex,bt,tx,nm⟩:=h;simp only at hk;subst hk;simp[dk,bV,zr]
 have jC:=aa hx;have hE:=aa (fun o=>cz (n+1) ({h with kind:=6,text:=⟨#[]⟩},l) (zr 6,[]) (.slice a1 m1 d1) (.slice a2 m2 d2) _ _ (w.alloc o) ⟨(hr.out.below (ab (o:=o) af)).1,(hr.out.below (ab (o:=o) af)).2⟩ (dt n _ 6));show Calls _ _ #[.agg #[.int .i64 h.kind,.bool h.flag,.bool h.neg,.string h.dig,.int .i64 h.exp,.int .u64 h.bits,.string h.text,.slice a1 m1 d1,.slice a2 m2 d2]] _ _;rw[hk];clear hx hk;go_enter func164,ntmps164;go_wp2_with(go_at_call 82;refine(hE.out _).mono ?_;rintro e w1 ⟨b,rfl,hT,ai⟩)
 go_ret;exact⟨b,rfl,(show Hid _ from⟨(fun q=>jC.out.2 (hT.1 q)),(fun q=>hT.2 (jC.out.1 q))⟩),ac (ab af) ai⟩
theorem MR(n:Nat)(h:Hd)(l:List (VT n))(ns ls:Value)(w:World)(hr:RD (n+1) w (h,l) ns ls)(hk:h.kind=7):Calls prog 164 #[.agg (aP h ns ls)] w fun e w'=>TB (dk h l) w e w':=by
 obtain⟨a1,m1,d1,a2,m2,d2,rfl,rfl⟩:=hr.shape;have hr:=aa hr;have hx:dk h l↔(({h with kind:=7},[]):VT (n+1))=(zr 7,[]):=by obtain⟨k,f,ng,dg,ex,bt,tx,nm⟩:=h;simp only at hk;subst hk;simp[dk,bV,zr]
 have jC:=aa hx;have hE:=aa (fun o=>cz (n+1) ({h with kind:=7},[]) (zr 7,[]) (.slice a1 m1 d1) (.slice none 0 0) _ _ (w.alloc o) ⟨(hr.out.below (ab (o:=o) af)).1,Or.inl ⟨rfl,rfl⟩⟩ (dt n _ 7));show Calls _ _ #[.agg #[.int .i64 h.kind,.bool h.flag,.bool h.neg,.string h.dig,.int .i64 h.exp,.int .u64 h.bits,.string h.text,.slice a1 m1 d1,.slice a2 m2 d2]] _ _;rw[hk];clear hx hk;go_enter func164,ntmps164;go_wp2_with(go_at_call 82;refine(hE.out _).mono ?_;rintro e w1 ⟨b,rfl,hT,ai⟩)
 go_ret;exact⟨b,rfl,(show Hid _ from⟨(fun q=>jC.out.2 (hT.1 q)),(fun q=>hT.2 (jC.out.1 q))⟩),ac (ab af) ai⟩
theorem MQ(n:Nat)(h:Hd)(l:List (VT n))(ns ls:Value)(w:World)(hr:RD (n+1) w (h,l) ns ls)(hk:h.kind=8):Calls prog 164 #[.agg (aP h ns ls)] w fun e w'=>TB (dk h l) w e w':=by
 obtain⟨a1,m1,d1,a2,m2,d2,rfl,rfl⟩:=hr.shape;have hr:=aa hr;have hx:dk h l↔(({h with kind:=8,names:=[]},[]):VT (n+1))=(zr 8,[]):=by obtain⟨k,f,ng,dg,ex,bt,tx,nm⟩:=h;simp only at hk;subst hk;simp[dk,bV,zr]
 have jC:=aa hx;have hE:=aa (fun o=>cz (n+1) ({h with kind:=8,names:=[]},[]) (zr 8,[]) (.slice none 0 0) (.slice none 0 0) _ _ (w.alloc o) ⟨Or.inl ⟨rfl,rfl⟩,Or.inl ⟨rfl,rfl⟩⟩ (dt n _ 8));show Calls _ _ #[.agg #[.int .i64 h.kind,.bool h.flag,.bool h.neg,.string h.dig,.int .i64 h.exp,.int .u64 h.bits,.string h.text,.slice a1 m1 d1,.slice a2 m2 d2]] _ _;rw[hk];clear hx hk;go_enter func164,ntmps164;go_wp2_with(go_at_call 82;refine(hE.out _).mono ?_;rintro e w1 ⟨b,rfl,hT,ai⟩)
 go_ret;exact⟨b,rfl,(show Hid _ from⟨(fun q=>jC.out.2 (hT.1 q)),(fun q=>hT.2 (jC.out.1 q))⟩),ac (ab af) ai⟩
theorem MO(n:Nat)(h:Hd)(l:List (VT n))(ns ls:Value)(w:World)(hr:RD (n+1) w (h,l) ns ls)(hk:h.kind=9):Calls prog 164 #[.agg (aP h ns ls)] w fun e w'=>TB (dk h l) w e w':=by
 obtain⟨a1,m1,d1,a2,m2,d2,rfl,rfl⟩:=hr.shape;have hr:=aa hr;have hx:dk h l↔(({h with kind:=9,text:=⟨#[]⟩},[]):VT (n+1))=(zr 9,[]):=by obtain⟨k,f,ng,dg,ex,bt,tx,nm⟩:=h;simp only at hk;subst hk;simp[dk,bV,zr]
 have jC:=aa hx;have hE:=aa (fun o=>cz (n+1) ({h with kind:=9,text:=⟨#[]⟩},[]) (zr 9,[]) (.slice a1 m1 d1) (.slice none 0 0) _ _ (w.alloc o) ⟨(hr.out.below (ab (o:=o) af)).1,Or.inl ⟨rfl,rfl⟩⟩ (dt n _ 9));show Calls _ _ #[.agg #[.int .i64 h.kind,.bool h.flag,.bool h.neg,.string h.dig,.int .i64 h.exp,.int .u64 h.bits,.string h.text,.slice a1 m1 d1,.slice a2 m2 d2]] _ _;rw[hk];clear hx hk;go_enter func164,ntmps164;go_wp2_with(go_at_call 82;refine(hE.out _).mono ?_;rintro e w1 ⟨b,rfl,hT,ai⟩)
 go_ret;exact⟨b,rfl,(show Hid _ from⟨(fun q=>jC.out.2 (hT.1 q)),(fun q=>hT.2 (jC.out.1 q))⟩),ac (ab af) ai⟩
theorem xg(n:Nat)(h:Hd)(l:List (VT n))(ns ls:Value)(w:World)(hr:RD (n+1) w (h,l) ns ls):Calls prog 164 #[.agg (aP h ns ls)] w fun e w'=>TB (dk h l) w e w':=by
 by_cases k1:h.kind=1
 ·exact MX n h l ns ls w hr k1
 by_cases k2:h.kind=2
 ·exact MW n h l ns ls w hr k2
 by_cases k3:h.kind=3
 ·exact MV n h l ns ls w hr k3
 by_cases k4:h.kind=4
 ·exact MU n h l ns ls w hr k4
 by_cases k5:h.kind=5
 ·exact MT n h l ns ls w hr k5
 by_cases k6:h.kind=6
 ·exact MS n h l ns ls w hr k6
 by_cases k7:h.kind=7
 ·exact MR n h l ns ls w hr k7
 by_cases k8:h.kind=8
 ·exact MQ n h l ns ls w hr k8
 by_cases k9:h.kind=9
 ·exact MO n h l ns ls w hr k9
 have hx:¬dk h l:=by rintro⟨q1,q2,_⟩;omega
 have jC:=aa hx;obtain⟨a1,m1,d1,a2,m2,d2,rfl,rfl⟩:=hr.shape;clear hx hr;show Calls _ _ #[.agg #[.int .i64 h.kind,.bool h.flag,.bool h.neg,.string h.dig,.int .i64 h.exp,.int .u64 h.bits,.string h.text,.slice a1 m1 d1,.slice a2 m2 d2]] _ _;go_enter func164,ntmps164;go_wp2_with fail
 go_ret;exact TB.no jC.out (ab af)
structure rC(w:World)(h g:Hd)(na la nb lb:Value)(W:World):Prop where
 below:Below w.heap.size w W
 ba:Bx W w.heap.size h na la
 bb:Bx W (w.heap.size+1) g nb lb
theorem rC.then{w:World}{h g:Hd}{na la nb lb:Value}{W W1:World}(k:rC w h g na la nb lb W)(hb:Below W.heap.size W W1):rC w h g na la nb lb W1:=⟨ac k.below hb,k.ba.below hb,k.bb.below hb⟩
theorem Gz(w:World)(h g:Hd)(na la nb lb:Value):rC w h g na la nb lb ((w.alloc (.cells (aP h na la) 31)).alloc (.cells (aP g nb lb) 31)):=by refine⟨ab (ab af),(eg w h na la).below (ab af),?_⟩;have:=eg (w.alloc (.cells (aP h na la) 31)) g nb lb;rw[show(w.alloc (.cells (aP h na la) 31)).heap.size=w.heap.size+1 by simp]at this;exact this
theorem Kc(p:Prop):∃b:Bool,b=true↔p:=by
 by_cases h:p
 ·exact⟨true,by simp[h]⟩
 exact⟨false,by simp[h]⟩
theorem Calls.tbB{f:FuncId}{args:Array Value}{w:World}{p:Prop}{b:Bool}(h:Calls prog f args w fun e w'=>TB p w e w')(hb:b=true↔p):Calls prog f args w fun e w'=>e=.returned (.bool b)/\Below w.heap.size w w':=by
 refine h.mono ?_;rintro e w' ⟨c,rfl,hc,hw⟩;have:c=b:=by rw[Bool.eq_iff_iff];exact Iff.trans hc hb.symm
 rw[this];exact⟨rfl,hw⟩
def QD(n:Nat):Prop:=∀(x y:VT n) (ns ls ns' ls':Value) (w:World),RD n w x ns ls->RD n w y ns' ls' ->
  Calls prog 30 #[.agg (aP (aI n x) ns ls),.agg (aP (aI n y) ns' ls')] w fun e w'=>TB (x=y) w e w'
theorem pG:∀n,QD n:=by
 intro n
 induction n with
 |zero=>intro x;exact Empty.elim x
 |succ n ih=>
  intro x y ns ls ns' ls' w hx hy;obtain⟨h,l⟩:=x;obtain⟨g,m⟩:=y;obtain⟨al,cl,rfl,aJ,bq⟩:=hx.len;obtain⟨an,cn,rfl,cm,df⟩:=hx.1.len;obtain⟨bl',dl,rfl,pd,PC⟩:=hy.len;obtain⟨bn,dn,rfl,qr,nR⟩:=hy.1.len
  replace hx:=aa hx
  replace hy:=aa hy
  replace ih:=aa ih
  have P0:=aa (Gz w h g (.slice an h.names.length cn) (.slice al l.length cl) (.slice bn g.names.length dn) (.slice bl' m.length dl));show Calls _ _ #[.agg #[.int .i64 h.kind,.bool h.flag,.bool h.neg,.string h.dig,.int .i64 h.exp,.int .u64 h.bits,.string h.text,.slice an h.names.length cn,.slice al l.length cl],.agg #[.int .i64 g.kind,.bool g.flag,.bool g.neg,.string g.dig,.int .i64 g.exp,.int .u64 g.bits,.string g.text,.slice bn g.names.length dn,.slice bl' m.length dl]] _ _;simp only at aJ bq cm df pd PC qr nR;have ml:maxLen=9223372036854775807:=rfl;by_cases e0:h.kind=g.kind
  ·by_cases e1:h.flag=g.flag
   ·by_cases e2:h.neg=g.neg
    ·by_cases e3:h.dig=g.dig
     ·by_cases e4:h.exp=g.exp
      ·by_cases e5:h.bits=g.bits
       ·by_cases e6:h.text=g.text
        ·by_cases e7:(h.names.length:Int)=(g.names.length:Int)
         ·by_cases e8:(l.length:Int)=(m.length:Int)
          ·have uZ:((h,l):VT (n+1))=(g,m)↔h.names=g.names/\l=m:=by
            constructor
            ·intro e;cases e;exact⟨rfl,rfl⟩
            rintro⟨e9,rfl⟩;have:h=g:=by clear e7;cases h;cases g;simp only at e0 e1 e2 e3 e4 e5 e6 e9;subst e0 e1 e2 e3 e4 e5 e6 e9;rfl
            rw[this]
           replace uZ:=aa uZ
           have AT:=aa (show g.names.length=h.names.length by omega);have nS:=aa (show m.length=l.length by omega);obtain⟨nm,rfl⟩:∃nm,h={g with names:=nm}:=⟨h.names,by cases h;cases g;simp only at e0 e1 e2 e3 e4 e5 e6;subst e0 e1 e2 e3 e4 e5 e6;rfl⟩
           clear e0 e1 e2 e3 e4 e5 e6;simp only at AT e7 ⊢;go_enter func30,ntmps30;go_wp2_with fail
           go_loopw [5] (fun i w'=>∃k:Nat,i=.int .i64 k/\k<=nm.length/\Hid (nm.take k=g.names.take k)/\Hid (rC w {g with names:=nm} g (.slice an nm.length cn) (.slice al l.length cl) (.slice bn g.names.length dn) (.slice bl' m.length dl) w')) (fun i _=>nm.length-(intOf i).toNat)
           case atStart=>exact⟨0,rfl,Nat.zero_le _,rfl,P0.out⟩
           case round=>
            obtain⟨k,rfl,hk,hE,hP⟩:=hrel;have c7:=hP.out.ba.cells.2.2.2.2.2.2.2.1;have c8:=hP.out.ba.cells.2.2.2.2.2.2.2.2;have d7:=hP.out.bb.cells.2.2.2.2.2.2.2.1;have d8:=hP.out.bb.cells.2.2.2.2.2.2.2.2;by_cases aE:k<nm.length
            ·have bF:(k:Int)<(nm.length:Int):=by omega
             have cR:(k:Int)<9223372036854775807:=by omega
             have Rc:k<g.names.length:=by rw[AT.out];exact aE
             have Wi:(k:Int)<(g.names.length:Int):=by omega
             obtain⟨b,o,c,he,cQ,gq,iE,hcell⟩:=hx.out.1.at k aE;have cy:=Value.slice.inj he;obtain⟨rfl,_,rfl⟩:=cy;clear he;have hcell:=(hP.out.below.cell (p:=⟨b,o+k,none⟩) cQ).trans hcell;obtain⟨b',o',c',he,md,EG,EU,hcell'⟩:=hy.out.1.at k Rc;have cy:=Value.slice.inj he;obtain⟨rfl,_,rfl⟩:=cy;clear he;have hcell':=(hP.out.below.cell (p:=⟨b',o'+k,none⟩) md).trans hcell';obtain⟨s,hs⟩:∃s,nm[k]=s:=⟨_,rfl⟩
             obtain⟨t,ht⟩:∃t,g.names[k]=t:=⟨_,rfl⟩
             simp only[hs]at hcell;simp only[ht]at hcell';have eK:=aa hs;have Lz:=aa ht;clear hs ht;by_cases cb:s=t
             ·subst cb
              go_wp2_with fail
              go_quiet (fail)
              go_wp2_with fail
              exact⟨⟨k+1,by go_num,by omega,oU aE Rc hE.out (by rw[eK.out,Lz.out]),hP.out.then (eF af _)⟩,by simp[intOf];omega⟩
             have LD:decide (s=t)=false:=decide_eq_false cb;have LC:=gv cb;have aQ:¬nm=g.names:=by intro h;subst h;rw[eK.out]at Lz;exact cb Lz.out
             have pR:=aa aQ;clear aQ;go_wp2_with fail
             go_quiet (fail)
             go_wp2_with fail
             go_ret;exact TB.no (fun e=>pR.out (uZ.out.1 e).1) (eF hP.out.below _)
            have bF:¬((k:Int)<(nm.length:Int)):=by omega
            have Qo:nm=g.names:=by have:=hE.out;rw[List.take_of_length_le (by omega),List.take_of_length_le (by rw[AT.out];omega)]at this;exact this
            have hN:=aa Qo;clear hE Qo;go_wp2_with fail
            clear c7 c8 d7 d8;go_loopw [6] (fun i w'=>∃k:Nat,i=.int .i64 k/\k<=l.length/\Hid (l.take k=m.take k)/\Hid (rC w {g with names:=nm} g (.slice an nm.length cn) (.slice al l.length cl) (.slice bn g.names.length dn) (.slice bl' m.length dl) w')) (fun i _=>l.length-(intOf i).toNat)
            case atStart=>exact⟨0,rfl,Nat.zero_le _,rfl,hP.out⟩
            case round=>
             obtain⟨k,rfl,hk,hE,hP⟩:=hrel;have c8:=hP.out.ba.cells.2.2.2.2.2.2.2.2;have d8:=hP.out.bb.cells.2.2.2.2.2.2.2.2;by_cases aE:k<l.length
             ·have bF:(k:Int)<(l.length:Int):=by omega
              have cR:(k:Int)<9223372036854775807:=by omega
              have Gi:k<m.length:=by rw[nS.out];exact aE
              have SR:(k:Int)<(m.length:Int):=by omega
              obtain⟨b,o,c,he,cQ,gq,iE,ns1,ls1,bT,bf⟩:=hx.out.at k aE;have cy:=Value.slice.inj he;obtain⟨rfl,_,rfl⟩:=cy;clear he;obtain⟨b',o',c',he,md,EG,EU,ns2,ls2,Es,cA⟩:=hy.out.at k Gi;have cy:=Value.slice.inj he;obtain⟨rfl,_,rfl⟩:=cy;clear he;obtain⟨e1,e2,e3,e4,e5,e6,rfl,rfl⟩:=bf.shape;obtain⟨f1,f2,f3,f4,f5,f6,rfl,rfl⟩:=cA.shape;obtain⟨q,zm⟩:=Kc (l[k]=m[k]);have hcall:=aa (fun W (hb:Below w.heap.size w W)=>Calls.tbB (ih.out l[k] m[k] _ _ _ _ W (bf.below hb) (cA.below hb)) zm);obtain⟨hp,Ns⟩:∃hp,aI n l[k]=hp:=⟨_,rfl⟩
              obtain⟨hq,Tf⟩:∃hq,aI n m[k]=hq:=⟨_,rfl⟩
              rw[Ns,Tf]at hcall;have R1:=am bT hP.out.below cQ;have R2:=am Es hP.out.below md
              replace R1:wr.rangeAt b (o+k*9) (aP hp (.slice e1 e2 e3) (.slice e4 e5 e6)).toList:=Ns▸R1
              replace R2:wr.rangeAt b' (o'+k*9) (aP hq (.slice f1 f2 f3) (.slice f4 f5 f6)).toList:=Tf▸R2
              obtain⟨x0,x1,x2,x3,x4,x5,x6,x7,x8⟩:=fm R1;obtain⟨y0,y1,y2,y3,y4,y5,y6,y7,y8⟩:=fm R2;have cP:=aa hP.out.below;have s1:=hP.out.ba.lt;have s2:=hP.out.bb.lt;have s3:b<wr.heap.size:=Nat.lt_of_lt_of_le cQ cP.out.size;have s4:b'<wr.heap.size:=Nat.lt_of_lt_of_le md cP.out.size;have LO:=aa zm;clear zm bT Es bf cA R1 R2 Ns Tf;go_wp2_with fail
              go_region_held3 (fun w'=>w'.cell? ⟨w.heap.size,8,none⟩=some (.slice (some ⟨b,o,none⟩) l.length cl)/\w'.cell? ⟨w.heap.size+1,8,none⟩=some (.slice (some ⟨b',o',none⟩) m.length dl)/\w'.cell? ⟨b,o+k*9,none⟩=some (.int .i64 hp.kind)/\w'.cell? ⟨b,o+k*9+1,none⟩=some (.bool hp.flag)/\w'.cell? ⟨b,o+k*9+2,none⟩=some (.bool hp.neg)/\w'.cell? ⟨b,o+k*9+3,none⟩=some (.string hp.dig)/\w'.cell? ⟨b,o+k*9+4,none⟩=some (.int .i64 hp.exp)/\w'.cell? ⟨b,o+k*9+5,none⟩=some (.int .u64 hp.bits)/\w'.cell? ⟨b,o+k*9+6,none⟩=some (.string hp.text)/\w'.cell? ⟨b,o+k*9+7,none⟩=some (.slice e1 e2 e3)/\w'.cell? ⟨b,o+k*9+8,none⟩=some (.slice e4 e5 e6)/\w'.cell? ⟨b',o'+k*9,none⟩=some (.int .i64 hq.kind)/\w'.cell? ⟨b',o'+k*9+1,none⟩=some (.bool hq.flag)/\w'.cell? ⟨b',o'+k*9+2,none⟩=some (.bool hq.neg)/\w'.cell? ⟨b',o'+k*9+3,none⟩=some (.string hq.dig)/\w'.cell? ⟨b',o'+k*9+4,none⟩=some (.int .i64 hq.exp)/\w'.cell? ⟨b',o'+k*9+5,none⟩=some (.int .u64 hq.bits)/\w'.cell? ⟨b',o'+k*9+6,none⟩=some (.string hq.text)/\w'.cell? ⟨b',o'+k*9+7,none⟩=some (.slice f1 f2 f3)/\w'.cell? ⟨b',o'+k*9+8,none⟩=some (.slice f4 f5 f6)) (first|(simp[go_sem];done)|(simp[go_sem, *];done)|go_keep) (first|(go_at_call 30;refine(hcall.out _ cP.out.drew).mono ?_;rintro e v1 ⟨rfl,bO⟩;have K:∀(i j:Nat) (v:Value),i<wr.heap.size->wr.cell? ⟨i,j,none⟩=some v->v1.cell? ⟨i,j,none⟩=some v:=fun i j v hi hv=>(bO.cell (p:=⟨i,j,none⟩) hi).trans hv;have z1:=K _ _ _ s1 c8;have z2:=K _ _ _ s2 d8;have zu0:=K _ _ _ s3 x0;have zt0:=K _ _ _ s4 y0;have zu1:=K _ _ _ s3 x1;have zt1:=K _ _ _ s4 y1;have zu2:=K _ _ _ s3 x2;have zt2:=K _ _ _ s4 y2;have zu3:=K _ _ _ s3 x3;have zt3:=K _ _ _ s4 y3;have zu4:=K _ _ _ s3 x4;have zt4:=K _ _ _ s4 y4;have zu5:=K _ _ _ s3 x5;have zt5:=K _ _ _ s4 y5;have zu6:=K _ _ _ s3 x6;have zt6:=K _ _ _ s4 y6;have zu7:=K _ _ _ s3 x7;have zt7:=K _ _ _ s4 y7;have zu8:=K _ _ _ s3 x8;have zt8:=K _ _ _ s4 y8;clear K))
              have zy:=aa (hP.out.then (ac af.drew bO));have WX:Hid (q=false->¬(({g with names:=nm},l):VT (n+1))=(g,m)):=fun hf e=>by have:=(uZ.out.1 e).2;subst this;have:=LO.out.2 rfl;rw[hf]at this;cases this
              have Ts:Hid (q=true->l.take (k+1)=m.take (k+1)):=fun ht=>oU aE Gi hE.out (LO.out.1 ht);clear hcall hx hy ih z1 z2 zu0 zu1 zu2 zu3 zu4 zu5 zu6 zu7 zu8 zt0 zt1 zt2 zt3 zt4 zt5 zt6 zt7 zt8 x0 x1 x2 x3 x4 x5 x6 x7 x8 y0 y1 y2 y3 y4 y5 y6 y7 y8;clear LO hE uZ hP bO cP s1 s2 s3 s4 c8 d8 SR Gi nS e7 e8 AT hN P0;rename_i hHeld;clear hHeld;cases q
              ·rw[Bool.not_false]
               go_wp2_with fail
               go_ret;exact TB.no (WX.out (by simp)) zy.out.below
              rw[Bool.not_true];go_wp2_with fail
              exact⟨⟨k+1,by go_num,by omega,Ts.out (by simp),zy.out⟩,by simp[intOf];omega⟩
             have bF:¬((k:Int)<(l.length:Int)):=by omega
             have hL:l=m:=by have:=hE.out;rw[List.take_of_length_le (by omega),List.take_of_length_le (by rw[nS.out];omega)]at this;exact this
             have hR:=aa (uZ.out.2 ⟨hN.out,hL⟩);clear hL;go_wp2_with fail
             go_ret;exact TB.yes hR.out hP.out.below
          go_enter func30,ntmps30;go_wp2_with fail
          go_ret;exact TB.no (fun e=>e8 (by cases e;rfl)) (ab (ab af))
         go_enter func30,ntmps30;go_wp2_with fail
         go_ret;exact TB.no (fun e=>e7 (by cases e;rfl)) (ab (ab af))
        have q1:decide (h.text=g.text)=false:=decide_eq_false e6;have q2:=gv e6;go_enter func30,ntmps30;go_wp2_with fail
        go_ret;exact TB.no (fun e=>e6 (by cases e;rfl)) (ab (ab af))
       go_enter func30,ntmps30;go_wp2_with fail
       go_ret;exact TB.no (fun e=>e5 (by cases e;rfl)) (ab (ab af))
      go_enter func30,ntmps30;go_wp2_with fail
      go_ret;exact TB.no (fun e=>e4 (by cases e;rfl)) (ab (ab af))
     have q1:decide (h.dig=g.dig)=false:=decide_eq_false e3;have q2:=gv e3;go_enter func30,ntmps30;go_wp2_with fail
     go_ret;exact TB.no (fun e=>e3 (by cases e;rfl)) (ab (ab af))
    go_enter func30,ntmps30;go_wp2_with fail
    go_ret;exact TB.no (fun e=>e2 (by cases e;rfl)) (ab (ab af))
   go_enter func30,ntmps30;go_wp2_with fail
   go_ret;exact TB.no (fun e=>e1 (by cases e;rfl)) (ab (ab af))
  go_enter func30,ntmps30;go_wp2_with fail
  go_ret;exact TB.no (fun e=>e0 (by cases e;rfl)) (ab (ab af))
