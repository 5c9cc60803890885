import Derived.Test.YtcnfchblfcfimaaGreatDoorZh28
import Derived.Test.YtcnfchblfcfimaaGreatDoorZh22
set_option linter.all false
set_option maxHeartbeats 4000000
set_option maxRecDepth 100000
namespace Go.Proofs.YtcnfchblfcfimaaGreatDoor
open Proofs.Tryz RowKit
namespace Lx
def VZ:(n:Nat)->VT n->Prop
 |0,_=>False
 |_+1,v=>v=(zr 0,[])
theorem QH{a:ByteArray}(h:¬a=⟨#[]⟩):¬a.toList=[]:=by
 intro e;apply h;have:a.data.toList=[]:=by rw[<-ByteArray.toList_eq];exact e
 exact ByteArray.ext (Array.toList_inj.1 (by simpa using this))
theorem jb(k:Int)(hk:k=1\/k=8\/k=9\/k=10\/k=11)(n m:Nat)(nm:ByteArray)(nms:List ByteArray)(vh:Hd)(vl:List (VT m))(l:List (ET n))(q:Sl)(w:World)(hr:RE (n+1) w (⟨k,nm,nms,m+1,(vh,vl)⟩,l) q):Calls prog 37 #[.agg (ecl ⟨k,nm,nms,m+1,(vh,vl)⟩ q)] w fun e w'=>TB (nm=⟨#[]⟩/\nms=[]/\l=[]/\VZ (m+1) (vh,vl)) w e w':=by
 obtain⟨al,cl,cd,bB,br⟩:=hr.tl.len;obtain⟨an,cn,aQ,jN,mc⟩:=hr.1.len;obtain⟨x1,y1,z1,x2,y2,z2,x3,y3,z3,x4,y4,z4,aK⟩:=hr.shape;subst aK;obtain⟨rfl,rfl,rfl⟩:=Value.slice.inj cd;obtain⟨rfl,rfl,rfl⟩:=Value.slice.inj aQ;clear cd aQ bB br jN mc;have hE:=aa (fun o=>cz (m+1) (vh,vl) (zr 0,[]) (.slice x3 y3 z3) (.slice x4 y4 z4) (.slice none 0 0) (.slice none 0 0) (w.alloc o) (hr.2.1.below (ab (o:=o) af)) (dt m _ 0));show Calls _ _ #[.agg #[.int .i64 k,.string nm,.slice x1 nms.length z1,.slice x2 l.length z2,.int .i64 vh.kind,.bool vh.flag,.bool vh.neg,.string vh.dig,.int .i64 vh.exp,.int .u64 vh.bits,.string vh.text,.slice x3 y3 z3,.slice x4 y4 z4]] _ _;clear hr;rcases hk with rfl|rfl|rfl|rfl|rfl
 all_goals
  by_cases h1:nm=⟨#[]⟩
  ·have E1:=aa h1
   rw[h1];clear h1;by_cases h2:nms=[]
   ·have E2:=aa h2
    have zE2:nms.length=0:=by rw[h2];rfl
    rw[zE2];clear zE2 h2;by_cases h3:l=[]
    ·have E3:=aa h3
     have zE3:l.length=0:=by rw[h3];rfl
     rw[zE3];clear zE3 h3;go_enter func37,ntmps37;go_wp2_with(go_at_call 82;refine(hE.out _).mono ?_;rintro e w1 ⟨b,rfl,hT,ai⟩)
     go_ret;exact⟨b,rfl,(show Hid _ from⟨fun q=>⟨(by first|trivial|rfl|exact E1.out),E2.out,E3.out,hT.1 q⟩,fun q=>hT.2 q.2.2.2⟩),ac (ab af) ai⟩
    have HE3:=aa h3;go_enter func37,ntmps37;go_wp2_with fail
    go_ret;exact TB.no (fun q=>HE3.out q.2.2.1) (ab af)
   have HE2:=aa h2;go_enter func37,ntmps37;go_wp2_with fail
   go_ret;exact TB.no (fun q=>HE2.out q.2.1) (ab af)
  have b1:¬nm.toList=[]:=QH h1;have H1:=aa h1;clear h1;go_enter func37,ntmps37;go_wp2_with fail
  go_ret;exact TB.no (fun q=>H1.out q.1) (ab af)
theorem vF(k:Int)(hk:k=2\/k=5)(n m:Nat)(nm:ByteArray)(nms:List ByteArray)(vh:Hd)(vl:List (VT m))(l:List (ET n))(q:Sl)(w:World)(hr:RE (n+1) w (⟨k,nm,nms,m+1,(vh,vl)⟩,l) q):Calls prog 37 #[.agg (ecl ⟨k,nm,nms,m+1,(vh,vl)⟩ q)] w fun e w'=>TB (nms=[]/\l=[]/\VZ (m+1) (vh,vl)) w e w':=by
 obtain⟨al,cl,cd,bB,br⟩:=hr.tl.len;obtain⟨an,cn,aQ,jN,mc⟩:=hr.1.len;obtain⟨x1,y1,z1,x2,y2,z2,x3,y3,z3,x4,y4,z4,aK⟩:=hr.shape;subst aK;obtain⟨rfl,rfl,rfl⟩:=Value.slice.inj cd;obtain⟨rfl,rfl,rfl⟩:=Value.slice.inj aQ;clear cd aQ bB br jN mc;have hE:=aa (fun o=>cz (m+1) (vh,vl) (zr 0,[]) (.slice x3 y3 z3) (.slice x4 y4 z4) (.slice none 0 0) (.slice none 0 0) (w.alloc o) (hr.2.1.below (ab (o:=o) af)) (dt m _ 0));show Calls _ _ #[.agg #[.int .i64 k,.string nm,.slice x1 nms.length z1,.slice x2 l.length z2,.int .i64 vh.kind,.bool vh.flag,.bool vh.neg,.string vh.dig,.int .i64 vh.exp,.int .u64 vh.bits,.string vh.text,.slice x3 y3 z3,.slice x4 y4 z4]] _ _;clear hr;rcases hk with rfl|rfl
 all_goals
  by_cases h2:nms=[]
  ·have E2:=aa h2
   have zE2:nms.length=0:=by rw[h2];rfl
   rw[zE2];clear zE2 h2;by_cases h3:l=[]
   ·have E3:=aa h3
    have zE3:l.length=0:=by rw[h3];rfl
    rw[zE3];clear zE3 h3;go_enter func37,ntmps37;go_wp2_with(go_at_call 82;refine(hE.out _).mono ?_;rintro e w1 ⟨b,rfl,hT,ai⟩)
    go_ret;exact⟨b,rfl,(show Hid _ from⟨fun q=>⟨E2.out,E3.out,hT.1 q⟩,fun q=>hT.2 q.2.2⟩),ac (ab af) ai⟩
   have HE3:=aa h3;go_enter func37,ntmps37;go_wp2_with fail
   go_ret;exact TB.no (fun q=>HE3.out q.2.1) (ab af)
  have HE2:=aa h2;go_enter func37,ntmps37;go_wp2_with fail
  go_ret;exact TB.no (fun q=>HE2.out q.1) (ab af)
theorem zL(k:Int)(hk:k=3\/k=6)(n m:Nat)(nm:ByteArray)(nms:List ByteArray)(vh:Hd)(vl:List (VT m))(l:List (ET n))(q:Sl)(w:World)(hr:RE (n+1) w (⟨k,nm,nms,m+1,(vh,vl)⟩,l) q):Calls prog 37 #[.agg (ecl ⟨k,nm,nms,m+1,(vh,vl)⟩ q)] w fun e w'=>TB (nm=⟨#[]⟩/\VZ (m+1) (vh,vl)) w e w':=by
 obtain⟨al,cl,cd,bB,br⟩:=hr.tl.len;obtain⟨an,cn,aQ,jN,mc⟩:=hr.1.len;obtain⟨x1,y1,z1,x2,y2,z2,x3,y3,z3,x4,y4,z4,aK⟩:=hr.shape;subst aK;obtain⟨rfl,rfl,rfl⟩:=Value.slice.inj cd;obtain⟨rfl,rfl,rfl⟩:=Value.slice.inj aQ;clear cd aQ bB br jN mc;have hE:=aa (fun o=>cz (m+1) (vh,vl) (zr 0,[]) (.slice x3 y3 z3) (.slice x4 y4 z4) (.slice none 0 0) (.slice none 0 0) (w.alloc o) (hr.2.1.below (ab (o:=o) af)) (dt m _ 0));show Calls _ _ #[.agg #[.int .i64 k,.string nm,.slice x1 nms.length z1,.slice x2 l.length z2,.int .i64 vh.kind,.bool vh.flag,.bool vh.neg,.string vh.dig,.int .i64 vh.exp,.int .u64 vh.bits,.string vh.text,.slice x3 y3 z3,.slice x4 y4 z4]] _ _;clear hr;rcases hk with rfl|rfl
 all_goals
  by_cases h1:nm=⟨#[]⟩
  ·have E1:=aa h1
   rw[h1];clear h1;go_enter func37,ntmps37;go_wp2_with(go_at_call 82;refine(hE.out _).mono ?_;rintro e w1 ⟨b,rfl,hT,ai⟩)
   go_ret;exact⟨b,rfl,(show Hid _ from⟨fun q=>⟨(by first|trivial|rfl|exact E1.out),hT.1 q⟩,fun q=>hT.2 q.2⟩),ac (ab af) ai⟩
  have b1:¬nm.toList=[]:=QH h1;have H1:=aa h1;clear h1;go_enter func37,ntmps37;go_wp2_with fail
  go_ret;exact TB.no (fun q=>H1.out q.1) (ab af)
theorem vG(k:Int)(hk:k=4\/k=12)(n m:Nat)(nm:ByteArray)(nms:List ByteArray)(vh:Hd)(vl:List (VT m))(l:List (ET n))(q:Sl)(w:World)(hr:RE (n+1) w (⟨k,nm,nms,m+1,(vh,vl)⟩,l) q):Calls prog 37 #[.agg (ecl ⟨k,nm,nms,m+1,(vh,vl)⟩ q)] w fun e w'=>TB (nm=⟨#[]⟩/\nms=[]/\VZ (m+1) (vh,vl)) w e w':=by
 obtain⟨al,cl,cd,bB,br⟩:=hr.tl.len;obtain⟨an,cn,aQ,jN,mc⟩:=hr.1.len;obtain⟨x1,y1,z1,x2,y2,z2,x3,y3,z3,x4,y4,z4,aK⟩:=hr.shape;subst aK;obtain⟨rfl,rfl,rfl⟩:=Value.slice.inj cd;obtain⟨rfl,rfl,rfl⟩:=Value.slice.inj aQ;clear cd aQ bB br jN mc;have hE:=aa (fun o=>cz (m+1) (vh,vl) (zr 0,[]) (.slice x3 y3 z3) (.slice x4 y4 z4) (.slice none 0 0) (.slice none 0 0) (w.alloc o) (hr.2.1.below (ab (o:=o) af)) (dt m _ 0));show Calls _ _ #[.agg #[.int .i64 k,.string nm,.slice x1 nms.length z1,.slice x2 l.length z2,.int .i64 vh.kind,.bool vh.flag,.bool vh.neg,.string vh.dig,.int .i64 vh.exp,.int .u64 vh.bits,.string vh.text,.slice x3 y3 z3,.slice x4 y4 z4]] _ _;clear hr;rcases hk with rfl|rfl
 all_goals
  by_cases h1:nm=⟨#[]⟩
  ·have E1:=aa h1
   rw[h1];clear h1;by_cases h2:nms=[]
   ·have E2:=aa h2
    have zE2:nms.length=0:=by rw[h2];rfl
    rw[zE2];clear zE2 h2;go_enter func37,ntmps37;go_wp2_with(go_at_call 82;refine(hE.out _).mono ?_;rintro e w1 ⟨b,rfl,hT,ai⟩)
    go_ret;exact⟨b,rfl,(show Hid _ from⟨fun q=>⟨(by first|trivial|rfl|exact E1.out),E2.out,hT.1 q⟩,fun q=>hT.2 q.2.2⟩),ac (ab af) ai⟩
   have HE2:=aa h2;go_enter func37,ntmps37;go_wp2_with fail
   go_ret;exact TB.no (fun q=>HE2.out q.2.1) (ab af)
  have b1:¬nm.toList=[]:=QH h1;have H1:=aa h1;clear h1;go_enter func37,ntmps37;go_wp2_with fail
  go_ret;exact TB.no (fun q=>H1.out q.1) (ab af)
theorem FK(k:Int)(hk:k=7)(n m:Nat)(nm:ByteArray)(nms:List ByteArray)(vh:Hd)(vl:List (VT m))(l:List (ET n))(q:Sl)(w:World)(hr:RE (n+1) w (⟨k,nm,nms,m+1,(vh,vl)⟩,l) q):Calls prog 37 #[.agg (ecl ⟨k,nm,nms,m+1,(vh,vl)⟩ q)] w fun e w'=>TB (nm=⟨#[]⟩/\nms=[]/\l=[]) w e w':=by
 obtain⟨al,cl,cd,bB,br⟩:=hr.tl.len;obtain⟨an,cn,aQ,jN,mc⟩:=hr.1.len;obtain⟨x1,y1,z1,x2,y2,z2,x3,y3,z3,x4,y4,z4,aK⟩:=hr.shape;subst aK;obtain⟨rfl,rfl,rfl⟩:=Value.slice.inj cd;obtain⟨rfl,rfl,rfl⟩:=Value.slice.inj aQ;clear cd aQ bB br jN mc;have hE:=aa (fun o=>cz (m+1) (zr 0,[]) (zr 0,[]) (.slice none 0 0) (.slice none 0 0) (.slice none 0 0) (.slice none 0 0) (w.alloc o) (dt m _ 0) (dt m _ 0));show Calls _ _ #[.agg #[.int .i64 k,.string nm,.slice x1 nms.length z1,.slice x2 l.length z2,.int .i64 vh.kind,.bool vh.flag,.bool vh.neg,.string vh.dig,.int .i64 vh.exp,.int .u64 vh.bits,.string vh.text,.slice x3 y3 z3,.slice x4 y4 z4]] _ _;clear hr;rcases hk with rfl
 all_goals
  by_cases h1:nm=⟨#[]⟩
  ·have E1:=aa h1
   rw[h1];clear h1;by_cases h2:nms=[]
   ·have E2:=aa h2
    have zE2:nms.length=0:=by rw[h2];rfl
    rw[zE2];clear zE2 h2;by_cases h3:l=[]
    ·have E3:=aa h3
     have zE3:l.length=0:=by rw[h3];rfl
     rw[zE3];clear zE3 h3;go_enter func37,ntmps37;go_wp2_with(go_at_call 82;refine(hE.out _).mono ?_;rintro e w1 ⟨b,rfl,hT,ai⟩)
     go_ret;exact⟨b,rfl,(show Hid _ from⟨fun q=>⟨(by first|trivial|rfl|exact E1.out),E2.out,E3.out⟩,fun q=>hT.2 rfl⟩),ac (ab af) ai⟩
    have HE3:=aa h3;go_enter func37,ntmps37;go_wp2_with fail
    go_ret;exact TB.no (fun q=>HE3.out q.2.2) (ab af)
   have HE2:=aa h2;go_enter func37,ntmps37;go_wp2_with fail
   go_ret;exact TB.no (fun q=>HE2.out q.2.1) (ab af)
  have b1:¬nm.toList=[]:=QH h1;have H1:=aa h1;clear h1;go_enter func37,ntmps37;go_wp2_with fail
  go_ret;exact TB.no (fun q=>H1.out q.1) (ab af)
theorem TB.iff{p p':Prop}{w w':World}{e:Ending}(h:TB p w e w')(k:p↔p'):TB p' w e w':=by obtain⟨b,e1,t,hb⟩:=h;exact⟨b,e1,(show Hid _ from⟨fun q=>k.1 (t.1 q),fun q=>t.2 (k.2 q)⟩),hb⟩
def dH{α:Type}(h:Eh)(l:List α):Prop:=(1<=h.op/\h.op<=12)/\(h.op=2\/h.op=5\/h.name=⟨#[]⟩)/\(h.op=3\/h.op=6\/h.names=[])/\(h.op=3\/h.op=4\/h.op=6\/h.op=12\/l=[])/\(h.op=7\/VZ h.vn h.val)
theorem Bp(n:Nat)(h:Eh)(l:List (ET n))(q:Sl)(w:World)(hr:RE (n+1) w (h,l) q):Calls prog 37 #[.agg (ecl h q)] w fun e w'=>TB (dH h l) w e w':=by
 obtain⟨op,nm,nms,vn,val⟩:=h;cases vn with
 |zero=>exact Empty.elim val
 |succ m=>
  obtain⟨vh,vl⟩:=val;have key:∀(k:Int) (p:Prop),(Calls prog 37 #[.agg (ecl ⟨k,nm,nms,m+1,(vh,vl)⟩ q)] w fun e w'=>TB p w e w')->(p↔dH ⟨k,nm,nms,m+1,(vh,vl)⟩ l)->Calls prog 37 #[.agg (ecl ⟨k,nm,nms,m+1,(vh,vl)⟩ q)] w fun e w'=>TB (dH ⟨k,nm,nms,m+1,(vh,vl)⟩ l) w e w':=fun k p h1 h2=>h1.mono fun e w' h3=>TB.iff h3 h2;by_cases k1:op=1
  ·subst k1;exact key 1 _ (jb 1 (by decide) n m nm nms vh vl l q w hr) (by simp[dH])
  by_cases k2:op=2
  ·subst k2;exact key 2 _ (vF 2 (by decide) n m nm nms vh vl l q w hr) (by simp[dH])
  by_cases k3:op=3
  ·subst k3;exact key 3 _ (zL 3 (by decide) n m nm nms vh vl l q w hr) (by simp[dH])
  by_cases k4:op=4
  ·subst k4;exact key 4 _ (vG 4 (by decide) n m nm nms vh vl l q w hr) (by simp[dH])
  by_cases k5:op=5
  ·subst k5;exact key 5 _ (vF 5 (by decide) n m nm nms vh vl l q w hr) (by simp[dH])
  by_cases k6:op=6
  ·subst k6;exact key 6 _ (zL 6 (by decide) n m nm nms vh vl l q w hr) (by simp[dH])
  by_cases k7:op=7
  ·subst k7;exact key 7 _ (FK 7 (by decide) n m nm nms vh vl l q w hr) (by simp[dH])
  by_cases k8:op=8
  ·subst k8;exact key 8 _ (jb 8 (by decide) n m nm nms vh vl l q w hr) (by simp[dH])
  by_cases k9:op=9
  ·subst k9;exact key 9 _ (jb 9 (by decide) n m nm nms vh vl l q w hr) (by simp[dH])
  by_cases k10:op=10
  ·subst k10;exact key 10 _ (jb 10 (by decide) n m nm nms vh vl l q w hr) (by simp[dH])
  by_cases k11:op=11
  ·subst k11;exact key 11 _ (jb 11 (by decide) n m nm nms vh vl l q w hr) (by simp[dH])
  by_cases k12:op=12
  ·subst k12;exact key 12 _ (vG 12 (by decide) n m nm nms vh vl l q w hr) (by simp[dH])
  have hx:¬dH ⟨op,nm,nms,m+1,(vh,vl)⟩ l:=by rintro⟨⟨q1,q2⟩,_⟩;simp only at q1 q2;omega
  have jC:=aa hx;obtain⟨x1,y1,z1,x2,y2,z2,x3,y3,z3,x4,y4,z4,aK⟩:=hr.shape;subst aK;clear hx hr key;show Calls _ _ #[.agg #[.int .i64 op,.string nm,.slice x1 y1 z1,.slice x2 y2 z2,.int .i64 vh.kind,.bool vh.flag,.bool vh.neg,.string vh.dig,.int .i64 vh.exp,.int .u64 vh.bits,.string vh.text,.slice x3 y3 z3,.slice x4 y4 z4]] _ _;go_enter func37,ntmps37;go_wp2_with fail
  go_ret;exact TB.no jC.out (ab af)
theorem uY(k:Int)(w:World):Calls prog 83 #[.int .i64 k] w fun e w'=>TB (k=1\/k=2\/k=3\/k=5) w e w':=by
 by_cases k1:k=1
 ·subst k1
  go_enter func83,ntmps83;go_wp2_with fail
  go_ret;exact TB.yes (by simp) af
 by_cases k2:k=2
 ·subst k2
  go_enter func83,ntmps83;go_wp2_with fail
  go_ret;exact TB.yes (by simp) af
 by_cases k3:k=3
 ·subst k3
  go_enter func83,ntmps83;go_wp2_with fail
  go_ret;exact TB.yes (by simp) af
 by_cases k5:k=5
 ·subst k5
  go_enter func83,ntmps83;go_wp2_with fail
  go_ret;exact TB.yes (by simp) af
 have hx:=aa (show ¬(k=1\/k=2\/k=3\/k=5)by omega);go_enter func83,ntmps83;go_wp2_with fail
 go_ret;exact TB.no hx.out af
structure Gr(F:FuncId)(P:(n:Nat)->ET n->Prop)(S:(n:Nat)->ET n->World->Prop):Prop where
 call:∀(n:Nat) (x:ET n) (q:Sl) (w:World),RE n w x q->S n x w->Calls prog F #[.agg (ecl (ehd n x) q)] w fun e w'=>TB (P n x) w e w'
 low:∀(n:Nat) (x:ET n) (w W:World),S n x w->Below w.heap.size w W->S n x W
 kid:∀(n:Nat) (h:Eh) (l:List (ET n)) (w:World),S (n+1) (h,l) w->∀i (hi:i<l.length),S n l[i] w
def fd(P:(n:Nat)->ET n->Prop):(n:Nat)->ET n->Prop
 |0,_=>False
 |n+1,x=>P (n+1) x/\∀i (h:i<x.2.length),fd P n x.2[i]
def qA(F:FuncId):Value:=.func (.func F) #[] #[]
def BN(F:FuncId)(P:(n:Nat)->ET n->Prop)(S:(n:Nat)->ET n->World->Prop)(n:Nat):Prop:=∀(x:ET n) (q:Sl) (w:World),RE n w x q->S n x w->Calls prog 36 #[.agg (ecl (ehd n x) q),qA F] w fun e w'=>TB (fd P n x) w e w'
def Sb(W:World)(i:Nat)(F:FuncId):Prop:=W.heap[i]?=some (.cells #[qA F] 40 (0,0))
section
variable {F : FuncId} {P : (n : Nat) → ET n → Prop} {S : (n : Nat) → ET n → World → Prop}
theorem xQ(n:Nat)(ih:BN F P S n)(x:ET n)(q:Sl)(w:World)(i:Nat)(hr:RE n w x q)(hs:S n x w)(hb:Sb w i F)(A:Gr F P S):Calls prog 81 #[.agg (ecl (ehd n x) q),.pointer (some ⟨i,0,none⟩)] w fun e w'=>TB (¬fd P n x) w e w':=by
 obtain⟨x1,y1,z1,x2,y2,z2,x3,y3,z3,x4,y4,z4,aK⟩:=hr.shape;subst aK;have bm:i<w.heap.size:=(Array.getElem?_eq_some_iff.1 hb).1;have cs:w.cell? ⟨i,0,none⟩=some (qA F):=by unfold World.cell?;rw[hb];rfl
 have hc:=aa (fun o=>ih x ⟨.slice x1 y1 z1,.slice x2 y2 z2,.slice x3 y3 z3,.slice x4 y4 z4⟩ (w.alloc o) (hr.below (ab af)) (A.low _ _ _ _ hs (ab af)));clear hr hs hb ih A;unfold qA at cs hc;unfold ecl;go_enter func81,ntmps81;go_wp2_with(go_at_call 36;refine(hc.out _).mono ?_;rintro e w1 ⟨b,rfl,hT,ai⟩)
 go_ret;refine⟨!b,rfl,(show Hid _ from⟨fun k he=>?_,fun aQ=>?_⟩),ac (ab af) ai⟩
 ·have:=hT.2 he
  rw[this]at k;cases k
 cases b
 ·rfl
 exact absurd (hT.1 rfl) aQ
theorem Sb.below{W W1:World}{i:Nat}(h:Sb W i F)(hb:Below W.heap.size W W1):Sb W1 i F:=(hb.block _ (Array.getElem?_eq_some_iff.1 h).1).trans h
theorem xT(n:Nat)(ih:BN F P S n)(v:Value)(l:List (ET n))(w:World)(j:Nat)(hl:EL n w v l)(hs:∀i (hi:i<l.length),S n l[i] w)(hb:Sb w j F)(A:Gr F P S):Calls prog 132 #[v,.func (.func 81) #[] #[.pointer (some ⟨j,0,none⟩)]] w fun e w'=>∃k:Int,e=.returned (.int .i64 k)/\Hid (0<=k↔∃i,∃h:i<l.length,¬fd P n l[i])/\Below w.heap.size w w':=by
 obtain⟨al,cl,rfl,aJ,bq⟩:=hl.len;have ml:maxLen=9223372036854775807:=rfl;have HL:=aa hl;have HS:=aa hs;have HB:=aa hb;have HA:=aa A;have IH:=aa ih;clear hl hs hb A ih;go_enter func132,ntmps132;go_wp2_with fail
 go_loopw [8] (fun i w'=>∃k:Nat,i=.int .i64 k/\k<=l.length/\Hid ((∀i (h1:i<l.length),i<k->fd P n l[i])/\Below w.heap.size w w')) (fun i _=>l.length-(intOf i).toNat)
 case atStart=>exact⟨0,rfl,Nat.zero_le _,(fun i _ h=>by omega),af⟩
 case round=>
  obtain⟨k,rfl,hk,H⟩:=hrel;by_cases aE:k<l.length
  ·have bF:(k:Int)<(l.length:Int):=by omega
   have cR:(k:Int)<9223372036854775807:=by omega
   obtain⟨b,o,c,he,cQ,gq,iE,q,bT,bf⟩:=HL.out.at k aE;have cy:=Value.slice.inj he;obtain⟨rfl,_,rfl⟩:=cy;clear he;have nh:=am bT H.out.2 cQ;obtain⟨x1,y1,z1,x2,y2,z2,x3,y3,z3,x4,y4,z4,aK⟩:=bf.shape;subst aK;have q0:=bJ nh;have hc:=aa (fun W (hb:Below w.heap.size w W)=>xQ n IH.out l[k] ⟨.slice x1 y1 z1,.slice x2 y2 z2,.slice x3 y3 z3,.slice x4 y4 z4⟩ W j (bf.below hb) (HA.out.low _ _ _ _ (HS.out k aE) hb) (HB.out.below hb) HA.out);clear bT nh bf;unfold ecl at hc;go_wp2_with(go_at_call 81;refine ak.out ?_)
   refine ak.mk ?_;refine(hc.out _ H.out.2).mono ?_;rintro e w2 ⟨b2,rfl,hT,ai⟩;have aq:=aa (ac H.out.2 ai);cases b2
   ·have TH:Hid (fd P n l[k]):=aa (Classical.byContradiction fun q=>by have:=hT.2 q;cases this)
    go_wp2_with fail
    refine⟨⟨k+1,by go_num,by omega,(fun i h1 h3=>?_),aq.out⟩,by simp[intOf];omega⟩;by_cases e:i=k
    ·subst e;exact TH.out
    exact H.out.1 i h1 (by omega)
   have aQ:=aa (hT.1 rfl);go_wp2_with fail
   go_ret;exact⟨k,rfl,(show Hid _ from⟨fun _=>⟨k,aE,aQ.out⟩,fun _=>by omega⟩),aq.out⟩
  have bF:¬((k:Int)<(l.length:Int)):=by omega
  have iJ:=aa (show ∀i (h1:i<l.length),fd P n l[i]from fun i h1=>H.out.1 i h1 (by omega));go_wp2_with fail
  go_ret;exact⟨-1,rfl,(show Hid _ from⟨fun h=>by omega,fun⟨i,h,q⟩=>absurd (iJ.out i h) q⟩),H.out.2⟩
theorem iG(n:Nat)(ih:BN F P S n)(v:Value)(l:List (ET n))(w:World)(j:Nat)(hl:EL n w v l)(hs:∀i (hi:i<l.length),S n l[i] w)(hb:Sb w j F)(A:Gr F P S):Calls prog 80 #[v,.func (.func 81) #[] #[.pointer (some ⟨j,0,none⟩)]] w fun e w'=>TB (∃i,∃h:i<l.length,¬fd P n l[i]) w e w':=by
 have hc:=aa (xT n ih v l w j hl hs hb A);obtain⟨al,cl,rfl,aJ,bq⟩:=hl.len;obtain⟨p,hp⟩:∃p,(∃i,∃h:i<l.length,¬fd P n l[i])=p:=⟨_,rfl⟩
 rw[hp]at hc ⊢;clear hl hs hb A ih hp;go_enter func80,ntmps80;go_wp2_with(go_at_call 132;refine hc.out.mono ?_;rintro e w1 ⟨k,rfl,hT,ai⟩)
 go_ret;exact⟨_,rfl,(show Hid _ from⟨fun q=>hT.out.1 (by simpa using q),fun q=>by simpa using hT.out.2 q⟩),ai⟩
theorem xP(hF:F=37\/F=38\/F=39)(n:Nat)(ih:BN F P S n)(A:Gr F P S):BN F P S (n+1):=by
 intro x q w hr hs;obtain⟨h,l⟩:=x;obtain⟨al,cl,cd,bB,br⟩:=hr.tl.len;obtain⟨x1,y1,z1,x2,y2,z2,x3,y3,z3,x4,y4,z4,aK⟩:=hr.shape;subst aK;obtain⟨rfl,rfl,rfl⟩:=Value.slice.inj cd;clear cd;have HR:=aa hr;have HS:=aa hs;have HA:=aa A;have IH:=aa ih;have hc:=aa (fun W (hb:Below w.heap.size w W)=>A.call (n+1) (h,l) ⟨.slice x1 y1 z1,.slice x2 l.length z2,.slice x3 y3 z3,.slice x4 y4 z4⟩ W (hr.below hb) (A.low _ _ _ _ hs hb));clear hr hs A ih;have SH:∀(fn:Fn) (first cap:Array Value) (w:World),(Instr.makeFunc fn first cap).run prog w=.ok (.func fn first cap) w:=fun _ _ _ _=>rfl;show Calls _ _ #[.agg #[.int .i64 h.op,.string h.name,.slice x1 y1 z1,.slice x2 l.length z2,.int .i64 (aI h.vn h.val).kind,.bool (aI h.vn h.val).flag,.bool (aI h.vn h.val).neg,.string (aI h.vn h.val).dig,.int .i64 (aI h.vn h.val).exp,.int .u64 (aI h.vn h.val).bits,.string (aI h.vn h.val).text,.slice x3 y3 z3,.slice x4 y4 z4],_] _ _;unfold qA;simp only[ehd,ecl]at hc;obtain⟨B,hB⟩:∃B,w.alloc (.cells #[.int .i64 h.op,.string h.name,.slice x1 y1 z1,.slice x2 l.length z2,.int .i64 (aI h.vn h.val).kind,.bool (aI h.vn h.val).flag,.bool (aI h.vn h.val).neg,.string (aI h.vn h.val).dig,.int .i64 (aI h.vn h.val).exp,.int .u64 (aI h.vn h.val).bits,.string (aI h.vn h.val).text,.slice x3 y3 z3,.slice x4 y4 z4] 33)=B:=⟨_,rfl⟩
 have S0:Hid (Sb (B.alloc (.cells #[qA F] 40)) (w.heap.size+1) F):=by have:=heap_alloc_last B (.cells #[qA F] 40);rw[<-hB,World.size_alloc]at this;rw[<-hB];exact this
 have X0:Hid (Ex (B.alloc (.cells #[qA F] 40)) w.heap.size h ⟨.slice x1 y1 z1,.slice x2 l.length z2,.slice x3 y3 z3,.slice x4 y4 z4⟩):=by rw[<-hB];exact(bC w h _).below (ab af)
 rw[<-hB]at S0 X0;clear hB B;unfold qA at S0;rcases hF with rfl|rfl|rfl
 ·go_enter func36,ntmps36
  go_wp2_with(go_at_call 37;refine ak.out ?_)
  refine ak.mk ?_;refine(hc.out _ (ab (ab af))).mono ?_;rintro e w1 ⟨b,rfl,hT,ai⟩;have eN:=aa hT;have S1:=aa (S0.out.below ai);have X1:=aa (X0.out.below ai);have B1:=aa (ac (ab (ab af)) ai);have x0:=X1.out.cells;have br:=aa (iG n IH.out (.slice x2 l.length z2) l w1 (w.heap.size+1) (HR.out.tl.below B1.out) (fun i hi=>HA.out.low _ _ _ _ (HA.out.kid n h l w HS.out i hi) B1.out) S1.out HA.out);clear hT ai S0 X0;cases b
  ·have hn:=aa (show ¬P (n+1) (h,l)from fun q=>by have:=eN.out.2 q;cases this)
   go_wp2_with fail
   go_ret;exact TB.no (fun q=>hn.out q.1) B1.out
  have hy:=aa (eN.out.1 rfl);go_wp2_with(go_at_call 80;refine ak.out ?_)
  refine ak.mk ?_;refine br.out.mono ?_;rintro e w2 ⟨b2,rfl,oy,aq⟩;have H2:=aa oy;have B2:=aa (ac B1.out aq);clear oy aq;go_wp2_with fail
  go_ret;refine⟨!b2,rfl,(show Hid _ from⟨fun k=>⟨hy.out,fun i hi=>Classical.byContradiction fun q=>?_⟩,fun hq=>?_⟩),B2.out⟩
  ·have:=H2.out.2 ⟨i,hi,q⟩
   rw[this]at k;cases k
  cases b2
  ·rfl
  obtain⟨i,hi,q⟩:=H2.out.1 rfl;exact absurd (hq.2 i hi) q
 ·go_enter func36,ntmps36
  go_wp2_with(go_at_call 38;refine ak.out ?_)
  refine ak.mk ?_;refine(hc.out _ (ab (ab af))).mono ?_;rintro e w1 ⟨b,rfl,hT,ai⟩;have eN:=aa hT;have S1:=aa (S0.out.below ai);have X1:=aa (X0.out.below ai);have B1:=aa (ac (ab (ab af)) ai);have x0:=X1.out.cells;have br:=aa (iG n IH.out (.slice x2 l.length z2) l w1 (w.heap.size+1) (HR.out.tl.below B1.out) (fun i hi=>HA.out.low _ _ _ _ (HA.out.kid n h l w HS.out i hi) B1.out) S1.out HA.out);clear hT ai S0 X0;cases b
  ·have hn:=aa (show ¬P (n+1) (h,l)from fun q=>by have:=eN.out.2 q;cases this)
   go_wp2_with fail
   go_ret;exact TB.no (fun q=>hn.out q.1) B1.out
  have hy:=aa (eN.out.1 rfl);go_wp2_with(go_at_call 80;refine ak.out ?_)
  refine ak.mk ?_;refine br.out.mono ?_;rintro e w2 ⟨b2,rfl,oy,aq⟩;have H2:=aa oy;have B2:=aa (ac B1.out aq);clear oy aq;go_wp2_with fail
  go_ret;refine⟨!b2,rfl,(show Hid _ from⟨fun k=>⟨hy.out,fun i hi=>Classical.byContradiction fun q=>?_⟩,fun hq=>?_⟩),B2.out⟩
  ·have:=H2.out.2 ⟨i,hi,q⟩
   rw[this]at k;cases k
  cases b2
  ·rfl
  obtain⟨i,hi,q⟩:=H2.out.1 rfl;exact absurd (hq.2 i hi) q
 go_enter func36,ntmps36;go_wp2_with(go_at_call 39;refine ak.out ?_)
 refine ak.mk ?_;refine(hc.out _ (ab (ab af))).mono ?_;rintro e w1 ⟨b,rfl,hT,ai⟩;have eN:=aa hT;have S1:=aa (S0.out.below ai);have X1:=aa (X0.out.below ai);have B1:=aa (ac (ab (ab af)) ai);have x0:=X1.out.cells;have br:=aa (iG n IH.out (.slice x2 l.length z2) l w1 (w.heap.size+1) (HR.out.tl.below B1.out) (fun i hi=>HA.out.low _ _ _ _ (HA.out.kid n h l w HS.out i hi) B1.out) S1.out HA.out);clear hT ai S0 X0;cases b
 ·have hn:=aa (show ¬P (n+1) (h,l)from fun q=>by have:=eN.out.2 q;cases this)
  go_wp2_with fail
  go_ret;exact TB.no (fun q=>hn.out q.1) B1.out
 have hy:=aa (eN.out.1 rfl);go_wp2_with(go_at_call 80;refine ak.out ?_)
 refine ak.mk ?_;refine br.out.mono ?_;rintro e w2 ⟨b2,rfl,oy,aq⟩;have H2:=aa oy;have B2:=aa (ac B1.out aq);clear oy aq;go_wp2_with fail
 go_ret;refine⟨!b2,rfl,(show Hid _ from⟨fun k=>⟨hy.out,fun i hi=>Classical.byContradiction fun q=>?_⟩,fun hq=>?_⟩),B2.out⟩
 ·have:=H2.out.2 ⟨i,hi,q⟩
  rw[this]at k;cases k
 cases b2
 ·rfl
 obtain⟨i,hi,q⟩:=H2.out.1 rfl;exact absurd (hq.2 i hi) q
theorem lj(hF:F=37\/F=38\/F=39)(A:Gr F P S):∀n,BN F P S n
 |0=>fun x=>Empty.elim x
 |n+1=>xP hF n (lj hF A n) A
def jc:(n:Nat)->ET n->Prop
 |0,_=>False
 |_+1,x=>dH x.1 x.2
theorem IK:Gr 37 jc (fun _ _ _=>True):=⟨fun n x q w hr _=>by
 cases n with
 |zero=>exact Empty.elim x
 |succ n=>exact Bp n x.1 x.2 q w hr,fun _ _ _ _ _ _=>trivial,fun _ _ _ _ _ _ _=>trivial⟩
end
end Lx
