import Derived.Test.YtcnfchblfcfimaaGreatDoorZh02
import Derived.Test.YtcnfchblfcfimaaGreatDoorZh08
set_option linter.all false
set_option maxHeartbeats 4000000
namespace Go.Proofs.YtcnfchblfcfimaaGreatDoor
open Proofs.Tryz RowKit
theorem fk(s:ByteArray)(w:World)(hs:s.size<=100000):Calls prog 188 #[.string s] w fun e w'=>e=.returned (.tuple #[.string (aj ((bl s).takeWhile isDig)),.string (aj ((bl s).dropWhile isDig))])/\Below w.heap.size w w':=by
 obtain⟨k,hk⟩:∃k,qR (bl s)=k:=⟨_,rfl⟩
 have cd:k<=s.size:=by rw[<-hk,<-bl_length];exact tE _
 have aJ:((bl s).takeWhile isDig).length=k:=hk;have e1:=aa (show aj ((bl s).takeWhile isDig)=s.extract 0 k by
  rw[aH,List.drop_zero,Nat.sub_zero]
  congr 1
  rw[<-aJ];exact(yp isDig (bl s)).symm)
 have e2:=aa (show aj ((bl s).dropWhile isDig)=s.extract k s.size by
  rw[bd]
  congr 1
  rw[<-aJ];exact(tA isDig (bl s)).symm)
 have jM:Hid (∀j (h:j<s.size),j<k->isDig s[j]=true):=fun j h hj=>by
  rw[<-bH s j h];have Mc:j<((bl s).takeWhile isDig).length:=by rw[aJ];exact hj
  have e:(bl s)[j]'(by rw[bl_length];exact h)=((bl s).takeWhile isDig)[j]:=by have:=List.IsPrefix.getElem (List.takeWhile_prefix isDig (l:=bl s)) Mc;exact this.symm
  rw[e];exact List.all_eq_true.1 (List.all_takeWhile (p:=isDig) (l:=bl s)) _ (List.getElem_mem _)
 have xu:Hid (∀h:k<s.size,isDig s[k]=false):=fun h=>by
  rw[<-bH s k h];have h2:0<((bl s).dropWhile isDig).length:=by have:=congrArg List.length (List.takeWhile_append_dropWhile (p:=isDig) (l:=bl s));rw[List.length_append,aJ,bl_length]at this;omega
  have h3:=List.head_dropWhile_not isDig (l:=bl s) (by intro q;rw[q]at h2;simp at h2);have e:(bl s)[k]'(by rw[bl_length];exact h)=((bl s).dropWhile isDig).head (by intro q;rw[q]at h2;simp at h2):=by have q:=tA isDig (bl s);rw[aJ]at q;rw[List.head_eq_getElem];simp only[<-q,List.getElem_drop];rfl
  rw[e];exact h3
 clear hk aJ;go_enter func188,ntmps188;go_wp2;go_loop [4] (fun i=>∃j:Nat,j<=k/\i=.int .i64 j) (fun i=>k-(intOf i).toNat)
 case atStart=>exact⟨0,Nat.zero_le _,rfl⟩
 case round=>
  obtain⟨j,hj,rfl⟩:=hrel;by_cases bm:j<k
  ·have Nq:j<s.size:=by omega
   have hd:=(bZ _).1 (jM.out j Nq bm);have d1:=hd.1;have d2:=hd.2;clear hd;go_wp2;exact⟨⟨j+1,by omega,by go_num⟩,by simp[intOf];omega⟩
  have SW:j=k:=by omega
  subst SW;by_cases sQ:j<s.size
  ·have Gk:¬(48<=(s[j].toNat:Int)/\(s[j].toNat:Int)<=57):=fun q=>by
    have:=xu.out sQ;rw[(bZ _).2 q]at this;cases this
   have Nr:(0:Int)<=j:=by omega
   have xA:(j:Int)<=s.size:=by omega
   go_wp2
   all_goals
    go_region
    all_goals
     go_wp2;go_ret2;exact⟨by rw[e1.out,e2.out];rfl,af.drew⟩
  have Nq:j=s.size:=by omega
  have e1':=aa (show aj ((bl s).takeWhile isDig)=s by rw[e1.out,Nq,aH,List.drop_zero,Nat.sub_zero,List.take_of_length_le (by rw[bl_length];exact Nat.le_refl _),dh]);have e2':=aa (show aj ((bl s).dropWhile isDig)=ByteArray.empty by rw[e2.out,Nq,bd,List.drop_of_length_le (by rw[bl_length];exact Nat.le_refl _)];rfl);have Nr:(0:Int)<=j:=by omega
  have xA:(j:Int)<=s.size:=by omega
  have XG:¬(j:Int)<s.size:=by omega
  go_wp2
  all_goals
   go_region
   all_goals
    go_wp2;go_ret2;exact⟨by rw[e1'.out,e2'.out];rfl,af.drew⟩
def gI(acc:Nat):List UInt8->Nat
 | []=>acc
 |c::l=>gI (min (10*acc+(c.toNat-48)) 1000000) l
theorem pJ:∀(l:List UInt8) (acc:Nat),acc<=1000000->gI acc l<=1000000
 | [],acc,h=>h
 |c::l,acc,h=>by unfold gI;exact pJ l _ (Nat.min_le_right _ _)
theorem mQ:∀(l:List UInt8) (acc:Nat) (c:UInt8),gI acc (l++[c])=min (10*gI acc l+(c.toNat-48)) 1000000
 | [],acc,c=>rfl
 |a::l,acc,c=>by show gI _ (l++[c])=_;rw[mQ l];rfl
def lx:List UInt8->Int×Bool
 | []=>(0,true)
 |c::r=>if c==101||c==69 then (if jg r then ((if fC r then -(gI 0 (gm r):Int) else (gI 0 (gm r):Int)),true) else (0,false)) else (0,false)
theorem mW(c:UInt8)(r:List UInt8):(aj (c::r)).extract 1 (r.length+1)=aj r:=by have h:=bd (aj (c::r)) 1;rw[ag,ah]at h;exact h
theorem Ft(l:List UInt8)(h:bW l=true):l.dropWhile isDig=[]:=by
 induction l with
 |nil=>rfl
 |cons a l ih=>
  simp only[bW,List.all_cons,Bool.and_eq_true]at h;rw[List.dropWhile_cons,if_pos h.1];exact ih h.2
theorem CJ(l:List UInt8):(!(l.takeWhile isDig).isEmpty&&(l.dropWhile isDig).isEmpty)=(!l.isEmpty&&bW l):=by
 cases hd:bW l
 ·have:(l.dropWhile isDig).isEmpty=false:=by
   cases hq:l.dropWhile isDig with
   |nil=>
    exfalso;have h1:=List.takeWhile_append_dropWhile (p:=isDig) (l:=l);rw[hq,List.append_nil]at h1;have h2:=List.all_takeWhile (p:=isDig) (l:=l);rw[h1]at h2;unfold bW at hd;rw[h2]at hd;cases hd
   |cons=>rfl
  rw[this];simp
 have h1:l.dropWhile isDig=[]:=Ft l hd;have h2:l.takeWhile isDig=l:=by have:=List.takeWhile_append_dropWhile (p:=isDig) (l:=l);rw[h1,List.append_nil]at this;exact this
 rw[h1,h2];rfl
theorem bM(l:List UInt8):(aj l).toList.isEmpty=l.isEmpty:=aN l
def pu(pn:Bool)(l:List UInt8):Ending:=if !(l.takeWhile isDig).isEmpty&&(l.dropWhile isDig).isEmpty then .returned (.tuple #[.int .i64 (if pn then -(gI 0 (l.takeWhile isDig):Int) else (gI 0 (l.takeWhile isDig):Int)),.bool true]) else .returned (.tuple #[.int .i64 0,.bool false])
theorem Fl(c:UInt8)(r:List UInt8)(h:(c==101||c==69)=true):pu (fC r) (gm r)=.returned (.tuple #[.int .i64 (lx (c::r)).1,.bool (lx (c::r)).2]):=by
 have h1:=CJ (gm r);have h0:lx (c::r)=if jg r then ((if fC r then -(gI 0 (gm r):Int) else (gI 0 (gm r):Int)),true) else (0,false):=by show(if c==101||c==69 then _ else _)=_;rw[if_pos h]
 unfold pu;rw[h1,h0];have h2:jg r=(!(gm r).isEmpty&&bW (gm r)):=rfl;rw[h2];cases hq:(!(gm r).isEmpty&&bW (gm r))
 ·rfl
 have Nv:bW (gm r)=true:=by
  cases ha:bW (gm r)
  ·rw[ha]at hq;simp at hq
  rfl
 have:(gm r).takeWhile isDig=gm r:=by have h3:=List.takeWhile_append_dropWhile (p:=isDig) (l:=gm r);have h4:(gm r).dropWhile isDig=[]:=Ft _ Nv;rw[h4,List.append_nil]at h3;exact h3
 rw[this];rfl
theorem nC(d:List UInt8)(k:Nat)(h:k<d.length):d.take (k+1)=d.take k++[d[k]]:=List.take_succ_eq_append_getElem h
theorem GU(c:UInt8)(r:List UInt8)(w:World)(h:(c==101||c==69)=false)(hl:r.length<=90000):Calls prog 189 #[.string (aj (c::r))] w fun e w'=>e=.returned (.tuple #[.int .i64 0,.bool false])/\Below w.heap.size w w':=by
 have cC:(aj (c::r)).size=r.length+1:=by rw[ag];rfl
 have oO:(aj (c::r)).toList.isEmpty=false:=bM _;have hg:(aj (c::r))[0]'(by omega)=c:=bG c r _;obtain⟨S,hS⟩:∃S,aj (c::r)=S:=⟨_,rfl⟩
 rw[hS]at cC oO ⊢;have dG:(S[0]'(by omega))=c:=by subst hS;exact hg
 have c1:c.toNat≠101:=by intro q;have:c=101:=UInt8.toNat_inj.1 q;subst this;simp at h
 have c2:c.toNat≠69:=by intro q;have:c=69:=UInt8.toNat_inj.1 q;subst this;simp at h
 have d1:((c.toNat:Int) != 101)=true:=by simp;omega
 have d2:((c.toNat:Int) != 69)=true:=by simp;omega
 have h0:(0:Int)<S.size:=by omega
 clear hS hg;go_enter func189,ntmps189;go_wp2;go_ret2;exact⟨rfl,af⟩
theorem pE(w:World):Calls prog 189 #[.string ⟨#[]⟩] w fun e w'=>e=.returned (.tuple #[.int .i64 0,.bool true])/\Below w.heap.size w w':=by go_enter func189,ntmps189;go_wp2;go_ret2;exact⟨rfl,af⟩
theorem Kq(c:UInt8)(r:List UInt8)(w:World)(h:(c==101||c==69)=true)(hl:r.length<=90000):Calls prog 189 #[.string (aj (c::r))] w fun e w'=>e=pu (fC r) (gm r)/\Below w.heap.size w w':=by
 have cC:(aj (c::r)).size=r.length+1:=by rw[ag];rfl
 have oO:(aj (c::r)).toList.isEmpty=false:=bM _;have hg:(aj (c::r))[0]'(by omega)=c:=bG c r _;have eW:=mW c r;obtain⟨S,hS⟩:∃S,aj (c::r)=S:=⟨_,rfl⟩
 rw[hS]at cC oO eW ⊢;have dG:(S[0]'(by omega))=c:=by subst hS;exact hg
 have c1:c.toNat=101\/c.toNat=69:=by
  simp only[Bool.or_eq_true,beq_iff_eq]at h;rcases h with rfl|rfl
  ·left;rfl
  right;rfl
 have h0:(0:Int)<S.size:=by omega
 have h1:(1:Int)<=S.size:=by omega
 clear hS hg h;cases r with
 |nil=>
  have hp:Hid (pu (fC []) (gm [])=.returned (.tuple #[.int .i64 0,.bool false])):=rfl;have he:aj []=⟨#[]⟩:=rfl;rw[he]at eW;have Qb:bl ByteArray.empty=[]:=rfl;rcases c1 with q|q
  all_goals
   go_enter func189,ntmps189;go_wp2_with fail
   go_fit(fk ByteArray.empty _ (by decide));rw[Qb];rintro e w1 ⟨rfl,ai⟩;have XA:=bM [];go_wp2;go_ret2;exact⟨hp.out.symm,ai⟩
 |cons b t=>
  have xo:(aj (b::t)).size=t.length+1:=by rw[ag];rfl
  have ii:(aj (b::t))[0]'(by omega)=b:=bG b t _;have EJ:=mW b t;have iu:t.length<=90000:=by simp at hl;omega
  simp only[List.length_cons]at cC eW hl;obtain⟨V,hV⟩:∃V,aj (b::t)=V:=⟨_,rfl⟩
  have g0:(0:Int)<((aj (b::t)).size:Int):=by omega
  by_cases p1:b=43
  ·subst p1
   have JG:fC (43::t)=false:=rfl;have hL:gm (43::t)=t:=rfl;rw[JG,hL];rw[hV]at xo EJ eW g0;have Rf:(V[0]'(by omega))=43:=by subst hV;exact ii
   have g1:(1:Int)<=V.size:=by omega
   clear hV ii JG hL;rcases c1 with q|q
   all_goals
    go_enter func189,ntmps189;go_wp2_with fail
    go_fit(fk (aj t) _ (by rw[ag];omega));rw[ah];rintro e w1 ⟨rfl,ai⟩;have hD:=aa (show ∀c∈t.takeWhile isDig,isDig c=true from fun c hc=>List.all_eq_true.1 (List.all_takeWhile (p:=isDig) (l:=t)) c hc);have vt:(t.takeWhile isDig).length<=90001:=by have:=az t;omega
    have eT:=aa (show pu false t=if !(t.takeWhile isDig).isEmpty&&(t.dropWhile isDig).isEmpty then .returned (.tuple #[.int .i64 (if false then -(gI 0 (t.takeWhile isDig):Int) else (gI 0 (t.takeWhile isDig):Int)),.bool true]) else .returned (.tuple #[.int .i64 0,.bool false])from rfl);obtain⟨D,oz⟩:∃D,t.takeWhile isDig=D:=⟨_,rfl⟩
    obtain⟨R,JF⟩:∃R,t.dropWhile isDig=R:=⟨_,rfl⟩
    rw[oz,JF]at eT;rw[oz]at hD vt;rw[oz,JF];have m1:=bM D;have m2:=bM R;have sD:(aj D).size=D.length:=ag D;cases hD0:D.isEmpty
    ·cases hR0:R.isEmpty
     ·rw[hD0]at m1
      rw[hR0]at m2;rw[hD0,hR0]at eT;go_wp2;go_ret2;exact⟨eT.out.symm,ai⟩
     rw[hD0]at m1;rw[hR0]at m2;rw[hD0,hR0]at eT;go_wp2;clear m1 m2;go_loop [7,8] (fun x i=>∃k:Nat,k<=D.length/\i=.int .i64 k/\x=.int .i64 (gI 0 (D.take k):Nat)) (fun x i=>D.length-(intOf i).toNat)
     case atStart=>exact⟨0,Nat.zero_le _,rfl,rfl⟩
     case round=>
      obtain⟨k,hk,rfl,rfl⟩:=hrel;have Ek:=pJ (D.take k) 0 (by omega);by_cases bm:k<D.length
      ·obtain⟨u,hu⟩:∃u,D[k]'bm=u:=⟨_,rfl⟩
       have jJ:u∈D:=by rw[<-hu];exact List.getElem_mem _
       have jM:=(bZ u).1 (hD.out u jJ);have cb:=aa (show gI 0 (D.take (k+1))=min (10*gI 0 (D.take k)+(u.toNat-48)) 1000000 by rw[nC D k bm,mQ,hu]);have Cc:k<(aj D).size:=by omega
       have pT:(aj D)[k]=u:=by
        have q:=bH (aj D) k Cc;rw[<-q,<-hu];simp only[ah]
        try rfl
       obtain⟨q,hq⟩:∃q:Nat,u.toNat=q:=⟨_,rfl⟩
       have ii:((aj D)[k]).toNat=q:=by rw[pT,hq]
       rw[hq]at jM cb;have q1:48<=q:=by omega
       have q2:q<=57:=by omega
       have bF:(k:Int)<(aj D).size:=by omega
       obtain⟨x,vb⟩:∃x,gI 0 (D.take k)=x:=⟨_,rfl⟩
       rw[vb]at cb Ek ⊢;clear pT hq jM vb jJ hu;by_cases eX:10*x+(q-48)<=1000000
       ·rw[Nat.min_eq_left eX]at cb
        have b1:10*(x:Int)+((q:Int)-48)<=1000000:=by omega
        have b2:¬(1000000:Int)<10*(x:Int)+((q:Int)-48):=by omega
        go_wp2
        all_goals
         refine⟨⟨k+1,bm,by go_num,?_⟩,?_⟩
         ·rw[cb.out];exact congrArg (Value.int IntKind.i64) (by omega)
         simp[intOf];omega
       rw[Nat.min_eq_right (by omega)]at cb;have b1:¬10*(x:Int)+((q:Int)-48)<=1000000:=by omega
       have b2:(1000000:Int)<10*(x:Int)+((q:Int)-48):=by omega
       go_wp2
       all_goals
        refine⟨⟨k+1,bm,by go_num,?_⟩,?_⟩
        ·rw[cb.out];exact congrArg (Value.int IntKind.i64) (by omega)
        simp[intOf];omega
      have ox:k=D.length:=by omega
      subst ox;have ms:D.take D.length=D:=List.take_of_length_le (Nat.le_refl _);rw[ms]at Ek ⊢;obtain⟨x,vb⟩:∃x,gI 0 D=x:=⟨_,rfl⟩
      rw[vb]at eT Ek ⊢;clear vb ms;go_wp2;go_ret2;refine⟨?_,ai⟩;rw[eT.out];rfl
    rw[hD0]at m1;rw[hD0]at eT;go_wp2;go_ret2;exact⟨eT.out.symm,ai⟩
  by_cases p2:b=45
  ·subst p2
   have JG:fC (45::t)=true:=rfl;have hL:gm (45::t)=t:=rfl;rw[JG,hL];rw[hV]at xo EJ eW g0;have Rf:(V[0]'(by omega))=45:=by subst hV;exact ii
   have g1:(1:Int)<=V.size:=by omega
   clear hV ii JG hL;rcases c1 with q|q
   all_goals
    go_enter func189,ntmps189;go_wp2_with fail
    go_fit(fk (aj t) _ (by rw[ag];omega));rw[ah];rintro e w1 ⟨rfl,ai⟩;have hD:=aa (show ∀c∈t.takeWhile isDig,isDig c=true from fun c hc=>List.all_eq_true.1 (List.all_takeWhile (p:=isDig) (l:=t)) c hc);have vt:(t.takeWhile isDig).length<=90001:=by have:=az t;omega
    have eT:=aa (show pu true t=if !(t.takeWhile isDig).isEmpty&&(t.dropWhile isDig).isEmpty then .returned (.tuple #[.int .i64 (if true then -(gI 0 (t.takeWhile isDig):Int) else (gI 0 (t.takeWhile isDig):Int)),.bool true]) else .returned (.tuple #[.int .i64 0,.bool false])from rfl);obtain⟨D,oz⟩:∃D,t.takeWhile isDig=D:=⟨_,rfl⟩
    obtain⟨R,JF⟩:∃R,t.dropWhile isDig=R:=⟨_,rfl⟩
    rw[oz,JF]at eT;rw[oz]at hD vt;rw[oz,JF];have m1:=bM D;have m2:=bM R;have sD:(aj D).size=D.length:=ag D;cases hD0:D.isEmpty
    ·cases hR0:R.isEmpty
     ·rw[hD0]at m1
      rw[hR0]at m2;rw[hD0,hR0]at eT;go_wp2;go_ret2;exact⟨eT.out.symm,ai⟩
     rw[hD0]at m1;rw[hR0]at m2;rw[hD0,hR0]at eT;go_wp2;clear m1 m2;go_loop [7,8] (fun x i=>∃k:Nat,k<=D.length/\i=.int .i64 k/\x=.int .i64 (gI 0 (D.take k):Nat)) (fun x i=>D.length-(intOf i).toNat)
     case atStart=>exact⟨0,Nat.zero_le _,rfl,rfl⟩
     case round=>
      obtain⟨k,hk,rfl,rfl⟩:=hrel;have Ek:=pJ (D.take k) 0 (by omega);by_cases bm:k<D.length
      ·obtain⟨u,hu⟩:∃u,D[k]'bm=u:=⟨_,rfl⟩
       have jJ:u∈D:=by rw[<-hu];exact List.getElem_mem _
       have jM:=(bZ u).1 (hD.out u jJ);have cb:=aa (show gI 0 (D.take (k+1))=min (10*gI 0 (D.take k)+(u.toNat-48)) 1000000 by rw[nC D k bm,mQ,hu]);have Cc:k<(aj D).size:=by omega
       have pT:(aj D)[k]=u:=by
        have q:=bH (aj D) k Cc;rw[<-q,<-hu];simp only[ah]
        try rfl
       obtain⟨q,hq⟩:∃q:Nat,u.toNat=q:=⟨_,rfl⟩
       have ii:((aj D)[k]).toNat=q:=by rw[pT,hq]
       rw[hq]at jM cb;have q1:48<=q:=by omega
       have q2:q<=57:=by omega
       have bF:(k:Int)<(aj D).size:=by omega
       obtain⟨x,vb⟩:∃x,gI 0 (D.take k)=x:=⟨_,rfl⟩
       rw[vb]at cb Ek ⊢;clear pT hq jM vb jJ hu;by_cases eX:10*x+(q-48)<=1000000
       ·rw[Nat.min_eq_left eX]at cb
        have b1:10*(x:Int)+((q:Int)-48)<=1000000:=by omega
        have b2:¬(1000000:Int)<10*(x:Int)+((q:Int)-48):=by omega
        go_wp2
        all_goals
         refine⟨⟨k+1,bm,by go_num,?_⟩,?_⟩
         ·rw[cb.out];exact congrArg (Value.int IntKind.i64) (by omega)
         simp[intOf];omega
       rw[Nat.min_eq_right (by omega)]at cb;have b1:¬10*(x:Int)+((q:Int)-48)<=1000000:=by omega
       have b2:(1000000:Int)<10*(x:Int)+((q:Int)-48):=by omega
       go_wp2
       all_goals
        refine⟨⟨k+1,bm,by go_num,?_⟩,?_⟩
        ·rw[cb.out];exact congrArg (Value.int IntKind.i64) (by omega)
        simp[intOf];omega
      have ox:k=D.length:=by omega
      subst ox;have ms:D.take D.length=D:=List.take_of_length_le (Nat.le_refl _);rw[ms]at Ek ⊢;obtain⟨x,vb⟩:∃x,gI 0 D=x:=⟨_,rfl⟩
      rw[vb]at eT Ek ⊢;clear vb ms;go_wp2;go_ret2;refine⟨?_,ai⟩;rw[eT.out];simp
    rw[hD0]at m1;rw[hD0]at eT;go_wp2;go_ret2;exact⟨eT.out.symm,ai⟩
  have n1:b.toNat≠43:=fun q=>p1 (UInt8.toNat_inj.1 q);have n2:b.toNat≠45:=fun q=>p2 (UInt8.toNat_inj.1 q);have jN:dV 43 (b::t)=false:=by simp[dV,p1]
  have mc:dV 45 (b::t)=false:=by simp[dV,p2]
  have JG:fC (b::t)=false:=by unfold fC;rw[jN,mc];rfl
  have hL:gm (b::t)=b::t:=by unfold gm;rw[jN,jZ mc];rfl
  rw[JG,hL];have m1:((b.toNat:Int)==43)=false:=by simp;omega
  have m2:((b.toNat:Int)==45)=false:=by simp;omega
  have SM:(b::t).length<=90001:=by simp;omega
  obtain⟨l,qJ⟩:∃l,b::t=l:=⟨_,rfl⟩
  rw[qJ]at xo eW g0 SM ⊢;have Rf:((aj l)[0]'(by omega))=b:=by subst qJ;exact ii
  clear hV ii qJ JG hL EJ p1 p2 jN mc n1 n2;rcases c1 with q|q
  all_goals
   go_enter func189,ntmps189;go_wp2_with fail
   go_fit(fk (aj l) _ (by rw[ag];omega));rw[ah];rintro e w1 ⟨rfl,ai⟩;have hD:=aa (show ∀c∈l.takeWhile isDig,isDig c=true from fun c hc=>List.all_eq_true.1 (List.all_takeWhile (p:=isDig) (l:=l)) c hc);have vt:(l.takeWhile isDig).length<=90001:=by have:=az l;omega
   have eT:=aa (show pu false l=if !(l.takeWhile isDig).isEmpty&&(l.dropWhile isDig).isEmpty then .returned (.tuple #[.int .i64 (if false then -(gI 0 (l.takeWhile isDig):Int) else (gI 0 (l.takeWhile isDig):Int)),.bool true]) else .returned (.tuple #[.int .i64 0,.bool false])from rfl);obtain⟨D,oz⟩:∃D,l.takeWhile isDig=D:=⟨_,rfl⟩
   obtain⟨R,JF⟩:∃R,l.dropWhile isDig=R:=⟨_,rfl⟩
   rw[oz,JF]at eT;rw[oz]at hD vt;rw[oz,JF];have m1:=bM D;have m2:=bM R;have sD:(aj D).size=D.length:=ag D;cases hD0:D.isEmpty
   ·cases hR0:R.isEmpty
    ·rw[hD0]at m1
     rw[hR0]at m2;rw[hD0,hR0]at eT;go_wp2;go_ret2;exact⟨eT.out.symm,ai⟩
    rw[hD0]at m1;rw[hR0]at m2;rw[hD0,hR0]at eT;go_wp2;clear m1 m2;go_loop [7,8] (fun x i=>∃k:Nat,k<=D.length/\i=.int .i64 k/\x=.int .i64 (gI 0 (D.take k):Nat)) (fun x i=>D.length-(intOf i).toNat)
    case atStart=>exact⟨0,Nat.zero_le _,rfl,rfl⟩
    case round=>
     obtain⟨k,hk,rfl,rfl⟩:=hrel;have Ek:=pJ (D.take k) 0 (by omega);by_cases bm:k<D.length
     ·obtain⟨u,hu⟩:∃u,D[k]'bm=u:=⟨_,rfl⟩
      have jJ:u∈D:=by rw[<-hu];exact List.getElem_mem _
      have jM:=(bZ u).1 (hD.out u jJ);have cb:=aa (show gI 0 (D.take (k+1))=min (10*gI 0 (D.take k)+(u.toNat-48)) 1000000 by rw[nC D k bm,mQ,hu]);have Cc:k<(aj D).size:=by omega
      have pT:(aj D)[k]=u:=by
       have q:=bH (aj D) k Cc;rw[<-q,<-hu];simp only[ah]
       try rfl
      obtain⟨q,hq⟩:∃q:Nat,u.toNat=q:=⟨_,rfl⟩
      have ii:((aj D)[k]).toNat=q:=by rw[pT,hq]
      rw[hq]at jM cb;have q1:48<=q:=by omega
      have q2:q<=57:=by omega
      have bF:(k:Int)<(aj D).size:=by omega
      obtain⟨x,vb⟩:∃x,gI 0 (D.take k)=x:=⟨_,rfl⟩
      rw[vb]at cb Ek ⊢;clear pT hq jM vb jJ hu;by_cases eX:10*x+(q-48)<=1000000
      ·rw[Nat.min_eq_left eX]at cb
       have b1:10*(x:Int)+((q:Int)-48)<=1000000:=by omega
       have b2:¬(1000000:Int)<10*(x:Int)+((q:Int)-48):=by omega
       go_wp2
       all_goals
        refine⟨⟨k+1,bm,by go_num,?_⟩,?_⟩
        ·rw[cb.out];exact congrArg (Value.int IntKind.i64) (by omega)
        simp[intOf];omega
      rw[Nat.min_eq_right (by omega)]at cb;have b1:¬10*(x:Int)+((q:Int)-48)<=1000000:=by omega
      have b2:(1000000:Int)<10*(x:Int)+((q:Int)-48):=by omega
      go_wp2
      all_goals
       refine⟨⟨k+1,bm,by go_num,?_⟩,?_⟩
       ·rw[cb.out];exact congrArg (Value.int IntKind.i64) (by omega)
       simp[intOf];omega
     have ox:k=D.length:=by omega
     subst ox;have ms:D.take D.length=D:=List.take_of_length_le (Nat.le_refl _);rw[ms]at Ek ⊢;obtain⟨x,vb⟩:∃x,gI 0 D=x:=⟨_,rfl⟩
     rw[vb]at eT Ek ⊢;clear vb ms;go_wp2;go_ret2;refine⟨?_,ai⟩;rw[eT.out];rfl
   rw[hD0]at m1;rw[hD0]at eT;go_wp2;go_ret2;exact⟨eT.out.symm,ai⟩
