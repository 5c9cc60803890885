import Derived.Test.YtcnfchblfcfimaaGreatDoorZh01
set_option linter.all false
set_option maxHeartbeats 1000000
namespace Go.Proofs.YtcnfchblfcfimaaGreatDoor
open Proofs.Tryz RowKit
def tO(acc:Nat):List UInt8->Nat
 | []=>acc
 |c::l=>if acc<=912 then tO (acc*10+(c.toNat-48)) l else acc
theorem yE(acc:Nat)(l:List UInt8)(h:¬acc<=912):tO acc l=acc:=by cases l<;>simp[tO,h]
def fU(pn:Bool)(l:List UInt8):Int:=if pn then -(tO 0 l:Int) else tO 0 l
theorem Dk:∀(l:List UInt8) (acc:Nat),bW l=true->acc<=9129->tO acc l<=9129
 | [],acc,_,h=>h
 |c::l,acc,hd,h=>by
  simp only[bW,List.all_cons,Bool.and_eq_true]at hd;have:=(bZ c).1 hd.1;unfold tO
  split
  ·exact Dk l _ hd.2 (by omega)
  exact h
theorem kn(n:Bool)(wh fr:ByteArray)(pn:Bool)(pw:ByteArray)(w:World)(hs:pw.size<=100000)(hd:bW (bl pw)=true):Calls prog 187 #[.agg #[.bool n,.string wh,.string fr,.bool pn,.string pw]] w fun e w'=>e=.returned (.int .i64 (fU pn (bl pw)))/\Below w.heap.size w w':=by
 have hd:=aa hd;go_enter func187,ntmps187;go_wp2;go_loop [3,4] (fun p i=>∃k acc:Nat,k<=pw.size/\i=.int .i64 k/\p=.int .i64 acc/\acc<=9129/\Hid (tO 0 (bl pw)=tO acc ((bl pw).drop k))) (fun _ i=>pw.size-(intOf i).toNat)
 case atStart=>exact⟨0,0,Nat.zero_le _,rfl,rfl,by omega,rfl⟩
 case round=>
  obtain⟨k,acc,hk,rfl,rfl,EX,hp⟩:=hrel;by_cases bm:k<pw.size
  ·have hdrop:(bl pw).drop k=pw[k]::(bl pw).drop (k+1):=by
    rw[List.drop_eq_getElem_cons (by rw[bl_length];exact bm),bH pw k bm]
   have eU:=kN pw hd.out k bm;by_cases hf:acc<=912
   ·have BY:Hid (tO 0 (bl pw)=tO (acc*10+(pw[k].toNat-48)) ((bl pw).drop (k+1))):=by
     show _=_;rw[hp.out,hdrop];simp[tO,hf]
    clear hdrop;go_wp2
    go_round
    case rel=>exact⟨k+1,acc*10+(pw[k].toNat-48),by omega,by go_num,by
     show Value.int _ _=Value.int _ _
     congr 1
     omega,by omega,BY.out⟩
    case measure=>simp[intOf];omega
   have BY:Hid (tO 0 (bl pw)=acc):=by show _=_;rw[hp.out,yE acc _ hf]
   have XH:decide ((acc:Int)<=912)=false:=decide_eq_false (by omega);clear hdrop;cases pn
   all_goals
    go_wp2;go_ret;refine⟨il ?_,af.alloc (Nat.le_refl _) _⟩;simp[fU,BY.out]
  have BY:Hid (tO 0 (bl pw)=acc):=by show _=_;rw[hp.out,List.drop_of_length_le (by rw[bl_length];omega)];rfl
  cases pn
  all_goals
   go_wp2;go_ret;refine⟨il ?_,af.alloc (Nat.le_refl _) _⟩;simp[fU,BY.out]
def fX(p:List Nat)(o:Nat)(d:List Nat):List Nat:=p.take o++d++p.drop (o+d.length)
theorem gQ(p:List Nat)(o:Nat)(d:List Nat)(h:o+d.length<=p.length):(fX p o d).length=p.length:=by unfold fX;simp;omega
theorem AL(p:List Nat)(o k:Nat)(d:List Nat)(hk:k<d.length)(h:o+d.length<=p.length):(fX p o (d.take k)).set (o+k) d[k]=fX p o (d.take (k+1)):=by
 have hl:(p.take o++d.take k).length=o+k:=by simp;omega
 unfold fX;rw[List.set_append_right _ _ (by rw[hl];exact Nat.le_refl _),hl,Nat.sub_self];have e1:(d.take k).length=k:=by simp;omega
 have e2:(d.take (k+1)).length=k+1:=by simp;omega
 rw[e1,e2,List.drop_eq_getElem_cons (by omega),List.set_cons_zero,List.take_succ_eq_append_getElem hk];simp only[List.append_assoc,List.cons_append,List.nil_append,Nat.add_assoc]
theorem oZ(b o n c:Nat)(T:TypeId)(p:List Nat)(s:ByteArray)(w:World)(hA:jX w b T p)(vM:s.size<=n)(hon:o+n<=p.length)(hd:bW (bl s)=true)(hn:p.length<=100000):Calls prog 185 #[.slice (some ⟨b,o,none⟩) n c,.string s] w fun e w'=>e=.returned (.int .i64 s.size)/\jX w' b T (fX p o (dg s))/\lB b w w':=by
 have hd:=aa hd;have hA:=aa hA;go_enter func185,ntmps185;go_wp2;go_loopw [8] (fun i wr=>∃k:Nat,k<=s.size/\i=.int .i64 k/\Hid (jX wr b T (fX p o ((dg s).take k)))/\Hid (lB b w wr)) (fun i _=>s.size-(intOf i).toNat)
 case atStart=>exact⟨0,Nat.zero_le _,rfl,by show jX _ _ _ _;simpa [fX] using hA.out,lB.refl _ _⟩
 case round=>
  obtain⟨k,hk,rfl,Fd,hO⟩:=hrel;by_cases bm:k<s.size
  ·have eU:=kN s hd.out k bm
   have hl:(fX p o ((dg s).take k)).length=p.length:=gQ _ _ _ (by simp[gF];omega);have Bb:=Fd.out.cell (o+k) (by omega);have Wu:=Fd.out.frozen (o+k);have cb:=aa (AL p o k (dg s) (by rw[gF];exact bm) (by rw[gF];omega));have Wz:=aa (MB s k bm);go_wp2;refine⟨⟨k+1,by omega,by go_num,?_,?_⟩,by simp[intOf];omega⟩
   ·show jX _ _ _ _
    rw[<-cb.out,Wz.out];have:=Fd.out.set (o+k) (s[k].toNat-48);rw[show(((s[k].toNat-48:Nat):Int))=(s[k].toNat:Int)-48 by omega]at this;exact this
   exact hO.out.set _ _
  have ms:(dg s).take k=dg s:=List.take_of_length_le (by rw[gF];omega);rw[ms]at Fd;clear ms;go_wp2;go_ret;exact⟨rfl,Fd.out,hO.out⟩
theorem uU(v:Value)(s:ByteArray)(w:World)(hs:s.size=0):Calls prog 185 #[v,.string s] w fun e w'=>e=.returned (.int .i64 0)/\w'=w:=by
 have eK:(s.size:Int)=0:=by omega
 go_enter func185,ntmps185;go_wp2;refine wp_loop_rounds 1 ?_;rw[rounds_succ];go_wp2;go_ret;exact⟨rfl,rfl⟩
