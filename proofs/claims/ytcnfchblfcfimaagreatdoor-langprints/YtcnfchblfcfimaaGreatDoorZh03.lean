import Derived.Test.YtcnfchblfcfimaaGreatDoorZh00
import Derived.Lib.AppendStr
set_option linter.all false
set_option maxHeartbeats 400000
namespace Go.Proofs.YtcnfchblfcfimaaGreatDoor
open Proofs.Tryz RowKit
def jS(l:List UInt8):List Value:=l.map fun c=>Value.int .u8 (c.toNat:Int)
theorem jv(l:List UInt8):(jS l).length=l.length:=by simp[jS]
theorem eO(a b:List UInt8):jS (a++b)=jS a++jS b:=by simp[jS]
theorem mE(s:ByteArray):Lib.strCells s=jS (bl s):=rfl
def dj(W:World)(B:Nat)(v:Value)(l:List UInt8):Prop:=W.ownsRow B 5 1 v l.length (jS l)
theorem fo(W:World)(B:Nat):dj W B (.slice none 0 0) []:=World.ownsRow_nil _ _ _ _
theorem dj.alloc{W:World}{B:Nat}{v:Value}{l:List UInt8}(h:dj W B v l)(o:Obj):dj (W.alloc o) B v l:=World.ownsRow.alloc h o
theorem dj.row{W:World}{B:Nat}{v:Value}{l:List UInt8}(h:dj W B v l):∀k,v.ownBlock=some k->B<=k:=by
 obtain⟨_,h⟩:=h;rcases h with⟨rfl,_⟩|⟨g,cap,cur,rfl,hg,_⟩
 ·intro k hk;cases hk
 intro k hk;cases hk;exact hg
theorem ou:(Tryz.prog.info? 5).map (fun i=>(i.zero,i.size,i.bytes))=some (some (.int .u8 0),1,1):=by kernel_rfl
section
variable {w : World} {ops : Array Oper} {rest : List Oper} {o : Oper} {a : Act} {Q : Exit → Act → World → Prop}
theorem bP(hgd:o.guard=none)(s x:Operand)(ho:o.op=.call {callee:=.builtin .append,args:=#[s,x],argTypes:=#[94,94]})
  (B:Nat) (v:Value) (l:List UInt8) (hs:a.eval s=v) (bz:dj w B v l) (ad:Addr) (m c:Nat) (news:List UInt8) (hx:a.eval x=.slice (some ad) m c) (hm:news.length=m)
  (hnews:∀j u,(jS news)[j]?=some u->w.cell? (ad.add j)=some u) (hl:l.length+m<=100000) (hB:B<=w.heap.size)
  (h:∀v' w',Hid (dj w' B v' (l++news))->Hid (Below B w w')->w.heap.size<=w'.heap.size->wpList prog ops Q rest (a.put o.dst v') w'):wpList prog ops Q (o::rest) a w:=by
 obtain⟨i0,hi,fY,gD,eR⟩:=info_parts ou;refine wpList_append_own w hgd s x 94 ho B 5 i0 (.int .u8 0) 1 1 Tryz.underlying94 hi fY gD eR rfl (by decide) v l.length (jS l) hs bz ad m c (jS news) hx (by rw[jv,hm];simp) hnews ?_ ?_ ?_ hB ?_
 ·intro u hu
  simp only[jS,List.mem_map]at hu;obtain⟨c,_,rfl⟩:=hu;rfl
 ·unfold maxLen;omega
 ·omega
 intro v' w' h1 h2 _;refine h v' w' ?_ ?_ h2.size
 ·show dj _ _ _ _
  unfold dj;rw[eO,List.length_append,hm];exact h1
 exact(Below.refl B w).grown h2 hB bz.row
theorem fP(hgd:o.guard=none)(sl x:Operand)(ho:o.op=.call {callee:=.builtin .append,args:=#[sl,x],argTypes:=#[94,9]})
  (B:Nat) (v:Value) (l:List UInt8) (hs:a.eval sl=v) (bz:dj w B v l) (s:ByteArray) (hx:a.eval x=.string s) (hl:l.length+s.size<=100000) (hB:B<=w.heap.size)
  (h:∀v' w',Hid (dj w' B v' (l++bl s))->Hid (Below B w w')->w.heap.size<=w'.heap.size->wpList prog ops Q rest (a.put o.dst v') w'):wpList prog ops Q (o::rest) a w:=by
 obtain⟨i0,hi,fY,gD,eR⟩:=info_parts ou;refine Lib.wpList_append_own_string w hgd sl x 94 9 ho B 5 i0 Tryz.underlying94 Tryz.underlying9 hi fY gD eR v l.length (jS l) hs bz s hx (by unfold maxLen;omega) (by omega) hB ?_;intro v' w' h1 h2 _;refine h v' w' ?_ ?_ h2.size
 ·show dj _ _ _ _
  unfold dj;rw[eO,List.length_append,bl_length,<-mE];exact h1
 exact(Below.refl B w).grown h2 hB bz.row
end
theorem cM(w:World)(c:UInt8)(T:TypeId):∀j u,(jS [c])[j]?=some u->(w.alloc (.cells #[.int .u8 (c.toNat:Int)] T)).cell? ((⟨w.heap.size,0,none⟩:Addr).add j)=some u:=cell_one_new _ _ _
theorem fy(B:Nat)(v:Value)(l:List UInt8)(k:Int)(w:World)(bz:dj w B v l)(hB:B<=w.heap.size)(hl:l.length<=1000)(hk:k<=1000):Calls prog 161 #[v,.int .i64 k] w fun e w'=>∃v',e=.returned v'/\Hid (dj w' B v' (l++List.replicate k.toNat 48))/\Hid (Below B w w'):=by
 have bz:=aa bz;go_enter func161,ntmps161;go_wp2;go_loopw [0,6] (fun b i wr=>∃j:Nat,j<=k.toNat/\i=.int .i64 j/\Hid (dj wr B b (l++List.replicate j 48))/\Hid (Below B w wr)/\B<=wr.heap.size) (fun _ i _=>k.toNat-(intOf i).toNat)
 case atStart=>exact⟨0,Nat.zero_le _,rfl,by show dj _ _ _ _;simpa using bz.out,af,hB⟩
 case round=>
  obtain⟨j,hj,rfl,ho,hb,Xb⟩:=hrel;by_cases bm:(j:Int)<k
  ·have hn:=aa (cM wr 48 5)
   go_wp2_with(at_builtin;refine bP rfl _ _ rfl B _ (l++List.replicate j 48) rfl (ho.out.alloc _) ⟨wr.heap.size,0,none⟩ 1 1 [48] rfl rfl hn.out (by simp;omega) (by simp;omega) ?_;intro v' w' h1 h2 h3)
   refine⟨⟨j+1,by omega,by go_num,?_,?_,?_⟩,by simp[intOf];omega⟩
   ·show dj _ _ _ _
    rw[List.replicate_succ',<-List.append_assoc];exact h1.out
   ·exact(hb.out.alloc Xb _).trans h2.out
   simp at h3;omega
  go_wp2;go_ret;have e:j=k.toNat:=by omega
  subst e;exact⟨_,rfl,ho.out,hb.out⟩
theorem pN(w:World)(c d:UInt8)(T:TypeId):∀j u,(jS [c,d])[j]?=some u->(w.alloc (.cells #[.int .u8 (c.toNat:Int),.int .u8 (d.toNat:Int)] T)).cell? ((⟨w.heap.size,0,none⟩:Addr).add j)=some u:=cell_two_new _ _ _ _
def dB(l:List UInt8)(bh:Nat):List UInt8 :=
 if l.length<=bh then 48::46::(List.replicate (bh-l.length) 48++l) else l.take (l.length-bh)++46::l.drop (l.length-bh)
theorem nZ(B:Nat)(v:Value)(l:List UInt8)(s:ByteArray)(bh:Nat)(w:World)(bz:dj w B v l)(hB:B<=w.heap.size)(hl:l.length<=100)(hs:s.size<=bh)(Nt:bh<=100):Calls prog 162 #[v,.string s,.int .i64 bh] w fun e w'=>∃v',e=.returned v'/\Hid (dj w' B v' (l++dB (bl s) bh))/\Hid (Below B w w'):=by
 have bz:=aa bz;have hn:=aa (pN w 48 46 5);have eA:=aa (show l++dB (bl s) bh=l++[48,46]++List.replicate (bh-s.size) 48++bl s by unfold dB;rw[bl_length,if_pos hs];simp)
 have hc:((s.size:Int)-(bh:Int)<=0):=by omega
 go_enter func162,ntmps162;go_wp2_with(at_builtin;refine bP rfl (.tmp 14) (.tmp 15) rfl B _ l rfl (bz.out.alloc _) ⟨w.heap.size,0,none⟩ 2 2 [48,46] rfl rfl hn.out (by omega) (by simp;omega) ?_;intro v1 w1 h1 h2 h3)
 simp at h3;go_wp2_with fail
 have VS:-((s.size:Int)-(bh:Int))=((bh-s.size:Nat):Int):=by omega
 refine(fy B v1 (l++[48,46]) _ w1 h1.out (by omega) (by simp;omega) ?_).mono ?_
 ·omega
 rintro e w2 ⟨v2,rfl,h4,h5⟩;have h6:B<=w2.heap.size:=by have:=h5.out.size;omega
 have hk:((-((s.size:Int)-(bh:Int))).toNat)=bh-s.size:=by omega
 go_wp2_with(at_builtin;refine fP rfl (.tmp 21) (.tmp 22) rfl B _ _ rfl h4.out s rfl (by simp;omega) h6 ?_;intro v3 w3 h7 h8 h9)
 go_ret;refine⟨_,rfl,?_,?_⟩
 ·show dj _ _ _ _
  rw[eA.out];have:=h7.out;rw[hk]at this;exact this
 exact(((Below.refl B w).alloc hB _).trans h2.out).trans (h5.out.trans h8.out)
