import Derived.Test.YtcnfchblfcfimaaGreatDoorZh11
import Derived.Test.YtcnfchblfcfimaaGreatDoorZh15
import Derived.Shelf.Strconv.AppendIntPublic10
import Derived.Test.YtcnfchblfcfimaaGreatDoorRfShelf
import Derived.Lib.AppendIntMem
import Derived.Lib.ItoaLen
import Derived.Test.YtcnfchblfcfimaaGreatDoorZh16
set_option linter.all false
set_option maxHeartbeats 2000000
set_option maxRecDepth 1000000
namespace Go.Proofs.YtcnfchblfcfimaaGreatDoor
open Proofs.Tryz RowKit
theorem cJ{W:World}{B:Nat}{v:Value}{l:List UInt8}(h:dj W B v l):(convert 94 9 v).run prog W=.ok (.string (aj l)) W:=by
 have hc:=h;obtain⟨h0,h⟩:=h;rcases h with⟨rfl,hn⟩|⟨g,cap,cur,rfl,hg,hh,h1,h2,h3,h4⟩
 ·have:l=[]:=List.eq_nil_of_length_eq_zero hn
  subst this;exact run_convert_bytes_nil W 94 5 Tryz.underlying94 Tryz.underlying5 0 0 9 Tryz.underlying9
 refine run_convert_bytes_back W 94 9 5 ⟨g,0,none⟩ cap l Tryz.underlying94 Tryz.underlying5 Tryz.underlying9 (fun j hj=>?_);have hcells:∀j u,(jS l)[j]?=some u->W.cell? ((⟨g,0,none⟩:Addr).add j)=some u:=World.ownsRow.cells hc (g:=g) rfl;exact hcells j _ (by simp[jS,List.getElem?_eq_getElem hj])
def CO(n:Bool):List UInt8:=if n then [45] else []
theorem oa(B:Nat)(v:Value)(l:List UInt8)(s:ByteArray)(bh:Nat)(w:World)(bz:dj w B v l)(hB:B<=w.heap.size)(hl:l.length<=100)(hs:bh<s.size)(ll:s.size<=100):Calls prog 162 #[v,.string s,.int .i64 bh] w fun e w'=>∃v',e=.returned v'/\Hid (dj w' B v' (l++dB (bl s) bh))/\Hid (Below B w w'):=by
 have bz:=aa bz;obtain⟨k,hk⟩:∃k:Nat,s.size=bh+k:=⟨s.size-bh,by omega⟩
 have eA:=aa (show l++dB (bl s) bh=l++bl (s.extract 0 k)++[46]++bl (s.extract k s.size)by unfold dB;rw[bl_length,if_neg (by omega),bd,aH,ah,ah,show s.size-bh=k by omega];simp)
 have dx:=aa (show(s.extract 0 k).size=k by rw[aH,ag];simp[bl_length];omega);have gT:=aa (show(s.extract k s.size).size=bh by rw[bd,ag];simp[bl_length];omega);have hx1b:=aa (show(bl (s.extract 0 k)).length=k by rw[bl_length];exact dx.out);have bF:(s.size:Int)-(bh:Int)=(k:Int):=by omega
 have tS:=aa hk;clear hk;have XE:(0:Int)<(k:Int):=by have:=tS.out;omega
 have hc:¬((k:Int)<=0):=by omega
 have aE:(k:Int)<=s.size:=by have:=tS.out;omega
 go_enter func162,ntmps162;go_wp2_with(first|(at_builtin;refine fP rfl (.tmp 24) (.tmp 27) rfl B _ l rfl bz.out (s.extract 0 k) rfl (by rw[dx.out];omega) hB ?_;intro v1 w1 h1 h2 h3;have cm:=aa (cM w1 46 5);have bO:B<=w1.heap.size:=(by omega))|(at_builtin;refine bP rfl (.tmp 29) (.tmp 30) rfl B _ _ rfl (h1.out.alloc _) ⟨w1.heap.size,0,none⟩ 1 1 [46] rfl rfl cm.out (by rw[List.length_append,hx1b.out];omega) (by simp;omega) ?_;intro v2 w2 h4 h5 h6;simp at h6;have jR:B<=w2.heap.size:=(by omega))|(at_builtin;refine fP rfl (.tmp 32) (.tmp 35) rfl B _ _ rfl h4.out (s.extract k s.size) rfl (by rw[gT.out,List.length_append,List.length_append,hx1b.out,List.length_singleton];omega) jR ?_;intro v3 w3 h7 h8 h9))
 go_ret;refine⟨_,rfl,?_,?_⟩
 ·show dj _ _ _ _
  rw[eA.out];exact h7.out
 exact(((((Below.refl B w).trans h2.out).alloc bO _).trans h5.out).trans h8.out)
theorem iC(B:Nat)(v:Value)(l:List UInt8)(s:ByteArray)(bh:Nat)(w:World)(bz:dj w B v l)(hB:B<=w.heap.size)(hl:l.length<=100)(ll:s.size<=100)(Nt:bh<=100):Calls prog 162 #[v,.string s,.int .i64 bh] w fun e w'=>∃v',e=.returned v'/\Hid (dj w' B v' (l++dB (bl s) bh))/\Hid (Below B w w'):=by
 by_cases h:s.size<=bh
 ·exact nZ B v l s bh w bz hB hl h Nt
 exact oa B v l s bh w bz hB hl (by omega) ll
section
open Go.Shelf Go.RowKit
abbrev lk (B : Nat) (w : World) : Prop := Lib.TabBelow prog B w "internal/strconv.uint64pow10" .u64 Lib.pow10Tab
theorem lM(B:Nat)(v:Value)(l:List UInt8)(n:Int)(w:World)(bz:dj w B v l)(hB:B<=w.heap.size)(hl:l.length<=1000)(h0:-100000<=n)(h1:n<=100000)(ht:lk B w):Calls prog 198 #[v,.int .i64 n,.int .i64 10] w fun e w'=>∃v',e=.returned v'/\Hid (dj w' B v' (l++Lib.itoa n))/\Hid (Below B w w'):=by refine(Any.strconv_AppendInt_10 laysAI B l.length n (by omega) (by omega) v (jS l) w bz hB (by omega) ht).mono ?_;rintro e w' ⟨v',rfl,h2,h3,_⟩;refine⟨v',rfl,?_,h3⟩;show dj _ _ _ _;unfold dj;rw[eO,List.length_append];exact h2
end
theorem nY(B:Nat)(v:Value)(l:List UInt8)(s:ByteArray)(p:Int)(w:World)(bz:dj w B v l)(hB:B<=w.heap.size)(hl:l.length<=100)(hs:1<s.size)(eK:s.size<=100)(hp0:-100000<=p)(AR:p<=100000)(ht:lk B w):Calls prog 163 #[v,.string s,.int .i64 p] w fun e w'=>∃v',e=.returned v'/\Hid (dj w' B v' (l++dd (bl s) (Lib.itoa p)))/\Hid (Below B w w'):=by
 have bz:=aa bz;have ht:=aa ht;have hn:=aa (cM w s[0] 5);have Xx:(1:Int)<s.size:=by omega
 have eA:=aa (show l++dd (bl s) (Lib.itoa p)=l++[s[0]]++[46]++bl (s.extract 1 s.size)++[101]++Lib.itoa p by
  unfold dd;rw[bl_length,if_pos hs,bd,ah];have e:(bl s).take 1=[s[0]]:=by rw[List.take_one,dQ s (by omega)];rfl
  rw[e];simp)
 have gT:=aa (show(s.extract 1 s.size).size=s.size-1 by rw[bd,ag];simp[bl_length]);have hx2b:=aa (show(bl (s.extract 1 s.size)).length=s.size-1 by rw[bl_length];exact gT.out);go_enter func163,ntmps163;go_wp2_with(first|(at_builtin;refine bP rfl (.tmp 7) (.tmp 10) rfl B _ l rfl (bz.out.alloc _) ⟨w.heap.size,0,none⟩ 1 1 [s[0]] rfl rfl hn.out (by omega) (by simp;omega) ?_;intro v1 w1 h1 h2 h3;simp at h3;have cm:=aa (cM w1 46 5);have bO:B<=w1.heap.size:=(by omega))|(at_builtin;refine bP rfl (.tmp 15) (.tmp 16) rfl B _ _ rfl (h1.out.alloc _) ⟨w1.heap.size,0,none⟩ 1 1 [46] rfl rfl cm.out (by simp;omega) (by simp;omega) ?_;intro v2 w2 h4 h5 h6;simp at h6;have jR:B<=w2.heap.size:=(by omega))|(at_builtin;refine fP rfl (.tmp 18) (.tmp 20) rfl B _ _ rfl h4.out (s.extract 1 s.size) rfl (by rw[gT.out];simp;omega) jR ?_;intro v3 w3 h7 h8 h9;have zn:=aa (cM w3 101 5);have iA:B<=w3.heap.size:=(by omega))|(at_builtin;refine bP rfl (.tmp 22) (.tmp 23) rfl B _ _ rfl (h7.out.alloc _) ⟨w3.heap.size,0,none⟩ 1 1 [101] rfl rfl zn.out (by have:=hx2b.out;simp;omega) (by simp;omega) ?_;intro v4 w4 Ch Mz iK;simp at iK;have jQ:B<=w4.heap.size:=(by omega)))
 go_wp2_with fail
 have aO:=aa (((((((Below.refl B w).alloc hB _).trans h2.out).alloc bO _).trans h5.out).trans h8.out).alloc iA _ |>.trans Mz.out);go_fit(lM B v4 _ p w4 Ch.out jQ (by have:=hx2b.out;simp;omega) hp0 AR (ht.out.on aO.out));rintro e w5 ⟨v5,rfl,TM,TK⟩;go_wp2;go_ret;refine⟨_,rfl,?_,?_⟩
 ·show dj _ _ _ _
  rw[eA.out];exact TM.out
 exact(((((((Below.refl B w).alloc hB _).trans h2.out).alloc bO _).trans h5.out).trans h8.out).alloc iA _).trans (Mz.out.trans TK.out)
theorem oR(B:Nat)(v:Value)(l:List UInt8)(s:ByteArray)(p:Int)(w:World)(bz:dj w B v l)(hB:B<=w.heap.size)(hl:l.length<=100)(hs:s.size=1)(hp0:-100000<=p)(AR:p<=100000)(ht:lk B w):Calls prog 163 #[v,.string s,.int .i64 p] w fun e w'=>∃v',e=.returned v'/\Hid (dj w' B v' (l++dd (bl s) (Lib.itoa p)))/\Hid (Below B w w'):=by
 have bz:=aa bz;have ht:=aa ht;have ow:0<s.size:=by omega
 have hn:=aa (cM w s[0] 5);have eA:=aa (show l++dd (bl s) (Lib.itoa p)=l++[s[0]]++[101]++Lib.itoa p by
  unfold dd;rw[bl_length,if_neg (by omega)];have e:(bl s).take 1=[s[0]]:=by rw[List.take_one,dQ s (by omega)];rfl
  rw[e];simp)
 go_enter func163,ntmps163;go_wp2_with(first|(at_builtin;refine bP rfl (.tmp 7) (.tmp 10) rfl B _ l rfl (bz.out.alloc _) ⟨w.heap.size,0,none⟩ 1 1 [s[0]] rfl rfl hn.out (by omega) (by simp;omega) ?_;intro v1 w1 h1 h2 h3;simp at h3;have cm:=aa (cM w1 101 5);have bO:B<=w1.heap.size:=(by omega))|(at_builtin;refine bP rfl (.tmp 22) (.tmp 23) rfl B _ _ rfl (h1.out.alloc _) ⟨w1.heap.size,0,none⟩ 1 1 [101] rfl rfl cm.out (by simp;omega) (by simp;omega) ?_;intro v4 w4 Ch Mz iK;simp at iK;have jQ:B<=w4.heap.size:=(by omega)))
 go_wp2_with fail
 have aO:=aa (((((Below.refl B w).alloc hB _).trans h2.out).alloc bO _).trans Mz.out);go_fit(lM B v4 _ p w4 Ch.out jQ (by simp;omega) hp0 AR (ht.out.on aO.out));rintro e w5 ⟨v5,rfl,TM,TK⟩;go_wp2;go_ret;refine⟨_,rfl,?_,?_⟩
 ·show dj _ _ _ _
  rw[eA.out];exact TM.out
 exact aO.out.trans TK.out
theorem eJ(B:Nat)(v:Value)(l:List UInt8)(s:ByteArray)(p:Int)(w:World)(bz:dj w B v l)(hB:B<=w.heap.size)(hl:l.length<=100)(hs:0<s.size)(eK:s.size<=100)(hp0:-100000<=p)(AR:p<=100000)(ht:lk B w):Calls prog 163 #[v,.string s,.int .i64 p] w fun e w'=>∃v',e=.returned v'/\Hid (dj w' B v' (l++dd (bl s) (Lib.itoa p)))/\Hid (Below B w w'):=by
 by_cases h:1<s.size
 ·exact nY B v l s p w bz hB hl h eK hp0 AR ht
 exact oR B v l s p w bz hB hl (by omega) hp0 AR ht
def fF(n:Bool)(l:List UInt8)(x:Int):List UInt8 :=
 CO n++(if 0<=x/\(l.length:Int)+x<=21 then l++List.replicate x.toNat 48 else if x<0/\-21<=x then dB l (-x).toNat else dd l (Lib.itoa (x+l.length-1)))
theorem lk.up{B B':Nat}{w:World}(h:lk B w)(hb:B<=B'):lk B' w:=fun W hW=>h W (hW.mono hb)
theorem Om(n:Bool)(s:ByteArray)(x:Int)(w:World)(hs:s.size<=100000)(h:eI n s x=false):Calls prog 131 #[.agg #[.bool n,.string s,.int .i64 x]] w fun e w'=>e=.returned (.tuple #[.string ⟨#[]⟩,.int .i64 10])/\Below w.heap.size w w':=by
 have ml:maxLen=2^63-1:=rfl;have hB:=aa (aV w n s x);go_enter func131,ntmps131;go_wp2_with fail
 refine(vC n s _ _ (by omega) h).mono ?_;rintro e w1 ⟨rfl,ai⟩;have hb:=aa (ay ai);clear ai hB;go_wp2;go_ret2;exact⟨rfl,hb.out⟩
theorem mS(s:ByteArray)(x:Int)(w:World)(h:eI false s x=true)(iW:0<=x)(hx21:(s.size:Int)+x<=21)(ht:lk w.heap.size w):Calls prog 131 #[.agg #[.bool false,.string s,.int .i64 x]] w fun e w'=>e=.returned (.tuple #[.string (aj ((bl s++List.replicate x.toNat 48))),.int .i64 0])/\Below w.heap.size w w':=by
 have ml:maxLen=2^63-1:=rfl;have ht:=aa ht;obtain⟨eV,aJ,ie,dx,gT,eU⟩:=bL h;clear eV eU;have hB:=aa (aV w false s x);have lZ:decide ((0:Int)<=x)=true:=decide_eq_true iW;have jL:decide ((s.size:Int)+x<=21)=true:=decide_eq_true hx21;go_enter func131,ntmps131;go_wp2_with fail
 refine(fu false s _ _ (by omega) h).mono ?_;rintro e w1 ⟨rfl,ai⟩;have bO:=aa (hB.out.below ai (by simp));have iI:=bO.out.lt;obtain⟨c0,c1,c2,f0,f1,f2⟩:=bO.out.cells;have hb:=aa (ay ai);clear ai hB;have tQ:Hid (lk w1.heap.size w1):=lk.up (ht.out.on hb.out) hb.out.size;go_wp2_with(first|(at_builtin;refine fP rfl _ _ rfl w1.heap.size _ [] rfl (fo _ _) s rfl (by simp;omega) (by have:=(Below.refl w1.heap.size w1).size;omega) ?_;intro v3 w3 h5 h6 h7;have ar:=aa ((Below.refl w1.heap.size w1).trans h6.out);have iA:=aa (bO.out.below ar.out iI);have iX:=iA.out.lt;obtain⟨k0,k1,k2,m0,m1,m2⟩:=iA.out.cells))
 go_wp2_with fail
 go_fit(fy w1.heap.size v3 ([]++bl s) x w3 h5.out (by have:=ar.out.size;omega) (by simp[bl_length];omega) (by omega));rintro e w4 ⟨v4,rfl,h8,h9⟩;have ln:=cJ h8.out;have xE:=aa (ar.out.trans h9.out);rw[List.nil_append]at ln;go_wp2;go_ret2;exact⟨rfl,hb.out.trans (xE.out.mono hb.out.size)⟩
theorem mR(s:ByteArray)(x:Int)(w:World)(h:eI false s x=true)(iW:x<0)(hx21:-21<=x)(ht:lk w.heap.size w):Calls prog 131 #[.agg #[.bool false,.string s,.int .i64 x]] w fun e w'=>e=.returned (.tuple #[.string (aj ((dB (bl s) (-x).toNat))),.int .i64 0])/\Below w.heap.size w w':=by
 have ml:maxLen=2^63-1:=rfl;have ht:=aa ht;obtain⟨eV,aJ,ie,dx,gT,eU⟩:=bL h;clear eV eU;have hB:=aa (aV w false s x);obtain⟨bh,Nt⟩:∃bh:Nat,x=-(bh:Int):=⟨(-x).toNat,by omega⟩
 subst Nt;have tT:(- -(bh:Int))=(bh:Int):=by omega
 have lZ:decide ((0:Int)<=-(bh:Int))=false:=decide_eq_false (by omega);rw[tT,Int.toNat_natCast];go_enter func131,ntmps131;go_wp2_with fail
 refine(fu false s _ _ (by omega) h).mono ?_;rintro e w1 ⟨rfl,ai⟩;have bO:=aa (hB.out.below ai (by simp));have iI:=bO.out.lt;obtain⟨c0,c1,c2,f0,f1,f2⟩:=bO.out.cells;have hb:=aa (ay ai);clear ai hB;have tQ:Hid (lk w1.heap.size w1):=lk.up (ht.out.on hb.out) hb.out.size;go_wp2_with fail
 go_fit(iC w1.heap.size (.slice none 0 0) [] s bh w1 (fo _ _) (by have:=(Below.refl w1.heap.size w1).size;omega) (by simp) (by omega) (by omega));rintro e w4 ⟨v4,rfl,h8,h9⟩;have ln:=cJ h8.out;have xE:=aa ((Below.refl w1.heap.size w1).trans h9.out);rw[List.nil_append]at ln;go_wp2;go_ret2;exact⟨rfl,hb.out.trans (xE.out.mono hb.out.size)⟩
theorem pK(s:ByteArray)(x:Int)(w:World)(h:eI false s x=true)(iW:0<=x)(hx21:21<(s.size:Int)+x)(ht:lk w.heap.size w):Calls prog 131 #[.agg #[.bool false,.string s,.int .i64 x]] w fun e w'=>e=.returned (.tuple #[.string (aj ((dd (bl s) (Lib.itoa (x+s.size-1))))),.int .i64 0])/\Below w.heap.size w w':=by
 have ml:maxLen=2^63-1:=rfl;have ht:=aa ht;obtain⟨eV,aJ,ie,dx,gT,eU⟩:=bL h;clear eV eU;have hB:=aa (aV w false s x);have lZ:decide ((0:Int)<=x)=true:=decide_eq_true iW;have jL:decide ((s.size:Int)+x<=21)=false:=decide_eq_false (by omega);have ii:decide (x<0)=false:=decide_eq_false (by omega);go_enter func131,ntmps131;go_wp2_with fail
 refine(fu false s _ _ (by omega) h).mono ?_;rintro e w1 ⟨rfl,ai⟩;have bO:=aa (hB.out.below ai (by simp));have iI:=bO.out.lt;obtain⟨c0,c1,c2,f0,f1,f2⟩:=bO.out.cells;have hb:=aa (ay ai);clear ai hB;have tQ:Hid (lk w1.heap.size w1):=lk.up (ht.out.on hb.out) hb.out.size;go_wp2_with fail
 go_fit(eJ w1.heap.size (.slice none 0 0) [] s (x+s.size-1) w1 (fo _ _) (by have:=(Below.refl w1.heap.size w1).size;omega) (by simp) (by omega) (by omega) (by omega) (by omega) (Lib.TabBelow.on tQ.out (Below.refl w1.heap.size w1)));rintro e w4 ⟨v4,rfl,h8,h9⟩;have ln:=cJ h8.out;have xE:=aa ((Below.refl w1.heap.size w1).trans h9.out);rw[List.nil_append]at ln;go_wp2;go_ret2;exact⟨rfl,hb.out.trans (xE.out.mono hb.out.size)⟩
theorem nN(s:ByteArray)(x:Int)(w:World)(h:eI false s x=true)(iW:x<0)(hx21:x < -21)(ht:lk w.heap.size w):Calls prog 131 #[.agg #[.bool false,.string s,.int .i64 x]] w fun e w'=>e=.returned (.tuple #[.string (aj ((dd (bl s) (Lib.itoa (x+s.size-1))))),.int .i64 0])/\Below w.heap.size w w':=by
 have ml:maxLen=2^63-1:=rfl;have ht:=aa ht;obtain⟨eV,aJ,ie,dx,gT,eU⟩:=bL h;clear eV eU;have hB:=aa (aV w false s x);have lZ:decide ((0:Int)<=x)=false:=decide_eq_false (by omega);have jL:decide (x<0)=true:=decide_eq_true iW;have ii:decide (-x<=21)=false:=decide_eq_false (by omega);go_enter func131,ntmps131;go_wp2_with fail
 refine(fu false s _ _ (by omega) h).mono ?_;rintro e w1 ⟨rfl,ai⟩;have bO:=aa (hB.out.below ai (by simp));have iI:=bO.out.lt;obtain⟨c0,c1,c2,f0,f1,f2⟩:=bO.out.cells;have hb:=aa (ay ai);clear ai hB;have tQ:Hid (lk w1.heap.size w1):=lk.up (ht.out.on hb.out) hb.out.size;go_wp2_with fail
 go_fit(eJ w1.heap.size (.slice none 0 0) [] s (x+s.size-1) w1 (fo _ _) (by have:=(Below.refl w1.heap.size w1).size;omega) (by simp) (by omega) (by omega) (by omega) (by omega) (Lib.TabBelow.on tQ.out (Below.refl w1.heap.size w1)));rintro e w4 ⟨v4,rfl,h8,h9⟩;have ln:=cJ h8.out;have xE:=aa ((Below.refl w1.heap.size w1).trans h9.out);rw[List.nil_append]at ln;go_wp2;go_ret2;exact⟨rfl,hb.out.trans (xE.out.mono hb.out.size)⟩
theorem nM(s:ByteArray)(x:Int)(w:World)(h:eI true s x=true)(iW:0<=x)(hx21:(s.size:Int)+x<=21)(ht:lk w.heap.size w):Calls prog 131 #[.agg #[.bool true,.string s,.int .i64 x]] w fun e w'=>e=.returned (.tuple #[.string (aj ([45]++(bl s++List.replicate x.toNat 48))),.int .i64 0])/\Below w.heap.size w w':=by
 have ml:maxLen=2^63-1:=rfl;have ht:=aa ht;obtain⟨eV,aJ,ie,dx,gT,eU⟩:=bL h;clear eV eU;have hB:=aa (aV w true s x);have lZ:decide ((0:Int)<=x)=true:=decide_eq_true iW;have jL:decide ((s.size:Int)+x<=21)=true:=decide_eq_true hx21;go_enter func131,ntmps131;go_wp2_with fail
 refine(fu true s _ _ (by omega) h).mono ?_;rintro e w1 ⟨rfl,ai⟩;have bO:=aa (hB.out.below ai (by simp));have iI:=bO.out.lt;obtain⟨c0,c1,c2,f0,f1,f2⟩:=bO.out.cells;have hb:=aa (ay ai);clear ai hB;have tQ:Hid (lk w1.heap.size w1):=lk.up (ht.out.on hb.out) hb.out.size;have cm:=aa (cM w1 45 5);go_wp2_with(first|(at_builtin;refine bP rfl _ _ rfl w1.heap.size _ [] rfl ((fo _ _).alloc _) ⟨w1.heap.size,0,none⟩ 1 1 [45] rfl rfl cm.out (by simp) (by simp) ?_;intro v2 w2 h2 h3 h4;simp at h4;have aq:=aa (((Below.refl w1.heap.size w1).alloc (Nat.le_refl _) _).trans h3.out);have jR:=aa (bO.out.below aq.out iI);have bq:=jR.out.lt;obtain⟨d0,d1,d2,g0,g1,g2⟩:=jR.out.cells)|(at_builtin;refine fP rfl _ _ rfl w1.heap.size _ [45] rfl h2.out s rfl (by simp;omega) (by have:=aq.out.size;omega) ?_;intro v3 w3 h5 h6 h7;have ar:=aa (aq.out.trans h6.out);have iA:=aa (bO.out.below ar.out iI);have iX:=iA.out.lt;obtain⟨k0,k1,k2,m0,m1,m2⟩:=iA.out.cells))
 go_wp2_with fail
 go_fit(fy w1.heap.size v3 ([45]++bl s) x w3 h5.out (by have:=ar.out.size;omega) (by simp[bl_length];omega) (by omega));rintro e w4 ⟨v4,rfl,h8,h9⟩;have ln:=cJ h8.out;have xE:=aa (ar.out.trans h9.out);rw[List.append_assoc]at ln;go_wp2;go_ret2;exact⟨rfl,hb.out.trans (xE.out.mono hb.out.size)⟩
theorem nL(s:ByteArray)(x:Int)(w:World)(h:eI true s x=true)(iW:x<0)(hx21:-21<=x)(ht:lk w.heap.size w):Calls prog 131 #[.agg #[.bool true,.string s,.int .i64 x]] w fun e w'=>e=.returned (.tuple #[.string (aj ([45]++(dB (bl s) (-x).toNat))),.int .i64 0])/\Below w.heap.size w w':=by
 have ml:maxLen=2^63-1:=rfl;have ht:=aa ht;obtain⟨eV,aJ,ie,dx,gT,eU⟩:=bL h;clear eV eU;have hB:=aa (aV w true s x);obtain⟨bh,Nt⟩:∃bh:Nat,x=-(bh:Int):=⟨(-x).toNat,by omega⟩
 subst Nt;have tT:(- -(bh:Int))=(bh:Int):=by omega
 have lZ:decide ((0:Int)<=-(bh:Int))=false:=decide_eq_false (by omega);rw[tT,Int.toNat_natCast];go_enter func131,ntmps131;go_wp2_with fail
 refine(fu true s _ _ (by omega) h).mono ?_;rintro e w1 ⟨rfl,ai⟩;have bO:=aa (hB.out.below ai (by simp));have iI:=bO.out.lt;obtain⟨c0,c1,c2,f0,f1,f2⟩:=bO.out.cells;have hb:=aa (ay ai);clear ai hB;have tQ:Hid (lk w1.heap.size w1):=lk.up (ht.out.on hb.out) hb.out.size;have cm:=aa (cM w1 45 5);go_wp2_with(first|(at_builtin;refine bP rfl _ _ rfl w1.heap.size _ [] rfl ((fo _ _).alloc _) ⟨w1.heap.size,0,none⟩ 1 1 [45] rfl rfl cm.out (by simp) (by simp) ?_;intro v2 w2 h2 h3 h4;simp at h4;have aq:=aa (((Below.refl w1.heap.size w1).alloc (Nat.le_refl _) _).trans h3.out);have jR:=aa (bO.out.below aq.out iI);have bq:=jR.out.lt;obtain⟨d0,d1,d2,g0,g1,g2⟩:=jR.out.cells))
 go_wp2_with fail
 go_fit(iC w1.heap.size v2 [45] s bh w2 h2.out (by have:=aq.out.size;omega) (by simp) (by omega) (by omega));rintro e w4 ⟨v4,rfl,h8,h9⟩;have ln:=cJ h8.out;have xE:=aa (aq.out.trans h9.out);go_wp2;go_ret2;exact⟨rfl,hb.out.trans (xE.out.mono hb.out.size)⟩
theorem qD(s:ByteArray)(x:Int)(w:World)(h:eI true s x=true)(iW:0<=x)(hx21:21<(s.size:Int)+x)(ht:lk w.heap.size w):Calls prog 131 #[.agg #[.bool true,.string s,.int .i64 x]] w fun e w'=>e=.returned (.tuple #[.string (aj ([45]++(dd (bl s) (Lib.itoa (x+s.size-1))))),.int .i64 0])/\Below w.heap.size w w':=by
 have ml:maxLen=2^63-1:=rfl;have ht:=aa ht;obtain⟨eV,aJ,ie,dx,gT,eU⟩:=bL h;clear eV eU;have hB:=aa (aV w true s x);have lZ:decide ((0:Int)<=x)=true:=decide_eq_true iW;have jL:decide ((s.size:Int)+x<=21)=false:=decide_eq_false (by omega);have ii:decide (x<0)=false:=decide_eq_false (by omega);go_enter func131,ntmps131;go_wp2_with fail
 refine(fu true s _ _ (by omega) h).mono ?_;rintro e w1 ⟨rfl,ai⟩;have bO:=aa (hB.out.below ai (by simp));have iI:=bO.out.lt;obtain⟨c0,c1,c2,f0,f1,f2⟩:=bO.out.cells;have hb:=aa (ay ai);clear ai hB;have tQ:Hid (lk w1.heap.size w1):=lk.up (ht.out.on hb.out) hb.out.size;have cm:=aa (cM w1 45 5);go_wp2_with(first|(at_builtin;refine bP rfl _ _ rfl w1.heap.size _ [] rfl ((fo _ _).alloc _) ⟨w1.heap.size,0,none⟩ 1 1 [45] rfl rfl cm.out (by simp) (by simp) ?_;intro v2 w2 h2 h3 h4;simp at h4;have aq:=aa (((Below.refl w1.heap.size w1).alloc (Nat.le_refl _) _).trans h3.out);have jR:=aa (bO.out.below aq.out iI);have bq:=jR.out.lt;obtain⟨d0,d1,d2,g0,g1,g2⟩:=jR.out.cells))
 go_wp2_with fail
 go_fit(eJ w1.heap.size v2 [45] s (x+s.size-1) w2 h2.out (by have:=aq.out.size;omega) (by simp) (by omega) (by omega) (by omega) (by omega) (Lib.TabBelow.on tQ.out aq.out));rintro e w4 ⟨v4,rfl,h8,h9⟩;have ln:=cJ h8.out;have xE:=aa (aq.out.trans h9.out);go_wp2;go_ret2;exact⟨rfl,hb.out.trans (xE.out.mono hb.out.size)⟩
theorem oI(s:ByteArray)(x:Int)(w:World)(h:eI true s x=true)(iW:x<0)(hx21:x < -21)(ht:lk w.heap.size w):Calls prog 131 #[.agg #[.bool true,.string s,.int .i64 x]] w fun e w'=>e=.returned (.tuple #[.string (aj ([45]++(dd (bl s) (Lib.itoa (x+s.size-1))))),.int .i64 0])/\Below w.heap.size w w':=by
 have ml:maxLen=2^63-1:=rfl;have ht:=aa ht;obtain⟨eV,aJ,ie,dx,gT,eU⟩:=bL h;clear eV eU;have hB:=aa (aV w true s x);have lZ:decide ((0:Int)<=x)=false:=decide_eq_false (by omega);have jL:decide (x<0)=true:=decide_eq_true iW;have ii:decide (-x<=21)=false:=decide_eq_false (by omega);go_enter func131,ntmps131;go_wp2_with fail
 refine(fu true s _ _ (by omega) h).mono ?_;rintro e w1 ⟨rfl,ai⟩;have bO:=aa (hB.out.below ai (by simp));have iI:=bO.out.lt;obtain⟨c0,c1,c2,f0,f1,f2⟩:=bO.out.cells;have hb:=aa (ay ai);clear ai hB;have tQ:Hid (lk w1.heap.size w1):=lk.up (ht.out.on hb.out) hb.out.size;have cm:=aa (cM w1 45 5);go_wp2_with(first|(at_builtin;refine bP rfl _ _ rfl w1.heap.size _ [] rfl ((fo _ _).alloc _) ⟨w1.heap.size,0,none⟩ 1 1 [45] rfl rfl cm.out (by simp) (by simp) ?_;intro v2 w2 h2 h3 h4;simp at h4;have aq:=aa (((Below.refl w1.heap.size w1).alloc (Nat.le_refl _) _).trans h3.out);have jR:=aa (bO.out.below aq.out iI);have bq:=jR.out.lt;obtain⟨d0,d1,d2,g0,g1,g2⟩:=jR.out.cells))
 go_wp2_with fail
 go_fit(eJ w1.heap.size v2 [45] s (x+s.size-1) w2 h2.out (by have:=aq.out.size;omega) (by simp) (by omega) (by omega) (by omega) (by omega) (Lib.TabBelow.on tQ.out aq.out));rintro e w4 ⟨v4,rfl,h8,h9⟩;have ln:=cJ h8.out;have xE:=aa (aq.out.trans h9.out);go_wp2;go_ret2;exact⟨rfl,hb.out.trans (xE.out.mono hb.out.size)⟩
theorem print_any(n:Bool)(s:ByteArray)(x:Int)(w:World)(h:eI n s x=true)(ht:lk w.heap.size w):Calls prog 131 #[.agg #[.bool n,.string s,.int .i64 x]] w fun e w'=>e=.returned (.tuple #[.string (aj (fF n (bl s) x)),.int .i64 0])/\Below w.heap.size w w':=by
 unfold fF;rw[bl_length];by_cases h1:0<=x/\(s.size:Int)+x<=21
 ·rw[if_pos h1]
  cases n
  ·exact mS s x w h h1.1 h1.2 ht
  exact nM s x w h h1.1 h1.2 ht
 rw[if_neg h1];by_cases h2:x<0/\-21<=x
 ·rw[if_pos h2]
  cases n
  ·exact mR s x w h h2.1 h2.2 ht
  exact nL s x w h h2.1 h2.2 ht
 rw[if_neg h2];by_cases h3:x<0
 ·cases n
  ·exact nN s x w h h3 (by omega) ht
  exact oI s x w h h3 (by omega) ht
 cases n
 ·exact pK s x w h (by omega) (by omega) ht
 exact qD s x w h (by omega) (by omega) ht
theorem sg(s:ByteArray)(w:World)(hs:s.size<=512)(n:Bool)(wh fr:List UInt8)(pn:Bool)(pw:List UInt8)(h:dv (bl s)=some (n,wh,fr,pn,pw))(dL:fr.length=0)(hw5:¬wh.length<512):Calls prog 155 #[.string s] w fun e w'=>e=ji (cg n (bo wh++bo fr) (fU pn pw-fr.length))/\Below w.heap.size w w':=by
 obtain⟨a1,a2,a3,a4,a5,a6⟩:=fj h;rw[bl_length]at a5 a6;have hB:=aa (aV w false ⟨#[]⟩ 0);have h:=aa h;have a1:=aa a1;have a2:=aa a2;have a3:=aa a3;go_enter func155,ntmps155;go_wp2_with fail
 refine(iQ s _ (by omega)).mono ?_;rw[h.out];rintro e w1 ⟨rfl,ai⟩;have bO:=aa (hB.out.below ai (by simp));have hl:=bO.out.lt;have hb:=aa (ay ai);clear ai;simp only[cw,ch,if_true,Bool.false_eq_true,if_false];go_wp2_with fail
 obtain⟨W2,gf⟩:∃W2,(w1.alloc (.cells #[.bool n,.string (aj wh),.string (aj fr),.bool pn,.string (aj pw)] 169)).alloc (.cells Tryz.zeroCells172 172)=W2:=⟨_,rfl⟩
 rw[gf];have et:Hid (jX W2 (w1.heap.size+1) 172 (List.replicate 512 0)):=by show jX _ _ _ _;rw[<-gf,show w1.heap.size+1=(w1.alloc (.cells #[.bool n,.string (aj wh),.string (aj fr),.bool pn,.string (aj pw)] 169)).heap.size from by simp];exact pg _ _ 512 _ (by kernel_rfl)
 have zy:Hid (cI W2 w1.heap.size n (aj wh) (aj fr) pn (aj pw)):=by show cI _ _ _ _ _ _ _;rw[<-gf];exact(kp w1 n (aj wh) (aj fr) pn (aj pw)).alloc _
 have jR:Hid (iM W2 w.heap.size false ⟨#[]⟩ 0):=by show iM _ _ _ _ _;rw[<-gf];exact(bO.out.alloc _).alloc _
 have aq:Hid (Below w.heap.size w W2):=by show Below _ _ _;rw[<-gf];exact ab (ab hb.out)
 clear gf hb bO hB;obtain⟨p0,p1,p2,p3,p4,r0,r1,r2,r3,r4⟩:=zy.out.cells;have EM:=aa (jt wh);have Mj:=aa (jt fr);have iI:(bo wh).length=wh.length:=by simp[bo]
 have AU:(bo fr).length=fr.length:=by simp[bo]
 have Pm:=ag wh;have Jx:=ag fr;go_region_with(go_at_call 185;refine(oZ (w1.heap.size+1) 0 512 512 172 (List.replicate 512 0) (aj wh) W2.drew et.out.drew (by omega) (by simp) (by rw[ah];exact a1.out) (by simp)).mono ?_;rw[Pm,EM.out];rintro e W3 ⟨rfl,rm,kK⟩;have rm:=aa rm;have kK:=aa kK)
 have Fa:=aa (zy.out.drew.only kK.out (by omega));have iA:Hid (iM W3 w.heap.size false ⟨#[]⟩ 0):=iM.only (W:=W2.drew) jR.out kK.out (by omega);have ar:Hid (Below w.heap.size w W3):=aq.out.drew.trans (kK.out.below (by omega));have mr:w1.heap.size+1<W3.heap.size:=rm.out.lt;clear p0 p1 p2 p3 p4 r0 r1 r2 r3 r4 et zy jR aq kK;obtain⟨p0,p1,p2,p3,p4,r0,r1,r2,r3,r4⟩:=Fa.out.cells;have EO:Hid (pi (bo wh++bo fr)):=by
  intro d hd;rcases List.mem_append.1 hd with h|h
  ·exact du wh a1.out d h
  exact du fr a2.out d h
 have Uc:(wh.length:Int)<=512:=by omega
 have Pe:(0:Int)<=(wh.length:Int):=by omega
 have Pc:IntKind.i64.wrap (wh.length:Int)=wh.length:=by rw[IntKind.wrap_i64];omega
 have Pb:IntKind.i64.wrap ((wh.length:Int)+(fr.length:Int))=(wh.length:Int)+(fr.length:Int):=by rw[IntKind.wrap_i64];omega
 have AQ:IntKind.i64.wrap (fU pn pw-(fr.length:Int))=fU pn pw-(fr.length:Int):=by have:=eQ pn pw a3.out;rw[IntKind.wrap_i64];omega
 obtain⟨q3,dC⟩:∃q3,fX (List.replicate 512 0) 0 (bo wh)=q3:=⟨_,rfl⟩
 rw[dC]at rm;have hq3l:q3.length=512:=by rw[<-dC,gQ _ _ _ (by rw[List.length_replicate];omega),List.length_replicate]
 have dC:=aa dC;have hq3l:=aa hq3l;have xC:=aa dL;clear dL;have Pd:512-wh.length=0:=by omega
 clear hw5;go_wp2_with fail
 go_region_with(go_at_call 185;go_fit(uU _ (aj fr) W3.drew (by rw[Jx];exact xC.out));rintro e W4 ⟨rfl,rfl⟩)
 have Gm:Hid (jX W3.drew (w1.heap.size+1) 172 (fX q3 wh.length (bo fr))):=by show jX _ _ _ _;rw[List.eq_nil_of_length_eq_zero (AU.trans xC.out),uV];exact rm.out.drew
 have JH:=aa Fa.out.drew;have jQ:Hid (iM W3.drew w.heap.size false ⟨#[]⟩ 0):=iA.out;have aO:=aa ar.out.drew;have rh:w1.heap.size+1<W3.drew.heap.size:=Gm.out.lt;clear p0 p1 p2 p3 p4 r0 r1 r2 r3 r4 rm Fa iA ar;obtain⟨p0,p1,p2,p3,p4,r0,r1,r2,r3,r4⟩:=JH.out.cells;obtain⟨Pu,Pt⟩:=eQ pn pw a3.out;have hcells:Hid (∀i (h:i<(bo wh++bo fr).length),W3.drew.cell? ⟨w1.heap.size+1,0+i,none⟩=some (.int .u8 ((bo wh++bo fr)[i]:Nat))):=by
  show ∀i (h:i<(bo wh++bo fr).length),_;intro i hi;have Td:i<wh.length+fr.length:=by rw[List.length_append,iI,AU]at hi;exact hi
  have aL:(fX q3 wh.length (bo fr)).length=512:=by rw[gQ _ _ _ (by have:=hq3l.out;omega)];exact hq3l.out
  rw[Nat.zero_add,Gm.out.cell i (by omega)];have e:=pO (bo wh) (bo fr) 512 (by omega) i hi (by rw[iI,dC.out];omega);simp only[iI,dC.out]at e;rw[e]
 go_wp2_with fail
 have S4:Hid (IW w w1.heap.size n (aj wh) (aj fr) pn (aj pw) (bo wh++bo fr) W3.drew):=⟨aO.out,JH.out,jQ.out,rh,hcells.out⟩
 have xq:(aj pw).size<=100000:=by rw[ag];omega
 have ve:=aa (ah pw);have Px:=aa (show bW (bl (aj pw))=true by rw[ah];exact a3.out);have oP:=aa (show(bo wh++bo fr).length=wh.length by rw[List.length_append,iI,AU];have:=xC.out;omega);go_region_with(first|(go_at_call 187;go_fit(kn n (aj wh) (aj fr) pn (aj pw) W3.drew.drew xq Px.out);rw[ve.out];rintro e W5 ⟨rfl,bg⟩;have S5:=aa (S4.out.drew.then bg);clear bg;obtain⟨u0,u1,u2,u3,u4,s0,s1,s2,s3,s4⟩:=S5.out.hp.cells)|(go_at_call 186;go_fit(qc n (w1.heap.size+1) 0 wh.length wh.length (bo wh++bo fr) (fU pn pw-fr.length) W5 oP.out (by omega) (by omega) (by omega) (by omega) S5.out.hz S5.out.hc (by omega) (by omega) EO.out);rintro e W6 ⟨rfl,da⟩;obtain⟨fb,fs,fx,fe,fA⟩:∃fb fs fx fe,cg n (bo wh++bo fr) (fU pn pw-fr.length)=(fb,fs,fx,fe):=⟨_,_,_,_,rfl⟩;rw[fA];have fA:=aa fA;have S6:=aa (S5.out.then da);clear da;obtain⟨d20,d21,d22,g20,g21,g22⟩:=S6.out.hb.cells;simp only[ji]))
 all_goals
  go_wp2;refine bodyPost_ret (v:=.tuple #[.agg #[.bool fb,.string fs,.int .i64 fx],.int .i64 fe]) (by simp[results,Tryz.results155,go_sem,d20,d21,d22]) rfl ⟨by rw[fA.out];rfl,?_⟩;exact((S6.out.below.setCell (Nat.le_refl _) _).setCell (Nat.le_refl _) _).setCell (Nat.le_refl _) _
