import Derived.WalkKit
import Derived.WalkSpells
import Derived.WalkLawsBesides
import Derived.Test.YtcnfchblfcfimaaGreatDoorRows
import Derived.Deep.RegionWith
import Derived.Outline
import Derived.Lib.Strings
set_option linter.all false
set_option maxHeartbeats 1000000
namespace Go.Proofs.YtcnfchblfcfimaaGreatDoor
open Proofs.Tryz RowKit
theorem il{k:IntKind}{a b:Int}(h:a=b):Ending.returned (.int k a)=.returned (.int k b):=by rw[h]
theorem aa{p:Prop}(h:p):Hid p:=h
theorem ay{w w1:World}{o:Obj}(h:Below (w.alloc o).heap.size (w.alloc o) w1):Below w.heap.size w w1 :=
 ((Below.refl _ w).alloc (Nat.le_refl _) o).trans (h.mono (by simp))
theorem ac{w w1 w2:World}(h:Below w.heap.size w w1)(h2:Below w1.heap.size w1 w2):Below w.heap.size w w2:=h.trans (h2.mono h.size)
theorem ab{w w1:World}{o:Obj}(h:Below w.heap.size w w1):Below w.heap.size w (w1.alloc o):=h.alloc h.size o
theorem af{n w}:Below n w w:=Below.refl n w
theorem zK{W w1:World}(hb:Below W.heap.size W w1):(∀b o,b<W.heap.size->w1.cell? ⟨b,o,none⟩=W.cell? ⟨b,o,none⟩)/\(∀b o,b<W.heap.size->w1.frozen? ⟨b,o,none⟩=W.frozen? ⟨b,o,none⟩) :=
 ⟨fun b o h=>hb.cell (p:=⟨b,o,none⟩) h,fun b o h=>hb.frozen (p:=⟨b,o,none⟩) h⟩
theorem cD{a b:Bool}(h:a=b):Ending.returned (.bool a)=.returned (.bool b):=by rw[h]
def bl(s:ByteArray):List UInt8:=s.data.toList
theorem bl_length(s:ByteArray):(bl s).length=s.size:=by show s.data.toList.length=s.data.size;simp
theorem bH(s:ByteArray)(k:Nat)(h:k<s.size):(bl s)[k]'(by rw[bl_length];exact h)=s[k]:=by simp[bl];rfl
def isDig(c:UInt8):Bool:=48<=c&&c<=57
theorem bZ(c:UInt8):isDig c=true↔48<=(c.toNat:Int)/\(c.toNat:Int)<=57:=by simp[isDig,UInt8.le_iff_toNat_le];omega
def qR(l:List UInt8):Nat:=(l.takeWhile isDig).length
theorem tE(l:List UInt8):qR l<=l.length:=by
 unfold qR
 induction l with
 |nil=>simp
 |cons a l ih=>by_cases h:isDig a=true<;>simp[h]<;>omega
theorem jf{α:Type}(p:α->Bool):∀(l:List α) (k:Nat),k<=l.length->(∀j (h:j<l.length),j<k->p l[j]=true)->(∀h:k<l.length,p l[k]=false)->(l.takeWhile p).length=k
 | [],k,hk,_,_=>by simp at hk;simp[hk]
 |a::l,0,_,_,h=>by have:=h (by simp);simp at this;simp[this]
 |a::l,k+1,hk,h1,h2=>by have ha:=h1 0 (by simp) (by omega);simp at ha;simp only[List.takeWhile_cons,ha,if_true,List.length_cons];rw[jf p l k (by simpa using hk) (fun j h hj=>by have:=h1 (j+1) (by simpa using h) (by omega);simpa using this) (fun h=>by have:=h2 (by simpa using h);simpa using this)]
theorem zJ(s:ByteArray)(k:Nat)(hk:k<=s.size)(h1:∀j (_:j<k) (h:j<s.size),isDig s[j]=true)(h2:∀h:k<s.size,isDig s[k]=false):qR (bl s)=k:=by
 refine jf isDig (bl s) k (by rw[bl_length];exact hk) (fun j h hj=>?_) (fun h=>?_)
 ·rw[bl_length]at h;rw[bH s j h];exact h1 j hj h
 rw[bl_length]at h;rw[bH s k h];exact h2 h
def bW(l:List UInt8):Bool:=l.all isDig
theorem Fz(l:List UInt8):(qR l=l.length)↔bW l=true:=by
 unfold qR bW
 induction l with
 |nil=>simp
 |cons a l ih=>
  have cd:=tE l;unfold qR at cd;by_cases h:isDig a=true
  ·simp[h] ;simpa using ih
  simp[h]
def xe(neg:Bool)(s:ByteArray)(x:Int):Bool:=!neg&&bl s==[48]&&x==0
def tP(l:List UInt8)(x:Int):Bool:=decide (1<=l.length)&&decide (l.length<=40)&&decide (-400<=x/\x<=400)&&bW l&&l.head? != some 48&&l.getLast? != some 48
def eI(neg:Bool)(s:ByteArray)(x:Int):Bool:=xe neg s x||tP (bl s) x
theorem dQ(s:ByteArray)(h:0<s.size):(bl s).head?=some s[0]:=by rw[List.head?_eq_getElem?,List.getElem?_eq_getElem (by rw[bl_length];exact h),bH s 0 h]
theorem sx(s:ByteArray)(h:0<s.size):(bl s).getLast?=some s[s.size-1]:=by rw[List.getLast?_eq_getElem?,bl_length,List.getElem?_eq_getElem (by rw[bl_length];omega),bH s _ (by omega)]
theorem NF(c d:UInt8):(c.toNat:Int)=(d.toNat:Int)↔c=d:=by
 constructor
 ·intro h;exact UInt8.toNat_inj.1 (by omega)
 intro h;rw[h]
theorem dJ(s:ByteArray):s.toList=bl s:=ByteArray.toList_eq s
theorem JV(c:UInt8):((c.toNat:Int) != 48)=(c != 48):=by rw[Bool.eq_iff_iff];simp only[bne_iff_ne,ne_eq];exact not_congr (NF c 48)
theorem Ef(s:ByteArray)(x:Int)(h:0<s.size):tP (bl s) x=(decide (s.size<=40)&&decide (-400<=x/\x<=400)&&bW (bl s)&&s[0] != 48&&s[s.size-1] != 48):=by unfold tP;rw[dQ s h,sx s h,bl_length];have:decide (1<=s.size)=true:=decide_eq_true h;rw[this,Bool.true_and];rfl
def jX(w:World)(b:Nat)(T:TypeId)(p:List Nat):Prop:=w.heap[b]?=some (.cells (p.map fun v:Nat=>Value.int .u8 (v:Int)).toArray T (0,0))
theorem jX.cell{w:World}{b:Nat}{T:TypeId}{p:List Nat}(h:jX w b T p)(i:Nat)(hi:i<p.length):w.cell? ⟨b,i,none⟩=some (.int .u8 (p[i]:Nat)):=by unfold jX at h;simp[World.cell?,h,List.getElem?_map,hi]
theorem jX.frozen{w:World}{b:Nat}{T:TypeId}{p:List Nat}(h:jX w b T p)(i:Nat):w.frozen? ⟨b,i,none⟩=false:=by unfold jX at h;simp[World.frozen?,h]
theorem jX.lt{w:World}{b:Nat}{T:TypeId}{p:List Nat}(h:jX w b T p):b<w.heap.size:=by
 unfold jX at h;by_cases bm:b<w.heap.size
 ·exact bm
 have hn:w.heap[b]?=none:=by simp;omega
 rw[hn]at h;cases h
theorem jX.drew{w:World}{b:Nat}{T:TypeId}{p:List Nat}(h:jX w b T p):jX w.drew b T p:=h
theorem jX.set{w:World}{b:Nat}{T:TypeId}{p:List Nat}(h:jX w b T p)(i:Nat)(v:Nat):jX (w.setCell ⟨b,i,none⟩ (.int .u8 (v:Int))) b T (p.set i v):=by unfold jX at h ⊢;simp only[World.setCell,Array.getElem?_modify,if_true,h,Option.map_some];simp[List.map_set]
structure lB(b:Nat)(w w':World):Prop where
 os:w'.os=w.os
 tape:w'.tape=w.tape
 output:w'.output=w.output
 size:w'.heap.size=w.heap.size
 block:∀k,k≠b->w'.heap[k]?=w.heap[k]?
theorem lB.refl(b:Nat)(w:World):lB b w w:=⟨rfl,rfl,rfl,rfl,fun _ _=>rfl⟩
theorem lB.trans{b:Nat}{w w1 w2:World}(h:lB b w w1)(k:lB b w1 w2):lB b w w2 :=
 ⟨k.os.trans h.os,k.tape.trans h.tape,k.output.trans h.output,k.size.trans h.size,fun i hi=>(k.block i hi).trans (h.block i hi)⟩
theorem lB.set{b:Nat}{w w1:World}(h:lB b w w1)(i:Nat)(v:Value):lB b w (w1.setCell ⟨b,i,none⟩ v) :=
 h.trans ⟨rfl,rfl,rfl,by simp,fun k hk=>Below.heap_setCell _ _ _ _ hk⟩
theorem lB.below{b B:Nat}{w w1:World}(h:lB b w w1)(hb:B<=b):Below B w w1 :=
 ⟨h.os,h.tape,h.output,by rw[h.size];exact Nat.le_refl _,fun k hk=>h.block k (by omega)⟩
theorem pg(w:World)(T:TypeId)(n:Nat)(c:Array Value)(hc:c=((List.replicate n 0).map fun v:Nat=>Value.int .u8 (v:Int)).toArray):jX (w.alloc (.cells c T)) w.heap.size T (List.replicate n 0):=by unfold jX;rw[hc];show(w.heap.push _)[w.heap.size]?=_;simp
theorem jF(s:ByteArray)(w:World)(hs:s.size<=maxLen):Calls prog 227 #[.string s] w fun e w'=>e=.returned (.int .i64 (qR (bl s)))/\w'=w:=by
 unfold maxLen at hs;go_enter func227,ntmps227;go_wp2;go_loop [3] (fun i=>∃k:Nat,k<=s.size/\i=.int .i64 k/\∀j (hj:j<k) (h:j<s.size),isDig s[j]=true) (fun i=>s.size-(intOf i).toNat)
 case atStart=>exact⟨0,Nat.zero_le _,rfl,by omega⟩
 case round=>
  obtain⟨k,hk,rfl,dU⟩:=hrel;by_cases bm:k<s.size
  ·by_cases hd:isDig s[k]=true
   ·have Gk:=(bZ _).1 hd
    have h1:=Gk.1;have h2:=Gk.2;have HH:Hid (isDig s[k]=true):=hd;clear hd Gk;go_wp2
    go_round
    case rel=>exact⟨k+1,by omega,by go_num,fun j hj h=>by
     by_cases e:j=k
     ·subst e;exact HH.out
     exact dU j (by omega) h⟩
    case measure=>simp[intOf];omega
   have HH:Hid (isDig s[k]=false):=(Bool.not_eq_true _).mp hd;have Gk:¬(48<=(s[k].toNat:Int)/\(s[k].toNat:Int)<=57):=fun h=>hd ((bZ _).2 h);clear hd;go_wp2
   all_goals
    go_ret;exact⟨il (by rw[zJ s k hk dU (fun _=>HH.out)]),rfl⟩
  go_wp2;go_ret;exact⟨il (by rw[zJ s k hk dU (fun h=>absurd h bm)]),rfl⟩
theorem eG(s:ByteArray)(w:World)(hs:s.size<=maxLen):Calls prog 221 #[.string s] w fun e w'=>e=.returned (.bool (bW (bl s)))/\w'=w:=by
 have hc:((qR (bl s):Int)==(s.size:Int))=bW (bl s):=by rw[Bool.eq_iff_iff,<-Fz,bl_length];simp;omega
 go_enter func221,ntmps221;go_wp2_with(go_at_call 227;refine(jF _ _ hs).mono ?_;rintro e w' ⟨rfl,rfl⟩)
 go_ret;exact⟨rfl,rfl⟩
theorem iB(x:Int)(w:World):Calls prog 213 #[.int .i64 x] w fun e w'=>e=.returned (.bool (decide (-400<=x/\x<=400)))/\w'=w:=by
 by_cases h:-400<=x
 ·go_enter func213,ntmps213
  go_wp2;go_ret;exact⟨cD (by simp[h]),rfl⟩
 go_enter func213,ntmps213;go_wp2;go_ret;exact⟨cD (by simp;omega),rfl⟩
theorem lW(neg:Bool)(s:ByteArray)(x:Int)(w:World):Calls prog 196 #[.agg #[.bool neg,.string s,.int .i64 x]] w fun e w'=>e=.returned (.bool (xe neg s x))/\Below w.heap.size w w':=by
 go_enter func196,ntmps196;go_wp2
 all_goals
  go_ret;refine⟨cD ?_,af.alloc (Nat.le_refl _) _⟩;simp_all [xe,dJ]
theorem ot(neg:Bool)(s:ByteArray)(x:Int)(w:World)(hs:s.size<=maxLen):Calls prog 197 #[.agg #[.bool neg,.string s,.int .i64 x]] w fun e w'=>e=.returned (.bool (tP (bl s) x))/\Below w.heap.size w w':=by
 by_cases h1:s.size<1
 ·go_enter func197,ntmps197
  go_wp2;go_ret;exact⟨cD (by simp[tP,bl_length];omega),af.alloc (Nat.le_refl _) _⟩
 have HO:=aa (Ef s x (by omega));by_cases h2:40<s.size
 ·go_enter func197,ntmps197
  go_wp2;go_ret;exact⟨cD (by rw[HO.out];simp;omega),af.alloc (Nat.le_refl _) _⟩
 by_cases h3:-400<=x/\x<=400
 ·have e3:decide (-400<=x/\x<=400)=true:=decide_eq_true h3
  cases h4:bW (bl s)
  all_goals
   go_enter func197,ntmps197;go_wp2_with(first|(go_at_call 213;refine(iB _ _).mono ?_;rintro e w' ⟨rfl,rfl⟩)|(go_at_call 221;refine(eG _ _ hs).mono ?_;rintro e w' ⟨rfl,rfl⟩))
  all_goals
   go_ret;refine⟨cD ?_,af.alloc (Nat.le_refl _) _⟩;have TJ:s.size<=40:=by omega
   rw[HO.out,h4,e3];simp only[<-JV];simp[TJ, *]
 have e3:decide (-400<=x/\x<=400)=false:=decide_eq_false h3;go_enter func197,ntmps197;go_wp2_with(go_at_call 213;refine(iB _ _).mono ?_;rintro e w' ⟨rfl,rfl⟩)
 go_ret;exact⟨cD (by rw[HO.out,e3];simp),af.alloc (Nat.le_refl _) _⟩
theorem fu(neg:Bool)(s:ByteArray)(x:Int)(w:World)(hs:s.size<=maxLen)(h:eI neg s x=true):Calls prog 160 #[.agg #[.bool neg,.string s,.int .i64 x]] w fun e w'=>e=.returned (.int .i64 0)/\Below w.heap.size w w':=by
 cases hz:xe neg s x
 ·have ho:tP (bl s) x=true:=by simpa [eI,hz] using h
  go_enter func160,ntmps160;go_wp2_with fail
  refine(lW neg s x _).mono ?_;rw[hz];rintro e w1 ⟨rfl,hb⟩;obtain⟨hc,hf⟩:=zK hb;go_wp2_with fail
  refine(ot neg s x _ hs).mono ?_;rw[ho];rintro e w2 ⟨rfl,aq⟩;go_wp2;go_ret;exact⟨rfl,ac (ay hb) aq⟩
 go_enter func160,ntmps160;go_wp2_with fail
 refine(lW neg s x _).mono ?_;rw[hz];rintro e w1 ⟨rfl,hb⟩;go_wp2_with fail
 go_ret;exact⟨rfl,ay hb⟩
theorem vC(neg:Bool)(s:ByteArray)(x:Int)(w:World)(hs:s.size<=maxLen)(h:eI neg s x=false):Calls prog 160 #[.agg #[.bool neg,.string s,.int .i64 x]] w fun e w'=>e=.returned (.int .i64 10)/\Below w.heap.size w w':=by
 have hz:xe neg s x=false:=by simp[eI]at h;exact h.1
 have ho:tP (bl s) x=false:=by simp[eI]at h;exact h.2
 go_enter func160,ntmps160;go_wp2_with fail
 refine(lW neg s x _).mono ?_;rw[hz];rintro e w1 ⟨rfl,hb⟩;obtain⟨hc,hf⟩:=zK hb;go_wp2_with fail
 refine(ot neg s x _ hs).mono ?_;rw[ho];rintro e w2 ⟨rfl,aq⟩;go_wp2;go_ret;exact⟨rfl,ac (ay hb) aq⟩
def aj(l:List UInt8):ByteArray:=⟨l.toArray⟩
theorem ah(l:List UInt8):bl (aj l)=l:=by simp[bl,aj]
theorem ag(l:List UInt8):(aj l).size=l.length:=by rw[<-bl_length,ah]
theorem dh(s:ByteArray):aj (bl s)=s:=by cases s;simp[bl,aj]
theorem aN(l:List UInt8):(aj l).toList.isEmpty=l.isEmpty:=by rw[dJ,ah]
theorem aH(s:ByteArray)(a b:Nat):s.extract a b=aj (((bl s).drop a).take (b-a)):=Lib.extract_eq s a b
theorem bd(s:ByteArray)(a:Nat):s.extract a s.size=aj ((bl s).drop a):=by rw[aH,List.take_of_length_le (by rw[List.length_drop,bl_length];omega)]
def dV(c:UInt8)(l:List UInt8):Bool:=l.head?==some c
def aC(c:UInt8)(l:List UInt8):List UInt8:=if dV c l then l.drop 1 else l
theorem EQ(c:UInt8)(s:ByteArray)(h:0<s.size):dV c (bl s)=(s[0]==c):=by unfold dV;rw[dQ s h];rfl
theorem aG(c:UInt8)(l:List UInt8):(aC c l).length<=l.length:=by unfold aC;split<;>simp
theorem yp(p:UInt8->Bool)(l:List UInt8):l.take (l.takeWhile p).length=l.takeWhile p:=by
 induction l with
 |nil=>rfl
 |cons a l ih=>by_cases h:p a=true<;>simp[h,ih]
theorem tA(p:UInt8->Bool)(l:List UInt8):l.drop (l.takeWhile p).length=l.dropWhile p:=by
 induction l with
 |nil=>rfl
 |cons a l ih=>by_cases h:p a=true<;>simp[h,ih]
theorem ax(s:ByteArray)(c:UInt8)(ci:Int)(w:World)(hci:ci=c.toNat)(hs:s.size<=100000):Calls prog 209 #[.string s,.int .u8 ci] w fun e w'=>e=.returned (.tuple #[.bool (dV c (bl s)),.string (aj (aC c (bl s)))])/\Below w.heap.size w w':=by
 by_cases h0:s.size=0
 ·have hl:bl s=[]:=List.eq_nil_of_length_eq_zero (by rw[bl_length];exact h0)
  have he:s.toList.isEmpty=true:=by rw[dJ,hl];rfl
  have e1:=aa (show dV c (bl s)=false by rw[hl];rfl);have e2:=aa (show aj (aC c (bl s))=s by rw[aC,e1.out];simp[dh]);clear hl h0;go_enter func209,ntmps209;go_wp2;go_ret2;exact⟨by rw[e1.out,e2.out];rfl,af⟩
 have he:s.toList.isEmpty=false:=by
  rw[dJ];cases hb:bl s with
  |nil=>have:=bl_length s;rw[hb]at this;simp at this;omega
  |cons _ _=>rfl
 have cC:0<s.size:=by omega
 have VI:(0:Int)<s.size:=by omega
 have hh:=aa (EQ c s cC);cases hc:dV c (bl s)
 ·have hb:((s[0].toNat:Int) != ci)=true:=by
   rw[hh.out]at hc;rw[bne_iff_ne,hci];intro e;have:=UInt8.toNat_inj.1 (by omega:s[0].toNat=c.toNat);rw[this]at hc;simp at hc
  have e2:=aa (show aj (aC c (bl s))=s by rw[aC,hc];simp[dh]);clear hci h0;go_enter func209,ntmps209;go_wp2;go_ret2;exact⟨by rw[e2.out];rfl,af⟩
 have hb:((s[0].toNat:Int) != ci)=false:=by rw[hh.out]at hc;simp only[beq_iff_eq]at hc;rw[hc,hci];simp
 have e2:=aa (show aj (aC c (bl s))=s.extract 1 s.size by rw[bd,aC,hc];rfl);have h1:(1:Int)<=s.size:=by omega
 clear hci h0;go_enter func209,ntmps209;go_wp2
 go_region
 all_goals
  go_wp2;go_ret2;exact⟨by rw[e2.out];rfl,af.drew⟩
theorem aD(s:ByteArray)(w:World)(hs:s.size<=100000):Calls prog 210 #[.string s] w fun e w'=>e=.returned (.tuple #[.string (aj ((bl s).takeWhile isDig)),.string (aj ((bl s).dropWhile isDig))])/\Below w.heap.size w w':=by
 have ml:maxLen=2^63-1:=rfl;obtain⟨k,hk⟩:∃k,qR (bl s)=k:=⟨_,rfl⟩
 have cd:k<=s.size:=by rw[<-hk,<-bl_length];exact tE _
 have e0:(bl s).takeWhile isDig++(bl s).dropWhile isDig=bl s:=List.takeWhile_append_dropWhile;have aJ:((bl s).takeWhile isDig).length=k:=hk;have e1:=aa (show aj ((bl s).takeWhile isDig)=s.extract 0 k by
  rw[aH,List.drop_zero,Nat.sub_zero]
  congr 1
  rw[<-aJ];exact(yp isDig (bl s)).symm)
 have e2:=aa (show aj ((bl s).dropWhile isDig)=s.extract k s.size by
  rw[bd]
  congr 1
  rw[<-aJ];exact(tA isDig (bl s)).symm)
 have hk:=aa hk;clear e0 aJ;go_enter func210,ntmps210;go_wp2_with(go_at_call 227;refine(jF _ _ (by omega)).mono ?_;rw[hk.out];rintro e w' ⟨rfl,rfl⟩)
 go_region
 all_goals
  go_wp2;go_ret2;exact⟨by rw[e1.out,e2.out];rfl,af.drew⟩
def cI(W:World)(i:Nat)(n:Bool)(wh fr:ByteArray)(pn:Bool)(pw:ByteArray):Prop:=W.heap[i]?=some (.cells #[.bool n,.string wh,.string fr,.bool pn,.string pw] 169 (0,0))
section
variable {W W1 : World} {i j o B b : Nat} {n n' pn pn' : Bool} {wh wh' fr fr' pw pw' : ByteArray} {v : Value}
theorem cI.cells(h:cI W i n wh fr pn pw):W.cell? ⟨i,0,none⟩=some (.bool n)/\W.cell? ⟨i,1,none⟩=some (.string wh)/\W.cell? ⟨i,2,none⟩=some (.string fr)/\W.cell? ⟨i,3,none⟩=some (.bool pn)/\W.cell? ⟨i,4,none⟩=some (.string pw) /\
  W.frozen? ⟨i,0,none⟩=false/\W.frozen? ⟨i,1,none⟩=false/\W.frozen? ⟨i,2,none⟩=false/\W.frozen? ⟨i,3,none⟩=false/\W.frozen? ⟨i,4,none⟩=false:=by
 unfold cI at h;simp[World.cell?,World.frozen?,h]
theorem cI.lt(h:cI W i n wh fr pn pw):i<W.heap.size:=by
 unfold cI at h;by_cases bm:i<W.heap.size
 ·exact bm
 have hn:W.heap[i]?=none:=by simp;omega
 rw[hn]at h;cases h
theorem cI.below(h:cI W i n wh fr pn pw)(hb:Below B W W1)(hi:i<B):cI W1 i n wh fr pn pw:=by unfold cI at h ⊢;rw[hb.block i hi];exact h
theorem cI.only(h:cI W i n wh fr pn pw)(hb:lB b W W1)(hi:i≠b):cI W1 i n wh fr pn pw:=by unfold cI at h ⊢;rw[hb.block i hi];exact h
theorem cI.other(h:cI W i n wh fr pn pw)(hij:i≠j):cI (W.setCell ⟨j,o,none⟩ v) i n wh fr pn pw:=by unfold cI at h ⊢;rw[Below.heap_setCell _ _ _ _ hij];exact h
theorem cI.drew(h:cI W i n wh fr pn pw):cI W.drew i n wh fr pn pw:=h
theorem cI.set0(h:cI W i n wh fr pn pw):cI (W.setCell ⟨i,0,none⟩ (.bool n')) i n' wh fr pn pw:=by unfold cI at h ⊢;simp only[World.setCell,Array.getElem?_modify,if_true,h,Option.map_some];simp
theorem cI.set1(h:cI W i n wh fr pn pw):cI (W.setCell ⟨i,1,none⟩ (.string wh')) i n wh' fr pn pw:=by unfold cI at h ⊢;simp only[World.setCell,Array.getElem?_modify,if_true,h,Option.map_some];simp
theorem cI.set2(h:cI W i n wh fr pn pw):cI (W.setCell ⟨i,2,none⟩ (.string fr')) i n wh fr' pn pw:=by unfold cI at h ⊢;simp only[World.setCell,Array.getElem?_modify,if_true,h,Option.map_some];simp
theorem cI.alloc(h:cI W i n wh fr pn pw)(o:Obj):cI (W.alloc o) i n wh fr pn pw:=by have hl:=h.lt;unfold cI at h ⊢;rw[<-h];exact Below.heap_alloc W o i hl
end
theorem kp(w:World)(n:Bool)(wh fr:ByteArray)(pn:Bool)(pw:ByteArray):cI (w.alloc (.cells #[.bool n,.string wh,.string fr,.bool pn,.string pw] 169)) w.heap.size n wh fr pn pw:=by unfold cI;show(w.heap.push _)[w.heap.size]?=_;simp
structure bA(w W:World)(n:Bool)(wh fr:ByteArray)(pn:Bool)(pw:ByteArray)(n':Bool)(wh' fr':ByteArray)(pn':Bool)(pw':ByteArray):Prop where
 below:Below w.heap.size w W
 b0:cI W w.heap.size n wh fr pn pw
 b1:cI W (w.heap.size+1) n' wh' fr' pn' pw'
section
variable {w W W1 : World} {n n' pn pn' : Bool} {wh wh' fr fr' pw pw' : ByteArray}
theorem bA.then(h:bA w W n wh fr pn pw n' wh' fr' pn' pw')(hb:Below W.heap.size W W1):bA w W1 n wh fr pn pw n' wh' fr' pn' pw' :=
 ⟨ac h.below hb,h.b0.below hb h.b0.lt,h.b1.below hb h.b1.lt⟩
theorem bA.drew(h:bA w W n wh fr pn pw n' wh' fr' pn' pw'):bA w W.drew n wh fr pn pw n' wh' fr' pn' pw':=⟨h.below.drew,h.b0,h.b1⟩
end
theorem cr(w:World)(n:Bool)(wh fr:ByteArray)(pn:Bool)(pw:ByteArray)(n':Bool)(wh' fr':ByteArray)(pn':Bool)(pw':ByteArray):bA w ((w.alloc (.cells #[.bool n,.string wh,.string fr,.bool pn,.string pw] 169)).alloc (.cells #[.bool n',.string wh',.string fr',.bool pn',.string pw'] 169)) n wh fr pn pw n' wh' fr' pn' pw':=by
 refine⟨ab (ab af),(kp w n wh fr pn pw).alloc _,?_⟩;have:=kp (w.alloc (.cells #[.bool n,.string wh,.string fr,.bool pn,.string pw] 169)) n' wh' fr' pn' pw'
 simpa using this
theorem ao{w W:World}{i o:Nat}{v:Value}(h:Below w.heap.size w W)(hi:w.heap.size<=i):Below w.heap.size w (W.setCell ⟨i,o,none⟩ v):=h.setCell hi v
def fC(l:List UInt8):Bool:=if dV 43 l then false else dV 45 l
def gm(l:List UInt8):List UInt8:=if dV 43 l then aC 43 l else aC 45 l
def jg(l:List UInt8):Bool:=!(gm l).isEmpty&&bW (gm l)
theorem jZ{c:UInt8}{l:List UInt8}(h:dV c l=false):aC c l=l:=by unfold aC;rw[h];rfl
def ch(ok:Bool)(n:Bool)(wh fr:ByteArray)(pn:Bool)(pw:ByteArray):Ending :=
 if ok then .returned (.tuple #[.agg #[.bool n,.string wh,.string fr,.bool pn,.string pw],.bool true]) else .returned (.tuple #[.agg #[.bool false,.string ⟨#[]⟩,.string ⟨#[]⟩,.bool false,.string ⟨#[]⟩],.bool false])
theorem fh(n:Bool)(wh fr pw:ByteArray)(s:ByteArray)(w:World)(hs:s.size<=100000)(ok:Bool)(eS:jg (bl s)=ok):Calls prog 211 #[.agg #[.bool n,.string wh,.string fr,.bool false,.string pw],.string s] w fun e w'=>
   e=ch ok n wh fr (fC (bl s)) (aj (gm (bl s)))/\Below w.heap.size w w':=by
 have ml:maxLen=2^63-1:=rfl;have HT:=aa (cr w n wh fr false pw false ⟨#[]⟩ ⟨#[]⟩ false ⟨#[]⟩);cases hp:dV 43 (bl s)
 ·have hL:gm (bl s)=aC 45 (bl s):=by unfold gm;rw[hp];rfl
  have hP:fC (bl s)=dV 45 (bl s):=by unfold fC;rw[hp];rfl
  have kC:Hid ((!(aC 45 (bl s)).isEmpty&&bW (aC 45 (bl s)))=ok):=by rw[<-eS,jg,hL];exact rfl
  rw[hL,hP];have aL:=aG 45 (bl s);rw[bl_length]at aL;have cC:=ag (aC 45 (bl s));have xw:=aN (aC 45 (bl s));have t43:=aa (jZ hp);clear eS hL hP;obtain⟨l,hl⟩:∃l,aC 45 (bl s)=l:=⟨_,rfl⟩
  rw[hl]at kC aL cC xw ⊢;have hl:=aa hl;cases hem:l.isEmpty
  ·rw[hem]at xw
   cases eV:bW l
   ·have hf:ok=false:=by rw[<-kC.out,hem,eV];rfl
    subst hf;clear kC;go_enter func211,ntmps211;go_wp2_with fail
    refine(ax s 43 _ _ rfl hs).mono ?_;rw[hp,t43.out,dh];rintro e w1 ⟨rfl,ai⟩;have H1:=aa (HT.out.then ai);clear HT ai;obtain⟨c0,c1,c2,c3,c4,f0,f1,f2,f3,f4⟩:=H1.out.b0.cells;obtain⟨d0,d1,d2,d3,d4,g0,g1,g2,g3,g4⟩:=H1.out.b1.cells;go_wp2_with fail
    refine(ax s 45 _ _ rfl hs).mono ?_;rw[hl.out];rintro e w2 ⟨rfl,aq⟩;have H2:=aa (H1.out.then aq);clear c0 c1 c2 c3 c4 f0 f1 f2 f3 f4 d0 d1 d2 d3 d4 g0 g1 g2 g3 g4 H1 aq;obtain⟨c0,c1,c2,c3,c4,f0,f1,f2,f3,f4⟩:=H2.out.b0.cells;obtain⟨d0,d1,d2,d3,d4,g0,g1,g2,g3,g4⟩:=H2.out.b1.cells;have xI:=aa eV;go_wp2_with(go_at_call 221;refine(eG _ _ (by omega)).mono ?_;rw[ah,xI.out];rintro e w3 ⟨rfl,rfl⟩)
    refine bodyPost_ret (v:=.tuple #[.agg #[.bool false,.string ⟨#[]⟩,.string ⟨#[]⟩,.bool false,.string ⟨#[]⟩],.bool false]) (by simp[results,Tryz.results211,go_sem,d0,d1,d2,d3,d4]) rfl ⟨rfl,?_⟩;iterate 6 refine ao ?_ (by omega)
    exact H2.out.below
   have hf:ok=true:=by rw[<-kC.out,hem,eV];rfl
   subst hf;clear kC;go_enter func211,ntmps211;go_wp2_with fail
   refine(ax s 43 _ _ rfl hs).mono ?_;rw[hp,t43.out,dh];rintro e w1 ⟨rfl,ai⟩;have H1:=aa (HT.out.then ai);clear HT ai;obtain⟨c0,c1,c2,c3,c4,f0,f1,f2,f3,f4⟩:=H1.out.b0.cells;obtain⟨d0,d1,d2,d3,d4,g0,g1,g2,g3,g4⟩:=H1.out.b1.cells;go_wp2_with fail
   refine(ax s 45 _ _ rfl hs).mono ?_;rw[hl.out];rintro e w2 ⟨rfl,aq⟩;have H2:=aa (H1.out.then aq);clear c0 c1 c2 c3 c4 f0 f1 f2 f3 f4 d0 d1 d2 d3 d4 g0 g1 g2 g3 g4 H1 aq;obtain⟨c0,c1,c2,c3,c4,f0,f1,f2,f3,f4⟩:=H2.out.b0.cells;obtain⟨d0,d1,d2,d3,d4,g0,g1,g2,g3,g4⟩:=H2.out.b1.cells;have xI:=aa eV;go_wp2_with(go_at_call 221;refine(eG _ _ (by omega)).mono ?_;rw[ah,xI.out];rintro e w3 ⟨rfl,rfl⟩)
   refine bodyPost_ret (v:=.tuple #[.agg #[.bool n,.string wh,.string fr,.bool (dV 45 (bl s)),.string (aj l)],.bool true]) (by simp[results,Tryz.results211,go_sem,d0,d1,d2,d3,d4]) rfl ⟨rfl,?_⟩;iterate 7 refine ao ?_ (by omega)
   exact H2.out.below
  rw[hem]at xw;have hf:ok=false:=by rw[<-kC.out,hem];rfl
  subst hf;clear kC;go_enter func211,ntmps211;go_wp2_with fail
  refine(ax s 43 _ _ rfl hs).mono ?_;rw[hp,t43.out,dh];rintro e w1 ⟨rfl,ai⟩;have H1:=aa (HT.out.then ai);clear HT ai;obtain⟨c0,c1,c2,c3,c4,f0,f1,f2,f3,f4⟩:=H1.out.b0.cells;obtain⟨d0,d1,d2,d3,d4,g0,g1,g2,g3,g4⟩:=H1.out.b1.cells;go_wp2_with fail
  refine(ax s 45 _ _ rfl hs).mono ?_;rw[hl.out];rintro e w2 ⟨rfl,aq⟩;have H2:=aa (H1.out.then aq);clear c0 c1 c2 c3 c4 f0 f1 f2 f3 f4 d0 d1 d2 d3 d4 g0 g1 g2 g3 g4 H1 aq;obtain⟨c0,c1,c2,c3,c4,f0,f1,f2,f3,f4⟩:=H2.out.b0.cells;obtain⟨d0,d1,d2,d3,d4,g0,g1,g2,g3,g4⟩:=H2.out.b1.cells;go_wp2;refine bodyPost_ret (v:=.tuple #[.agg #[.bool false,.string ⟨#[]⟩,.string ⟨#[]⟩,.bool false,.string ⟨#[]⟩],.bool false]) (by simp[results,Tryz.results211,go_sem,d0,d1,d2,d3,d4]) rfl ⟨rfl,?_⟩;iterate 6 refine ao ?_ (by omega)
  exact H2.out.below
 have hL:gm (bl s)=aC 43 (bl s):=by unfold gm;rw[hp];rfl
 have hP:fC (bl s)=false:=by unfold fC;rw[hp];rfl
 have kC:Hid ((!(aC 43 (bl s)).isEmpty&&bW (aC 43 (bl s)))=ok):=by rw[<-eS,jg,hL];exact rfl
 rw[hL,hP];have aL:=aG 43 (bl s);rw[bl_length]at aL;have cC:=ag (aC 43 (bl s));have xw:=aN (aC 43 (bl s));clear eS hL hP;obtain⟨l,hl⟩:∃l,aC 43 (bl s)=l:=⟨_,rfl⟩
 rw[hl]at kC aL cC xw ⊢;have hl:=aa hl;cases hem:l.isEmpty
 ·rw[hem]at xw
  cases eV:bW l
  ·have hf:ok=false:=by rw[<-kC.out,hem,eV];rfl
   subst hf;clear kC;go_enter func211,ntmps211;go_wp2_with fail
   refine(ax s 43 _ _ rfl hs).mono ?_;rw[hp,hl.out];rintro e w1 ⟨rfl,ai⟩;have H1:=aa (HT.out.then ai);clear HT ai;obtain⟨c0,c1,c2,c3,c4,f0,f1,f2,f3,f4⟩:=H1.out.b0.cells;obtain⟨d0,d1,d2,d3,d4,g0,g1,g2,g3,g4⟩:=H1.out.b1.cells;have xI:=aa eV;go_wp2_with(go_at_call 221;refine(eG _ _ (by omega)).mono ?_;rw[ah,xI.out];rintro e w3 ⟨rfl,rfl⟩)
   refine bodyPost_ret (v:=.tuple #[.agg #[.bool false,.string ⟨#[]⟩,.string ⟨#[]⟩,.bool false,.string ⟨#[]⟩],.bool false]) (by simp[results,Tryz.results211,go_sem,d0,d1,d2,d3,d4]) rfl ⟨rfl,?_⟩;iterate 5 refine ao ?_ (by omega)
   exact H1.out.below
  have hf:ok=true:=by rw[<-kC.out,hem,eV];rfl
  subst hf;clear kC;go_enter func211,ntmps211;go_wp2_with fail
  refine(ax s 43 _ _ rfl hs).mono ?_;rw[hp,hl.out];rintro e w1 ⟨rfl,ai⟩;have H1:=aa (HT.out.then ai);clear HT ai;obtain⟨c0,c1,c2,c3,c4,f0,f1,f2,f3,f4⟩:=H1.out.b0.cells;obtain⟨d0,d1,d2,d3,d4,g0,g1,g2,g3,g4⟩:=H1.out.b1.cells;have xI:=aa eV;go_wp2_with(go_at_call 221;refine(eG _ _ (by omega)).mono ?_;rw[ah,xI.out];rintro e w3 ⟨rfl,rfl⟩)
  refine bodyPost_ret (v:=.tuple #[.agg #[.bool n,.string wh,.string fr,.bool false,.string (aj l)],.bool true]) (by simp[results,Tryz.results211,go_sem,d0,d1,d2,d3,d4]) rfl ⟨rfl,?_⟩;iterate 6 refine ao ?_ (by omega)
  exact H1.out.below
 rw[hem]at xw;have hf:ok=false:=by rw[<-kC.out,hem];rfl
 subst hf;clear kC;go_enter func211,ntmps211;go_wp2_with fail
 refine(ax s 43 _ _ rfl hs).mono ?_;rw[hp,hl.out];rintro e w1 ⟨rfl,ai⟩;have H1:=aa (HT.out.then ai);clear HT ai;obtain⟨c0,c1,c2,c3,c4,f0,f1,f2,f3,f4⟩:=H1.out.b0.cells;obtain⟨d0,d1,d2,d3,d4,g0,g1,g2,g3,g4⟩:=H1.out.b1.cells;go_wp2;refine bodyPost_ret (v:=.tuple #[.agg #[.bool false,.string ⟨#[]⟩,.string ⟨#[]⟩,.bool false,.string ⟨#[]⟩],.bool false]) (by simp[results,Tryz.results211,go_sem,d0,d1,d2,d3,d4]) rfl ⟨rfl,?_⟩;iterate 5 refine ao ?_ (by omega)
 exact H1.out.below
def lA(l:List UInt8):Bool:=l.isEmpty||(decide (1<l.length)&&l.head?==some 48)
def aY(n:Bool)(wh fr l4:List UInt8):Option (Bool×List UInt8×List UInt8×Bool×List UInt8) :=
 match l4 with
 | []=>some (n,wh,fr,false,[])
 |c::r=>if c==101||c==69 then (if jg r then some (n,wh,fr,fC r,gm r) else none) else none
def dv(l:List UInt8):Option (Bool×List UInt8×List UInt8×Bool×List UInt8) :=
 if lA ((aC 45 l).takeWhile isDig) then none
 else if dV 46 ((aC 45 l).dropWhile isDig) then
  if ((aC 46 ((aC 45 l).dropWhile isDig)).takeWhile isDig).isEmpty then none
  else aY (dV 45 l) ((aC 45 l).takeWhile isDig) ((aC 46 ((aC 45 l).dropWhile isDig)).takeWhile isDig) ((aC 46 ((aC 45 l).dropWhile isDig)).dropWhile isDig)
 else aY (dV 45 l) ((aC 45 l).takeWhile isDig) [] ((aC 45 l).dropWhile isDig)
def cw:Option (Bool×List UInt8×List UInt8×Bool×List UInt8)->Ending
 |none=>ch false false ⟨#[]⟩ ⟨#[]⟩ false ⟨#[]⟩
 |some (n,wh,fr,pn,pw)=>ch true n (aj wh) (aj fr) pn (aj pw)
theorem az(l:List UInt8):(l.takeWhile isDig).length<=l.length:=(List.takeWhile_prefix _).length_le
theorem aB(l:List UInt8):(l.dropWhile isDig).length<=l.length:=(List.dropWhile_suffix _).length_le
theorem bG(c:UInt8)(r:List UInt8)(h:0<(aj (c::r)).size):(aj (c::r))[0]=c:=by rw[<-bH (aj (c::r)) 0 h];simp only[ah,List.getElem_cons_zero]
theorem uk(s:ByteArray)(w:World)(hs:s.size<=100000)(cP:((aC 45 (bl s)).takeWhile isDig).isEmpty=true):Calls prog 184 #[.string s] w fun e w'=>e=ch false false ⟨#[]⟩ ⟨#[]⟩ false ⟨#[]⟩/\Below w.heap.size w w':=by
 have ml:maxLen=2^63-1:=rfl;have HT:=aa (cr w false ⟨#[]⟩ ⟨#[]⟩ false ⟨#[]⟩ false ⟨#[]⟩ ⟨#[]⟩ false ⟨#[]⟩);have q1:=aG 45 (bl s);rw[bl_length]at q1;have q2:=az (aC 45 (bl s));have q3:=aB (aC 45 (bl s));obtain⟨n,hn⟩:∃n,dV 45 (bl s)=n:=⟨_,rfl⟩
 obtain⟨l1,aJ⟩:∃l1,aC 45 (bl s)=l1:=⟨_,rfl⟩
 rw[aJ]at q1 q2 q3;obtain⟨wh,bR⟩:∃wh,l1.takeWhile isDig=wh:=⟨_,rfl⟩
 obtain⟨l2,bq⟩:∃l2,l1.dropWhile isDig=l2:=⟨_,rfl⟩
 rw[bR]at q2;rw[bq]at q3;rw[aJ,bR]at cP;have sK:(aj wh).toList.isEmpty=true:=by rw[aN];exact cP
 have hn:=aa hn;have aJ:=aa aJ;have bR:=aa bR;have bq:=aa bq;clear cP;go_enter func184,ntmps184;go_wp2_with fail
 refine(ax s 45 _ _ rfl (by omega)).mono ?_;rw[hn.out,aJ.out];rintro e w1 ⟨rfl,ai⟩;have H1:=aa (HT.out.then ai);clear HT ai;obtain⟨c0,c1,c2,c3,c4,f0,f1,f2,f3,f4⟩:=H1.out.b1.cells;go_wp2_with fail
 refine(aD (aj l1) _ (by rw[ag];omega)).mono ?_;rw[ah,bR.out,bq.out];rintro e w2 ⟨rfl,aq⟩;have H2:Hid (bA w w2 false ⟨#[]⟩ ⟨#[]⟩ false ⟨#[]⟩ n ⟨#[]⟩ ⟨#[]⟩ false ⟨#[]⟩):=by
  have h:=H1.out;have h':bA w (w1.setCell ⟨w.heap.size+1,0,none⟩ (.bool n)) false ⟨#[]⟩ ⟨#[]⟩ false ⟨#[]⟩ n ⟨#[]⟩ ⟨#[]⟩ false ⟨#[]⟩:=⟨ao h.below (by omega),h.b0.other (by omega),h.b1.set0⟩
  exact h'.then aq
 clear H1 aq c0 c1 c2 c3 c4 f0 f1 f2 f3 f4;obtain⟨c0,c1,c2,c3,c4,f0,f1,f2,f3,f4⟩:=H2.out.b1.cells;obtain⟨d0,d1,d2,d3,d4,g0,g1,g2,g3,g4⟩:=H2.out.b0.cells;go_wp2;refine bodyPost_ret (v:=.tuple #[.agg #[.bool false,.string ⟨#[]⟩,.string ⟨#[]⟩,.bool false,.string ⟨#[]⟩],.bool false]) (by simp[results,Tryz.results184,go_sem,d0,d1,d2,d3,d4]) rfl ⟨rfl,?_⟩;iterate 6 refine ao ?_ (by omega)
 exact H2.out.below
theorem wu(s:ByteArray)(w:World)(hs:s.size<=100000)(cP:1<((aC 45 (bl s)).takeWhile isDig).length/\((aC 45 (bl s)).takeWhile isDig).head?=some 48):Calls prog 184 #[.string s] w fun e w'=>e=ch false false ⟨#[]⟩ ⟨#[]⟩ false ⟨#[]⟩/\Below w.heap.size w w':=by
 have ml:maxLen=2^63-1:=rfl;have HT:=aa (cr w false ⟨#[]⟩ ⟨#[]⟩ false ⟨#[]⟩ false ⟨#[]⟩ ⟨#[]⟩ false ⟨#[]⟩);have q1:=aG 45 (bl s);rw[bl_length]at q1;have q2:=az (aC 45 (bl s));have q3:=aB (aC 45 (bl s));obtain⟨n,hn⟩:∃n,dV 45 (bl s)=n:=⟨_,rfl⟩
 obtain⟨l1,aJ⟩:∃l1,aC 45 (bl s)=l1:=⟨_,rfl⟩
 rw[aJ]at q1 q2 q3;obtain⟨wh,bR⟩:∃wh,l1.takeWhile isDig=wh:=⟨_,rfl⟩
 obtain⟨l2,bq⟩:∃l2,l1.dropWhile isDig=l2:=⟨_,rfl⟩
 rw[bR]at q2;rw[bq]at q3;rw[aJ,bR]at cP;have sK:(aj wh).toList.isEmpty=false:=by rw[aN];cases wh with|nil=>simp at cP|cons _ _=>rfl
 have aT:(1:Int)<(aj wh).size:=by rw[ag];omega
 have ia:0<(aj wh).size:=by rw[ag];omega
 have gi:(((aj wh)[0].toNat:Int)==48)=true:=by have:=dQ (aj wh) ia;rw[ah,cP.2]at this;rw[<-Option.some.inj this];rfl
 have hn:=aa hn;have aJ:=aa aJ;have bR:=aa bR;have bq:=aa bq;clear cP;go_enter func184,ntmps184;go_wp2_with fail
 refine(ax s 45 _ _ rfl (by omega)).mono ?_;rw[hn.out,aJ.out];rintro e w1 ⟨rfl,ai⟩;have H1:=aa (HT.out.then ai);clear HT ai;obtain⟨c0,c1,c2,c3,c4,f0,f1,f2,f3,f4⟩:=H1.out.b1.cells;go_wp2_with fail
 refine(aD (aj l1) _ (by rw[ag];omega)).mono ?_;rw[ah,bR.out,bq.out];rintro e w2 ⟨rfl,aq⟩;have H2:Hid (bA w w2 false ⟨#[]⟩ ⟨#[]⟩ false ⟨#[]⟩ n ⟨#[]⟩ ⟨#[]⟩ false ⟨#[]⟩):=by
  have h:=H1.out;have h':bA w (w1.setCell ⟨w.heap.size+1,0,none⟩ (.bool n)) false ⟨#[]⟩ ⟨#[]⟩ false ⟨#[]⟩ n ⟨#[]⟩ ⟨#[]⟩ false ⟨#[]⟩:=⟨ao h.below (by omega),h.b0.other (by omega),h.b1.set0⟩
  exact h'.then aq
 clear H1 aq c0 c1 c2 c3 c4 f0 f1 f2 f3 f4;obtain⟨c0,c1,c2,c3,c4,f0,f1,f2,f3,f4⟩:=H2.out.b1.cells;obtain⟨d0,d1,d2,d3,d4,g0,g1,g2,g3,g4⟩:=H2.out.b0.cells;go_wp2;refine bodyPost_ret (v:=.tuple #[.agg #[.bool false,.string ⟨#[]⟩,.string ⟨#[]⟩,.bool false,.string ⟨#[]⟩],.bool false]) (by simp[results,Tryz.results184,go_sem,d0,d1,d2,d3,d4]) rfl ⟨rfl,?_⟩;iterate 6 refine ao ?_ (by omega)
 exact H2.out.below
