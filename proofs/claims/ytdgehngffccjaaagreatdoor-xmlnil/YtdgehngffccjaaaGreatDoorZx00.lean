/- Merged by program: NaPlain, WaTree, WdEqual. -/
import Derived.Test.YtdgehngffccjaaaGreatDoorRows
import Derived.WalkSpells
import Derived.WalkLawsBesides
import Derived.Deep.MidRow
import Derived.Deep.WholeRow
import Derived.BigQuiet
namespace Go.Proofs.YtdgehngffccjaaaGreatDoor
open Go.RowKit
set_option linter.unusedSimpArgs false
set_option linter.unusedVariables false
set_option maxHeartbeats 8000000
theorem ret_int {k:IntKind} {a b:Int} (h:a=b):Ending.returned (.int k a)=.returned (.int k b):=by rw [h]
theorem hide {p:Prop} (h:p):Hid p:=h
theorem below_alloc {w w1:World} {o:Obj} (h:Below (w.alloc o).heap.size (w.alloc o) w1):Below w.heap.size w w1 :=
 ((Below.refl _ w).alloc (Nat.le_refl _) o).trans (h.mono (by simp))
theorem below_then {w w1 w2:World} (h:Below w.heap.size w w1) (h2:Below w1.heap.size w1 w2):Below w.heap.size w w2:=h.trans (h2.mono h.size)
theorem below_al {w w1:World} {o:Obj} (h:Below w.heap.size w w1):Below w.heap.size w (w1.alloc o):=h.alloc h.size o
theorem bcell {W w1:World} (hb:Below W.heap.size W w1):(∀ b o,b<W.heap.size→w1.cell? ⟨b,o,none⟩=W.cell? ⟨b,o,none⟩)∧(∀ b o,b<W.heap.size→w1.frozen? ⟨b,o,none⟩=W.frozen? ⟨b,o,none⟩) :=
 ⟨fun b o h=>hb.cell (p:=⟨b,o,none⟩) h,fun b o h=>hb.frozen (p:=⟨b,o,none⟩) h⟩
theorem ret_bool {a b:Bool} (h:a=b):Ending.returned (.bool a)=.returned (.bool b):=by rw [h]
def bl (s:ByteArray):List UInt8:=s.data.toList
theorem bl_length (s:ByteArray):(bl s).length=s.size:=by show s.data.toList.length=s.data.size;simp
theorem bl_get (s:ByteArray) (k:Nat) (h:k<s.size):(bl s)[k]'(by rw [bl_length];exact h)=s[k]:=by
 simp [bl];rfl
def isDig (c:UInt8):Bool:=48≤c && c≤57
theorem isDig_iff (c:UInt8):isDig c=true↔48≤(c.toNat:Int)∧(c.toNat:Int)≤57:=by
 simp [isDig,UInt8.le_iff_toNat_le];omega
def cntD (l:List UInt8):Nat:=(l.takeWhile isDig).length
theorem cntD_le (l:List UInt8):cntD l≤l.length:=by
 unfold cntD
 induction l with
 | nil=>simp
 | cons a l ih=>by_cases h:isDig a=true <;> simp [h] <;> omega
theorem takeWhile_of {α:Type} (p:α→Bool):∀ (l:List α) (k:Nat),k≤l.length→(∀ j (h:j<l.length),j<k→p l[j]=true)→(∀ h:k<l.length,p l[k]=false)→(l.takeWhile p).length=k
 | [],k,hk,_,_=>by simp at hk;simp [hk]
 | a :: l,0,_,_,h=>by have:=h (by simp);simp at this;simp [this]
 | a :: l,k + 1,hk,h1,h2=>by
  have ha:=h1 0 (by simp) (by omega)
  simp at ha
  simp only [List.takeWhile_cons,ha,if_true,List.length_cons]
  rw [takeWhile_of p l k (by simpa using hk) (fun j h hj=>by have:=h1 (j + 1) (by simpa using h) (by omega);simpa using this) (fun h=>by have:=h2 (by simpa using h);simpa using this)]
theorem cntD_of (s:ByteArray) (k:Nat) (hk:k≤s.size) (h1:∀ j (_:j<k) (h:j<s.size),isDig s[j]=true) (h2:∀ h:k<s.size,isDig s[k]=false):cntD (bl s)=k:=by
 refine takeWhile_of isDig (bl s) k (by rw [bl_length];exact hk) (fun j h hj=>?_) (fun h=>?_)
 ·rw [bl_length] at h;rw [bl_get s j h];exact h1 j hj h
 ·rw [bl_length] at h;rw [bl_get s k h];exact h2 h
def allD (l:List UInt8):Bool:=l.all isDig
theorem cntD_all (l:List UInt8):(cntD l=l.length)↔allD l=true:=by
 unfold cntD allD
 induction l with
 | nil=>simp
 | cons a l ih =>
  have hle:=cntD_le l
  unfold cntD at hle
  by_cases h:isDig a=true
  ·simp [h] ;simpa using ih
  ·simp [h]
def isZ (neg:Bool) (s:ByteArray) (x:Int):Bool:=!neg && bl s==[48] && x==0
def isO (l:List UInt8) (x:Int):Bool:=decide (1≤l.length) && decide (l.length≤40) && decide (-400≤x∧x≤400) && allD l && l.head? != some 48 && l.getLast? != some 48
def isN (neg:Bool) (s:ByteArray) (x:Int):Bool:=isZ neg s x || isO (bl s) x
theorem head_bl (s:ByteArray) (h:0<s.size):(bl s).head?=some s[0]:=by
 rw [List.head?_eq_getElem?,List.getElem?_eq_getElem (by rw [bl_length];exact h),bl_get s 0 h]
theorem last_bl (s:ByteArray) (h:0<s.size):(bl s).getLast?=some s[s.size - 1]:=by
 rw [List.getLast?_eq_getElem?,bl_length,List.getElem?_eq_getElem (by rw [bl_length];omega),bl_get s _ (by omega)]
theorem u8_eq (c d:UInt8):(c.toNat:Int)=(d.toNat:Int)↔c=d:=by
 constructor
 ·intro h;exact UInt8.toNat_inj.1 (by omega)
 ·intro h;rw [h]
theorem bl_toList (s:ByteArray):s.toList=bl s:=ByteArray.toList_eq s
theorem bne48 (c:UInt8):((c.toNat:Int) != 48)=(c != 48):=by
 rw [Bool.eq_iff_iff];simp only [bne_iff_ne,ne_eq]
 exact not_congr (u8_eq c 48)
theorem isO_at (s:ByteArray) (x:Int) (h:0<s.size):isO (bl s) x=(decide (s.size≤40) && decide (-400≤x∧x≤400) && allD (bl s) && s[0] != 48 && s[s.size - 1] != 48):=by
 unfold isO
 rw [head_bl s h,last_bl s h,bl_length]
 have:decide (1≤s.size)=true:=decide_eq_true h
 rw [this,Bool.true_and]
 rfl
structure Hd where
 kind:Int
 flag:Bool
 neg:Bool
 dig:ByteArray
 exp:Int
 bits:Int
 text:ByteArray
 names:List ByteArray
def VT:Nat→Type
 | 0=>Empty
 | n + 1=>Hd×List (VT n)
def vhd:(n:Nat)→VT n→Hd
 | 0,x=>Empty.elim x
 | _ + 1,x=>x.1
def vals (h:Hd) (ns ls:Value):Array Value:=#[.int .i64 h.kind,.bool h.flag,.bool h.neg,.string h.dig,.int .i64 h.exp,.int .u64 h.bits,.string h.text,ns,ls]
def NL (w:World) (v:Value) (l:List ByteArray):Prop :=
 (v=.slice none 0 0∧l=[])∨∃ (b o c:Nat) (sp:Option Nat),v=.slice (some ⟨b,o,sp⟩) l.length c∧l.length≤c∧c≤maxLen∧(0<l.length→sp=none∧b<w.heap.size)∧∀ i (h:i<l.length),w.cell? ⟨b,o + i,none⟩=some (.string l[i])
def RD:(n:Nat)→World→VT n→Value→Value→Prop
 | 0,_,_,_,_=>False
 | n + 1,w,x,ns,ls=>NL w ns x.1.names∧((ls=.slice none 0 0∧x.2=[])∨∃ (b o c:Nat) (sp:Option Nat),ls=.slice (some ⟨b,o,sp⟩) x.2.length c∧x.2.length≤c∧c≤maxLen∧(0<x.2.length→sp=none∧b<w.heap.size) ∧
   ∀ i (h:i<x.2.length),∃ ns' ls',w.rangeAt b (o + i * 9) (vals (vhd n x.2[i]) ns' ls').toList∧RD n w x.2[i] ns' ls')
theorem NL.below {w W:World} {v:Value} {l:List ByteArray} (h:NL w v l) (hb:Below w.heap.size w W):NL W v l:=by
 rcases h with ⟨rfl,rfl⟩|⟨b,o,c,sp,rfl,h1,h2,h3,hc⟩
 ·exact Or.inl ⟨rfl,rfl⟩
 ·refine Or.inr ⟨b,o,c,sp,rfl,h1,h2,fun h=>⟨(h3 h).1,Nat.lt_of_lt_of_le (h3 h).2 hb.size⟩,fun i hi=>?_⟩
  exact (hb.cell (p:=⟨b,o + i,none⟩) (h3 (by omega)).2).trans (hc i hi)
theorem rangeAt_below {w W:World} {b o:Nat} {cs:List Value} (h:w.rangeAt b o cs) (hb:Below w.heap.size w W) (hlt:b<w.heap.size):W.rangeAt b o cs :=
 fun j v hj=>(hb.cell (p:=⟨b,o + j,none⟩) hlt).trans (h j v hj)
theorem RD.below:∀ {n:Nat} {w W:World} {x:VT n} {ns ls:Value},RD n w x ns ls→Below w.heap.size w W→RD n W x ns ls
 | 0,_,_,x,_,_,_,_=>Empty.elim x
 | n + 1,w,W,x,ns,ls,h,hb=>by
  obtain ⟨h1,h2⟩:=h
  refine ⟨h1.below hb,?_⟩
  rcases h2 with h2|⟨b,o,c,sp,e,k1,k2,k3,hc⟩
  ·exact Or.inl h2
  ·refine Or.inr ⟨b,o,c,sp,e,k1,k2,fun h=>⟨(k3 h).1,Nat.lt_of_lt_of_le (k3 h).2 hb.size⟩,fun i hi=>?_⟩
   obtain ⟨ns',ls',r1,r2⟩:=hc i hi
   exact ⟨ns',ls',rangeAt_below r1 hb (k3 (by omega)).2,RD.below r2 hb⟩
theorem NL.len {w:World} {v:Value} {l:List ByteArray} (h:NL w v l):∃ a c,v=.slice a l.length c∧l.length≤c∧c≤maxLen:=by
 rcases h with ⟨rfl,rfl⟩|⟨b,o,c,sp,rfl,h1,h2,_⟩
 ·exact ⟨none,0,rfl,Nat.le_refl _,by decide⟩
 ·exact ⟨_,c,rfl,h1,h2⟩
theorem RD.len {n:Nat} {w:World} {x:VT (n + 1)} {ns ls:Value} (h:RD (n + 1) w x ns ls):∃ a c,ls=.slice a x.2.length c∧x.2.length≤c∧c≤maxLen:=by
 rcases h.2 with ⟨rfl,e⟩|⟨b,o,c,sp,rfl,h1,h2,_⟩
 ·exact ⟨none,0,by rw [e];rfl,by rw [e];exact Nat.le_refl _,by decide⟩
 ·exact ⟨_,c,rfl,h1,h2⟩
theorem RD.at {n:Nat} {w:World} {x:VT (n + 1)} {ns ls:Value} (h:RD (n + 1) w x ns ls) (i:Nat) (hi:i<x.2.length) :
  ∃ b o c,ls=.slice (some ⟨b,o,none⟩) x.2.length c∧b<w.heap.size∧x.2.length≤c∧c≤maxLen∧∃ ns' ls',w.rangeAt b (o + i * 9) (vals (vhd n x.2[i]) ns' ls').toList∧RD n w x.2[i] ns' ls':=by
 rcases h.2 with ⟨rfl,e⟩|⟨b,o,c,sp,rfl,h1,h2,h3,hc⟩
 ·rw [e] at hi;simp at hi
 ·obtain ⟨rfl,hb⟩:=h3 (by omega)
  exact ⟨b,o,c,rfl,hb,h1,h2,hc i hi⟩
theorem NL.at {w:World} {v:Value} {l:List ByteArray} (h:NL w v l) (i:Nat) (hi:i<l.length) :
  ∃ b o c,v=.slice (some ⟨b,o,none⟩) l.length c∧b<w.heap.size∧l.length≤c∧c≤maxLen∧w.cell? ⟨b,o + i,none⟩=some (.string l[i]):=by
 rcases h with ⟨rfl,rfl⟩|⟨b,o,c,sp,rfl,h1,h2,h3,hc⟩
 ·simp at hi
 ·obtain ⟨rfl,hb⟩:=h3 (by omega)
  exact ⟨b,o,c,rfl,hb,h1,h2,hc i hi⟩
theorem range9 {w:World} {b o:Nat} {h:Hd} {ns ls:Value} (k:w.rangeAt b o (vals h ns ls).toList):w.cell? ⟨b,o,none⟩=some (.int .i64 h.kind)∧w.cell? ⟨b,o + 1,none⟩=some (.bool h.flag)∧w.cell? ⟨b,o + 2,none⟩=some (.bool h.neg)∧w.cell? ⟨b,o + 3,none⟩=some (.string h.dig)∧w.cell? ⟨b,o + 4,none⟩=some (.int .i64 h.exp)∧w.cell? ⟨b,o + 5,none⟩=some (.int .u64 h.bits)∧w.cell? ⟨b,o + 6,none⟩=some (.string h.text)∧w.cell? ⟨b,o + 7,none⟩=some ns∧w.cell? ⟨b,o + 8,none⟩=some ls :=
 ⟨k 0 _ rfl,k 1 _ rfl,k 2 _ rfl,k 3 _ rfl,k 4 _ rfl,k 5 _ rfl,k 6 _ rfl,k 7 _ rfl,k 8 _ rfl⟩
theorem RD.shape:∀ {n:Nat} {w:World} {x:VT n} {ns ls:Value},RD n w x ns ls→∃ a m c a' m' c',ns=.slice a m c∧ls=.slice a' m' c'
 | 0,_,x,_,_,_=>Empty.elim x
 | n + 1,w,x,ns,ls,h=>by
  obtain ⟨a,c,e,_⟩:=h.1.len
  obtain ⟨a',c',e',_⟩:=h.len
  exact ⟨_,_,_,_,_,_,e,e'⟩
structure Bx (W:World) (i:Nat) (h:Hd) (ns ls:Value):Prop where
 at_:W.heap[i]?=some (.cells (vals h ns ls) 38 (0,0))
theorem bx_new (w:World) (h:Hd) (ns ls:Value):Bx (w.alloc (.cells (vals h ns ls) 38)) w.heap.size h ns ls:=⟨heap_alloc_last w _⟩
theorem Bx.lt {W:World} {i:Nat} {h:Hd} {ns ls:Value} (k:Bx W i h ns ls):i<W.heap.size:=by
 have:=k.at_
 by_cases hlt:i<W.heap.size
 ·exact hlt
 ·have hn:W.heap[i]?=none:=by simp;omega
  rw [hn] at this;cases this
theorem Bx.below {W W1:World} {i:Nat} {h:Hd} {ns ls:Value} (k:Bx W i h ns ls) (hb:Below W.heap.size W W1):Bx W1 i h ns ls:=⟨(hb.block _ k.lt).trans k.at_⟩
theorem Bx.cell {W:World} {i:Nat} {h:Hd} {ns ls:Value} (k:Bx W i h ns ls) (j:Nat):W.cell? ⟨i,j,none⟩=(vals h ns ls)[j]?:=by
 unfold World.cell?
 rw [k.at_]
 rfl
theorem Bx.cells {W:World} {i:Nat} {h:Hd} {ns ls:Value} (k:Bx W i h ns ls):W.cell? ⟨i,0,none⟩=some (.int .i64 h.kind)∧W.cell? ⟨i,1,none⟩=some (.bool h.flag)∧W.cell? ⟨i,2,none⟩=some (.bool h.neg)∧W.cell? ⟨i,3,none⟩=some (.string h.dig)∧W.cell? ⟨i,4,none⟩=some (.int .i64 h.exp)∧W.cell? ⟨i,5,none⟩=some (.int .u64 h.bits)∧W.cell? ⟨i,6,none⟩=some (.string h.text)∧W.cell? ⟨i,7,none⟩=some ns∧W.cell? ⟨i,8,none⟩=some ls :=
 ⟨k.cell 0,k.cell 1,k.cell 2,k.cell 3,k.cell 4,k.cell 5,k.cell 6,k.cell 7,k.cell 8⟩
theorem Bx.range {W:World} {i:Nat} {h:Hd} {ns ls:Value} (k:Bx W i h ns ls):W.rangeAt i 0 (vals h ns ls).toList:=by
 intro j v hj
 rw [Nat.zero_add,k.cell j,←hj,Array.getElem?_toList]
def Tells (b:Bool) (p:Prop):Prop:=Hid (b=true↔p)
def TB (p:Prop) (w:World) (e:Ending) (w':World):Prop:=∃ b,e=.returned (.bool b)∧Tells b p∧Below w.heap.size w w'
theorem TB.yes {p:Prop} {w w':World} (h:p) (hb:Below w.heap.size w w'):TB p w (.returned (.bool true)) w':=⟨true,rfl,(show Hid _ from ⟨(fun _=>h),(fun _=>rfl)⟩),hb⟩
theorem TB.no {p:Prop} {w w':World} (h:¬ p) (hb:Below w.heap.size w w'):TB p w (.returned (.bool false)) w':=⟨false,rfl,(show Hid _ from ⟨(fun h=>by cases h),(fun k=>absurd k h)⟩),hb⟩
theorem take_eq {α:Type} {l m:List α} {k:Nat} (hl:k<l.length) (hm:k<m.length) (h:l.take k=m.take k) (he:l[k]=m[k]):l.take (k + 1)=m.take (k + 1):=by
 rw [List.take_succ_eq_append_getElem hl,List.take_succ_eq_append_getElem hm,h,he]
theorem below_dn {B:Nat} {w W:World} (h:Below B w W) (n:Nat):Below B w (W.drewN n):=⟨h.os,h.tape,h.output,h.size,h.block⟩
set_option maxRecDepth 100000 in
theorem sequal_any (u v:Value) (l m:List ByteArray) (w:World) (hu:NL w u l) (hv:NL w v m) :
  Calls Tryz.prog 138 #[u,v] w fun e w'=>TB (l=m) w e w':=by
 obtain ⟨au,cu,rfl,hu1,hu2⟩:=hu.len
 obtain ⟨av,cv,rfl,hv1,hv2⟩:=hv.len
 have hu:=hide hu
 have hv:=hide hv
 have ml:maxLen=9223372036854775807:=rfl
 by_cases hl:(l.length:Int)=(m.length:Int)
 ·have hml:=hide (show m.length=l.length by omega)
  rw [hml.out] at hv1 ⊢
  clear hl
  go_enter Tryz.func138, Tryz.ntmps138
  go_wp2_with fail
  go_loopw [13] (fun i w'=>∃ k:Nat,i=.int .i64 k∧k≤l.length∧Hid (l.take k=m.take k∧Below w.heap.size w w')) (fun i _=>l.length - (intOf i).toNat)
  case atStart=>exact ⟨0,rfl,Nat.zero_le _,rfl,Below.refl _ _⟩
  case round =>
   obtain ⟨k,rfl,hk,H⟩:=hrel
   by_cases hkl:k<l.length
   ·have hki:(k:Int)<(l.length:Int):=by omega
    have hk63:(k:Int)<9223372036854775807:=by omega
    obtain ⟨b,o,c,he,hbl,hlc,hcm,hcell⟩:=hu.out.at k hkl
    have he':=Value.slice.inj he
    obtain ⟨rfl,_,rfl⟩:=he'
    clear he
    have hcell:=(H.out.2.cell (p:=⟨b,o + k,none⟩) hbl).trans hcell
    obtain ⟨b',o',c',he,hbl',hlc',hcm',hcell'⟩:=hv.out.at k (by rw [hml.out];exact hkl)
    have he':=Value.slice.inj he
    obtain ⟨rfl,_,rfl⟩:=he'
    clear he
    have hcell':=(H.out.2.cell (p:=⟨b',o' + k,none⟩) hbl').trans hcell'
    obtain ⟨s,hs⟩:∃ s,l[k]=s:=⟨_,rfl⟩
    obtain ⟨t,ht⟩:∃ t,m[k]'(by rw [hml.out];exact hkl)=t:=⟨_,rfl⟩
    rw [hs] at hcell
    rw [ht] at hcell'
    have hs':=hide hs
    have ht':=hide ht
    clear hs ht
    by_cases hst:s=t
    ·subst hst
     go_wp2_with fail
     go_quiet (fail)
     go_wp2_with fail
     refine ⟨⟨k + 1,by go_num,by omega,take_eq hkl (by rw [hml.out];exact hkl) H.out.1 (by rw [hs'.out,ht'.out]),?_⟩,by simp [intOf];omega⟩
     exact below_dn H.out.2 _
    ·have hst2:decide (s=t)=false:=decide_eq_false hst
     have hst3:(s.toList==t.toList)=false:=by
      rw [beq_eq_false_iff_ne]
      intro h
      exact hst (ByteArray.ext (Array.toList_inj.1 (by rw [ByteArray.toList_eq,ByteArray.toList_eq] at h;exact h)))
     have hne:l≠m:=by
      intro h
      subst h
      rw [hs'.out] at ht'
      exact hst ht'.out
     have hne':=hide hne
     clear hne
     go_wp2_with fail
     go_quiet (fail)
     go_wp2_with fail
     go_ret
     exact TB.no hne'.out (below_dn H.out.2 _)
   ·have hki:¬ ((k:Int)<(l.length:Int)):=by omega
    have hE:=H.out.1
    rw [List.take_of_length_le (by omega),List.take_of_length_le (by rw [hml.out];omega)] at hE
    have hE':=hide hE
    clear hE
    go_wp2_with fail
    go_ret
    exact TB.yes hE'.out H.out.2
 ·go_enter Tryz.func138, Tryz.ntmps138
  go_wp2_with fail
  go_ret
  exact TB.no (fun h=>by rw [h] at hl;exact absurd rfl hl) (Below.refl _ _)
theorem ba_ne {s t:ByteArray} (h:¬ s=t):(s.toList==t.toList)=false:=by
 rw [beq_eq_false_iff_ne]
 intro e
 exact h (ByteArray.ext (Array.toList_inj.1 (by rw [ByteArray.toList_eq,ByteArray.toList_eq] at e;exact e)))
theorem two_cells {w w1:World} {c1 c2:Array Value} {T1 T2:TypeId} (hb:Below ((w.alloc (.cells c1 T1)).alloc (.cells c2 T2)).heap.size ((w.alloc (.cells c1 T1)).alloc (.cells c2 T2)) w1) (j:Nat):w1.cell? ⟨w.heap.size,j,none⟩=c1[j]?∧w1.cell? ⟨w.heap.size + 1,j,none⟩=c2[j]?:=by
 have h1:((w.alloc (.cells c1 T1)).alloc (.cells c2 T2)).heap=(w.heap.push (.cells c1 T1)).push (.cells c2 T2):=rfl
 have s1:((w.alloc (.cells c1 T1)).alloc (.cells c2 T2)).heap.size=w.heap.size + 2:=by rw [h1];simp
 have b1:=hb.block w.heap.size (by rw [s1];omega)
 have b2:=hb.block (w.heap.size + 1) (by rw [s1];omega)
 rw [h1] at b1 b2
 have g1:((w.heap.push (Obj.cells c1 T1)).push (Obj.cells c2 T2))[w.heap.size]?=some (.cells c1 T1):=by simp [Array.getElem?_push]
 have g2:((w.heap.push (Obj.cells c1 T1)).push (Obj.cells c2 T2))[w.heap.size + 1]?=some (.cells c2 T2):=by rw [show w.heap.size + 1=(w.heap.push (Obj.cells c1 T1)).size by simp,Array.getElem?_push_size]
 rw [g1] at b1
 rw [g2] at b2
 unfold World.cell?
 simp only [b1,b2]
 exact ⟨rfl,rfl⟩
def EqOk (n:Nat):Prop:=∀ (x y:VT n) (ns ls ns' ls':Value) (w:World),RD n w x ns ls→RD n w y ns' ls' →
  Calls Tryz.prog 117 #[.agg (vals (vhd n x) ns ls),.agg (vals (vhd n y) ns' ls')] w fun e w'=>TB (x=y) w e w'
set_option maxRecDepth 100000 in
theorem eqfunc_any (n:Nat) (ih:EqOk n) (x y:VT (n + 1)) (ns ls ns' ls':Value) (w:World) (hu:RD (n + 1) w x ns ls) (hv:RD (n + 1) w y ns' ls') :
  Calls Tryz.prog 139 #[ls,ls',.func (.func 117) #[] #[]] w fun e w'=>TB (x.2=y.2) w e w':=by
 obtain ⟨h,l⟩:=x
 obtain ⟨g,m⟩:=y
 obtain ⟨al,cl,rfl,hl1,hl2⟩:=hu.len
 obtain ⟨bl',dl,rfl,hm1,hm2⟩:=hv.len
 have hu:=hide hu
 have hv:=hide hv
 simp only at hl1 hl2 hm1 hm2 ⊢
 have ml:maxLen=9223372036854775807:=rfl
 by_cases hl:(l.length:Int)=(m.length:Int)
 ·have hml:=hide (show m.length=l.length by omega)
  rw [hml.out] at hm1 ⊢
  clear hl
  go_enter Tryz.func139, Tryz.ntmps139
  go_wp2_with fail
  go_loopw [17] (fun i w'=>∃ k:Nat,i=.int .i64 k∧k≤l.length∧Hid (l.take k=m.take k∧Below w.heap.size w w')) (fun i _=>l.length - (intOf i).toNat)
  case atStart=>exact ⟨0,rfl,Nat.zero_le _,rfl,Below.refl _ _⟩
  case round =>
   obtain ⟨k,rfl,hk,H⟩:=hrel
   by_cases hkl:k<l.length
   ·have hki:(k:Int)<(l.length:Int):=by omega
    have hk63:(k:Int)<9223372036854775807:=by omega
    obtain ⟨b,o,c,he,hbl,hlc,hcm,ns1,ls1,hrg,hrd⟩:=hu.out.at k hkl
    have he':=Value.slice.inj he
    obtain ⟨rfl,_,rfl⟩:=he'
    clear he
    obtain ⟨q0,q1,q2,q3,q4,q5,q6,q7,q8⟩:=range9 (rangeAt_below hrg H.out.2 hbl)
    have hkm:k<m.length:=by rw [hml.out];exact hkl
    obtain ⟨b',o',c',he,hbl',hlc',hcm',ns2,ls2,hrg',hrd'⟩:=hv.out.at k hkm
    have he':=Value.slice.inj he
    obtain ⟨rfl,_,rfl⟩:=he'
    clear he
    have hwr:Hid (∀ o,Below w.heap.size w (wr.alloc o)):=fun o=>below_al H.out.2
    have hwr2:Hid (∀ o o',Below w.heap.size w ((wr.alloc o).alloc o')):=fun o o'=>below_al (below_al H.out.2)
    have R9:=fun ob=>range9 (rangeAt_below hrg' (hwr.out ob) hbl')
    have r0:=fun ob=>(R9 ob).1
    have r1:=fun ob=>(R9 ob).2.1
    have r2:=fun ob=>(R9 ob).2.2.1
    have r3:=fun ob=>(R9 ob).2.2.2.1
    have r4:=fun ob=>(R9 ob).2.2.2.2.1
    have r5:=fun ob=>(R9 ob).2.2.2.2.2.1
    have r6:=fun ob=>(R9 ob).2.2.2.2.2.2.1
    have r7:=fun ob=>(R9 ob).2.2.2.2.2.2.2.1
    have r8:=fun ob=>(R9 ob).2.2.2.2.2.2.2.2
    clear R9
    have hd1:=hide hrd
    have hd2:=hide hrd'
    obtain ⟨a1,m1,d1,a2,m2,d2,rfl,rfl⟩:=hrd.shape
    obtain ⟨a3,m3,d3,a4,m4,d4,rfl,rfl⟩:=hrd'.shape
    clear hrg hrd hrg' hrd'
    have hcall:=hide (fun o o'=>ih l[k] m[k] _ _ _ _ _ (hd1.out.below (hwr2.out o o')) (hd2.out.below (hwr2.out o o')))
    go_wp2_with fail
    refine (hcall.out _ _).mono ?_
    rintro e w2 ⟨b2,rfl,hT,hb1⟩
    have hb2:=hide (below_then (hwr2.out _ _) hb1)
    cases b2
    ·have hne:¬ l=m:=by
      intro e
      have:=hT.2 (by subst e;rfl)
      cases this
     have hne':=hide hne
     clear hne
     go_wp2_with fail
     go_ret
     exact TB.no hne'.out hb2.out
    ·have hEq:=hide (hT.1 rfl)
     go_wp2_with fail
     exact ⟨⟨k + 1,by go_num,by omega,take_eq hkl hkm H.out.1 hEq.out,hb2.out⟩,by simp [intOf];omega⟩
   ·have hki:¬ ((k:Int)<(l.length:Int)):=by omega
    have hE:=H.out.1
    rw [List.take_of_length_le (by omega),List.take_of_length_le (by rw [hml.out];omega)] at hE
    have hE':=hide hE
    clear hE
    go_wp2_with fail
    go_ret
    exact TB.yes hE'.out H.out.2
 ·go_enter Tryz.func139, Tryz.ntmps139
  go_wp2_with fail
  go_ret
  exact TB.no (fun h=>by rw [h] at hl;exact absurd rfl hl) (Below.refl _ _)
set_option maxRecDepth 100000 in
theorem equal_any:∀ n,EqOk n:=by
 intro n
 induction n with
 | zero=>intro x;exact Empty.elim x
 | succ n ih =>
  intro x y ns ls ns' ls' w hx hy
  obtain ⟨h,l⟩:=x
  obtain ⟨g,m⟩:=y
  obtain ⟨al,cl,rfl,hl1,hl2⟩:=hx.len
  obtain ⟨an,cn,rfl,hn1,hn2⟩:=hx.1.len
  obtain ⟨bl',dl,rfl,hm1,hm2⟩:=hy.len
  obtain ⟨bn,dn,rfl,ho1,ho2⟩:=hy.1.len
  have hx:=hide hx
  have hy:=hide hy
  show Calls _ _ #[.agg #[.int .i64 h.kind,.bool h.flag,.bool h.neg,.string h.dig,.int .i64 h.exp,.int .u64 h.bits,.string h.text,.slice an h.names.length cn,.slice al l.length cl],.agg #[.int .i64 g.kind,.bool g.flag,.bool g.neg,.string g.dig,.int .i64 g.exp,.int .u64 g.bits,.string g.text,.slice bn g.names.length dn,.slice bl' m.length dl]] _ _
  by_cases e0:h.kind=g.kind
  ·by_cases e1:h.flag=g.flag
   ·by_cases e2:h.neg=g.neg
    ·by_cases e3:h.dig=g.dig
     ·by_cases e4:h.exp=g.exp
      ·by_cases e5:h.bits=g.bits
       ·by_cases e6:h.text=g.text
        ·have hnm:=hide (fun o o'=>sequal_any (.slice an h.names.length cn) (.slice bn g.names.length dn) h.names g.names ((w.alloc o).alloc o') (hx.out.1.below (below_al (below_al (Below.refl _ _)))) (hy.out.1.below (below_al (below_al (Below.refl _ _)))))
         have hxy:((h,l):VT (n + 1))=(g,m)↔h.names=g.names∧l=m:=by
          constructor
          ·intro e;cases e;exact ⟨rfl,rfl⟩
          ·rintro ⟨e7,rfl⟩
           have:h=g:=by cases h;cases g;simp only at e0 e1 e2 e3 e4 e5 e6 e7;subst e0 e1 e2 e3 e4 e5 e6 e7;rfl
           rw [this]
         have hxy':=hide hxy
         have hlf:=hide (fun W (hb:Below w.heap.size w W)=>eqfunc_any n ih (h,l) (g,m) _ _ _ _ W (hx.out.below hb) (hy.out.below hb))
         clear hxy
         have B1:=hide (bx_new w h (.slice an h.names.length cn) (.slice al l.length cl))
         have B2:=hide (fun o=>bx_new (w.alloc o) g (.slice bn g.names.length dn) (.slice bl' m.length dl))
         go_enter Tryz.func117, Tryz.ntmps117
         go_wp2_with fail
         refine (hnm.out _ _).mono ?_
         rintro e w1 ⟨b,rfl,hT,hb1⟩
         obtain ⟨k1,k2⟩:=two_cells hb1 8
         replace k1:w1.cell? ⟨w.heap.size,8,none⟩=some (.slice al l.length cl):=k1
         replace k2:w1.cell? ⟨w.heap.size + 1,8,none⟩=some (.slice bl' m.length dl):=k2
         have hb2:=hide (below_then (below_al (below_al (Below.refl _ _))) hb1)
         cases b
         ·go_wp2_with fail
          go_ret
          exact TB.no (fun e=>by have:=hT.2 (hxy'.out.1 e).1;cases this) hb2.out
         ·have hcall:=hide (hlf.out w1 hb2.out)
          go_wp2_with (go_at_call 139;refine hcall.out.mono ?_;rintro e w2 ⟨b,rfl,hT2,hb3⟩)
          go_ret
          cases b
          ·exact TB.no (fun e=>by have:=hT2.2 (hxy'.out.1 e).2;cases this) (below_then hb2.out hb3)
          ·exact TB.yes (hxy'.out.2 ⟨hT.1 rfl,hT2.1 rfl⟩) (below_then hb2.out hb3)
        ·have q1:decide (h.text=g.text)=false:=decide_eq_false e6
         have q2:=ba_ne e6
         go_enter Tryz.func117, Tryz.ntmps117
         go_wp2_with fail
         go_ret
         exact TB.no (fun e=>e6 (by cases e;rfl)) (below_al (below_al (Below.refl _ _)))
       ·go_enter Tryz.func117, Tryz.ntmps117
        go_wp2_with fail
        go_ret
        exact TB.no (fun e=>e5 (by cases e;rfl)) (below_al (below_al (Below.refl _ _)))
      ·go_enter Tryz.func117, Tryz.ntmps117
       go_wp2_with fail
       go_ret
       exact TB.no (fun e=>e4 (by cases e;rfl)) (below_al (below_al (Below.refl _ _)))
     ·have q1:decide (h.dig=g.dig)=false:=decide_eq_false e3
      have q2:=ba_ne e3
      go_enter Tryz.func117, Tryz.ntmps117
      go_wp2_with fail
      go_ret
      exact TB.no (fun e=>e3 (by cases e;rfl)) (below_al (below_al (Below.refl _ _)))
    ·go_enter Tryz.func117, Tryz.ntmps117
     go_wp2_with fail
     go_ret
     exact TB.no (fun e=>e2 (by cases e;rfl)) (below_al (below_al (Below.refl _ _)))
   ·go_enter Tryz.func117, Tryz.ntmps117
    go_wp2_with fail
    go_ret
    exact TB.no (fun e=>e1 (by cases e;rfl)) (below_al (below_al (Below.refl _ _)))
  ·go_enter Tryz.func117, Tryz.ntmps117
   go_wp2_with fail
   go_ret
   exact TB.no (fun e=>e0 (by cases e;rfl)) (below_al (below_al (Below.refl _ _)))
end Go.Proofs.YtdgehngffccjaaaGreatDoor
