/- Merged by program: WaTree, WbSize, WcBig. -/
import Derived.Test.YtgicnopppgnjjaaGreatDoorZd00
import Derived.Test.YtgicnopppgnjjaaGreatDoorRows
import Derived.WalkKit
import Derived.WalkSpells
import Derived.WalkLawsBesides
import Derived.Outline
import Derived.Laws.Rows
import Derived.Deep.MidRow
import Derived.Deep.WholeRow
set_option linter.unusedSimpArgs false
set_option linter.unusedVariables false
namespace Go.Proofs.YtgicnopppgnjjaaGreatDoor
open Go.RowKit
structure Hd where
 kind:Int
 flag:Bool
 neg:Bool
 dig:ByteArray
 exp:Int
 bits:Int
 text:ByteArray
 names:List ByteArray
def VT:Nat→Type
 | 0=>Empty
 | n + 1=>Hd×List (VT n)
def vhd:(n:Nat)→VT n→Hd
 | 0,x=>Empty.elim x
 | _ + 1,x=>x.1
def vals (h:Hd) (ns ls:Value):Array Value:=#[.int .i64 h.kind,.bool h.flag,.bool h.neg,.string h.dig,.int .i64 h.exp,.int .u64 h.bits,.string h.text,ns,ls]
def NL (w:World) (v:Value) (l:List ByteArray):Prop :=
 (v=.slice none 0 0∧l=[])∨∃ (b o c:Nat) (sp:Option Nat),v=.slice (some ⟨b,o,sp⟩) l.length c∧l.length≤c∧c≤maxLen∧(0<l.length→sp=none∧b<w.heap.size)∧∀ i (h:i<l.length),w.cell? ⟨b,o + i,none⟩=some (.string l[i])
def RD:(n:Nat)→World→VT n→Value→Value→Prop
 | 0,_,_,_,_=>False
 | n + 1,w,x,ns,ls=>NL w ns x.1.names∧((ls=.slice none 0 0∧x.2=[])∨∃ (b o c:Nat) (sp:Option Nat),ls=.slice (some ⟨b,o,sp⟩) x.2.length c∧x.2.length≤c∧c≤maxLen∧(0<x.2.length→sp=none∧b<w.heap.size) ∧
   ∀ i (h:i<x.2.length),∃ ns' ls',w.rangeAt b (o + i * 9) (vals (vhd n x.2[i]) ns' ls').toList∧RD n w x.2[i] ns' ls')
theorem NL.below {w W:World} {v:Value} {l:List ByteArray} (h:NL w v l) (hb:Below w.heap.size w W):NL W v l:=by
 rcases h with ⟨rfl,rfl⟩|⟨b,o,c,sp,rfl,h1,h2,h3,hc⟩
 ·exact Or.inl ⟨rfl,rfl⟩
 ·refine Or.inr ⟨b,o,c,sp,rfl,h1,h2,fun h=>⟨(h3 h).1,Nat.lt_of_lt_of_le (h3 h).2 hb.size⟩,fun i hi=>?_⟩
  exact (hb.cell (p:=⟨b,o + i,none⟩) (h3 (by omega)).2).trans (hc i hi)
theorem rangeAt_below {w W:World} {b o:Nat} {cs:List Value} (h:w.rangeAt b o cs) (hb:Below w.heap.size w W) (hlt:b<w.heap.size):W.rangeAt b o cs :=
 fun j v hj=>(hb.cell (p:=⟨b,o + j,none⟩) hlt).trans (h j v hj)
theorem RD.below:∀ {n:Nat} {w W:World} {x:VT n} {ns ls:Value},RD n w x ns ls→Below w.heap.size w W→RD n W x ns ls
 | 0,_,_,x,_,_,_,_=>Empty.elim x
 | n + 1,w,W,x,ns,ls,h,hb=>by
  obtain ⟨h1,h2⟩:=h
  refine ⟨h1.below hb,?_⟩
  rcases h2 with h2|⟨b,o,c,sp,e,k1,k2,k3,hc⟩
  ·exact Or.inl h2
  ·refine Or.inr ⟨b,o,c,sp,e,k1,k2,fun h=>⟨(k3 h).1,Nat.lt_of_lt_of_le (k3 h).2 hb.size⟩,fun i hi=>?_⟩
   obtain ⟨ns',ls',r1,r2⟩:=hc i hi
   exact ⟨ns',ls',rangeAt_below r1 hb (k3 (by omega)).2,RD.below r2 hb⟩
theorem NL.len {w:World} {v:Value} {l:List ByteArray} (h:NL w v l):∃ a c,v=.slice a l.length c∧l.length≤c∧c≤maxLen:=by
 rcases h with ⟨rfl,rfl⟩|⟨b,o,c,sp,rfl,h1,h2,_⟩
 ·exact ⟨none,0,rfl,Nat.le_refl _,by decide⟩
 ·exact ⟨_,c,rfl,h1,h2⟩
theorem RD.len {n:Nat} {w:World} {x:VT (n + 1)} {ns ls:Value} (h:RD (n + 1) w x ns ls):∃ a c,ls=.slice a x.2.length c∧x.2.length≤c∧c≤maxLen:=by
 rcases h.2 with ⟨rfl,e⟩|⟨b,o,c,sp,rfl,h1,h2,_⟩
 ·exact ⟨none,0,by rw [e];rfl,by rw [e];exact Nat.le_refl _,by decide⟩
 ·exact ⟨_,c,rfl,h1,h2⟩
theorem RD.at {n:Nat} {w:World} {x:VT (n + 1)} {ns ls:Value} (h:RD (n + 1) w x ns ls) (i:Nat) (hi:i<x.2.length) :
  ∃ b o c,ls=.slice (some ⟨b,o,none⟩) x.2.length c∧b<w.heap.size∧x.2.length≤c∧c≤maxLen∧∃ ns' ls',w.rangeAt b (o + i * 9) (vals (vhd n x.2[i]) ns' ls').toList∧RD n w x.2[i] ns' ls':=by
 rcases h.2 with ⟨rfl,e⟩|⟨b,o,c,sp,rfl,h1,h2,h3,hc⟩
 ·rw [e] at hi;simp at hi
 ·obtain ⟨rfl,hb⟩:=h3 (by omega)
  exact ⟨b,o,c,rfl,hb,h1,h2,hc i hi⟩
theorem NL.at {w:World} {v:Value} {l:List ByteArray} (h:NL w v l) (i:Nat) (hi:i<l.length) :
  ∃ b o c,v=.slice (some ⟨b,o,none⟩) l.length c∧b<w.heap.size∧l.length≤c∧c≤maxLen∧w.cell? ⟨b,o + i,none⟩=some (.string l[i]):=by
 rcases h with ⟨rfl,rfl⟩|⟨b,o,c,sp,rfl,h1,h2,h3,hc⟩
 ·simp at hi
 ·obtain ⟨rfl,hb⟩:=h3 (by omega)
  exact ⟨b,o,c,rfl,hb,h1,h2,hc i hi⟩
theorem range9 {w:World} {b o:Nat} {h:Hd} {ns ls:Value} (k:w.rangeAt b o (vals h ns ls).toList):w.cell? ⟨b,o,none⟩=some (.int .i64 h.kind)∧w.cell? ⟨b,o + 1,none⟩=some (.bool h.flag)∧w.cell? ⟨b,o + 2,none⟩=some (.bool h.neg)∧w.cell? ⟨b,o + 3,none⟩=some (.string h.dig)∧w.cell? ⟨b,o + 4,none⟩=some (.int .i64 h.exp)∧w.cell? ⟨b,o + 5,none⟩=some (.int .u64 h.bits)∧w.cell? ⟨b,o + 6,none⟩=some (.string h.text)∧w.cell? ⟨b,o + 7,none⟩=some ns∧w.cell? ⟨b,o + 8,none⟩=some ls :=
 ⟨k 0 _ rfl,k 1 _ rfl,k 2 _ rfl,k 3 _ rfl,k 4 _ rfl,k 5 _ rfl,k 6 _ rfl,k 7 _ rfl,k 8 _ rfl⟩
theorem RD.shape:∀ {n:Nat} {w:World} {x:VT n} {ns ls:Value},RD n w x ns ls→∃ a m c a' m' c',ns=.slice a m c∧ls=.slice a' m' c'
 | 0,_,x,_,_,_=>Empty.elim x
 | n + 1,w,x,ns,ls,h=>by
  obtain ⟨a,c,e,_⟩:=h.1.len
  obtain ⟨a',c',e',_⟩:=h.len
  exact ⟨_,_,_,_,_,_,e,e'⟩
structure Bx (W:World) (i:Nat) (h:Hd) (ns ls:Value):Prop where
 at_:W.heap[i]?=some (.cells (vals h ns ls) 31 (0,0))
theorem bx_new (w:World) (h:Hd) (ns ls:Value):Bx (w.alloc (.cells (vals h ns ls) 31)) w.heap.size h ns ls:=⟨heap_alloc_last w _⟩
theorem Bx.lt {W:World} {i:Nat} {h:Hd} {ns ls:Value} (k:Bx W i h ns ls):i<W.heap.size:=by
 have:=k.at_
 by_cases hlt:i<W.heap.size
 ·exact hlt
 ·have hn:W.heap[i]?=none:=by simp;omega
  rw [hn] at this;cases this
theorem Bx.below {W W1:World} {i:Nat} {h:Hd} {ns ls:Value} (k:Bx W i h ns ls) (hb:Below W.heap.size W W1):Bx W1 i h ns ls:=⟨(hb.block _ k.lt).trans k.at_⟩
theorem Bx.cell {W:World} {i:Nat} {h:Hd} {ns ls:Value} (k:Bx W i h ns ls) (j:Nat):W.cell? ⟨i,j,none⟩=(vals h ns ls)[j]?:=by
 unfold World.cell?
 rw [k.at_]
 rfl
theorem Bx.cells {W:World} {i:Nat} {h:Hd} {ns ls:Value} (k:Bx W i h ns ls):W.cell? ⟨i,0,none⟩=some (.int .i64 h.kind)∧W.cell? ⟨i,1,none⟩=some (.bool h.flag)∧W.cell? ⟨i,2,none⟩=some (.bool h.neg)∧W.cell? ⟨i,3,none⟩=some (.string h.dig)∧W.cell? ⟨i,4,none⟩=some (.int .i64 h.exp)∧W.cell? ⟨i,5,none⟩=some (.int .u64 h.bits)∧W.cell? ⟨i,6,none⟩=some (.string h.text)∧W.cell? ⟨i,7,none⟩=some ns∧W.cell? ⟨i,8,none⟩=some ls :=
 ⟨k.cell 0,k.cell 1,k.cell 2,k.cell 3,k.cell 4,k.cell 5,k.cell 6,k.cell 7,k.cell 8⟩
end Go.Proofs.YtgicnopppgnjjaaGreatDoor
namespace Go.Proofs.YtgicnopppgnjjaaGreatDoor
open Go.RowKit
def mxl:List Nat→Nat
 | []=>0
 | a :: l=>max a (mxl l)
theorem mxl_app (a b:List Nat):mxl (a++b)=max (mxl a) (mxl b):=by
 induction a with
 | nil=>simp [mxl]
 | cons x a ih=>simp only [List.cons_append,mxl,ih];omega
def suml:List Nat→Nat
 | []=>0
 | a :: l=>a + suml l
theorem suml_app (a b:List Nat):suml (a++b)=suml a + suml b:=by
 induction a with
 | nil=>simp [suml]
 | cons x a ih=>simp only [List.cons_append,suml,ih];omega
theorem mxl_take (l:List Nat) (i:Nat) (h:i<l.length):mxl (l.take (i + 1))=max (mxl (l.take i)) l[i]:=by
 rw [List.take_succ_eq_append_getElem h,mxl_app];simp [mxl]
theorem suml_take (l:List Nat) (i:Nat) (h:i<l.length):suml (l.take (i + 1))=suml (l.take i) + l[i]:=by
 rw [List.take_succ_eq_append_getElem h,suml_app];simp [suml]
theorem suml_take_le (l:List Nat) (i:Nat):suml (l.take i)≤suml l:=by
 have:=suml_app (l.take i) (l.drop i)
 rw [List.take_append_drop] at this
 omega
theorem mxl_le {l m:List Nat} (h:∀ i (h1:i<l.length) (h2:i<m.length),l[i]≤m[i]) (hl:l.length=m.length):mxl l≤suml m:=by
 induction l generalizing m with
 | nil=>exact Nat.zero_le _
 | cons a l ih =>
  cases m with
  | nil=>simp at hl
  | cons b m =>
   have h0:=h 0 (by simp) (by simp)
   have:=ih (m:=m) (fun i h1 h2=>h (i + 1) (by simp;omega) (by simp;omega)) (by simpa using hl)
   simp only [List.getElem_cons_zero] at h0
   simp only [mxl,suml];omega
def dep:(n:Nat)→VT n→Nat
 | 0,_=>0
 | n + 1,x=>1 + mxl (x.2.map (dep n))
def siz:(n:Nat)→VT n→Nat
 | 0,_=>0
 | n + 1,x=>1 + suml (x.2.map (siz n))
theorem dep_le:∀ (n:Nat) (x:VT n),dep n x≤siz n x
 | 0,x=>Empty.elim x
 | n + 1,x=>by
  simp only [dep,siz]
  have:=mxl_le (l:=x.2.map (dep n)) (m:=x.2.map (siz n)) (fun i h1 h2=>by simp only [List.getElem_map];exact dep_le n _) (by simp)
  omega
theorem suml_mem {l:List Nat} {i:Nat} (h:i<l.length):l[i]≤suml l:=by
 have h1:=suml_take l i h
 have h2:=suml_take_le l (i + 1)
 omega
theorem siz_mem {n:Nat} {x:VT (n + 1)} {i:Nat} (h:i<x.2.length):siz n x.2[i]<siz (n + 1) x:=by
 have:=suml_mem (l:=x.2.map (siz n)) (i:=i) (by simpa using h)
 simp only [List.getElem_map] at this
 simp only [siz];omega
set_option maxHeartbeats 1000000 in
set_option maxRecDepth 100000 in
theorem depth_any:∀ (n:Nat) (x:VT n) (ns ls:Value) (w:World),RD n w x ns ls→siz n x≤200000 →
  Calls Tryz.prog 172 #[.agg (vals (vhd n x) ns ls)] w fun e w'=>e=.returned (.int .i64 (dep n x))∧Below w.heap.size w w':=by
 intro n
 induction n with
 | zero=>intro x;exact Empty.elim x
 | succ n ih =>
  intro x ns ls w hr hs
  obtain ⟨h,l⟩:=x
  obtain ⟨al,cl,rfl,hc1,hc2⟩:=hr.len
  have hr:=hide hr
  have ih':=hide ih
  have hs':=hide hs
  clear ih hs
  show Calls _ _ #[.agg #[.int .i64 h.kind,.bool h.flag,.bool h.neg,.string h.dig,.int .i64 h.exp,.int .u64 h.bits,.string h.text,ns,.slice al l.length cl]] _ _
  go_enter Tryz.func172, Tryz.ntmps172
  go_wp2_with fail
  go_loopw [3,9] (fun m i w'=>∃ k:Nat,m=.int .i64 (mxl ((l.map (dep n)).take k):Nat)∧i=.int .i64 k∧k≤l.length∧Hid (Below w.heap.size w w')) (fun _ i _=>l.length - (intOf i).toNat)
  case atStart=>exact ⟨0,rfl,rfl,Nat.zero_le _,below_al (Below.refl _ _)⟩
  case round =>
   obtain ⟨k,rfl,rfl,hk,hb⟩:=hrel
   have ml:maxLen=9223372036854775807:=rfl
   have hk63:(k:Int)≤9223372036854775807:=by omega
   by_cases hkl:k<l.length
   ·obtain ⟨b,o,c,he,hbl,hlc,hcm,ns',ls',hrg,hrd⟩:=hr.out.at k hkl
    have he':=Value.slice.inj he
    obtain ⟨rfl,_,rfl⟩:=he'
    clear he
    have hki:(k:Int)<(l.length:Int):=by omega
    have hk63:(k:Int)<9223372036854775807:=by omega
    obtain ⟨c0,c1,c2,c3,c4,c5,c6,c7,c8⟩:=range9 (rangeAt_below hrg hb.out hbl)
    have hrd':=hide (hrd.below hb.out)
    obtain ⟨a1,m1,d1,a2,m2,d2,rfl,rfl⟩:=hrd.shape
    clear hrg hrd
    have hsk:siz n l[k]≤200000:=by have h1:=siz_mem (x:=(h,l)) hkl;have h2:=hs'.out;simp only at h1;omega
    obtain ⟨D,hD⟩:∃ D,dep n l[k]=D:=⟨_,rfl⟩
    have hmx:=mxl_take (l.map (dep n)) k (by simpa using hkl)
    rw [List.getElem_map,hD] at hmx
    have hcall:=hide (fun o=>ih'.out l[k] (.slice a1 m1 d1) (.slice a2 m2 d2) (wr.alloc o) (hrd'.out.below (below_al (Below.refl _ _))) hsk)
    rw [hD] at hcall
    obtain ⟨M,hM⟩:∃ M,mxl ((l.map (dep n)).take k)=M:=⟨_,rfl⟩
    rw [hM] at hmx ⊢
    have hmx':=hide hmx
    have hD':=hide hD
    have hM':=hide hM
    clear hD hM hsk hmx
    rcases Nat.lt_trichotomy M D with hlt|hlt|hlt
    ·have hdi:(M:Int)<(D:Int):=by omega
     have hdj:¬ ((D:Int)<(M:Int)):=by omega
     go_wp2_with (go_at_call 172;refine (hcall.out _).mono ?_;rintro e w1 ⟨rfl,hb1⟩)
     exact ⟨⟨k + 1,by rw [hmx'.out];congr 2;omega,by go_num,by omega,below_then (below_al hb.out) hb1⟩,by simp [intOf];omega⟩
    ·subst hlt
     have hdi:¬ ((M:Int)<(M:Int)):=by omega
     go_wp2_with (go_at_call 172;refine (hcall.out _).mono ?_;rintro e w1 ⟨rfl,hb1⟩)
     exact ⟨⟨k + 1,by rw [hmx'.out];congr 2;omega,by go_num,by omega,below_then (below_al hb.out) hb1⟩,by simp [intOf];omega⟩
    ·have hdi:(D:Int)<(M:Int):=by omega
     have hdj:¬ ((M:Int)<(D:Int)):=by omega
     go_wp2_with (go_at_call 172;refine (hcall.out _).mono ?_;rintro e w1 ⟨rfl,hb1⟩)
     exact ⟨⟨k + 1,by rw [hmx'.out];congr 2;omega,by go_num,by omega,below_then (below_al hb.out) hb1⟩,by simp [intOf];omega⟩
   ·have hki:¬ ((k:Int)<(l.length:Int)):=by omega
    have hkl2:k=l.length:=by omega
    have hD:dep (n + 1) (h,l)=1 + mxl ((l.map (dep n)).take k):=by
     simp only [dep]
     rw [List.take_of_length_le (by simp;omega)]
    have hsz:1 + mxl ((l.map (dep n)).take k)≤200000:=by
     rw [←hD];exact Nat.le_trans (dep_le _ _) hs'.out
    obtain ⟨M,hM⟩:∃ M,mxl ((l.map (dep n)).take k)=M:=⟨_,rfl⟩
    rw [hM] at hsz hD ⊢
    have hD':=hide hD
    clear hD hM hkl2
    have hM2:(M:Int)<200000:=by omega
    clear hsz
    go_wp2_with fail
    go_ret
    exact ⟨by rw [hD'.out];exact ret_int (by omega),hb.out⟩
set_option maxHeartbeats 1000000 in
set_option maxRecDepth 100000 in
theorem size_any:∀ (n:Nat) (x:VT n) (ns ls:Value) (w:World),RD n w x ns ls→siz n x≤200000 →
  Calls Tryz.prog 173 #[.agg (vals (vhd n x) ns ls)] w fun e w'=>e=.returned (.int .i64 (siz n x))∧Below w.heap.size w w':=by
 intro n
 induction n with
 | zero=>intro x;exact Empty.elim x
 | succ n ih =>
  intro x ns ls w hr hs
  obtain ⟨h,l⟩:=x
  obtain ⟨al,cl,rfl,hc1,hc2⟩:=hr.len
  have hr:=hide hr
  have ih':=hide ih
  have hs':=hide hs
  clear ih hs
  show Calls _ _ #[.agg #[.int .i64 h.kind,.bool h.flag,.bool h.neg,.string h.dig,.int .i64 h.exp,.int .u64 h.bits,.string h.text,ns,.slice al l.length cl]] _ _
  go_enter Tryz.func173, Tryz.ntmps173
  go_wp2_with fail
  go_loopw [3,9] (fun m i w'=>∃ k:Nat,m=.int .i64 (1 + suml ((l.map (siz n)).take k):Nat)∧i=.int .i64 k∧k≤l.length∧Hid (Below w.heap.size w w')) (fun _ i _=>l.length - (intOf i).toNat)
  case atStart=>exact ⟨0,rfl,rfl,Nat.zero_le _,below_al (Below.refl _ _)⟩
  case round =>
   obtain ⟨k,rfl,rfl,hk,hb⟩:=hrel
   have ml:maxLen=9223372036854775807:=rfl
   have hk63:(k:Int)≤9223372036854775807:=by omega
   obtain ⟨M,hM⟩:∃ M,1 + suml ((l.map (siz n)).take k)=M:=⟨_,rfl⟩
   have hMle:M≤200000:=by
    have h1:=suml_take_le (l.map (siz n)) k
    have h2:=hs'.out
    simp only [siz] at h2
    omega
   by_cases hkl:k<l.length
   ·obtain ⟨b,o,c,he,hbl,hlc,hcm,ns',ls',hrg,hrd⟩:=hr.out.at k hkl
    have he':=Value.slice.inj he
    obtain ⟨rfl,_,rfl⟩:=he'
    clear he
    have hki:(k:Int)<(l.length:Int):=by omega
    have hk63:(k:Int)<9223372036854775807:=by omega
    obtain ⟨c0,c1,c2,c3,c4,c5,c6,c7,c8⟩:=range9 (rangeAt_below hrg hb.out hbl)
    have hrd':=hide (hrd.below hb.out)
    obtain ⟨a1,m1,d1,a2,m2,d2,rfl,rfl⟩:=hrd.shape
    clear hrg hrd
    have hsk:siz n l[k]≤200000:=by have h1:=siz_mem (x:=(h,l)) hkl;have h2:=hs'.out;simp only at h1;omega
    obtain ⟨D,hD⟩:∃ D,siz n l[k]=D:=⟨_,rfl⟩
    have hmx:=suml_take (l.map (siz n)) k (by simpa using hkl)
    rw [List.getElem_map,hD] at hmx
    have hcall:=hide (fun o=>ih'.out l[k] (.slice a1 m1 d1) (.slice a2 m2 d2) (wr.alloc o) (hrd'.out.below (below_al (Below.refl _ _))) hsk)
    rw [hD] at hcall hsk
    have hmx:1 + suml ((l.map (siz n)).take (k + 1))=M + D:=by omega
    rw [hM]
    have hmx':=hide hmx
    have hD1:(D:Int)≤200000:=by omega
    have hM1:(M:Int)≤200000:=by omega
    clear hD hM hsk hmx hMle
    go_wp2_with (go_at_call 173;refine (hcall.out _).mono ?_;rintro e w1 ⟨rfl,hb1⟩)
    exact ⟨⟨k + 1,by rw [hmx'.out];first|rfl|(congr 1),by go_num,by omega,below_then (below_al hb.out) hb1⟩,by simp [intOf];omega⟩
   ·have hki:¬ ((k:Int)<(l.length:Int)):=by omega
    have hD:siz (n + 1) (h,l)=M:=by
     rw [←hM]
     simp only [siz]
     rw [List.take_of_length_le (by simp;omega)]
    rw [hM]
    have hD':=hide hD
    clear hD hM hMle
    go_wp2_with fail
    go_ret
    exact ⟨by rw [hD'.out];rfl,hb.out⟩
end Go.Proofs.YtgicnopppgnjjaaGreatDoor
namespace Go.Proofs.YtgicnopppgnjjaaGreatDoor
open Go.RowKit
def blk:(n:Nat)→VT n→Nat
 | 0,_=>0
 | n + 1,x=>1 + x.1.text.size + x.1.dig.size + x.1.names.length + suml (x.1.names.map ByteArray.size) + suml (x.2.map (blk n))
def Sz:(n:Nat)→VT n→Prop
 | 0,_=>True
 | n + 1,x=>x.1.text.size≤281474976710656∧x.1.dig.size≤281474976710656∧x.1.names.length≤281474976710656∧(∀ s∈x.1.names,s.size≤281474976710656)∧∀ y∈x.2,Sz n y
theorem siz_blk:∀ (n:Nat) (x:VT n),siz n x≤blk n x
 | 0,x=>Empty.elim x
 | n + 1,x=>by
  simp only [siz,blk]
  have:suml (x.2.map (siz n))≤suml (x.2.map (blk n)):=by
   generalize x.2=l
   induction l with
   | nil=>exact Nat.le_refl _
   | cons a l ih=>simp only [List.map_cons,suml];have:=siz_blk n a;omega
  omega
def mny:(n:Nat)→VT n→Bool
 | 0,_=>false
 | n + 1,x=>decide (2000<x.1.names.length) || x.2.any (mny n)
theorem any_at {α:Type} {p:α→Bool} {l:List α} {i:Nat} (h:i<l.length) (hp:p l[i]=true):l.any p=true:=List.any_eq_true.2 ⟨_,List.getElem_mem h,hp⟩
set_option maxHeartbeats 1000000 in
set_option maxRecDepth 100000 in
theorem many_any:∀ (n:Nat) (x:VT n) (ns ls:Value) (w:World),RD n w x ns ls →
  Calls Tryz.prog 116 #[.agg (vals (vhd n x) ns ls)] w fun e w'=>e=.returned (.bool (mny n x))∧Below w.heap.size w w':=by
 intro n
 induction n with
 | zero=>intro x;exact Empty.elim x
 | succ n ih =>
  intro x ns ls w hr
  obtain ⟨h,l⟩:=x
  obtain ⟨al,cl,rfl,hc1,hc2⟩:=hr.len
  obtain ⟨an,cn,rfl,hn1,hn2⟩:=hr.1.len
  have hr:=hide hr
  have ih':=hide ih
  clear ih
  simp only at hn1 hn2 hc1 hc2
  have ml:maxLen=9223372036854775807:=rfl
  have hB0:=hide (bx_new w h (.slice an h.names.length cn) (.slice al l.length cl))
  show Calls _ _ #[.agg #[.int .i64 h.kind,.bool h.flag,.bool h.neg,.string h.dig,.int .i64 h.exp,.int .u64 h.bits,.string h.text,.slice an h.names.length cn,.slice al l.length cl]] _ _
  by_cases h2:(2000:Int)<(h.names.length:Int)
  ·have hD:mny (n + 1) (h,l)=true:=by simp only [mny];rw [decide_eq_true (by omega)];rfl
   have hD':=hide hD
   clear hD
   go_enter Tryz.func116, Tryz.ntmps116
   go_wp2_with fail
   go_ret
   exact ⟨by rw [hD'.out];rfl,below_al (Below.refl _ _)⟩
  ·have hD:mny (n + 1) (h,l)=l.any (mny n):=by simp only [mny];rw [decide_eq_false (by omega)];rfl
   have hD':=hide hD
   clear hD
   go_enter Tryz.func116, Tryz.ntmps116
   go_wp2_with fail
   go_loopw [3] (fun i w'=>∃ k:Nat,i=.int .i64 k∧k≤l.length∧Hid ((l.take k).any (mny n)=false∧Below w.heap.size w w'∧Bx w' w.heap.size h (.slice an h.names.length cn) (.slice al l.length cl))) (fun i _=>l.length - (intOf i).toNat)
   case atStart=>exact ⟨0,rfl,Nat.zero_le _,rfl,below_al (Below.refl _ _),hB0.out⟩
   case round =>
    obtain ⟨k,rfl,hk,H⟩:=hrel
    obtain ⟨c0,c1,c2,c3,c4,c5,c6,c7,c8⟩:=H.out.2.2.cells
    clear c0 c1 c2 c3 c4 c5 c6 c7
    by_cases hkl:k<l.length
    ·have hki:(k:Int)<(l.length:Int):=by omega
     have hk63:(k:Int)<9223372036854775807:=by omega
     obtain ⟨b,o,c,he,hbl,hlc,hcm,ns',ls',hrg,hrd⟩:=hr.out.at k hkl
     have he':=Value.slice.inj he
     obtain ⟨rfl,_,rfl⟩:=he'
     clear he
     obtain ⟨q0,q1,q2,q3,q4,q5,q6,q7,q8⟩:=range9 (rangeAt_below hrg H.out.2.1 hbl)
     have hrd':=hide (hrd.below H.out.2.1)
     obtain ⟨a1,m1,d1,a2,m2,d2,rfl,rfl⟩:=hrd.shape
     clear hrg hrd
     have hcall:=hide (ih'.out l[k] (.slice a1 m1 d1) (.slice a2 m2 d2) wr hrd'.out)
     cases hm:mny n l[k]
     ·rw [hm] at hcall
      have hm':=hide hm
      clear hm
      go_wp2_with (go_at_call 116;refine hcall.out.mono ?_;rintro e w1 ⟨rfl,hb1⟩)
      refine ⟨⟨k + 1,by go_num,by omega,?_,below_then H.out.2.1 hb1,H.out.2.2.below hb1⟩,by simp [intOf];omega⟩
      rw [List.take_succ_eq_append_getElem hkl,List.any_append,H.out.1]
      have:=hm'.out
      simp only [List.any_cons,List.any_nil,Bool.or_false,Bool.false_or]
      exact this
     ·rw [hm] at hcall
      have hm':=hide hm
      clear hm
      go_wp2_with (go_at_call 116;refine hcall.out.mono ?_;rintro e w1 ⟨rfl,hb1⟩)
      go_ret
      exact ⟨by rw [hD'.out,any_at hkl hm'.out];rfl,below_then H.out.2.1 hb1⟩
    ·have hki:¬ ((k:Int)<(l.length:Int)):=by omega
     have hE:=H.out.1
     rw [List.take_of_length_le (by omega)] at hE
     have hE':=hide hE
     clear hE
     go_wp2_with fail
     go_ret
     exact ⟨by rw [hD'.out,hE'.out];rfl,H.out.2.1⟩
end Go.Proofs.YtgicnopppgnjjaaGreatDoor
