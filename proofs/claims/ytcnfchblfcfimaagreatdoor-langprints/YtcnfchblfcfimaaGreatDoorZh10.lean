import Derived.Test.YtcnfchblfcfimaaGreatDoorZh00
import Derived.Test.YtcnfchblfcfimaaGreatDoorRows
import Derived.Laws.Rows
import Derived.Deep.MidRow
import Derived.Deep.WholeRow
set_option linter.all false
namespace Go.Proofs.YtcnfchblfcfimaaGreatDoor
open RowKit
structure Hd where
 kind:Int
 flag:Bool
 neg:Bool
 dig:ByteArray
 exp:Int
 bits:Int
 text:ByteArray
 names:List ByteArray
def VT:Nat->Type
 |0=>Empty
 |n+1=>Hd×List (VT n)
def aI:(n:Nat)->VT n->Hd
 |0,x=>Empty.elim x
 |_+1,x=>x.1
def aP(h:Hd)(ns ls:Value):Array Value:=#[.int .i64 h.kind,.bool h.flag,.bool h.neg,.string h.dig,.int .i64 h.exp,.int .u64 h.bits,.string h.text,ns,ls]
def NL(w:World)(v:Value)(l:List ByteArray):Prop :=
 (v=.slice none 0 0/\l=[])\/∃(b o c:Nat) (sp:Option Nat),v=.slice (some ⟨b,o,sp⟩) l.length c/\l.length<=c/\c<=maxLen/\(0<l.length->sp=none/\b<w.heap.size)/\∀i (h:i<l.length),w.cell? ⟨b,o+i,none⟩=some (.string l[i])
def RD:(n:Nat)->World->VT n->Value->Value->Prop
 |0,_,_,_,_=>False
 |n+1,w,x,ns,ls=>NL w ns x.1.names/\((ls=.slice none 0 0/\x.2=[])\/∃(b o c:Nat) (sp:Option Nat),ls=.slice (some ⟨b,o,sp⟩) x.2.length c/\x.2.length<=c/\c<=maxLen/\(0<x.2.length->sp=none/\b<w.heap.size) /\
   ∀i (h:i<x.2.length),∃ns' ls',w.rangeAt b (o+i*9) (aP (aI n x.2[i]) ns' ls').toList/\RD n w x.2[i] ns' ls')
theorem NL.below{w W:World}{v:Value}{l:List ByteArray}(h:NL w v l)(hb:Below w.heap.size w W):NL W v l:=by
 rcases h with⟨rfl,rfl⟩|⟨b,o,c,sp,rfl,h1,h2,h3,hc⟩
 ·exact Or.inl ⟨rfl,rfl⟩
 refine Or.inr ⟨b,o,c,sp,rfl,h1,h2,fun h=>⟨(h3 h).1,Nat.lt_of_lt_of_le (h3 h).2 hb.size⟩,fun i hi=>?_⟩;exact(hb.cell (p:=⟨b,o+i,none⟩) (h3 (by omega)).2).trans (hc i hi)
theorem am{w W:World}{b o:Nat}{cs:List Value}(h:w.rangeAt b o cs)(hb:Below w.heap.size w W)(bm:b<w.heap.size):W.rangeAt b o cs :=
 fun j v hj=>(hb.cell (p:=⟨b,o+j,none⟩) bm).trans (h j v hj)
theorem RD.below:∀ {n:Nat} {w W:World} {x:VT n} {ns ls:Value},RD n w x ns ls->Below w.heap.size w W->RD n W x ns ls
 |0,_,_,x,_,_,_,_=>Empty.elim x
 |n+1,w,W,x,ns,ls,h,hb=>by
  obtain⟨h1,h2⟩:=h;refine⟨h1.below hb,?_⟩;rcases h2 with h2|⟨b,o,c,sp,e,k1,k2,k3,hc⟩
  ·exact Or.inl h2
  refine Or.inr ⟨b,o,c,sp,e,k1,k2,fun h=>⟨(k3 h).1,Nat.lt_of_lt_of_le (k3 h).2 hb.size⟩,fun i hi=>?_⟩;obtain⟨ns',ls',r1,r2⟩:=hc i hi;exact⟨ns',ls',am r1 hb (k3 (by omega)).2,RD.below r2 hb⟩
theorem NL.len{w:World}{v:Value}{l:List ByteArray}(h:NL w v l):∃a c,v=.slice a l.length c/\l.length<=c/\c<=maxLen:=by
 rcases h with⟨rfl,rfl⟩|⟨b,o,c,sp,rfl,h1,h2,_⟩
 ·exact⟨none,0,rfl,Nat.le_refl _,by decide⟩
 exact⟨_,c,rfl,h1,h2⟩
theorem RD.len{n:Nat}{w:World}{x:VT (n+1)}{ns ls:Value}(h:RD (n+1) w x ns ls):∃a c,ls=.slice a x.2.length c/\x.2.length<=c/\c<=maxLen:=by
 rcases h.2 with⟨rfl,e⟩|⟨b,o,c,sp,rfl,h1,h2,_⟩
 ·exact⟨none,0,by rw[e];rfl,by rw[e];exact Nat.le_refl _,by decide⟩
 exact⟨_,c,rfl,h1,h2⟩
theorem RD.at{n:Nat}{w:World}{x:VT (n+1)}{ns ls:Value}(h:RD (n+1) w x ns ls)(i:Nat)(hi:i<x.2.length):∃b o c,ls=.slice (some ⟨b,o,none⟩) x.2.length c/\b<w.heap.size/\x.2.length<=c/\c<=maxLen/\∃ns' ls',w.rangeAt b (o+i*9) (aP (aI n x.2[i]) ns' ls').toList/\RD n w x.2[i] ns' ls':=by
 rcases h.2 with⟨rfl,e⟩|⟨b,o,c,sp,rfl,h1,h2,h3,hc⟩
 ·rw[e]at hi;simp at hi
 obtain⟨rfl,hb⟩:=h3 (by omega);exact⟨b,o,c,rfl,hb,h1,h2,hc i hi⟩
theorem NL.at{w:World}{v:Value}{l:List ByteArray}(h:NL w v l)(i:Nat)(hi:i<l.length):∃b o c,v=.slice (some ⟨b,o,none⟩) l.length c/\b<w.heap.size/\l.length<=c/\c<=maxLen/\w.cell? ⟨b,o+i,none⟩=some (.string l[i]):=by
 rcases h with⟨rfl,rfl⟩|⟨b,o,c,sp,rfl,h1,h2,h3,hc⟩
 ·simp at hi
 obtain⟨rfl,hb⟩:=h3 (by omega);exact⟨b,o,c,rfl,hb,h1,h2,hc i hi⟩
theorem fm{w:World}{b o:Nat}{h:Hd}{ns ls:Value}(k:w.rangeAt b o (aP h ns ls).toList):w.cell? ⟨b,o,none⟩=some (.int .i64 h.kind)/\w.cell? ⟨b,o+1,none⟩=some (.bool h.flag)/\w.cell? ⟨b,o+2,none⟩=some (.bool h.neg)/\w.cell? ⟨b,o+3,none⟩=some (.string h.dig)/\w.cell? ⟨b,o+4,none⟩=some (.int .i64 h.exp)/\w.cell? ⟨b,o+5,none⟩=some (.int .u64 h.bits)/\w.cell? ⟨b,o+6,none⟩=some (.string h.text)/\w.cell? ⟨b,o+7,none⟩=some ns/\w.cell? ⟨b,o+8,none⟩=some ls :=
 ⟨k 0 _ rfl,k 1 _ rfl,k 2 _ rfl,k 3 _ rfl,k 4 _ rfl,k 5 _ rfl,k 6 _ rfl,k 7 _ rfl,k 8 _ rfl⟩
theorem RD.shape:∀ {n:Nat} {w:World} {x:VT n} {ns ls:Value},RD n w x ns ls->∃a m c a' m' c',ns=.slice a m c/\ls=.slice a' m' c'
 |0,_,x,_,_,_=>Empty.elim x
 |n+1,w,x,ns,ls,h=>by obtain⟨a,c,e,_⟩:=h.1.len;obtain⟨a',c',e',_⟩:=h.len;exact⟨_,_,_,_,_,_,e,e'⟩
structure Bx(W:World)(i:Nat)(h:Hd)(ns ls:Value):Prop where
 at_:W.heap[i]?=some (.cells (aP h ns ls) 31 (0,0))
theorem eg(w:World)(h:Hd)(ns ls:Value):Bx (w.alloc (.cells (aP h ns ls) 31)) w.heap.size h ns ls:=⟨heap_alloc_last w _⟩
theorem Bx.lt{W:World}{i:Nat}{h:Hd}{ns ls:Value}(k:Bx W i h ns ls):i<W.heap.size:=by
 have:=k.at_;by_cases bm:i<W.heap.size
 ·exact bm
 have hn:W.heap[i]?=none:=by simp;omega
 rw[hn]at this;cases this
theorem Bx.below{W W1:World}{i:Nat}{h:Hd}{ns ls:Value}(k:Bx W i h ns ls)(hb:Below W.heap.size W W1):Bx W1 i h ns ls:=⟨(hb.block _ k.lt).trans k.at_⟩
theorem Bx.cell{W:World}{i:Nat}{h:Hd}{ns ls:Value}(k:Bx W i h ns ls)(j:Nat):W.cell? ⟨i,j,none⟩=(aP h ns ls)[j]?:=by unfold World.cell?;rw[k.at_];rfl
theorem Bx.cells{W:World}{i:Nat}{h:Hd}{ns ls:Value}(k:Bx W i h ns ls):W.cell? ⟨i,0,none⟩=some (.int .i64 h.kind)/\W.cell? ⟨i,1,none⟩=some (.bool h.flag)/\W.cell? ⟨i,2,none⟩=some (.bool h.neg)/\W.cell? ⟨i,3,none⟩=some (.string h.dig)/\W.cell? ⟨i,4,none⟩=some (.int .i64 h.exp)/\W.cell? ⟨i,5,none⟩=some (.int .u64 h.bits)/\W.cell? ⟨i,6,none⟩=some (.string h.text)/\W.cell? ⟨i,7,none⟩=some ns/\W.cell? ⟨i,8,none⟩=some ls :=
 ⟨k.cell 0,k.cell 1,k.cell 2,k.cell 3,k.cell 4,k.cell 5,k.cell 6,k.cell 7,k.cell 8⟩
theorem Bx.range{W:World}{i:Nat}{h:Hd}{ns ls:Value}(k:Bx W i h ns ls):W.rangeAt i 0 (aP h ns ls).toList:=by intro j v hj;rw[Nat.zero_add,k.cell j,<-hj,Array.getElem?_toList]
