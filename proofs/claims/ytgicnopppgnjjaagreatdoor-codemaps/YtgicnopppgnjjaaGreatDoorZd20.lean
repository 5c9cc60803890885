/- Merged by program: WoOpen. -/
import Derived.Test.YtgicnopppgnjjaaGreatDoorZd07
import Derived.Test.YtgicnopppgnjjaaGreatDoorUZd08
import Derived.Deep.Strs
import Derived.SizedLaws
import Derived.ProofKit
import Derived.Lib.SmallJoins
import Derived.Lib.LaidTab
import Derived.ChangeMaps5
import Derived.Lay
import Derived.SevenTiedAt
set_option linter.unusedSimpArgs false
set_option linter.unusedVariables false
namespace Go.Proofs.YtgicnopppgnjjaaGreatDoor
open Go.ChangeShapes Go.WideShapes Go.ChangeAt Go.RowKit Go.Joins
set_option maxRecDepth 100000
theorem own:ownKnob Tryz.prog.godebug=none:=by kernel_rfl
theorem laidOut:laidOutB Tryz.prog=true:=by kernel_rfl
theorem cV:Tryz.prog.cellsOf 31=9:=by kernel_rfl
theorem cN:Tryz.prog.cellsOf 27=3:=by kernel_rfl
theorem c9:Tryz.prog.cellsOf 9=1:=by kernel_rfl
theorem c4:Tryz.prog.cellsOf 4=1:=by kernel_rfl
theorem c3:Tryz.prog.cellsOf 3=1:=by kernel_rfl
theorem cK:Tryz.prog.cellsOf 25=1:=by kernel_rfl
theorem cU:Tryz.prog.cellsOf 28=1:=by kernel_rfl
theorem cS:Tryz.prog.cellsOf 23=1:=by kernel_rfl
theorem cL:Tryz.prog.cellsOf 29=1:=by kernel_rfl
theorem by9:Tryz.prog.bytesOf 9=16:=by kernel_rfl
theorem nine {cs:List Value} (h:cs.length=9):∃ a0 a1 a2 a3 a4 a5 a6 a7 a8,cs=[a0,a1,a2,a3,a4,a5,a6,a7,a8]:=by
 match cs,h with
 | [a0,a1,a2,a3,a4,a5,a6,a7,a8],_=>exact ⟨_,_,_,_,_,_,_,_,_,rfl⟩
theorem weights_in {H:Type} {P:Program} {e:TypeId} {ds:List (DataW H)} {d:DataW H} (hd:d∈ds) {n:Nat} (hn:n∈DataW.weights P e d):n∈DataW.weightsAll P e ds:=by
 induction ds with
 | nil=>cases hd
 | cons x xs ih =>
  simp only [DataW.weightsAll,List.mem_append]
  rcases List.mem_cons.1 hd with rfl|h
  ·exact Or.inl hn
  ·exact Or.inr (ih h)
theorem weightsE {H:Type} {P:Program} {t:TypeId} {ts:List TypeId} {d:DataW H} {ds:List (DataW H)}:DataW.weightsEach P (t :: ts) (d :: ds)=DataW.weights P t d++DataW.weightsEach P ts ds:=rfl
theorem list_of {α:Type} {p:Nat→α→Prop}:∀ (len:Nat),(∀ i,i<len→∃ a,p i a)→∃ l:List α,l.length=len∧∀ i (h:i<l.length),p i l[i]
 | 0,_=>⟨[],rfl,fun i h=>by simp at h⟩
 | n + 1,h=>by
  obtain ⟨l,hl,hp⟩:=list_of n (fun i hi=>h i (by omega))
  obtain ⟨a,ha⟩:=h n (by omega)
  refine ⟨l++[a],by simp [hl],fun i hi=>?_⟩
  by_cases q:i<l.length
  ·rw [List.getElem_append_left q];exact hp i q
  ·have:i=n:=by simp at hi;omega
   subst this
   rw [List.getElem_append_right (by omega)]
   simp [hl,ha]
theorem spot_none {w:World} {a:Addr} {v:Value} (h:w.cell? a=some v):a.spot=none:=by
 unfold World.cell? at h
 split at h
 ·cases hs:a.spot with
  | none=>rfl
  | some q=>rw [hs] at h;simp at h
 ·cases h
theorem add_none {a:Addr} (h:a.spot=none) (i:Nat):a.add i=⟨a.block,a.off + i,none⟩:=by
 obtain ⟨b,o,sp⟩:=a
 simp only at h
 subst h
 exact Addr.add_mid b o i
theorem reach_le {n:Nat} (h:n≤reachBytes):n≤281474976710656:=by
 have:reachBytes=140737488351232:=by decide
 omega
section
variable {H : Type} {enc : TypeId × Value → H} {W : World}
theorem open_v:∀ (fuel N:Nat),fuel≤N→∀ (cs:List Value) (x:DataW H×List MemPlace),DataW.trod enc Tryz.prog W 0 (fun _=>true) true fuel 31 cs=some x →
  (∀ q∈x.2,q.block<W.heap.size)→(∀ k∈DataW.weights Tryz.prog 31 x.1,k≤reachBytes)→∃ (t:VT N) (ns ls:Value),cs=(vals (vhd N t) ns ls).toList∧RD N W t ns ls∧Sz N t:=by
 intro fuel
 induction fuel using Nat.strongRecOn with
 | ind fuel ih =>
  intro N hN cs x h hp hw
  obtain ⟨xs,n,rfl,rfl,hlen,hxs,hel⟩:=DataW.trod_struct Tryz.underlying31 h
  obtain ⟨M,rfl⟩:∃ M,N=M + 1:=⟨N - 1,by omega⟩
  rw [cV] at hlen
  obtain ⟨a0,a1,a2,a3,a4,a5,a6,a7,a8,rfl⟩:=nine hlen
  obtain ⟨x0,x1,x2,x3,x4,x5,x6,rfl⟩:∃ x0 x1 x2 x3 x4 x5 x6,xs=[x0,x1,x2,x3,x4,x5,x6]:=by
   match xs,hxs with
   | [x0,x1,x2,x3,x4,x5,x6],_=>exact ⟨_,_,_,_,_,_,_,rfl⟩
  have e0:=hel 0 _ rfl
  have e1:=hel 1 _ rfl
  have e2:=hel 2 _ rfl
  have e3:=hel 3 _ rfl
  have e4:=hel 4 _ rfl
  have e5:=hel 5 _ rfl
  have e6:=hel 6 _ rfl
  replace e0:DataW.trod enc Tryz.prog W 0 (fun _=>true) true n 25 (([a0,a1,a2,a3,a4,a5,a6,a7,a8].drop 0).take (Tryz.prog.cellsOf 25))=some x0:=e0
  rw [cK] at e0
  replace e1:DataW.trod enc Tryz.prog W 0 (fun _=>true) true n 4 (([a0,a1,a2,a3,a4,a5,a6,a7,a8].drop 1).take (Tryz.prog.cellsOf 4))=some x1:=e1
  rw [c4] at e1
  replace e2:DataW.trod enc Tryz.prog W 0 (fun _=>true) true n 27 (([a0,a1,a2,a3,a4,a5,a6,a7,a8].drop 2).take (Tryz.prog.cellsOf 27))=some x2:=e2
  rw [cN] at e2
  replace e3:DataW.trod enc Tryz.prog W 0 (fun _=>true) true n 28 (([a0,a1,a2,a3,a4,a5,a6,a7,a8].drop 5).take (Tryz.prog.cellsOf 28))=some x3:=e3
  rw [cU] at e3
  replace e4:DataW.trod enc Tryz.prog W 0 (fun _=>true) true n 9 (([a0,a1,a2,a3,a4,a5,a6,a7,a8].drop 6).take (Tryz.prog.cellsOf 9))=some x4:=e4
  rw [c9] at e4
  replace e5:DataW.trod enc Tryz.prog W 0 (fun _=>true) true n 23 (([a0,a1,a2,a3,a4,a5,a6,a7,a8].drop 7).take (Tryz.prog.cellsOf 23))=some x5:=e5
  rw [cS] at e5
  replace e6:DataW.trod enc Tryz.prog W 0 (fun _=>true) true n 29 (([a0,a1,a2,a3,a4,a5,a6,a7,a8].drop 8).take (Tryz.prog.cellsOf 29))=some x6:=e6
  rw [cL] at e6
  replace e0:DataW.trod enc Tryz.prog W 0 (fun _=>true) true n 25 [a0]=some x0:=e0
  replace e1:DataW.trod enc Tryz.prog W 0 (fun _=>true) true n 4 [a1]=some x1:=e1
  replace e2:DataW.trod enc Tryz.prog W 0 (fun _=>true) true n 27 [a2,a3,a4]=some x2:=e2
  replace e3:DataW.trod enc Tryz.prog W 0 (fun _=>true) true n 28 [a5]=some x3:=e3
  replace e4:DataW.trod enc Tryz.prog W 0 (fun _=>true) true n 9 [a6]=some x4:=e4
  replace e5:DataW.trod enc Tryz.prog W 0 (fun _=>true) true n 23 [a7]=some x5:=e5
  replace e6:DataW.trod enc Tryz.prog W 0 (fun _=>true) true n 29 [a8]=some x6:=e6
  obtain ⟨kd,q0,rfl,_⟩:=DataW.trod_int Tryz.underlying25 e0
  obtain ⟨fl,q1,rfl⟩:=DataW.trod_bool Tryz.underlying4 e1
  obtain ⟨ys,n2,rfl,rfl,_,hys,hel2⟩:=DataW.trod_struct Tryz.underlying27 e2
  obtain ⟨y0,y1,y2,rfl⟩:∃ y0 y1 y2,ys=[y0,y1,y2]:=by
   match ys,hys with
   | [y0,y1,y2],_=>exact ⟨_,_,_,rfl⟩
  have g0:=hel2 0 _ rfl
  have g1:=hel2 1 _ rfl
  have g2:=hel2 2 _ rfl
  replace g0:DataW.trod enc Tryz.prog W 0 (fun _=>true) true n2 4 (([a2,a3,a4].drop 0).take (Tryz.prog.cellsOf 4))=some y0:=g0
  rw [c4] at g0
  replace g1:DataW.trod enc Tryz.prog W 0 (fun _=>true) true n2 9 (([a2,a3,a4].drop 1).take (Tryz.prog.cellsOf 9))=some y1:=g1
  rw [c9] at g1
  replace g2:DataW.trod enc Tryz.prog W 0 (fun _=>true) true n2 3 (([a2,a3,a4].drop 2).take (Tryz.prog.cellsOf 3))=some y2:=g2
  rw [c3] at g2
  replace g0:DataW.trod enc Tryz.prog W 0 (fun _=>true) true n2 4 [a2]=some y0:=g0
  replace g1:DataW.trod enc Tryz.prog W 0 (fun _=>true) true n2 9 [a3]=some y1:=g1
  replace g2:DataW.trod enc Tryz.prog W 0 (fun _=>true) true n2 3 [a4]=some y2:=g2
  obtain ⟨ng,p0,rfl⟩:=DataW.trod_bool Tryz.underlying4 g0
  obtain ⟨dg,p1,rfl,_⟩:=DataW.trod_string Tryz.underlying9 g1
  obtain ⟨ex,p2,rfl,_⟩:=DataW.trod_int Tryz.underlying3 g2
  obtain ⟨bt,q3,rfl,_⟩:=DataW.trod_int Tryz.underlying28 e3
  obtain ⟨tx',q4,rfl,_⟩:=DataW.trod_string Tryz.underlying9 e4
  simp only [List.cons.injEq,and_true] at q0 q1 q3 q4 p0 p1 p2
  subst q0 q1 q3 q4 p0 p1 p2
  have hwt:∀ k,(k∈DataW.weights Tryz.prog 23 x5.1∨k∈DataW.weights Tryz.prog 29 x6.1∨k=tx'.size∨k=dg.size)→k≤reachBytes:=by
   intro k hk
   apply hw
   simp only [DataW.weights,Tryz.underlying31,Tryz.underlying27,List.map_cons,List.map_nil,weightsE,List.mem_append,DataW.weightsEach]
   rcases hk with q|q|q|q
   ·simp [q]
   ·simp [q]
   ·subst q;simp
   ·subst q;simp
  have hp5:∀ q∈x5.2,q.block<W.heap.size:=fun q hq=>hp q (by simp [hq])
  have hp6:∀ q∈x6.2,q.block<W.heap.size:=fun q hq=>hp q (by simp [hq])
  have hnm:∃ nm:List ByteArray,NL W a7 nm∧nm.length≤281474976710656∧∀ s∈nm,s.size≤281474976710656:=by
   rcases Deep.open_strs Tryz.underlying23 Tryz.underlying9 c9 e5 with ⟨hcs,hx⟩|⟨a,len,cap,m,Sx,hcs,_,hl,hm,hmm,hx,hc⟩
   ·simp only [List.cons.injEq,and_true] at hcs
    exact ⟨[],Or.inl ⟨hcs,rfl⟩,by simp,by intro s hs;simp at hs⟩
   ·simp only [List.cons.injEq,and_true] at hcs
    simp only [if_true] at hmm
    subst hmm
    subst hx
    have hll:((List.range len).map Sx).length=len:=by simp
    refine ⟨(List.range len).map Sx,Or.inr ⟨a.block,a.off,m,a.spot,by rw [hcs,hll],by rw [hll];exact hl,hm,fun h0=>⟨?_,?_⟩,fun i hi=>?_⟩,?_,?_⟩
    ·rw [hll] at h0
     exact spot_none (a:=a) (hc 0 (by omega)).1
    ·rw [hll] at h0
     exact hp5 (.cell a.block (a.off + 0)) (MemPlace.mem_row.2 ⟨0,by omega,rfl⟩)
    ·rw [hll] at hi
     have:=(hc i (by omega)).1
     have hs0:a.spot=none:=spot_none (a:=a) (hc 0 (by omega)).1
     rw [add_none hs0] at this
     rw [this,List.getElem_map,List.getElem_range]
    ·rw [hll]
     have:=hwt ((len + (m - len)) * 16) (Or.inl (by simp [DataW.weights,Tryz.underlying23,by9]))
     have:=reach_le this
     omega
    ·intro s hs
     obtain ⟨i,hi,rfl⟩:=List.mem_map.1 hs
     refine reach_le (hwt _ (Or.inl ?_))
     simp only [DataW.weights,Tryz.underlying23,List.mem_cons,List.mem_append]
     refine Or.inr (Or.inl (weights_in (d:=.lit (.string (Sx i).data.toList)) (List.mem_map.2 ⟨i,hi,rfl⟩) ?_))
     simp [DataW.weights]
  have hls:∃ l:List (VT M),((a8=.slice none 0 0∧l=[])∨∃ (b o c:Nat) (sp:Option Nat),a8=.slice (some ⟨b,o,sp⟩) l.length c∧l.length≤c∧c≤maxLen∧(0<l.length→sp=none∧b<W.heap.size) ∧
   ∀ i (h:i<l.length),∃ ns' ls',W.rangeAt b (o + i * 9) (vals (vhd M l[i]) ns' ls').toList∧RD M W l[i] ns' ls')∧∀ y∈l,Sz M y:=by
   rcases DataW.trod_slice Tryz.underlying29 e6 with ⟨hcs,hx⟩|⟨a,len,cap,elems,rest,n3,hn3,hcs,hx,_,hl,hm,hlen2,hele,hsp,_⟩
   ·simp only [List.cons.injEq,and_true] at hcs
    exact ⟨[],Or.inl ⟨hcs,rfl⟩,by intro s hs;simp at hs⟩
   ·simp only [List.cons.injEq,and_true] at hcs
    subst hx
    rw [cV] at hele hp6
    have key:∀ i,i<len→∃ t:VT M,(∃ ns' ls',W.rangeAt a.block (a.off + i * 9) (vals (vhd M t) ns' ls').toList∧RD M W t ns' ls')∧Sz M t∧(a.add (i * 9)).spot=none:=by
     intro i hi
     have he:=hele i hi
     rw [List.getElem?_eq_getElem (by omega)] at he
     obtain ⟨cs',hcells,htr⟩:=Option.bind_eq_some_iff.1 he
     obtain ⟨_,hcl,hcc⟩:=World.cells?_some hcells
     have hmem:elems[i]'(by omega)∈elems:=List.getElem_mem _
     obtain ⟨t,ns',ls',r1,r2,r3⟩:=ih n3 (by omega) M (by omega) cs' _ htr
      (fun q hq=>hp6 q (List.mem_append.2 (Or.inr (List.mem_flatMap.2 ⟨_,List.mem_append.2 (Or.inl hmem),hq⟩))))
      (fun k hk=>hwt k (Or.inr (Or.inl (by
       simp only [DataW.weights,Tryz.underlying29,List.mem_cons,List.mem_append]
       exact Or.inr (Or.inl (weights_in (List.mem_map.2 ⟨_,hmem,rfl⟩) hk))))))
     have hsn:(a.add (i * 9)).spot=none:=by
      have q:=hcc 0 (by omega)
      have q2:cs'[0]?=some cs'[0]:=List.getElem?_eq_getElem (by omega)
      rw [q2] at q
      exact spot_none (a:=a.add (i * 9)) (by simpa [Addr.add] using q)
     have hab:(a.add (i * 9)).block=a.block∧(a.add (i * 9)).off=a.off + i * 9:=by
      unfold Addr.add
      split
      ·rename_i q;rw [q];exact ⟨rfl,rfl⟩
      ·exact ⟨rfl,rfl⟩
     refine ⟨t,⟨ns',ls',?_,r2⟩,r3,hsn⟩
     rw [←r1]
     intro j v hj
     have hj9:j<9:=by have:=(List.getElem?_eq_some_iff.1 hj).1;omega
     have q:=hcc j hj9
     rw [hj,add_none hsn,hab.1,hab.2] at q
     exact q
    obtain ⟨l,hll,hlp⟩:=list_of len key
    refine ⟨l,Or.inr ⟨a.block,a.off,cap,a.spot,by rw [hcs,hll],by rw [hll];exact hl,hm,fun h0=>⟨?_,?_⟩,fun i hi=>(hlp i hi).1⟩,?_⟩
    ·have:=(hlp 0 h0).2.2
     simpa [Addr.add] using this
    ·exact hp6 (.cell a.block (a.off + 0)) (List.mem_append.2 (Or.inl (MemPlace.mem_row.2 ⟨0,by omega,rfl⟩)))
    ·intro y hy
     obtain ⟨i,hi,rfl⟩:=List.mem_iff_getElem.1 hy
     exact (hlp i hi).2.1
  obtain ⟨nm,hn1,hn2,hn3⟩:=hnm
  obtain ⟨l,hl1,hl2⟩:=hls
  exact ⟨(⟨kd,fl,ng,dg,ex,bt,tx',nm⟩,l),a7,a8,rfl,⟨hn1,hl1⟩,⟨reach_le (hwt _ (Or.inr (Or.inr (Or.inl rfl)))),reach_le (hwt _ (Or.inr (Or.inr (Or.inr rfl)))),hn2,hn3,hl2⟩⟩
end
end Go.Proofs.YtgicnopppgnjjaaGreatDoor
