/- Merged by program: SnOpen. -/
import Derived.Test.YtgicnopppgnjjaaGreatDoorZd32
import Derived.Test.YtgicnopppgnjjaaGreatDoorZd07
import Derived.Test.YtgicnopppgnjjaaGreatDoorZd09
import Derived.Test.YtgicnopppgnjjaaGreatDoorZd20
set_option linter.unusedSimpArgs false
set_option linter.unusedVariables false
namespace Go.Proofs.YtgicnopppgnjjaaGreatDoor
namespace Lx
open Go.ChangeShapes Go.WideShapes Go.ChangeAt Go.RowKit Go.Joins
set_option maxRecDepth 100000
theorem cEx:Tryz.prog.cellsOf 33=13:=by kernel_rfl
theorem cOp:Tryz.prog.cellsOf 22=1:=by kernel_rfl
theorem cEL:Tryz.prog.cellsOf 24=1:=by kernel_rfl
theorem thirteen {cs:List Value} (h:cs.length=13):∃ a0 a1 a2 a3 v0 v1 v2 v3 v4 v5 v6 v7 v8,cs=[a0,a1,a2,a3,v0,v1,v2,v3,v4,v5,v6,v7,v8]:=by
 match cs,h with
 | [a0,a1,a2,a3,v0,v1,v2,v3,v4,v5,v6,v7,v8],_=>exact ⟨_,_,_,_,_,_,_,_,_,_,_,_,_,rfl⟩
section
variable {H : Type} {enc : TypeId × Value → H} {W : World}
set_option maxHeartbeats 2000000 in
theorem open_ex:∀ (fuel N:Nat),fuel≤N→∀ (cs:List Value) (x:DataW H×List MemPlace),DataW.trod enc Tryz.prog W 0 (fun _=>true) true fuel 33 cs=some x →
  (∀ q∈x.2,q.block<W.heap.size)→(∀ k∈DataW.weights Tryz.prog 33 x.1,k≤reachBytes)→∃ (t:ET N) (q:Sl),cs=(ecl (ehd N t) q).toList∧RE N W t q∧ESz N t:=by
 intro fuel
 induction fuel using Nat.strongRecOn with
 | ind fuel ih =>
  intro N hN cs x h hp hw
  obtain ⟨xs,n,rfl,rfl,hlen,hxs,hel⟩:=DataW.trod_struct Tryz.underlying33 h
  obtain ⟨M,rfl⟩:∃ M,N=M + 1:=⟨N - 1,by omega⟩
  rw [cEx] at hlen
  obtain ⟨a0,a1,a2,a3,v0,v1,v2,v3,v4,v5,v6,v7,v8,rfl⟩:=thirteen hlen
  obtain ⟨x0,x1,x2,x3,x4,rfl⟩:∃ x0 x1 x2 x3 x4,xs=[x0,x1,x2,x3,x4]:=by
   match xs,hxs with
   | [x0,x1,x2,x3,x4],_=>exact ⟨_,_,_,_,_,rfl⟩
  have e0:=hel 0 _ rfl
  have e1:=hel 1 _ rfl
  have e2:=hel 2 _ rfl
  have e3:=hel 3 _ rfl
  have e4:=hel 4 _ rfl
  replace e0:DataW.trod enc Tryz.prog W 0 (fun _=>true) true n 22 (([a0,a1,a2,a3,v0,v1,v2,v3,v4,v5,v6,v7,v8].drop 0).take (Tryz.prog.cellsOf 22))=some x0:=e0
  rw [cOp] at e0
  replace e1:DataW.trod enc Tryz.prog W 0 (fun _=>true) true n 9 (([a0,a1,a2,a3,v0,v1,v2,v3,v4,v5,v6,v7,v8].drop 1).take (Tryz.prog.cellsOf 9))=some x1:=e1
  rw [c9] at e1
  replace e2:DataW.trod enc Tryz.prog W 0 (fun _=>true) true n 23 (([a0,a1,a2,a3,v0,v1,v2,v3,v4,v5,v6,v7,v8].drop 2).take (Tryz.prog.cellsOf 23))=some x2:=e2
  rw [cS] at e2
  replace e3:DataW.trod enc Tryz.prog W 0 (fun _=>true) true n 24 (([a0,a1,a2,a3,v0,v1,v2,v3,v4,v5,v6,v7,v8].drop 3).take (Tryz.prog.cellsOf 24))=some x3:=e3
  rw [cEL] at e3
  replace e4:DataW.trod enc Tryz.prog W 0 (fun _=>true) true n 31 (([a0,a1,a2,a3,v0,v1,v2,v3,v4,v5,v6,v7,v8].drop 4).take (Tryz.prog.cellsOf 31))=some x4:=e4
  rw [cV] at e4
  replace e0:DataW.trod enc Tryz.prog W 0 (fun _=>true) true n 22 [a0]=some x0:=e0
  replace e1:DataW.trod enc Tryz.prog W 0 (fun _=>true) true n 9 [a1]=some x1:=e1
  replace e2:DataW.trod enc Tryz.prog W 0 (fun _=>true) true n 23 [a2]=some x2:=e2
  replace e3:DataW.trod enc Tryz.prog W 0 (fun _=>true) true n 24 [a3]=some x3:=e3
  replace e4:DataW.trod enc Tryz.prog W 0 (fun _=>true) true n 31 [v0,v1,v2,v3,v4,v5,v6,v7,v8]=some x4:=e4
  obtain ⟨kd,q0,rfl,_⟩:=DataW.trod_int Tryz.underlying22 e0
  simp only [List.cons.injEq,and_true] at q0
  subst q0
  obtain ⟨nm,q1,rfl,_⟩:=DataW.trod_string Tryz.underlying9 e1
  simp only [List.cons.injEq,and_true] at q1
  subst q1
  have hwt:∀ k,(k=nm.size∨k∈DataW.weights Tryz.prog 23 x2.1∨k∈DataW.weights Tryz.prog 24 x3.1∨k∈DataW.weights Tryz.prog 31 x4.1)→k≤reachBytes:=by
   intro k hk
   apply hw
   simp only [DataW.weights,Tryz.underlying33,List.map_cons,List.map_nil,weightsE,List.mem_append,DataW.weightsEach]
   rcases hk with q|q|q|q
   ·subst q;simp
   ·simp [q]
   ·simp [q]
   ·simp [q]
  have hp2:∀ q∈x2.2,q.block<W.heap.size:=fun q hq=>hp q (by simp [hq])
  have hp3:∀ q∈x3.2,q.block<W.heap.size:=fun q hq=>hp q (by simp [hq])
  have hp4:∀ q∈x4.2,q.block<W.heap.size:=fun q hq=>hp q (by simp [hq])
  obtain ⟨t4,ns4,ls4,hc4,hr4,hz4⟩:=open_v n n (Nat.le_refl _) _ _ e4 hp4 (fun k hk=>hwt k (Or.inr (Or.inr (Or.inr hk))))
  have hnsz:nm.size≤281474976710656:=reach_le (hwt _ (Or.inl rfl))
  have hnm:∃ nm:List ByteArray,NL W a2 nm∧nm.length≤281474976710656∧∀ s∈nm,s.size≤281474976710656:=by
   rcases Deep.open_strs Tryz.underlying23 Tryz.underlying9 c9 e2 with ⟨hcs,hx⟩|⟨a,len,cap,m,Sx,hcs,_,hl,hm,hmm,hx,hc⟩
   ·simp only [List.cons.injEq,and_true] at hcs
    exact ⟨[],Or.inl ⟨hcs,rfl⟩,by simp,by intro s hs;simp at hs⟩
   ·simp only [List.cons.injEq,and_true] at hcs
    simp only [if_true] at hmm
    subst hmm
    subst hx
    have hll:((List.range len).map Sx).length=len:=by simp
    refine ⟨(List.range len).map Sx,Or.inr ⟨a.block,a.off,m,a.spot,by rw [hcs,hll],by rw [hll];exact hl,hm,fun h0=>⟨?_,?_⟩,fun i hi=>?_⟩,?_,?_⟩
    ·rw [hll] at h0
     exact spot_none (a:=a) (hc 0 (by omega)).1
    ·rw [hll] at h0
     exact hp2 (.cell a.block (a.off + 0)) (MemPlace.mem_row.2 ⟨0,by omega,rfl⟩)
    ·rw [hll] at hi
     have:=(hc i (by omega)).1
     have hs0:a.spot=none:=spot_none (a:=a) (hc 0 (by omega)).1
     rw [add_none hs0] at this
     rw [this,List.getElem_map,List.getElem_range]
    ·rw [hll]
     have:=hwt ((len + (m - len)) * 16) (Or.inr (Or.inl (by simp [DataW.weights,Tryz.underlying23,by9])))
     have:=reach_le this
     omega
    ·intro s hs
     obtain ⟨i,hi,rfl⟩:=List.mem_map.1 hs
     refine reach_le (hwt _ (Or.inr (Or.inl ?_)))
     simp only [DataW.weights,Tryz.underlying23,List.mem_cons,List.mem_append]
     refine Or.inr (Or.inl (weights_in (d:=.lit (.string (Sx i).data.toList)) (List.mem_map.2 ⟨i,hi,rfl⟩) ?_))
     simp [DataW.weights]
  have hls:∃ l:List (ET M),EL M W a3 l∧∀ y∈l,ESz M y:=by
   rcases DataW.trod_slice Tryz.underlying24 e3 with ⟨hcs,hx⟩|⟨a,len,cap,elems,rest,n3,hn3,hcs,hx,_,hl,hm,hlen2,hele,hsp,_⟩
   ·simp only [List.cons.injEq,and_true] at hcs
    exact ⟨[],Or.inl ⟨hcs,rfl⟩,by intro s hs;simp at hs⟩
   ·simp only [List.cons.injEq,and_true] at hcs
    subst hx
    rw [cEx] at hele hp3
    have key:∀ i,i<len→∃ t:ET M,(∃ q',W.rangeAt a.block (a.off + i * 13) (ecl (ehd M t) q').toList∧RE M W t q')∧ESz M t∧(a.add (i * 13)).spot=none:=by
     intro i hi
     have he:=hele i hi
     rw [List.getElem?_eq_getElem (by omega)] at he
     obtain ⟨cs',hcells,htr⟩:=Option.bind_eq_some_iff.1 he
     obtain ⟨_,hcl,hcc⟩:=World.cells?_some hcells
     have hmem:elems[i]'(by omega)∈elems:=List.getElem_mem _
     obtain ⟨t,q',r1,r2,r3⟩:=ih n3 (by omega) M (by omega) cs' _ htr
      (fun q hq=>hp3 q (List.mem_append.2 (Or.inr (List.mem_flatMap.2 ⟨_,List.mem_append.2 (Or.inl hmem),hq⟩))))
      (fun k hk=>hwt k (Or.inr (Or.inr (Or.inl (by
       simp only [DataW.weights,Tryz.underlying24,List.mem_cons,List.mem_append]
       exact Or.inr (Or.inl (weights_in (List.mem_map.2 ⟨_,hmem,rfl⟩) hk)))))))
     have hsn:(a.add (i * 13)).spot=none:=by
      have q:=hcc 0 (by omega)
      have q2:cs'[0]?=some cs'[0]:=List.getElem?_eq_getElem (by omega)
      rw [q2] at q
      exact spot_none (a:=a.add (i * 13)) (by simpa [Addr.add] using q)
     have hab:(a.add (i * 13)).block=a.block∧(a.add (i * 13)).off=a.off + i * 13:=by
      unfold Addr.add
      split
      ·rename_i q;rw [q];exact ⟨rfl,rfl⟩
      ·exact ⟨rfl,rfl⟩
     refine ⟨t,⟨q',?_,r2⟩,r3,hsn⟩
     rw [←r1]
     intro j v hj
     have hj9:j<13:=by have:=(List.getElem?_eq_some_iff.1 hj).1;omega
     have q:=hcc j hj9
     rw [hj,add_none hsn,hab.1,hab.2] at q
     exact q
    obtain ⟨l,hll,hlp⟩:=list_of len key
    refine ⟨l,Or.inr ⟨a.block,a.off,cap,a.spot,by rw [hcs,hll],by rw [hll];exact hl,hm,fun h0=>⟨?_,?_⟩,fun i hi=>(hlp i hi).1⟩,?_⟩
    ·have:=(hlp 0 h0).2.2
     simpa [Addr.add] using this
    ·exact hp3 (.cell a.block (a.off + 0)) (List.mem_append.2 (Or.inl (MemPlace.mem_row.2 ⟨0,by omega,rfl⟩)))
    ·intro y hy
     obtain ⟨i,hi,rfl⟩:=List.mem_iff_getElem.1 hy
     exact (hlp i hi).2.1
  obtain ⟨nms,hn1,hn2,hn3⟩:=hnm
  obtain ⟨l,hl1,hl2⟩:=hls
  refine ⟨(⟨kd,nm,nms,n,t4⟩,l),⟨a2,a3,ns4,ls4⟩,?_,⟨hn1,hr4,hl1⟩,⟨hnsz,hn2,hn3,hz4,hl2⟩⟩
  show [_,_,_,_,v0,v1,v2,v3,v4,v5,v6,v7,v8]=[_,_,_,_,_,_,_,_,_,_,_,_,_]
  have hc4':[v0,v1,v2,v3,v4,v5,v6,v7,v8]=[_,_,_,_,_,_,_,_,_]:=hc4
  simp only [List.cons.injEq,and_true] at hc4'
  obtain ⟨rfl,rfl,rfl,rfl,rfl,rfl,rfl,rfl,rfl⟩:=hc4'
  rfl
end
end Lx
end Go.Proofs.YtgicnopppgnjjaaGreatDoor
