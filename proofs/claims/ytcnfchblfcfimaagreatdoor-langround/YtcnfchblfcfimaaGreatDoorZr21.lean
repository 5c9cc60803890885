/- Merged by program: IfOpenT. -/
import Derived.Test.YtcnfchblfcfimaaGreatDoorZr10
import Derived.Test.YtcnfchblfcfimaaGreatDoorZr19
set_option linter.unusedSimpArgs false
set_option linter.unusedVariables false
namespace Go.Proofs.YtcnfchblfcfimaaGreatDoor
open Go.ChangeShapes Go.WideShapes Go.ChangeAt Go.RowKit Go.Joins
set_option maxRecDepth 100000
theorem cTy:Tryz.prog.cellsOf 48=3:=by kernel_rfl
theorem cTK:Tryz.prog.cellsOf 45=1:=by kernel_rfl
theorem cTL:Tryz.prog.cellsOf 46=1:=by kernel_rfl
section
variable {H : Type} {enc : TypeId × Value → H} {W : World}
theorem open_t:∀ (fuel N:Nat),fuel≤N→∀ (cs:List Value) (x:DataW H×List MemPlace),DataW.trod enc Tryz.prog W 0 (fun _=>true) true fuel 48 cs=some x →
  (∀ q∈x.2,q.block<W.heap.size)→(∀ k∈DataW.weights Tryz.prog 48 x.1,k≤reachBytes)→∃ (t:TT N) (ns ls:Value),cs=(tvs (thd N t) ns ls).toList∧RT N W t ns ls∧TSz N t:=by
 intro fuel
 induction fuel using Nat.strongRecOn with
 | ind fuel ih =>
  intro N hN cs x h hp hw
  obtain ⟨xs,n,rfl,rfl,hlen,hxs,hel⟩:=DataW.trod_struct Tryz.underlying48 h
  obtain ⟨M,rfl⟩:∃ M,N=M + 1:=⟨N - 1,by omega⟩
  rw [cTy] at hlen
  obtain ⟨a0,a7,a8,rfl⟩:∃ a0 a7 a8,cs=[a0,a7,a8]:=by
   match cs,hlen with
   | [a0,a7,a8],_=>exact ⟨_,_,_,rfl⟩
  obtain ⟨x0,x5,x6,rfl⟩:∃ x0 x5 x6,xs=[x0,x5,x6]:=by
   match xs,hxs with
   | [x0,x5,x6],_=>exact ⟨_,_,_,rfl⟩
  have e0:=hel 0 _ rfl
  have e5:=hel 1 _ rfl
  have e6:=hel 2 _ rfl
  replace e0:DataW.trod enc Tryz.prog W 0 (fun _=>true) true n 45 (([a0,a7,a8].drop 0).take (Tryz.prog.cellsOf 45))=some x0:=e0
  rw [cTK] at e0
  replace e5:DataW.trod enc Tryz.prog W 0 (fun _=>true) true n 23 (([a0,a7,a8].drop 1).take (Tryz.prog.cellsOf 23))=some x5:=e5
  rw [cS] at e5
  replace e6:DataW.trod enc Tryz.prog W 0 (fun _=>true) true n 46 (([a0,a7,a8].drop 2).take (Tryz.prog.cellsOf 46))=some x6:=e6
  rw [cTL] at e6
  replace e0:DataW.trod enc Tryz.prog W 0 (fun _=>true) true n 45 [a0]=some x0:=e0
  replace e5:DataW.trod enc Tryz.prog W 0 (fun _=>true) true n 23 [a7]=some x5:=e5
  replace e6:DataW.trod enc Tryz.prog W 0 (fun _=>true) true n 46 [a8]=some x6:=e6
  obtain ⟨kd,q0,rfl,_⟩:=DataW.trod_int Tryz.underlying45 e0
  simp only [List.cons.injEq,and_true] at q0
  subst q0
  have hwt:∀ k,(k∈DataW.weights Tryz.prog 23 x5.1∨k∈DataW.weights Tryz.prog 46 x6.1)→k≤reachBytes:=by
   intro k hk
   apply hw
   simp only [DataW.weights,Tryz.underlying48,List.map_cons,List.map_nil,weightsE,List.mem_append,DataW.weightsEach]
   rcases hk with q|q
   ·simp [q]
   ·simp [q]
  have hp5:∀ q∈x5.2,q.block<W.heap.size:=fun q hq=>hp q (by simp [hq])
  have hp6:∀ q∈x6.2,q.block<W.heap.size:=fun q hq=>hp q (by simp [hq])
  have hnm:∃ nm:List ByteArray,NL W a7 nm∧nm.length≤281474976710656∧∀ s∈nm,s.size≤281474976710656:=by
   rcases Deep.open_strs Tryz.underlying23 Tryz.underlying9 c9 e5 with ⟨hcs,hx⟩|⟨a,len,cap,m,Sx,hcs,_,hl,hm,hmm,hx,hc⟩
   ·simp only [List.cons.injEq,and_true] at hcs
    exact ⟨[],Or.inl ⟨hcs,rfl⟩,by simp,by intro s hs;simp at hs⟩
   ·simp only [List.cons.injEq,and_true] at hcs
    simp only [if_true] at hmm
    subst hmm
    subst hx
    have hll:((List.range len).map Sx).length=len:=by simp
    refine ⟨(List.range len).map Sx,Or.inr ⟨a.block,a.off,m,a.spot,by rw [hcs,hll],by rw [hll];exact hl,hm,fun h0=>⟨?_,?_⟩,fun i hi=>?_⟩,?_,?_⟩
    ·rw [hll] at h0
     exact spot_none (a:=a) (hc 0 (by omega)).1
    ·rw [hll] at h0
     exact hp5 (.cell a.block (a.off + 0)) (MemPlace.mem_row.2 ⟨0,by omega,rfl⟩)
    ·rw [hll] at hi
     have:=(hc i (by omega)).1
     have hs0:a.spot=none:=spot_none (a:=a) (hc 0 (by omega)).1
     rw [add_none hs0] at this
     rw [this,List.getElem_map,List.getElem_range]
    ·rw [hll]
     have:=hwt ((len + (m - len)) * 16) (Or.inl (by simp [DataW.weights,Tryz.underlying23,by9]))
     have:=reach_le this
     omega
    ·intro s hs
     obtain ⟨i,hi,rfl⟩:=List.mem_map.1 hs
     refine reach_le (hwt _ (Or.inl ?_))
     simp only [DataW.weights,Tryz.underlying23,List.mem_cons,List.mem_append]
     refine Or.inr (Or.inl (weights_in (d:=.lit (.string (Sx i).data.toList)) (List.mem_map.2 ⟨i,hi,rfl⟩) ?_))
     simp [DataW.weights]
  have hls:∃ l:List (TT M),TL M W a8 l∧∀ y∈l,TSz M y:=by
   rcases DataW.trod_slice Tryz.underlying46 e6 with ⟨hcs,hx⟩|⟨a,len,cap,elems,rest,n3,hn3,hcs,hx,_,hl,hm,hlen2,hele,hsp,_⟩
   ·simp only [List.cons.injEq,and_true] at hcs
    exact ⟨[],Or.inl ⟨hcs,rfl⟩,by intro s hs;simp at hs⟩
   ·simp only [List.cons.injEq,and_true] at hcs
    subst hx
    rw [cTy] at hele hp6
    have key:∀ i,i<len→∃ t:TT M,(∃ ns' ls',W.rangeAt a.block (a.off + i * 3) (tvs (thd M t) ns' ls').toList∧RT M W t ns' ls')∧TSz M t∧(a.add (i * 3)).spot=none:=by
     intro i hi
     have he:=hele i hi
     rw [List.getElem?_eq_getElem (by omega)] at he
     obtain ⟨cs',hcells,htr⟩:=Option.bind_eq_some_iff.1 he
     obtain ⟨_,hcl,hcc⟩:=World.cells?_some hcells
     have hmem:elems[i]'(by omega)∈elems:=List.getElem_mem _
     obtain ⟨t,ns',ls',r1,r2,r3⟩:=ih n3 (by omega) M (by omega) cs' _ htr
      (fun q hq=>hp6 q (List.mem_append.2 (Or.inr (List.mem_flatMap.2 ⟨_,List.mem_append.2 (Or.inl hmem),hq⟩))))
      (fun k hk=>hwt k (Or.inr (by
       simp only [DataW.weights,Tryz.underlying46,List.mem_cons,List.mem_append]
       exact Or.inr (Or.inl (weights_in (List.mem_map.2 ⟨_,hmem,rfl⟩) hk)))))
     have hsn:(a.add (i * 3)).spot=none:=by
      have q:=hcc 0 (by omega)
      have q2:cs'[0]?=some cs'[0]:=List.getElem?_eq_getElem (by omega)
      rw [q2] at q
      exact spot_none (a:=a.add (i * 3)) (by simpa [Addr.add] using q)
     have hab:(a.add (i * 3)).block=a.block∧(a.add (i * 3)).off=a.off + i * 3:=by
      unfold Addr.add
      split
      ·rename_i q;rw [q];exact ⟨rfl,rfl⟩
      ·exact ⟨rfl,rfl⟩
     refine ⟨t,⟨ns',ls',?_,r2⟩,r3,hsn⟩
     rw [←r1]
     intro j v hj
     have hj9:j<3:=by have:=(List.getElem?_eq_some_iff.1 hj).1;omega
     have q:=hcc j hj9
     rw [hj,add_none hsn,hab.1,hab.2] at q
     exact q
    obtain ⟨l,hll,hlp⟩:=list_of len key
    refine ⟨l,Or.inr ⟨a.block,a.off,cap,a.spot,by rw [hcs,hll],by rw [hll];exact hl,hm,fun h0=>⟨?_,?_⟩,fun i hi=>(hlp i hi).1⟩,?_⟩
    ·have:=(hlp 0 h0).2.2
     simpa [Addr.add] using this
    ·exact hp6 (.cell a.block (a.off + 0)) (List.mem_append.2 (Or.inl (MemPlace.mem_row.2 ⟨0,by omega,rfl⟩)))
    ·intro y hy
     obtain ⟨i,hi,rfl⟩:=List.mem_iff_getElem.1 hy
     exact (hlp i hi).2.1
  obtain ⟨nm,hn1,hn2,hn3⟩:=hnm
  obtain ⟨l,hl1,hl2⟩:=hls
  exact ⟨(⟨kd,nm⟩,l),a7,a8,rfl,⟨hn1,hl1⟩,⟨hn2,hn3,hl2⟩⟩
end
end Go.Proofs.YtcnfchblfcfimaaGreatDoor
