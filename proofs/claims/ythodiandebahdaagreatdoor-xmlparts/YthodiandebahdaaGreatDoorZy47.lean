/- Merged by program: BuOpen. -/
import Derived.Test.YthodiandebahdaaGreatDoorZy46
import Derived.Test.YthodiandebahdaaGreatDoorZy43
import Derived.Test.YthodiandebahdaaGreatDoorZy38
namespace Go.Proofs.YthodiandebahdaaGreatDoor
set_option linter.unusedSimpArgs false
set_option linter.unusedVariables false
set_option maxHeartbeats 8000000
section
open Go.ChangeShapes Go.WideShapes Go.ChangeAt Go.RowKit Go.Joins
set_option maxRecDepth 100000
theorem open_rbc {H:Type} {enc:TypeId×Value→H} {W:World} {v:Value} {d:DataW H} {p:List MemPlace} {r:Reach} {b0:Nat} (hval:Value.okWide Tryz.prog W r b0 32 v)
  (h:DataW.Trod enc Tryz.prog W 0 (fun _=>true) true 32 v d p) (hlt:∀ x∈p,x.block<W.heap.size):∃ a l c,v=.slice a l.length c∧l.length≤maxLen∧(l.length≤131072→RB W (.slice a l.length c) l)∧((a=none∧l.length=0∧c=0)∨((∃ b,a=some b)∧l.length≤c∧c≤maxLen)):=by
 obtain ⟨a0,n0,cap0,rfl⟩:=okWide_slice Tryz.underlying32 hval
 obtain ⟨fuel,hf⟩:=h
 rcases open_ints Tryz.underlying32 Tryz.underlying5 Ut.c5 hf with ⟨hcs,hx⟩|⟨a,len,cap,zs,hcs,_,hl,hm,hz,hx,hcell,hwz⟩
 ·simp [Value.cells] at hcs
  obtain ⟨rfl,rfl,rfl⟩:=hcs
  exact ⟨none,[],0,rfl,Nat.zero_le _,fun _=>⟨⟨_,_,rfl⟩,Nat.zero_le _,fun q=>absurd q (by decide)⟩,Or.inl ⟨rfl,rfl,rfl⟩⟩
 ·simp [Value.cells] at hcs
  obtain ⟨rfl,rfl,rfl⟩:=hcs
  simp only [if_true] at hz
  obtain ⟨_,hp⟩:=Prod.mk.inj hx
  have hll:((zs.take n0).map fun z=>UInt8.ofNat z.toNat).length=n0:=by rw [List.length_map,List.length_take];omega
  obtain ⟨l,hle⟩:∃ l,((zs.take n0).map fun z=>UInt8.ofNat z.toNat)=l:=⟨_,rfl⟩
  have hln:l.length=n0:=by rw [←hle];exact hll
  have hc:∀ i (hi:i<l.length),a.block<W.heap.size∧W.cell? (a.add i)=some (.int .u8 l[i].toNat):=by
   intro i hi
   refine ⟨?_,?_⟩
   ·obtain ⟨b,off,spot⟩:=a
    exact hlt (.cell b (off + i)) (by rw [hp];exact MemPlace.mem_row.2 ⟨i,by omega,by simp⟩)
   ·rw [hcell i (by omega)]
    have hiz:i<zs.length:=by omega
    have hw:=hwz zs[i] (List.getElem_mem _)
    have m1:IntKind.u8.min=0:=rfl
    have m2:IntKind.u8.max=255:=rfl
    simp [Lit.wf,m1,m2] at hw
    simp only [←hle,List.getElem_map,List.getElem_take,List.getD,List.getElem?_eq_getElem hiz,Option.getD_some]
    rw [UInt8.toNat_ofNat']
    congr 2
    omega
  refine ⟨some a,l,cap0,by rw [hln],by rw [hln];omega,fun hs=>⟨⟨_,_,rfl⟩,by omega,fun h0=>?_⟩,Or.inr ⟨⟨a,rfl⟩,by omega,hm⟩⟩
  have hsp:a.spot=none:=spot_none (a:=a) (by simpa [Addr.add] using (hc 0 h0).2)
  refine ⟨a.block,a.off,cap0,?_,(hc 0 h0).1,fun j hj=>?_⟩
  ·cases a
   simp only at hsp
   rw [hsp]
  ·rw [←add_none hsp];exact (hc j hj).2
theorem i64_range {n:Int} (h:(Lit.int .i64 n).wf=true):-9223372036854775808≤n∧n≤9223372036854775807:=by
 have m1:IntKind.i64.min=-9223372036854775808:=rfl
 have m2:IntKind.i64.max=9223372036854775807:=rfl
 simp [Lit.wf,m1,m2] at h
 omega
theorem c3i:Tryz.prog.cellsOf 3=1:=by kernel_rfl
theorem open_ri {H:Type} {enc:TypeId×Value→H} {W:World} {v:Value} {d:DataW H} {p:List MemPlace} {r:Reach} {b0:Nat} (hval:Value.okWide Tryz.prog W r b0 42 v)
  (h:DataW.Trod enc Tryz.prog W 0 (fun _=>true) true 42 v d p) (hlt:∀ x∈p,x.block<W.heap.size):∃ a l c,v=.slice a l.length c∧l.length≤maxLen∧RI W (.slice a l.length c) l:=by
 obtain ⟨a0,n0,cap0,rfl⟩:=okWide_slice Tryz.underlying42 hval
 obtain ⟨fuel,hf⟩:=h
 rcases open_ints Tryz.underlying42 Tryz.underlying3 c3i hf with ⟨hcs,hx⟩|⟨a,len,cap,zs,hcs,_,hl,hm,hz,hx,hcell,hwz⟩
 ·simp [Value.cells] at hcs
  obtain ⟨rfl,rfl,rfl⟩:=hcs
  exact ⟨none,[],0,rfl,Nat.zero_le _,⟨_,_,rfl⟩,fun i hi=>absurd hi (by simp),fun q=>absurd q (by decide)⟩
 ·simp [Value.cells] at hcs
  obtain ⟨rfl,rfl,rfl⟩:=hcs
  simp only [if_true] at hz
  obtain ⟨_,hp⟩:=Prod.mk.inj hx
  have hll:(zs.take n0).length=n0:=by rw [List.length_take];omega
  obtain ⟨l,hle⟩:∃ l,zs.take n0=l:=⟨_,rfl⟩
  have hln:l.length=n0:=by rw [←hle];exact hll
  have hc:∀ i (hi:i<l.length),a.block<W.heap.size∧W.cell? (a.add i)=some (.int .i64 l[i])∧-9223372036854775808≤l[i]∧l[i]≤9223372036854775807:=by
   intro i hi
   have hiz:i<zs.length:=by omega
   refine ⟨?_,?_,?_⟩
   ·obtain ⟨b,off,spot⟩:=a
    exact hlt (.cell b (off + i)) (by rw [hp];exact MemPlace.mem_row.2 ⟨i,by omega,by simp⟩)
   ·rw [hcell i (by omega)]
    simp only [←hle,List.getElem_take,List.getD,List.getElem?_eq_getElem hiz,Option.getD_some]
   ·simp only [←hle,List.getElem_take]
    exact i64_range (hwz zs[i] (List.getElem_mem _))
  refine ⟨some a,l,cap0,by rw [hln],by rw [hln];omega,⟨_,_,rfl⟩,fun i hi=>(hc i hi).2.2,fun h0=>?_⟩
  have hsp:a.spot=none:=spot_none (a:=a) (by simpa [Addr.add] using (hc 0 h0).2.1)
  refine ⟨a.block,a.off,cap0,?_,(hc 0 h0).1,fun j hj=>?_⟩
  ·cases a
   simp only at hsp
   rw [hsp]
  ·rw [←add_none hsp];exact (hc j hj).2.1
end
end Go.Proofs.YthodiandebahdaaGreatDoor
