/- Merged by program: IgLaid3. -/
import Derived.Test.YtcnfchblfcfimaaGreatDoorUZr17
import Derived.Test.YtcnfchblfcfimaaGreatDoorZr18
set_option linter.unusedSimpArgs false
set_option linter.unusedVariables false
namespace Go.Proofs.YtcnfchblfcfimaaGreatDoor
open Go.ChangeShapes Go.WideShapes Go.ChangeAt Go.RowKit Go.Joins
set_option maxRecDepth 100000
theorem cPk:Tryz.prog.cellsOf 163=2:=by kernel_rfl
theorem cPA:Tryz.prog.cellsOf 196=16:=by kernel_rfl
theorem cTK3:Tryz.prog.cellsOf 45=1:=by kernel_rfl
theorem cVK3:Tryz.prog.cellsOf 25=1:=by kernel_rfl
theorem pk_cells {W:World} {fuel:Nat} {cs:List Value} {p:List MemPlace} {a b:Int}
  (hd:DataW.trod (fun _=>()) Tryz.prog W 0 (fun _=>true) false fuel 163 cs=some (.agg [.lit (.int .i64 a),.lit (.int .i64 b)],p)):cs=[.int .i64 a,.int .i64 b]:=by
 obtain ⟨xs,n,rfl,hx,hlen,hxs,hel⟩:=DataW.trod_struct Tryz.underlying163 hd
 rw [cPk] at hlen
 obtain ⟨a0,a1,rfl⟩:∃ a0 a1,cs=[a0,a1]:=by
  match cs,hlen with
  | [a0,a1],_=>exact ⟨_,_,rfl⟩
 obtain ⟨x0,x1,rfl⟩:∃ x0 x1,xs=[x0,x1]:=by
  match xs,hxs with
  | [x0,x1],_=>exact ⟨_,_,rfl⟩
 have e0:=hel 0 _ rfl
 have e1:=hel 1 _ rfl
 replace e0:DataW.trod (fun _=>()) Tryz.prog W 0 (fun _=>true) false n 45 (([a0,a1].drop 0).take (Tryz.prog.cellsOf 45))=some x0:=e0
 rw [cTK3] at e0
 replace e1:DataW.trod (fun _=>()) Tryz.prog W 0 (fun _=>true) false n 25 (([a0,a1].drop 1).take (Tryz.prog.cellsOf 25))=some x1:=e1
 rw [cVK3] at e1
 replace e0:DataW.trod (fun _=>()) Tryz.prog W 0 (fun _=>true) false n 45 [a0]=some x0:=e0
 replace e1:DataW.trod (fun _=>()) Tryz.prog W 0 (fun _=>true) false n 25 [a1]=some x1:=e1
 obtain ⟨k0,q0,rfl,_⟩:=DataW.trod_int Tryz.underlying45 e0
 obtain ⟨k1,q1,rfl,_⟩:=DataW.trod_int Tryz.underlying25 e1
 simp only [List.cons.injEq,and_true] at q0 q1
 subst q0 q1
 simp at hx
 rw [hx.1.1,hx.1.2]
theorem pks_cells {W:World} {fuel:Nat} {cs:List Value} {p:List MemPlace}
  (hd:DataW.trod (fun _=>()) Tryz.prog W 0 (fun _=>true) false fuel 196 cs=some (Rows.laid_calamus_types_plainKinds,p)):cs=pkC.toList:=by
 obtain ⟨xs,m1,rfl,hx1,hlen,hn3,hel⟩:=DataW.trod_array Tryz.underlying196 hd
 rw [cPA] at hlen
 have key:∀ (i:Nat) (x y:Int),i<8→(match (Rows.laid_calamus_types_plainKinds:DataW Unit) with | .agg ds=>ds|_=>[])[i]?=some (.agg [.lit (.int .i64 x),.lit (.int .i64 y)])→(cs.drop (i * 2)).take 2=[.int .i64 x,.int .i64 y]:=by
  intro i x y hi hxy
  obtain ⟨fuel',d',q,hdi,he⟩:=Lib.array_elem Tryz.underlying196 hd i hi
  have hdi2:=hdi.symm.trans hxy
  obtain rfl:=Option.some.inj hdi2
  rw [cPk] at he
  exact pk_cells he
 have k0:=key 0 1 0 (by omega) rfl
 have k1:=key 1 2 1 (by omega) rfl
 have k2:=key 2 3 2 (by omega) rfl
 have k3:=key 3 4 3 (by omega) rfl
 have k4:=key 4 5 3 (by omega) rfl
 have k5:=key 5 6 4 (by omega) rfl
 have k6:=key 6 7 5 (by omega) rfl
 have k7:=key 7 8 6 (by omega) rfl
 have e0:cs=cs.drop 0:=rfl
 rw [e0,Ut.split_at' 0 2 cs,Ut.split_at' (0 + 2) 2 cs,Ut.split_at' (0 + 2 + 2) 2 cs,Ut.split_at' (0 + 2 + 2 + 2) 2 cs,Ut.split_at' (0 + 2 + 2 + 2 + 2) 2 cs,Ut.split_at' (0 + 2 + 2 + 2 + 2 + 2) 2 cs,Ut.split_at' (0 + 2 + 2 + 2 + 2 + 2 + 2) 2 cs,Ut.split_at' (0 + 2 + 2 + 2 + 2 + 2 + 2 + 2) 2 cs,List.drop_of_length_le (i:=0 + 2 + 2 + 2 + 2 + 2 + 2 + 2 + 2) (by omega)]
 simp only [Nat.reduceMul,Nat.reduceAdd] at k0 k1 k2 k3 k4 k5 k6 k7 ⊢
 rw [k0,k1,k2,k3,k4,k5,k6,k7]
 rfl
end Go.Proofs.YtcnfchblfcfimaaGreatDoor
