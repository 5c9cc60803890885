/- Merged by program: UqLaid2. -/
import Derived.Test.YtgicnopppgnjjaaGreatDoorUZd08
import Derived.Lib.LaidU8T
import Derived.Lib.LaidTab
import Derived.ChangeMaps5
import Derived.ProofKit
import Derived.Lib.SmallJoins
import Derived.Lay
import Derived.SevenTiedAt
set_option linter.unusedSimpArgs false
set_option linter.unusedVariables false
namespace Go.Proofs.YtgicnopppgnjjaaGreatDoor.Ut
open Go.ChangeShapes Go.WideShapes Go.ChangeAt Go.RowKit Go.Joins
set_option maxRecDepth 100000
theorem c5:Tryz.prog.cellsOf 5=1:=by kernel_rfl
theorem c46:Tryz.prog.cellsOf 179=2:=by kernel_rfl
theorem c48:Tryz.prog.cellsOf 181=8:=by kernel_rfl
theorem c62:Tryz.prog.cellsOf 228=64:=by kernel_rfl
theorem split_at' (k n:Nat) (cs:List Value):cs.drop k=(cs.drop k).take n++cs.drop (k + n):=by
 rw [←List.drop_drop];exact (List.take_append_drop n _).symm
theorem spans_cells {W:World} {fuel:Nat} {cs:List Value} {p:List MemPlace} {a b c d e f g h:Int}
  (hd:DataW.trod (fun _=>()) Tryz.prog W 0 (fun _=>true) false fuel 181 cs=some (.agg [.agg [.lit (.int .u8 a),.lit (.int .u8 b)],.agg [.lit (.int .u8 c),.lit (.int .u8 d)],.agg [.lit (.int .u8 e),.lit (.int .u8 f)],.agg [.lit (.int .u8 g),.lit (.int .u8 h)]],p)) :
  cs=[.int .u8 a,.int .u8 b,.int .u8 c,.int .u8 d,.int .u8 e,.int .u8 f,.int .u8 g,.int .u8 h]:=by
 obtain ⟨xs,m1,rfl,hx1,hlen,hn3,hel⟩:=DataW.trod_array Tryz.underlying181 hd
 rw [c48] at hlen
 have key:∀ (i:Nat) (x y:Int),i<4→([.agg [.lit (.int .u8 a),.lit (.int .u8 b)],.agg [.lit (.int .u8 c),.lit (.int .u8 d)],.agg [.lit (.int .u8 e),.lit (.int .u8 f)],.agg [.lit (.int .u8 g),.lit (.int .u8 h)]]:List (DataW Unit))[i]?=some (.agg [.lit (.int .u8 x),.lit (.int .u8 y)])→(cs.drop (i * 2)).take 2=[.int .u8 x,.int .u8 y]:=by
  intro i x y hi hxy
  obtain ⟨fuel',d',q,hdi,he⟩:=Lib.array_elem Tryz.underlying181 hd i hi
  rw [hxy] at hdi
  obtain rfl:=Option.some.inj hdi
  rw [c46] at he
  exact Lib.cells_of_tab (zs:=[x,y]) Tryz.underlying179 Tryz.underlying5 c5 c46 he
 have k0:=key 0 a b (by omega) rfl
 have k1:=key 1 c d (by omega) rfl
 have k2:=key 2 e f (by omega) rfl
 have k3:=key 3 g h (by omega) rfl
 have e0:cs=cs.drop 0:=rfl
 rw [e0,split_at' 0 2 cs,split_at' (0 + 2) 2 cs,split_at' (0 + 2 + 2) 2 cs,split_at' (0 + 2 + 2 + 2) 2 cs,List.drop_of_length_le (i:=0 + 2 + 2 + 2 + 2) (by omega)]
 simp only [Nat.zero_mul,Nat.one_mul] at k0 k1 k2 k3
 rw [k0,k1,k2,k3]
 rfl
theorem longer_cells {W:World} {fuel:Nat} {cs:List Value} {p:List MemPlace}
  (hd:DataW.trod (fun _=>()) Tryz.prog W 0 (fun _=>true) false fuel 228 cs=some (Rows.laid_calamus_utf_longer,p)):cs=lgC.toList:=by
 obtain ⟨xs,m1,rfl,hx1,hlen,hn3,hel⟩:=DataW.trod_array Tryz.underlying228 hd
 rw [c62] at hlen
 have key:∀ (i:Nat),i<8→∃ fuel' q d',(match (Rows.laid_calamus_utf_longer:DataW Unit) with | .agg ds=>ds|_=>[])[i]?=some d'∧DataW.trod (fun _=>()) Tryz.prog W 0 (fun _=>true) false fuel' 181 ((cs.drop (i * 8)).take 8)=some (d',q):=by
  intro i hi
  obtain ⟨fuel',d',q,hdi,he⟩:=Lib.array_elem Tryz.underlying228 hd i hi
  rw [c48] at he
  exact ⟨fuel',q,d',hdi,he⟩
 have k0:(cs.drop (0 * 8)).take 8=[.int .u8 194,.int .u8 223,.int .u8 128,.int .u8 191,.int .u8 0,.int .u8 0,.int .u8 0,.int .u8 0]:=by
  obtain ⟨fuel',q,d',hdi,he⟩:=key 0 (by omega)
  obtain rfl:=Option.some.inj hdi
  exact spans_cells he
 have k1:(cs.drop (1 * 8)).take 8=[.int .u8 224,.int .u8 224,.int .u8 160,.int .u8 191,.int .u8 128,.int .u8 191,.int .u8 0,.int .u8 0]:=by
  obtain ⟨fuel',q,d',hdi,he⟩:=key 1 (by omega)
  obtain rfl:=Option.some.inj hdi
  exact spans_cells he
 have k2:(cs.drop (2 * 8)).take 8=[.int .u8 225,.int .u8 236,.int .u8 128,.int .u8 191,.int .u8 128,.int .u8 191,.int .u8 0,.int .u8 0]:=by
  obtain ⟨fuel',q,d',hdi,he⟩:=key 2 (by omega)
  obtain rfl:=Option.some.inj hdi
  exact spans_cells he
 have k3:(cs.drop (3 * 8)).take 8=[.int .u8 237,.int .u8 237,.int .u8 128,.int .u8 159,.int .u8 128,.int .u8 191,.int .u8 0,.int .u8 0]:=by
  obtain ⟨fuel',q,d',hdi,he⟩:=key 3 (by omega)
  obtain rfl:=Option.some.inj hdi
  exact spans_cells he
 have k4:(cs.drop (4 * 8)).take 8=[.int .u8 238,.int .u8 239,.int .u8 128,.int .u8 191,.int .u8 128,.int .u8 191,.int .u8 0,.int .u8 0]:=by
  obtain ⟨fuel',q,d',hdi,he⟩:=key 4 (by omega)
  obtain rfl:=Option.some.inj hdi
  exact spans_cells he
 have k5:(cs.drop (5 * 8)).take 8=[.int .u8 240,.int .u8 240,.int .u8 144,.int .u8 191,.int .u8 128,.int .u8 191,.int .u8 128,.int .u8 191]:=by
  obtain ⟨fuel',q,d',hdi,he⟩:=key 5 (by omega)
  obtain rfl:=Option.some.inj hdi
  exact spans_cells he
 have k6:(cs.drop (6 * 8)).take 8=[.int .u8 241,.int .u8 243,.int .u8 128,.int .u8 191,.int .u8 128,.int .u8 191,.int .u8 128,.int .u8 191]:=by
  obtain ⟨fuel',q,d',hdi,he⟩:=key 6 (by omega)
  obtain rfl:=Option.some.inj hdi
  exact spans_cells he
 have k7:(cs.drop (7 * 8)).take 8=[.int .u8 244,.int .u8 244,.int .u8 128,.int .u8 143,.int .u8 128,.int .u8 191,.int .u8 128,.int .u8 191]:=by
  obtain ⟨fuel',q,d',hdi,he⟩:=key 7 (by omega)
  obtain rfl:=Option.some.inj hdi
  exact spans_cells he
 have e0:cs=cs.drop 0:=rfl
 rw [e0,split_at' 0 8 cs,split_at' (0 + 8) 8 cs,split_at' (0 + 8 + 8) 8 cs,split_at' (0 + 8 + 8 + 8) 8 cs,split_at' (0 + 8 + 8 + 8 + 8) 8 cs,split_at' (0 + 8 + 8 + 8 + 8 + 8) 8 cs,split_at' (0 + 8 + 8 + 8 + 8 + 8 + 8) 8 cs,split_at' (0 + 8 + 8 + 8 + 8 + 8 + 8 + 8) 8 cs,List.drop_of_length_le (i:=0 + 8 + 8 + 8 + 8 + 8 + 8 + 8 + 8) (by omega)]
 simp only [Nat.reduceMul,Nat.reduceAdd] at k0 k1 k2 k3 k4 k5 k6 k7 ⊢
 rw [k0,k1,k2,k3,k4,k5,k6,k7]
 rfl
theorem heap_of_var {W:World} {n:String} {g:Nat} {cs:Array Value} (hg:Tryz.prog.globalNamed n=some g) (h:W.var? Tryz.prog n=some cs):∃ t fr,W.heap[g]?=some (.cells cs t fr):=by
 simp only [World.var?,hg,Option.bind_some] at h
 split at h
 ·rename_i cs' t fr e
  obtain rfl:=Option.some.inj h
  exact ⟨t,fr,e⟩
 ·cases h
end Go.Proofs.YtgicnopppgnjjaaGreatDoor.Ut
