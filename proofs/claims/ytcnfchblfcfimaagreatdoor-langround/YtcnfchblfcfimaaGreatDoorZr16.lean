/- Merged by program: XpCopy. -/
import Derived.Test.YtcnfchblfcfimaaGreatDoorZr06
import Derived.Laws.OwnMore
import Derived.Deep.AppendLies
import Derived.Deep.RegionHeld3
import Derived.Deep.RegionLaw
set_option linter.unusedSimpArgs false
set_option linter.unusedVariables false
namespace Go.Proofs.YtcnfchblfcfimaaGreatDoor
open Go.RowKit
def scs (l:List ByteArray):List Value:=l.map Value.string
theorem info9:(Tryz.prog.info? 9).map (fun i=>(i.zero,i.size,i.bytes))=some (some (.string ⟨#[]⟩),1,16):=by kernel_rfl
def OwnS (W:World) (B:Nat) (v:Value) (l:List ByteArray):Prop:=W.ownsRow B 9 1 v l.length (scs l)
def KR (n:Nat) (W:World) (x:VT n) (ns ls:Value) (s e:Nat):Prop:=s≤e∧e≤W.heap.size∧∀ W':World,(∀ k,s≤k→k<e→W'.heap[k]?=W.heap[k]?)→RD n W' x ns ls
end Go.Proofs.YtcnfchblfcfimaaGreatDoor
