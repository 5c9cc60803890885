/- Merged by program: AuLaid. -/
import Derived.Test.YtgicnopppgnjjaaGreatDoorUZd18
import Derived.Test.YtgicnopppgnjjaaGreatDoorZd21
import Derived.Stop.LaidErr
import Derived.PinnedBridge
set_option linter.unusedSimpArgs false
set_option linter.unusedVariables false
namespace Go.Proofs.YtgicnopppgnjjaaGreatDoor
open Go.ChangeShapes Go.WideShapes Go.ChangeAt Go.RowKit Go.Joins Go.Shelf
set_option maxRecDepth 100000
theorem own:ownKnob Tryz.prog.godebug=none:=by kernel_rfl
theorem laidOut:laidOutB Tryz.prog=true:=by kernel_rfl
theorem laidMet_tail {P:Program} {x:String×DataW Unit} {rest:List (String×DataW Unit)} {W:World} (h:laidMet P (x :: rest) W):laidMet P rest W:=by
 obtain ⟨ps,⟨g,t,cs,f,p,q,h1,h2,h3,h4,h5,h6⟩,hn,hall⟩:=h
 subst h6
 exact ⟨q,h5,(List.nodup_append.1 hn).2.1,fun b off hm=>hall b off (List.mem_append_right _ hm)⟩
theorem gZ : Tryz.prog.globalNamed "math/bits.deBruijn64tab" = some 14 := by kernel_rfl
theorem gZT:(Tryz.prog.globals[14]?).map (·.type)=some 277:=by kernel_rfl
def zTab:List Int:=[0,1,56,2,57,49,28,3,61,58,42,50,38,29,17,4,62,47,59,36,45,43,51,22,53,39,33,30,24,18,12,5,63,55,48,27,60,41,37,16,46,35,44,21,52,32,23,11,54,26,40,15,34,20,31,10,25,14,19,9,13,8,7,6]
theorem gW : Tryz.prog.globalNamed "calamus/lex.words" = some 2 := by kernel_rfl
theorem gWT:(Tryz.prog.globals[2]?).map (·.type)=some 138:=by kernel_rfl
theorem gL : Tryz.prog.globalNamed "calamus/lex.longest" = some 1 := by kernel_rfl
theorem gLT:(Tryz.prog.globals[1]?).map (·.type)=some 125:=by kernel_rfl
theorem gE : Tryz.prog.globalNamed "strconv.ErrSyntax" = some 11 := by kernel_rfl
theorem gET:(Tryz.prog.globals[11]?).map (·.type)=some 242:=by kernel_rfl
theorem star_e : "*" ++ "errors.errorString" = "*errors.errorString" := by decide
theorem row_e (u : TypeId) (h : Tryz.prog.typeName? 3 u = some "*errors.errorString") : u = 273 :=
 typeName_ptr_named (nm := "errors.errorString") (by rw [star_e]; kernel_rfl) (by kernel_rfl) (by decide) u (by rw [star_e]; exact h)
theorem accept_eq:(Rows.laid_unicode_utf8_acceptRanges:DataW Unit)=Lib.acceptData:=by kernel_rfl
theorem five {P:Nat→Prop} (h0:P 0) (h1:P 1) (h2:P 2) (h3:P 3) (h4:P 4):∀ k,k<5→P k:=by
 intro k hk
 have:k=0∨k=1∨k=2∨k=3∨k=4:=by omega
 rcases this with rfl|rfl|rfl|rfl|rfl <;> assumption
end Go.Proofs.YtgicnopppgnjjaaGreatDoor
