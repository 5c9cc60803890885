/- Merged by program: VuCatch. -/
import Derived.Test.YtgicnopppgnjjaaGreatDoorZd29
import Derived.Defers
import Derived.Recover
import Derived.Laws.Pointers
set_option linter.unusedSimpArgs false
set_option linter.unusedVariables false
namespace Go.Proofs.YtgicnopppgnjjaaGreatDoor
namespace Lx
open Go.RowKit
theorem wa_nil (w:World):(Instr.typeAssert .nilIface 20 100 true).run Tryz.prog w=.ok (.tuple #[.int .i64 0,.bool false]) w:=by
 simp [Instr.typeAssert]
theorem wa_err (E:Int) (w:World):(Instr.typeAssert (.iface 100 (.int .i64 E)) 20 100 true).run Tryz.prog w=.ok (.tuple #[.int .i64 E,.bool true]) w:=by
 simp [Instr.typeAssert]
set_option maxHeartbeats 1000000 in
set_option maxRecDepth 100000 in
theorem rcatch_idle (p q:Addr) (w:World) :
  CallsD Tryz.prog 68 #[.pointer (some p),.pointer (some q)] .returning w fun e u' w'=>e=.returned (.tuple #[])∧u'=.returning∧w'=w:=by
 refine callsD_of_wpS Tryz.func68 rfl fun c₀ cs hu=>?_
 apply wpS_seq
 apply wpS_region
 simp [wpOpsS,go_sem,recoverD,hu,Tryz.ntmps68,Exit.thenS,wa_nil]
 apply wpS_seq
 apply wpS_region
 simp [wpOpsS,go_sem,Exit.thenS,Array.replicate]
 refine wpS_cond (t:=false) (by simp [Act.eval,Array.replicate]) ?_
 simp only [Bool.false_eq_true,if_false]
 refine wpS_of_wp (wp_skip ?_)
 cases c₀
 simp_all [bodyPostS,results,Tryz.results68]
set_option maxHeartbeats 4000000 in
set_option maxRecDepth 100000 in
theorem rcatch_pan (p q:Nat) (u v:Value) (older:List PanicEntry) (w:World) (hp:w.cell? ⟨p,0,none⟩=some u) (zp:w.frozen? ⟨p,0,none⟩=false) (hq:w.cell? ⟨q,0,none⟩=some v) (zq:w.frozen? ⟨q,0,none⟩=false) (hpq:p≠q) (E:Int) :
  CallsD Tryz.prog 68 #[.pointer (some ⟨p,0,none⟩),.pointer (some ⟨q,0,none⟩)] (.panicking ({v:=.iface 100 (.int .i64 E),recovered:=false} :: older)) w fun e u' w' =>
   e=.returned (.tuple #[])∧u'=.panicking ({v:=.iface 100 (.int .i64 E),recovered:=true} :: older)∧w'=(w.setCell ⟨p,0,none⟩ (.int .i64 140)).setCell ⟨q,0,none⟩ (.int .i64 E):=by
 have kq:(w.setCell ⟨p,0,none⟩ (.int .i64 140)).cell? ⟨q,0,none⟩=some v:=(World.cell?_of_block (w:=w) (Below.heap_setCell _ _ _ _ (Ne.symm hpq))).trans hq
 have zk:(w.setCell ⟨p,0,none⟩ (.int .i64 140)).frozen? ⟨q,0,none⟩=false:=(World.frozen?_of_block (w:=w) (Below.heap_setCell _ _ _ _ (Ne.symm hpq))).trans zq
 refine callsD_of_wpS Tryz.func68 rfl fun c₀ cs hu=>?_
 apply wpS_seq
 apply wpS_region
 simp [wpOpsS,go_sem,recoverD,hu,Tryz.ntmps68,Exit.thenS,wa_err]
 apply wpS_seq
 apply wpS_region
 simp [wpOpsS,go_sem,Exit.thenS,Array.replicate]
 refine wpS_cond (t:=true) (by simp [Act.eval,Array.replicate]) ?_
 simp only [if_true]
 apply wpS_region
 simp [wpOpsS,go_sem,Exit.thenS,hp,zp,kq,zk,bodyPostS,results,Tryz.results68]
end Lx
end Go.Proofs.YtgicnopppgnjjaaGreatDoor
