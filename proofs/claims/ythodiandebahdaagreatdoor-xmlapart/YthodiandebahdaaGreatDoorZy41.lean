/- Merged by program: ByApart. -/
import Derived.Test.YthodiandebahdaaGreatDoorZy40
import Derived.Test.YthodiandebahdaaGreatDoorZy39
import Derived.Test.YthodiandebahdaaGreatDoorZy37
namespace Go.Proofs.YthodiandebahdaaGreatDoor
open Go.RowKit
set_option linter.unusedSimpArgs false
set_option linter.unusedVariables false
set_option maxHeartbeats 8000000
theorem readX_wrote (n:Nat) (x:VT n) (hc:Chk n x 0) (hg:Rg n x) (hl:(xtx n x).length≤65536):readX (xtx n x)=.inr (fl n x):=by
 obtain ⟨hv,hw⟩:=(chk_zero hc).1 rfl
 obtain ⟨t,ht⟩:=(tally_win n x hv).2 hw
 exact readX_doc n x ⟨hv,hw.1,hg⟩ hl t (runE_fl n x hv) ht
theorem xtx_apart (n:Nat) (x y:VT n) (gx:Rg n x) (gy:Rg n y) (hx:Chk n x 0) (hy:Chk n y 0) (hl:(xtx n x).length≤65536) (he:xtx n x=xtx n y):x=y:=by
 have h1:=readX_wrote n x hx gx hl
 have h2:=readX_wrote n y hy gy (by rw [←he];exact hl)
 rw [he,h2] at h1
 have h3:fl n y=fl n x:=Sum.inr.inj h1
 exact (fl_inj n x y ((chk_zero hx).1 rfl).1 ((chk_zero hy).1 rfl).1 [] [] (by rw [h3])).1
theorem xapart_full (n:Nat) (x y:VT n) (ns ls ns' ls':Value) (w:World) (hx:RD n w x ns ls) (zx:Sz n x) (rx:Rg n x) (hy:RD n w y ns' ls') (zy:Sz n y) (ry:Rg n y) (g:Ut.Gu w) (ht:Tab w.heap.size w) (gz:Gz w) :
  Calls Tryz.prog 7 #[.agg (vals (vhd n x) ns ls),.agg (vals (vhd n y) ns' ls')] w fun e w'=>e=.returned (.bool true)∧Below w.heap.size w w' :=
 apart_law n x y ns ls ns' ls' w hx zx rx hy zy ry g ht gz (fun W hb=>xawake_any W (g.below hb) (Tab.up (ht.on hb) hb.size) (gz.low hb gz.low8)) (xtx_apart n x y rx ry)
end Go.Proofs.YthodiandebahdaaGreatDoor
