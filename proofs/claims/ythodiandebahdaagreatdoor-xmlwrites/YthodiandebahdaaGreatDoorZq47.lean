/- Merged by program: WoOpen. -/
import Derived.Test.YthodiandebahdaaGreatDoorZq01
import Derived.Test.YthodiandebahdaaGreatDoorUZq13
import Derived.Lib.SmallJoins
import Derived.Lay
import Derived.SevenTiedAt
namespace Go.Proofs.YthodiandebahdaaGreatDoor
set_option linter.unusedSimpArgs false
set_option linter.unusedVariables false
set_option maxHeartbeats 8000000
section
open Go.ChangeShapes Go.WideShapes Go.ChangeAt Go.RowKit Go.Joins
set_option maxRecDepth 100000
theorem own:ownKnob Tryz.prog.godebug=none:=by kernel_rfl
theorem laidOut:laidOutB Tryz.prog=true:=by kernel_rfl
theorem cV:Tryz.prog.cellsOf 29=9:=by kernel_rfl
theorem cN:Tryz.prog.cellsOf 24=3:=by kernel_rfl
theorem c9:Tryz.prog.cellsOf 9=1:=by kernel_rfl
theorem c4:Tryz.prog.cellsOf 4=1:=by kernel_rfl
theorem c3:Tryz.prog.cellsOf 3=1:=by kernel_rfl
theorem cK:Tryz.prog.cellsOf 22=1:=by kernel_rfl
theorem cU:Tryz.prog.cellsOf 25=1:=by kernel_rfl
theorem cS:Tryz.prog.cellsOf 26=1:=by kernel_rfl
theorem cL:Tryz.prog.cellsOf 27=1:=by kernel_rfl
theorem by9:Tryz.prog.bytesOf 9=16:=by kernel_rfl
theorem nine {cs:List Value} (h:cs.length=9):∃ a0 a1 a2 a3 a4 a5 a6 a7 a8,cs=[a0,a1,a2,a3,a4,a5,a6,a7,a8]:=by
 match cs,h with
 | [a0,a1,a2,a3,a4,a5,a6,a7,a8],_=>exact ⟨_,_,_,_,_,_,_,_,_,rfl⟩
theorem weights_in {H:Type} {P:Program} {e:TypeId} {ds:List (DataW H)} {d:DataW H} (hd:d∈ds) {n:Nat} (hn:n∈DataW.weights P e d):n∈DataW.weightsAll P e ds:=by
 induction ds with
 | nil=>cases hd
 | cons x xs ih =>
  simp only [DataW.weightsAll,List.mem_append]
  rcases List.mem_cons.1 hd with rfl|h
  ·exact Or.inl hn
  ·exact Or.inr (ih h)
theorem weightsE {H:Type} {P:Program} {t:TypeId} {ts:List TypeId} {d:DataW H} {ds:List (DataW H)}:DataW.weightsEach P (t :: ts) (d :: ds)=DataW.weights P t d++DataW.weightsEach P ts ds:=rfl
theorem list_of {α:Type} {p:Nat→α→Prop}:∀ (len:Nat),(∀ i,i<len→∃ a,p i a)→∃ l:List α,l.length=len∧∀ i (h:i<l.length),p i l[i]
 | 0,_=>⟨[],rfl,fun i h=>by simp at h⟩
 | n+1,h=>by
  obtain ⟨l,hl,hp⟩:=list_of n (fun i hi=>h i (by omega))
  obtain ⟨a,ha⟩:=h n (by omega)
  refine ⟨l++[a],by simp [hl],fun i hi=>?_⟩
  by_cases q:i<l.length
  ·rw [List.getElem_append_left q];exact hp i q
  ·have:i=n:=by simp at hi;omega
   subst this
   rw [List.getElem_append_right (by omega)]
   simp [hl,ha]
theorem spot_none {w:World} {a:Addr} {v:Value} (h:w.cell? a=some v):a.spot=none:=by
 unfold World.cell? at h
 split at h
 ·cases hs:a.spot with
  | none=>rfl
  | some q=>rw [hs] at h;simp at h
 ·cases h
theorem add_none {a:Addr} (h:a.spot=none)(i:Nat):a.add i=⟨a.block,a.off+i,none⟩:=by
 obtain ⟨b,o,sp⟩:=a
 simp only at h
 subst h
 exact Addr.add_mid b o i
theorem reach_le {n:Nat} (h:n≤reachBytes):n≤281474976710656:=by
 have:reachBytes=140737488351232:=by decide
 omega
end
end Go.Proofs.YthodiandebahdaaGreatDoor
