/- A slice of numbers that comes in: opened. -/
import Derived.Test.YtjidnceccpmheaaDoorAwBlanks
import Derived.Test.YtjidnceccpmheaaDoorAyTok
namespace Go.Proofs.YtjidnceccpmheaaDoor
open Go.ChangeShapes Go.WideShapes Go.ChangeAt Go.RowKit Go.Joins Go.Shelf Lx
set_option linter.unusedVariables false
set_option maxRecDepth 100000
theorem open_is {H : Type} {enc : TypeId × Value → H} {W : World} {v : Value} {d : DataW H} {p : List MemPlace} {r : Reach} {b0 : Nat} (hval : Value.okWide Tryd.prog W r b0 32 v)
    (h : DataW.Trod enc Tryd.prog W 0 (fun _ => true) true 32 v d p) (hlt : ∀ x ∈ p, x.block < W.heap.size) : ∃ z, IS W v z := by
  obtain ⟨a0, n0, cap0, rfl⟩ := okWide_slice Tryd.underlying32 hval
  obtain ⟨fuel, hf⟩ := h
  rcases open_ints Tryd.underlying32 Tryd.underlying3 c3 hf with ⟨hcs, hx⟩ | ⟨a, len, cap, zs, hcs, _, hl, hm, hz, hx, hcell, hwz⟩
  · simp [Value.cells] at hcs
    obtain ⟨rfl, rfl, rfl⟩ := hcs
    exact ⟨[], none, 0, rfl, by simp, by unfold maxLen; omega, fun h => by simp at h⟩
  · simp [Value.cells] at hcs
    obtain ⟨rfl, rfl, rfl⟩ := hcs
    simp only [if_true] at hz
    obtain ⟨_, hp⟩ := Prod.mk.inj hx
    have hll : (zs.take n0).length = n0 := by rw [List.length_take]; omega
    refine ⟨zs.take n0, some a, cap0, by rw [hll], by rw [hll]; exact hl, hm, fun h0 => ?_⟩
    rw [hll] at h0
    have hs0 : a.spot = none := by
      have := hcell 0 (by omega)
      exact spot_none (a := a) (by simpa [Addr.add] using this)
    refine ⟨a.block, a.off, ?_, ?_, fun i hi => ?_⟩
    · obtain ⟨b, o, sp⟩ := a
      simp only at hs0
      rw [hs0]
    · exact hlt (.cell a.block (a.off + 0)) (by rw [hp]; exact MemPlace.mem_row.2 ⟨0, by omega, by simp⟩)
    · rw [hll] at hi
      have hiz : i < zs.length := by omega
      have := hcell i (by omega)
      rw [add_none hs0] at this
      rw [this]
      simp only [List.getElem_take, List.getD, List.getElem?_eq_getElem hiz, Option.getD_some]
end Go.Proofs.YtjidnceccpmheaaDoor
