/- Slices of ints that come in. -/
import Derived.Test.YtefiklklppfimaaDoorUkLaid
import Derived.Test.YtefiklklppfimaaDoorUqParts
namespace Go.Proofs.YtefiklklppfimaaDoor
open Go.ChangeShapes Go.WideShapes Go.ChangeAt Go.RowKit Go.Joins Go.Shelf
set_option linter.unusedVariables false
set_option maxRecDepth 100000
theorem open_intsU {H : Type} {enc : TypeId × Value → H} {W : World} {v : Value} {d : DataW H} {p : List MemPlace} {r : Reach} {b0 : Nat} (hval : Value.okWide Tryd.prog W r b0 41 v)
    (h : DataW.Trod enc Tryd.prog W 0 (fun _ => true) true 41 v d p) (hlt : ∀ x ∈ p, x.block < W.heap.size) : ∃ z, SI W v z := by
  obtain ⟨a0, n0, cap0, rfl⟩ := okWide_slice Tryd.underlying41 hval
  obtain ⟨fuel, hf⟩ := h
  rcases open_ints Tryd.underlying41 Tryd.underlying3 c3 hf with ⟨hcs, hx⟩ | ⟨a, len, cap, zs, hcs, _, hl, hm, hz, hx, hcell, hwz⟩
  · simp [Value.cells] at hcs
    obtain ⟨rfl, rfl, rfl⟩ := hcs
    exact ⟨[], Or.inl ⟨rfl, rfl⟩⟩
  · simp [Value.cells] at hcs
    obtain ⟨rfl, rfl, rfl⟩ := hcs
    simp only [if_true] at hz
    obtain ⟨_, hp⟩ := Prod.mk.inj hx
    have hll : (zs.take n0).length = n0 := by rw [List.length_take]; omega
    refine ⟨zs.take n0, Or.inr ⟨a, cap0, by rw [hll], by omega, hm, fun i hi => ?_⟩⟩
    rw [hll] at hi
    have hiz : i < zs.length := by omega
    refine ⟨?_, ?_, ?_⟩
    · obtain ⟨b, off, spot⟩ := a
      exact hlt (.cell b (off + i)) (by rw [hp]; exact MemPlace.mem_row.2 ⟨i, by omega, by simp⟩)
    · rw [hcell i (by omega)]
      simp only [List.getElem_take, List.getD, List.getElem?_eq_getElem hiz, Option.getD_some]
    · rw [List.getElem_take]
      exact int_range (hwz zs[i] (List.getElem_mem _))
end Go.Proofs.YtefiklklppfimaaDoor
