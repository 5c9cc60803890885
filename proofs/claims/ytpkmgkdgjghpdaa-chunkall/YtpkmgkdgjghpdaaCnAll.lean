/- calamuslaw06.ChunkAll, for any bytes; slices of ints that come in: opened. -/
import Derived.Test.YtpkmgkdgjghpdaaCiOpen
import Derived.Test.YtpkmgkdgjghpdaaClAllA
import Derived.Test.YtpkmgkdgjghpdaaClAllB
namespace Go.Proofs.Ytpkmgkdgjghpdaa
open Go.ChangeShapes Go.WideShapes Go.ChangeAt Go.RowKit Go.Joins
set_option linter.unusedVariables false
set_option maxRecDepth 100000
theorem all_law (vb : Value) (l : List UInt8) (vz : Value) (z : List Int) (vy : Value) (y : List Int) (w : World) (sl : SL w vb l) (hs : l.length ≤ 281474976710656) (si : SI w vz z) (sy : SI w vy y) :
    Calls Try.prog 4 #[vb, vz, vy] w fun r w' => r = .returned (.bool true) ∧ Below w.heap.size w w' := by
  have sl' := sl
  rcases sl with ⟨rfl, rfl⟩ | ⟨a, c, rfl, _⟩
  · exact all_lawA vz z vy y w si sy
  · exact all_lawB _ l vz z vy y w sl' si sy (fun n c => by simp)
theorem open_intsU {H : Type} {enc : TypeId × Value → H} {W : World} {v : Value} {d : DataW H} {p : List MemPlace} {r : Reach} {b0 : Nat} (hval : Value.okWide Try.prog W r b0 37 v)
    (h : DataW.Trod enc Try.prog W 0 (fun _ => true) true 37 v d p) (hlt : ∀ x ∈ p, x.block < W.heap.size) : ∃ z, SI W v z := by
  obtain ⟨a0, n0, cap0, rfl⟩ := okWide_slice Try.underlying37 hval
  obtain ⟨fuel, hf⟩ := h
  rcases open_ints Try.underlying37 Try.underlying3 c3 hf with ⟨hcs, hx⟩ | ⟨a, len, cap, zs, hcs, _, hl, hm, hz, hx, hcell, hwz⟩
  · simp [Value.cells] at hcs
    obtain ⟨rfl, rfl, rfl⟩ := hcs
    exact ⟨[], Or.inl ⟨rfl, rfl⟩⟩
  · simp [Value.cells] at hcs
    obtain ⟨rfl, rfl, rfl⟩ := hcs
    simp only [if_true] at hz
    obtain ⟨_, hp⟩ := Prod.mk.inj hx
    have hll : (zs.take n0).length = n0 := by rw [List.length_take]; omega
    refine ⟨zs.take n0, Or.inr ⟨a, cap0, by rw [hll], by omega, hm, fun i hi => ?_⟩⟩
    rw [hll] at hi
    have hiz : i < zs.length := by omega
    refine ⟨?_, ?_, ?_⟩
    · obtain ⟨b, off, spot⟩ := a
      exact hlt (.cell b (off + i)) (by rw [hp]; exact MemPlace.mem_row.2 ⟨i, by omega, by simp⟩)
    · rw [hcell i (by omega)]
      simp only [List.getElem_take, List.getD, List.getElem?_eq_getElem hiz, Option.getD_some]
    · rw [List.getElem_take]
      exact int_range (hwz zs[i] (List.getElem_mem _))
end Go.Proofs.Ytpkmgkdgjghpdaa
