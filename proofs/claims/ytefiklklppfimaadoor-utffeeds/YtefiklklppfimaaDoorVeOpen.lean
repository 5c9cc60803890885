/- Slices of slices of bytes that come in. -/
import Derived.Test.YtefiklklppfimaaDoorUkLaid
import Derived.Test.YtefiklklppfimaaDoorVdFeeds
import Derived.Deep.Matrix
import Derived.SizedLaws
namespace Go.Proofs.YtefiklklppfimaaDoor
open Go.ChangeShapes Go.WideShapes Go.ChangeAt Go.RowKit Go.Joins Go.Shelf
set_option linter.unusedVariables false
set_option maxRecDepth 100000
theorem c35 : Tryd.prog.cellsOf 35 = 1 := by kernel_rfl
theorem by5 : Tryd.prog.bytesOf 5 = 1 := by kernel_rfl
theorem weights_in {H : Type} {P : Program} {e : TypeId} {ds : List (DataW H)} {d : DataW H} (hd : d ∈ ds) {n : Nat} (hn : n ∈ DataW.weights P e d) : n ∈ DataW.weightsAll P e ds := by
  induction ds with
  | nil => cases hd
  | cons x xs ih =>
    simp only [DataW.weightsAll, List.mem_append]
    rcases List.mem_cons.1 hd with rfl | h
    · exact Or.inl hn
    · exact Or.inr (ih h)
/-- A part's bytes. -/
def prt (Z : Nat → List Int) (L : Nat → Nat) (r : Nat) : List UInt8 := ((Z r).take (L r)).map fun z => UInt8.ofNat z.toNat
theorem open_parts {H : Type} {enc : TypeId × Value → H} {W : World} {v : Value} {d : DataW H} {p : List MemPlace} {r : Reach} {b0 : Nat} (hval : Value.okWide Tryd.prog W r b0 32 v)
    (h : DataW.Trod enc Tryd.prog W 0 (fun _ => true) true 32 v d p) (hlt : ∀ x ∈ p, x.block < W.heap.size) (hsz : (DataW.weightsEach Tryd.prog [32] [d]).all (· ≤ reachBytes) = true) :
    ∃ ps, PL W v ps ∧ ∀ i (h : i < ps.length), ps[i].length ≤ 281474976710656 := by
  obtain ⟨a0, n0, cap0, rfl⟩ := okWide_slice Tryd.underlying32 hval
  obtain ⟨fuel, hf⟩ := h
  rcases Deep.open_int_rows Tryd.underlying32 Tryd.underlying35 Tryd.underlying5 c35 c5 hf with ⟨hcs, hx⟩ | ⟨a, len, cap, A, L, C, Z, hcs, _, hl, hm, hx, hr⟩
  · simp [Value.cells] at hcs
    obtain ⟨rfl, rfl, rfl⟩ := hcs
    exact ⟨[], Or.inl ⟨rfl, rfl⟩, fun i hi => by simp at hi⟩
  · simp [Value.cells] at hcs
    obtain ⟨rfl, rfl, rfl⟩ := hcs
    obtain ⟨hd, hp⟩ := Prod.mk.inj hx
    have hll : ((List.range n0).map (prt Z L)).length = n0 := by simp
    have hpl : ∀ i, i < cap0 → (prt Z L i).length = L i := by
      intro i hi
      obtain ⟨_, h1, _, h3, _⟩ := hr i hi
      unfold prt
      rw [List.length_map, List.length_take]; omega
    refine ⟨(List.range n0).map (prt Z L), Or.inr ⟨a, cap0, by rw [hll], by omega, hm, fun i hi => ?_⟩, fun i hi => ?_⟩
    · rw [hll] at hi
      obtain ⟨q1, q2, q3, q4, q5, q6, q7⟩ := hr i (by omega)
      refine ⟨?_, .slice (A i) (L i) (C i), q1, ?_⟩
      · obtain ⟨b, off, spot⟩ := a
        exact hlt (.cell b (off + i)) (by rw [hp]; exact List.mem_append.2 (Or.inl (MemPlace.mem_row.2 ⟨i, by omega, by simp⟩)))
      · rw [List.getElem_map, List.getElem_range]
        cases hA : A i with
        | none =>
          have hC := q6 hA
          have hL : L i = 0 := by omega
          refine Or.inl ⟨by rw [hL, hC], ?_⟩
          unfold prt
          rw [hL]; rfl
        | some a' =>
          obtain ⟨_, hc⟩ := q7 a' hA
          have hpi := hpl i (by omega)
          refine Or.inr ⟨a', C i, by rw [hpi], by omega, q3, fun j hj => ?_⟩
          rw [hpi] at hj
          refine ⟨?_, ?_⟩
          · obtain ⟨b, off, spot⟩ := a'
            refine hlt (.cell b (off + j)) (by
              rw [hp]
              refine List.mem_append.2 (Or.inr (List.mem_flatMap.2 ⟨i, List.mem_range.2 (by omega), ?_⟩))
              simp only [Deep.intRowPlaces, hA]
              exact MemPlace.mem_row.2 ⟨j, by omega, by simp⟩)
          · rw [hc j (by omega)]
            have hiz : j < (Z i).length := by omega
            have hw := q5 (Z i)[j] (List.getElem_mem _)
            have m1 : IntKind.u8.min = 0 := rfl
            have m2 : IntKind.u8.max = 255 := rfl
            simp [Lit.wf, m1, m2] at hw
            simp only [prt, List.getElem_map, List.getElem_take, List.getD, List.getElem?_eq_getElem hiz, Option.getD_some]
            rw [UInt8.toNat_ofNat']
            congr 2
            omega
    · rw [hll] at hi
      rw [List.getElem_map, List.getElem_range, hpl i (by omega)]
      obtain ⟨q1, q2, q3, q4, q5, q6, q7⟩ := hr i (by omega)
      cases hA : A i with
      | none => have hC := q6 hA; omega
      | some a' =>
        have hmem : (DataW.slice (lits .u8 ((Z i).take (L i))) (lits .u8 ((Z i).drop (L i))) : DataW H) ∈ (List.range n0).map fun r => Deep.intRow .u8 (A r) (L r) (Z r) := by
          refine List.mem_map.2 ⟨i, List.mem_range.2 hi, ?_⟩
          simp only [Deep.intRow, hA]
        have hb := of_decide_eq_true (List.all_eq_true.1 hsz ((((Z i).take (L i)).length + ((Z i).drop (L i)).length) * Tryd.prog.bytesOf 5) (DataW.weights_mem_each (j := 0) rfl rfl _ (by
          rw [hd]
          simp only [DataW.weights, Tryd.underlying32, List.mem_cons, List.mem_append]
          refine Or.inr (Or.inl (weights_in hmem ?_))
          simp [DataW.weights, Tryd.underlying35, lits])))
        rw [by5, List.length_take] at hb
        have := reachBytes_lt
        omega
end Go.Proofs.YtefiklklppfimaaDoor
