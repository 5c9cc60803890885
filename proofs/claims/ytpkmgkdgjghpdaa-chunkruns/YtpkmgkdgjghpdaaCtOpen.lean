/- A slice of calls that comes in: opened. -/
import Derived.Test.YtpkmgkdgjghpdaaCiOpen
import Derived.Test.YtpkmgkdgjghpdaaCsRuns
namespace Go.Proofs.Ytpkmgkdgjghpdaa
open Go.ChangeShapes Go.WideShapes Go.ChangeAt Go.RowKit Go.Joins
set_option linter.unusedVariables false
set_option maxRecDepth 100000
section
variable {H : Type} {enc : TypeId × Value → H} {W : World}
theorem open_ops {v : Value} {d : DataW H} {p : List MemPlace} (h : DataW.Trod enc Try.prog W 0 (fun _ => true) true 22 v d p) {r : Reach} {b0 : Nat} (hval : Value.okWide Try.prog W r b0 22 v) (hp : ∀ x ∈ p, x.block < W.heap.size) (hw : ∀ k ∈ DataW.weights Try.prog 22 d, k ≤ reachBytes) : ∃ os, OL W v os := by
  obtain ⟨a0, n0, cap0, rfl⟩ := okWide_slice Try.underlying22 hval
  obtain ⟨fuel, hf⟩ := h
  rcases DataW.trod_slice Try.underlying22 hf with ⟨hcs, hx⟩ | ⟨a, len, cap, elems, rest, n3, hn3, hcs, hx, _, hl, hm, hlen2, hele, hsp, _⟩
  · simp [Value.cells] at hcs
    obtain ⟨rfl, rfl, rfl⟩ := hcs
    exact ⟨[], Or.inl ⟨rfl, rfl⟩⟩
  · simp [Value.cells] at hcs
    obtain ⟨rfl, rfl, rfl⟩ := hcs
    obtain ⟨hx1, hx2⟩ := Prod.mk.inj hx
    subst hx1
    subst hx2
    rw [cO] at hele hp
    have key : ∀ i, i < n0 → ∃ o : OpT, (∃ vb, W.cell? ⟨a.block, a.off + i * 3, none⟩ = some (.int .i64 o.1) ∧ W.cell? ⟨a.block, a.off + i * 3 + 1, none⟩ = some (.int .i64 o.2.1) ∧ W.cell? ⟨a.block, a.off + i * 3 + 2, none⟩ = some vb ∧ SL W vb o.2.2 ∧ OpOk o) ∧ (a.add (i * 3)).spot = none := by
      intro i hi
      have he := hele i hi
      rw [List.getElem?_eq_getElem (by omega)] at he
      obtain ⟨cs', hcells, htr⟩ := Option.bind_eq_some_iff.1 he
      obtain ⟨_, hcl, hcc⟩ := World.cells?_some hcells
      have hmem : elems[i]'(by omega) ∈ elems := List.getElem_mem _
      obtain ⟨o, vb, r1, r2, r3⟩ := open_op htr
        (fun q hq => hp q (List.mem_append.2 (Or.inr (List.mem_flatMap.2 ⟨_, List.mem_append.2 (Or.inl hmem), hq⟩))))
        (fun k hk => hw k (by
          simp only [DataW.weights, Try.underlying22, List.mem_cons, List.mem_append]
          exact Or.inr (Or.inl (weights_in (List.mem_map.2 ⟨_, hmem, rfl⟩) hk))))
      subst r1
      have hsn : (a.add (i * 3)).spot = none := by
        have q := hcc 0 (by omega)
        exact spot_none (a := a.add (i * 3)) (by simpa [Addr.add] using q)
      have hab : (a.add (i * 3)).block = a.block ∧ (a.add (i * 3)).off = a.off + i * 3 := by
        unfold Addr.add
        split
        · rename_i q; rw [q]; exact ⟨rfl, rfl⟩
        · exact ⟨rfl, rfl⟩
      refine ⟨o, ⟨vb, ?_, ?_, ?_, r2, r3⟩, hsn⟩
      · have q := hcc 0 (by omega)
        rw [add_none hsn, hab.1, hab.2] at q
        exact q
      · have q := hcc 1 (by omega)
        rw [add_none hsn, hab.1, hab.2] at q
        exact q
      · have q := hcc 2 (by omega)
        rw [add_none hsn, hab.1, hab.2] at q
        exact q
    obtain ⟨l, hll, hlp⟩ := list_of n0 key
    refine ⟨l, Or.inr ⟨a.block, a.off, cap0, a.spot, by rw [hll], by rw [hll]; exact hl, hm, fun h0 => ⟨?_, ?_⟩, fun i hi => (hlp i hi).1⟩⟩
    · have := (hlp 0 h0).2
      simpa [Addr.add] using this
    · exact hp (.cell a.block (a.off + 0)) (List.mem_append.2 (Or.inl (MemPlace.mem_row.2 ⟨0, by omega, rfl⟩)))
end
end Go.Proofs.Ytpkmgkdgjghpdaa
