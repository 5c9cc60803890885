/- An event that comes in: opened. -/
import Derived.Test.YthbfopdeaknbkaaDoorEaHead
import Derived.Test.YthbfopdeaknbkaaDoorWoOpen
namespace Go.Proofs.YthbfopdeaknbkaaDoor
open Go.ChangeShapes Go.WideShapes Go.ChangeAt Go.RowKit Go.Joins
set_option linter.unusedVariables false
set_option maxRecDepth 100000
theorem cE : Tryd.prog.cellsOf 42 = 7 := by kernel_rfl
theorem cEK : Tryd.prog.cellsOf 40 = 1 := by kernel_rfl
theorem seven {cs : List Value} (h : cs.length = 7) : ∃ a0 a1 a2 a3 a4 a5 a6, cs = [a0, a1, a2, a3, a4, a5, a6] := by
  match cs, h with
  | [a0, a1, a2, a3, a4, a5, a6], _ => exact ⟨_, _, _, _, _, _, _, rfl⟩
theorem open_e {H : Type} {enc : TypeId × Value → H} {W : World} (fuel : Nat) (cs : List Value) (x : DataW H × List MemPlace) (h : DataW.trod enc Tryd.prog W 0 (fun _ => true) true fuel 42 cs = some x)
    (hw : ∀ k ∈ DataW.weights Tryd.prog 42 x.1, k ≤ reachBytes) : ∃ t : Hd, cs = (evs t).toList ∧ EvZ t := by
  obtain ⟨xs, n, rfl, rfl, hlen, hxs, hel⟩ := DataW.trod_struct Tryd.underlying42 h
  rw [cE] at hlen
  obtain ⟨a0, a1, a2, a3, a4, a5, a6, rfl⟩ := seven hlen
  obtain ⟨x0, x1, x2, x3, x4, rfl⟩ : ∃ x0 x1 x2 x3 x4, xs = [x0, x1, x2, x3, x4] := by
    match xs, hxs with
    | [x0, x1, x2, x3, x4], _ => exact ⟨_, _, _, _, _, rfl⟩
  have e0 := hel 0 _ rfl
  have e1 := hel 1 _ rfl
  have e2 := hel 2 _ rfl
  have e3 := hel 3 _ rfl
  have e4 := hel 4 _ rfl
  replace e0 : DataW.trod enc Tryd.prog W 0 (fun _ => true) true n 40 (([a0, a1, a2, a3, a4, a5, a6].drop 0).take (Tryd.prog.cellsOf 40)) = some x0 := e0
  rw [cEK] at e0
  replace e1 : DataW.trod enc Tryd.prog W 0 (fun _ => true) true n 4 (([a0, a1, a2, a3, a4, a5, a6].drop 1).take (Tryd.prog.cellsOf 4)) = some x1 := e1
  rw [c4] at e1
  replace e2 : DataW.trod enc Tryd.prog W 0 (fun _ => true) true n 24 (([a0, a1, a2, a3, a4, a5, a6].drop 2).take (Tryd.prog.cellsOf 24)) = some x2 := e2
  rw [cN] at e2
  replace e3 : DataW.trod enc Tryd.prog W 0 (fun _ => true) true n 25 (([a0, a1, a2, a3, a4, a5, a6].drop 5).take (Tryd.prog.cellsOf 25)) = some x3 := e3
  rw [cU] at e3
  replace e4 : DataW.trod enc Tryd.prog W 0 (fun _ => true) true n 9 (([a0, a1, a2, a3, a4, a5, a6].drop 6).take (Tryd.prog.cellsOf 9)) = some x4 := e4
  rw [c9] at e4
  replace e0 : DataW.trod enc Tryd.prog W 0 (fun _ => true) true n 40 [a0] = some x0 := e0
  replace e1 : DataW.trod enc Tryd.prog W 0 (fun _ => true) true n 4 [a1] = some x1 := e1
  replace e2 : DataW.trod enc Tryd.prog W 0 (fun _ => true) true n 24 [a2, a3, a4] = some x2 := e2
  replace e3 : DataW.trod enc Tryd.prog W 0 (fun _ => true) true n 25 [a5] = some x3 := e3
  replace e4 : DataW.trod enc Tryd.prog W 0 (fun _ => true) true n 9 [a6] = some x4 := e4
  obtain ⟨kd, q0, rfl, _⟩ := DataW.trod_int Tryd.underlying40 e0
  obtain ⟨fl, q1, rfl⟩ := DataW.trod_bool Tryd.underlying4 e1
  obtain ⟨ys, n2, rfl, rfl, _, hys, hel2⟩ := DataW.trod_struct Tryd.underlying24 e2
  obtain ⟨y0, y1, y2, rfl⟩ : ∃ y0 y1 y2, ys = [y0, y1, y2] := by
    match ys, hys with
    | [y0, y1, y2], _ => exact ⟨_, _, _, rfl⟩
  have g0 := hel2 0 _ rfl
  have g1 := hel2 1 _ rfl
  have g2 := hel2 2 _ rfl
  replace g0 : DataW.trod enc Tryd.prog W 0 (fun _ => true) true n2 4 (([a2, a3, a4].drop 0).take (Tryd.prog.cellsOf 4)) = some y0 := g0
  rw [c4] at g0
  replace g1 : DataW.trod enc Tryd.prog W 0 (fun _ => true) true n2 9 (([a2, a3, a4].drop 1).take (Tryd.prog.cellsOf 9)) = some y1 := g1
  rw [c9] at g1
  replace g2 : DataW.trod enc Tryd.prog W 0 (fun _ => true) true n2 3 (([a2, a3, a4].drop 2).take (Tryd.prog.cellsOf 3)) = some y2 := g2
  rw [c3] at g2
  replace g0 : DataW.trod enc Tryd.prog W 0 (fun _ => true) true n2 4 [a2] = some y0 := g0
  replace g1 : DataW.trod enc Tryd.prog W 0 (fun _ => true) true n2 9 [a3] = some y1 := g1
  replace g2 : DataW.trod enc Tryd.prog W 0 (fun _ => true) true n2 3 [a4] = some y2 := g2
  obtain ⟨ng, p0, rfl⟩ := DataW.trod_bool Tryd.underlying4 g0
  obtain ⟨dg, p1, rfl, _⟩ := DataW.trod_string Tryd.underlying9 g1
  obtain ⟨ex, p2, rfl, _⟩ := DataW.trod_int Tryd.underlying3 g2
  obtain ⟨bt, q3, rfl, _⟩ := DataW.trod_int Tryd.underlying25 e3
  obtain ⟨tx', q4, rfl, _⟩ := DataW.trod_string Tryd.underlying9 e4
  simp only [List.cons.injEq, and_true] at q0 q1 q3 q4 p0 p1 p2
  subst q0 q1 q3 q4 p0 p1 p2
  have hwt : ∀ k, (k = tx'.size ∨ k = dg.size) → k ≤ reachBytes := by
    intro k hk
    apply hw
    simp only [DataW.weights, Tryd.underlying42, Tryd.underlying24, List.map_cons, List.map_nil, weightsE, List.mem_append, DataW.weightsEach]
    rcases hk with q | q
    · simp [q]
    · simp [q]
  exact ⟨⟨kd, fl, ng, dg, ex, bt, tx', []⟩, rfl, reach_le (hwt _ (Or.inl rfl)), reach_le (hwt _ (Or.inr rfl)), rfl⟩
end Go.Proofs.YthbfopdeaknbkaaDoor
