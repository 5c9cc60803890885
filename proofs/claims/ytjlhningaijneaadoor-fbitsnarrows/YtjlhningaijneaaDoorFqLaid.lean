/- What the rows list, as the walks want it. -/
import Derived.Test.YtjlhningaijneaaDoorRows
import Derived.Test.YtjlhningaijneaaDoorFfNum
import Derived.WalkKit
import Derived.ProofKit
import Derived.Lib.SmallJoins
import Derived.Lay
import Derived.SevenTiedAt
namespace Go.Proofs.YtjlhningaijneaaDoor
open Go.ChangeShapes Go.WideShapes Go.ChangeAt Go.RowKit Go.Joins
set_option linter.unusedVariables false
set_option maxRecDepth 100000
theorem own : ownKnob Tryd.prog.godebug = none := by kernel_rfl
theorem c3 : Tryd.prog.cellsOf 3 = 1 := by kernel_rfl
theorem c44 : Tryd.prog.cellsOf 44 = 2 := by kernel_rfl
theorem gh : Tryd.prog.globalNamed "calamus/fbits.half" = some 0 := by kernel_rfl
theorem gd : Tryd.prog.globalNamed "calamus/fbits.double" = some 1 := by kernel_rfl
theorem gs : Tryd.prog.globalNamed "calamus/fbits.single" = some 2 := by kernel_rfl
theorem nat_u64 {n : Int} (h : (Lit.int .u64 n).wf = true) : ∃ x : Nat, n = x ∧ x < 18446744073709551616 := by
  have m1 : IntKind.u64.min = 0 := rfl
  have m2 : IntKind.u64.max = 18446744073709551615 := rfl
  simp [Lit.wf, m1, m2] at h
  exact ⟨n.toNat, by omega, by omega⟩
theorem nat_u16 {n : Int} (h : (Lit.int .u16 n).wf = true) : ∃ x : Nat, n = x ∧ x < 65536 := by
  have m1 : IntKind.u16.min = 0 := rfl
  have m2 : IntKind.u16.max = 65535 := rfl
  simp [Lit.wf, m1, m2] at h
  exact ⟨n.toNat, by omega, by omega⟩
theorem nat_u32 {n : Int} (h : (Lit.int .u32 n).wf = true) : ∃ x : Nat, n = x ∧ x < 4294967296 := by
  have m1 : IntKind.u32.min = 0 := rfl
  have m2 : IntKind.u32.max = 4294967295 := rfl
  simp [Lit.wf, m1, m2] at h
  exact ⟨n.toNat, by omega, by omega⟩
/-- What the rows list. -/
def laid3 : List (String × DataW Unit) := [("calamus/fbits.half", Rows.laid_calamus_fbits_half), ("calamus/fbits.single", Rows.laid_calamus_fbits_single), ("calamus/fbits.double", Rows.laid_calamus_fbits_double)]
theorem lt_of_cell {w : World} {b o : Nat} {v : Value} (h : w.cell? ⟨b, o, none⟩ = some v) : b < w.heap.size := by
  by_cases hlt : b < w.heap.size
  · exact hlt
  · have hn : w.heap[b]? = none := by simp; omega
    simp [World.cell?, hn] at h
theorem two_cells {W : World} {f : Nat} {cs : Array Value} {p : List MemPlace} {a b : Int} (hd : DataW.trod (fun x => ()) Tryd.prog W 0 (fun x => true) false f 44 cs.toList = some (.agg [.lit (.int .i64 a), .lit (.int .i64 b)], p)) : cs[0]? = some (.int .i64 a) ∧ cs[1]? = some (.int .i64 b) := by
  obtain ⟨xs, m1, rfl, hx1, hlen, hn3, hel⟩ := DataW.trod_array Tryd.underlying44 hd
  have h0 := hel 0 (by decide)
  have h1 := hel 1 (by decide)
  simp only [Prod.mk.injEq, DataW.agg.injEq] at hx1
  match xs, hn3, hx1, h0, h1 with
  | [x0, x1], _, hx1, h0, h1 =>
    simp only [List.map_cons, List.map_nil, List.cons.injEq] at hx1
    obtain ⟨k, e1, e2, _⟩ := DataW.trod_int Tryd.underlying3 (show DataW.trod _ Tryd.prog W 0 _ false m1 3 _ = some x0 from h0)
    obtain ⟨k', e1', e2', _⟩ := DataW.trod_int Tryd.underlying3 (show DataW.trod _ Tryd.prog W 0 _ false m1 3 _ = some x1 from h1)
    have hk : k = a := by rw [e2] at hx1; simpa using hx1.1.1.symm
    have hk' : k' = b := by rw [e2'] at hx1; simpa using hx1.1.2.1.symm
    subst hk hk'
    rw [c3] at e1 e1'
    rw [c44] at hlen
    obtain ⟨l1⟩ := cs
    match l1, hlen, e1, e1' with
    | [y0, y1], _, e1, e1' =>
      simp at e1 e1'
      subst e1 e1'
      exact ⟨rfl, rfl⟩
theorem of_laid {W : World} (h : laidMetH Tryd.prog laid3 W) : Gl W := by
  rw [MakeChecks.laidMetH_plain _ _ _ (by kernel_rfl)] at h
  obtain ⟨ps, ⟨g0, t0, cs0, f0, p0, q0, hg0, ht0, hv0, hd0, ⟨g1, t1, cs1, f1, p1, q1, hg1, ht1, hv1, hd1, ⟨g2, t2, cs2, f2, p2, q2, hg2, ht2, hv2, hd2, _, _⟩, _⟩, _⟩, _, _⟩ := h
  obtain rfl := Option.some.inj (gh.symm.trans hg0)
  obtain rfl := Option.some.inj (gs.symm.trans hg1)
  obtain rfl := Option.some.inj (gd.symm.trans hg2)
  obtain rfl := Option.some.inj ((show Option.map (fun x => x.type) Tryd.prog.globals[0]? = some 44 by kernel_rfl).symm.trans ht0)
  obtain rfl := Option.some.inj ((show Option.map (fun x => x.type) Tryd.prog.globals[2]? = some 44 by kernel_rfl).symm.trans ht1)
  obtain rfl := Option.some.inj ((show Option.map (fun x => x.type) Tryd.prog.globals[1]? = some 44 by kernel_rfl).symm.trans ht2)
  obtain ⟨a0, a1⟩ := two_cells hd0
  obtain ⟨b0, b1⟩ := two_cells hd1
  obtain ⟨d0, d1⟩ := two_cells hd2
  have q0 := World.var?_cell hg0 hv0 0
  have q1 := World.var?_cell hg0 hv0 1
  have r0 := World.var?_cell hg1 hv1 0
  have r1 := World.var?_cell hg1 hv1 1
  have s0 := World.var?_cell hg2 hv2 0
  have s1 := World.var?_cell hg2 hv2 1
  rw [a0] at q0
  rw [a1] at q1
  rw [b0] at r0
  rw [b1] at r1
  rw [d0] at s0
  rw [d1] at s1
  exact ⟨q0, q1, s0, s1, r0, r1, lt_of_cell r0⟩
end Go.Proofs.YtjlhningaijneaaDoor
