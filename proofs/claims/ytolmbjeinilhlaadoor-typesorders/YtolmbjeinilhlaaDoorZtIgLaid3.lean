/- What the rows of layer 11 list, as the walks want it. -/
import Derived.Test.YtolmbjeinilhlaaDoorUZtUqLaid2
import Derived.Test.YtolmbjeinilhlaaDoorZtHdPlain
namespace Go.Proofs.YtolmbjeinilhlaaDoor
open Go.ChangeShapes Go.WideShapes Go.ChangeAt Go.RowKit Go.Joins
set_option linter.unusedVariables false
set_option maxRecDepth 100000
theorem cPk : Tryd.prog.cellsOf 66 = 2 := by kernel_rfl
theorem cPA : Tryd.prog.cellsOf 80 = 16 := by kernel_rfl
theorem cTK3 : Tryd.prog.cellsOf 22 = 1 := by kernel_rfl
theorem cVK3 : Tryd.prog.cellsOf 27 = 1 := by kernel_rfl
theorem pk_cells {W : World} {fuel : Nat} {cs : List Value} {p : List MemPlace} {a b : Int}
    (hd : DataW.trod (fun _ => ()) Tryd.prog W 0 (fun _ => true) false fuel 66 cs = some (.agg [.lit (.int .i64 a), .lit (.int .i64 b)], p)) : cs = [.int .i64 a, .int .i64 b] := by
  obtain ⟨xs, n, rfl, hx, hlen, hxs, hel⟩ := DataW.trod_struct Tryd.underlying66 hd
  rw [cPk] at hlen
  obtain ⟨a0, a1, rfl⟩ : ∃ a0 a1, cs = [a0, a1] := by
    match cs, hlen with
    | [a0, a1], _ => exact ⟨_, _, rfl⟩
  obtain ⟨x0, x1, rfl⟩ : ∃ x0 x1, xs = [x0, x1] := by
    match xs, hxs with
    | [x0, x1], _ => exact ⟨_, _, rfl⟩
  have e0 := hel 0 _ rfl
  have e1 := hel 1 _ rfl
  replace e0 : DataW.trod (fun _ => ()) Tryd.prog W 0 (fun _ => true) false n 22 (([a0, a1].drop 0).take (Tryd.prog.cellsOf 22)) = some x0 := e0
  rw [cTK3] at e0
  replace e1 : DataW.trod (fun _ => ()) Tryd.prog W 0 (fun _ => true) false n 27 (([a0, a1].drop 1).take (Tryd.prog.cellsOf 27)) = some x1 := e1
  rw [cVK3] at e1
  replace e0 : DataW.trod (fun _ => ()) Tryd.prog W 0 (fun _ => true) false n 22 [a0] = some x0 := e0
  replace e1 : DataW.trod (fun _ => ()) Tryd.prog W 0 (fun _ => true) false n 27 [a1] = some x1 := e1
  obtain ⟨k0, q0, rfl, _⟩ := DataW.trod_int Tryd.underlying22 e0
  obtain ⟨k1, q1, rfl, _⟩ := DataW.trod_int Tryd.underlying27 e1
  simp only [List.cons.injEq, and_true] at q0 q1
  subst q0 q1
  simp at hx
  rw [hx.1.1, hx.1.2]
theorem pks_cells {W : World} {fuel : Nat} {cs : List Value} {p : List MemPlace}
    (hd : DataW.trod (fun _ => ()) Tryd.prog W 0 (fun _ => true) false fuel 80 cs = some (Rows.laid_calamus_types_plainKinds, p)) : cs = pkC.toList := by
  obtain ⟨xs, m1, rfl, hx1, hlen, hn3, hel⟩ := DataW.trod_array Tryd.underlying80 hd
  rw [cPA] at hlen
  have key : ∀ (i : Nat) (x y : Int), i < 8 → (match (Rows.laid_calamus_types_plainKinds : DataW Unit) with | .agg ds => ds | _ => [])[i]? = some (.agg [.lit (.int .i64 x), .lit (.int .i64 y)]) → (cs.drop (i * 2)).take 2 = [.int .i64 x, .int .i64 y] := by
    intro i x y hi hxy
    obtain ⟨fuel', d', q, hdi, he⟩ := Lib.array_elem Tryd.underlying80 hd i hi
    have hdi2 := hdi.symm.trans hxy
    obtain rfl := Option.some.inj hdi2
    rw [cPk] at he
    exact pk_cells he
  have k0 := key 0 1 0 (by omega) rfl
  have k1 := key 1 2 1 (by omega) rfl
  have k2 := key 2 3 2 (by omega) rfl
  have k3 := key 3 4 3 (by omega) rfl
  have k4 := key 4 5 3 (by omega) rfl
  have k5 := key 5 6 4 (by omega) rfl
  have k6 := key 6 7 5 (by omega) rfl
  have k7 := key 7 8 6 (by omega) rfl
  have e0 : cs = cs.drop 0 := rfl
  rw [e0, Ut.split_at' 0 2 cs, Ut.split_at' (0 + 2) 2 cs, Ut.split_at' (0 + 2 + 2) 2 cs, Ut.split_at' (0 + 2 + 2 + 2) 2 cs, Ut.split_at' (0 + 2 + 2 + 2 + 2) 2 cs, Ut.split_at' (0 + 2 + 2 + 2 + 2 + 2) 2 cs, Ut.split_at' (0 + 2 + 2 + 2 + 2 + 2 + 2) 2 cs, Ut.split_at' (0 + 2 + 2 + 2 + 2 + 2 + 2 + 2) 2 cs, List.drop_of_length_le (i := 0 + 2 + 2 + 2 + 2 + 2 + 2 + 2 + 2) (by omega)]
  simp only [Nat.reduceMul, Nat.reduceAdd] at k0 k1 k2 k3 k4 k5 k6 k7 ⊢
  rw [k0, k1, k2, k3, k4, k5, k6, k7]
  rfl
theorem laidMet_two {W : World} (h : laidMetH Tryd.prog [("calamus/utf.between", Rows.laid_calamus_utf_between), ("calamus/utf.longer", Rows.laid_calamus_utf_longer), ("calamus/types.plainKinds", Rows.laid_calamus_types_plainKinds)] W) : Ut.Gu W ∧ Gt W := by
  rw [MakeChecks.laidMetH_plain _ _ _ (by kernel_rfl)] at h
  have r1 := Lib.laidMet.reads h (.head _)
  have r2 := Lib.laidMet.reads h (.tail _ (.head _))
  have r3 := Lib.laidMet.reads h (.tail _ (.tail _ (.head _)))
  obtain ⟨g1, t1, cs1, f1, p1, hg1, ht1, hv1, hd1⟩ := r1
  obtain ⟨g2, t2, cs2, f2, p2, hg2, ht2, hv2, hd2⟩ := r2
  obtain ⟨g3, t3, cs3, f3, p3, hg3, ht3, hv3, hd3⟩ := r3
  obtain rfl := Option.some.inj ((show Tryd.prog.globalNamed "calamus/utf.between" = some 1 by kernel_rfl).symm.trans hg1)
  obtain rfl := Option.some.inj ((show Tryd.prog.globalNamed "calamus/utf.longer" = some 2 by kernel_rfl).symm.trans hg2)
  obtain rfl := Option.some.inj ((show Tryd.prog.globalNamed "calamus/types.plainKinds" = some 0 by kernel_rfl).symm.trans hg3)
  obtain rfl := Option.some.inj ((show Option.map (fun x => x.type) Tryd.prog.globals[1]? = some 88 by kernel_rfl).symm.trans ht1)
  obtain rfl := Option.some.inj ((show Option.map (fun x => x.type) Tryd.prog.globals[2]? = some 104 by kernel_rfl).symm.trans ht2)
  obtain rfl := Option.some.inj ((show Option.map (fun x => x.type) Tryd.prog.globals[0]? = some 80 by kernel_rfl).symm.trans ht3)
  have e1 := Ut.spans_cells hd1
  have e2 := Ut.longer_cells hd2
  have e3 := pks_cells hd3
  obtain ⟨t, fr, q1⟩ := Ut.heap_of_var hg1 hv1
  obtain ⟨t', fr', q2⟩ := Ut.heap_of_var hg2 hv2
  obtain ⟨t'', fr'', q3⟩ := Ut.heap_of_var hg3 hv3
  have hc1 : cs1 = #[.int .u8 0, .int .u8 0, .int .u8 0, .int .u8 0, .int .u8 0, .int .u8 0, .int .u8 0, .int .u8 0] := Array.toList_inj.1 e1
  have hc2 : cs2 = Ut.lgC := Array.toList_inj.1 e2
  have hc3 : cs3 = pkC := Array.toList_inj.1 e3
  rw [hc1] at q1
  rw [hc2] at q2
  rw [hc3] at q3
  exact ⟨⟨⟨t, fr, q1⟩, ⟨t', fr', q2⟩⟩, ⟨t'', fr'', q3⟩⟩
end Go.Proofs.YtolmbjeinilhlaaDoor
