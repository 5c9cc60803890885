/- calamusref04.Cmp, calamuslaw04.ValueOrders: walked. -/
import Derived.Test.YtemlpjnophijfaaDoorXnLess
import Derived.Test.YtemlpjnophijfaaDoorXkVal
import Derived.Test.YtemlpjnophijfaaDoorXeLists
namespace Go.Proofs.YtemlpjnophijfaaDoor
open Go.RowKit
set_option linter.unusedSimpArgs false
set_option linter.unusedVariables false
set_option maxHeartbeats 2000000 in
set_option maxRecDepth 100000 in
theorem rcmpV (n : Nat) (x y : VT n) (ns ls ns' ls' : Value) (w : World) (hx : Rdy n w x ns ls) (hy : Rdy n w y ns' ls') (E1 E2 : Int) (h1 : Chk n x E1) (h2 : Chk n y E2) :
    Calls Tryd.prog 19 #[.agg (vals (vhd n x) ns ls), .agg (vals (vhd n y) ns' ls')] w fun e w' => e = .returned (.tuple #[.int .i64 (cmpE E1 E2 (cmpV n x y)).1, .int .i64 (cmpE E1 E2 (cmpV n x y)).2]) ∧ Below w.heap.size w w' := by
  obtain ⟨a1, a2, a3, a4, a5, a6, rfl, rfl⟩ := hx.rd.shape
  obtain ⟨b1, b2, b3, b4, b5, b6, rfl, rfl⟩ := hy.rd.shape
  have hA := hide (fun W (hb : Below w.heap.size w W) => rcheck_any rval n x _ _ W (hx.below hb) E1 h1)
  have hB := hide (fun W (hb : Below w.heap.size w W) => rcheck_any rval n y _ _ W (hy.below hb) E2 h2)
  have hL := hide (fun (e1 : E1 = 0) (e2 : E2 = 0) W (hb : Below w.heap.size w W) => lessA n x y _ _ _ _ W (hx.rd.below hb) (hy.rd.below hb) ⟨(chk_ok h1 e1).1, (chk_ok h1 e1).2.1⟩ ⟨(chk_ok h2 e2).1, (chk_ok h2 e2).2.1⟩)
  have hM := hide (fun (e1 : E1 = 0) (e2 : E2 = 0) W (hb : Below w.heap.size w W) => lessA n y x _ _ _ _ W (hy.rd.below hb) (hx.rd.below hb) ⟨(chk_ok h2 e2).1, (chk_ok h2 e2).2.1⟩ ⟨(chk_ok h1 e1).1, (chk_ok h1 e1).2.1⟩)
  have hR := hide (fun (e1 : E1 = 0) (e2 : E2 = 0) => (ord_v n).rev x y (chk_ok h1 e1).1 (chk_ok h2 e2).1)
  have hval := (ord_v n).val x y
  obtain ⟨C, hC⟩ : ∃ C, cmpV n x y = C := ⟨_, rfl⟩
  rw [hC] at hL hR hval ⊢
  obtain ⟨hp, hhp⟩ : ∃ h, vhd n x = h := ⟨_, rfl⟩
  obtain ⟨hq, hhq⟩ : ∃ h, vhd n y = h := ⟨_, rfl⟩
  rw [hhp] at hA hL hM ⊢
  rw [hhq] at hB hL hM ⊢
  have T0 := hide (lw_new w hp hq (.slice a1 a2 a3) (.slice a4 a5 a6) (.slice b1 b2 b3) (.slice b4 b5 b6))
  clear hx hy h1 h2 hhp hhq hC
  show Calls _ _ #[.agg #[.int .i64 hp.kind, .bool hp.flag, .bool hp.neg, .string hp.dig, .int .i64 hp.exp, .int .u64 hp.bits, .string hp.text, .slice a1 a2 a3, .slice a4 a5 a6], .agg #[.int .i64 hq.kind, .bool hq.flag, .bool hq.neg, .string hq.dig, .int .i64 hq.exp, .int .u64 hq.bits, .string hq.text, .slice b1 b2 b3, .slice b4 b5 b6]] _ _
  by_cases e1 : E1 = 0
  · subst e1
    go_enter Tryd.func19, Tryd.ntmps19
    go_wp2_with fail
    refine (hA.out _ T0.out.below).mono ?_
    rintro e w1 ⟨rfl, hb1⟩
    have T1 := hide (T0.out.then hb1)
    clear T0 hb1
    obtain ⟨q0, q1, q2, q3, q4, q5, q6, q7, q8⟩ := T1.out.bb.cells
    by_cases e2 : E2 = 0
    · subst e2
      replace hL := hide (hL.out (by simp) (by simp))
      replace hM := hide (hM.out (by simp) (by simp))
      rw [hR.out (by simp) (by simp)] at hM
      go_wp2_with fail
      refine (hB.out _ T1.out.below).mono ?_
      rintro e w2 ⟨rfl, hb2⟩
      have T2 := hide (T1.out.then hb2)
      clear T1 hb2 q0 q1 q2 q3 q4 q5 q6 q7 q8
      obtain ⟨p0, p1, p2, p3, p4, p5, p6, p7, p8⟩ := T2.out.ba.cells
      obtain ⟨q0, q1, q2, q3, q4, q5, q6, q7, q8⟩ := T2.out.bb.cells
      rcases hval with rfl | rfl | rfl
      · go_wp2_with (go_at_call 30; refine (hL.out _ T2.out.below).mono ?_; rintro e w3 ⟨rfl, hb3⟩)
        go_ret2
        exact ⟨rfl, below_then T2.out.below hb3⟩
      · have f1 : decide ((0 : Int) = -1) = false := by decide
        have f2 : decide (-(0 : Int) = -1) = false := by decide
        rw [f1] at hL
        rw [f2] at hM
        go_wp2_with fail
        refine (hL.out _ T2.out.below).mono ?_
        rintro e w3 ⟨rfl, hb3⟩
        have T3 := hide (T2.out.then hb3)
        clear T2 hb3 p0 p1 p2 p3 p4 p5 p6 p7 p8 q0 q1 q2 q3 q4 q5 q6 q7 q8
        obtain ⟨p0, p1, p2, p3, p4, p5, p6, p7, p8⟩ := T3.out.ba.cells
        obtain ⟨q0, q1, q2, q3, q4, q5, q6, q7, q8⟩ := T3.out.bb.cells
        go_wp2_with (go_at_call 30; refine (hM.out _ T3.out.below).mono ?_; rintro e w4 ⟨rfl, hb4⟩)
        go_ret2
        exact ⟨rfl, below_then T3.out.below hb4⟩
      · have f1 : decide ((1 : Int) = -1) = false := by decide
        have f2 : decide (-(1 : Int) = -1) = true := by decide
        rw [f1] at hL
        rw [f2] at hM
        go_wp2_with fail
        refine (hL.out _ T2.out.below).mono ?_
        rintro e w3 ⟨rfl, hb3⟩
        have T3 := hide (T2.out.then hb3)
        clear T2 hb3 p0 p1 p2 p3 p4 p5 p6 p7 p8 q0 q1 q2 q3 q4 q5 q6 q7 q8
        obtain ⟨p0, p1, p2, p3, p4, p5, p6, p7, p8⟩ := T3.out.ba.cells
        obtain ⟨q0, q1, q2, q3, q4, q5, q6, q7, q8⟩ := T3.out.bb.cells
        go_wp2_with (go_at_call 30; refine (hM.out _ T3.out.below).mono ?_; rintro e w4 ⟨rfl, hb4⟩)
        go_ret2
        exact ⟨rfl, below_then T3.out.below hb4⟩
    · have hE := hide (show cmpE 0 E2 C = (0, E2) by unfold cmpE; rw [if_pos rfl, if_neg e2])
      go_wp2_with (go_at_call 12; refine (hB.out _ T1.out.below).mono ?_; rintro e w2 ⟨rfl, hb2⟩)
      go_ret2
      exact ⟨by rw [hE.out]; rfl, below_then T1.out.below hb2⟩
  · have hE := hide (show cmpE E1 E2 C = (0, E1) by unfold cmpE; rw [if_neg e1])
    go_enter Tryd.func19, Tryd.ntmps19
    go_wp2_with (go_at_call 12; refine (hA.out _ T0.out.below).mono ?_; rintro e w1 ⟨rfl, hb1⟩)
    go_ret2
    exact ⟨by rw [hE.out]; rfl, below_then T0.out.below hb1⟩
set_option maxHeartbeats 8000000 in
set_option maxRecDepth 100000 in
theorem orders_law (n : Nat) (x y : VT n) (ns ls ns' ls' : Value) (w : World) (hx : RD n w x ns ls) (zx : Sz n x) (hy : RD n w y ns' ls') (zy : Sz n y) (g : Ut.Gu w) :
    Calls Tryd.prog 4 #[.agg (vals (vhd n x) ns ls), .agg (vals (vhd n y) ns' ls')] w fun e w' => e = .returned (.bool true) ∧ Below w.heap.size w w' := by
  obtain ⟨a1, a2, a3, a4, a5, a6, rfl, rfl⟩ := hx.shape
  obtain ⟨b1, b2, b3, b4, b5, b6, rfl, rfl⟩ := hy.shape
  obtain ⟨hp, hhp⟩ : ∃ h, vhd n x = h := ⟨_, rfl⟩
  obtain ⟨hq, hhq⟩ : ∃ h, vhd n y = h := ⟨_, rfl⟩
  have gx := hide (fun W (hb : Below w.heap.size w W) => Go.Proofs.YtemlpjnophijfaaDoor.big_any n x _ _ W (hx.below hb) zx)
  have gy := hide (fun W (hb : Below w.heap.size w W) => Go.Proofs.YtemlpjnophijfaaDoor.big_any n y _ _ W (hy.below hb) zy)
  have T0 := hide (lw_new w hp hq (.slice a1 a2 a3) (.slice a4 a5 a6) (.slice b1 b2 b3) (.slice b4 b5 b6))
  replace hx := hide hx
  replace zx := hide zx
  replace hy := hide hy
  replace zy := hide zy
  replace g := hide g
  rw [hhp] at gx ⊢
  rw [hhq] at gy ⊢
  replace hhp := hide hhp
  replace hhq := hide hhq
  show Calls _ _ #[.agg #[.int .i64 hp.kind, .bool hp.flag, .bool hp.neg, .string hp.dig, .int .i64 hp.exp, .int .u64 hp.bits, .string hp.text, .slice a1 a2 a3, .slice a4 a5 a6], .agg #[.int .i64 hq.kind, .bool hq.flag, .bool hq.neg, .string hq.dig, .int .i64 hq.exp, .int .u64 hq.bits, .string hq.text, .slice b1 b2 b3, .slice b4 b5 b6]] _ _
  go_enter Tryd.func4, Tryd.ntmps4
  go_wp2_with fail
  refine (gx.out _ T0.out.below).mono ?_
  rintro e w1 ⟨bb, rfl, sx, hb1⟩
  have T1 := hide (T0.out.then hb1)
  clear T0 hb1
  cases bb
  · obtain ⟨p0, p1, p2, p3, p4, p5, p6, p7, p8⟩ := T1.out.bb.cells
    go_wp2_with fail
    refine (gy.out _ T1.out.below).mono ?_
    rintro e w2 ⟨bb, rfl, sy, hb2⟩
    have T2 := hide (T1.out.then hb2)
    clear T1 hb2 p0 p1 p2 p3 p4 p5 p6 p7 p8
    cases bb
    · replace sx := hide (sx.out (by simp))
      replace sy := hide (sy.out (by simp))
      obtain ⟨E1, h1⟩ := chk_ex n x
      obtain ⟨E2, h2⟩ := chk_ex n y
      have bx : siz n x ≤ 65536 := Nat.le_trans (siz_blk n x) sx.out.1
      have by' : siz n y ≤ 65536 := Nat.le_trans (siz_blk n y) sy.out.1
      have Rx : Hid (∀ W, Below w.heap.size w W → Rdy n W x _ _) := fun W hb => ⟨hx.out.below hb, zx.out, by omega⟩
      have Ry : Hid (∀ W, Below w.heap.size w W → Rdy n W y _ _) := fun W hb => ⟨hy.out.below hb, zy.out, by omega⟩
      obtain ⟨q, hq'⟩ := tells (x = y)
      have c1 := hide (fun W (hb : Below w.heap.size w W) => vcmpA n x y _ _ _ _ W (Rx.out W hb) (Ry.out W hb) (g.out.below hb) E1 E2 h1 h2)
      have c2 := hide (fun W (hb : Below w.heap.size w W) => rcmpV n x y _ _ _ _ W (Rx.out W hb) (Ry.out W hb) E1 E2 h1 h2)
      obtain ⟨A1, hA1⟩ : ∃ X, (cmpE E1 E2 (cmpV n x y)).1 = X := ⟨_, rfl⟩
      obtain ⟨A2, hA2⟩ : ∃ X, (cmpE E1 E2 (cmpV n x y)).2 = X := ⟨_, rfl⟩
      rw [hA1, hA2] at c1 c2
      have kq0 := hide (fun W (hb : Below w.heap.size w W) => Calls.tb (equal_any n x y _ _ _ _ W (Rx.out W hb).rd (Ry.out W hb).rd) hq')
      have kr0 := hide (fun W (hb : Below w.heap.size w W) => Calls.tb (requal_any n x y _ _ _ _ W (Rx.out W hb).rd (Ry.out W hb).rd) hq')
      rw [hhp.out] at c1 c2 kq0 kr0
      rw [hhq.out] at c1 c2 kq0 kr0
      have kq : Hid (∀ W, Below w.heap.size w W → Calls Tryd.prog 20 #[.agg #[.int .i64 hp.kind, .bool hp.flag, .bool hp.neg, .string hp.dig, .int .i64 hp.exp, .int .u64 hp.bits, .string hp.text, .slice a1 a2 a3, .slice a4 a5 a6], .agg #[.int .i64 hq.kind, .bool hq.flag, .bool hq.neg, .string hq.dig, .int .i64 hq.exp, .int .u64 hq.bits, .string hq.text, .slice b1 b2 b3, .slice b4 b5 b6]] W fun e w' => e = .returned (.bool q) ∧ Below W.heap.size W w') := fun W hb => kq0.out W hb
      have kr : Hid (∀ W, Below w.heap.size w W → Calls Tryd.prog 17 #[.agg #[.int .i64 hp.kind, .bool hp.flag, .bool hp.neg, .string hp.dig, .int .i64 hp.exp, .int .u64 hp.bits, .string hp.text, .slice a1 a2 a3, .slice a4 a5 a6], .agg #[.int .i64 hq.kind, .bool hq.flag, .bool hq.neg, .string hq.dig, .int .i64 hq.exp, .int .u64 hq.bits, .string hq.text, .slice b1 b2 b3, .slice b4 b5 b6]] W fun e w' => e = .returned (.bool q) ∧ Below W.heap.size W w') := fun W hb => kr0.out W hb
      have LB : Hid (∀ W, Lw w hp hq (.slice a1 a2 a3) (.slice a4 a5 a6) (.slice b1 b2 b3) (.slice b4 b5 b6) W → Below w.heap.size w W) := fun W q => q.below
      have mkS : Hid (∀ w', Lw w hp hq (.slice a1 a2 a3) (.slice a4 a5 a6) (.slice b1 b2 b3) (.slice b4 b5 b6) w' → w'.cell? ⟨w.heap.size, 0, none⟩ = some (.int .i64 hp.kind) ∧ w'.cell? ⟨w.heap.size, 1, none⟩ = some (.bool hp.flag) ∧ w'.cell? ⟨w.heap.size, 2, none⟩ = some (.bool hp.neg) ∧ w'.cell? ⟨w.heap.size, 3, none⟩ = some (.string hp.dig) ∧ w'.cell? ⟨w.heap.size, 4, none⟩ = some (.int .i64 hp.exp) ∧ w'.cell? ⟨w.heap.size, 5, none⟩ = some (.int .u64 hp.bits) ∧ w'.cell? ⟨w.heap.size, 6, none⟩ = some (.string hp.text) ∧ w'.cell? ⟨w.heap.size, 7, none⟩ = some (.slice a1 a2 a3) ∧ w'.cell? ⟨w.heap.size, 8, none⟩ = some (.slice a4 a5 a6) ∧ w'.cell? ⟨w.heap.size + 1, 0, none⟩ = some (.int .i64 hq.kind) ∧ w'.cell? ⟨w.heap.size + 1, 1, none⟩ = some (.bool hq.flag) ∧ w'.cell? ⟨w.heap.size + 1, 2, none⟩ = some (.bool hq.neg) ∧ w'.cell? ⟨w.heap.size + 1, 3, none⟩ = some (.string hq.dig) ∧ w'.cell? ⟨w.heap.size + 1, 4, none⟩ = some (.int .i64 hq.exp) ∧ w'.cell? ⟨w.heap.size + 1, 5, none⟩ = some (.int .u64 hq.bits) ∧ w'.cell? ⟨w.heap.size + 1, 6, none⟩ = some (.string hq.text) ∧ w'.cell? ⟨w.heap.size + 1, 7, none⟩ = some (.slice b1 b2 b3) ∧ w'.cell? ⟨w.heap.size + 1, 8, none⟩ = some (.slice b4 b5 b6)) := fun w' q => by
        obtain ⟨p0, p1, p2, p3, p4, p5, p6, p7, p8⟩ := q.ba.cells
        obtain ⟨q0, q1, q2, q3, q4, q5, q6, q7, q8⟩ := q.bb.cells
        exact ⟨p0, p1, p2, p3, p4, p5, p6, p7, p8, q0, q1, q2, q3, q4, q5, q6, q7, q8⟩
      have hAw := hide (fun W (hb : Below w.heap.size w W) => awake_any W (g.out.below hb))
      clear hA1 hA2 h1 h2 hq' bx by' hx hy zx zy sx sy Rx Ry gx gy kq0 kr0
      obtain ⟨p0, p1, p2, p3, p4, p5, p6, p7, p8⟩ := T2.out.ba.cells
      obtain ⟨q0, q1, q2, q3, q4, q5, q6, q7, q8⟩ := T2.out.bb.cells
      go_wp2_with fail
      refine (c1.out _ T2.out.below).mono ?_
      rintro e w3 ⟨rfl, hb3⟩
      have T3 := hide (T2.out.then hb3)
      clear T2 hb3 c1 p0 p1 p2 p3 p4 p5 p6 p7 p8 q0 q1 q2 q3 q4 q5 q6 q7 q8
      obtain ⟨p0, p1, p2, p3, p4, p5, p6, p7, p8⟩ := T3.out.ba.cells
      obtain ⟨q0, q1, q2, q3, q4, q5, q6, q7, q8⟩ := T3.out.bb.cells
      go_wp2_with fail
      refine (c2.out _ T3.out.below).mono ?_
      rintro e w4 ⟨rfl, hb4⟩
      have T4 := hide (T3.out.then hb4)
      clear T3 hb4 c2 p0 p1 p2 p3 p4 p5 p6 p7 p8 q0 q1 q2 q3 q4 q5 q6 q7 q8
      obtain ⟨p0, p1, p2, p3, p4, p5, p6, p7, p8⟩ := T4.out.ba.cells
      obtain ⟨q0, q1, q2, q3, q4, q5, q6, q7, q8⟩ := T4.out.bb.cells
      have hbt : ∀ W : World, Sem.run Tryd.prog (binOp BinOp.eql 4 (.bool q) (.bool q)) W = .ok (.bool true) W := fun W => by cases q <;> first | rfl | simp [go_sem]
      clear g hhp hhq
      go_wp2_with fail
      go_region_held3 (fun w' => w'.cell? ⟨w.heap.size, 0, none⟩ = some (.int .i64 hp.kind) ∧ w'.cell? ⟨w.heap.size, 1, none⟩ = some (.bool hp.flag) ∧ w'.cell? ⟨w.heap.size, 2, none⟩ = some (.bool hp.neg) ∧ w'.cell? ⟨w.heap.size, 3, none⟩ = some (.string hp.dig) ∧ w'.cell? ⟨w.heap.size, 4, none⟩ = some (.int .i64 hp.exp) ∧ w'.cell? ⟨w.heap.size, 5, none⟩ = some (.int .u64 hp.bits) ∧ w'.cell? ⟨w.heap.size, 6, none⟩ = some (.string hp.text) ∧ w'.cell? ⟨w.heap.size, 7, none⟩ = some (.slice a1 a2 a3) ∧ w'.cell? ⟨w.heap.size, 8, none⟩ = some (.slice a4 a5 a6) ∧ w'.cell? ⟨w.heap.size + 1, 0, none⟩ = some (.int .i64 hq.kind) ∧ w'.cell? ⟨w.heap.size + 1, 1, none⟩ = some (.bool hq.flag) ∧ w'.cell? ⟨w.heap.size + 1, 2, none⟩ = some (.bool hq.neg) ∧ w'.cell? ⟨w.heap.size + 1, 3, none⟩ = some (.string hq.dig) ∧ w'.cell? ⟨w.heap.size + 1, 4, none⟩ = some (.int .i64 hq.exp) ∧ w'.cell? ⟨w.heap.size + 1, 5, none⟩ = some (.int .u64 hq.bits) ∧ w'.cell? ⟨w.heap.size + 1, 6, none⟩ = some (.string hq.text) ∧ w'.cell? ⟨w.heap.size + 1, 7, none⟩ = some (.slice b1 b2 b3) ∧ w'.cell? ⟨w.heap.size + 1, 8, none⟩ = some (.slice b4 b5 b6)) (first | exact mkS.out _ (by repeat (first | (with_reducible exact Hid.out (by assumption)) | (with_reducible refine Lw.drew ?_) | (with_reducible refine Lw.al ?_)))) (first | (go_at_call 11; (with_reducible refine Calls.mono (hAw.out _ ?_) ?_); exact (LB.out _ (by repeat (first | (with_reducible exact Hid.out (by assumption)) | (with_reducible refine Lw.drew ?_) | (with_reducible refine Lw.al ?_)))); rintro e v1 ⟨rfl, hb3⟩; have T3 : Hid (Lw w hp hq (.slice a1 a2 a3) (.slice a4 a5 a6) (.slice b1 b2 b3) (.slice b4 b5 b6) v1) := Lw.then (by repeat (first | (with_reducible exact Hid.out (by assumption)) | (with_reducible refine Lw.drew ?_) | (with_reducible refine Lw.al ?_))) hb3) | (go_at_call 20; (with_reducible refine Calls.mono (kq.out _ ?_) ?_); exact (LB.out _ (by repeat (first | (with_reducible exact Hid.out (by assumption)) | (with_reducible refine Lw.drew ?_) | (with_reducible refine Lw.al ?_)))); rintro e v1 ⟨rfl, hb3⟩; have T3 : Hid (Lw w hp hq (.slice a1 a2 a3) (.slice a4 a5 a6) (.slice b1 b2 b3) (.slice b4 b5 b6) v1) := Lw.then (by repeat (first | (with_reducible exact Hid.out (by assumption)) | (with_reducible refine Lw.drew ?_) | (with_reducible refine Lw.al ?_))) hb3) | (go_at_call 17; (with_reducible refine Calls.mono (kr.out _ ?_) ?_); exact (LB.out _ (by repeat (first | (with_reducible exact Hid.out (by assumption)) | (with_reducible refine Lw.drew ?_) | (with_reducible refine Lw.al ?_)))); rintro e v1 ⟨rfl, hb3⟩; have T3 : Hid (Lw w hp hq (.slice a1 a2 a3) (.slice a4 a5 a6) (.slice b1 b2 b3) (.slice b4 b5 b6) v1) := Lw.then (by repeat (first | (with_reducible exact Hid.out (by assumption)) | (with_reducible refine Lw.drew ?_) | (with_reducible refine Lw.al ?_))) hb3))
      all_goals (go_wp2_with fail; go_ret; exact ⟨by first | rfl | (simp; done), Lw.below (Hid.out (by assumption))⟩)
    · go_wp2_with fail
      go_ret
      exact ⟨rfl, T2.out.below⟩
  · go_wp2_with fail
    go_ret
    exact ⟨rfl, T1.out.below⟩
end Go.Proofs.YtemlpjnophijfaaDoor
