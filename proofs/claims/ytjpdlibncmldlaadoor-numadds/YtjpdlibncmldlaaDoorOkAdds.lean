/- calamuslaw01.NumAdds: walked. -/
import Derived.Test.YtjpdlibncmldlaaDoorOjAdds
import Derived.Outline
namespace Go.Proofs.YtjpdlibncmldlaaDoor
open Go.RowKit
set_option linter.unusedSimpArgs false
set_option linter.unusedVariables false
set_option maxHeartbeats 1000000 in
theorem adds_big_a (na : Bool) (a : ByteArray) (xa : Int) (nb : Bool) (b : ByteArray) (xb : Int) (nc : Bool) (c : ByteArray) (xc : Int) (w : World) (ha : a.size ≤ maxLen) (hb : b.size ≤ maxLen) (hc : c.size ≤ maxLen) (hab : decide (4096 < a.size) = true) :
    Calls Tryd.prog 8 #[.agg #[.bool na, .string a, .int .i64 xa], .agg #[.bool nb, .string b, .int .i64 xb], .agg #[.bool nc, .string c, .int .i64 xc]] w fun e w' => e = .returned (.bool true) ∧ Below w.heap.size w w' := by
  have T0 := hide (tri_new w na a xa nb b xb nc c xc)
  go_enter Tryd.func8, Tryd.ntmps8
  go_wp2_with fail
  refine (big_any na a xa _ _ hab ha).mono ?_
  rintro e w1 ⟨rfl, hb1⟩
  have T1 := hide (T0.out.then hb1)
  clear hb1 T0
  obtain ⟨c00, c01, c02, c03, c04, c05⟩ := T1.out.b0.cells
  obtain ⟨c10, c11, c12, c13, c14, c15⟩ := T1.out.b1.cells
  obtain ⟨c20, c21, c22, c23, c24, c25⟩ := T1.out.b2.cells
  go_wp2
  go_ret
  exact ⟨rfl, T1.out.below⟩
set_option maxHeartbeats 1000000 in
theorem adds_big_b (na : Bool) (a : ByteArray) (xa : Int) (nb : Bool) (b : ByteArray) (xb : Int) (nc : Bool) (c : ByteArray) (xc : Int) (w : World) (ha : a.size ≤ maxLen) (hb : b.size ≤ maxLen) (hc : c.size ≤ maxLen) (hab : decide (4096 < a.size) = false) (hbb : decide (4096 < b.size) = true) :
    Calls Tryd.prog 8 #[.agg #[.bool na, .string a, .int .i64 xa], .agg #[.bool nb, .string b, .int .i64 xb], .agg #[.bool nc, .string c, .int .i64 xc]] w fun e w' => e = .returned (.bool true) ∧ Below w.heap.size w w' := by
  have T0 := hide (tri_new w na a xa nb b xb nc c xc)
  go_enter Tryd.func8, Tryd.ntmps8
  go_wp2_with fail
  refine (big_any na a xa _ _ hab ha).mono ?_
  rintro e w1 ⟨rfl, hb1⟩
  have T1 := hide (T0.out.then hb1)
  clear hb1 T0
  obtain ⟨c00, c01, c02, c03, c04, c05⟩ := T1.out.b0.cells
  obtain ⟨c10, c11, c12, c13, c14, c15⟩ := T1.out.b1.cells
  obtain ⟨c20, c21, c22, c23, c24, c25⟩ := T1.out.b2.cells
  go_wp2_with fail
  refine (big_any nb b xb _ _ hbb hb).mono ?_
  rintro e w2 ⟨rfl, hb2⟩
  have T2 := hide (T1.out.then hb2)
  clear hb2 T1 c00 c01 c02 c03 c04 c05 c10 c11 c12 c13 c14 c15 c20 c21 c22 c23 c24 c25
  obtain ⟨c00, c01, c02, c03, c04, c05⟩ := T2.out.b0.cells
  obtain ⟨c10, c11, c12, c13, c14, c15⟩ := T2.out.b1.cells
  obtain ⟨c20, c21, c22, c23, c24, c25⟩ := T2.out.b2.cells
  go_wp2
  go_ret
  exact ⟨rfl, T2.out.below⟩
set_option maxHeartbeats 1000000 in
theorem adds_big_c (na : Bool) (a : ByteArray) (xa : Int) (nb : Bool) (b : ByteArray) (xb : Int) (nc : Bool) (c : ByteArray) (xc : Int) (w : World) (ha : a.size ≤ maxLen) (hb : b.size ≤ maxLen) (hc : c.size ≤ maxLen) (hab : decide (4096 < a.size) = false) (hbb : decide (4096 < b.size) = false) (hcb : decide (4096 < c.size) = true) :
    Calls Tryd.prog 8 #[.agg #[.bool na, .string a, .int .i64 xa], .agg #[.bool nb, .string b, .int .i64 xb], .agg #[.bool nc, .string c, .int .i64 xc]] w fun e w' => e = .returned (.bool true) ∧ Below w.heap.size w w' := by
  have T0 := hide (tri_new w na a xa nb b xb nc c xc)
  go_enter Tryd.func8, Tryd.ntmps8
  go_wp2_with fail
  refine (big_any na a xa _ _ hab ha).mono ?_
  rintro e w1 ⟨rfl, hb1⟩
  have T1 := hide (T0.out.then hb1)
  clear hb1 T0
  obtain ⟨c00, c01, c02, c03, c04, c05⟩ := T1.out.b0.cells
  obtain ⟨c10, c11, c12, c13, c14, c15⟩ := T1.out.b1.cells
  obtain ⟨c20, c21, c22, c23, c24, c25⟩ := T1.out.b2.cells
  go_wp2_with fail
  refine (big_any nb b xb _ _ hbb hb).mono ?_
  rintro e w2 ⟨rfl, hb2⟩
  have T2 := hide (T1.out.then hb2)
  clear hb2 T1 c00 c01 c02 c03 c04 c05 c10 c11 c12 c13 c14 c15 c20 c21 c22 c23 c24 c25
  obtain ⟨c00, c01, c02, c03, c04, c05⟩ := T2.out.b0.cells
  obtain ⟨c10, c11, c12, c13, c14, c15⟩ := T2.out.b1.cells
  obtain ⟨c20, c21, c22, c23, c24, c25⟩ := T2.out.b2.cells
  go_wp2_with fail
  refine (big_any nc c xc _ _ hcb hc).mono ?_
  rintro e w3 ⟨rfl, hb3⟩
  have T3 := hide (T2.out.then hb3)
  clear hb3 T2 c00 c01 c02 c03 c04 c05 c10 c11 c12 c13 c14 c15 c20 c21 c22 c23 c24 c25
  obtain ⟨c00, c01, c02, c03, c04, c05⟩ := T3.out.b0.cells
  obtain ⟨c10, c11, c12, c13, c14, c15⟩ := T3.out.b1.cells
  obtain ⟨c20, c21, c22, c23, c24, c25⟩ := T3.out.b2.cells
  go_wp2
  go_ret
  exact ⟨rfl, T3.out.below⟩
set_option maxHeartbeats 2000000 in
theorem adds_small (na : Bool) (a : ByteArray) (xa : Int) (nb : Bool) (b : ByteArray) (xb : Int) (nc : Bool) (c : ByteArray) (xc : Int) (w : World) (ha : a.size ≤ maxLen) (hb : b.size ≤ maxLen) (hc : c.size ≤ maxLen) (hab : decide (4096 < a.size) = false) (hbb : decide (4096 < b.size) = false) (hcb : decide (4096 < c.size) = false) :
    Calls Tryd.prog 8 #[.agg #[.bool na, .string a, .int .i64 xa], .agg #[.bool nb, .string b, .int .i64 xb], .agg #[.bool nc, .string c, .int .i64 xc]] w fun e w' => e = .returned (.bool true) ∧ Below w.heap.size w w' := by
  have la : a.size ≤ 4096 := by have := of_decide_eq_false hab; omega
  have lb : b.size ≤ 4096 := by have := of_decide_eq_false hbb; omega
  have lc : c.size ≤ 4096 := by have := of_decide_eq_false hcb; omega
  have T0 := hide (tri_new w na a xa nb b xb nc c xc)
  go_enter Tryd.func8, Tryd.ntmps8
  go_wp2_with fail
  refine (big_any na a xa _ _ hab ha).mono ?_
  rintro e w1 ⟨rfl, hb1⟩
  have T1 := hide (T0.out.then hb1)
  clear hb1 T0
  obtain ⟨c00, c01, c02, c03, c04, c05⟩ := T1.out.b0.cells
  obtain ⟨c10, c11, c12, c13, c14, c15⟩ := T1.out.b1.cells
  obtain ⟨c20, c21, c22, c23, c24, c25⟩ := T1.out.b2.cells
  go_wp2_with fail
  refine (big_any nb b xb _ _ hbb hb).mono ?_
  rintro e w2 ⟨rfl, hb2⟩
  have T2 := hide (T1.out.then hb2)
  clear hb2 T1 c00 c01 c02 c03 c04 c05 c10 c11 c12 c13 c14 c15 c20 c21 c22 c23 c24 c25
  obtain ⟨c00, c01, c02, c03, c04, c05⟩ := T2.out.b0.cells
  obtain ⟨c10, c11, c12, c13, c14, c15⟩ := T2.out.b1.cells
  obtain ⟨c20, c21, c22, c23, c24, c25⟩ := T2.out.b2.cells
  go_wp2_with fail
  refine (big_any nc c xc _ _ hcb hc).mono ?_
  rintro e w3 ⟨rfl, hb3⟩
  have T3 := hide (T2.out.then hb3)
  clear hb3 T2 c00 c01 c02 c03 c04 c05 c10 c11 c12 c13 c14 c15 c20 c21 c22 c23 c24 c25
  obtain ⟨c00, c01, c02, c03, c04, c05⟩ := T3.out.b0.cells
  obtain ⟨c10, c11, c12, c13, c14, c15⟩ := T3.out.b1.cells
  obtain ⟨c20, c21, c22, c23, c24, c25⟩ := T3.out.b2.cells
  go_wp2_with fail
  go_fit (add_any na a xa nb b xb w3 la lb)
  rintro e w4 ⟨x0, x1, x2, x3, rfl, hx, hb4⟩
  simp only [retF]
  have T4 := hide (T3.out.then hb4.out)
  clear c00 c01 c02 c03 c04 c05 c10 c11 c12 c13 c14 c15 c20 c21 c22 c23 c24 c25 hb4 T3
  obtain ⟨c00, c01, c02, c03, c04, c05⟩ := T4.out.b0.cells
  obtain ⟨c10, c11, c12, c13, c14, c15⟩ := T4.out.b1.cells
  obtain ⟨c20, c21, c22, c23, c24, c25⟩ := T4.out.b2.cells
  have X4 := hide (box_new w4 x0 x1 x2)
  have lx := addp_len hx.out
  have l0 := T4.out.b0.lt
  have l1 := T4.out.b1.lt
  have l2 := T4.out.b2.lt
  go_wp2_with fail
  go_fit (add_any nb b xb nc c xc (w4.alloc (.cells #[.bool x0, .string x1, .int .i64 x2] 23)) lb lc)
  rintro e w5 ⟨y0, y1, y2, y3, rfl, hy, hb5⟩
  simp only [retF]
  have T5 := hide ((T4.out.alloc _).then hb5.out)
  have X5 := hide (X4.out.below hb5.out X4.out.lt)
  clear c00 c01 c02 c03 c04 c05 c10 c11 c12 c13 c14 c15 c20 c21 c22 c23 c24 c25 hb5 T4 X4 l0 l1 l2
  obtain ⟨c00, c01, c02, c03, c04, c05⟩ := T5.out.b0.cells
  obtain ⟨c10, c11, c12, c13, c14, c15⟩ := T5.out.b1.cells
  obtain ⟨c20, c21, c22, c23, c24, c25⟩ := T5.out.b2.cells
  have Y5 := hide (box_new w5 y0 y1 y2)
  have ly := addp_len hy.out
  have l0 := T5.out.b0.lt
  have l1 := T5.out.b1.lt
  have l2 := T5.out.b2.lt
  have l4 := X5.out.lt
  cases hx3 : (x3 != 0)
  · cases hy3 : (y3 != 0)
    · have ex : x3 = 0 := by simpa using hx3
      have ey : y3 = 0 := by simpa using hy3
      subst ex ey
      clear hx3 hy3
      obtain ⟨u0, u1, u2, u3, u4, u5⟩ := X5.out.cells
      go_wp2_with fail
      go_fit (add_any x0 x1 x2 nc c xc (w5.alloc (.cells #[.bool y0, .string y1, .int .i64 y2] 23)) lx lc)
      rintro e w6 ⟨z0, z1, z2, z3, rfl, hz, hb6⟩
      simp only [retF]
      have T6 := hide ((T5.out.alloc _).then hb6.out)
      have Y6 := hide (Y5.out.below hb6.out Y5.out.lt)
      clear c00 c01 c02 c03 c04 c05 c10 c11 c12 c13 c14 c15 c20 c21 c22 c23 c24 c25 hb6 T5 X5 Y5 l0 l1 l2 l4 u0 u1 u2 u3 u4 u5
      obtain ⟨c00, c01, c02, c03, c04, c05⟩ := T6.out.b0.cells
      obtain ⟨c10, c11, c12, c13, c14, c15⟩ := T6.out.b1.cells
      obtain ⟨c20, c21, c22, c23, c24, c25⟩ := T6.out.b2.cells
      obtain ⟨u0, u1, u2, u3, u4, u5⟩ := Y6.out.cells
      have Z6 := hide (box_new w6 z0 z1 z2)
      have l0 := T6.out.b0.lt
      have l4 := Y6.out.lt
      go_wp2_with fail
      go_fit (add_any na a xa y0 y1 y2 (w6.alloc (.cells #[.bool z0, .string z1, .int .i64 z2] 23)) la ly)
      rintro e w7 ⟨v0, v1, v2, v3, rfl, hv, hb7⟩
      simp only [retF]
      have heq := adds_same hx.out hy.out hz.out hv.out
      simp only [Prod.mk.injEq] at heq
      obtain ⟨rfl, rfl, rfl, rfl⟩ := heq
      have T7 := hide ((T6.out.alloc _).then hb7.out)
      have Z7 := hide (Z6.out.below hb7.out Z6.out.lt)
      clear c00 c01 c02 c03 c04 c05 c10 c11 c12 c13 c14 c15 c20 c21 c22 c23 c24 c25 hb7 T6 Y6 Z6 l0 l4 u0 u1 u2 u3 u4 u5
      have V7 := hide (box_new w7 z0 z1 z2)
      have lz7 := Z7.out.lt
      go_wp2_with fail
      go_fit (awake_any (w7.alloc (.cells #[.bool z0, .string z1, .int .i64 z2] 23)))
      rintro e w8 ⟨rfl, hb8⟩
      have T8 := hide ((T7.out.alloc _).then hb8)
      have Z8 := hide ((Z7.out.alloc _).below hb8 (Z7.out.alloc _).lt)
      have V8 := hide (V7.out.below hb8 V7.out.lt)
      clear hb8 T7 Z7 V7
      obtain ⟨u0, u1, u2, u3, u4, u5⟩ := Z8.out.cells
      obtain ⟨t0, t1, t2, t3, t4, t5⟩ := V8.out.cells
      go_wp2
      go_ret
      exact ⟨rfl, T8.out.below⟩
    · go_wp2_with fail
      go_fit (awake_any (w5.alloc (.cells #[.bool y0, .string y1, .int .i64 y2] 23)))
      rintro e w6 ⟨rfl, hb6⟩
      go_wp2
      go_ret
      exact ⟨rfl, ((T5.out.alloc _).then hb6).below⟩
  · go_wp2_with fail
    go_fit (awake_any (w5.alloc (.cells #[.bool y0, .string y1, .int .i64 y2] 23)))
    rintro e w6 ⟨rfl, hb6⟩
    go_wp2
    go_ret
    exact ⟨rfl, ((T5.out.alloc _).then hb6).below⟩
theorem adds_any (na : Bool) (a : ByteArray) (xa : Int) (nb : Bool) (b : ByteArray) (xb : Int) (nc : Bool) (c : ByteArray) (xc : Int) (w : World) (ha : a.size ≤ maxLen) (hb : b.size ≤ maxLen) (hc : c.size ≤ maxLen) :
    Calls Tryd.prog 8 #[.agg #[.bool na, .string a, .int .i64 xa], .agg #[.bool nb, .string b, .int .i64 xb], .agg #[.bool nc, .string c, .int .i64 xc]] w fun e w' => e = .returned (.bool true) ∧ Below w.heap.size w w' := by
  cases hab : decide (4096 < a.size)
  · cases hbb : decide (4096 < b.size)
    · cases hcb : decide (4096 < c.size)
      · exact adds_small na a xa nb b xb nc c xc w ha hb hc hab hbb hcb
      · exact adds_big_c na a xa nb b xb nc c xc w ha hb hc hab hbb hcb
    · exact adds_big_b na a xa nb b xb nc c xc w ha hb hc hab hbb
  · exact adds_big_a na a xa nb b xb nc c xc w ha hb hc hab
end Go.Proofs.YtjpdlibncmldlaaDoor
