/- calamuslaw01.NumOrder: walked. -/
import Derived.Test.YtjpdlibncmldlaaDoorOjAdds
import Derived.Outline
namespace Go.Proofs.YtjpdlibncmldlaaDoor
open Go.RowKit
set_option linter.unusedSimpArgs false
set_option linter.unusedVariables false
theorem addp_comm {na nb : Bool} {a b : ByteArray} {xa xb : Int} {r r' : Bool × ByteArray × Int × Int} (h : AddP na a xa nb b xb r) (h' : AddP nb b xb na a xa r') : r = r' := by
  rcases h with ⟨a1, a2, a3⟩ | ⟨a1, a2⟩ <;> rcases h' with ⟨b1, b2, b3⟩ | ⟨b1, b2⟩
  · rw [Int.add_comm] at b3; exact isSum_unique a3 b3
  · exact absurd ⟨a2, a1⟩ b1
  · exact absurd ⟨b2, b1⟩ a1
  · rw [a2, b2]
theorem isO_of {n : Bool} {s : ByteArray} {x : Int} (h : isN n s x = true) (hd : bl s ≠ [48]) : isO (bl s) x = true := by
  have hz : isZ n s x = false := by
    cases hz : isZ n s x
    · rfl
    · exact absurd (isZ_facts hz).2.1 hd
  simpa [isN, hz] using h
/-- A number and its opposite are 0. -/
theorem addp_opp {n : Bool} {s : ByteArray} {x : Int} {r : Bool × ByteArray × Int × Int} (h : isN n s x = true) (hd : bl s ≠ [48]) (ha : AddP n s x (!n) s x r) : r = (false, ⟨#[48]⟩, 0, 0) := by
  have ho := isO_of h hd
  have hm : isN (!n) s x = true := by simp [isN, ho]
  rcases ha with ⟨_, _, a3⟩ | ⟨a1, _⟩
  · refine isSum_unique a3 (Or.inl ⟨rfl, rfl, ?_⟩)
    have hz := (isZ_mag (n := false) (s := ⟨#[48]⟩) (x := 0) rfl).2.2.2
    show Zv false ⟨#[48]⟩ 0 = _
    rw [hz]
    cases n <;> simp [Zv] <;> omega
  · exact absurd ⟨h, hm⟩ a1
theorem addp_ok {na nb : Bool} {a b : ByteArray} {xa xb : Int} {rn : Bool} {rs : ByteArray} {rx : Int} (h : AddP na a xa nb b xb (rn, rs, rx, 0)) : isN na a xa = true ∧ isN nb b xb = true ∧ isN rn rs rx = true ∧ Zv rn rs rx = Zv na a xa + Zv nb b xb := by
  rcases h with ⟨a1, a2, a3⟩ | ⟨_, e⟩
  · rcases a3 with ⟨_, q1, q2⟩ | ⟨q, _⟩
    · exact ⟨a1, a2, q1, q2⟩
    · simp at q
  · simp at e
/-- Adding the same keeps the order. -/
theorem order_same {na nb nc pn qn : Bool} {a b c ps qs : ByteArray} {xa xb xc px qx : Int} (h1 : AddP na a xa nc c xc (pn, ps, px, 0)) (h2 : AddP nb b xb nc c xc (qn, qs, qx, 0)) : cmpN na a xa nb b xb = cmpN pn ps px qn qs qx := by
  obtain ⟨a1, a2, a3, a4⟩ := addp_ok h1
  obtain ⟨b1, b2, b3, b4⟩ := addp_ok h2
  rw [cmpN_spec a1 b1, cmpN_spec a3 b3, a4, b4]
  unfold cmpI
  repeat' split
  all_goals omega
set_option maxHeartbeats 1000000 in
theorem order_big_a (na : Bool) (a : ByteArray) (xa : Int) (nb : Bool) (b : ByteArray) (xb : Int) (nc : Bool) (c : ByteArray) (xc : Int) (w : World) (ha : a.size ≤ maxLen) (hb : b.size ≤ maxLen) (hc : c.size ≤ maxLen) (hab : decide (4096 < a.size) = true) :
    Calls Tryd.prog 7 #[.agg #[.bool na, .string a, .int .i64 xa], .agg #[.bool nb, .string b, .int .i64 xb], .agg #[.bool nc, .string c, .int .i64 xc]] w fun e w' => e = .returned (.bool true) ∧ Below w.heap.size w w' := by
  have T0 := hide (tri_new w na a xa nb b xb nc c xc)
  go_enter Tryd.func7, Tryd.ntmps7
  go_wp2_with fail
  refine (big_any na a xa _ _ hab ha).mono ?_
  rintro e w1 ⟨rfl, hb1⟩
  have T1 := hide (T0.out.then hb1)
  clear hb1 T0
  obtain ⟨c00, c01, c02, c03, c04, c05⟩ := T1.out.b0.cells
  obtain ⟨c10, c11, c12, c13, c14, c15⟩ := T1.out.b1.cells
  obtain ⟨c20, c21, c22, c23, c24, c25⟩ := T1.out.b2.cells
  go_wp2
  go_ret
  exact ⟨rfl, T1.out.below⟩
set_option maxHeartbeats 1000000 in
theorem order_big_b (na : Bool) (a : ByteArray) (xa : Int) (nb : Bool) (b : ByteArray) (xb : Int) (nc : Bool) (c : ByteArray) (xc : Int) (w : World) (ha : a.size ≤ maxLen) (hb : b.size ≤ maxLen) (hc : c.size ≤ maxLen) (hab : decide (4096 < a.size) = false) (hbb : decide (4096 < b.size) = true) :
    Calls Tryd.prog 7 #[.agg #[.bool na, .string a, .int .i64 xa], .agg #[.bool nb, .string b, .int .i64 xb], .agg #[.bool nc, .string c, .int .i64 xc]] w fun e w' => e = .returned (.bool true) ∧ Below w.heap.size w w' := by
  have T0 := hide (tri_new w na a xa nb b xb nc c xc)
  go_enter Tryd.func7, Tryd.ntmps7
  go_wp2_with fail
  refine (big_any na a xa _ _ hab ha).mono ?_
  rintro e w1 ⟨rfl, hb1⟩
  have T1 := hide (T0.out.then hb1)
  clear hb1 T0
  obtain ⟨c00, c01, c02, c03, c04, c05⟩ := T1.out.b0.cells
  obtain ⟨c10, c11, c12, c13, c14, c15⟩ := T1.out.b1.cells
  obtain ⟨c20, c21, c22, c23, c24, c25⟩ := T1.out.b2.cells
  go_wp2_with fail
  refine (big_any nb b xb _ _ hbb hb).mono ?_
  rintro e w2 ⟨rfl, hb2⟩
  have T2 := hide (T1.out.then hb2)
  clear hb2 T1 c00 c01 c02 c03 c04 c05 c10 c11 c12 c13 c14 c15 c20 c21 c22 c23 c24 c25
  obtain ⟨c00, c01, c02, c03, c04, c05⟩ := T2.out.b0.cells
  obtain ⟨c10, c11, c12, c13, c14, c15⟩ := T2.out.b1.cells
  obtain ⟨c20, c21, c22, c23, c24, c25⟩ := T2.out.b2.cells
  go_wp2
  go_ret
  exact ⟨rfl, T2.out.below⟩
set_option maxHeartbeats 1000000 in
theorem order_big_c (na : Bool) (a : ByteArray) (xa : Int) (nb : Bool) (b : ByteArray) (xb : Int) (nc : Bool) (c : ByteArray) (xc : Int) (w : World) (ha : a.size ≤ maxLen) (hb : b.size ≤ maxLen) (hc : c.size ≤ maxLen) (hab : decide (4096 < a.size) = false) (hbb : decide (4096 < b.size) = false) (hcb : decide (4096 < c.size) = true) :
    Calls Tryd.prog 7 #[.agg #[.bool na, .string a, .int .i64 xa], .agg #[.bool nb, .string b, .int .i64 xb], .agg #[.bool nc, .string c, .int .i64 xc]] w fun e w' => e = .returned (.bool true) ∧ Below w.heap.size w w' := by
  have T0 := hide (tri_new w na a xa nb b xb nc c xc)
  go_enter Tryd.func7, Tryd.ntmps7
  go_wp2_with fail
  refine (big_any na a xa _ _ hab ha).mono ?_
  rintro e w1 ⟨rfl, hb1⟩
  have T1 := hide (T0.out.then hb1)
  clear hb1 T0
  obtain ⟨c00, c01, c02, c03, c04, c05⟩ := T1.out.b0.cells
  obtain ⟨c10, c11, c12, c13, c14, c15⟩ := T1.out.b1.cells
  obtain ⟨c20, c21, c22, c23, c24, c25⟩ := T1.out.b2.cells
  go_wp2_with fail
  refine (big_any nb b xb _ _ hbb hb).mono ?_
  rintro e w2 ⟨rfl, hb2⟩
  have T2 := hide (T1.out.then hb2)
  clear hb2 T1 c00 c01 c02 c03 c04 c05 c10 c11 c12 c13 c14 c15 c20 c21 c22 c23 c24 c25
  obtain ⟨c00, c01, c02, c03, c04, c05⟩ := T2.out.b0.cells
  obtain ⟨c10, c11, c12, c13, c14, c15⟩ := T2.out.b1.cells
  obtain ⟨c20, c21, c22, c23, c24, c25⟩ := T2.out.b2.cells
  go_wp2_with fail
  refine (big_any nc c xc _ _ hcb hc).mono ?_
  rintro e w3 ⟨rfl, hb3⟩
  have T3 := hide (T2.out.then hb3)
  clear hb3 T2 c00 c01 c02 c03 c04 c05 c10 c11 c12 c13 c14 c15 c20 c21 c22 c23 c24 c25
  obtain ⟨c00, c01, c02, c03, c04, c05⟩ := T3.out.b0.cells
  obtain ⟨c10, c11, c12, c13, c14, c15⟩ := T3.out.b1.cells
  obtain ⟨c20, c21, c22, c23, c24, c25⟩ := T3.out.b2.cells
  go_wp2
  go_ret
  exact ⟨rfl, T3.out.below⟩
set_option maxHeartbeats 4000000 in
theorem order_no (na : Bool) (a : ByteArray) (xa : Int) (nb : Bool) (b : ByteArray) (xb : Int) (nc : Bool) (c : ByteArray) (xc : Int) (w : World) (ha : a.size ≤ maxLen) (hb : b.size ≤ maxLen) (hc : c.size ≤ maxLen) (hab : decide (4096 < a.size) = false) (hbb : decide (4096 < b.size) = false) (hcb : decide (4096 < c.size) = false) (hna : isN na a xa = false) :
    Calls Tryd.prog 7 #[.agg #[.bool na, .string a, .int .i64 xa], .agg #[.bool nb, .string b, .int .i64 xb], .agg #[.bool nc, .string c, .int .i64 xc]] w fun e w' => e = .returned (.bool true) ∧ Below w.heap.size w w' := by
  have ml : maxLen = 2 ^ 63 - 1 := rfl
  have la : a.size ≤ 4096 := by have := of_decide_eq_false hab; omega
  have lb : b.size ≤ 4096 := by have := of_decide_eq_false hbb; omega
  have lc : c.size ≤ 4096 := by have := of_decide_eq_false hcb; omega
  have T0 := hide (tri_new w na a xa nb b xb nc c xc)
  go_enter Tryd.func7, Tryd.ntmps7
  go_wp2_with fail
  refine (big_any na a xa _ _ hab ha).mono ?_
  rintro e w1 ⟨rfl, hb1⟩
  have T1 := hide (T0.out.then hb1)
  clear hb1 T0
  obtain ⟨c00, c01, c02, c03, c04, c05⟩ := T1.out.b0.cells
  obtain ⟨c10, c11, c12, c13, c14, c15⟩ := T1.out.b1.cells
  obtain ⟨c20, c21, c22, c23, c24, c25⟩ := T1.out.b2.cells
  go_wp2_with fail
  refine (big_any nb b xb _ _ hbb hb).mono ?_
  rintro e w2 ⟨rfl, hb2⟩
  have T2 := hide (T1.out.then hb2)
  clear hb2 T1 c00 c01 c02 c03 c04 c05 c10 c11 c12 c13 c14 c15 c20 c21 c22 c23 c24 c25
  obtain ⟨c00, c01, c02, c03, c04, c05⟩ := T2.out.b0.cells
  obtain ⟨c10, c11, c12, c13, c14, c15⟩ := T2.out.b1.cells
  obtain ⟨c20, c21, c22, c23, c24, c25⟩ := T2.out.b2.cells
  go_wp2_with fail
  refine (big_any nc c xc _ _ hcb hc).mono ?_
  rintro e w3 ⟨rfl, hb3⟩
  have T3 := hide (T2.out.then hb3)
  clear hb3 T2 c00 c01 c02 c03 c04 c05 c10 c11 c12 c13 c14 c15 c20 c21 c22 c23 c24 c25
  obtain ⟨c00, c01, c02, c03, c04, c05⟩ := T3.out.b0.cells
  obtain ⟨c10, c11, c12, c13, c14, c15⟩ := T3.out.b1.cells
  obtain ⟨c20, c21, c22, c23, c24, c25⟩ := T3.out.b2.cells
  go_wp2_with fail
  go_fit (add_any na a xa nb b xb w3 la lb)
  rintro e w4 ⟨x0, x1, x2, x3, rfl, hx, hb4⟩
  simp only [retF]
  have T4 := hide (T3.out.then hb4.out)
  clear c00 c01 c02 c03 c04 c05 c10 c11 c12 c13 c14 c15 c20 c21 c22 c23 c24 c25 hb4 T3
  obtain ⟨c00, c01, c02, c03, c04, c05⟩ := T4.out.b0.cells
  obtain ⟨c10, c11, c12, c13, c14, c15⟩ := T4.out.b1.cells
  obtain ⟨c20, c21, c22, c23, c24, c25⟩ := T4.out.b2.cells
  have X4 := hide (box_new w4 x0 x1 x2)
  have l0 := T4.out.b0.lt
  have l1 := T4.out.b1.lt
  have l2 := T4.out.b2.lt
  go_wp2_with fail
  go_fit (add_any nb b xb na a xa (w4.alloc (.cells #[.bool x0, .string x1, .int .i64 x2] 23)) lb la)
  rintro e w5 ⟨y0, y1, y2, y3, rfl, hy, hb5⟩
  simp only [retF]
  have hxy := addp_comm hx.out hy.out
  simp only [Prod.mk.injEq] at hxy
  obtain ⟨rfl, rfl, rfl, rfl⟩ := hxy
  have T5 := hide ((T4.out.alloc _).then hb5.out)
  have X5 := hide (X4.out.below hb5.out X4.out.lt)
  clear c00 c01 c02 c03 c04 c05 c10 c11 c12 c13 c14 c15 c20 c21 c22 c23 c24 c25 hb5 T4 X4 l0 l1 l2 hx hy
  have T6 := hide (T5.out.alloc (.cells #[.bool x0, .string x1, .int .i64 x2] 23))
  have X6 := hide (X5.out.alloc (.cells #[.bool x0, .string x1, .int .i64 x2] 23))
  have Y6 := hide (box_new w5 x0 x1 x2)
  clear X5
  obtain ⟨c00, c01, c02, c03, c04, c05⟩ := T5.out.b0.cells
  obtain ⟨u0, u1, u2, u3, u4, u5⟩ := X6.out.cells
  obtain ⟨t0, t1, t2, t3, t4, t5⟩ := Y6.out.cells
  have l0 := T5.out.b0.lt
  have lx6 := X6.out.lt
  go_wp2_with fail
  go_fit (check_no na a xa (w5.alloc (.cells #[.bool x0, .string x1, .int .i64 x2] 23)) ha hna)
  rintro e w7 ⟨rfl, hb7⟩
  have T7 := hide (T6.out.then hb7)
  clear T5 T6 X6 Y6 c00 c01 c02 c03 c04 c05 u0 u1 u2 u3 u4 u5 t0 t1 t2 t3 t4 t5 l0 lx6 hb7
  obtain ⟨c00, c01, c02, c03, c04, c05⟩ := T7.out.b0.cells
  obtain ⟨c10, c11, c12, c13, c14, c15⟩ := T7.out.b1.cells
  obtain ⟨c20, c21, c22, c23, c24, c25⟩ := T7.out.b2.cells
  go_wp2_with fail
  go_fit (add_any na a xa nc c xc w7 la lc)
  rintro e w8 ⟨p0, p1, p2, p3, rfl, hp, hb8⟩
  simp only [retF]
  have T8 := hide (T7.out.then hb8.out)
  clear c00 c01 c02 c03 c04 c05 c10 c11 c12 c13 c14 c15 c20 c21 c22 c23 c24 c25 hb8 T7
  obtain ⟨c00, c01, c02, c03, c04, c05⟩ := T8.out.b0.cells
  obtain ⟨c10, c11, c12, c13, c14, c15⟩ := T8.out.b1.cells
  obtain ⟨c20, c21, c22, c23, c24, c25⟩ := T8.out.b2.cells
  have P8 := hide (box_new w8 p0 p1 p2)
  have m0 := T8.out.b0.lt
  have m1 := T8.out.b1.lt
  have m2 := T8.out.b2.lt
  go_wp2_with fail
  go_fit (add_any nb b xb nc c xc (w8.alloc (.cells #[.bool p0, .string p1, .int .i64 p2] 23)) lb lc)
  rintro e w9 ⟨q0, q1, q2, q3, rfl, hq, hb9⟩
  simp only [retF]
  have T9 := hide ((T8.out.alloc _).then hb9.out)
  have P9 := hide (P8.out.below hb9.out P8.out.lt)
  clear c00 c01 c02 c03 c04 c05 c10 c11 c12 c13 c14 c15 c20 c21 c22 c23 c24 c25 hb9 T8 P8 m0 m1 m2
  have TA := hide (T9.out.alloc (.cells #[.bool q0, .string q1, .int .i64 q2] 23))
  have PA := hide (P9.out.alloc (.cells #[.bool q0, .string q1, .int .i64 q2] 23))
  have QA := hide (box_new w9 q0 q1 q2)
  cases hp3 : (p3 != 0)
  · cases hq3 : (q3 != 0)
    · have ep : p3 = 0 := by simpa using hp3
      have eq : q3 = 0 := by simpa using hq3
      subst ep eq
      clear hp3 hq3
      obtain ⟨n1, n3, n4, n5⟩ := addp_ok hp.out
      obtain ⟨n2, n6, n7, n8⟩ := addp_ok hq.out
      have lp := addp_len hp.out
      have lq := addp_len hq.out
      have hos := hide (order_same hp.out hq.out)
      have hn1 := hide n1
      have hn2 := hide n2
      have hn4 := hide n4
      have hn7 := hide n7
      clear n1 n2 n3 n4 n5 n6 n7 n8
      obtain ⟨c00, c01, c02, c03, c04, c05⟩ := T9.out.b0.cells
      obtain ⟨c10, c11, c12, c13, c14, c15⟩ := T9.out.b1.cells
      have m0 := T9.out.b0.lt
      have m1 := T9.out.b1.lt
      go_wp2_with fail
      go_fit (cmp_any na a xa nb b xb (w9.alloc (.cells #[.bool q0, .string q1, .int .i64 q2] 23)) la lb hn1.out hn2.out)
      rintro e wB ⟨rfl, hbB⟩
      have TB := hide (TA.out.then hbB)
      have PB := hide (PA.out.below hbB PA.out.lt)
      have QB := hide (QA.out.below hbB QA.out.lt)
      clear c00 c01 c02 c03 c04 c05 c10 c11 c12 c13 c14 c15 hbB TA PA QA T9 P9 m0 m1
      obtain ⟨u0, u1, u2, u3, u4, u5⟩ := PB.out.cells
      obtain ⟨t0, t1, t2, t3, t4, t5⟩ := QB.out.cells
      go_wp2_with fail
      go_fit (cmp_any p0 p1 p2 q0 q1 q2 wB lp lq hn4.out hn7.out)
      rw [← hos.out]
      rintro e wC ⟨rfl, hbC⟩
      have TC := hide (TB.out.then hbC)
      clear hbC TB PB QB u0 u1 u2 u3 u4 u5 t0 t1 t2 t3 t4 t5
      go_wp2_with fail
      go_fit (awake_any wC)
      rintro e wD ⟨rfl, hbD⟩
      go_wp2
      go_ret
      exact ⟨ret_bool (by simp), (TC.out.then hbD).below⟩
    · go_wp2_with fail
      go_fit (awake_any (w9.alloc (.cells #[.bool q0, .string q1, .int .i64 q2] 23)))
      rintro e wD ⟨rfl, hbD⟩
      go_wp2
      go_ret
      exact ⟨rfl, (TA.out.then hbD).below⟩
  · go_wp2_with fail
    go_fit (awake_any (w9.alloc (.cells #[.bool q0, .string q1, .int .i64 q2] 23)))
    rintro e wD ⟨rfl, hbD⟩
    go_wp2
    go_ret
    exact ⟨rfl, (TA.out.then hbD).below⟩
set_option maxHeartbeats 4000000 in
theorem order_zero (na : Bool) (a : ByteArray) (xa : Int) (nb : Bool) (b : ByteArray) (xb : Int) (nc : Bool) (c : ByteArray) (xc : Int) (w : World) (ha : a.size ≤ maxLen) (hb : b.size ≤ maxLen) (hc : c.size ≤ maxLen) (hab : decide (4096 < a.size) = false) (hbb : decide (4096 < b.size) = false) (hcb : decide (4096 < c.size) = false) (hna : isN na a xa = true) (hds : (a.toList == [48]) = true) :
    Calls Tryd.prog 7 #[.agg #[.bool na, .string a, .int .i64 xa], .agg #[.bool nb, .string b, .int .i64 xb], .agg #[.bool nc, .string c, .int .i64 xc]] w fun e w' => e = .returned (.bool true) ∧ Below w.heap.size w w' := by
  have ml : maxLen = 2 ^ 63 - 1 := rfl
  have la : a.size ≤ 4096 := by have := of_decide_eq_false hab; omega
  have lb : b.size ≤ 4096 := by have := of_decide_eq_false hbb; omega
  have lc : c.size ≤ 4096 := by have := of_decide_eq_false hcb; omega
  have T0 := hide (tri_new w na a xa nb b xb nc c xc)
  go_enter Tryd.func7, Tryd.ntmps7
  go_wp2_with fail
  refine (big_any na a xa _ _ hab ha).mono ?_
  rintro e w1 ⟨rfl, hb1⟩
  have T1 := hide (T0.out.then hb1)
  clear hb1 T0
  obtain ⟨c00, c01, c02, c03, c04, c05⟩ := T1.out.b0.cells
  obtain ⟨c10, c11, c12, c13, c14, c15⟩ := T1.out.b1.cells
  obtain ⟨c20, c21, c22, c23, c24, c25⟩ := T1.out.b2.cells
  go_wp2_with fail
  refine (big_any nb b xb _ _ hbb hb).mono ?_
  rintro e w2 ⟨rfl, hb2⟩
  have T2 := hide (T1.out.then hb2)
  clear hb2 T1 c00 c01 c02 c03 c04 c05 c10 c11 c12 c13 c14 c15 c20 c21 c22 c23 c24 c25
  obtain ⟨c00, c01, c02, c03, c04, c05⟩ := T2.out.b0.cells
  obtain ⟨c10, c11, c12, c13, c14, c15⟩ := T2.out.b1.cells
  obtain ⟨c20, c21, c22, c23, c24, c25⟩ := T2.out.b2.cells
  go_wp2_with fail
  refine (big_any nc c xc _ _ hcb hc).mono ?_
  rintro e w3 ⟨rfl, hb3⟩
  have T3 := hide (T2.out.then hb3)
  clear hb3 T2 c00 c01 c02 c03 c04 c05 c10 c11 c12 c13 c14 c15 c20 c21 c22 c23 c24 c25
  obtain ⟨c00, c01, c02, c03, c04, c05⟩ := T3.out.b0.cells
  obtain ⟨c10, c11, c12, c13, c14, c15⟩ := T3.out.b1.cells
  obtain ⟨c20, c21, c22, c23, c24, c25⟩ := T3.out.b2.cells
  go_wp2_with fail
  go_fit (add_any na a xa nb b xb w3 la lb)
  rintro e w4 ⟨x0, x1, x2, x3, rfl, hx, hb4⟩
  simp only [retF]
  have T4 := hide (T3.out.then hb4.out)
  clear c00 c01 c02 c03 c04 c05 c10 c11 c12 c13 c14 c15 c20 c21 c22 c23 c24 c25 hb4 T3
  obtain ⟨c00, c01, c02, c03, c04, c05⟩ := T4.out.b0.cells
  obtain ⟨c10, c11, c12, c13, c14, c15⟩ := T4.out.b1.cells
  obtain ⟨c20, c21, c22, c23, c24, c25⟩ := T4.out.b2.cells
  have X4 := hide (box_new w4 x0 x1 x2)
  have l0 := T4.out.b0.lt
  have l1 := T4.out.b1.lt
  have l2 := T4.out.b2.lt
  go_wp2_with fail
  go_fit (add_any nb b xb na a xa (w4.alloc (.cells #[.bool x0, .string x1, .int .i64 x2] 23)) lb la)
  rintro e w5 ⟨y0, y1, y2, y3, rfl, hy, hb5⟩
  simp only [retF]
  have hxy := addp_comm hx.out hy.out
  simp only [Prod.mk.injEq] at hxy
  obtain ⟨rfl, rfl, rfl, rfl⟩ := hxy
  have T5 := hide ((T4.out.alloc _).then hb5.out)
  have X5 := hide (X4.out.below hb5.out X4.out.lt)
  clear c00 c01 c02 c03 c04 c05 c10 c11 c12 c13 c14 c15 c20 c21 c22 c23 c24 c25 hb5 T4 X4 l0 l1 l2 hx hy
  have T6 := hide (T5.out.alloc (.cells #[.bool x0, .string x1, .int .i64 x2] 23))
  have X6 := hide (X5.out.alloc (.cells #[.bool x0, .string x1, .int .i64 x2] 23))
  have Y6 := hide (box_new w5 x0 x1 x2)
  clear X5
  obtain ⟨c00, c01, c02, c03, c04, c05⟩ := T5.out.b0.cells
  obtain ⟨u0, u1, u2, u3, u4, u5⟩ := X6.out.cells
  obtain ⟨t0, t1, t2, t3, t4, t5⟩ := Y6.out.cells
  have l0 := T5.out.b0.lt
  have lx6 := X6.out.lt
  go_wp2_with fail
  go_fit (check_ok na a xa (w5.alloc (.cells #[.bool x0, .string x1, .int .i64 x2] 23)) ha hna)
  rintro e w7 ⟨rfl, hb7⟩
  have T7 := hide (T6.out.then hb7)
  clear T5 T6 X6 Y6 c00 c01 c02 c03 c04 c05 u0 u1 u2 u3 u4 u5 t0 t1 t2 t3 t4 t5 l0 lx6 hb7
  obtain ⟨c00, c01, c02, c03, c04, c05⟩ := T7.out.b0.cells
  obtain ⟨c10, c11, c12, c13, c14, c15⟩ := T7.out.b1.cells
  obtain ⟨c20, c21, c22, c23, c24, c25⟩ := T7.out.b2.cells
  go_wp2_with fail
  go_fit (add_any na a xa nc c xc w7 la lc)
  rintro e w8 ⟨p0, p1, p2, p3, rfl, hp, hb8⟩
  simp only [retF]
  have T8 := hide (T7.out.then hb8.out)
  clear c00 c01 c02 c03 c04 c05 c10 c11 c12 c13 c14 c15 c20 c21 c22 c23 c24 c25 hb8 T7
  obtain ⟨c00, c01, c02, c03, c04, c05⟩ := T8.out.b0.cells
  obtain ⟨c10, c11, c12, c13, c14, c15⟩ := T8.out.b1.cells
  obtain ⟨c20, c21, c22, c23, c24, c25⟩ := T8.out.b2.cells
  have P8 := hide (box_new w8 p0 p1 p2)
  have m0 := T8.out.b0.lt
  have m1 := T8.out.b1.lt
  have m2 := T8.out.b2.lt
  go_wp2_with fail
  go_fit (add_any nb b xb nc c xc (w8.alloc (.cells #[.bool p0, .string p1, .int .i64 p2] 23)) lb lc)
  rintro e w9 ⟨q0, q1, q2, q3, rfl, hq, hb9⟩
  simp only [retF]
  have T9 := hide ((T8.out.alloc _).then hb9.out)
  have P9 := hide (P8.out.below hb9.out P8.out.lt)
  clear c00 c01 c02 c03 c04 c05 c10 c11 c12 c13 c14 c15 c20 c21 c22 c23 c24 c25 hb9 T8 P8 m0 m1 m2
  have TA := hide (T9.out.alloc (.cells #[.bool q0, .string q1, .int .i64 q2] 23))
  have PA := hide (P9.out.alloc (.cells #[.bool q0, .string q1, .int .i64 q2] 23))
  have QA := hide (box_new w9 q0 q1 q2)
  cases hp3 : (p3 != 0)
  · cases hq3 : (q3 != 0)
    · have ep : p3 = 0 := by simpa using hp3
      have eq : q3 = 0 := by simpa using hq3
      subst ep eq
      clear hp3 hq3
      obtain ⟨n1, n3, n4, n5⟩ := addp_ok hp.out
      obtain ⟨n2, n6, n7, n8⟩ := addp_ok hq.out
      have lp := addp_len hp.out
      have lq := addp_len hq.out
      have hos := hide (order_same hp.out hq.out)
      have hn1 := hide n1
      have hn2 := hide n2
      have hn4 := hide n4
      have hn7 := hide n7
      clear n1 n2 n3 n4 n5 n6 n7 n8
      obtain ⟨c00, c01, c02, c03, c04, c05⟩ := T9.out.b0.cells
      obtain ⟨c10, c11, c12, c13, c14, c15⟩ := T9.out.b1.cells
      have m0 := T9.out.b0.lt
      have m1 := T9.out.b1.lt
      go_wp2_with fail
      go_fit (cmp_any na a xa nb b xb (w9.alloc (.cells #[.bool q0, .string q1, .int .i64 q2] 23)) la lb hn1.out hn2.out)
      rintro e wB ⟨rfl, hbB⟩
      have TB := hide (TA.out.then hbB)
      have PB := hide (PA.out.below hbB PA.out.lt)
      have QB := hide (QA.out.below hbB QA.out.lt)
      clear c00 c01 c02 c03 c04 c05 c10 c11 c12 c13 c14 c15 hbB TA PA QA T9 P9 m0 m1
      obtain ⟨u0, u1, u2, u3, u4, u5⟩ := PB.out.cells
      obtain ⟨t0, t1, t2, t3, t4, t5⟩ := QB.out.cells
      go_wp2_with fail
      go_fit (cmp_any p0 p1 p2 q0 q1 q2 wB lp lq hn4.out hn7.out)
      rw [← hos.out]
      rintro e wC ⟨rfl, hbC⟩
      have TC := hide (TB.out.then hbC)
      clear hbC TB PB QB u0 u1 u2 u3 u4 u5 t0 t1 t2 t3 t4 t5
      go_wp2_with fail
      go_fit (awake_any wC)
      rintro e wD ⟨rfl, hbD⟩
      go_wp2
      go_ret
      exact ⟨ret_bool (by simp), (TC.out.then hbD).below⟩
    · go_wp2_with fail
      go_fit (awake_any (w9.alloc (.cells #[.bool q0, .string q1, .int .i64 q2] 23)))
      rintro e wD ⟨rfl, hbD⟩
      go_wp2
      go_ret
      exact ⟨rfl, (TA.out.then hbD).below⟩
  · go_wp2_with fail
    go_fit (awake_any (w9.alloc (.cells #[.bool q0, .string q1, .int .i64 q2] 23)))
    rintro e wD ⟨rfl, hbD⟩
    go_wp2
    go_ret
    exact ⟨rfl, (TA.out.then hbD).below⟩
set_option maxHeartbeats 4000000 in
theorem order_some (na : Bool) (a : ByteArray) (xa : Int) (nb : Bool) (b : ByteArray) (xb : Int) (nc : Bool) (c : ByteArray) (xc : Int) (w : World) (ha : a.size ≤ maxLen) (hb : b.size ≤ maxLen) (hc : c.size ≤ maxLen) (hab : decide (4096 < a.size) = false) (hbb : decide (4096 < b.size) = false) (hcb : decide (4096 < c.size) = false) (hna : isN na a xa = true) (hds0 : bl a ≠ [48]) :
    Calls Tryd.prog 7 #[.agg #[.bool na, .string a, .int .i64 xa], .agg #[.bool nb, .string b, .int .i64 xb], .agg #[.bool nc, .string c, .int .i64 xc]] w fun e w' => e = .returned (.bool true) ∧ Below w.heap.size w w' := by
  have ml : maxLen = 2 ^ 63 - 1 := rfl
  have hdb : (a.toList == [48]) = false := by rw [bl_toList]; simpa using hds0
  have hds := hide hds0
  clear hds0
  have la : a.size ≤ 4096 := by have := of_decide_eq_false hab; omega
  have lb : b.size ≤ 4096 := by have := of_decide_eq_false hbb; omega
  have lc : c.size ≤ 4096 := by have := of_decide_eq_false hcb; omega
  have T0 := hide (tri_new w na a xa nb b xb nc c xc)
  go_enter Tryd.func7, Tryd.ntmps7
  go_wp2_with fail
  refine (big_any na a xa _ _ hab ha).mono ?_
  rintro e w1 ⟨rfl, hb1⟩
  have T1 := hide (T0.out.then hb1)
  clear hb1 T0
  obtain ⟨c00, c01, c02, c03, c04, c05⟩ := T1.out.b0.cells
  obtain ⟨c10, c11, c12, c13, c14, c15⟩ := T1.out.b1.cells
  obtain ⟨c20, c21, c22, c23, c24, c25⟩ := T1.out.b2.cells
  go_wp2_with fail
  refine (big_any nb b xb _ _ hbb hb).mono ?_
  rintro e w2 ⟨rfl, hb2⟩
  have T2 := hide (T1.out.then hb2)
  clear hb2 T1 c00 c01 c02 c03 c04 c05 c10 c11 c12 c13 c14 c15 c20 c21 c22 c23 c24 c25
  obtain ⟨c00, c01, c02, c03, c04, c05⟩ := T2.out.b0.cells
  obtain ⟨c10, c11, c12, c13, c14, c15⟩ := T2.out.b1.cells
  obtain ⟨c20, c21, c22, c23, c24, c25⟩ := T2.out.b2.cells
  go_wp2_with fail
  refine (big_any nc c xc _ _ hcb hc).mono ?_
  rintro e w3 ⟨rfl, hb3⟩
  have T3 := hide (T2.out.then hb3)
  clear hb3 T2 c00 c01 c02 c03 c04 c05 c10 c11 c12 c13 c14 c15 c20 c21 c22 c23 c24 c25
  obtain ⟨c00, c01, c02, c03, c04, c05⟩ := T3.out.b0.cells
  obtain ⟨c10, c11, c12, c13, c14, c15⟩ := T3.out.b1.cells
  obtain ⟨c20, c21, c22, c23, c24, c25⟩ := T3.out.b2.cells
  go_wp2_with fail
  go_fit (add_any na a xa nb b xb w3 la lb)
  rintro e w4 ⟨x0, x1, x2, x3, rfl, hx, hb4⟩
  simp only [retF]
  have T4 := hide (T3.out.then hb4.out)
  clear c00 c01 c02 c03 c04 c05 c10 c11 c12 c13 c14 c15 c20 c21 c22 c23 c24 c25 hb4 T3
  obtain ⟨c00, c01, c02, c03, c04, c05⟩ := T4.out.b0.cells
  obtain ⟨c10, c11, c12, c13, c14, c15⟩ := T4.out.b1.cells
  obtain ⟨c20, c21, c22, c23, c24, c25⟩ := T4.out.b2.cells
  have X4 := hide (box_new w4 x0 x1 x2)
  have l0 := T4.out.b0.lt
  have l1 := T4.out.b1.lt
  have l2 := T4.out.b2.lt
  go_wp2_with fail
  go_fit (add_any nb b xb na a xa (w4.alloc (.cells #[.bool x0, .string x1, .int .i64 x2] 23)) lb la)
  rintro e w5 ⟨y0, y1, y2, y3, rfl, hy, hb5⟩
  simp only [retF]
  have hxy := addp_comm hx.out hy.out
  simp only [Prod.mk.injEq] at hxy
  obtain ⟨rfl, rfl, rfl, rfl⟩ := hxy
  have T5 := hide ((T4.out.alloc _).then hb5.out)
  have X5 := hide (X4.out.below hb5.out X4.out.lt)
  clear c00 c01 c02 c03 c04 c05 c10 c11 c12 c13 c14 c15 c20 c21 c22 c23 c24 c25 hb5 T4 X4 l0 l1 l2 hx hy
  have T6 := hide (T5.out.alloc (.cells #[.bool x0, .string x1, .int .i64 x2] 23))
  have X6 := hide (X5.out.alloc (.cells #[.bool x0, .string x1, .int .i64 x2] 23))
  have Y6 := hide (box_new w5 x0 x1 x2)
  clear X5
  obtain ⟨c00, c01, c02, c03, c04, c05⟩ := T5.out.b0.cells
  obtain ⟨u0, u1, u2, u3, u4, u5⟩ := X6.out.cells
  obtain ⟨t0, t1, t2, t3, t4, t5⟩ := Y6.out.cells
  have l0 := T5.out.b0.lt
  have lx6 := X6.out.lt
  go_wp2_with fail
  go_fit (check_ok na a xa (w5.alloc (.cells #[.bool x0, .string x1, .int .i64 x2] 23)) ha hna)
  rintro e w7 ⟨rfl, hb7⟩
  have T7 := hide (T6.out.then hb7)
  clear T5 T6 X6 Y6 c00 c01 c02 c03 c04 c05 u0 u1 u2 u3 u4 u5 t0 t1 t2 t3 t4 t5 l0 lx6 hb7
  obtain ⟨c00, c01, c02, c03, c04, c05⟩ := T7.out.b0.cells
  have l0 := T7.out.b0.lt
  go_wp2_with fail
  go_fit (add_any na a xa (!na) a xa (w7.alloc (.cells #[.bool (!na), .string a, .int .i64 xa] 23)) la la)
  rintro e wE ⟨z0, z1, z2, z3, rfl, hz, hbE⟩
  simp only [retF]
  have hzz := addp_opp hna hds.out hz.out
  simp only [Prod.mk.injEq] at hzz
  obtain ⟨rfl, rfl, rfl, rfl⟩ := hzz
  have TE := hide ((T7.out.alloc _).then hbE.out)
  clear c00 c01 c02 c03 c04 c05 l0 T7 hbE hz
  have TF := hide (TE.out.alloc (.cells #[.bool false, .string ⟨#[48]⟩, .int .i64 0] 23))
  have ZF := hide (box_new wE false ⟨#[48]⟩ 0)
  obtain ⟨u0, u1, u2, u3, u4, u5⟩ := ZF.out.cells
  clear TE
  have l0 := TF.out.b0.lt
  obtain ⟨c00, c01, c02, c03, c04, c05⟩ := TF.out.b0.cells
  obtain ⟨c10, c11, c12, c13, c14, c15⟩ := TF.out.b1.cells
  obtain ⟨c20, c21, c22, c23, c24, c25⟩ := TF.out.b2.cells
  go_wp2_with fail
  go_fit (add_any na a xa nc c xc (wE.alloc (.cells #[.bool false, .string ⟨#[48]⟩, .int .i64 0] 23)) la lc)
  rintro e w8 ⟨p0, p1, p2, p3, rfl, hp, hb8⟩
  simp only [retF]
  have T8 := hide (TF.out.then hb8.out)
  clear c00 c01 c02 c03 c04 c05 c10 c11 c12 c13 c14 c15 c20 c21 c22 c23 c24 c25 hb8 TF
  obtain ⟨c00, c01, c02, c03, c04, c05⟩ := T8.out.b0.cells
  obtain ⟨c10, c11, c12, c13, c14, c15⟩ := T8.out.b1.cells
  obtain ⟨c20, c21, c22, c23, c24, c25⟩ := T8.out.b2.cells
  have P8 := hide (box_new w8 p0 p1 p2)
  have m0 := T8.out.b0.lt
  have m1 := T8.out.b1.lt
  have m2 := T8.out.b2.lt
  go_wp2_with fail
  go_fit (add_any nb b xb nc c xc (w8.alloc (.cells #[.bool p0, .string p1, .int .i64 p2] 23)) lb lc)
  rintro e w9 ⟨q0, q1, q2, q3, rfl, hq, hb9⟩
  simp only [retF]
  have T9 := hide ((T8.out.alloc _).then hb9.out)
  have P9 := hide (P8.out.below hb9.out P8.out.lt)
  clear c00 c01 c02 c03 c04 c05 c10 c11 c12 c13 c14 c15 c20 c21 c22 c23 c24 c25 hb9 T8 P8 m0 m1 m2
  have TA := hide (T9.out.alloc (.cells #[.bool q0, .string q1, .int .i64 q2] 23))
  have PA := hide (P9.out.alloc (.cells #[.bool q0, .string q1, .int .i64 q2] 23))
  have QA := hide (box_new w9 q0 q1 q2)
  cases hp3 : (p3 != 0)
  · cases hq3 : (q3 != 0)
    · have ep : p3 = 0 := by simpa using hp3
      have eq : q3 = 0 := by simpa using hq3
      subst ep eq
      clear hp3 hq3
      obtain ⟨n1, n3, n4, n5⟩ := addp_ok hp.out
      obtain ⟨n2, n6, n7, n8⟩ := addp_ok hq.out
      have lp := addp_len hp.out
      have lq := addp_len hq.out
      have hos := hide (order_same hp.out hq.out)
      have hn1 := hide n1
      have hn2 := hide n2
      have hn4 := hide n4
      have hn7 := hide n7
      clear n1 n2 n3 n4 n5 n6 n7 n8
      obtain ⟨c00, c01, c02, c03, c04, c05⟩ := T9.out.b0.cells
      obtain ⟨c10, c11, c12, c13, c14, c15⟩ := T9.out.b1.cells
      have m0 := T9.out.b0.lt
      have m1 := T9.out.b1.lt
      go_wp2_with fail
      go_fit (cmp_any na a xa nb b xb (w9.alloc (.cells #[.bool q0, .string q1, .int .i64 q2] 23)) la lb hn1.out hn2.out)
      rintro e wB ⟨rfl, hbB⟩
      have TB := hide (TA.out.then hbB)
      have PB := hide (PA.out.below hbB PA.out.lt)
      have QB := hide (QA.out.below hbB QA.out.lt)
      clear c00 c01 c02 c03 c04 c05 c10 c11 c12 c13 c14 c15 hbB TA PA QA T9 P9 m0 m1
      obtain ⟨u0, u1, u2, u3, u4, u5⟩ := PB.out.cells
      obtain ⟨t0, t1, t2, t3, t4, t5⟩ := QB.out.cells
      go_wp2_with fail
      go_fit (cmp_any p0 p1 p2 q0 q1 q2 wB lp lq hn4.out hn7.out)
      rw [← hos.out]
      rintro e wC ⟨rfl, hbC⟩
      have TC := hide (TB.out.then hbC)
      clear hbC TB PB QB u0 u1 u2 u3 u4 u5 t0 t1 t2 t3 t4 t5
      go_wp2_with fail
      go_fit (awake_any wC)
      rintro e wD ⟨rfl, hbD⟩
      go_wp2
      go_ret
      exact ⟨ret_bool (by simp), (TC.out.then hbD).below⟩
    · go_wp2_with fail
      go_fit (awake_any (w9.alloc (.cells #[.bool q0, .string q1, .int .i64 q2] 23)))
      rintro e wD ⟨rfl, hbD⟩
      go_wp2
      go_ret
      exact ⟨rfl, (TA.out.then hbD).below⟩
  · go_wp2_with fail
    go_fit (awake_any (w9.alloc (.cells #[.bool q0, .string q1, .int .i64 q2] 23)))
    rintro e wD ⟨rfl, hbD⟩
    go_wp2
    go_ret
    exact ⟨rfl, (TA.out.then hbD).below⟩
theorem order_any (na : Bool) (a : ByteArray) (xa : Int) (nb : Bool) (b : ByteArray) (xb : Int) (nc : Bool) (c : ByteArray) (xc : Int) (w : World) (ha : a.size ≤ maxLen) (hb : b.size ≤ maxLen) (hc : c.size ≤ maxLen) :
    Calls Tryd.prog 7 #[.agg #[.bool na, .string a, .int .i64 xa], .agg #[.bool nb, .string b, .int .i64 xb], .agg #[.bool nc, .string c, .int .i64 xc]] w fun e w' => e = .returned (.bool true) ∧ Below w.heap.size w w' := by
  cases hab : decide (4096 < a.size)
  · cases hbb : decide (4096 < b.size)
    · cases hcb : decide (4096 < c.size)
      · cases hna : isN na a xa
        · exact order_no na a xa nb b xb nc c xc w ha hb hc hab hbb hcb hna
        · by_cases hds : bl a = [48]
          · exact order_zero na a xa nb b xb nc c xc w ha hb hc hab hbb hcb hna (by rw [bl_toList, hds]; rfl)
          · exact order_some na a xa nb b xb nc c xc w ha hb hc hab hbb hcb hna hds
      · exact order_big_c na a xa nb b xb nc c xc w ha hb hc hab hbb hcb
    · exact order_big_b na a xa nb b xb nc c xc w ha hb hc hab hbb
  · exact order_big_a na a xa nb b xb nc c xc w ha hb hc hab
end Go.Proofs.YtjpdlibncmldlaaDoor
