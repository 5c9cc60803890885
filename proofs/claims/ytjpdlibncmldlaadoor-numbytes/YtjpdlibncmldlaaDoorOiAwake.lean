/- calamuslaw01.awake: walked. -/
import Derived.Test.YtjpdlibncmldlaaDoorOhAwake
import Derived.Outline
namespace Go.Proofs.YtjpdlibncmldlaaDoor
open Go.RowKit
set_option linter.unusedSimpArgs false
set_option linter.unusedVariables false
theorem v256_inj : ∀ (a b : List Nat), Bts a → Bts b → a.length = b.length → v256 a = v256 b → a = b
  | [], [], _, _, _, _ => rfl
  | [], _ :: _, _, _, h, _ => by simp at h
  | _ :: _, [], _, _, h, _ => by simp at h
  | d :: a, e :: b, ha, hb, hl, hv => by
    have h2 : Bts a := fun x hx => ha x (by simp [hx])
    have h4 : Bts b := fun x hx => hb x (by simp [hx])
    have hl' : a.length = b.length := by simpa using hl
    simp only [v256] at hv
    have la := v256_lt a h2
    have lb := v256_lt b h4
    rw [hl'] at hv la
    have hp : 0 < 256 ^ b.length := Nat.pow_pos (by decide)
    have e1 := Nat.div_eq_of_lt_le (k := d) (m := d * 256 ^ b.length + v256 a) (n := 256 ^ b.length) (by omega) (by rw [Nat.add_mul]; omega)
    have e2 := Nat.div_eq_of_lt_le (k := e) (m := e * 256 ^ b.length + v256 b) (n := 256 ^ b.length) (by omega) (by rw [Nat.add_mul]; omega)
    have hde : d = e := by rw [← e1, ← e2, hv]
    subst hde
    rw [v256_inj a b h2 h4 hl' (by omega)]
theorem trim256 (P : List Nat) (h : P.length = 17 ∧ Bts P ∧ v256 P = val (dg ⟨#[50, 53, 54]⟩) * 10 ^ (0 : Int).toNat) : trimB P = [1, 0] := by
  obtain ⟨h1, h2, h3⟩ := h
  have e : P = [0, 0, 0, 0, 0, 0, 0, 0, 0, 0, 0, 0, 0, 0, 0, 1, 0] := v256_inj P _ h2 (by intro d hd; simp at hd; omega) (by rw [h1]; rfl) (by rw [h3]; decide)
  rw [e]; decide
theorem sum_half (r : Bool × ByteArray × Int × Int) (h : IsSum (Zv true ⟨#[53]⟩ (-1) + Zv true ⟨#[53]⟩ (-1)) r) : r = (true, ⟨#[49]⟩, 0, 0) := by
  refine isSum_unique h (Or.inl ⟨rfl, by decide, ?_⟩)
  show Zv true ⟨#[49]⟩ 0 = _
  unfold Zv mag
  have h1 : ((0 : Int) + 400).toNat = ((-1 : Int) + 400).toNat + 1 := rfl
  rw [if_pos rfl, if_pos rfl, show val (dg ⟨#[49]⟩) = 1 from by decide, show val (dg ⟨#[53]⟩) = 5 from by decide, h1, Nat.pow_succ]
  generalize ((-1 : Int) + 400).toNat = k
  generalize (10 : Nat) ^ k = z
  omega
set_option maxHeartbeats 1000000 in
theorem awake_any (w : World) : Calls Tryd.prog 14 #[] w fun e w' => e = .returned (.bool true) ∧ Below w.heap.size w w' := by
  have b1 : (ByteArray.mk #[45, 48, 46, 53, 48]).size ≤ 100000 := by decide
  go_enter Tryd.func14, Tryd.ntmps14
  go_wp2_with fail
  go_fit (parse_any ⟨#[45, 48, 46, 53, 48]⟩ w (by decide))
  rw [p1]
  rintro e w1 ⟨rfl, hb1⟩
  simp only [retF]
  have X1 := hide (box_new w1 true ⟨#[53]⟩ (-1))
  have B1 := hide (below_al (o := .cells #[Value.bool true, Value.string { data := #[53] }, Value.int IntKind.i64 (-1)] 23) hb1)
  clear hb1 b1
  go_wp2_with fail
  go_fit (parse_any ⟨#[48, 49]⟩ (w1.alloc (.cells #[Value.bool true, Value.string { data := #[53] }, Value.int IntKind.i64 (-1)] 23)) (by decide))
  rw [p2]
  rintro e w2 ⟨rfl, hb2⟩
  simp only [retF]
  have X2 := hide (X1.out.below hb2 X1.out.lt)
  have B2 := hide (below_then B1.out hb2)
  clear hb2 X1 B1
  go_wp2_with fail
  go_fit (parse_any ⟨#[49, 101, 52, 48, 49]⟩ (w2.alloc (.cells #[Value.bool false, Value.string { data := #[] }, Value.int IntKind.i64 0] 23)) (by decide))
  rw [p3]
  rintro e w3 ⟨rfl, hb3⟩
  simp only [retF]
  have X3 := hide ((X2.out.alloc _).below hb3 (X2.out.alloc _).lt)
  have B3 := hide (below_then (below_al B2.out) hb3)
  clear hb3 X2 B2
  go_wp2_with fail
  go_fit (print_pw ⟨#[49, 53]⟩ 30 (w3.alloc (.cells #[Value.bool false, Value.string { data := #[] }, Value.int IntKind.i64 0] 23)) (by decide) (by decide) (by decide) (by decide))
  rw [show mkB (powered (bl ⟨#[49, 53]⟩) (dec3 (30 + (ByteArray.mk #[49, 53]).size - 1))) = ⟨#[49, 46, 53, 101, 51, 49]⟩ from q1]
  rintro e w4 ⟨rfl, hb4⟩
  have X4 := hide ((X3.out.alloc _).below hb4 (X3.out.alloc _).lt)
  have B4 := hide (below_then (below_al B3.out) hb4)
  clear hb4 X3 B3
  go_wp2_with fail
  go_fit (print_le ⟨#[49, 53]⟩ (-4) w4 (by decide) (by decide) (by decide) (by decide))
  rw [show mkB (pointed (bl ⟨#[49, 53]⟩) (- -4 : Int).toNat) = ⟨#[48, 46, 48, 48, 49, 53]⟩ from q2]
  rintro e w5 ⟨rfl, hb5⟩
  have X5 := hide (X4.out.below hb5 X4.out.lt)
  have B5 := hide (below_then B4.out hb5)
  clear hb5 X4 B4
  obtain ⟨c0, c1, c2, f0, f1, f2⟩ := X5.out.cells
  go_wp2_with fail
  go_fit (add_ok true ⟨#[53]⟩ (-1) true ⟨#[53]⟩ (-1) w5 (by decide) (by decide))
  rintro e w6 ⟨r, rfl, hr, hb6⟩
  have hr := sum_half r hr.out
  subst hr
  simp only [retF]
  have X6 := hide (X5.out.below hb6 X5.out.lt)
  have B6 := hide (below_then B5.out hb6)
  have hl6 := X6.out.lt
  clear hb6 X5 B5 c0 c1 c2 f0 f1 f2
  go_wp2_with fail
  go_fit (bytes_ok false ⟨#[50, 53, 54]⟩ 0 (w6.alloc (.cells #[Value.bool true, Value.string { data := #[49] }, Value.int IntKind.i64 0] 23)) (by decide) (by decide) (by decide))
  rintro e w7 ⟨v7, P, rfl, hP, ho, hb7⟩
  have hcv := own_conv ho.out
  rw [trim256 P hP.out] at hcv
  have X7 := hide ((X6.out.alloc _).below hb7.out (X6.out.alloc _).lt)
  have Y7 := hide ((box_new w6 true ⟨#[49]⟩ 0).below hb7.out (by simp))
  have B7 := hide (below_then (below_al B6.out) hb7.out)
  clear hb7 X6 B6 ho hP
  obtain ⟨c0, c1, c2, f0, f1, f2⟩ := X7.out.cells
  obtain ⟨d0, d1, d2, g0, g1, g2⟩ := Y7.out.cells
  go_wp2
  go_ret
  refine ⟨?_, B7.out⟩
  exact ret_bool (by rw [bl_toList, bl_mkB]; rfl)
end Go.Proofs.YtjpdlibncmldlaaDoor
