/- calamusref01's Less, Cmp; num.Cmp of structs that are no numbers: walked. -/
import Derived.Test.YtemlpjnophijfaaDoorQgAlign
namespace Go.Proofs.YtemlpjnophijfaaDoor
open Go.RowKit
set_option linter.unusedSimpArgs false
set_option linter.unusedVariables false
/-- Two boxes. -/
structure Duo (w W : World) (na : Bool) (a : ByteArray) (xa : Int) (nb : Bool) (b : ByteArray) (xb : Int) : Prop where
  below : Below w.heap.size w W
  b0 : Box W w.heap.size na a xa
  b1 : Box W (w.heap.size + 1) nb b xb
theorem Duo.then {w W W1 : World} {na nb : Bool} {a b : ByteArray} {xa xb : Int} (h : Duo w W na a xa nb b xb) (hb : Below W.heap.size W W1) : Duo w W1 na a xa nb b xb :=
  ⟨below_then h.below hb, h.b0.below hb h.b0.lt, h.b1.below hb h.b1.lt⟩
theorem duo_new (w : World) (na : Bool) (a : ByteArray) (xa : Int) (nb : Bool) (b : ByteArray) (xb : Int) :
    Duo w ((w.alloc (.cells #[.bool na, .string a, .int .i64 xa] 24)).alloc (.cells #[.bool nb, .string b, .int .i64 xb] 24)) na a xa nb b xb := by
  refine ⟨below_al (below_al (Below.refl _ _)), (box_new w na a xa).alloc _, ?_⟩
  have := box_new (w.alloc (.cells #[.bool na, .string a, .int .i64 xa] 24)) nb b xb
  simpa using this
theorem isN_neg_pos {s : ByteArray} {x : Int} (h : isN true s x = true) : 0 < mag s x := by
  simp only [isN, Bool.or_eq_true] at h
  rcases h with h | h
  · have := (isZ_facts h).1; cases this
  · exact isO_pos h
theorem lt_scale {p q k : Nat} (hk : 0 < k) : (p * k < q * k) = (p < q) := by
  apply propext
  exact ⟨fun h => Nat.lt_of_mul_lt_mul_right h, fun h => Nat.mul_lt_mul_of_pos_right h hk⟩
set_option maxHeartbeats 2000000 in
theorem rless_any (na : Bool) (a : ByteArray) (xa : Int) (nb : Bool) (b : ByteArray) (xb : Int) (w : World) (h1 : isN na a xa = true) (h2 : isN nb b xb = true) :
    Calls Tryd.prog 59 #[.agg #[.bool na, .string a, .int .i64 xa], .agg #[.bool nb, .string b, .int .i64 xb]] w fun e w' => e = .returned (.bool (decide (Zv na a xa < Zv nb b xb))) ∧ Below w.heap.size w w' := by
  obtain ⟨da, ea, d1, d2, d3, d4, d5⟩ := isN_digits h1
  obtain ⟨db, eb, g1, g2, g3, g4, g5⟩ := isN_digits h2
  have D0 := hide (duo_new w na a xa nb b xb)
  cases na <;> cases nb
  · have hr := hide (show decide (Zv false a xa < Zv false b xb) = decide (mag a xa < mag b xb) by apply decide_eq_decide.2; simp [Zv])
    have HA := hide (fun w => aligned_any false false da db xa xb w d1 g1 d2 g2 d3 d4 g3 g4)
    rw [← ea, ← eb] at HA
    rw [hr.out]
    rw [d5, g5]
    clear h1 h2 d5 g5 ea eb
    go_enter Tryd.func59, Tryd.ntmps59
    go_wp2_with fail
    go_fit (HA.out _)
    rintro e w1 ⟨⟨P, Q, x, m, rfl, p1, p2, p3, p4, p5, p6, p7, p8, p9⟩, hb1⟩
    have D1 := hide (D0.out.then hb1)
    obtain ⟨c0, c1, c2, f0, f1, f2⟩ := D1.out.b0.cells
    clear hb1
    go_wp2_with fail
    go_fit (less_any P Q m _ p1 p2 p3 p4 (by omega))
    rintro e w2 ⟨rfl, hb2⟩
    go_wp2
    go_ret
    refine ⟨ret_bool (decide_eq_decide.2 ?_), (D1.out.then hb2).below⟩
    rw [← p8, ← p9, lt_scale (Nat.pow_pos (by decide))]
  · have hr := hide (show decide (Zv false a xa < Zv true b xb) = false by apply decide_eq_false; simp [Zv] <;> omega)
    rw [hr.out]
    clear h1 h2 d5 g5 ea eb
    go_enter Tryd.func59, Tryd.ntmps59
    go_wp2
    go_ret
    exact ⟨rfl, D0.out.below⟩
  · have hp := isN_neg_pos h1
    have hr := hide (show decide (Zv true a xa < Zv false b xb) = true by apply decide_eq_true; simp [Zv]; omega)
    rw [hr.out]
    clear h1 h2 d5 g5 ea eb hp
    go_enter Tryd.func59, Tryd.ntmps59
    go_wp2
    go_ret
    exact ⟨rfl, D0.out.below⟩
  · have hr := hide (show decide (Zv true a xa < Zv true b xb) = decide (mag b xb < mag a xa) by apply decide_eq_decide.2; simp [Zv])
    have HA := hide (fun w => aligned_any true true da db xa xb w d1 g1 d2 g2 d3 d4 g3 g4)
    rw [← ea, ← eb] at HA
    rw [hr.out]
    rw [d5, g5]
    clear h1 h2 d5 g5 ea eb
    go_enter Tryd.func59, Tryd.ntmps59
    go_wp2_with fail
    go_fit (HA.out _)
    rintro e w1 ⟨⟨P, Q, x, m, rfl, p1, p2, p3, p4, p5, p6, p7, p8, p9⟩, hb1⟩
    have D1 := hide (D0.out.then hb1)
    obtain ⟨c0, c1, c2, f0, f1, f2⟩ := D1.out.b0.cells
    clear hb1
    go_wp2_with fail
    go_fit (less_any Q P m _ p2 p1 p4 p3 (by omega))
    rintro e w2 ⟨rfl, hb2⟩
    go_wp2
    go_ret
    refine ⟨ret_bool (decide_eq_decide.2 ?_), (D1.out.then hb2).below⟩
    rw [← p8, ← p9, lt_scale (Nat.pow_pos (by decide))]
/-- Cmp's answer of any two structs. -/
def cmpR (na : Bool) (a : ByteArray) (xa : Int) (nb : Bool) (b : ByteArray) (xb : Int) : Int × Int :=
  if isN na a xa = true ∧ isN nb b xb = true then (cmpI (Zv na a xa) (Zv nb b xb), 0) else (0, 10)
theorem ris_of (n : Bool) (s : ByteArray) (x : Int) (w : World) (hs : s.size ≤ maxLen) (r : Bool) (h : isN n s x = r) :
    Calls Tryd.prog 51 #[.agg #[.bool n, .string s, .int .i64 x]] w fun e w' => e = .returned (.bool r) ∧ Below w.heap.size w w' := by
  rw [← h]; exact ris_any n s x w hs
end Go.Proofs.YtemlpjnophijfaaDoor
