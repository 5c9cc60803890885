/- calamuslaw01.NumAdds: walked. -/
import Derived.Test.YtjpdlibncmldlaaDoorOiAwake
import Derived.Outline
namespace Go.Proofs.YtjpdlibncmldlaaDoor
open Go.RowKit
set_option linter.unusedSimpArgs false
set_option linter.unusedVariables false
/-- What Add answers of any two structs. -/
def AddP (na : Bool) (a : ByteArray) (xa : Int) (nb : Bool) (b : ByteArray) (xb : Int) (r : Bool × ByteArray × Int × Int) : Prop :=
  (isN na a xa = true ∧ isN nb b xb = true ∧ IsSum (Zv na a xa + Zv nb b xb) r) ∨ (¬ (isN na a xa = true ∧ isN nb b xb = true) ∧ r = (false, ⟨#[]⟩, 0, 10))
set_option maxHeartbeats 1000000 in
theorem add_no (na : Bool) (a : ByteArray) (xa : Int) (nb : Bool) (b : ByteArray) (xb : Int) (w : World) (ha : a.size ≤ 4096) (hb : b.size ≤ 4096) (h : ¬ (isN na a xa = true ∧ isN nb b xb = true)) :
    Calls Tryd.prog 19 #[.agg #[.bool na, .string a, .int .i64 xa], .agg #[.bool nb, .string b, .int .i64 xb]] w fun e w' => e = retF (false, ⟨#[]⟩, 0, 10) ∧ Below w.heap.size w w' := by
  have ml : maxLen = 2 ^ 63 - 1 := rfl
  have HB := hide (boxes_new w na a xa nb b xb)
  cases h1 : isN na a xa
  · clear h
    go_enter Tryd.func19, Tryd.ntmps19
    go_wp2_with fail
    refine (check_no na a xa _ (by omega) h1).mono ?_
    rintro e w1 ⟨rfl, hb1⟩
    have HB1 := hide (HB.out.then hb1)
    obtain ⟨c20, c21, c22, f20, f21, f22⟩ := HB1.out.b2.cells
    clear hb1 HB
    go_wp2
    refine bodyPost_ret (v := .tuple #[.agg #[.bool false, .string ⟨#[]⟩, .int .i64 0], .int .i64 10]) (by simp [results, Tryd.results19, go_sem, c20, c21, c22]) rfl ⟨rfl, ?_⟩
    exact ((HB1.out.below.setCell (by show w.heap.size ≤ w.heap.size + 1 + 1; omega) _).setCell (by show w.heap.size ≤ w.heap.size + 1 + 1; omega) _).setCell (by show w.heap.size ≤ w.heap.size + 1 + 1; omega) _
  · have h2 : isN nb b xb = false := by
      cases hh : isN nb b xb
      · rfl
      · exact absurd ⟨h1, hh⟩ h
    clear h
    go_enter Tryd.func19, Tryd.ntmps19
    go_wp2_with fail
    refine (check_ok na a xa _ (by omega) h1).mono ?_
    rintro e w1 ⟨rfl, hb1⟩
    have HB1 := hide (HB.out.then hb1)
    obtain ⟨c10, c11, c12, f10, f11, f12⟩ := HB1.out.b1.cells
    clear hb1 HB
    go_wp2_with fail
    refine (check_no nb b xb _ (by omega) h2).mono ?_
    rintro e w2 ⟨rfl, hb2⟩
    have HB2 := hide (HB1.out.then hb2)
    clear hb2 HB1 c10 c11 c12 f10 f11 f12
    obtain ⟨c20, c21, c22, f20, f21, f22⟩ := HB2.out.b2.cells
    go_wp2
    refine bodyPost_ret (v := .tuple #[.agg #[.bool false, .string ⟨#[]⟩, .int .i64 0], .int .i64 10]) (by simp [results, Tryd.results19, go_sem, c20, c21, c22]) rfl ⟨rfl, ?_⟩
    exact ((HB2.out.below.setCell (by show w.heap.size ≤ w.heap.size + 1 + 1; omega) _).setCell (by show w.heap.size ≤ w.heap.size + 1 + 1; omega) _).setCell (by show w.heap.size ≤ w.heap.size + 1 + 1; omega) _
theorem add_any (na : Bool) (a : ByteArray) (xa : Int) (nb : Bool) (b : ByteArray) (xb : Int) (w : World) (ha : a.size ≤ 4096) (hb : b.size ≤ 4096) :
    Calls Tryd.prog 19 #[.agg #[.bool na, .string a, .int .i64 xa], .agg #[.bool nb, .string b, .int .i64 xb]] w fun e w' => ∃ rn rs rx re, e = retF (rn, rs, rx, re) ∧ Hid (AddP na a xa nb b xb (rn, rs, rx, re)) ∧ Hid (Below w.heap.size w w') := by
  by_cases h : isN na a xa = true ∧ isN nb b xb = true
  · refine (add_ok na a xa nb b xb w h.1 h.2).mono ?_
    rintro e w1 ⟨⟨rn, rs, rx, re⟩, rfl, hr, hb⟩
    exact ⟨rn, rs, rx, re, rfl, Or.inl ⟨h.1, h.2, hr.out⟩, hb⟩
  · refine (add_no na a xa nb b xb w ha hb h).mono ?_
    rintro e w1 ⟨rfl, hb⟩
    exact ⟨_, _, _, _, rfl, Or.inr ⟨h, rfl⟩, hb⟩
theorem big_any (n : Bool) (s : ByteArray) (x : Int) (w : World) (bb : Bool) (h : decide (4096 < s.size) = bb) (hs : s.size ≤ maxLen) :
    Calls Tryd.prog 9 #[.agg #[.bool n, .string s, .int .i64 x]] w fun e w' => e = .returned (.bool bb) ∧ Below w.heap.size w w' := by
  have hd : decide ((4096 : Int) < (s.size : Int)) = bb := by rw [← h]; apply decide_eq_decide.2; omega
  clear h
  go_enter Tryd.func9, Tryd.ntmps9
  go_wp2
  go_ret
  exact ⟨rfl, (Below.refl _ _).alloc (Nat.le_refl _) _⟩
/-- Three boxes. -/
structure Tri (w W : World) (na : Bool) (a : ByteArray) (xa : Int) (nb : Bool) (b : ByteArray) (xb : Int) (nc : Bool) (c : ByteArray) (xc : Int) : Prop where
  below : Below w.heap.size w W
  b0 : Box W w.heap.size na a xa
  b1 : Box W (w.heap.size + 1) nb b xb
  b2 : Box W (w.heap.size + 1 + 1) nc c xc
section
variable {w W W1 : World} {na nb nc : Bool} {a b c : ByteArray} {xa xb xc : Int}
theorem Tri.then (h : Tri w W na a xa nb b xb nc c xc) (hb : Below W.heap.size W W1) : Tri w W1 na a xa nb b xb nc c xc :=
  ⟨below_then h.below hb, h.b0.below hb h.b0.lt, h.b1.below hb h.b1.lt, h.b2.below hb h.b2.lt⟩
theorem Tri.alloc (h : Tri w W na a xa nb b xb nc c xc) (o : Obj) : Tri w (W.alloc o) na a xa nb b xb nc c xc :=
  ⟨below_al h.below, h.b0.alloc o, h.b1.alloc o, h.b2.alloc o⟩
end
theorem tri_new (w : World) (na : Bool) (a : ByteArray) (xa : Int) (nb : Bool) (b : ByteArray) (xb : Int) (nc : Bool) (c : ByteArray) (xc : Int) :
    Tri w (((w.alloc (.cells #[.bool na, .string a, .int .i64 xa] 23)).alloc (.cells #[.bool nb, .string b, .int .i64 xb] 23)).alloc (.cells #[.bool nc, .string c, .int .i64 xc] 23)) na a xa nb b xb nc c xc := by
  refine ⟨below_al (below_al (below_al (Below.refl _ _))), ((box_new w na a xa).alloc _).alloc _, ?_, ?_⟩
  · have := (box_new (w.alloc (.cells #[.bool na, .string a, .int .i64 xa] 23)) nb b xb).alloc (.cells #[.bool nc, .string c, .int .i64 xc] 23)
    simpa using this
  · have := box_new ((w.alloc (.cells #[.bool na, .string a, .int .i64 xa] 23)).alloc (.cells #[.bool nb, .string b, .int .i64 xb] 23)) nc c xc
    simpa using this
/-- Sums do not hang on where one begins. -/
theorem adds_same {na nb nc : Bool} {a b c : ByteArray} {xa xb xc : Int} {xn : Bool} {xs : ByteArray} {xx : Int} {yn : Bool} {ys : ByteArray} {yx : Int} {z z' : Bool × ByteArray × Int × Int}
    (h1 : AddP na a xa nb b xb (xn, xs, xx, 0)) (h2 : AddP nb b xb nc c xc (yn, ys, yx, 0)) (h3 : AddP xn xs xx nc c xc z) (h4 : AddP na a xa yn ys yx z') : z = z' := by
  rcases h1 with ⟨a1, a2, a3⟩ | ⟨_, e⟩
  · rcases h2 with ⟨b1, b2, b3⟩ | ⟨_, e⟩
    · have sx : isN xn xs xx = true ∧ Zv xn xs xx = Zv na a xa + Zv nb b xb := by
        rcases a3 with ⟨_, q1, q2⟩ | ⟨q, _⟩
        · exact ⟨q1, q2⟩
        · simp at q
      have sy : isN yn ys yx = true ∧ Zv yn ys yx = Zv nb b xb + Zv nc c xc := by
        rcases b3 with ⟨_, q1, q2⟩ | ⟨q, _⟩
        · exact ⟨q1, q2⟩
        · simp at q
      rcases h3 with ⟨_, _, c3⟩ | ⟨hn, _⟩
      · rcases h4 with ⟨_, _, d3⟩ | ⟨hn, _⟩
        · rw [sx.2] at c3
          rw [sy.2, ← Int.add_assoc] at d3
          exact isSum_unique c3 d3
        · exact absurd ⟨a1, sy.1⟩ hn
      · exact absurd ⟨sx.1, b2⟩ hn
    · simp at e
  · simp at e
theorem addp_len {na nb : Bool} {a b : ByteArray} {xa xb : Int} {rn : Bool} {rs : ByteArray} {rx re : Int} (h : AddP na a xa nb b xb (rn, rs, rx, re)) : rs.size ≤ 4096 := by
  rcases h with ⟨_, _, h⟩ | ⟨_, e⟩
  · rcases h with ⟨_, q, _⟩ | ⟨q, _⟩
    · have := isN_len q; simp only at this; omega
    · simp only [Prod.mk.injEq] at q; rw [q.2.1]; decide
  · simp only [Prod.mk.injEq] at e; rw [e.2.1]; decide
end Go.Proofs.YtjpdlibncmldlaaDoor
