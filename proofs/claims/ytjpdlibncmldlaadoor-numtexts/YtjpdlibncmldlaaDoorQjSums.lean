/- num.Cmp of any two structs; calamuslaw01.NumSums: walked. -/
import Derived.Test.YtjpdlibncmldlaaDoorQiAdd
namespace Go.Proofs.YtjpdlibncmldlaaDoor
open Go.RowKit
set_option linter.unusedSimpArgs false
set_option linter.unusedVariables false
set_option maxHeartbeats 1000000 in
theorem cmpA_any (na : Bool) (a : ByteArray) (xa : Int) (nb : Bool) (b : ByteArray) (xb : Int) (w : World) (ha : a.size ≤ 4096) (hb : b.size ≤ 4096) :
    Calls Tryd.prog 17 #[.agg #[.bool na, .string a, .int .i64 xa], .agg #[.bool nb, .string b, .int .i64 xb]] w fun e w' => e = .returned (.tuple #[.int .i64 (cmpR na a xa nb b xb).1, .int .i64 (cmpR na a xa nb b xb).2]) ∧ Below w.heap.size w w' := by
  have ml : maxLen = 2 ^ 63 - 1 := rfl
  have D0 := hide (duo_new w na a xa nb b xb)
  cases h1 : isN na a xa
  · have hr := hide (show cmpR na a xa nb b xb = (0, 10) by unfold cmpR; rw [if_neg (by rw [h1]; simp)])
    go_enter Tryd.func17, Tryd.ntmps17
    go_wp2_with fail
    go_fit (check_no na a xa _ (by omega) h1)
    rintro e w1 ⟨rfl, hb1⟩
    go_wp2
    exact bodyPost_ret (v := .tuple #[.int .i64 0, .int .i64 10]) (by simp [results, Tryd.results17, go_sem]) rfl ⟨by rw [hr.out], (D0.out.then hb1).below⟩
  · cases h2 : isN nb b xb
    · have hr := hide (show cmpR na a xa nb b xb = (0, 10) by unfold cmpR; rw [if_neg (by rw [h2]; simp)])
      go_enter Tryd.func17, Tryd.ntmps17
      go_wp2_with fail
      go_fit (check_ok na a xa _ (by omega) h1)
      rintro e w1 ⟨rfl, hb1⟩
      have D1 := hide (D0.out.then hb1)
      obtain ⟨c0, c1, c2, f0, f1, f2⟩ := D1.out.b1.cells
      clear hb1
      go_wp2_with fail
      go_fit (check_no nb b xb _ (by omega) h2)
      rintro e w2 ⟨rfl, hb2⟩
      go_wp2
      exact bodyPost_ret (v := .tuple #[.int .i64 0, .int .i64 10]) (by simp [results, Tryd.results17, go_sem]) rfl ⟨by rw [hr.out], (D1.out.then hb2).below⟩
    · have hr : cmpR na a xa nb b xb = (cmpN na a xa nb b xb, 0) := by unfold cmpR; rw [if_pos ⟨h1, h2⟩, cmpN_spec h1 h2]
      rw [hr]
      exact cmp_any na a xa nb b xb w ha hb h1 h2
theorem addp_same {na nb : Bool} {a b : ByteArray} {xa xb : Int} {r r' : Bool × ByteArray × Int × Int} (h : AddP na a xa nb b xb r) (h' : AddP na a xa nb b xb r') : r = r' := by
  rcases h with ⟨a1, a2, a3⟩ | ⟨a1, a2⟩ <;> rcases h' with ⟨b1, b2, b3⟩ | ⟨b1, b2⟩
  · exact isSum_unique a3 b3
  · exact absurd ⟨a1, a2⟩ b1
  · exact absurd ⟨b1, b2⟩ a1
  · rw [a2, b2]
set_option maxHeartbeats 2000000 in
theorem sums_any (na : Bool) (a : ByteArray) (xa : Int) (nb : Bool) (b : ByteArray) (xb : Int) (w : World) (ha : a.size ≤ maxLen) (hb : b.size ≤ maxLen) :
    Calls Tryd.prog 4 #[.agg #[.bool na, .string a, .int .i64 xa], .agg #[.bool nb, .string b, .int .i64 xb]] w fun e w' => e = .returned (.bool true) ∧ Below w.heap.size w w' := by
  have D0 := hide (duo_new w na a xa nb b xb)
  cases hA : decide (4096 < a.size)
  · cases hB : decide (4096 < b.size)
    · have sa : a.size ≤ 4096 := by have := of_decide_eq_false hA; omega
      have sb : b.size ≤ 4096 := by have := of_decide_eq_false hB; omega
      obtain ⟨c, f, hcf⟩ : ∃ c f, cmpR na a xa nb b xb = (c, f) := ⟨_, _, rfl⟩
      have HC := hide hcf
      clear hcf
      go_enter Tryd.func4, Tryd.ntmps4
      go_wp2_with fail
      refine (big_any na a xa _ _ hA ha).mono ?_
      rintro e w1 ⟨rfl, hb1⟩
      have D1 := hide (D0.out.then hb1)
      obtain ⟨c0, c1, c2, f0, f1, f2⟩ := D1.out.b1.cells
      clear hb1
      go_wp2_with fail
      refine (big_any nb b xb _ _ hB hb).mono ?_
      rintro e w2 ⟨rfl, hb2⟩
      have D2 := hide (D1.out.then hb2)
      clear hb2 c0 c1 c2 f0 f1 f2
      obtain ⟨c0, c1, c2, f0, f1, f2⟩ := D2.out.b1.cells
      obtain ⟨q0, q1, q2, k0, k1, k2⟩ := D2.out.b0.cells
      go_wp2_with fail
      refine (cmpA_any na a xa nb b xb _ sa sb).mono ?_
      rintro e w3 ⟨rfl, hb3⟩
      rw [HC.out]
      have D3 := hide (D2.out.then hb3)
      clear hb3 c0 c1 c2 f0 f1 f2 q0 q1 q2 k0 k1 k2
      obtain ⟨c0, c1, c2, f0, f1, f2⟩ := D3.out.b1.cells
      obtain ⟨q0, q1, q2, k0, k1, k2⟩ := D3.out.b0.cells
      go_wp2_with fail
      refine (rcmp_any na a xa nb b xb _ ha hb).mono ?_
      rintro e w4 ⟨rfl, hb4⟩
      rw [HC.out]
      have D4 := hide (D3.out.then hb4)
      clear hb4 c0 c1 c2 f0 f1 f2 q0 q1 q2 k0 k1 k2
      obtain ⟨c0, c1, c2, f0, f1, f2⟩ := D4.out.b1.cells
      obtain ⟨q0, q1, q2, k0, k1, k2⟩ := D4.out.b0.cells
      go_wp2_with fail
      refine (add_any na a xa nb b xb _ sa sb).mono ?_
      rintro e w5 ⟨rn, rs, rx, re, rfl, hr, hb5⟩
      have D5 := hide (D4.out.then hb5.out)
      clear hb5 c0 c1 c2 f0 f1 f2 q0 q1 q2 k0 k1 k2
      simp only [retF]
      have D6 := hide (D5.out.then (w5.heap.size |> fun _ => below_al (o := .cells #[.bool rn, .string rs, .int .i64 rx] 23) (Below.refl w5.heap.size w5)))
      have X6 := hide (box_new w5 rn rs rx)
      obtain ⟨c0, c1, c2, f0, f1, f2⟩ := D6.out.b1.cells
      obtain ⟨q0, q1, q2, k0, k1, k2⟩ := D6.out.b0.cells
      go_wp2_with fail
      refine (radd_any na a xa nb b xb _ ha hb).mono ?_
      rintro e w7 ⟨tn, ts, tx, te, rfl, ht, hb7⟩
      have he := addp_same hr.out ht.out
      simp only [Prod.mk.injEq] at he
      obtain ⟨rfl, rfl, rfl, rfl⟩ := he
      have D7 := hide (D6.out.then hb7.out)
      have X7 := hide (X6.out.below hb7.out X6.out.lt)
      clear hb7 c0 c1 c2 f0 f1 f2 q0 q1 q2 k0 k1 k2 hr ht
      simp only [retF]
      have D8 := hide (D7.out.then (below_al (o := .cells #[.bool rn, .string rs, .int .i64 rx] 23) (Below.refl w7.heap.size w7)))
      have X8 := hide (X7.out.alloc (.cells #[.bool rn, .string rs, .int .i64 rx] 23))
      have Y8 := hide (box_new w7 rn rs rx)
      go_wp2_with fail
      refine (awake_any _).mono ?_
      rintro e w9 ⟨rfl, hb9⟩
      have D9 := hide (D8.out.then hb9)
      obtain ⟨c0, c1, c2, f0, f1, f2⟩ := (X8.out.below hb9 X8.out.lt).cells
      obtain ⟨q0, q1, q2, k0, k1, k2⟩ := (Y8.out.below hb9 Y8.out.lt).cells
      clear hb9
      go_wp2
      go_ret
      exact ⟨rfl, D9.out.below⟩
    · go_enter Tryd.func4, Tryd.ntmps4
      go_wp2_with fail
      refine (big_any na a xa _ _ hA ha).mono ?_
      rintro e w1 ⟨rfl, hb1⟩
      have D1 := hide (D0.out.then hb1)
      obtain ⟨c0, c1, c2, f0, f1, f2⟩ := D1.out.b1.cells
      clear hb1
      go_wp2_with fail
      refine (big_any nb b xb _ _ hB hb).mono ?_
      rintro e w2 ⟨rfl, hb2⟩
      go_wp2
      go_ret
      exact ⟨rfl, (D1.out.then hb2).below⟩
  · go_enter Tryd.func4, Tryd.ntmps4
    go_wp2_with fail
    refine (big_any na a xa _ _ hA ha).mono ?_
    rintro e w1 ⟨rfl, hb1⟩
    go_wp2
    go_ret
    exact ⟨rfl, (D0.out.then hb1).below⟩
end Go.Proofs.YtjpdlibncmldlaaDoor
