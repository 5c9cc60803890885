/- value.compare of what has no list; value.Cmp; the laws' text and list: walked. -/
import Derived.Test.YtemlpjnophijfaaDoorWiCheck
import Derived.Test.YtemlpjnophijfaaDoorNdCmp
namespace Go.Proofs.YtemlpjnophijfaaDoor
open Go.RowKit
set_option linter.unusedSimpArgs false
set_option linter.unusedVariables false
theorem cmpKind_any (x y : Int) (w : World) :
    Calls Tryd.prog 38 #[.int .i64 x, .int .i64 y] w fun e w' => e = .returned (.int .i64 (cmpI x y)) ∧ w' = w := by
  go_enter Tryd.func38, Tryd.ntmps38
  go_wp2
  all_goals
    go_ret
    refine ⟨?_, rfl⟩
    unfold cmpI
    simp_all
  all_goals omega
theorem cmpBits_any (x y : Int) (w : World) :
    Calls Tryd.prog 41 #[.int .u64 x, .int .u64 y] w fun e w' => e = .returned (.int .i64 (cmpI x y)) ∧ w' = w := by
  go_enter Tryd.func41, Tryd.ntmps41
  go_wp2
  all_goals
    go_ret
    refine ⟨?_, rfl⟩
    unfold cmpI
    simp_all
  all_goals omega
set_option maxHeartbeats 1000000 in
set_option maxRecDepth 100000 in
theorem compare_kinds (h g : Hd) (a1 a2 b1 b2 : Option Addr) (m1 m2 n1 n2 c1 c2 d1 d2 : Nat) (w : World) (hk : ¬ h.kind = g.kind) :
    Calls Tryd.prog 29 #[.agg (vals h (.slice a1 m1 c1) (.slice a2 m2 c2)), .agg (vals g (.slice b1 n1 d1) (.slice b2 n2 d2))] w fun e w' => e = .returned (.int .i64 (cmpI h.kind g.kind)) ∧ Below w.heap.size w w' := by
  have hne : ¬ cmpI h.kind g.kind = 0 := by
    unfold cmpI
    rcases Int.lt_trichotomy h.kind g.kind with q | q | q
    · rw [if_pos q]; decide
    · exact absurd q hk
    · rw [if_neg (by omega), if_pos q]; decide
  obtain ⟨C, hC⟩ : ∃ C, cmpI h.kind g.kind = C := ⟨_, rfl⟩
  rw [hC] at hne
  have hcall := hide (fun w => cmpKind_any h.kind g.kind w)
  rw [hC] at hcall ⊢
  clear hC
  show Calls _ _ #[.agg #[.int .i64 h.kind, .bool h.flag, .bool h.neg, .string h.dig, .int .i64 h.exp, .int .u64 h.bits, .string h.text, .slice a1 m1 c1, .slice a2 m2 c2], .agg #[.int .i64 g.kind, .bool g.flag, .bool g.neg, .string g.dig, .int .i64 g.exp, .int .u64 g.bits, .string g.text, .slice b1 n1 d1, .slice b2 n2 d2]] _ _
  go_enter Tryd.func29, Tryd.ntmps29
  go_wp2_with (go_at_call 38; refine (hcall.out _).mono ?_; rintro e w1 ⟨rfl, rfl⟩)
  go_ret
  exact ⟨rfl, below_al (below_al (Below.refl _ _))⟩
set_option maxHeartbeats 1000000 in
set_option maxRecDepth 100000 in
theorem compare_text (h g : Hd) (a1 a2 b1 b2 : Option Addr) (m1 m2 n1 n2 c1 c2 d1 d2 : Nat) (w : World) (h5 : h.kind = 5) (g5 : g.kind = 5) :
    Calls Tryd.prog 29 #[.agg (vals h (.slice a1 m1 c1) (.slice a2 m2 c2)), .agg (vals g (.slice b1 n1 d1) (.slice b2 n2 d2))] w fun e w' => e = .returned (.int .i64 (cmpB h.text g.text)) ∧ Below w.heap.size w w' := by
  obtain ⟨C, hC⟩ : ∃ C, cmpB h.text g.text = C := ⟨_, rfl⟩
  have hcall := hide (fun w => cmpStr_any h.text g.text w)
  have hkk := hide (fun w => show Calls Tryd.prog 38 #[.int .i64 5, .int .i64 5] w fun e w' => e = .returned (.int .i64 0) ∧ w' = w from cmpKind_any 5 5 w)
  rw [hC] at hcall ⊢
  clear hC
  show Calls _ _ #[.agg #[.int .i64 h.kind, .bool h.flag, .bool h.neg, .string h.dig, .int .i64 h.exp, .int .u64 h.bits, .string h.text, .slice a1 m1 c1, .slice a2 m2 c2], .agg #[.int .i64 g.kind, .bool g.flag, .bool g.neg, .string g.dig, .int .i64 g.exp, .int .u64 g.bits, .string g.text, .slice b1 n1 d1, .slice b2 n2 d2]] _ _
  rw [h5, g5]
  go_enter Tryd.func29, Tryd.ntmps29
  go_wp2_with (first | (go_at_call 38; refine (hkk.out _).mono ?_; rintro e w1 ⟨rfl, rfl⟩) | (go_at_call 42; refine (hcall.out _).mono ?_; rintro e w1 ⟨rfl, rfl⟩))
  go_ret
  exact ⟨rfl, below_al (below_al (Below.refl _ _))⟩
end Go.Proofs.YtemlpjnophijfaaDoor
