/- calamuslaw03.UtfTexts: walked. -/
import Derived.Test.YtefiklklppfimaaDoorUzCount
import Derived.Test.YtefiklklppfimaaDoorUjLaw
namespace Go.Proofs.YtefiklklppfimaaDoor
open Go.RowKit
set_option linter.unusedSimpArgs false
set_option linter.unusedVariables false
set_option maxHeartbeats 2000000 in
set_option maxRecDepth 100000 in
theorem texts_law (s : ByteArray) (w : World) (g : Gx w) (hs : s.size ≤ maxLen) :
    Calls Tryd.prog 3 #[.string s] w fun e w' => e = .returned (.bool true) ∧ Below w.heap.size w w' := by
  have ml : maxLen = 2 ^ 63 - 1 := rfl
  have g0 := hide g
  clear g
  by_cases hlong : (16384 : Int) < (s.size : Int)
  · go_enter Tryd.func3, Tryd.ntmps3
    go_wp2
    go_ret
    exact ⟨rfl, Below.refl _ _⟩
  · have hco := hide (count_any s w g0.out.gu (by omega))
    have hva := hide (fun W (g : Gx W) => valid_any s W g.gu (by omega))
    have hrc := hide (fun W => rcount_any s W (by omega))
    obtain ⟨ch, hch⟩ : ∃ x, chars (bl s) = x := ⟨_, rfl⟩
    unfold cntE at hrc
    cases hk : okT (bl s)
    · rw [hk] at hco hva hrc
      rw [hch] at hco hrc
      clear hk hch
      go_enter Tryd.func3, Tryd.ntmps3
      go_wp2_with (first | (go_at_call 9; refine hco.out.mono ?_; rintro e w1 ⟨rfl, hb1⟩; have T1 := hide hb1; clear hb1) | (go_at_call 10; refine (hrc.out _).mono ?_; rintro e w2 ⟨⟨m, e2, hm, rfl⟩, hb2⟩; have T2 := hide (below_then T1.out hb2); clear hb2; obtain ⟨hm1, hm2, hm3⟩ | ⟨hm1, rfl, rfl | rfl⟩ := hm; (· cases hm1)) | (go_at_call 11; refine (awake_any _ (g0.out.below T2.out)).mono ?_; rintro e w3 ⟨rfl, hb3⟩; have T3 := hide (below_then T2.out hb3); clear hb3) | (go_at_call 12; refine (hva.out _ (g0.out.below T3.out)).mono ?_; rintro e w4 ⟨rfl, hb4⟩; have T4 := hide (below_then T3.out hb4); clear hb4))
      all_goals
        go_ret
        exact ⟨by first | rfl | simp, T4.out⟩
    · rw [hk] at hco hva hrc
      rw [hch] at hco hrc
      simp only [if_true] at hco
      have hrt : Hid (∀ W, Calls Tryd.prog 10 #[.string s] W fun x w' => x = .returned (.tuple #[.int .i64 ch, .int .i64 0]) ∧ Below W.heap.size W w') := fun W => by
        refine (hrc.out W).mono ?_
        rintro x w' ⟨⟨m, e, hm, rfl⟩, hb⟩
        rcases hm with ⟨_, rfl, rfl⟩ | ⟨h, _⟩
        · exact ⟨rfl, hb⟩
        · cases h
      clear hk hch hrc
      go_enter Tryd.func3, Tryd.ntmps3
      go_wp2_with (first | (go_at_call 9; refine hco.out.mono ?_; rintro e w1 ⟨rfl, hb1⟩; have T1 := hide hb1; clear hb1) | (go_at_call 10; refine (hrt.out _).mono ?_; rintro e w2 ⟨rfl, hb2⟩; have T2 := hide (below_then T1.out hb2); clear hb2) | (go_at_call 11; refine (awake_any _ (g0.out.below T2.out)).mono ?_; rintro e w3 ⟨rfl, hb3⟩; have T3 := hide (below_then T2.out hb3); clear hb3) | (go_at_call 12; refine (hva.out _ (g0.out.below T3.out)).mono ?_; rintro e w4 ⟨rfl, hb4⟩; have T4 := hide (below_then T3.out hb4); clear hb4))
      all_goals
        go_ret
        exact ⟨by first | rfl | simp, T4.out⟩
end Go.Proofs.YtefiklklppfimaaDoor
