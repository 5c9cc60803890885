/- calamuslaw03.UtfChars: walked. -/
import Derived.Test.YtefiklklppfimaaDoorUwDecode
import Derived.Test.YtefiklklppfimaaDoorUjLaw
namespace Go.Proofs.YtefiklklppfimaaDoor
open Go.RowKit
set_option linter.unusedSimpArgs false
set_option linter.unusedVariables false
set_option maxHeartbeats 2000000 in
set_option maxRecDepth 100000 in
theorem chars_law (r : Int) (s : ByteArray) (at' : Int) (w : World) (g : Gx w) (h0 : -9223372036854775808 ≤ r) (h1 : r ≤ 9223372036854775807) (hs : s.size ≤ maxLen) (h2 : -9223372036854775808 ≤ at') (h3 : at' ≤ 9223372036854775807) :
    Calls Tryd.prog 4 #[.int .i64 r, .string s, .int .i64 at'] w fun e w' => e = .returned (.bool true) ∧ Below w.heap.size w w' := by
  have ml : maxLen = 2 ^ 63 - 1 := rfl
  have g0 := hide g
  clear g
  by_cases hlong : (16384 : Int) < (s.size : Int)
  · go_enter Tryd.func4, Tryd.ntmps4
    go_wp2
    go_ret
    exact ⟨rfl, Below.refl _ _⟩
  · have hen := hide (encode_any r w h0 h1)
    have hrn := hide (rencode_any r w h0 h1)
    have hde := hide (fun W (g : Gx W) => decode_any s at' W g.gu g.tabs (by omega))
    have hrd := hide (fun W => rdecode_any s at' W (by omega))
    obtain ⟨⟨c, n, e⟩, hd⟩ : ∃ x, decA (bl s) at' = x := ⟨_, rfl⟩
    rw [hd] at hde hrd
    clear hd h2 h3 h0 h1
    cases hv : Utf8.valid r
    · rw [hv] at hen hrn
      clear hv
      go_enter Tryd.func4, Tryd.ntmps4
      go_wp2_with (first | (go_at_call 13; refine hen.out.mono ?_; rintro e w1 ⟨rfl, hw1⟩; have hw1s := hw1.symm; clear hw1; subst hw1s) | (go_at_call 14; refine hrn.out.mono ?_; rintro e w2 ⟨rfl, hb2⟩; have T2 := hide hb2; clear hb2) | (go_at_call 15; refine (hde.out _ (g0.out.below T2.out)).mono ?_; rintro e w3 ⟨rfl, hb3⟩; have T3 := hide (below_then T2.out hb3); clear hb3) | (go_at_call 16; refine (hrd.out _).mono ?_; rintro e w4 ⟨rfl, hb4⟩; have T4 := hide (below_then T3.out hb4); clear hb4) | (go_at_call 11; refine (awake_any _ (g0.out.below T4.out)).mono ?_; rintro e w5 ⟨rfl, hb5⟩; have T5 := hide (below_then T4.out hb5); clear hb5))
      go_ret
      exact ⟨by first | rfl | simp, T5.out⟩
    · rw [hv] at hen hrn
      obtain ⟨u, hu⟩ : ∃ u, Utf8.encode r = u := ⟨_, rfl⟩
      rw [hu] at hen hrn
      simp only [if_true] at hen hrn
      clear hv hu
      go_enter Tryd.func4, Tryd.ntmps4
      go_wp2_with (first | (go_at_call 13; refine hen.out.mono ?_; rintro e w1 ⟨rfl, hw1⟩; have hw1s := hw1.symm; clear hw1; subst hw1s) | (go_at_call 14; refine hrn.out.mono ?_; rintro e w2 ⟨rfl, hb2⟩; have T2 := hide hb2; clear hb2) | (go_at_call 15; refine (hde.out _ (g0.out.below T2.out)).mono ?_; rintro e w3 ⟨rfl, hb3⟩; have T3 := hide (below_then T2.out hb3); clear hb3) | (go_at_call 16; refine (hrd.out _).mono ?_; rintro e w4 ⟨rfl, hb4⟩; have T4 := hide (below_then T3.out hb4); clear hb4) | (go_at_call 11; refine (awake_any _ (g0.out.below T4.out)).mono ?_; rintro e w5 ⟨rfl, hb5⟩; have T5 := hide (below_then T4.out hb5); clear hb5))
      go_ret
      exact ⟨by first | rfl | simp, T5.out⟩
end Go.Proofs.YtefiklklppfimaaDoor
