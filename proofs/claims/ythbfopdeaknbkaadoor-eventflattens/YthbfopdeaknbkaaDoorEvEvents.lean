/- calamuskeep.Events: walked. -/
import Derived.Test.YthbfopdeaknbkaaDoorEuFlat
namespace Go.Proofs.YthbfopdeaknbkaaDoor
open Go.RowKit
set_option linter.unusedSimpArgs false
set_option linter.unusedVariables false
/-- A slice of events reads as es. -/
def ES (W : World) (v : Value) (es : List Hd) : Prop := ∃ a c, v = .slice a es.length c ∧ es.length ≤ c ∧ c ≤ maxLen ∧ (0 < es.length → ∃ b o, a = some ⟨b, o, none⟩ ∧ b < W.heap.size ∧ EL W b o es)
theorem ES.below {w W : World} {v : Value} {es : List Hd} (h : ES w v es) (hb : Below w.heap.size w W) : ES W v es := by
  obtain ⟨a, c, rfl, h1, h2, h3⟩ := h
  refine ⟨a, c, rfl, h1, h2, fun hp => ?_⟩
  obtain ⟨b, o, e, hlt, hel⟩ := h3 hp
  exact ⟨b, o, e, Nat.lt_of_lt_of_le hlt hb.size, hel.below hb hlt⟩
theorem ES.nil (w : World) : ES w (.slice none 0 0) [] := ⟨none, 0, rfl, Nat.le_refl _, by decide, fun h => by simp at h⟩
theorem ES.row {W : World} {B g n cap : Nat} {es : List Hd} (h : W.ownsRow B 42 7 (.slice (some ⟨g, 0, none⟩) n cap) n (ecs es)) (hn : n = es.length) : ES W (.slice (some ⟨g, 0, none⟩) n cap) es := by
  have hlt := (World.ownsRow.lt h g rfl).2
  have hel := el_row h hn
  rcases h.2 with ⟨h0, _⟩ | ⟨g', cap', cur, he, _, _, h1, h2, _⟩
  · cases h0
  · cases he
    subst hn
    exact ⟨_, _, rfl, h1, h2, fun _ => ⟨g, 0, rfl, hlt, hel⟩⟩
set_option maxHeartbeats 2000000 in
set_option maxRecDepth 100000 in
theorem events_any (va vb : Value) (es : List Hd) (w : World) (ha : ES w va es) (hb : ES w vb es) :
    Calls Tryd.prog 14 #[va, vb] w fun e w' => e = .returned (.bool true) ∧ Below w.heap.size w w' := by
  obtain ⟨aa, ca, rfl, ha1, ha2, ha3⟩ := ha
  obtain ⟨ab, cb, rfl, hb1, hb2, hb3⟩ := hb
  have ml : maxLen = 9223372036854775807 := rfl
  have ha3 := hide ha3
  have hb3 := hide hb3
  go_enter Tryd.func14, Tryd.ntmps14
  go_wp2_with fail
  go_loopw [5] (fun i W => ∃ k : Nat, i = .int .i64 k ∧ k ≤ es.length ∧ Hid (Below w.heap.size w W)) (fun i _ => es.length - (intOf i).toNat)
  case atStart => exact ⟨0, rfl, Nat.zero_le _, hide (Below.refl _ _)⟩
  case round =>
    obtain ⟨k, rfl, hk, hB⟩ := hrel
    by_cases hkl : k < es.length
    · have hki : (k : Int) < (es.length : Int) := by omega
      have hk63 : (k : Int) < 9223372036854775807 := by omega
      obtain ⟨b, o, rfl, hlt, hel⟩ := ha3.out (by omega)
      obtain ⟨b', o', rfl, hlt', hel'⟩ := hb3.out (by omega)
      obtain ⟨c0, c1, c2, c3, c4, c5, c6⟩ := range7 (rangeAt_below (hel k hkl) hB.out hlt)
      obtain ⟨d0, d1, d2, d3, d4, d5, d6⟩ := range7 (rangeAt_below (hel' k hkl) hB.out hlt')
      obtain ⟨h, hh⟩ : ∃ h, es[k] = h := ⟨_, rfl⟩
      rw [hh] at c0 c1 c2 c3 c4 c5 c6 d0 d1 d2 d3 d4 d5 d6
      have hkc : k < ca := by omega
      have hkc' : k < cb := by omega
      clear hel hel' ha3 hb3
      go_wp2_with fail
      go_region_with (fail)
      all_goals
        clear c0 c1 c2 c3 c4 c5 c6 d0 d1 d2 d3 d4 d5 d6 hh ha1 hb1 ha2 hb2 hkc hkc' hlt hlt'
        go_simp
        go_wp2_with fail
        exact ⟨⟨k + 1, by go_num, by omega, hide hB.out.drew⟩, by simp [intOf]; omega⟩
    · have hki : ¬ ((k : Int) < (es.length : Int)) := by omega
      go_wp2_with fail
      go_ret
      exact ⟨rfl, hB.out⟩
end Go.Proofs.YthbfopdeaknbkaaDoor
