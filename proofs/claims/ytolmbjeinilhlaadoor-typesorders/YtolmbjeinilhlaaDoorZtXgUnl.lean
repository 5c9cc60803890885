/- calamusref04.unlike: walked. -/
import Derived.Test.YtolmbjeinilhlaaDoorZtW
import Derived.BigQuiet
namespace Go.Proofs.YtolmbjeinilhlaaDoor
open Go.RowKit
set_option linter.unusedSimpArgs false
set_option linter.unusedVariables false
theorem nodup_more {α : Type} {l : List α} {k : Nat} (h : k < l.length) (hn : (l.take k).Nodup) (hm : ∀ j (hj : j < k), l[j]'(by omega) ≠ l[k]) : (l.take (k + 1)).Nodup := by
  rw [List.take_succ_eq_append_getElem h]
  rw [List.nodup_append]
  refine ⟨hn, by simp, ?_⟩
  intro a ha b hb
  rw [List.mem_singleton.1 hb]
  obtain ⟨j, hj, rfl⟩ := List.getElem_of_mem ha
  rw [List.getElem_take]
  exact hm j (by rw [List.length_take] at hj; omega)
set_option maxHeartbeats 1000000 in
set_option maxRecDepth 100000 in
theorem unlike_any (v : Value) (l : List ByteArray) (w : World) (hr : NL w v l) :
    Calls Tryd.prog 85 #[v] w fun e w' => TB l.Nodup w e w' := by
  obtain ⟨an, cn, rfl, hn1, hn2⟩ := hr.len
  have ml : maxLen = 9223372036854775807 := rfl
  replace hr := hide hr
  go_enter Tryd.func85, Tryd.ntmps85
  go_wp2_with fail
  go_loopw [3] (fun i w' => ∃ k : Nat, i = .int .i64 k ∧ k ≤ l.length ∧ Hid ((l.take k).Nodup ∧ Below w.heap.size w w')) (fun i _ => l.length - (intOf i).toNat)
  case atStart => exact ⟨0, rfl, Nat.zero_le _, by simp, Below.refl _ _⟩
  case round =>
    obtain ⟨k, rfl, hk, H⟩ := hrel
    by_cases hkl : k < l.length
    · have hki : (k : Int) < (l.length : Int) := by omega
      have hk63 : (k : Int) < 9223372036854775807 := by omega
      go_wp2_with fail
      go_loopw [4] (fun i w' => ∃ j : Nat, i = .int .i64 j ∧ j ≤ k ∧ Hid ((∀ i (hi : i < j) (hik : i < l.length), l[i] ≠ l[k]) ∧ Below w.heap.size w w')) (fun i _ => k - (intOf i).toNat)
      case atStart => exact ⟨0, rfl, Nat.zero_le _, (fun i hi => absurd hi (by omega)), H.out.2⟩
      case round =>
        obtain ⟨j, rfl, hj, J⟩ := hrel
        by_cases hjk : j < k
        · have hjl : j < l.length := by omega
          have hjki : (j : Int) < (k : Int) := by omega
          have hjli : (j : Int) < (l.length : Int) := by omega
          have hj63 : (j : Int) < 9223372036854775807 := by omega
          obtain ⟨b, o, c, he, hbl, hlc, hcm, hcell⟩ := hr.out.at k hkl
          obtain ⟨b', o', c', he', hbl', hlc', hcm', hcell'⟩ := hr.out.at j hjl
          have q1 := Value.slice.inj he
          have q2 := Value.slice.inj he'
          obtain ⟨rfl, _, rfl⟩ := q1
          obtain ⟨q3, _, rfl⟩ := q2
          have q4 := Option.some.inj q3
          simp only [Addr.mk.injEq] at q4
          obtain ⟨rfl, rfl, _⟩ := q4
          clear he he' q3
          have hcell := (J.out.2.cell (p := ⟨b, o + k, none⟩) hbl).trans hcell
          have hcell' := (J.out.2.cell (p := ⟨b, o + j, none⟩) hbl).trans hcell'
          obtain ⟨s, hs⟩ : ∃ s, l[k] = s := ⟨_, rfl⟩
          obtain ⟨t, ht⟩ : ∃ t, l[j] = t := ⟨_, rfl⟩
          simp only [hs] at hcell
          simp only [ht] at hcell'
          by_cases hst : s = t
          · have hne : ¬ l.Nodup := fun hn => (List.pairwise_iff_getElem.1 hn j k hjl hkl hjk) (by rw [ht, hs, hst])
            have hne' := hide hne
            subst hst
            clear hne hs ht
            go_wp2_with fail
            go_quiet (fail)
            go_wp2_with fail
            go_ret
            exact TB.no hne'.out (below_dn J.out.2 _)
          · have hmo : Hid (∀ i (hi : i < j + 1) (hik : i < l.length), l[i] ≠ l[k]) := fun i hi hik => by
              rcases Nat.lt_or_ge i j with q | q
              · exact J.out.1 i q hik
              · obtain rfl : i = j := by omega
                rw [ht, hs]
                exact fun e => hst e.symm
            have hst2 : decide (s = t) = false := decide_eq_false hst
            have hst3 := ba_ne hst
            clear hs ht
            go_wp2_with fail
            go_quiet (fail)
            go_wp2_with fail
            exact ⟨⟨j + 1, by go_num, by omega, hmo.out, below_dn J.out.2 _⟩, by simp [intOf]; omega⟩
        · have hjki : ¬ ((j : Int) < (k : Int)) := by omega
          obtain rfl : j = k := by omega
          have hN := hide (nodup_more hkl H.out.1 (fun i hi => J.out.1 i hi (by omega)))
          go_wp2_with fail
          exact ⟨⟨j + 1, by go_num, by omega, hN.out, J.out.2⟩, by simp [intOf]; omega⟩
    · have hki : ¬ ((k : Int) < (l.length : Int)) := by omega
      have hE := H.out.1
      rw [List.take_of_length_le (by omega)] at hE
      have hE' := hide hE
      clear hE
      go_wp2_with fail
      go_ret
      exact TB.yes hE'.out H.out.2
end Go.Proofs.YtolmbjeinilhlaaDoor
