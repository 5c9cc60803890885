/- calamusref04.short: walked. -/
import Derived.Test.YtolmbjeinilhlaaDoorZtW
namespace Go.Proofs.YtolmbjeinilhlaaDoor
open Go.RowKit
set_option linter.unusedSimpArgs false
set_option linter.unusedVariables false
set_option maxHeartbeats 1000000 in
set_option maxRecDepth 100000 in
theorem rshort_any : ∀ (n : Nat) (x : VT n) (ns ls : Value) (w : World), RD n w x ns ls → Sz n x →
    Calls Tryd.prog 72 #[.agg (vals (vhd n x) ns ls)] w fun e w' => TB (Sht n x) w e w' := by
  intro n
  induction n with
  | zero => intro x; exact Empty.elim x
  | succ n ih =>
    intro x ns ls w hr hz
    obtain ⟨h, l⟩ := x
    obtain ⟨al, cl, rfl, hc1, hc2⟩ := hr.len
    obtain ⟨an, cn, rfl, hn1, hn2⟩ := hr.1.len
    have ml : maxLen = 9223372036854775807 := rfl
    simp only at hc1 hc2 hn1 hn2
    have hb0 : Hid (∀ o, Below w.heap.size w (w.alloc o)) := fun o => below_al (Below.refl _ _)
    have hr := hide hr
    have hz := hide hz
    have ih' := hide ih
    clear ih
    show Calls _ _ #[.agg #[.int .i64 h.kind, .bool h.flag, .bool h.neg, .string h.dig, .int .i64 h.exp, .int .u64 h.bits, .string h.text, .slice an h.names.length cn, .slice al l.length cl]] _ _
    have hB0 := hide (bx_new w h (.slice an h.names.length cn) (.slice al l.length cl))
    obtain ⟨M, hM⟩ : ∃ M : Int, (bif h.kind == 9 then 64 else 4096) = M := ⟨_, rfl⟩
    by_cases k9 : h.kind = 9
    · have hML : M = 64 := by rw [← hM]; simp [k9]
      have hB9 : Hid (Bx (w.alloc (.cells #[.int .i64 9, .bool h.flag, .bool h.neg, .string h.dig, .int .i64 h.exp, .int .u64 h.bits, .string h.text, .slice an h.names.length cn, .slice al l.length cl] 33)) w.heap.size h (.slice an h.names.length cn) (.slice al l.length cl)) := by have := hB0.out; unfold vals at this; rw [k9] at this; exact this
      by_cases ht : (64 : Int) < (h.text.size : Int)
      · have hx := hide (show ¬ Sht (n + 1) (h, l) from fun q => by have h2 : (h.text.size : Int) ≤ (bif h.kind == 9 then 64 else 4096) := q.1; rw [hM, hML] at h2; omega)
        rw [k9]
        go_enter Tryd.func72, Tryd.ntmps72
        go_wp2_with fail
        go_ret
        exact TB.no hx.out (hb0.out _)
      by_cases hl : (256 : Int) < (l.length : Int)
      · have hx := hide (show ¬ Sht (n + 1) (h, l) from fun q => by have h2 : l.length ≤ 256 := q.2.1; omega)
        rw [k9]
        go_enter Tryd.func72, Tryd.ntmps72
        go_wp2_with fail
        go_ret
        exact TB.no hx.out (hb0.out _)
      · have hx0 := hide (show (h.text.size : Int) ≤ (bif h.kind == 9 then 64 else 4096) ∧ l.length ≤ 256 from ⟨by rw [hM, hML]; omega, by omega⟩)
        rw [k9]
        go_enter Tryd.func72, Tryd.ntmps72
        go_wp2_with fail
        go_loopw [4] (fun i w' => ∃ k : Nat, i = .int .i64 k ∧ k ≤ h.names.length ∧ Hid ((∀ s ∈ h.names.take k, s.size ≤ 64) ∧ Below w.heap.size w w') ∧ Hid (Bx w' w.heap.size h (.slice an h.names.length cn) (.slice al l.length cl))) (fun i _ => h.names.length - (intOf i).toNat)
        case atStart => exact ⟨0, rfl, Nat.zero_le _, ⟨(fun y hy => by simp at hy), hb0.out _⟩, hB9.out⟩
        case round =>
          obtain ⟨k, rfl, hk, H, hB⟩ := hrel
          have c7 := hB.out.cells.2.2.2.2.2.2.2.1
          have c8 := hB.out.cells.2.2.2.2.2.2.2.2
          by_cases hkl : k < h.names.length
          · have hki : (k : Int) < (h.names.length : Int) := by omega
            have hk63 : (k : Int) < 9223372036854775807 := by omega
            obtain ⟨b, o, c, he, hbl, hlc, hcm, hcell⟩ := hr.out.1.at k hkl
            have he' := Value.slice.inj he
            obtain ⟨rfl, _, rfl⟩ := he'
            clear he
            have hcell := (H.out.2.cell (p := ⟨b, o + k, none⟩) hbl).trans hcell
            obtain ⟨s, hs⟩ : ∃ s, h.names[k] = s := ⟨_, rfl⟩
            simp only at hcell
            rw [hs] at hcell
            have hs' := hide hs
            clear hs
            by_cases h64 : (64 : Int) < (s.size : Int)
            · have hno := hide (show ¬ Sht (n + 1) (h, l) from fun q => by
                have h2 := q.2.2.1 h.names[k] (List.getElem_mem _)
                rw [hs'.out] at h2
                omega)
              go_wp2_with fail
              go_ret
              exact TB.no hno.out H.out.2
            · have hmo := hide (mem_take_more (p := fun s => s.size ≤ 64) hkl H.out.1 (by rw [hs'.out]; omega))
              go_wp2_with fail
              exact ⟨⟨k + 1, by go_num, by omega, ⟨hmo.out, H.out.2⟩, hB.out⟩, by simp [intOf]; omega⟩
          · have hki : ¬ ((k : Int) < (h.names.length : Int)) := by omega
            have hE := H.out.1
            rw [List.take_of_length_le (by omega)] at hE
            have hE' := hide hE
            have hb2 := hide H.out.2
            clear hE
            go_wp2_with fail
            go_loopw [5] (fun i w' => ∃ k : Nat, i = .int .i64 k ∧ k ≤ l.length ∧ Hid ((∀ y ∈ l.take k, Sht n y) ∧ Below w.heap.size w w') ∧ Hid (Bx w' w.heap.size h (.slice an h.names.length cn) (.slice al l.length cl))) (fun i _ => l.length - (intOf i).toNat)
            case atStart => exact ⟨0, rfl, Nat.zero_le _, ⟨(fun y hy => by simp at hy), hb2.out⟩, hB.out⟩
            case round =>
              clear H c7 c8 hki hk hB
              obtain ⟨k2, rfl, hk, H, hB⟩ := hrel
              have c8 := hB.out.cells.2.2.2.2.2.2.2.2
              by_cases hkl : k2 < l.length
              · have hki : (k2 : Int) < (l.length : Int) := by omega
                have hk63 : (k2 : Int) < 9223372036854775807 := by omega
                obtain ⟨b, o, c, he, hbl, hlc, hcm, ns', ls', hrg, hrd⟩ := hr.out.at k2 hkl
                have he' := Value.slice.inj he
                obtain ⟨rfl, _, rfl⟩ := he'
                clear he
                obtain ⟨q0, q1, q2, q3, q4, q5, q6, q7, q8⟩ := range9 (rangeAt_below hrg H.out.2 hbl)
                have hrd' := hide (hrd.below H.out.2)
                obtain ⟨a1, m1, d1, a2, m2, d2, rfl, rfl⟩ := hrd.shape
                clear hrg hrd
                obtain ⟨bk, hbk⟩ := tells (Sht n l[k2])
                have hcall := hide (Calls.tb (ih'.out l[k2] (.slice a1 m1 d1) (.slice a2 m2 d2) wr hrd'.out (hz.out.2.2.2.2 _ (List.getElem_mem _))) hbk)
                have hbk' := hide hbk
                clear hbk
                cases bk
                · go_wp2_with (go_at_call 72; refine hcall.out.mono ?_; rintro e w3 ⟨rfl, hb3⟩)
                  go_ret
                  exact TB.no (fun q => by have := hbk'.out.2 (q.2.2.2 _ (List.getElem_mem _)); cases this) (below_then H.out.2 hb3)
                · go_wp2_with (go_at_call 72; refine hcall.out.mono ?_; rintro e w3 ⟨rfl, hb3⟩)
                  exact ⟨⟨k2 + 1, by go_num, by omega, ⟨mem_take_more hkl H.out.1 (hbk'.out.1 (by simp)), below_then H.out.2 hb3⟩, hB.out.below hb3⟩, by simp [intOf]; omega⟩
              · have hki : ¬ ((k2 : Int) < (l.length : Int)) := by omega
                have hE2 := H.out.1
                rw [List.take_of_length_le (by omega)] at hE2
                have hE2' := hide hE2
                clear hE2
                go_wp2_with fail
                go_ret
                exact TB.yes ⟨hx0.out.1, hx0.out.2, hE'.out, hE2'.out⟩ H.out.2
    · have hML : M = 4096 := by rw [← hM, show (h.kind == 9) = false by rw [beq_eq_false_iff_ne]; exact k9]; rfl
      by_cases ht : (4096 : Int) < (h.text.size : Int)
      · have hx := hide (show ¬ Sht (n + 1) (h, l) from fun q => by have h2 : (h.text.size : Int) ≤ (bif h.kind == 9 then 64 else 4096) := q.1; rw [hM, hML] at h2; omega)
        go_enter Tryd.func72, Tryd.ntmps72
        go_wp2_with fail
        go_ret
        exact TB.no hx.out (hb0.out _)
      by_cases hl : (256 : Int) < (l.length : Int)
      · have hx := hide (show ¬ Sht (n + 1) (h, l) from fun q => by have h2 : l.length ≤ 256 := q.2.1; omega)
        go_enter Tryd.func72, Tryd.ntmps72
        go_wp2_with fail
        go_ret
        exact TB.no hx.out (hb0.out _)
      · have hx0 := hide (show (h.text.size : Int) ≤ (bif h.kind == 9 then 64 else 4096) ∧ l.length ≤ 256 from ⟨by rw [hM, hML]; omega, by omega⟩)
        go_enter Tryd.func72, Tryd.ntmps72
        go_wp2_with fail
        go_loopw [4] (fun i w' => ∃ k : Nat, i = .int .i64 k ∧ k ≤ h.names.length ∧ Hid ((∀ s ∈ h.names.take k, s.size ≤ 64) ∧ Below w.heap.size w w') ∧ Hid (Bx w' w.heap.size h (.slice an h.names.length cn) (.slice al l.length cl))) (fun i _ => h.names.length - (intOf i).toNat)
        case atStart => exact ⟨0, rfl, Nat.zero_le _, ⟨(fun y hy => by simp at hy), hb0.out _⟩, hB0.out⟩
        case round =>
          obtain ⟨k, rfl, hk, H, hB⟩ := hrel
          have c7 := hB.out.cells.2.2.2.2.2.2.2.1
          have c8 := hB.out.cells.2.2.2.2.2.2.2.2
          by_cases hkl : k < h.names.length
          · have hki : (k : Int) < (h.names.length : Int) := by omega
            have hk63 : (k : Int) < 9223372036854775807 := by omega
            obtain ⟨b, o, c, he, hbl, hlc, hcm, hcell⟩ := hr.out.1.at k hkl
            have he' := Value.slice.inj he
            obtain ⟨rfl, _, rfl⟩ := he'
            clear he
            have hcell := (H.out.2.cell (p := ⟨b, o + k, none⟩) hbl).trans hcell
            obtain ⟨s, hs⟩ : ∃ s, h.names[k] = s := ⟨_, rfl⟩
            simp only at hcell
            rw [hs] at hcell
            have hs' := hide hs
            clear hs
            by_cases h64 : (64 : Int) < (s.size : Int)
            · have hno := hide (show ¬ Sht (n + 1) (h, l) from fun q => by
                have h2 := q.2.2.1 h.names[k] (List.getElem_mem _)
                rw [hs'.out] at h2
                omega)
              go_wp2_with fail
              go_ret
              exact TB.no hno.out H.out.2
            · have hmo := hide (mem_take_more (p := fun s => s.size ≤ 64) hkl H.out.1 (by rw [hs'.out]; omega))
              go_wp2_with fail
              exact ⟨⟨k + 1, by go_num, by omega, ⟨hmo.out, H.out.2⟩, hB.out⟩, by simp [intOf]; omega⟩
          · have hki : ¬ ((k : Int) < (h.names.length : Int)) := by omega
            have hE := H.out.1
            rw [List.take_of_length_le (by omega)] at hE
            have hE' := hide hE
            have hb2 := hide H.out.2
            clear hE
            go_wp2_with fail
            go_loopw [5] (fun i w' => ∃ k : Nat, i = .int .i64 k ∧ k ≤ l.length ∧ Hid ((∀ y ∈ l.take k, Sht n y) ∧ Below w.heap.size w w') ∧ Hid (Bx w' w.heap.size h (.slice an h.names.length cn) (.slice al l.length cl))) (fun i _ => l.length - (intOf i).toNat)
            case atStart => exact ⟨0, rfl, Nat.zero_le _, ⟨(fun y hy => by simp at hy), hb2.out⟩, hB.out⟩
            case round =>
              clear H c7 c8 hki hk hB
              obtain ⟨k2, rfl, hk, H, hB⟩ := hrel
              have c8 := hB.out.cells.2.2.2.2.2.2.2.2
              by_cases hkl : k2 < l.length
              · have hki : (k2 : Int) < (l.length : Int) := by omega
                have hk63 : (k2 : Int) < 9223372036854775807 := by omega
                obtain ⟨b, o, c, he, hbl, hlc, hcm, ns', ls', hrg, hrd⟩ := hr.out.at k2 hkl
                have he' := Value.slice.inj he
                obtain ⟨rfl, _, rfl⟩ := he'
                clear he
                obtain ⟨q0, q1, q2, q3, q4, q5, q6, q7, q8⟩ := range9 (rangeAt_below hrg H.out.2 hbl)
                have hrd' := hide (hrd.below H.out.2)
                obtain ⟨a1, m1, d1, a2, m2, d2, rfl, rfl⟩ := hrd.shape
                clear hrg hrd
                obtain ⟨bk, hbk⟩ := tells (Sht n l[k2])
                have hcall := hide (Calls.tb (ih'.out l[k2] (.slice a1 m1 d1) (.slice a2 m2 d2) wr hrd'.out (hz.out.2.2.2.2 _ (List.getElem_mem _))) hbk)
                have hbk' := hide hbk
                clear hbk
                cases bk
                · go_wp2_with (go_at_call 72; refine hcall.out.mono ?_; rintro e w3 ⟨rfl, hb3⟩)
                  go_ret
                  exact TB.no (fun q => by have := hbk'.out.2 (q.2.2.2 _ (List.getElem_mem _)); cases this) (below_then H.out.2 hb3)
                · go_wp2_with (go_at_call 72; refine hcall.out.mono ?_; rintro e w3 ⟨rfl, hb3⟩)
                  exact ⟨⟨k2 + 1, by go_num, by omega, ⟨mem_take_more hkl H.out.1 (hbk'.out.1 (by simp)), below_then H.out.2 hb3⟩, hB.out.below hb3⟩, by simp [intOf]; omega⟩
              · have hki : ¬ ((k2 : Int) < (l.length : Int)) := by omega
                have hE2 := H.out.1
                rw [List.take_of_length_le (by omega)] at hE2
                have hE2' := hide hE2
                clear hE2
                go_wp2_with fail
                go_ret
                exact TB.yes ⟨hx0.out.1, hx0.out.2, hE'.out, hE2'.out⟩ H.out.2
end Go.Proofs.YtolmbjeinilhlaaDoor
