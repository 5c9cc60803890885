/- value.isValue: walked. -/
import Derived.Test.YtlfnnecpinmjjaaDoorWgFill
namespace Go.Proofs.YtlfnnecpinmjjaaDoor
open Go.RowKit
set_option linter.unusedSimpArgs false
set_option linter.unusedVariables false
/-- It is a value, but for the limits. -/
def IsV : (n : Nat) → VT n → Prop
  | 0, _ => False
  | n + 1, x => Bare x.1 x.2 ∧ Filled x.1 x.2.length ∧ ∀ y ∈ x.2, IsV n y
theorem mem_take_more {α : Type} {p : α → Prop} {l : List α} {k : Nat} (h : k < l.length) (hp : ∀ y ∈ l.take k, p y) (hq : p l[k]) : ∀ y ∈ l.take (k + 1), p y := by
  rw [List.take_succ_eq_append_getElem h]
  intro y hy
  rcases List.mem_append.1 hy with q | q
  · exact hp y q
  · rw [List.mem_singleton.1 q]; exact hq
set_option maxHeartbeats 1000000 in
set_option maxRecDepth 100000 in
theorem isValue_any : ∀ (n : Nat) (x : VT n) (ns ls : Value) (w : World), RD n w x ns ls → Sz n x → Ut.Gu w →
    Calls Tryd.prog 47 #[.agg (vals (vhd n x) ns ls)] w fun e w' => TB (IsV n x) w e w' := by
  intro n
  induction n with
  | zero => intro x; exact Empty.elim x
  | succ n ih =>
    intro x ns ls w hr hz g
    obtain ⟨h, l⟩ := x
    obtain ⟨al, cl, rfl, hc1, hc2⟩ := hr.len
    obtain ⟨an, cn, rfl, hn1, hn2⟩ := hr.1.len
    have ml : maxLen = 9223372036854775807 := rfl
    simp only at hc1 hc2 hn1 hn2
    obtain ⟨b1, hb1⟩ := tells (Bare h l)
    obtain ⟨b2, hb2⟩ := tells (Filled h l.length)
    have hA := hide (fun W (hb : Below w.heap.size w W) => Calls.tb (isBare_any n h l (.slice an h.names.length cn) (.slice al l.length cl) W (hr.below hb)) hb1)
    have hF := hide (fun W (hb : Below w.heap.size w W) => Calls.tb (isFilled_any n h l (.slice an h.names.length cn) (.slice al l.length cl) W (hr.below hb) hz (g.below hb)) hb2)
    have hb0 : Hid (∀ o, Below w.heap.size w (w.alloc o)) := fun o => below_al (Below.refl _ _)
    have hr := hide hr
    have hz := hide hz
    have g := hide g
    have ih' := hide ih
    have hb1' := hide hb1
    have hb2' := hide hb2
    clear ih hb1 hb2
    have hA0 := hide (fun o => hA.out (w.alloc o) (hb0.out o))
    show Calls _ _ #[.agg #[.int .i64 h.kind, .bool h.flag, .bool h.neg, .string h.dig, .int .i64 h.exp, .int .u64 h.bits, .string h.text, .slice an h.names.length cn, .slice al l.length cl]] _ _
    have hB0 := hide (bx_new w h (.slice an h.names.length cn) (.slice al l.length cl))
    cases b1
    · go_enter Tryd.func47, Tryd.ntmps47
      go_wp2_with (go_at_call 64; refine (hA0.out _).mono ?_; rintro e w1 ⟨rfl, hb1⟩)
      go_ret
      exact TB.no (fun q => by have := hb1'.out.2 q.1; cases this) (below_then (hb0.out _) hb1)
    cases b2
    · go_enter Tryd.func47, Tryd.ntmps47
      go_wp2_with fail
      refine (hA0.out _).mono ?_
      rintro e w1 ⟨rfl, hb1⟩
      have hw1 := hide (below_then (hb0.out _) hb1)
      obtain ⟨c0, c1, c2, c3, c4, c5, c6, c7, c8⟩ := (hB0.out.below hb1).cells
      have hF1 := hide (hF.out w1 hw1.out)
      go_wp2_with (go_at_call 65; refine hF1.out.mono ?_; rintro e w2 ⟨rfl, hb2⟩)
      go_ret
      exact TB.no (fun q => by have := hb2'.out.2 q.2.1; cases this) (below_then hw1.out hb2)
    · go_enter Tryd.func47, Tryd.ntmps47
      go_wp2_with fail
      refine (hA0.out _).mono ?_
      rintro e w1 ⟨rfl, hb1⟩
      have hw1 := hide (below_then (hb0.out _) hb1)
      have hB1 := hide (hB0.out.below hb1)
      obtain ⟨c0, c1, c2, c3, c4, c5, c6, c7, c8⟩ := hB1.out.cells
      have hF1 := hide (hF.out w1 hw1.out)
      go_wp2_with fail
      refine hF1.out.mono ?_
      rintro e w2 ⟨rfl, hb2⟩
      have hw2 := hide (below_then hw1.out hb2)
      clear c0 c1 c2 c3 c4 c5 c6 c7 c8
      obtain ⟨c0, c1, c2, c3, c4, c5, c6, c7, c8⟩ := (hB1.out.below hb2).cells
      go_wp2_with fail
      go_loopw [16] (fun i w' => ∃ k : Nat, i = .int .i64 k ∧ k ≤ l.length ∧ Hid ((∀ y ∈ l.take k, IsV n y) ∧ Below w.heap.size w w')) (fun i _ => l.length - (intOf i).toNat)
      case atStart => exact ⟨0, rfl, Nat.zero_le _, (fun y hy => by simp at hy), hw2.out⟩
      case round =>
        clear c0 c1 c2 c3 c4 c5 c6 c7 c8
        obtain ⟨k, rfl, hk, H⟩ := hrel
        by_cases hkl : k < l.length
        · have hki : (k : Int) < (l.length : Int) := by omega
          have hk63 : (k : Int) < 9223372036854775807 := by omega
          obtain ⟨b, o, c, he, hbl, hlc, hcm, ns', ls', hrg, hrd⟩ := hr.out.at k hkl
          have he' := Value.slice.inj he
          obtain ⟨rfl, _, rfl⟩ := he'
          clear he
          obtain ⟨q0, q1, q2, q3, q4, q5, q6, q7, q8⟩ := range9 (rangeAt_below hrg H.out.2 hbl)
          have hrd' := hide (hrd.below H.out.2)
          obtain ⟨a1, m1, d1, a2, m2, d2, rfl, rfl⟩ := hrd.shape
          clear hrg hrd
          obtain ⟨bk, hbk⟩ := tells (IsV n l[k])
          have hcall := hide (fun o => Calls.tb (ih'.out l[k] (.slice a1 m1 d1) (.slice a2 m2 d2) (wr.alloc o) (hrd'.out.below (below_al (Below.refl _ _))) (hz.out.2.2.2.2 _ (List.getElem_mem _)) (g.out.below (below_al H.out.2))) hbk)
          have hbk' := hide hbk
          clear hbk
          cases bk
          · go_wp2_with (go_at_call 47; refine (hcall.out _).mono ?_; rintro e w3 ⟨rfl, hb3⟩)
            go_ret
            exact TB.no (fun q => by have := hbk'.out.2 (q.2.2 _ (List.getElem_mem _)); cases this) (below_then (below_al H.out.2) hb3)
          · go_wp2_with (go_at_call 47; refine (hcall.out _).mono ?_; rintro e w3 ⟨rfl, hb3⟩)
            exact ⟨⟨k + 1, by go_num, by omega, mem_take_more hkl H.out.1 (hbk'.out.1 (by simp)), below_then (below_al H.out.2) hb3⟩, by simp [intOf]; omega⟩
        · have hki : ¬ ((k : Int) < (l.length : Int)) := by omega
          have hE := H.out.1
          rw [List.take_of_length_le (by omega)] at hE
          have hE' := hide hE
          clear hE
          go_wp2_with fail
          go_ret
          exact TB.yes ⟨hb1'.out.1 (by simp), hb2'.out.1 (by simp), hE'.out⟩ H.out.2
/-- No text, name or list is too long. -/
def Sht : (n : Nat) → VT n → Prop
  | 0, _ => False
  | n + 1, x => (x.1.text.size : Int) ≤ (bif x.1.kind == 9 then 64 else 4096) ∧ x.2.length ≤ 256 ∧ (∀ s ∈ x.1.names, s.size ≤ 64) ∧ ∀ y ∈ x.2, Sht n y
set_option maxHeartbeats 1000000 in
set_option maxRecDepth 100000 in
theorem isShort_any : ∀ (n : Nat) (x : VT n) (ns ls : Value) (w : World), RD n w x ns ls → Sz n x →
    Calls Tryd.prog 48 #[.agg (vals (vhd n x) ns ls)] w fun e w' => TB (Sht n x) w e w' := by
  intro n
  induction n with
  | zero => intro x; exact Empty.elim x
  | succ n ih =>
    intro x ns ls w hr hz
    obtain ⟨h, l⟩ := x
    obtain ⟨al, cl, rfl, hc1, hc2⟩ := hr.len
    obtain ⟨an, cn, rfl, hn1, hn2⟩ := hr.1.len
    have ml : maxLen = 9223372036854775807 := rfl
    simp only at hc1 hc2 hn1 hn2
    have hb0 : Hid (∀ o, Below w.heap.size w (w.alloc o)) := fun o => below_al (Below.refl _ _)
    have hr := hide hr
    have hz := hide hz
    have ih' := hide ih
    clear ih
    show Calls _ _ #[.agg #[.int .i64 h.kind, .bool h.flag, .bool h.neg, .string h.dig, .int .i64 h.exp, .int .u64 h.bits, .string h.text, .slice an h.names.length cn, .slice al l.length cl]] _ _
    have hB0 := hide (bx_new w h (.slice an h.names.length cn) (.slice al l.length cl))
    obtain ⟨M, hM⟩ : ∃ M : Int, (bif h.kind == 9 then 64 else 4096) = M := ⟨_, rfl⟩
    by_cases k9 : h.kind = 9
    · have hML : M = 64 := by rw [← hM]; simp [k9]
      by_cases ht : (64 : Int) < (h.text.size : Int)
      · have hx := hide (show ¬ Sht (n + 1) (h, l) from fun q => by have h2 : (h.text.size : Int) ≤ (bif h.kind == 9 then 64 else 4096) := q.1; rw [hM, hML] at h2; omega)
        rw [k9]
        go_enter Tryd.func48, Tryd.ntmps48
        go_wp2_with fail
        go_ret
        exact TB.no hx.out (hb0.out _)
      by_cases hl : (256 : Int) < (l.length : Int)
      · have hx := hide (show ¬ Sht (n + 1) (h, l) from fun q => by have h2 : l.length ≤ 256 := q.2.1; omega)
        rw [k9]
        go_enter Tryd.func48, Tryd.ntmps48
        go_wp2_with fail
        go_ret
        exact TB.no hx.out (hb0.out _)
      · have hx0 := hide (show (h.text.size : Int) ≤ (bif h.kind == 9 then 64 else 4096) ∧ l.length ≤ 256 from ⟨by rw [hM, hML]; omega, by omega⟩)
        rw [k9]
        go_enter Tryd.func48, Tryd.ntmps48
        go_wp2_with fail
        go_loopw [25] (fun i w' => ∃ k : Nat, i = .int .i64 k ∧ k ≤ h.names.length ∧ Hid ((∀ s ∈ h.names.take k, s.size ≤ 64) ∧ Below w.heap.size w w' ∧ w'.cell? ⟨w.heap.size, 8, none⟩ = some (.slice al l.length cl))) (fun i _ => h.names.length - (intOf i).toNat)
        case atStart => exact ⟨0, rfl, Nat.zero_le _, (fun y hy => by simp at hy), hb0.out _, one_cell (Below.refl _ _) 8⟩
        case round =>
          obtain ⟨k, rfl, hk, H⟩ := hrel
          have c8 := H.out.2.2
          by_cases hkl : k < h.names.length
          · have hki : (k : Int) < (h.names.length : Int) := by omega
            have hk63 : (k : Int) < 9223372036854775807 := by omega
            obtain ⟨b, o, c, he, hbl, hlc, hcm, hcell⟩ := hr.out.1.at k hkl
            have he' := Value.slice.inj he
            obtain ⟨rfl, _, rfl⟩ := he'
            clear he
            have hcell := (H.out.2.1.cell (p := ⟨b, o + k, none⟩) hbl).trans hcell
            obtain ⟨s, hs⟩ : ∃ s, h.names[k] = s := ⟨_, rfl⟩
            simp only at hcell
            rw [hs] at hcell
            have hs' := hide hs
            clear hs
            by_cases h64 : (64 : Int) < (s.size : Int)
            · have hno := hide (show ¬ Sht (n + 1) (h, l) from fun q => by
                have h2 := q.2.2.1 h.names[k] (List.getElem_mem _)
                rw [hs'.out] at h2
                omega)
              go_wp2_with fail
              go_ret
              exact TB.no hno.out H.out.2.1
            · have hmo := hide (mem_take_more (p := fun s => s.size ≤ 64) hkl H.out.1 (by rw [hs'.out]; omega))
              go_wp2_with fail
              exact ⟨⟨k + 1, by go_num, by omega, hmo.out, H.out.2⟩, by simp [intOf]; omega⟩
          · have hki : ¬ ((k : Int) < (h.names.length : Int)) := by omega
            have hE := H.out.1
            rw [List.take_of_length_le (by omega)] at hE
            have hE' := hide hE
            have hb2 := hide H.out.2.1
            clear hE
            go_wp2_with fail
            go_loopw [36] (fun i w' => ∃ k : Nat, i = .int .i64 k ∧ k ≤ l.length ∧ Hid ((∀ y ∈ l.take k, Sht n y) ∧ Below w.heap.size w w')) (fun i _ => l.length - (intOf i).toNat)
            case atStart => exact ⟨0, rfl, Nat.zero_le _, (fun y hy => by simp at hy), hb2.out⟩
            case round =>
              clear H c8 hki hk
              obtain ⟨k2, rfl, hk, H⟩ := hrel
              by_cases hkl : k2 < l.length
              · have hki : (k2 : Int) < (l.length : Int) := by omega
                have hk63 : (k2 : Int) < 9223372036854775807 := by omega
                obtain ⟨b, o, c, he, hbl, hlc, hcm, ns', ls', hrg, hrd⟩ := hr.out.at k2 hkl
                have he' := Value.slice.inj he
                obtain ⟨rfl, _, rfl⟩ := he'
                clear he
                obtain ⟨q0, q1, q2, q3, q4, q5, q6, q7, q8⟩ := range9 (rangeAt_below hrg H.out.2 hbl)
                have hrd' := hide (hrd.below H.out.2)
                obtain ⟨a1, m1, d1, a2, m2, d2, rfl, rfl⟩ := hrd.shape
                clear hrg hrd
                obtain ⟨bk, hbk⟩ := tells (Sht n l[k2])
                have hcall := hide (fun o => Calls.tb (ih'.out l[k2] (.slice a1 m1 d1) (.slice a2 m2 d2) (wr.alloc o) (hrd'.out.below (below_al (Below.refl _ _))) (hz.out.2.2.2.2 _ (List.getElem_mem _))) hbk)
                have hbk' := hide hbk
                clear hbk
                cases bk
                · go_wp2_with (go_at_call 48; refine (hcall.out _).mono ?_; rintro e w3 ⟨rfl, hb3⟩)
                  go_ret
                  exact TB.no (fun q => by have := hbk'.out.2 (q.2.2.2 _ (List.getElem_mem _)); cases this) (below_then (below_al H.out.2) hb3)
                · go_wp2_with (go_at_call 48; refine (hcall.out _).mono ?_; rintro e w3 ⟨rfl, hb3⟩)
                  exact ⟨⟨k2 + 1, by go_num, by omega, mem_take_more hkl H.out.1 (hbk'.out.1 (by simp)), below_then (below_al H.out.2) hb3⟩, by simp [intOf]; omega⟩
              · have hki : ¬ ((k2 : Int) < (l.length : Int)) := by omega
                have hE2 := H.out.1
                rw [List.take_of_length_le (by omega)] at hE2
                have hE2' := hide hE2
                clear hE2
                go_wp2_with fail
                go_ret
                exact TB.yes ⟨hx0.out.1, hx0.out.2, hE'.out, hE2'.out⟩ H.out.2
    · have hML : M = 4096 := by rw [← hM, show (h.kind == 9) = false by rw [beq_eq_false_iff_ne]; exact k9]; rfl
      by_cases ht : (4096 : Int) < (h.text.size : Int)
      · have hx := hide (show ¬ Sht (n + 1) (h, l) from fun q => by have h2 : (h.text.size : Int) ≤ (bif h.kind == 9 then 64 else 4096) := q.1; rw [hM, hML] at h2; omega)
        go_enter Tryd.func48, Tryd.ntmps48
        go_wp2_with fail
        go_ret
        exact TB.no hx.out (hb0.out _)
      by_cases hl : (256 : Int) < (l.length : Int)
      · have hx := hide (show ¬ Sht (n + 1) (h, l) from fun q => by have h2 : l.length ≤ 256 := q.2.1; omega)
        go_enter Tryd.func48, Tryd.ntmps48
        go_wp2_with fail
        go_ret
        exact TB.no hx.out (hb0.out _)
      · have hx0 := hide (show (h.text.size : Int) ≤ (bif h.kind == 9 then 64 else 4096) ∧ l.length ≤ 256 from ⟨by rw [hM, hML]; omega, by omega⟩)
        go_enter Tryd.func48, Tryd.ntmps48
        go_wp2_with fail
        go_loopw [25] (fun i w' => ∃ k : Nat, i = .int .i64 k ∧ k ≤ h.names.length ∧ Hid ((∀ s ∈ h.names.take k, s.size ≤ 64) ∧ Below w.heap.size w w' ∧ w'.cell? ⟨w.heap.size, 8, none⟩ = some (.slice al l.length cl))) (fun i _ => h.names.length - (intOf i).toNat)
        case atStart => exact ⟨0, rfl, Nat.zero_le _, (fun y hy => by simp at hy), hb0.out _, one_cell (Below.refl _ _) 8⟩
        case round =>
          obtain ⟨k, rfl, hk, H⟩ := hrel
          have c8 := H.out.2.2
          by_cases hkl : k < h.names.length
          · have hki : (k : Int) < (h.names.length : Int) := by omega
            have hk63 : (k : Int) < 9223372036854775807 := by omega
            obtain ⟨b, o, c, he, hbl, hlc, hcm, hcell⟩ := hr.out.1.at k hkl
            have he' := Value.slice.inj he
            obtain ⟨rfl, _, rfl⟩ := he'
            clear he
            have hcell := (H.out.2.1.cell (p := ⟨b, o + k, none⟩) hbl).trans hcell
            obtain ⟨s, hs⟩ : ∃ s, h.names[k] = s := ⟨_, rfl⟩
            simp only at hcell
            rw [hs] at hcell
            have hs' := hide hs
            clear hs
            by_cases h64 : (64 : Int) < (s.size : Int)
            · have hno := hide (show ¬ Sht (n + 1) (h, l) from fun q => by
                have h2 := q.2.2.1 h.names[k] (List.getElem_mem _)
                rw [hs'.out] at h2
                omega)
              go_wp2_with fail
              go_ret
              exact TB.no hno.out H.out.2.1
            · have hmo := hide (mem_take_more (p := fun s => s.size ≤ 64) hkl H.out.1 (by rw [hs'.out]; omega))
              go_wp2_with fail
              exact ⟨⟨k + 1, by go_num, by omega, hmo.out, H.out.2⟩, by simp [intOf]; omega⟩
          · have hki : ¬ ((k : Int) < (h.names.length : Int)) := by omega
            have hE := H.out.1
            rw [List.take_of_length_le (by omega)] at hE
            have hE' := hide hE
            have hb2 := hide H.out.2.1
            clear hE
            go_wp2_with fail
            go_loopw [36] (fun i w' => ∃ k : Nat, i = .int .i64 k ∧ k ≤ l.length ∧ Hid ((∀ y ∈ l.take k, Sht n y) ∧ Below w.heap.size w w')) (fun i _ => l.length - (intOf i).toNat)
            case atStart => exact ⟨0, rfl, Nat.zero_le _, (fun y hy => by simp at hy), hb2.out⟩
            case round =>
              clear H c8 hki hk
              obtain ⟨k2, rfl, hk, H⟩ := hrel
              by_cases hkl : k2 < l.length
              · have hki : (k2 : Int) < (l.length : Int) := by omega
                have hk63 : (k2 : Int) < 9223372036854775807 := by omega
                obtain ⟨b, o, c, he, hbl, hlc, hcm, ns', ls', hrg, hrd⟩ := hr.out.at k2 hkl
                have he' := Value.slice.inj he
                obtain ⟨rfl, _, rfl⟩ := he'
                clear he
                obtain ⟨q0, q1, q2, q3, q4, q5, q6, q7, q8⟩ := range9 (rangeAt_below hrg H.out.2 hbl)
                have hrd' := hide (hrd.below H.out.2)
                obtain ⟨a1, m1, d1, a2, m2, d2, rfl, rfl⟩ := hrd.shape
                clear hrg hrd
                obtain ⟨bk, hbk⟩ := tells (Sht n l[k2])
                have hcall := hide (fun o => Calls.tb (ih'.out l[k2] (.slice a1 m1 d1) (.slice a2 m2 d2) (wr.alloc o) (hrd'.out.below (below_al (Below.refl _ _))) (hz.out.2.2.2.2 _ (List.getElem_mem _))) hbk)
                have hbk' := hide hbk
                clear hbk
                cases bk
                · go_wp2_with (go_at_call 48; refine (hcall.out _).mono ?_; rintro e w3 ⟨rfl, hb3⟩)
                  go_ret
                  exact TB.no (fun q => by have := hbk'.out.2 (q.2.2.2 _ (List.getElem_mem _)); cases this) (below_then (below_al H.out.2) hb3)
                · go_wp2_with (go_at_call 48; refine (hcall.out _).mono ?_; rintro e w3 ⟨rfl, hb3⟩)
                  exact ⟨⟨k2 + 1, by go_num, by omega, mem_take_more hkl H.out.1 (hbk'.out.1 (by simp)), below_then (below_al H.out.2) hb3⟩, by simp [intOf]; omega⟩
              · have hki : ¬ ((k2 : Int) < (l.length : Int)) := by omega
                have hE2 := H.out.1
                rw [List.take_of_length_le (by omega)] at hE2
                have hE2' := hide hE2
                clear hE2
                go_wp2_with fail
                go_ret
                exact TB.yes ⟨hx0.out.1, hx0.out.2, hE'.out, hE2'.out⟩ H.out.2
end Go.Proofs.YtlfnnecpinmjjaaDoor
