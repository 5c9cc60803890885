/- calamusref04.own, Formed, Within, Check: walked, given what calamusref03.Valid answers. -/
import Derived.Test.YtolmbjeinilhlaaDoorZtXfPlain
import Derived.Test.YtolmbjeinilhlaaDoorZtXgUnl
import Derived.Test.YtolmbjeinilhlaaDoorZtXdRsh
import Derived.Test.YtolmbjeinilhlaaDoorZtXbRdep
import Derived.Test.YtolmbjeinilhlaaDoorZtW
import Derived.Test.YtolmbjeinilhlaaDoorZtQ
namespace Go.Proofs.YtolmbjeinilhlaaDoor
open Go.RowKit
set_option linter.unusedSimpArgs false
set_option linter.unusedVariables false
/-- What the reference's Valid answers. -/
def RVal : Prop := ∀ (s : ByteArray) (w : World), s.size ≤ 281474976710656 → Calls Tryd.prog 75 #[.string s] w fun e w' => e = .returned (.bool (okT s)) ∧ Below w.heap.size w w'
set_option maxHeartbeats 2000000 in
set_option maxRecDepth 100000 in
theorem own_any (rv : RVal) (n : Nat) (h : Hd) (l : List (VT n)) (ns ls : Value) (w : World) (hr : RD (n + 1) w (h, l) ns ls) (hz : Sz (n + 1) (h, l)) :
    Calls Tryd.prog 71 #[.agg (vals h ns ls)] w fun e w' => TB (Filled h l.length) w e w' := by
  obtain ⟨al, cl, rfl, hc1, hc2⟩ := hr.len
  obtain ⟨an, cn, rfl, hn1, hn2⟩ := hr.1.len
  have ml : maxLen = 9223372036854775807 := rfl
  simp only at hc1 hc2 hn1 hn2
  obtain ⟨z1, z2, z3, z4, z5⟩ := hz
  simp only at z1 z2 z3 z4
  have hB0 := hide (bx_new w h (.slice an h.names.length cn) (.slice al l.length cl))
  have hb0 : Hid (∀ o, Below w.heap.size w (w.alloc o)) := fun o => below_al (Below.refl _ _)
  have hV := hide (fun W => rv h.text W (by omega))
  have z4 := hide z4
  replace hr := hide hr
  replace rv := hide rv
  clear z5
  show Calls _ _ #[.agg #[.int .i64 h.kind, .bool h.flag, .bool h.neg, .string h.dig, .int .i64 h.exp, .int .u64 h.bits, .string h.text, .slice an h.names.length cn, .slice al l.length cl]] _ _
  by_cases k3 : h.kind = 3
  · have hx := hide (show Filled h l.length ↔ isN h.neg h.dig h.exp = true by simp [Filled, k3])
    have hC := hide (fun W => ris_any h.neg h.dig h.exp W (by omega))
    obtain ⟨b, hb⟩ : ∃ b, isN h.neg h.dig h.exp = b := ⟨_, rfl⟩
    rw [hb] at hC hx
    rw [k3]
    clear hb
    go_enter Tryd.func71, Tryd.ntmps71
    go_wp2_with (go_at_call 84; refine (hC.out _).mono ?_; rintro e w1 ⟨rfl, hb1⟩)
    go_ret
    exact ⟨b, rfl, (show Hid _ from hx.out.symm), below_then (hb0.out _) hb1⟩
  by_cases k5 : h.kind = 5
  · have hx := hide (show Filled h l.length ↔ okT h.text = true by simp [Filled, k5])
    obtain ⟨b, hb⟩ : ∃ b, okT h.text = b := ⟨_, rfl⟩
    rw [hb] at hV hx
    rw [k5]
    clear hb
    go_enter Tryd.func71, Tryd.ntmps71
    go_wp2_with (go_at_call 75; refine (hV.out _).mono ?_; rintro e w1 ⟨rfl, hb1⟩)
    go_ret
    exact ⟨b, rfl, (show Hid _ from hx.out.symm), below_then (hb0.out _) hb1⟩
  by_cases k9 : h.kind = 9
  · obtain ⟨b, hb⟩ : ∃ b, okT h.text = b := ⟨_, rfl⟩
    have hx := hide (show Filled h l.length ↔ (b = true ∧ l.length = 1) by simp [Filled, k9, hb])
    rw [hb] at hV
    rw [k9]
    clear hb
    cases b
    · go_enter Tryd.func71, Tryd.ntmps71
      go_wp2_with (go_at_call 75; refine (hV.out _).mono ?_; rintro e w1 ⟨rfl, hb1⟩; have c8 := one_cell hb1 8)
      go_ret
      exact TB.no (fun q => by have := (hx.out.1 q).1; cases this) (below_then (hb0.out _) hb1)
    · by_cases h1 : l.length = 1
      · rw [h1] at hx hB0 ⊢
        go_enter Tryd.func71, Tryd.ntmps71
        go_wp2_with (go_at_call 75; refine (hV.out _).mono ?_; rintro e w1 ⟨rfl, hb1⟩; have c8 := one_cell hb1 8)
        go_ret
        exact TB.yes (hx.out.2 (by simp)) (below_then (hb0.out _) hb1)
      · have h1i : ¬ (l.length : Int) = 1 := by omega
        have h1d := hide (show decide ((l.length : Int) = 1) = false from decide_eq_false h1i)
        have hx2 : Hid (¬ Filled h l.length) := fun q => h1 (hx.out.1 q).2
        clear h1 hx
        go_enter Tryd.func71, Tryd.ntmps71
        go_wp2_with (go_at_call 75; refine (hV.out _).mono ?_; rintro e w1 ⟨rfl, hb1⟩; have c8 := one_cell hb1 8)
        go_ret
        first | exact TB.no hx2.out (below_then (hb0.out _) hb1) | (show TB _ _ (.returned (.bool (decide ((l.length : Int) = 1)))) _; rw [h1d.out]; exact TB.no hx2.out (below_then (hb0.out _) hb1))
  by_cases k8 : h.kind = 8
  · have hx := hide (show Filled h l.length ↔ (h.names.length = l.length ∧ Nms h.names) by simp [Filled, k8])
    have hB8 : Hid (Bx (w.alloc (.cells #[.int .i64 8, .bool h.flag, .bool h.neg, .string h.dig, .int .i64 h.exp, .int .u64 h.bits, .string h.text, .slice an h.names.length cn, .slice al l.length cl] 33)) w.heap.size h (.slice an h.names.length cn) (.slice al l.length cl)) := by have := hB0.out; unfold vals at this; rw [k8] at this; exact this
    rw [k8]
    go_enter Tryd.func71, Tryd.ntmps71
    go_wp2_with fail
    go_loopw [3] (fun i w' => ∃ k : Nat, i = .int .i64 k ∧ k ≤ h.names.length ∧ Hid ((∀ s ∈ h.names.take k, okT s = true) ∧ Below w.heap.size w w') ∧ Hid (Bx w' w.heap.size h (.slice an h.names.length cn) (.slice al l.length cl))) (fun i _ => h.names.length - (intOf i).toNat)
    case atStart => exact ⟨0, rfl, Nat.zero_le _, ⟨(fun y hy => by simp at hy), hb0.out _⟩, hB8.out⟩
    case round =>
      obtain ⟨k, rfl, hk, H, hB⟩ := hrel
      have c7 := hB.out.cells.2.2.2.2.2.2.2.1
      have c8 := hB.out.cells.2.2.2.2.2.2.2.2
      by_cases hkl : k < h.names.length
      · have hki : (k : Int) < (h.names.length : Int) := by omega
        have hk63 : (k : Int) < 9223372036854775807 := by omega
        obtain ⟨b, o, c, he, hbl, hlc, hcm, hcell⟩ := hr.out.1.at k hkl
        have he' := Value.slice.inj he
        obtain ⟨rfl, _, rfl⟩ := he'
        clear he
        have hcell := (H.out.2.cell (p := ⟨b, o + k, none⟩) hbl).trans hcell
        obtain ⟨s, hs⟩ : ∃ s, h.names[k] = s := ⟨_, rfl⟩
        simp only at hcell
        rw [hs] at hcell
        have hsz : s.size ≤ 281474976710656 := by rw [← hs]; exact z4.out _ (List.getElem_mem _)
        have hVs := hide (rv.out s wr hsz)
        obtain ⟨q, hq⟩ : ∃ q, okT s = q := ⟨_, rfl⟩
        rw [hq] at hVs
        have hq' := hide hq
        have hs' := hide hs
        clear hs hq hsz
        cases q
        · have hno := hide (show ¬ Filled h l.length from fun p => by
            have := (hx.out.1 p).2.1 h.names[k] (List.getElem_mem _)
            rw [hs'.out, hq'.out] at this; cases this)
          go_wp2_with (go_at_call 75; refine hVs.out.mono ?_; rintro e w3 ⟨rfl, hb3⟩)
          go_ret
          exact TB.no hno.out (below_then H.out.2 hb3)
        · have hmo := hide (mem_take_more (p := fun s => okT s = true) hkl H.out.1 (by rw [hs'.out, hq'.out]))
          go_wp2_with (go_at_call 75; refine hVs.out.mono ?_; rintro e w3 ⟨rfl, hb3⟩)
          exact ⟨⟨k + 1, by go_num, by omega, ⟨hmo.out, below_then H.out.2 hb3⟩, hB.out.below hb3⟩, by simp [intOf]; omega⟩
      · have hki : ¬ ((k : Int) < (h.names.length : Int)) := by omega
        have hE := H.out.1
        rw [List.take_of_length_le (by omega)] at hE
        have hE' := hide hE
        clear hE
        by_cases hlen : (h.names.length : Int) = (l.length : Int)
        · obtain ⟨q, hq⟩ := tells h.names.Nodup
          have hU := hide (Calls.tb (unlike_any (.slice an h.names.length cn) h.names wr (hr.out.1.below H.out.2)) hq)
          have hfin := hide (show q = true ↔ Filled h l.length by
            rw [hx.out, hq]
            exact ⟨fun p => ⟨by omega, hE'.out, p⟩, fun p => p.2.2⟩)
          clear hq
          go_wp2_with (go_at_call 85; refine hU.out.mono ?_; rintro e w3 ⟨rfl, hb3⟩)
          go_ret
          exact ⟨q, rfl, (show Hid _ from hfin.out), below_then H.out.2 hb3⟩
        · have hno := hide (show ¬ Filled h l.length from fun p => by have := (hx.out.1 p).1; omega)
          go_wp2_with fail
          go_ret
          exact TB.no hno.out H.out.2
  · have hx := hide (show Filled h l.length by simp [Filled, k3, k5, k8, k9])
    go_enter Tryd.func71, Tryd.ntmps71
    go_wp2_with fail
    go_ret
    exact TB.yes hx.out (hb0.out _)
end Go.Proofs.YtolmbjeinilhlaaDoor
