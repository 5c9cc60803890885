/- calamuskeep.Parts, many, Big: walked. -/
import Derived.Test.YtolmbjeinilhlaaDoorZtWbSize
namespace Go.Proofs.YtolmbjeinilhlaaDoor
open Go.RowKit
set_option linter.unusedSimpArgs false
set_option linter.unusedVariables false
/-- How many structs and bytes a value has. -/
def blk : (n : Nat) → VT n → Nat
  | 0, _ => 0
  | n + 1, x => 1 + x.1.text.size + x.1.dig.size + x.1.names.length + suml (x.1.names.map ByteArray.size) + suml (x.2.map (blk n))
/-- Nothing is longer than memory is. -/
def Sz : (n : Nat) → VT n → Prop
  | 0, _ => True
  | n + 1, x => x.1.text.size ≤ 281474976710656 ∧ x.1.dig.size ≤ 281474976710656 ∧ x.1.names.length ≤ 281474976710656 ∧ (∀ s ∈ x.1.names, s.size ≤ 281474976710656) ∧ ∀ y ∈ x.2, Sz n y
theorem siz_blk : ∀ (n : Nat) (x : VT n), siz n x ≤ blk n x
  | 0, x => Empty.elim x
  | n + 1, x => by
    simp only [siz, blk]
    have : suml (x.2.map (siz n)) ≤ suml (x.2.map (blk n)) := by
      generalize x.2 = l
      induction l with
      | nil => exact Nat.le_refl _
      | cons a l ih => simp only [List.map_cons, suml]; have := siz_blk n a; omega
    omega
set_option maxHeartbeats 1000000 in
set_option maxRecDepth 100000 in
theorem parts_any : ∀ (n : Nat) (x : VT n) (ns ls : Value) (w : World) (m d : Nat), RD n w x ns ls → Sz n x → m ≤ 65536 → d ≤ 301 →
    Calls Tryd.prog 25 #[.agg (vals (vhd n x) ns ls), .int .i64 m, .int .i64 65536, .int .i64 d] w fun e w' => ∃ p : Nat, e = .returned (.int .i64 p) ∧ Hid ((p ≤ 65536 → p = m + blk n x) ∧ p ≤ 1125899906842624) ∧ Below w.heap.size w w' := by
  intro n
  induction n with
  | zero => intro x; exact Empty.elim x
  | succ n ih =>
    intro x ns ls w m d hr hz hm hd
    obtain ⟨h, l⟩ := x
    obtain ⟨al, cl, rfl, hc1, hc2⟩ := hr.len
    obtain ⟨an, cn, rfl, hn1, hn2⟩ := hr.1.len
    obtain ⟨z1, z2, z3, z4, z5⟩ := hz
    have hr := hide hr
    have ih' := hide ih
    have z4 := hide z4
    have z5 := hide z5
    clear ih
    have hm1 : (m : Int) ≤ 65536 := by omega
    have e1 : (h.text.size : Int) ≤ 281474976710656 := by simp only at z1; omega
    have e2 : (h.dig.size : Int) ≤ 281474976710656 := by simp only at z2; omega
    have e3 : (h.names.length : Int) ≤ 281474976710656 := by simp only at z3; omega
    clear z1 z2 z3
    simp only at hn1 hn2 hc1 hc2
    show Calls _ _ #[.agg #[.int .i64 h.kind, .bool h.flag, .bool h.neg, .string h.dig, .int .i64 h.exp, .int .u64 h.bits, .string h.text, .slice an h.names.length cn, .slice al l.length cl], _, _, _] _ _
    by_cases hd3 : (300 : Int) < (d : Int)
    · go_enter Tryd.func25, Tryd.ntmps25
      go_wp2_with fail
      go_ret
      exact ⟨65537, by first | rfl | simp, ⟨fun h => by omega, by omega⟩, by first | exact below_al (Below.refl _ _) | exact Below.refl _ _⟩
    · have hB0 := hide (bx_new w h (.slice an h.names.length cn) (.slice al l.length cl))
      obtain ⟨q, hq⟩ : ∃ q : Nat, q = m + 1 + h.text.size + h.dig.size + h.names.length := ⟨_, rfl⟩
      have hqi : (m : Int) + 1 + h.text.size + h.dig.size + h.names.length = (q : Int) := by omega
      have hq2 : q ≤ 1125899906842624 := by omega
      have hD : m + blk (n + 1) (h, l) = q + suml (h.names.map ByteArray.size) + suml (l.map (blk n)) := by simp only [blk]; omega
      have hq' := hide hq
      have hD' := hide hD
      have hq2' := hide hq2
      clear hq hD hq2
      have ml : maxLen = 9223372036854775807 := rfl
      go_enter Tryd.func25, Tryd.ntmps25
      go_wp2_with fail
      go_loopw [1, 9] (fun u i w' => ∃ (k p : Nat), u = .int .i64 p ∧ i = .int .i64 k ∧ k ≤ h.names.length ∧ Hid (p = q + suml ((h.names.map ByteArray.size).take k) ∧ p ≤ 1125899906842624 ∧ Below w.heap.size w w' ∧ Bx w' w.heap.size h (.slice an h.names.length cn) (.slice al l.length cl))) (fun _ i _ => h.names.length - (intOf i).toNat)
      case atStart => exact ⟨0, q, rfl, rfl, Nat.zero_le _, rfl, by have := hq2'.out; omega, below_al (Below.refl _ _), hB0.out⟩
      case round =>
        obtain ⟨k, p, rfl, rfl, hk, H⟩ := hrel
        obtain ⟨c0, c1, c2, c3, c4, c5, c6, c7, c8⟩ := H.out.2.2.2.cells
        clear c0 c1 c2 c3 c4 c5 c6
        have hp63 : (p : Int) ≤ 1125899906842624 := by have := H.out.2.1; omega
        by_cases hkl : k < h.names.length
        · have hki : (k : Int) < (h.names.length : Int) := by omega
          by_cases hp : (p : Int) ≤ 65536
          · obtain ⟨b, o, c, he, hbl, hlc, hcm, hcell⟩ := hr.out.1.at k hkl
            have he' := Value.slice.inj he
            obtain ⟨rfl, _, rfl⟩ := he'
            clear he
            have hcell := (H.out.2.2.1.cell (p := ⟨b, o + k, none⟩) hbl).trans hcell
            have hz := z4.out h.names[k] (List.getElem_mem _)
            have hmx := suml_take (h.names.map ByteArray.size) k (by simpa using hkl)
            rw [List.getElem_map] at hmx
            have hmx' := hide hmx
            obtain ⟨s, hs⟩ : ∃ s, h.names[k] = s := ⟨_, rfl⟩
            simp only at hcell
            rw [hs] at hcell hz
            have hzi : (s.size : Int) ≤ 281474976710656 := by omega
            have hs' := hide hs
            have hz' := hide hz
            clear hmx hs hz
            go_wp2_with fail
            refine ⟨⟨k + 1, p + s.size, by go_num, by go_num, by omega, ?_⟩, by simp [intOf]; omega⟩
            refine ⟨?_, by omega, H.out.2.2⟩
            rw [hmx'.out, hs'.out, H.out.1]; omega
          · go_wp2_with fail
            go_loopw [1, 10] (fun u i w' => ∃ (k p : Nat), u = .int .i64 p ∧ i = .int .i64 k ∧ k ≤ l.length ∧ Hid ((p ≤ 65536 → p = q + suml (h.names.map ByteArray.size) + suml ((l.map (blk n)).take k)) ∧ p ≤ 1125899906842624 ∧ Below w.heap.size w w' ∧ Bx w' w.heap.size h (.slice an h.names.length cn) (.slice al l.length cl))) (fun _ i _ => l.length - (intOf i).toNat)
            case atStart => exact ⟨0, p, rfl, rfl, Nat.zero_le _, fun h => by omega, H.out.2⟩
            case round =>
              clear H c7 c8 hp63
              obtain ⟨k2, p2, rfl, rfl, hk2, H⟩ := hrel
              obtain ⟨c0, c1, c2, c3, c4, c5, c6, c7, c8⟩ := H.out.2.2.2.cells
              clear c0 c1 c2 c3 c4 c5 c6
              have hp63 : (p2 : Int) ≤ 1125899906842624 := by have := H.out.2.1; omega
              by_cases hkl2 : k2 < l.length
              · have hki2 : (k2 : Int) < (l.length : Int) := by omega
                have hk63 : (k2 : Int) < 9223372036854775807 := by omega
                by_cases hp2 : (p2 : Int) ≤ 65536
                · obtain ⟨b, o, c, he, hbl, hlc, hcm, ns', ls', hrg, hrd⟩ := hr.out.at k2 hkl2
                  have he' := Value.slice.inj he
                  obtain ⟨rfl, _, rfl⟩ := he'
                  clear he
                  obtain ⟨q0, q1, q2, q3, q4, q5, q6, q7, q8⟩ := range9 (rangeAt_below hrg H.out.2.2.1 hbl)
                  have hrd' := hide (hrd.below H.out.2.2.1)
                  obtain ⟨a1, m1, d1, a2, m2, d2, rfl, rfl⟩ := hrd.shape
                  clear hrg hrd
                  have hmx := suml_take (l.map (blk n)) k2 (by simpa using hkl2)
                  rw [List.getElem_map] at hmx
                  have hcall := hide (ih'.out l[k2] (.slice a1 m1 d1) (.slice a2 m2 d2) wr p2 (d + 1) hrd'.out (z5.out _ (List.getElem_mem _)) (by omega) (by omega))
                  have ed : ((d + 1 : Nat) : Int) = (d : Int) + 1 := by omega
                  rw [ed] at hcall
                  have hmx' := hide hmx
                  have hp2' := hide hp2
                  clear hmx ed
                  go_wp2_with (go_at_call 25; refine hcall.out.mono ?_; rintro e w1 ⟨p3, rfl, H3, hb1⟩)
                  refine ⟨⟨k2 + 1, p3, rfl, by go_num, by omega, ?_⟩, by simp [intOf]; omega⟩
                  refine ⟨fun h3 => ?_, H3.out.2, below_then H.out.2.2.1 hb1, H.out.2.2.2.below hb1⟩
                  have e3 := H3.out.1 h3
                  have e2 := H.out.1 (by have := hp2'.out; omega)
                  have e4 := hmx'.out
                  omega
                · go_wp2_with fail
                  go_ret
                  exact ⟨p2, rfl, ⟨fun h3 => by omega, H.out.2.1⟩, H.out.2.2.1⟩
              · have hki2 : ¬ ((k2 : Int) < (l.length : Int)) := by omega
                have hD2 : m + blk (n + 1) (h, l) = q + suml (h.names.map ByteArray.size) + suml ((l.map (blk n)).take k2) := by
                  rw [hD'.out, List.take_of_length_le (by simp; omega)]
                have hD3 := hide hD2
                clear hD2
                go_wp2_with fail
                go_ret
                exact ⟨p2, rfl, ⟨fun h3 => by rw [hD3.out]; exact H.out.1 h3, H.out.2.1⟩, H.out.2.2.1⟩
        · have hki : ¬ ((k : Int) < (h.names.length : Int)) := by omega
          go_wp2_with fail
          go_loopw [1, 10] (fun u i w' => ∃ (k p : Nat), u = .int .i64 p ∧ i = .int .i64 k ∧ k ≤ l.length ∧ Hid ((p ≤ 65536 → p = q + suml (h.names.map ByteArray.size) + suml ((l.map (blk n)).take k)) ∧ p ≤ 1125899906842624 ∧ Below w.heap.size w w' ∧ Bx w' w.heap.size h (.slice an h.names.length cn) (.slice al l.length cl))) (fun _ i _ => l.length - (intOf i).toNat)
          case atStart => exact ⟨0, p, rfl, rfl, Nat.zero_le _, fun _ => by rw [H.out.1, List.take_of_length_le (by simp; omega)]; simp [suml], H.out.2⟩
          case round =>
            clear H c7 c8 hp63
            obtain ⟨k2, p2, rfl, rfl, hk2, H⟩ := hrel
            obtain ⟨c0, c1, c2, c3, c4, c5, c6, c7, c8⟩ := H.out.2.2.2.cells
            clear c0 c1 c2 c3 c4 c5 c6
            have hp63 : (p2 : Int) ≤ 1125899906842624 := by have := H.out.2.1; omega
            by_cases hkl2 : k2 < l.length
            · have hki2 : (k2 : Int) < (l.length : Int) := by omega
              have hk63 : (k2 : Int) < 9223372036854775807 := by omega
              by_cases hp2 : (p2 : Int) ≤ 65536
              · obtain ⟨b, o, c, he, hbl, hlc, hcm, ns', ls', hrg, hrd⟩ := hr.out.at k2 hkl2
                have he' := Value.slice.inj he
                obtain ⟨rfl, _, rfl⟩ := he'
                clear he
                obtain ⟨q0, q1, q2, q3, q4, q5, q6, q7, q8⟩ := range9 (rangeAt_below hrg H.out.2.2.1 hbl)
                have hrd' := hide (hrd.below H.out.2.2.1)
                obtain ⟨a1, m1, d1, a2, m2, d2, rfl, rfl⟩ := hrd.shape
                clear hrg hrd
                have hmx := suml_take (l.map (blk n)) k2 (by simpa using hkl2)
                rw [List.getElem_map] at hmx
                have hcall := hide (ih'.out l[k2] (.slice a1 m1 d1) (.slice a2 m2 d2) wr p2 (d + 1) hrd'.out (z5.out _ (List.getElem_mem _)) (by omega) (by omega))
                have ed : ((d + 1 : Nat) : Int) = (d : Int) + 1 := by omega
                rw [ed] at hcall
                have hmx' := hide hmx
                have hp2' := hide hp2
                clear hmx ed
                go_wp2_with (go_at_call 25; refine hcall.out.mono ?_; rintro e w1 ⟨p3, rfl, H3, hb1⟩)
                refine ⟨⟨k2 + 1, p3, rfl, by go_num, by omega, ?_⟩, by simp [intOf]; omega⟩
                refine ⟨fun h3 => ?_, H3.out.2, below_then H.out.2.2.1 hb1, H.out.2.2.2.below hb1⟩
                have e3 := H3.out.1 h3
                have e2 := H.out.1 (by have := hp2'.out; omega)
                have e4 := hmx'.out
                omega
              · go_wp2_with fail
                go_ret
                exact ⟨p2, rfl, ⟨fun h3 => by omega, H.out.2.1⟩, H.out.2.2.1⟩
            · have hki2 : ¬ ((k2 : Int) < (l.length : Int)) := by omega
              have hD2 : m + blk (n + 1) (h, l) = q + suml (h.names.map ByteArray.size) + suml ((l.map (blk n)).take k2) := by
                rw [hD'.out, List.take_of_length_le (by simp; omega)]
              have hD3 := hide hD2
              clear hD2
              go_wp2_with fail
              go_ret
              exact ⟨p2, rfl, ⟨fun h3 => by rw [hD3.out]; exact H.out.1 h3, H.out.2.1⟩, H.out.2.2.1⟩
/-- Has a record more names than are compared? -/
def mny : (n : Nat) → VT n → Bool
  | 0, _ => false
  | n + 1, x => decide (2000 < x.1.names.length) || x.2.any (mny n)
theorem any_at {α : Type} {p : α → Bool} {l : List α} {i : Nat} (h : i < l.length) (hp : p l[i] = true) : l.any p = true := List.any_eq_true.2 ⟨_, List.getElem_mem h, hp⟩
set_option maxHeartbeats 1000000 in
set_option maxRecDepth 100000 in
theorem many_any : ∀ (n : Nat) (x : VT n) (ns ls : Value) (w : World), RD n w x ns ls →
    Calls Tryd.prog 26 #[.agg (vals (vhd n x) ns ls)] w fun e w' => e = .returned (.bool (mny n x)) ∧ Below w.heap.size w w' := by
  intro n
  induction n with
  | zero => intro x; exact Empty.elim x
  | succ n ih =>
    intro x ns ls w hr
    obtain ⟨h, l⟩ := x
    obtain ⟨al, cl, rfl, hc1, hc2⟩ := hr.len
    obtain ⟨an, cn, rfl, hn1, hn2⟩ := hr.1.len
    have hr := hide hr
    have ih' := hide ih
    clear ih
    simp only at hn1 hn2 hc1 hc2
    have ml : maxLen = 9223372036854775807 := rfl
    have hB0 := hide (bx_new w h (.slice an h.names.length cn) (.slice al l.length cl))
    show Calls _ _ #[.agg #[.int .i64 h.kind, .bool h.flag, .bool h.neg, .string h.dig, .int .i64 h.exp, .int .u64 h.bits, .string h.text, .slice an h.names.length cn, .slice al l.length cl]] _ _
    by_cases h2 : (2000 : Int) < (h.names.length : Int)
    · have hD : mny (n + 1) (h, l) = true := by simp only [mny]; rw [decide_eq_true (by omega)]; rfl
      have hD' := hide hD
      clear hD
      go_enter Tryd.func26, Tryd.ntmps26
      go_wp2_with fail
      go_ret
      exact ⟨by rw [hD'.out]; rfl, below_al (Below.refl _ _)⟩
    · have hD : mny (n + 1) (h, l) = l.any (mny n) := by simp only [mny]; rw [decide_eq_false (by omega)]; rfl
      have hD' := hide hD
      clear hD
      go_enter Tryd.func26, Tryd.ntmps26
      go_wp2_with fail
      go_loopw [3] (fun i w' => ∃ k : Nat, i = .int .i64 k ∧ k ≤ l.length ∧ Hid ((l.take k).any (mny n) = false ∧ Below w.heap.size w w' ∧ Bx w' w.heap.size h (.slice an h.names.length cn) (.slice al l.length cl))) (fun i _ => l.length - (intOf i).toNat)
      case atStart => exact ⟨0, rfl, Nat.zero_le _, rfl, below_al (Below.refl _ _), hB0.out⟩
      case round =>
        obtain ⟨k, rfl, hk, H⟩ := hrel
        obtain ⟨c0, c1, c2, c3, c4, c5, c6, c7, c8⟩ := H.out.2.2.cells
        clear c0 c1 c2 c3 c4 c5 c6 c7
        by_cases hkl : k < l.length
        · have hki : (k : Int) < (l.length : Int) := by omega
          have hk63 : (k : Int) < 9223372036854775807 := by omega
          obtain ⟨b, o, c, he, hbl, hlc, hcm, ns', ls', hrg, hrd⟩ := hr.out.at k hkl
          have he' := Value.slice.inj he
          obtain ⟨rfl, _, rfl⟩ := he'
          clear he
          obtain ⟨q0, q1, q2, q3, q4, q5, q6, q7, q8⟩ := range9 (rangeAt_below hrg H.out.2.1 hbl)
          have hrd' := hide (hrd.below H.out.2.1)
          obtain ⟨a1, m1, d1, a2, m2, d2, rfl, rfl⟩ := hrd.shape
          clear hrg hrd
          have hcall := hide (ih'.out l[k] (.slice a1 m1 d1) (.slice a2 m2 d2) wr hrd'.out)
          cases hm : mny n l[k]
          · rw [hm] at hcall
            have hm' := hide hm
            clear hm
            go_wp2_with (go_at_call 26; refine hcall.out.mono ?_; rintro e w1 ⟨rfl, hb1⟩)
            refine ⟨⟨k + 1, by go_num, by omega, ?_, below_then H.out.2.1 hb1, H.out.2.2.below hb1⟩, by simp [intOf]; omega⟩
            rw [List.take_succ_eq_append_getElem hkl, List.any_append, H.out.1]
            have := hm'.out
            simp only [List.any_cons, List.any_nil, Bool.or_false, Bool.false_or]
            exact this
          · rw [hm] at hcall
            have hm' := hide hm
            clear hm
            go_wp2_with (go_at_call 26; refine hcall.out.mono ?_; rintro e w1 ⟨rfl, hb1⟩)
            go_ret
            exact ⟨by rw [hD'.out, any_at hkl hm'.out]; rfl, below_then H.out.2.1 hb1⟩
        · have hki : ¬ ((k : Int) < (l.length : Int)) := by omega
          have hE := H.out.1
          rw [List.take_of_length_le (by omega)] at hE
          have hE' := hide hE
          clear hE
          go_wp2_with fail
          go_ret
          exact ⟨by rw [hD'.out, hE'.out]; rfl, H.out.2.1⟩
set_option maxHeartbeats 1000000 in
set_option maxRecDepth 100000 in
theorem big_any (n : Nat) (x : VT n) (ns ls : Value) (w : World) (hr : RD n w x ns ls) (hz : Sz n x) :
    Calls Tryd.prog 9 #[.agg (vals (vhd n x) ns ls)] w fun e w' => ∃ b, e = .returned (.bool b) ∧ Hid (b = false → blk n x ≤ 65536 ∧ mny n x = false) ∧ Below w.heap.size w w' := by
  obtain ⟨a1, m1, d1, a2, m2, d2, rfl, rfl⟩ := hr.shape
  obtain ⟨h, hh⟩ : ∃ h, vhd n x = h := ⟨_, rfl⟩
  have hP := hide (fun o => parts_any n x (.slice a1 m1 d1) (.slice a2 m2 d2) (w.alloc o) 0 0 (hr.below (below_al (Below.refl _ _))) hz (by omega) (by omega))
  have hM := hide (fun W (hb : Below w.heap.size w W) => many_any n x (.slice a1 m1 d1) (.slice a2 m2 d2) W (hr.below hb))
  have hB0 := hide (bx_new w h (.slice a1 m1 d1) (.slice a2 m2 d2))
  rw [hh] at hP hM ⊢
  clear hr hz hh
  show Calls _ _ #[.agg #[.int .i64 h.kind, .bool h.flag, .bool h.neg, .string h.dig, .int .i64 h.exp, .int .u64 h.bits, .string h.text, .slice a1 m1 d1, .slice a2 m2 d2]] _ _
  go_enter Tryd.func9, Tryd.ntmps9
  go_wp2_with fail
  refine (hP.out _).mono ?_
  rintro e w1 ⟨p, rfl, H, hb1⟩
  have hb2 := hide (below_then (below_al (o := .cells (vals h (.slice a1 m1 d1) (.slice a2 m2 d2)) 33) (Below.refl w.heap.size w)) hb1)
  obtain ⟨c0, c1, c2, c3, c4, c5, c6, c7, c8⟩ := (hB0.out.below hb1).cells
  have hcall := hide (hM.out w1 hb2.out)
  by_cases hp : (65536 : Int) < (p : Int)
  · go_wp2_with (go_at_call 26; refine hcall.out.mono ?_; rintro e w2 ⟨rfl, hb3⟩)
    go_ret
    exact ⟨true, rfl, (fun h => by cases h), hb2.out⟩
  · cases hm : mny n x
    · rw [hm] at hcall
      go_wp2_with (go_at_call 26; refine hcall.out.mono ?_; rintro e w2 ⟨rfl, hb3⟩)
      go_ret
      exact ⟨false, ret_bool (decide_eq_false (by omega)), (fun h => ⟨by have := H.out.1 (by omega); omega, hm⟩), below_then hb2.out hb3⟩
    · rw [hm] at hcall
      go_wp2_with (go_at_call 26; refine hcall.out.mono ?_; rintro e w2 ⟨rfl, hb3⟩)
      go_ret
      exact ⟨true, rfl, (fun h => by cases h), below_then hb2.out hb3⟩
end Go.Proofs.YtolmbjeinilhlaaDoor
