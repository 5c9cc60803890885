/- value.isFilled: walked. -/
import Derived.Test.YtlfnnecpinmjjaaDoorWeNames
import Derived.Test.YtlfnnecpinmjjaaDoorWfBare
import Derived.Test.YtlfnnecpinmjjaaDoorWcBig
import Derived.Test.YtlfnnecpinmjjaaDoorNbCount
namespace Go.Proofs.YtlfnnecpinmjjaaDoor
open Go.RowKit
set_option linter.unusedSimpArgs false
set_option linter.unusedVariables false
/-- What its Kind uses may stand in a value. -/
def Filled (h : Hd) (m : Nat) : Prop := (h.kind = 3 → isN h.neg h.dig h.exp = true) ∧ (h.kind = 5 → okT h.text = true) ∧ (h.kind = 8 → h.names.length = m ∧ Nms h.names) ∧ (h.kind = 9 → okT h.text = true ∧ m = 1)
theorem one_cell {w w1 : World} {c1 : Array Value} {T1 : TypeId} (hb : Below (w.alloc (.cells c1 T1)).heap.size (w.alloc (.cells c1 T1)) w1) (j : Nat) : w1.cell? ⟨w.heap.size, j, none⟩ = c1[j]? := by
  have h1 : (w.alloc (.cells c1 T1)).heap = w.heap.push (.cells c1 T1) := rfl
  have b1 := hb.block w.heap.size (by rw [h1]; simp)
  rw [h1, Array.getElem?_push_size] at b1
  unfold World.cell?
  rw [b1]
  rfl
theorem tells (p : Prop) : ∃ b : Bool, b = true ↔ p := by
  by_cases h : p
  · exact ⟨true, by simp [h]⟩
  · exact ⟨false, by simp [h]⟩
theorem Calls.tb {f : FuncId} {args : Array Value} {w : World} {p : Prop} {b : Bool} (h : Calls Tryd.prog f args w fun e w' => TB p w e w') (hb : b = true ↔ p) : Calls Tryd.prog f args w fun e w' => e = .returned (.bool b) ∧ Below w.heap.size w w' := by
  refine h.mono ?_
  rintro e w' ⟨c, rfl, hc, hw⟩
  have : c = b := by rw [Bool.eq_iff_iff]; exact Iff.trans hc hb.symm
  rw [this]
  exact ⟨rfl, hw⟩
set_option maxHeartbeats 1000000 in
set_option maxRecDepth 100000 in
theorem isFilled_any (n : Nat) (h : Hd) (l : List (VT n)) (ns ls : Value) (w : World) (hr : RD (n + 1) w (h, l) ns ls) (hz : Sz (n + 1) (h, l)) (g : Ut.Gu w) :
    Calls Tryd.prog 65 #[.agg (vals h ns ls)] w fun e w' => TB (Filled h l.length) w e w' := by
  obtain ⟨al, cl, rfl, hc1, hc2⟩ := hr.len
  obtain ⟨an, cn, rfl, hn1, hn2⟩ := hr.1.len
  have ml : maxLen = 9223372036854775807 := rfl
  simp only at hc1 hc2 hn1 hn2
  obtain ⟨z1, z2, z3, z4, z5⟩ := hz
  simp only at z1 z2 z3 z4
  have hB0 := hide (bx_new w h (.slice an h.names.length cn) (.slice al l.length cl))
  have hV := hide (fun W (hb : Below w.heap.size w W) => Ut.valid_any h.text W (g.below hb) (by omega))
  have hN := hide (fun W (hb : Below w.heap.size w W) => areNames_any (.slice an h.names.length cn) h.names W (hr.1.below hb) (g.below hb) ⟨z3, z4⟩)
  have hb0 : Hid (∀ o, Below w.heap.size w (w.alloc o)) := fun o => below_al (Below.refl _ _)
  clear hr g z4 z5
  show Calls _ _ #[.agg #[.int .i64 h.kind, .bool h.flag, .bool h.neg, .string h.dig, .int .i64 h.exp, .int .u64 h.bits, .string h.text, .slice an h.names.length cn, .slice al l.length cl]] _ _
  by_cases k3 : h.kind = 3
  · obtain ⟨b, hb⟩ := tells (isN h.neg h.dig h.exp = true)
    have hx := hide (show Filled h l.length ↔ b = true by rw [hb]; simp [Filled, k3])
    have hC : Hid (∀ W, Calls Tryd.prog 82 #[.agg #[.bool h.neg, .string h.dig, .int .i64 h.exp]] W fun e w' => e = .returned (.int .i64 (bif b then 0 else 10)) ∧ Below W.heap.size W w') := fun W => by
      cases b
      · exact check_no _ _ _ W (by omega) (by cases q : isN h.neg h.dig h.exp; rfl; exact absurd (hb.2 q) (by simp))
      · exact check_ok _ _ _ W (by omega) (hb.1 rfl)
    rw [k3]
    clear hb
    cases b
    · go_enter Tryd.func65, Tryd.ntmps65
      go_wp2_with (go_at_call 82; refine (hC.out _).mono ?_; rintro e w1 ⟨rfl, hb1⟩)
      go_ret
      exact TB.no (fun q => by have := hx.out.1 q; cases this) (below_then (hb0.out _) hb1)
    · go_enter Tryd.func65, Tryd.ntmps65
      go_wp2_with (go_at_call 82; refine (hC.out _).mono ?_; rintro e w1 ⟨rfl, hb1⟩)
      go_ret
      exact TB.yes (hx.out.2 (by simp)) (below_then (hb0.out _) hb1)
  by_cases k5 : h.kind = 5
  · have hx := hide (show Filled h l.length ↔ okT h.text = true by simp [Filled, k5])
    have hV := hide (fun o => hV.out (w.alloc o) (hb0.out o))
    rw [k5]
    cases hk : okT h.text
    · rw [hk] at hx
      have hV : Hid (∀ o, Calls Tryd.prog 80 #[.string h.text] (w.alloc o) fun r w' => r = .returned (.bool false) ∧ Below (w.alloc o).heap.size (w.alloc o) w') := fun o => by rw [← hk]; exact hV.out o
      clear hk
      go_enter Tryd.func65, Tryd.ntmps65
      go_wp2_with (go_at_call 80; refine (hV.out _).mono ?_; rintro e w1 ⟨rfl, hb1⟩)
      go_ret
      exact TB.no (fun q => by have := hx.out.1 q; cases this) (below_then (hb0.out _) hb1)
    · rw [hk] at hx
      have hV : Hid (∀ o, Calls Tryd.prog 80 #[.string h.text] (w.alloc o) fun r w' => r = .returned (.bool true) ∧ Below (w.alloc o).heap.size (w.alloc o) w') := fun o => by rw [← hk]; exact hV.out o
      clear hk
      go_enter Tryd.func65, Tryd.ntmps65
      go_wp2_with (go_at_call 80; refine (hV.out _).mono ?_; rintro e w1 ⟨rfl, hb1⟩)
      go_ret
      exact TB.yes (hx.out.2 (by simp)) (below_then (hb0.out _) hb1)
  by_cases k8 : h.kind = 8
  · by_cases hlen : (h.names.length : Int) = (l.length : Int)
    · have hl' : h.names.length = l.length := by omega
      have hx := hide (show Filled h l.length ↔ Nms h.names by simp [Filled, k8, hl'])
      have hN := hide (fun o => hN.out (w.alloc o) (hb0.out o))
      obtain ⟨b, hb⟩ := tells (Nms h.names)
      have hN := hide (fun o => Calls.tb (hN.out o) hb)
      have hb := hide hb
      rw [k8]
      rw [hl'] at hN ⊢
      clear hlen hl'
      cases b
      · go_enter Tryd.func65, Tryd.ntmps65
        go_wp2_with (go_at_call 83; refine (hN.out _).mono ?_; rintro e w1 ⟨rfl, hb1⟩)
        go_ret
        exact TB.no (fun q => by have := hb.out.2 (hx.out.1 q); cases this) (below_then (hb0.out _) hb1)
      · go_enter Tryd.func65, Tryd.ntmps65
        go_wp2_with (go_at_call 83; refine (hN.out _).mono ?_; rintro e w1 ⟨rfl, hb1⟩)
        go_ret
        exact TB.yes (hx.out.2 (hb.out.1 (by simp))) (below_then (hb0.out _) hb1)
    · have hx : Hid (¬ Filled h l.length) := by
        intro q
        have := (q.2.2.1 k8).1
        omega
      rw [k8]
      go_enter Tryd.func65, Tryd.ntmps65
      go_wp2_with fail
      go_ret
      exact TB.no hx.out (hb0.out _)
  by_cases k9 : h.kind = 9
  · have hV := hide (fun o => hV.out (w.alloc o) (hb0.out o))
    rw [k9]
    cases hk : okT h.text
    · have hx : Hid (¬ Filled h l.length) := by
        intro q
        have := (q.2.2.2 k9).1
        rw [hk] at this; cases this
      have hV : Hid (∀ o, Calls Tryd.prog 80 #[.string h.text] (w.alloc o) fun r w' => r = .returned (.bool false) ∧ Below (w.alloc o).heap.size (w.alloc o) w') := fun o => by rw [← hk]; exact hV.out o
      clear hk
      go_enter Tryd.func65, Tryd.ntmps65
      go_wp2_with (go_at_call 80; refine (hV.out _).mono ?_; rintro e w1 ⟨rfl, hb1⟩)
      go_ret
      exact TB.no hx.out (below_then (hb0.out _) hb1)
    · have hx := hide (show Filled h l.length ↔ l.length = 1 by simp [Filled, k9, hk])
      have hV : Hid (∀ o, Calls Tryd.prog 80 #[.string h.text] (w.alloc o) fun r w' => r = .returned (.bool true) ∧ Below (w.alloc o).heap.size (w.alloc o) w') := fun o => by rw [← hk]; exact hV.out o
      clear hk
      by_cases h1 : l.length = 1
      · rw [h1] at hx ⊢
        have hB1 := hide (bx_new w h (.slice an h.names.length cn) (.slice al 1 cl))
        rw [h1] at hB0
        go_enter Tryd.func65, Tryd.ntmps65
        go_wp2_with (go_at_call 80; refine (hV.out _).mono ?_; rintro e w1 ⟨rfl, hb1⟩; have c8 := one_cell hb1 8)
        go_ret
        exact TB.yes (hx.out.2 (by simp)) (below_then (hb0.out _) hb1)
      · have h1i : ¬ (l.length : Int) = 1 := by omega
        have h1d : decide ((l.length : Int) = 1) = false := decide_eq_false h1i
        have h1d' := hide h1d
        have hx : Hid (¬ Filled h l.length) := fun q => h1 (hx.out.1 q)
        clear h1
        go_enter Tryd.func65, Tryd.ntmps65
        go_wp2_with (go_at_call 80; refine (hV.out _).mono ?_; rintro e w1 ⟨rfl, hb1⟩; have c8 := one_cell hb1 8)
        go_ret
        first | exact TB.no hx.out (below_then (hb0.out _) hb1) | (show TB _ _ (.returned (.bool (decide ((l.length : Int) = 1)))) _; rw [h1d'.out]; exact TB.no hx.out (below_then (hb0.out _) hb1))
  · have hx := hide (show Filled h l.length by simp [Filled, k3, k5, k8, k9])
    go_enter Tryd.func65, Tryd.ntmps65
    go_wp2_with fail
    go_ret
    exact TB.yes hx.out (hb0.out _)
end Go.Proofs.YtlfnnecpinmjjaaDoor
