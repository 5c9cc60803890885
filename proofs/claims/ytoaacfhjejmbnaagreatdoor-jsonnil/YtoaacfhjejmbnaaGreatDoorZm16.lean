/- Merged by program: WeNames, WgFill. -/
import Derived.Test.YtoaacfhjejmbnaaGreatDoorZm00
import Derived.Test.YtoaacfhjejmbnaaGreatDoorUZm15
import Derived.Maps.OwnSet
import Derived.StringKeys
import Derived.Test.YtoaacfhjejmbnaaGreatDoorZm01
/- value.areNames: walked: a set of the call's own. -/
namespace Go.Proofs.YtoaacfhjejmbnaaGreatDoor
open Go.RowKit Go.Maps
set_option linter.unusedSimpArgs false
set_option linter.unusedVariables false
/-- Is it a text? -/
def okT (s : ByteArray) : Bool := Ut.okT (Ut.bl s)
/-- All are texts, and none stands there twice. -/
def Nms (l : List ByteArray) : Prop := (∀ s ∈ l, okT s = true) ∧ l.Nodup
theorem keyS : Keyed Tryz.prog 9 := string_keyed Tryz.underlying9
theorem zeroU (w : World) : (zeroValue 164).run Tryz.prog w = .ok (.agg #[]) w := by kernel_rfl
/-- The set of the first k names. -/
def Sn (l : List ByteArray) (k : Nat) : DataW Unit := setOf (.agg []) ((l.take k).map fun s => Lit.string s.data.toList)
theorem Sn_zero (l : List ByteArray) : Sn l 0 = .map [] := by simp [Sn, setOf]
theorem Sn_succ (l : List ByteArray) (k : Nat) (h : k < l.length) : Sn l (k + 1) = (Sn l k).put (.string l[k].data.toList) (.agg []) := by
  unfold Sn
  rw [List.take_succ_eq_append_getElem h, List.map_append, List.map_singleton, setOf_snoc]
theorem has_Sn (l : List ByteArray) (k : Nat) (s : ByteArray) : Maps.has (Sn l k) (.string s.data.toList) = true ↔ s ∈ l.take k := by
  unfold Sn
  rw [has_setOf _ _ _ (fun y hy => by obtain ⟨_, _, rfl⟩ := List.mem_map.1 hy; trivial), List.any_map]
  rw [List.any_eq_true]
  constructor
  · rintro ⟨y, hy, e⟩
    have : y.data.toList = s.data.toList := by simpa [Lit.sameKey] using e
    have : y = s := ByteArray.ext (Array.toList_inj.1 this)
    rw [← this]; exact hy
  · intro h
    exact ⟨s, h, by simp [Lit.sameKey]⟩
theorem not_nodup {l : List ByteArray} {k : Nat} (h : k < l.length) (hm : l[k] ∈ l.take k) : ¬ l.Nodup := by
  intro hn
  obtain ⟨j, hj, e⟩ := List.mem_iff_getElem.1 hm
  rw [List.length_take] at hj
  rw [List.getElem_take] at e
  have := (List.getElem_inj hn).1 e
  omega
theorem nms_more {l : List ByteArray} {k : Nat} (h : k < l.length) (hn : Nms (l.take k)) (hm : ¬ l[k] ∈ l.take k) (hok : okT l[k] = true) : Nms (l.take (k + 1)) := by
  rw [List.take_succ_eq_append_getElem h]
  refine ⟨fun s hs => ?_, ?_⟩
  · rcases List.mem_append.1 hs with q | q
    · exact hn.1 s q
    · rw [List.mem_singleton.1 q]; exact hok
  · rw [List.nodup_append]
    refine ⟨hn.2, by simp, fun a ha b hb => ?_⟩
    rw [List.mem_singleton.1 hb]
    intro e
    rw [e] at ha
    exact hm ha
theorem ownsMap_below {w W : World} {k : TypeId} {b n : Nat} {D : DataW Unit} {R : Value → Option (DataW Unit × List MemPlace)} (h : w.ownsMap Tryz.prog k R b n D) (hb : Below w.heap.size w W) : W.ownsMap Tryz.prog k R b n D := by
  obtain ⟨es, clock, h1, F, hs, rfl⟩ := h
  have hlt : b < w.heap.size := by
    by_cases hlt : b < w.heap.size
    · exact hlt
    · have hn : w.heap[b]? = none := by simp; omega
      rw [hn] at h1; cases h1
  exact ⟨es, clock, (hb.block b hlt).trans h1, F, hs, rfl⟩
set_option maxHeartbeats 1000000 in
set_option maxRecDepth 100000 in
theorem areNames_any (v : Value) (l : List ByteArray) (w : World) (hv : NL w v l) (g : Ut.Gu w) (hz : l.length ≤ 281474976710656 ∧ ∀ s ∈ l, s.size ≤ 281474976710656) :
    Calls Tryz.prog 133 #[v] w fun e w' => TB (Nms l) w e w' := by
  have hmm := @run_makeMap Tryz.prog
  obtain ⟨av, cv, rfl, hv1, hv2⟩ := hv.len
  have hv := hide hv
  have g := hide g
  have hz := hide hz
  have ml : maxLen = 9223372036854775807 := rfl
  go_enter Tryz.func133, Tryz.ntmps133
  go_wp2_with fail
  go_loopw [11] (fun i wr => ∃ k : Nat, i = .int .i64 k ∧ k ≤ l.length ∧ Hid (Nms (l.take k) ∧ wr.ownsMap Tryz.prog 9 (unitElem (H := Unit)) w.heap.size k (Sn l k) ∧ Below w.heap.size w wr ∧ w.heap.size < wr.heap.size)) (fun i _ => l.length - (intOf i).toNat)
  case atStart => exact ⟨0, rfl, Nat.zero_le _, ⟨(fun s hs => by simp at hs), by simp⟩, by rw [Sn_zero]; exact World.ownsMap_made _ _ _ _, below_al (Below.refl _ _), by simp⟩
  case round =>
    obtain ⟨k, rfl, hk, H⟩ := hrel
    by_cases hkl : k < l.length
    · have hki : (k : Int) < (l.length : Int) := by omega
      have hk63 : (k : Int) < 9223372036854775807 := by omega
      obtain ⟨b, o, c, he, hbl, hlc, hcm, hcell⟩ := hv.out.at k hkl
      have he' := Value.slice.inj he
      obtain ⟨rfl, _, rfl⟩ := he'
      clear he
      have hcell := (H.out.2.2.1.cell (p := ⟨b, o + k, none⟩) hbl).trans hcell
      obtain ⟨s, hs⟩ : ∃ s, l[k] = s := ⟨_, rfl⟩
      have hss : s.size ≤ 281474976710656 := by rw [← hs]; exact hz.out.2 _ (List.getElem_mem _)
      have hkey : keyOf Tryz.prog 9 (.string s) = some (.string s.data.toList) := WideMaps.keyOf_string_mk Tryz.underlying9 (by omega)
      have hkey := hide hkey
      have hval := hide (fun o => Ut.valid_any s (wr.alloc o) (g.out.below (below_al H.out.2.2.1)) (by omega))
      have hsn := hide (Sn_succ l k hkl)
      have hss' := hide hss
      rw [hs] at hcell hsn
      have hs' := hide hs
      clear hs hss
      by_cases hm : s ∈ l.take k
      · have hhas := (has_Sn l k s).2 hm
        have hno : ¬ Nms l := fun q => not_nodup hkl (by rw [hs'.out]; exact hm) q.2
        have hno' := hide hno
        clear hno hm
        go_wp2_with (at_lookup; refine wpList_lookup_own_unit _ rfl _ _ 134 rfl 9 164 keyS Tryz.underlying134 (zeroU _) w.heap.size k _ rfl H.out.2.1 _ _ rfl hkey.out ?_; rw [hhas])
        go_ret
        exact TB.no hno'.out (below_al H.out.2.2.1)
      · have hhas : Maps.has (Sn l k) (.string s.data.toList) = false := by
          cases hq : Maps.has (Sn l k) (.string s.data.toList)
          · rfl
          · exact absurd ((has_Sn l k s).1 hq) hm
        cases hok : okT s
        · have hval := hide (fun o => show Calls Tryz.prog 113 #[.string s] (wr.alloc o) fun r w' => r = .returned (.bool false) ∧ Below (wr.alloc o).heap.size (wr.alloc o) w' from by rw [← hok]; exact hval.out o)
          have hno : ¬ Nms l := fun q => by
            have := q.1 l[k] (List.getElem_mem _)
            rw [hs'.out, hok] at this
            cases this
          have hno' := hide hno
          clear hno hm hok
          go_wp2_with (first | (at_lookup; refine wpList_lookup_own_unit _ rfl _ _ 134 rfl 9 164 keyS Tryz.underlying134 (zeroU _) w.heap.size k _ rfl H.out.2.1 _ _ rfl hkey.out ?_; rw [hhas]) | (go_at_call 113; refine (hval.out _).mono ?_; rintro e w1 ⟨rfl, hb1⟩))
          go_ret
          exact TB.no hno'.out (below_then (below_al H.out.2.2.1) hb1)
        · have hval := hide (fun o => show Calls Tryz.prog 113 #[.string s] (wr.alloc o) fun r w' => r = .returned (.bool true) ∧ Below (wr.alloc o).heap.size (wr.alloc o) w' from by rw [← hok]; exact hval.out o)
          have hm' := hide (nms_more hkl H.out.1 (by rw [hs'.out]; exact hm) (by rw [hs'.out]; exact hok))
          clear hm hok
          have hkm : k < maxLen := by omega
          go_wp2_with (first | (at_lookup; refine wpList_lookup_own_unit _ rfl _ _ 134 rfl 9 164 keyS Tryz.underlying134 (zeroU _) w.heap.size k _ rfl H.out.2.1 _ _ rfl hkey.out ?_; rw [hhas]) | (go_at_call 113; refine (hval.out _).mono ?_; rintro e w1 ⟨rfl, hb1⟩; have hown1 := ownsMap_below (World.ownsMap.alloc H.out.2.1 _) hb1) | (at_mapUpdate; refine wpList_mapUpdate_own _ rfl _ _ _ 134 rfl 9 164 keyS Tryz.underlying134 (unitElem (H := Unit)) w.heap.size k _ rfl hown1 hkm _ _ _ rfl rfl hkey.out _ [] unitElem_mk ?_; intro w2 hown2 hgrow2))
          refine ⟨⟨k + 1, by go_num, by omega, hm'.out, by rw [hsn.out]; exact hown2, ?_, ?_⟩, by simp [intOf]; omega⟩
          · exact (below_then (below_al H.out.2.2.1) hb1).grown hgrow2 (by have h1 := hb1.size; have h3 := H.out.2.2.2; simp at h1; omega) (fun j hj => by cases hj; exact Nat.le_refl _)
          · have h1 := hb1.size
            have h2 := hgrow2.size
            have h3 := H.out.2.2.2
            simp at h1
            omega
    · have hki : ¬ ((k : Int) < (l.length : Int)) := by omega
      have hE := H.out.1
      rw [List.take_of_length_le (by omega)] at hE
      have hE' := hide hE
      clear hE
      go_wp2_with fail
      go_ret
      exact TB.yes hE'.out H.out.2.2.1
end Go.Proofs.YtoaacfhjejmbnaaGreatDoor
/- value.isFilled: walked. -/
namespace Go.Proofs.YtoaacfhjejmbnaaGreatDoor
open Go.RowKit
set_option linter.unusedSimpArgs false
set_option linter.unusedVariables false
/-- What its Kind uses may stand in a value. -/
def Filled (h : Hd) (m : Nat) : Prop := (h.kind = 3 → isN h.neg h.dig h.exp = true) ∧ (h.kind = 5 → okT h.text = true) ∧ (h.kind = 8 → h.names.length = m ∧ Nms h.names) ∧ (h.kind = 9 → okT h.text = true ∧ m = 1)
theorem one_cell {w w1 : World} {c1 : Array Value} {T1 : TypeId} (hb : Below (w.alloc (.cells c1 T1)).heap.size (w.alloc (.cells c1 T1)) w1) (j : Nat) : w1.cell? ⟨w.heap.size, j, none⟩ = c1[j]? := by
  have h1 : (w.alloc (.cells c1 T1)).heap = w.heap.push (.cells c1 T1) := rfl
  have b1 := hb.block w.heap.size (by rw [h1]; simp)
  rw [h1, Array.getElem?_push_size] at b1
  unfold World.cell?
  rw [b1]
  rfl
theorem tells (p : Prop) : ∃ b : Bool, b = true ↔ p := by
  by_cases h : p
  · exact ⟨true, by simp [h]⟩
  · exact ⟨false, by simp [h]⟩
theorem Calls.tb {f : FuncId} {args : Array Value} {w : World} {p : Prop} {b : Bool} (h : Calls Tryz.prog f args w fun e w' => TB p w e w') (hb : b = true ↔ p) : Calls Tryz.prog f args w fun e w' => e = .returned (.bool b) ∧ Below w.heap.size w w' := by
  refine h.mono ?_
  rintro e w' ⟨c, rfl, hc, hw⟩
  have : c = b := by rw [Bool.eq_iff_iff]; exact Iff.trans hc hb.symm
  rw [this]
  exact ⟨rfl, hw⟩
set_option maxHeartbeats 1000000 in
set_option maxRecDepth 100000 in
theorem isFilled_any (n : Nat) (h : Hd) (l : List (VT n)) (ns ls : Value) (w : World) (hr : RD (n + 1) w (h, l) ns ls) (hz : Sz (n + 1) (h, l)) (g : Ut.Gu w) :
    Calls Tryz.prog 88 #[.agg (vals h ns ls)] w fun e w' => TB (Filled h l.length) w e w' := by
  obtain ⟨al, cl, rfl, hc1, hc2⟩ := hr.len
  obtain ⟨an, cn, rfl, hn1, hn2⟩ := hr.1.len
  have ml : maxLen = 9223372036854775807 := rfl
  simp only at hc1 hc2 hn1 hn2
  obtain ⟨z1, z2, z3, z4, z5⟩ := hz
  simp only at z1 z2 z3 z4
  have hB0 := hide (bx_new w h (.slice an h.names.length cn) (.slice al l.length cl))
  have hV := hide (fun W (hb : Below w.heap.size w W) => Ut.valid_any h.text W (g.below hb) (by omega))
  have hN := hide (fun W (hb : Below w.heap.size w W) => areNames_any (.slice an h.names.length cn) h.names W (hr.1.below hb) (g.below hb) ⟨z3, z4⟩)
  have hb0 : Hid (∀ o, Below w.heap.size w (w.alloc o)) := fun o => below_al (Below.refl _ _)
  clear hr g z4 z5
  show Calls _ _ #[.agg #[.int .i64 h.kind, .bool h.flag, .bool h.neg, .string h.dig, .int .i64 h.exp, .int .u64 h.bits, .string h.text, .slice an h.names.length cn, .slice al l.length cl]] _ _
  by_cases k3 : h.kind = 3
  · obtain ⟨b, hb⟩ := tells (isN h.neg h.dig h.exp = true)
    have hx := hide (show Filled h l.length ↔ b = true by rw [hb]; simp [Filled, k3])
    have hC : Hid (∀ W, Calls Tryz.prog 89 #[.agg #[.bool h.neg, .string h.dig, .int .i64 h.exp]] W fun e w' => e = .returned (.int .i64 (bif b then 0 else 10)) ∧ Below W.heap.size W w') := fun W => by
      cases b
      · exact check_no _ _ _ W (by omega) (by cases q : isN h.neg h.dig h.exp; rfl; exact absurd (hb.2 q) (by simp))
      · exact check_ok _ _ _ W (by omega) (hb.1 rfl)
    rw [k3]
    clear hb
    cases b
    · go_enter Tryz.func88, Tryz.ntmps88
      go_wp2_with (go_at_call 89; refine (hC.out _).mono ?_; rintro e w1 ⟨rfl, hb1⟩)
      go_ret
      exact TB.no (fun q => by have := hx.out.1 q; cases this) (below_then (hb0.out _) hb1)
    · go_enter Tryz.func88, Tryz.ntmps88
      go_wp2_with (go_at_call 89; refine (hC.out _).mono ?_; rintro e w1 ⟨rfl, hb1⟩)
      go_ret
      exact TB.yes (hx.out.2 (by simp)) (below_then (hb0.out _) hb1)
  by_cases k5 : h.kind = 5
  · have hx := hide (show Filled h l.length ↔ okT h.text = true by simp [Filled, k5])
    have hV := hide (fun o => hV.out (w.alloc o) (hb0.out o))
    rw [k5]
    cases hk : okT h.text
    · rw [hk] at hx
      have hV : Hid (∀ o, Calls Tryz.prog 113 #[.string h.text] (w.alloc o) fun r w' => r = .returned (.bool false) ∧ Below (w.alloc o).heap.size (w.alloc o) w') := fun o => by rw [← hk]; exact hV.out o
      clear hk
      go_enter Tryz.func88, Tryz.ntmps88
      go_wp2_with (go_at_call 113; refine (hV.out _).mono ?_; rintro e w1 ⟨rfl, hb1⟩)
      go_ret
      exact TB.no (fun q => by have := hx.out.1 q; cases this) (below_then (hb0.out _) hb1)
    · rw [hk] at hx
      have hV : Hid (∀ o, Calls Tryz.prog 113 #[.string h.text] (w.alloc o) fun r w' => r = .returned (.bool true) ∧ Below (w.alloc o).heap.size (w.alloc o) w') := fun o => by rw [← hk]; exact hV.out o
      clear hk
      go_enter Tryz.func88, Tryz.ntmps88
      go_wp2_with (go_at_call 113; refine (hV.out _).mono ?_; rintro e w1 ⟨rfl, hb1⟩)
      go_ret
      exact TB.yes (hx.out.2 (by simp)) (below_then (hb0.out _) hb1)
  by_cases k8 : h.kind = 8
  · by_cases hlen : (h.names.length : Int) = (l.length : Int)
    · have hl' : h.names.length = l.length := by omega
      have hx := hide (show Filled h l.length ↔ Nms h.names by simp [Filled, k8, hl'])
      have hN := hide (fun o => hN.out (w.alloc o) (hb0.out o))
      obtain ⟨b, hb⟩ := tells (Nms h.names)
      have hN := hide (fun o => Calls.tb (hN.out o) hb)
      have hb := hide hb
      rw [k8]
      rw [hl'] at hN ⊢
      clear hlen hl'
      cases b
      · go_enter Tryz.func88, Tryz.ntmps88
        go_wp2_with (go_at_call 133; refine (hN.out _).mono ?_; rintro e w1 ⟨rfl, hb1⟩)
        go_ret
        exact TB.no (fun q => by have := hb.out.2 (hx.out.1 q); cases this) (below_then (hb0.out _) hb1)
      · go_enter Tryz.func88, Tryz.ntmps88
        go_wp2_with (go_at_call 133; refine (hN.out _).mono ?_; rintro e w1 ⟨rfl, hb1⟩)
        go_ret
        exact TB.yes (hx.out.2 (hb.out.1 (by simp))) (below_then (hb0.out _) hb1)
    · have hx : Hid (¬ Filled h l.length) := by
        intro q
        have := (q.2.2.1 k8).1
        omega
      rw [k8]
      go_enter Tryz.func88, Tryz.ntmps88
      go_wp2_with fail
      go_ret
      exact TB.no hx.out (hb0.out _)
  by_cases k9 : h.kind = 9
  · have hV := hide (fun o => hV.out (w.alloc o) (hb0.out o))
    rw [k9]
    cases hk : okT h.text
    · have hx : Hid (¬ Filled h l.length) := by
        intro q
        have := (q.2.2.2 k9).1
        rw [hk] at this; cases this
      have hV : Hid (∀ o, Calls Tryz.prog 113 #[.string h.text] (w.alloc o) fun r w' => r = .returned (.bool false) ∧ Below (w.alloc o).heap.size (w.alloc o) w') := fun o => by rw [← hk]; exact hV.out o
      clear hk
      go_enter Tryz.func88, Tryz.ntmps88
      go_wp2_with (go_at_call 113; refine (hV.out _).mono ?_; rintro e w1 ⟨rfl, hb1⟩)
      go_ret
      exact TB.no hx.out (below_then (hb0.out _) hb1)
    · have hx := hide (show Filled h l.length ↔ l.length = 1 by simp [Filled, k9, hk])
      have hV : Hid (∀ o, Calls Tryz.prog 113 #[.string h.text] (w.alloc o) fun r w' => r = .returned (.bool true) ∧ Below (w.alloc o).heap.size (w.alloc o) w') := fun o => by rw [← hk]; exact hV.out o
      clear hk
      by_cases h1 : l.length = 1
      · rw [h1] at hx ⊢
        have hB1 := hide (bx_new w h (.slice an h.names.length cn) (.slice al 1 cl))
        rw [h1] at hB0
        go_enter Tryz.func88, Tryz.ntmps88
        go_wp2_with (go_at_call 113; refine (hV.out _).mono ?_; rintro e w1 ⟨rfl, hb1⟩; have c8 := one_cell hb1 8)
        go_ret
        exact TB.yes (hx.out.2 (by simp)) (below_then (hb0.out _) hb1)
      · have h1i : ¬ (l.length : Int) = 1 := by omega
        have h1d : decide ((l.length : Int) = 1) = false := decide_eq_false h1i
        have h1d' := hide h1d
        have hx : Hid (¬ Filled h l.length) := fun q => h1 (hx.out.1 q)
        clear h1
        go_enter Tryz.func88, Tryz.ntmps88
        go_wp2_with (go_at_call 113; refine (hV.out _).mono ?_; rintro e w1 ⟨rfl, hb1⟩; have c8 := one_cell hb1 8)
        go_ret
        first | exact TB.no hx.out (below_then (hb0.out _) hb1) | (show TB _ _ (.returned (.bool (decide ((l.length : Int) = 1)))) _; rw [h1d'.out]; exact TB.no hx.out (below_then (hb0.out _) hb1))
  · have hx := hide (show Filled h l.length by simp [Filled, k3, k5, k8, k9])
    go_enter Tryz.func88, Tryz.ntmps88
    go_wp2_with fail
    go_ret
    exact TB.yes hx.out (hb0.out _)
end Go.Proofs.YtoaacfhjejmbnaaGreatDoor
