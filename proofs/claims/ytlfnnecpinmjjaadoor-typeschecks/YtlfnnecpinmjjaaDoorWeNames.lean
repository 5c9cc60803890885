/- value.areNames: walked: a set of the call's own. -/
import Derived.Test.YtlfnnecpinmjjaaDoorWdEqual
import Derived.Test.YtlfnnecpinmjjaaDoorUfTextV
import Derived.Maps.OwnSet
import Derived.StringKeys
namespace Go.Proofs.YtlfnnecpinmjjaaDoor
open Go.RowKit Go.Maps
set_option linter.unusedSimpArgs false
set_option linter.unusedVariables false
/-- Is it a text? -/
def okT (s : ByteArray) : Bool := Ut.okT (Ut.bl s)
/-- All are texts, and none stands there twice. -/
def Nms (l : List ByteArray) : Prop := (∀ s ∈ l, okT s = true) ∧ l.Nodup
theorem keyS : Keyed Tryd.prog 9 := string_keyed Tryd.underlying9
theorem zeroU (w : World) : (zeroValue 93).run Tryd.prog w = .ok (.agg #[]) w := by kernel_rfl
/-- The set of the first k names. -/
def Sn (l : List ByteArray) (k : Nat) : DataW Unit := setOf (.agg []) ((l.take k).map fun s => Lit.string s.data.toList)
theorem Sn_zero (l : List ByteArray) : Sn l 0 = .map [] := by simp [Sn, setOf]
theorem Sn_succ (l : List ByteArray) (k : Nat) (h : k < l.length) : Sn l (k + 1) = (Sn l k).put (.string l[k].data.toList) (.agg []) := by
  unfold Sn
  rw [List.take_succ_eq_append_getElem h, List.map_append, List.map_singleton, setOf_snoc]
theorem has_Sn (l : List ByteArray) (k : Nat) (s : ByteArray) : Maps.has (Sn l k) (.string s.data.toList) = true ↔ s ∈ l.take k := by
  unfold Sn
  rw [has_setOf _ _ _ (fun y hy => by obtain ⟨_, _, rfl⟩ := List.mem_map.1 hy; trivial), List.any_map]
  rw [List.any_eq_true]
  constructor
  · rintro ⟨y, hy, e⟩
    have : y.data.toList = s.data.toList := by simpa [Lit.sameKey] using e
    have : y = s := ByteArray.ext (Array.toList_inj.1 this)
    rw [← this]; exact hy
  · intro h
    exact ⟨s, h, by simp [Lit.sameKey]⟩
theorem not_nodup {l : List ByteArray} {k : Nat} (h : k < l.length) (hm : l[k] ∈ l.take k) : ¬ l.Nodup := by
  intro hn
  obtain ⟨j, hj, e⟩ := List.mem_iff_getElem.1 hm
  rw [List.length_take] at hj
  rw [List.getElem_take] at e
  have := (List.getElem_inj hn).1 e
  omega
theorem nms_more {l : List ByteArray} {k : Nat} (h : k < l.length) (hn : Nms (l.take k)) (hm : ¬ l[k] ∈ l.take k) (hok : okT l[k] = true) : Nms (l.take (k + 1)) := by
  rw [List.take_succ_eq_append_getElem h]
  refine ⟨fun s hs => ?_, ?_⟩
  · rcases List.mem_append.1 hs with q | q
    · exact hn.1 s q
    · rw [List.mem_singleton.1 q]; exact hok
  · rw [List.nodup_append]
    refine ⟨hn.2, by simp, fun a ha b hb => ?_⟩
    rw [List.mem_singleton.1 hb]
    intro e
    rw [e] at ha
    exact hm ha
theorem ownsMap_below {w W : World} {k : TypeId} {b n : Nat} {D : DataW Unit} {R : Value → Option (DataW Unit × List MemPlace)} (h : w.ownsMap Tryd.prog k R b n D) (hb : Below w.heap.size w W) : W.ownsMap Tryd.prog k R b n D := by
  obtain ⟨es, clock, h1, F, hs, rfl⟩ := h
  have hlt : b < w.heap.size := by
    by_cases hlt : b < w.heap.size
    · exact hlt
    · have hn : w.heap[b]? = none := by simp; omega
      rw [hn] at h1; cases h1
  exact ⟨es, clock, (hb.block b hlt).trans h1, F, hs, rfl⟩
set_option maxHeartbeats 1000000 in
set_option maxRecDepth 100000 in
theorem areNames_any (v : Value) (l : List ByteArray) (w : World) (hv : NL w v l) (g : Ut.Gu w) (hz : l.length ≤ 281474976710656 ∧ ∀ s ∈ l, s.size ≤ 281474976710656) :
    Calls Tryd.prog 83 #[v] w fun e w' => TB (Nms l) w e w' := by
  have hmm := @run_makeMap Tryd.prog
  obtain ⟨av, cv, rfl, hv1, hv2⟩ := hv.len
  have hv := hide hv
  have g := hide g
  have hz := hide hz
  have ml : maxLen = 9223372036854775807 := rfl
  go_enter Tryd.func83, Tryd.ntmps83
  go_wp2_with fail
  go_loopw [11] (fun i wr => ∃ k : Nat, i = .int .i64 k ∧ k ≤ l.length ∧ Hid (Nms (l.take k) ∧ wr.ownsMap Tryd.prog 9 (unitElem (H := Unit)) w.heap.size k (Sn l k) ∧ Below w.heap.size w wr ∧ w.heap.size < wr.heap.size)) (fun i _ => l.length - (intOf i).toNat)
  case atStart => exact ⟨0, rfl, Nat.zero_le _, ⟨(fun s hs => by simp at hs), by simp⟩, by rw [Sn_zero]; exact World.ownsMap_made _ _ _ _, below_al (Below.refl _ _), by simp⟩
  case round =>
    obtain ⟨k, rfl, hk, H⟩ := hrel
    by_cases hkl : k < l.length
    · have hki : (k : Int) < (l.length : Int) := by omega
      have hk63 : (k : Int) < 9223372036854775807 := by omega
      obtain ⟨b, o, c, he, hbl, hlc, hcm, hcell⟩ := hv.out.at k hkl
      have he' := Value.slice.inj he
      obtain ⟨rfl, _, rfl⟩ := he'
      clear he
      have hcell := (H.out.2.2.1.cell (p := ⟨b, o + k, none⟩) hbl).trans hcell
      obtain ⟨s, hs⟩ : ∃ s, l[k] = s := ⟨_, rfl⟩
      have hss : s.size ≤ 281474976710656 := by rw [← hs]; exact hz.out.2 _ (List.getElem_mem _)
      have hkey : keyOf Tryd.prog 9 (.string s) = some (.string s.data.toList) := WideMaps.keyOf_string_mk Tryd.underlying9 (by omega)
      have hkey := hide hkey
      have hval := hide (fun o => Ut.valid_any s (wr.alloc o) (g.out.below (below_al H.out.2.2.1)) (by omega))
      have hsn := hide (Sn_succ l k hkl)
      have hss' := hide hss
      rw [hs] at hcell hsn
      have hs' := hide hs
      clear hs hss
      by_cases hm : s ∈ l.take k
      · have hhas := (has_Sn l k s).2 hm
        have hno : ¬ Nms l := fun q => not_nodup hkl (by rw [hs'.out]; exact hm) q.2
        have hno' := hide hno
        clear hno hm
        go_wp2_with (at_lookup; refine wpList_lookup_own_unit _ rfl _ _ 92 rfl 9 93 keyS Tryd.underlying92 (zeroU _) w.heap.size k _ rfl H.out.2.1 _ _ rfl hkey.out ?_; rw [hhas])
        go_ret
        exact TB.no hno'.out (below_al H.out.2.2.1)
      · have hhas : Maps.has (Sn l k) (.string s.data.toList) = false := by
          cases hq : Maps.has (Sn l k) (.string s.data.toList)
          · rfl
          · exact absurd ((has_Sn l k s).1 hq) hm
        cases hok : okT s
        · have hval := hide (fun o => show Calls Tryd.prog 80 #[.string s] (wr.alloc o) fun r w' => r = .returned (.bool false) ∧ Below (wr.alloc o).heap.size (wr.alloc o) w' from by rw [← hok]; exact hval.out o)
          have hno : ¬ Nms l := fun q => by
            have := q.1 l[k] (List.getElem_mem _)
            rw [hs'.out, hok] at this
            cases this
          have hno' := hide hno
          clear hno hm hok
          go_wp2_with (first | (at_lookup; refine wpList_lookup_own_unit _ rfl _ _ 92 rfl 9 93 keyS Tryd.underlying92 (zeroU _) w.heap.size k _ rfl H.out.2.1 _ _ rfl hkey.out ?_; rw [hhas]) | (go_at_call 80; refine (hval.out _).mono ?_; rintro e w1 ⟨rfl, hb1⟩))
          go_ret
          exact TB.no hno'.out (below_then (below_al H.out.2.2.1) hb1)
        · have hval := hide (fun o => show Calls Tryd.prog 80 #[.string s] (wr.alloc o) fun r w' => r = .returned (.bool true) ∧ Below (wr.alloc o).heap.size (wr.alloc o) w' from by rw [← hok]; exact hval.out o)
          have hm' := hide (nms_more hkl H.out.1 (by rw [hs'.out]; exact hm) (by rw [hs'.out]; exact hok))
          clear hm hok
          have hkm : k < maxLen := by omega
          go_wp2_with (first | (at_lookup; refine wpList_lookup_own_unit _ rfl _ _ 92 rfl 9 93 keyS Tryd.underlying92 (zeroU _) w.heap.size k _ rfl H.out.2.1 _ _ rfl hkey.out ?_; rw [hhas]) | (go_at_call 80; refine (hval.out _).mono ?_; rintro e w1 ⟨rfl, hb1⟩; have hown1 := ownsMap_below (World.ownsMap.alloc H.out.2.1 _) hb1) | (at_mapUpdate; refine wpList_mapUpdate_own _ rfl _ _ _ 92 rfl 9 93 keyS Tryd.underlying92 (unitElem (H := Unit)) w.heap.size k _ rfl hown1 hkm _ _ _ rfl rfl hkey.out _ [] unitElem_mk ?_; intro w2 hown2 hgrow2))
          refine ⟨⟨k + 1, by go_num, by omega, hm'.out, by rw [hsn.out]; exact hown2, ?_, ?_⟩, by simp [intOf]; omega⟩
          · exact (below_then (below_al H.out.2.2.1) hb1).grown hgrow2 (by have h1 := hb1.size; have h3 := H.out.2.2.2; simp at h1; omega) (fun j hj => by cases hj; exact Nat.le_refl _)
          · have h1 := hb1.size
            have h2 := hgrow2.size
            have h3 := H.out.2.2.2
            simp at h1
            omega
    · have hki : ¬ ((k : Int) < (l.length : Int)) := by omega
      have hE := H.out.1
      rw [List.take_of_length_le (by omega)] at hE
      have hE' := hide hE
      clear hE
      go_wp2_with fail
      go_ret
      exact TB.yes hE'.out H.out.2.2.1
end Go.Proofs.YtlfnnecpinmjjaaDoor
