/- types.places, areNames: walked: a map of the call's own. -/
import Derived.Test.YtolmbjeinilhlaaDoorZtHbBig
import Derived.Test.YtolmbjeinilhlaaDoorZtW
namespace Go.Proofs.YtolmbjeinilhlaaDoor
open Go.RowKit Go.Maps
set_option linter.unusedSimpArgs false
set_option linter.unusedVariables false
def ks (s : ByteArray) : Lit := .string s.data.toList
theorem ks_inj {s t : ByteArray} (h : ks s = ks t) : s = t := by
  have : s.data.toList = t.data.toList := by simpa [ks] using h
  exact ByteArray.ext (Array.toList_inj.1 this)
theorem ks_key (s : ByteArray) : WideAt.IsKeyLit (ks s) := trivial
/-- The map of the first k names. -/
def Pl (l : List ByteArray) : Nat → DataW Unit
  | 0 => .map []
  | k + 1 => (Pl l k).put (ks (l[k]?.getD ⟨#[]⟩)) (.lit (.int .i64 k))
theorem Pl_succ (l : List ByteArray) (k : Nat) (h : k < l.length) : Pl l (k + 1) = (Pl l k).put (ks l[k]) (.lit (.int .i64 k)) := by
  simp only [Pl, List.getElem?_eq_getElem h, Option.getD_some]
theorem Pl_tidy (l : List ByteArray) : ∀ k, Tidy (Pl l k)
  | 0 => tidy_empty
  | k + 1 => (Pl_tidy l k).put (ks_key _) _
theorem has_Pl (l : List ByteArray) (s : ByteArray) : ∀ k, k ≤ l.length → (Maps.has (Pl l k) (ks s) = true ↔ s ∈ l.take k)
  | 0, _ => by simp [Pl, Maps.has]
  | k + 1, h => by
    rw [Pl_succ l k (by omega), List.take_succ_eq_append_getElem (by omega), List.mem_append, List.mem_singleton, ← has_Pl l s k (by omega)]
    by_cases e : s = l[k]
    · subst e
      simp [has_put_same (Pl_tidy l k).isMap (ks_key _)]
    · rw [has_put_other (fun q => e (ks_inj q))]
      simp [e]
theorem Pl_size_le (l : List ByteArray) : ∀ k, Maps.size (Pl l k) ≤ k
  | 0 => by simp [Pl, Maps.size]
  | k + 1 => by
    have := Pl_size_le l k
    simp only [Pl]
    rw [size_put (Pl_tidy l k)]
    split <;> omega
theorem Pl_size (l : List ByteArray) : ∀ k, k ≤ l.length → (Maps.size (Pl l k) = k ↔ (l.take k).Nodup)
  | 0, _ => by simp [Pl, Maps.size]
  | k + 1, h => by
    have h1 := Pl_size l k (by omega)
    have h2 := Pl_size_le l k
    rw [Pl_succ l k (by omega), size_put (Pl_tidy l k), List.take_succ_eq_append_getElem (by omega), List.nodup_append]
    by_cases hm : l[k] ∈ l.take k
    · rw [if_pos ((has_Pl l _ k (by omega)).2 hm)]
      constructor
      · intro q; omega
      · rintro ⟨_, _, q⟩; exact absurd rfl (q _ hm _ (List.mem_singleton.2 rfl))
    · rw [if_neg (fun q => hm ((has_Pl l _ k (by omega)).1 q))]
      constructor
      · intro q
        refine ⟨h1.1 (by omega), by simp, fun a ha b hb => ?_⟩
        rw [List.mem_singleton.1 hb]
        intro e
        rw [e] at ha
        exact hm ha
      · rintro ⟨q, _, _⟩
        have := h1.2 q
        omega
/-- Where the name number i stands, if none stands there twice. -/
theorem Pl_at (l : List ByteArray) (hn : l.Nodup) (i : Nat) (hi : i < l.length) (z : DataW Unit) : ∀ k, i < k → k ≤ l.length → (Pl l k).atKey (ks l[i]) z = .lit (.int .i64 i)
  | 0, h, _ => by omega
  | k + 1, h, hk => by
    rw [Pl_succ l k (by omega)]
    by_cases e : i = k
    · subst e
      exact atKey_put_same (Pl_tidy l i).isMap (ks_key _) _ _
    · rw [atKey_put_other (fun q => e ((List.getElem_inj hn).1 (ks_inj q)))]
      exact Pl_at l hn i hi z k (by omega) (by omega)
theorem run_makeMap_hint (w : World) (k : Nat) : (Instr.makeMap 72 (some (.int .i64 k))).run Tryd.prog w = .ok (.map (some w.heap.size)) (w.alloc (.map #[] 0)) := by
  simp [Instr.makeMap, run_underlying Tryd.underlying72, asInt, asIntOf, Result.andThen]
/-- The map of some names, in the block b. -/
def MP (W : World) (b : Nat) (l : List ByteArray) : Prop := W.ownsMap Tryd.prog 9 (plainElem (H := Unit) Tryd.prog 3) b l.length (Pl l l.length)
theorem MP.below {w W : World} {b : Nat} {l : List ByteArray} (h : MP w b l) (hb : Below w.heap.size w W) : MP W b l := ownsMap_below h hb
theorem u3 : Tryd.prog.underlying 3 = some (.int .i64) := Tryd.underlying3
theorem wfk (k : Nat) (h : k ≤ 281474976710656) : (Lit.int .i64 (k : Int)).wf = true := by
  simp [Lit.wf]
  have : IntKind.i64.min = -9223372036854775808 := by decide
  rw [this]
  omega
set_option maxHeartbeats 1000000 in
set_option maxRecDepth 100000 in
theorem places_any (v : Value) (l : List ByteArray) (w : World) (hv : NL w v l) (hz : l.length ≤ 281474976710656 ∧ ∀ s ∈ l, s.size ≤ 281474976710656) :
    Calls Tryd.prog 68 #[v] w fun e w' => e = .returned (.map (some w.heap.size)) ∧ Hid (MP w' w.heap.size l) ∧ Below w.heap.size w w' := by
  have hmm := fun (w : World) => run_makeMap_hint w l.length
  obtain ⟨av, cv, rfl, hv1, hv2⟩ := hv.len
  have hv := hide hv
  have hz := hide hz
  have ml : maxLen = 9223372036854775807 := rfl
  go_enter Tryd.func68, Tryd.ntmps68
  go_wp2_with fail
  go_loopw [11] (fun i wr => ∃ k : Nat, i = .int .i64 k ∧ k ≤ l.length ∧ Hid (wr.ownsMap Tryd.prog 9 (plainElem (H := Unit) Tryd.prog 3) w.heap.size k (Pl l k) ∧ Below w.heap.size w wr)) (fun i _ => l.length - (intOf i).toNat)
  case atStart => exact ⟨0, rfl, Nat.zero_le _, World.ownsMap_made _ _ _ _, below_al (Below.refl _ _)⟩
  case round =>
    obtain ⟨k, rfl, hk, H⟩ := hrel
    by_cases hkl : k < l.length
    · have hki : (k : Int) < (l.length : Int) := by omega
      have hk63 : (k : Int) < 9223372036854775807 := by omega
      obtain ⟨b, o, c, he, hbl, hlc, hcm, hcell⟩ := hv.out.at k hkl
      have he' := Value.slice.inj he
      obtain ⟨rfl, _, rfl⟩ := he'
      clear he
      have hcell := (H.out.2.cell (p := ⟨b, o + k, none⟩) hbl).trans hcell
      obtain ⟨s, hs⟩ : ∃ s, l[k] = s := ⟨_, rfl⟩
      have hss : s.size ≤ 281474976710656 := by rw [← hs]; exact hz.out.2 _ (List.getElem_mem _)
      have hkey : keyOf Tryd.prog 9 (.string s) = some (ks s) := WideMaps.keyOf_string_mk Tryd.underlying9 (by omega)
      have hkey := hide hkey
      have hsn := hide (Pl_succ l k hkl)
      rw [hs] at hcell hsn
      have hkm : k < maxLen := by omega
      have hwf := hide (wfk k (by have := hz.out.1; omega))
      clear hs hss
      go_wp2_with (at_mapUpdate; refine wpList_mapUpdate_own _ rfl _ _ _ 72 rfl 9 3 keyS Tryd.underlying72 (plainElem (H := Unit) Tryd.prog 3) w.heap.size k _ rfl H.out.1 hkm _ _ _ rfl rfl hkey.out _ [] (plainElem_int u3 hwf.out) ?_; intro w2 hown2 hgrow2)
      refine ⟨⟨k + 1, by go_num, by omega, by rw [hsn.out]; exact hown2, ?_⟩, by simp [intOf]; omega⟩
      exact H.out.2.grown hgrow2 H.out.2.size (fun j hj => by cases hj; exact Nat.le_refl _)
    · have hki : ¬ ((k : Int) < (l.length : Int)) := by omega
      have hE := H.out
      have hkk : k = l.length := by omega
      rw [hkk] at hE
      have hE' := hide hE
      clear hE hkk
      go_wp2_with fail
      go_ret
      exact ⟨rfl, hE'.out.1, hE'.out.2⟩
set_option maxHeartbeats 1000000 in
set_option maxRecDepth 100000 in
theorem tareNames_any (v : Value) (l : List ByteArray) (w : World) (hv : NL w v l) (g : Ut.Gu w) (hz : l.length ≤ 281474976710656 ∧ ∀ s ∈ l, s.size ≤ 281474976710656) :
    Calls Tryd.prog 62 #[v] w fun e w' => TB (Nms l) w e w' := by
  obtain ⟨av, cv, rfl, hv1, hv2⟩ := hv.len
  have hv := hide hv
  have g := hide g
  have hz := hide hz
  have ml : maxLen = 9223372036854775807 := rfl
  go_enter Tryd.func62, Tryd.ntmps62
  go_wp2_with fail
  go_loopw [7] (fun i wr => ∃ k : Nat, i = .int .i64 k ∧ k ≤ l.length ∧ Hid ((∀ s ∈ l.take k, okT s = true) ∧ Below w.heap.size w wr)) (fun i _ => l.length - (intOf i).toNat)
  case atStart => exact ⟨0, rfl, Nat.zero_le _, (fun s hs => by simp at hs), Below.refl _ _⟩
  case round =>
    obtain ⟨k, rfl, hk, H⟩ := hrel
    by_cases hkl : k < l.length
    · have hki : (k : Int) < (l.length : Int) := by omega
      have hk63 : (k : Int) < 9223372036854775807 := by omega
      obtain ⟨b, o, c, he, hbl, hlc, hcm, hcell⟩ := hv.out.at k hkl
      have he' := Value.slice.inj he
      obtain ⟨rfl, _, rfl⟩ := he'
      clear he
      have hcell := (H.out.2.cell (p := ⟨b, o + k, none⟩) hbl).trans hcell
      obtain ⟨s, hs⟩ : ∃ s, l[k] = s := ⟨_, rfl⟩
      have hss : s.size ≤ 281474976710656 := by rw [← hs]; exact hz.out.2 _ (List.getElem_mem _)
      have hval := hide (Ut.valid_any s wr (g.out.below H.out.2) (by omega))
      rw [hs] at hcell
      have hs' := hide hs
      clear hs hss
      cases hok : okT s
      · have hval := hide (show Calls Tryd.prog 80 #[.string s] wr fun r w' => r = .returned (.bool false) ∧ Below wr.heap.size wr w' from by rw [← hok]; exact hval.out)
        have hno : ¬ Nms l := fun q => by
          have := q.1 l[k] (List.getElem_mem _)
          rw [hs'.out, hok] at this
          cases this
        have hno' := hide hno
        clear hno hok
        go_wp2_with (go_at_call 80; refine hval.out.mono ?_; rintro e w1 ⟨rfl, hb1⟩)
        go_ret
        exact TB.no hno'.out (below_then H.out.2 hb1)
      · have hval := hide (show Calls Tryd.prog 80 #[.string s] wr fun r w' => r = .returned (.bool true) ∧ Below wr.heap.size wr w' from by rw [← hok]; exact hval.out)
        have hok' := hide hok
        clear hok
        go_wp2_with (go_at_call 80; refine hval.out.mono ?_; rintro e w1 ⟨rfl, hb1⟩)
        refine ⟨⟨k + 1, by go_num, by omega, ?_, below_then H.out.2 hb1⟩, by simp [intOf]; omega⟩
        intro u hu
        rw [List.take_succ_eq_append_getElem hkl] at hu
        rcases List.mem_append.1 hu with q | q
        · exact H.out.1 u q
        · rw [List.mem_singleton.1 q, hs'.out]; exact hok'.out
    · have hki : ¬ ((k : Int) < (l.length : Int)) := by omega
      have hE := H.out.1
      rw [List.take_of_length_le (by omega)] at hE
      have hE' := hide hE
      clear hE
      have hpl := hide (places_any (.slice av l.length cv) l wr (hv.out.below H.out.2) hz.out)
      have hsz := Pl_size l l.length (Nat.le_refl _)
      have hsl := Pl_size_le l l.length
      rw [List.take_of_length_le (Nat.le_refl _)] at hsz
      obtain ⟨Z, hZ⟩ : ∃ Z, Maps.size (Pl l l.length) = Z := ⟨_, rfl⟩
      rw [hZ] at hsz hsl
      have hsz := hide hsz
      have hZ := hide hZ
      have hsl := hide hsl
      by_cases hq : Z = l.length
      · have hqi : (Z : Int) = (l.length : Int) := by omega
        go_wp2_with (first | (go_at_call 68; refine hpl.out.mono ?_; rintro e w1 ⟨rfl, hm1, hb1⟩) | (at_len; refine wpList_len_own _ rfl _ 72 rfl 9 3 Tryd.underlying72 _ wr.heap.size l.length (Pl l l.length) rfl hm1.out ?_; rw [hZ.out]))
        go_ret
        exact TB.yes ⟨hE'.out, hsz.out.1 hq⟩ (below_then H.out.2 hb1)
      · have hqi : ¬ (Z : Int) = (l.length : Int) := by omega
        go_wp2_with (first | (go_at_call 68; refine hpl.out.mono ?_; rintro e w1 ⟨rfl, hm1, hb1⟩) | (at_len; refine wpList_len_own _ rfl _ 72 rfl 9 3 Tryd.underlying72 _ wr.heap.size l.length (Pl l l.length) rfl hm1.out ?_; rw [hZ.out]))
        go_ret
        show TB _ _ (.returned (.bool ((Z : Int) == (l.length : Int)))) _
        rw [beq_eq_false_iff_ne.2 hqi]
        exact TB.no (fun (q : Nms l) => hq (hsz.out.2 q.2)) (below_then H.out.2 hb1)
end Go.Proofs.YtolmbjeinilhlaaDoor
