/- event's Checker: takeName: walked. -/
import Derived.Test.YthbfopdeaknbkaaDoorEcChk
namespace Go.Proofs.YthbfopdeaknbkaaDoor
open Go.RowKit
set_option linter.unusedSimpArgs false
set_option linter.unusedVariables false
theorem Sm_app (l : List ByteArray) (s : ByteArray) : Sm (l ++ [s]) = (Sm l).put (.string s.data.toList) (.agg []) := by
  unfold Sm
  rw [List.length_append, List.length_singleton, Sn_succ _ _ (by simp)]
  congr 1
  · unfold Sn
    rw [List.take_append_of_le_length (Nat.le_refl _)]
  · simp
theorem has_Sm (l : List ByteArray) (s : ByteArray) : Maps.has (Sm l) (.string s.data.toList) = true ↔ s ∈ l := by
  unfold Sm
  rw [has_Sn, List.take_length]
section
variable {W : World} {i B : Nat} {v : Value} {ps : List Pt} {begun broken : Bool}
theorem takeName_none (s : ByteArray) (c : Ck W i B v [] begun broken) : Calls Tryd.prog 49 #[.pointer (some ⟨i, 0, none⟩), .string s] W fun r w' => r = .returned (.bool false) ∧ ∃ m, w' = W.drewN m := by
  have inn := hide (inner_none c)
  clear c
  go_enter Tryd.func49, Tryd.ntmps49
  go_wp2_with (go_at_call 61; refine inn.out.mono ?_; rintro e w1 ⟨rfl, hw1⟩; have hw1s := hw1.symm; clear hw1; subst hw1s)
  go_ret
  exact ⟨rfl, 0, rfl⟩
set_option maxHeartbeats 2000000 in
theorem takeName_no (s : ByteArray) {qs : List Pt} {p : Pt} (c : Ck W i B v (qs ++ [p]) begun broken) (hp : p.kind ≠ 8 ∨ p.waits = true) : Calls Tryd.prog 49 #[.pointer (some ⟨i, 0, none⟩), .string s] W fun r w' => r = .returned (.bool false) ∧ ∃ m, w' = W.drewN m := by
  have ml : maxLen = 9223372036854775807 := rfl
  obtain ⟨g, cp, rfl, h1, h2, h3, k0, k1, k2, kf⟩ := c.last
  have inn := hide (inner_some (W := W) (i := i) g cp qs.length c.kb.cells.1 h1 h2)
  clear c
  by_cases h8 : p.kind = 8
  · have hw : p.waits = true := by rcases hp with h | h; exact absurd h8 h; exact h
    rw [hw] at k1
    rw [h8] at k0
    go_enter Tryd.func49, Tryd.ntmps49
    go_wp2_with (go_at_call 61; refine inn.out.mono ?_; rintro e w1 ⟨rfl, m1, rfl⟩)
    go_ret
    exact ⟨rfl, _, rfl⟩
  · obtain ⟨kd, hkd⟩ : ∃ kd, p.kind = kd := ⟨_, rfl⟩
    rw [hkd] at k0 h8
    clear hp hkd
    go_enter Tryd.func49, Tryd.ntmps49
    go_wp2_with (go_at_call 61; refine inn.out.mono ?_; rintro e w1 ⟨rfl, m1, rfl⟩)
    go_ret
    exact ⟨rfl, _, rfl⟩
set_option maxHeartbeats 2000000 in
theorem takeName_twice (s : ByteArray) {qs : List Pt} {p : Pt} (c : Ck W i B v (qs ++ [p]) begun broken) (h8 : p.kind = 8) (hw : p.waits = false) (hm : s ∈ p.names) (hs : s.size ≤ 281474976710656) : Calls Tryd.prog 49 #[.pointer (some ⟨i, 0, none⟩), .string s] W fun r w' => r = .returned (.bool false) ∧ Below W.heap.size W w' := by
  have ml : maxLen = 9223372036854775807 := rfl
  obtain ⟨g, cp, rfl, h1, h2, h3, k0, k1, k2, kf⟩ := c.last
  have inn := hide (inner_some (W := W) (i := i) g cp qs.length c.kb.cells.1 h1 h2)
  rw [hw] at k1
  rw [h8] at k0
  obtain ⟨b, hb, hbB, hown⟩ : ∃ b, p.mb = some b ∧ B ≤ b ∧ W.ownsMap Tryd.prog 9 (unitElem (H := Unit)) b p.names.length (Sm p.names) := by
    rcases c.ok p (by simp) with ⟨_, h⟩ | ⟨h, _⟩
    · exact h
    · exact absurd h8 h
  rw [hb] at k2
  have hhas : Maps.has (Sm p.names) (.string s.data.toList) = true := (has_Sm _ _).2 hm
  have hkey := hide (show keyOf Tryd.prog 9 (.string s) = some (.string s.data.toList) from WideMaps.keyOf_string_mk Tryd.underlying9 (by omega))
  have hown' : Hid (∀ d, (W.drewN d).ownsMap Tryd.prog 9 (unitElem (H := Unit)) b p.names.length (Sm p.names)) := fun d => hown
  clear c hm hown
  go_enter Tryd.func49, Tryd.ntmps49
  go_wp2_with (first | (go_at_call 61; refine inn.out.mono ?_; rintro e w1 ⟨rfl, m1, rfl⟩) | (at_lookup; refine wpList_lookup_own_unit _ rfl _ _ 74 rfl 9 80 keyS Tryd.underlying74 (zeroU _) b p.names.length _ rfl (hown'.out _) _ _ rfl hkey.out ?_; rw [hhas]))
  go_ret
  exact ⟨rfl, by repeat (first | exact ⟨rfl, rfl, rfl, Nat.le_refl _, fun _ _ => rfl⟩ | refine below_al ?_)⟩
theorem Ck.name {qs : List Pt} {p : Pt} {g cp b : Nat} {s : ByteArray} {W1 : World} (c : Ck W i B (.slice (some ⟨g, 0, none⟩) (qs.length + 1) cp) (qs ++ [p]) begun broken) (h8 : p.kind = 8) (hb : p.mb = some b)
    (hg : W.grownBy W1 (some b)) (ho : W1.ownsMap Tryd.prog 9 (unitElem (H := Unit)) b (p.names.length + 1) ((Sm p.names).put (.string s.data.toList) (.agg []))) : Ck W1 i B (.slice (some ⟨g, 0, none⟩) (qs.length + 1) cp) (qs ++ [{ p with names := p.names ++ [s] }]) begun broken := by
  have hp := c.ok p (by simp)
  have hbb := hp.blt b hb
  have hgb : g ≠ b := fun e => hp.ne b hb c.row (by rw [← e]; rfl)
  have hr := c.row
  have hgl := (World.ownsRow.lt hr g rfl).2
  have hiB := c.iB
  have hkl := c.kb.lt
  refine ⟨c.kb.same (hg.block i hkl (by simp; omega)), ?_, ?_, ?_, c.iB, Nat.le_trans c.hB hg.size, by have := c.len; simpa using this⟩
  · have h2 := own_of (W1 := W1) hr fun k hk hlt => hg.block k hlt (by cases hk; simpa using hgb)
    rw [pxs_app, pxs_one, List.length_append, List.length_singleton] at h2 ⊢
    exact h2
  · intro q hq
    rcases List.mem_append.1 hq with h | h
    · have hq2 := c.ok q (List.mem_append.2 (Or.inl h))
      refine hq2.of fun b' e => hg.block b' (hq2.blt b' e).2 ?_
      intro e2
      cases e2
      have hd := c.dis
      rw [List.filterMap_append] at hd
      refine (List.nodup_append.1 hd).2.2 b (List.mem_filterMap.2 ⟨q, h, e⟩) b (List.mem_filterMap.2 ⟨p, by simp, hb⟩) rfl
    · have hq2 : q = { p with names := p.names ++ [s] } := by simpa using h
      subst hq2
      refine Or.inl ⟨h8, b, hb, hbb.1, ?_⟩
      show W1.ownsMap _ _ _ _ (p.names ++ [s]).length (Sm (p.names ++ [s]))
      rw [Sm_app, List.length_append, List.length_singleton]
      exact ho
  · have := c.dis
    rw [List.filterMap_append] at this ⊢
    exact this
set_option maxHeartbeats 2000000 in
set_option maxRecDepth 100000 in
theorem takeName_some (s : ByteArray) {qs : List Pt} {p : Pt} (c : Ck W i B v (qs ++ [p]) begun broken) (h8 : p.kind = 8) (hw : p.waits = false) (hm : ¬ s ∈ p.names) (hs : s.size ≤ 281474976710656) (hn : p.names.length ≤ 100000) : Calls Tryd.prog 49 #[.pointer (some ⟨i, 0, none⟩), .string s] W fun r w' => r = .returned (.bool true) ∧ Ck w' i B v (qs ++ [{ p with waits := true, names := p.names ++ [s] }]) begun broken ∧ Below i W w' := by
  have ml : maxLen = 9223372036854775807 := rfl
  obtain ⟨g, cp, rfl, h1, h2, h3, k0, k1, k2, kf⟩ := c.last
  have inn := hide (inner_some (W := W) (i := i) g cp qs.length c.kb.cells.1 h1 h2)
  rw [hw] at k1
  rw [h8] at k0
  obtain ⟨b, hb, hbB, hown⟩ : ∃ b, p.mb = some b ∧ B ≤ b ∧ W.ownsMap Tryd.prog 9 (unitElem (H := Unit)) b p.names.length (Sm p.names) := by
    rcases c.ok p (by simp) with ⟨_, h⟩ | ⟨h, _⟩
    · exact h
    · exact absurd h8 h
  rw [hb] at k2
  have hhas : Maps.has (Sm p.names) (.string s.data.toList) = false := by
    rw [Bool.eq_false_iff]
    exact fun h => hm ((has_Sm _ _).1 h)
  have hkey := hide (show keyOf Tryd.prog 9 (.string s) = some (.string s.data.toList) from WideMaps.keyOf_string_mk Tryd.underlying9 (by omega))
  have hown' : Hid (∀ d, (W.drewN d).ownsMap Tryd.prog 9 (unitElem (H := Unit)) b p.names.length (Sm p.names)) := fun d => hown
  have hd0 : Hid (∀ d o, Below W.heap.size W ((W.drewN d).alloc o)) := fun d o => below_al ⟨rfl, rfl, rfl, Nat.le_refl _, fun _ _ => rfl⟩
  have hownA : Hid (∀ d o, ((W.drewN d).alloc o).ownsMap Tryd.prog 9 (unitElem (H := Unit)) b p.names.length (Sm p.names)) := fun d o => ownsMap_below hown (hd0.out d o)
  have C : Hid (∀ d o, Ck ((W.drewN d).alloc o) i B (.slice (some ⟨g, 0, none⟩) (qs.length + 1) cp) (qs ++ [p]) begun broken) := fun d o => c.then (hd0.out d o)
  have hiB := c.iB
  have hb' := hide hb
  have h8' := hide h8
  have hgb : Hid (g ≠ b) := fun e => (c.ok p (by simp)).ne b hb c.row (by rw [← e]; rfl)
  have hgl : Hid (g < W.heap.size) := (World.ownsRow.lt c.row g rfl).2
  have hkm : p.names.length < maxLen := by omega
  have k2A : ∀ d o, ((W.drewN d).alloc o).cell? ⟨g, qs.length * 3 + 2, none⟩ = some (.map (some b)) := fun d o => ((hd0.out d o).cell (p := ⟨g, qs.length * 3 + 2, none⟩) hgl.out).trans k2
  clear c hm hown hb h8
  go_enter Tryd.func49, Tryd.ntmps49
  go_wp2_with (first
    | (go_at_call 61; refine inn.out.mono ?_; rintro e w1 ⟨rfl, m1, rfl⟩)
    | (at_lookup; refine wpList_lookup_own_unit _ rfl _ _ 74 rfl 9 80 keyS Tryd.underlying74 (zeroU _) b p.names.length _ rfl (hown'.out _) _ _ rfl hkey.out ?_; rw [hhas])
    | (at_mapUpdate; refine wpList_mapUpdate_own _ rfl _ _ _ 74 rfl 9 80 keyS Tryd.underlying74 (unitElem (H := Unit)) b p.names.length _ rfl (hownA.out _ _) hkm _ _ _ rfl rfl hkey.out _ [] unitElem_mk ?_; intro w2 hown2 hgrow2; have C2 := hide ((C.out _ _).name h8'.out hb'.out hgrow2 hown2); have j1 : w2.cell? ⟨g, qs.length * 3 + 1, none⟩ = some (.bool false) := ((World.cell?_of_block (a := ⟨g, qs.length * 3 + 1, none⟩) ((hgrow2.block g (Nat.lt_of_lt_of_le hgl.out (hd0.out _ _).size) (by simpa using hgb.out)).trans ((hd0.out _ _).block g hgl.out))).trans k1); have j2 : w2.frozen? ⟨g, qs.length * 3 + 1, none⟩ = false := ((World.frozen?_of_block (a := ⟨g, qs.length * 3 + 1, none⟩) ((hgrow2.block g (Nat.lt_of_lt_of_le hgl.out (hd0.out _ _).size) (by simpa using hgb.out)).trans ((hd0.out _ _).block g hgl.out))).trans (kf _)); have G2 := hide hgrow2; clear hown2 hgrow2))
  go_ret
  refine ⟨rfl, C2.out.wait true, ?_⟩
  refine Below.setCell ?_ (by show i ≤ g; omega) _
  exact ((hd0.out _ _).mono (by have := hgl.out; omega)).grown G2.out (by have := hgl.out; have := (hd0.out m1 (.cells #[] 80)).size; first | omega | (simp; omega)) (fun j hj => by cases hj; omega)
end
end Go.Proofs.YthbfopdeaknbkaaDoor
