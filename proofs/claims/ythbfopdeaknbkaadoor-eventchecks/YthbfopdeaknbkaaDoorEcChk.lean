/- event's Checker: New, Done, Open, inner, takeValue, takeEnd: walked. -/
import Derived.Test.YthbfopdeaknbkaaDoorEbChk
import Derived.BigQuiet
import Derived.Deep.RegionWith
namespace Go.Proofs.YthbfopdeaknbkaaDoor
open Go.RowKit
set_option linter.unusedSimpArgs false
set_option linter.unusedVariables false
theorem cnew_any (w : World) : Calls Tryd.prog 19 #[] w fun r w' => r = .returned (.pointer (some ⟨w.heap.size, 0, none⟩)) ∧ KB w' w.heap.size (.slice none 0 0) false false ∧ Below w.heap.size w w' := by
  go_enter Tryd.func19, Tryd.ntmps19
  go_wp2
  go_ret
  exact ⟨rfl, heap_alloc_new _ _, below_al (Below.refl _ _)⟩
theorem cfeed_nil (h : Hd) (w : World) : Calls Tryd.prog 23 #[.pointer none, .agg (evs h)] w fun r w' => r = .returned (.int .i64 3) ∧ Below w.heap.size w w' := by
  unfold evs
  go_enter Tryd.func23, Tryd.ntmps23
  go_wp2
  go_ret
  exact ⟨rfl, by repeat (first | exact Below.refl _ _ | refine below_al ?_)⟩
theorem cdone_nil (w : World) : Calls Tryd.prog 20 #[.pointer none] w fun r w' => r = .returned (.bool false) ∧ w' = w := by
  go_enter Tryd.func20, Tryd.ntmps20
  go_wp2
  go_ret
  exact ⟨rfl, rfl⟩
theorem copen_nil (w : World) : Calls Tryd.prog 21 #[.pointer none] w fun r w' => r = .returned (.int .i64 0) ∧ w' = w := by
  go_enter Tryd.func21, Tryd.ntmps21
  go_wp2
  go_ret
  exact ⟨rfl, rfl⟩
section
variable {W : World} {i B : Nat} {v : Value} {ps : List Pt} {begun broken : Bool}
theorem Ck.shape (c : Ck W i B v ps begun broken) : ∃ a cp, v = .slice a ps.length cp := by
  rcases c.row.2 with ⟨rfl, e⟩ | ⟨g, cap, cur, rfl, _⟩
  · exact ⟨none, 0, by rw [e]⟩
  · exact ⟨_, _, rfl⟩
theorem copen_any (c : Ck W i B v ps begun broken) : Calls Tryd.prog 21 #[.pointer (some ⟨i, 0, none⟩)] W fun r w' => r = .returned (.int .i64 ps.length) ∧ w' = W := by
  obtain ⟨a, cp, rfl⟩ := c.shape
  obtain ⟨c0, c1, c2, f0, f1, f2⟩ := c.kb.cells
  clear c
  go_enter Tryd.func21, Tryd.ntmps21
  go_wp2
  go_ret
  exact ⟨rfl, rfl⟩
theorem cdone_any (c : Ck W i B v ps begun broken) : Calls Tryd.prog 20 #[.pointer (some ⟨i, 0, none⟩)] W fun r w' => r = .returned (.bool (begun && decide (ps = []))) ∧ ∃ m, w' = W.drewN m := by
  obtain ⟨a, cp, rfl⟩ := c.shape
  obtain ⟨c0, c1, c2, f0, f1, f2⟩ := c.kb.cells
  have hn : Hid (decide (ps = []) = ((ps.length : Int) == 0)) := by
    show _ = _
    cases ps <;> simp <;> omega
  clear c
  cases begun
  · go_enter Tryd.func20, Tryd.ntmps20
    go_wp2
    go_ret
    exact ⟨rfl, 0, rfl⟩
  · go_enter Tryd.func20, Tryd.ntmps20
    go_wp2
    go_ret
    exact ⟨by rw [hn.out]; rfl, 0, rfl⟩
/-- The part that has begun last. -/
theorem inner_none (c : Ck W i B v [] begun broken) : Calls Tryd.prog 61 #[.pointer (some ⟨i, 0, none⟩)] W fun r w' => r = .returned (.pointer none) ∧ w' = W := by
  obtain ⟨a, cp, rfl⟩ := c.shape
  obtain ⟨c0, c1, c2, f0, f1, f2⟩ := c.kb.cells
  clear c
  go_enter Tryd.func61, Tryd.ntmps61
  go_wp2
  go_ret
  exact ⟨rfl, rfl⟩
theorem inner_some (g cp n : Nat) (c0 : W.cell? ⟨i, 0, none⟩ = some (.slice (some ⟨g, 0, none⟩) (n + 1) cp)) (h1 : n + 1 ≤ cp) (h2 : cp ≤ maxLen) : Calls Tryd.prog 61 #[.pointer (some ⟨i, 0, none⟩)] W fun r w' => r = .returned (.pointer (some ⟨g, n * 3, none⟩)) ∧ ∃ m, w' = W.drewN m := by
  have ml : maxLen = 9223372036854775807 := rfl
  have hw : IntKind.i64.wrap ((n : Int) + 1 - 1) = (n : Int) := by rw [IntKind.wrap_i64] <;> omega
  have hw2 : IntKind.i64.wrap ((n : Int)) = (n : Int) := by rw [IntKind.wrap_i64] <;> omega
  go_enter Tryd.func61, Tryd.ntmps61
  go_wp2
  go_quiet (fail)
  go_wp2
  go_ret
  exact ⟨by first | rfl | (simp; done) | trace_state, _, rfl⟩
/-- What the last part's cells are. -/
theorem Ck.last {qs : List Pt} {p : Pt} (c : Ck W i B v (qs ++ [p]) begun broken) : ∃ g cp, v = .slice (some ⟨g, 0, none⟩) (qs.length + 1) cp ∧ qs.length + 1 ≤ cp ∧ cp ≤ maxLen ∧ B ≤ g ∧ W.cell? ⟨g, qs.length * 3, none⟩ = some (.int .i64 p.kind) ∧ W.cell? ⟨g, qs.length * 3 + 1, none⟩ = some (.bool p.waits) ∧ W.cell? ⟨g, qs.length * 3 + 2, none⟩ = some (.map p.mb) ∧ ∀ j, W.frozen? ⟨g, j, none⟩ = false := by
  have hr := c.row
  rw [List.length_append, List.length_singleton] at hr
  rcases hr.2 with ⟨_, e⟩ | ⟨g, cap, cur, rfl, h1, h2, h3, h4, h5, h6⟩
  · omega
  · refine ⟨g, cap, rfl, h3, h4, h1, ?_, ?_, ?_, fun j => World.ownsRow.frozenAt hr j⟩
    · rw [World.ownsRow.cellAt hr _ (by omega)]; exact pxs_at qs p 0
    · rw [World.ownsRow.cellAt hr _ (by omega)]; exact pxs_at qs p 1
    · rw [World.ownsRow.cellAt hr _ (by omega)]; exact pxs_at qs p 2
/-- The last part's waits is set. -/
theorem Ck.wait {qs : List Pt} {p : Pt} {g cp : Nat} (c : Ck W i B (.slice (some ⟨g, 0, none⟩) (qs.length + 1) cp) (qs ++ [p]) begun broken) (b : Bool) : Ck (W.setCell ⟨g, qs.length * 3 + 1, none⟩ (.bool b)) i B (.slice (some ⟨g, 0, none⟩) (qs.length + 1) cp) (qs ++ [{ p with waits := b }]) begun broken := by
  have hr := c.row
  rw [List.length_append, List.length_singleton] at hr
  have hg := (World.ownsRow.lt hr g rfl)
  have hs := (World.ownsRow.stored hr (qs.length * 3 + 1) (.bool b)).1
  rw [pxs_set] at hs
  have hne : ∀ k, k ≠ g → (W.setCell ⟨g, qs.length * 3 + 1, none⟩ (.bool b)).heap[k]? = W.heap[k]? := fun k hk => Below.heap_setCell _ _ _ _ hk
  refine ⟨c.kb.same (hne i (by have := c.iB; omega)), ?_, ?_, ?_, c.iB, by simpa using c.hB, by have := c.len; simpa using this⟩
  · rw [List.length_append, List.length_singleton, pxs_app, pxs_one]
    exact hs
  · intro q hq
    rcases List.mem_append.1 hq with h | h
    · exact (c.ok q (List.mem_append.2 (Or.inl h))).of fun b' e => hne b' (fun e2 => (c.ok q (List.mem_append.2 (Or.inl h))).ne b' e c.row (by rw [e2]; rfl))
    · have hq2 : q = { p with waits := b } := by simpa using h
      subst hq2
      have hp := c.ok p (by simp)
      have hp2 : PtOk (W.setCell ⟨g, qs.length * 3 + 1, none⟩ (.bool b)) B p := hp.of fun b' e => hne b' (fun e2 => hp.ne b' e c.row (by rw [e2]; rfl))
      exact hp2
  · have := c.dis
    rw [List.filterMap_append] at this ⊢
    exact this
set_option maxHeartbeats 2000000 in
theorem takeValue_some {qs : List Pt} {p : Pt} (c : Ck W i B v (qs ++ [p]) begun broken) : Calls Tryd.prog 51 #[.pointer (some ⟨i, 0, none⟩)] W fun r w' => r = .returned (.bool (p.waits || decide (p.kind = 7))) ∧ Ck w' i B v (qs ++ [{ p with waits := false }]) begun broken ∧ Below i W w' ∧ ∀ k, k ≠ i → v.ownBlock ≠ some k → w'.heap[k]? = W.heap[k]? := by
  have ml : maxLen = 9223372036854775807 := rfl
  obtain ⟨g, cp, rfl, h1, h2, h3, k0, k1, k2, kf⟩ := c.last
  have inn := hide (inner_some (W := W) (i := i) g cp qs.length c.kb.cells.1 h1 h2)
  have C := hide (fun d => (c.then (W1 := W.drewN d) ⟨rfl, rfl, rfl, Nat.le_refl _, fun _ _ => rfl⟩).wait false)
  have hz := c.iB
  have hlt := c.kb.lt
  have hkd : Hid (decide (p.kind = 7) = (p.kind == 7)) := by show _ = _; rw [Bool.eq_iff_iff]; simp
  clear c
  have hb : Hid (∀ d, Below i W ((W.drewN d).setCell ⟨g, qs.length * 3 + 1, none⟩ (.bool false))) := fun d => (show Below i W (W.drewN d) from ⟨rfl, rfl, rfl, Nat.le_refl _, fun _ _ => rfl⟩).setCell (by show i ≤ g; omega) _
  have hfr : Hid (∀ d k, k ≠ i → (Value.slice (some ⟨g, 0, none⟩) (qs.length + 1) cp).ownBlock ≠ some k → ((W.drewN d).setCell ⟨g, qs.length * 3 + 1, none⟩ (.bool false)).heap[k]? = W.heap[k]?) := fun d k _ hk => Below.heap_setCell _ _ _ _ (fun e => hk (by rw [show k = g from e]; rfl))
  cases hw : p.waits
  · go_enter Tryd.func51, Tryd.ntmps51
    go_wp2_with (go_at_call 61; refine inn.out.mono ?_; rintro e w1 ⟨rfl, m1, rfl⟩)
    go_ret
    exact ⟨by rw [hkd.out]; rfl, C.out _, hb.out _, hfr.out _⟩
  · go_enter Tryd.func51, Tryd.ntmps51
    go_wp2_with (go_at_call 61; refine inn.out.mono ?_; rintro e w1 ⟨rfl, m1, rfl⟩)
    go_ret
    exact ⟨rfl, C.out _, hb.out _, hfr.out _⟩
theorem takeValue_none (c : Ck W i B v [] begun broken) : Calls Tryd.prog 51 #[.pointer (some ⟨i, 0, none⟩)] W fun r w' => r = .returned (.bool (!begun)) ∧ Ck w' i B v [] true broken ∧ Below i W w' ∧ ∀ k, k ≠ i → w'.heap[k]? = W.heap[k]? := by
  have inn := hide (inner_none c)
  obtain ⟨c0, c1, c2, f0, f1, f2⟩ := c.kb.cells
  have C : Hid (Ck (W.setCell ⟨i, 1, none⟩ (.bool true)) i B v [] true broken) := { c with kb := c.kb.set1 true, row := own_of c.row fun k hk _ => Below.heap_setCell _ _ _ _ (by have := (World.ownsRow.lt c.row k hk).1; have := c.iB; show k ≠ i; omega), ok := fun p hp => by simp at hp, hB := by simpa using c.hB }
  clear c
  go_enter Tryd.func51, Tryd.ntmps51
  go_wp2_with (go_at_call 61; refine inn.out.mono ?_; rintro e w1 ⟨rfl, hw1⟩; have hw1s := hw1.symm; clear hw1; subst hw1s)
  go_ret
  exact ⟨rfl, C.out, (Below.refl i W).setCell (Nat.le_refl _) _, fun k hk => Below.heap_setCell _ _ _ _ hk⟩
theorem takeEnd_none (c : Ck W i B v [] begun broken) : Calls Tryd.prog 50 #[.pointer (some ⟨i, 0, none⟩)] W fun r w' => r = .returned (.bool false) ∧ w' = W := by
  have inn := hide (inner_none c)
  clear c
  go_enter Tryd.func50, Tryd.ntmps50
  go_wp2_with (go_at_call 61; refine inn.out.mono ?_; rintro e w1 ⟨rfl, hw1⟩; have hw1s := hw1.symm; clear hw1; subst hw1s)
  go_ret
  exact ⟨rfl, rfl⟩
theorem takeEnd_wait {qs : List Pt} {p : Pt} (c : Ck W i B v (qs ++ [p]) begun broken) (hp : p.waits = true) : Calls Tryd.prog 50 #[.pointer (some ⟨i, 0, none⟩)] W fun r w' => r = .returned (.bool false) ∧ ∃ m, w' = W.drewN m := by
  have ml : maxLen = 9223372036854775807 := rfl
  obtain ⟨g, cp, rfl, h1, h2, h3, k0, k1, k2, kf⟩ := c.last
  have inn := hide (inner_some (W := W) (i := i) g cp qs.length c.kb.cells.1 h1 h2)
  rw [hp] at k1
  clear c
  go_enter Tryd.func50, Tryd.ntmps50
  go_wp2_with (go_at_call 61; refine inn.out.mono ?_; rintro e w1 ⟨rfl, m1, rfl⟩)
  go_ret
  exact ⟨rfl, _, rfl⟩
theorem row_less {g cp n : Nat} {xs : List Value} {T : TypeId} (h : W.ownsRow B T 3 (.slice (some ⟨g, 0, none⟩) (n + 1) cp) (n + 1) xs) : W.ownsRow B T 3 (.slice (some ⟨g, 0, none⟩) n cp) n (xs.take (n * 3)) := by
  obtain ⟨h0, h⟩ := h
  refine ⟨by rw [List.length_take]; omega, ?_⟩
  rcases h with ⟨e, _⟩ | ⟨g', cap, cur, e, h1, h2, h3, h4, h5, h6⟩
  · cases e
  · simp only [Value.slice.injEq, Option.some.injEq, Addr.mk.injEq] at e
    obtain ⟨⟨rfl, _, _⟩, _, rfl⟩ := e
    refine Or.inr ⟨g, cp, cur, rfl, h1, h2, by omega, h4, h5, ?_⟩
    rw [← h6, List.take_take]
    congr 1; omega
theorem Ck.less {qs : List Pt} {p : Pt} {g cp : Nat} (c : Ck W i B (.slice (some ⟨g, 0, none⟩) (qs.length + 1) cp) (qs ++ [p]) begun broken) :
    Ck ((((W.setCell ⟨g, qs.length * 3, none⟩ (.int .i64 0)).setCell ⟨g, qs.length * 3 + 1, none⟩ (.bool false)).setCell ⟨g, qs.length * 3 + 2, none⟩ (.map none)).setCell ⟨i, 0, none⟩ (.slice (some ⟨g, 0, none⟩) qs.length cp)) i B (.slice (some ⟨g, 0, none⟩) qs.length cp) qs begun broken := by
  have hr := c.row
  rw [List.length_append, List.length_singleton] at hr
  have hg := (World.ownsRow.lt hr g rfl)
  have hiB := c.iB
  have s1 := (World.ownsRow.stored hr (qs.length * 3 + 0) (.int .i64 0)).1
  rw [pxs_set, show pxs qs ++ (pcs p).set 0 (.int .i64 0) = pxs (qs ++ [{ p with kind := 0 }]) by rw [pxs_app, pxs_one]; rfl] at s1
  have s2 := (World.ownsRow.stored s1 (qs.length * 3 + 1) (.bool false)).1
  rw [pxs_set, show pxs qs ++ (pcs { p with kind := 0 }).set 1 (.bool false) = pxs (qs ++ [{ p with kind := 0, waits := false }]) by rw [pxs_app, pxs_one]; rfl] at s2
  have s3 := (World.ownsRow.stored s2 (qs.length * 3 + 2) (.map none)).1
  rw [pxs_set] at s3
  have s4 := row_less s3
  rw [List.take_append_of_le_length (by rw [pxs_length]; exact Nat.le_refl _), List.take_of_length_le (by rw [pxs_length]; exact Nat.le_refl _)] at s4
  have hne : ∀ k, k ≠ g → k ≠ i → ((((W.setCell ⟨g, qs.length * 3, none⟩ (.int .i64 0)).setCell ⟨g, qs.length * 3 + 1, none⟩ (.bool false)).setCell ⟨g, qs.length * 3 + 2, none⟩ (.map none)).setCell ⟨i, 0, none⟩ (.slice (some ⟨g, 0, none⟩) qs.length cp)).heap[k]? = W.heap[k]? := fun k h1 h2 => by
    rw [Below.heap_setCell _ _ _ _ (show k ≠ i from h2), Below.heap_setCell _ _ _ _ (show k ≠ g from h1), Below.heap_setCell _ _ _ _ (show k ≠ g from h1), Below.heap_setCell _ _ _ _ (show k ≠ g from h1)]
  have kb : KB (((W.setCell ⟨g, qs.length * 3, none⟩ (.int .i64 0)).setCell ⟨g, qs.length * 3 + 1, none⟩ (.bool false)).setCell ⟨g, qs.length * 3 + 2, none⟩ (.map none)) i (.slice (some ⟨g, 0, none⟩) (qs.length + 1) cp) begun broken := c.kb.same (by rw [Below.heap_setCell _ _ _ _ (show i ≠ g by omega), Below.heap_setCell _ _ _ _ (show i ≠ g by omega), Below.heap_setCell _ _ _ _ (show i ≠ g by omega)])
  refine ⟨kb.set0 _, own_of s4 fun k hk _ => Below.heap_setCell _ _ _ _ (by cases hk; show g ≠ i; omega), ?_, ?_, hiB, by simpa using c.hB, by have := c.len; simp at this; omega⟩
  · intro q hq
    have hq2 := c.ok q (List.mem_append.2 (Or.inl hq))
    exact hq2.of fun b' e => hne b' (fun e2 => hq2.ne b' e c.row (by rw [e2]; rfl)) (by have := (hq2.blt b' e).1; omega)
  · have := c.dis
    rw [List.filterMap_append] at this
    exact (List.nodup_append.1 this).1
set_option maxHeartbeats 2000000 in
theorem takeEnd_some {qs : List Pt} {p : Pt} (c : Ck W i B v (qs ++ [p]) begun broken) (hp : p.waits = false) : Calls Tryd.prog 50 #[.pointer (some ⟨i, 0, none⟩)] W fun r w' => r = .returned (.bool true) ∧ ∃ v', Ck w' i B v' qs begun broken ∧ Below i W w' := by
  have ml : maxLen = 9223372036854775807 := rfl
  obtain ⟨g, cp, rfl, h1, h2, h3, k0, k1, k2, kf⟩ := c.last
  have inn := hide (inner_some (W := W) (i := i) g cp qs.length c.kb.cells.1 h1 h2)
  rw [hp] at k1
  obtain ⟨c0, c1, c2, f0, f1, f2⟩ := c.kb.cells
  have C := hide c
  have hz := c.iB
  have hw : IntKind.i64.wrap ((qs.length : Int) + 1 - 1) = (qs.length : Int) := by rw [IntKind.wrap_i64] <;> omega
  clear c
  go_enter Tryd.func50, Tryd.ntmps50
  go_wp2_with (go_at_call 61; refine inn.out.mono ?_; rintro e w1 ⟨rfl, m1, rfl⟩)
  have hgi : g ≠ i := by omega
  have hgi2 : i ≠ g := by omega
  have hw2 : IntKind.i64.wrap (qs.length : Int) = (qs.length : Int) := by rw [IntKind.wrap_i64] <;> omega
  have hle : qs.length ≤ cp := by omega
  go_region_with (fail)
  all_goals
    go_wp2
    go_ret
    refine ⟨rfl, _, (C.out.then (W1 := W.drewN m1) ⟨rfl, rfl, rfl, Nat.le_refl _, fun _ _ => rfl⟩).less.then (Below.refl _ _).drew, ?_⟩
    refine Below.drew ?_
    refine Below.setCell ?_ (by show i ≤ i; exact Nat.le_refl _) _
    iterate 3 refine Below.setCell ?_ (by show i ≤ g; omega) _
    exact ⟨rfl, rfl, rfl, Nat.le_refl _, fun _ _ => rfl⟩
end
end Go.Proofs.YthbfopdeaknbkaaDoor
