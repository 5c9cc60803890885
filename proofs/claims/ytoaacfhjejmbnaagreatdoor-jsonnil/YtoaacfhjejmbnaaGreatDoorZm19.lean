/- Merged by program: EcChk, EdChk. -/
import Derived.Test.YtoaacfhjejmbnaaGreatDoorZm18
import Derived.BigQuiet
import Derived.Deep.RegionWith
/- event's Checker: New, Done, Open, inner, takeValue, takeEnd: walked. -/
namespace Go.Proofs.YtoaacfhjejmbnaaGreatDoor
open Go.RowKit
set_option linter.unusedSimpArgs false
set_option linter.unusedVariables false
theorem cnew_any (w : World) : Calls Tryz.prog 39 #[] w fun r w' => r = .returned (.pointer (some ⟨w.heap.size, 0, none⟩)) ∧ KB w' w.heap.size (.slice none 0 0) false false ∧ Below w.heap.size w w' := by
  go_enter Tryz.func39, Tryz.ntmps39
  go_wp2
  go_ret
  exact ⟨rfl, heap_alloc_new _ _, below_al (Below.refl _ _)⟩
section
variable {W : World} {i B : Nat} {v : Value} {ps : List Pt} {begun broken : Bool}
theorem Ck.shape (c : Ck W i B v ps begun broken) : ∃ a cp, v = .slice a ps.length cp := by
  rcases c.row.2 with ⟨rfl, e⟩ | ⟨g, cap, cur, rfl, _⟩
  · exact ⟨none, 0, by rw [e]⟩
  · exact ⟨_, _, rfl⟩
theorem cdone_any (c : Ck W i B v ps begun broken) : Calls Tryz.prog 46 #[.pointer (some ⟨i, 0, none⟩)] W fun r w' => r = .returned (.bool (begun && decide (ps = []))) ∧ ∃ m, w' = W.drewN m := by
  obtain ⟨a, cp, rfl⟩ := c.shape
  obtain ⟨c0, c1, c2, f0, f1, f2⟩ := c.kb.cells
  have hn : Hid (decide (ps = []) = ((ps.length : Int) == 0)) := by
    show _ = _
    cases ps <;> simp <;> omega
  clear c
  cases begun
  · go_enter Tryz.func46, Tryz.ntmps46
    go_wp2
    go_ret
    exact ⟨rfl, 0, rfl⟩
  · go_enter Tryz.func46, Tryz.ntmps46
    go_wp2
    go_ret
    exact ⟨by rw [hn.out]; rfl, 0, rfl⟩
/-- The part that has begun last. -/
theorem inner_none (c : Ck W i B v [] begun broken) : Calls Tryz.prog 159 #[.pointer (some ⟨i, 0, none⟩)] W fun r w' => r = .returned (.pointer none) ∧ w' = W := by
  obtain ⟨a, cp, rfl⟩ := c.shape
  obtain ⟨c0, c1, c2, f0, f1, f2⟩ := c.kb.cells
  clear c
  go_enter Tryz.func159, Tryz.ntmps159
  go_wp2
  go_ret
  exact ⟨rfl, rfl⟩
theorem inner_some (g cp n : Nat) (c0 : W.cell? ⟨i, 0, none⟩ = some (.slice (some ⟨g, 0, none⟩) (n + 1) cp)) (h1 : n + 1 ≤ cp) (h2 : cp ≤ maxLen) : Calls Tryz.prog 159 #[.pointer (some ⟨i, 0, none⟩)] W fun r w' => r = .returned (.pointer (some ⟨g, n * 3, none⟩)) ∧ ∃ m, w' = W.drewN m := by
  have ml : maxLen = 9223372036854775807 := rfl
  have hw : IntKind.i64.wrap ((n : Int) + 1 - 1) = (n : Int) := by rw [IntKind.wrap_i64] <;> omega
  have hw2 : IntKind.i64.wrap ((n : Int)) = (n : Int) := by rw [IntKind.wrap_i64] <;> omega
  go_enter Tryz.func159, Tryz.ntmps159
  go_wp2
  go_quiet (fail)
  go_wp2
  go_ret
  exact ⟨by first | rfl | (simp; done) | trace_state, _, rfl⟩
/-- What the last part's cells are. -/
theorem Ck.last {qs : List Pt} {p : Pt} (c : Ck W i B v (qs ++ [p]) begun broken) : ∃ g cp, v = .slice (some ⟨g, 0, none⟩) (qs.length + 1) cp ∧ qs.length + 1 ≤ cp ∧ cp ≤ maxLen ∧ B ≤ g ∧ W.cell? ⟨g, qs.length * 3, none⟩ = some (.int .i64 p.kind) ∧ W.cell? ⟨g, qs.length * 3 + 1, none⟩ = some (.bool p.waits) ∧ W.cell? ⟨g, qs.length * 3 + 2, none⟩ = some (.map p.mb) ∧ ∀ j, W.frozen? ⟨g, j, none⟩ = false := by
  have hr := c.row
  rw [List.length_append, List.length_singleton] at hr
  rcases hr.2 with ⟨_, e⟩ | ⟨g, cap, cur, rfl, h1, h2, h3, h4, h5, h6⟩
  · omega
  · refine ⟨g, cap, rfl, h3, h4, h1, ?_, ?_, ?_, fun j => World.ownsRow.frozenAt hr j⟩
    · rw [World.ownsRow.cellAt hr _ (by omega)]; exact pxs_at qs p 0
    · rw [World.ownsRow.cellAt hr _ (by omega)]; exact pxs_at qs p 1
    · rw [World.ownsRow.cellAt hr _ (by omega)]; exact pxs_at qs p 2
/-- The last part's waits is set. -/
theorem Ck.wait {qs : List Pt} {p : Pt} {g cp : Nat} (c : Ck W i B (.slice (some ⟨g, 0, none⟩) (qs.length + 1) cp) (qs ++ [p]) begun broken) (b : Bool) : Ck (W.setCell ⟨g, qs.length * 3 + 1, none⟩ (.bool b)) i B (.slice (some ⟨g, 0, none⟩) (qs.length + 1) cp) (qs ++ [{ p with waits := b }]) begun broken := by
  have hr := c.row
  rw [List.length_append, List.length_singleton] at hr
  have hg := (World.ownsRow.lt hr g rfl)
  have hs := (World.ownsRow.stored hr (qs.length * 3 + 1) (.bool b)).1
  rw [pxs_set] at hs
  have hne : ∀ k, k ≠ g → (W.setCell ⟨g, qs.length * 3 + 1, none⟩ (.bool b)).heap[k]? = W.heap[k]? := fun k hk => Below.heap_setCell _ _ _ _ hk
  refine ⟨c.kb.same (hne i (by have := c.iB; omega)), ?_, ?_, ?_, c.iB, by simpa using c.hB, by have := c.len; simpa using this⟩
  · rw [List.length_append, List.length_singleton, pxs_app, pxs_one]
    exact hs
  · intro q hq
    rcases List.mem_append.1 hq with h | h
    · exact (c.ok q (List.mem_append.2 (Or.inl h))).of fun b' e => hne b' (fun e2 => (c.ok q (List.mem_append.2 (Or.inl h))).ne b' e c.row (by rw [e2]; rfl))
    · have hq2 : q = { p with waits := b } := by simpa using h
      subst hq2
      have hp := c.ok p (by simp)
      have hp2 : PtOk (W.setCell ⟨g, qs.length * 3 + 1, none⟩ (.bool b)) B p := hp.of fun b' e => hne b' (fun e2 => hp.ne b' e c.row (by rw [e2]; rfl))
      exact hp2
  · have := c.dis
    rw [List.filterMap_append] at this ⊢
    exact this
set_option maxHeartbeats 2000000 in
theorem takeValue_some {qs : List Pt} {p : Pt} (c : Ck W i B v (qs ++ [p]) begun broken) : Calls Tryz.prog 131 #[.pointer (some ⟨i, 0, none⟩)] W fun r w' => r = .returned (.bool (p.waits || decide (p.kind = 7))) ∧ Ck w' i B v (qs ++ [{ p with waits := false }]) begun broken ∧ Below i W w' ∧ ∀ k, k ≠ i → v.ownBlock ≠ some k → w'.heap[k]? = W.heap[k]? := by
  have ml : maxLen = 9223372036854775807 := rfl
  obtain ⟨g, cp, rfl, h1, h2, h3, k0, k1, k2, kf⟩ := c.last
  have inn := hide (inner_some (W := W) (i := i) g cp qs.length c.kb.cells.1 h1 h2)
  have C := hide (fun d => (c.then (W1 := W.drewN d) ⟨rfl, rfl, rfl, Nat.le_refl _, fun _ _ => rfl⟩).wait false)
  have hz := c.iB
  have hlt := c.kb.lt
  have hkd : Hid (decide (p.kind = 7) = (p.kind == 7)) := by show _ = _; rw [Bool.eq_iff_iff]; simp
  clear c
  have hb : Hid (∀ d, Below i W ((W.drewN d).setCell ⟨g, qs.length * 3 + 1, none⟩ (.bool false))) := fun d => (show Below i W (W.drewN d) from ⟨rfl, rfl, rfl, Nat.le_refl _, fun _ _ => rfl⟩).setCell (by show i ≤ g; omega) _
  have hfr : Hid (∀ d k, k ≠ i → (Value.slice (some ⟨g, 0, none⟩) (qs.length + 1) cp).ownBlock ≠ some k → ((W.drewN d).setCell ⟨g, qs.length * 3 + 1, none⟩ (.bool false)).heap[k]? = W.heap[k]?) := fun d k _ hk => Below.heap_setCell _ _ _ _ (fun e => hk (by rw [show k = g from e]; rfl))
  cases hw : p.waits
  · go_enter Tryz.func131, Tryz.ntmps131
    go_wp2_with (go_at_call 159; refine inn.out.mono ?_; rintro e w1 ⟨rfl, m1, rfl⟩)
    go_ret
    exact ⟨by rw [hkd.out]; rfl, C.out _, hb.out _, hfr.out _⟩
  · go_enter Tryz.func131, Tryz.ntmps131
    go_wp2_with (go_at_call 159; refine inn.out.mono ?_; rintro e w1 ⟨rfl, m1, rfl⟩)
    go_ret
    exact ⟨rfl, C.out _, hb.out _, hfr.out _⟩
theorem takeValue_none (c : Ck W i B v [] begun broken) : Calls Tryz.prog 131 #[.pointer (some ⟨i, 0, none⟩)] W fun r w' => r = .returned (.bool (!begun)) ∧ Ck w' i B v [] true broken ∧ Below i W w' ∧ ∀ k, k ≠ i → w'.heap[k]? = W.heap[k]? := by
  have inn := hide (inner_none c)
  obtain ⟨c0, c1, c2, f0, f1, f2⟩ := c.kb.cells
  have C : Hid (Ck (W.setCell ⟨i, 1, none⟩ (.bool true)) i B v [] true broken) := { c with kb := c.kb.set1 true, row := own_of c.row fun k hk _ => Below.heap_setCell _ _ _ _ (by have := (World.ownsRow.lt c.row k hk).1; have := c.iB; show k ≠ i; omega), ok := fun p hp => by simp at hp, hB := by simpa using c.hB }
  clear c
  go_enter Tryz.func131, Tryz.ntmps131
  go_wp2_with (go_at_call 159; refine inn.out.mono ?_; rintro e w1 ⟨rfl, hw1⟩; have hw1s := hw1.symm; clear hw1; subst hw1s)
  go_ret
  exact ⟨rfl, C.out, (Below.refl i W).setCell (Nat.le_refl _) _, fun k hk => Below.heap_setCell _ _ _ _ hk⟩
theorem takeEnd_none (c : Ck W i B v [] begun broken) : Calls Tryz.prog 130 #[.pointer (some ⟨i, 0, none⟩)] W fun r w' => r = .returned (.bool false) ∧ w' = W := by
  have inn := hide (inner_none c)
  clear c
  go_enter Tryz.func130, Tryz.ntmps130
  go_wp2_with (go_at_call 159; refine inn.out.mono ?_; rintro e w1 ⟨rfl, hw1⟩; have hw1s := hw1.symm; clear hw1; subst hw1s)
  go_ret
  exact ⟨rfl, rfl⟩
theorem takeEnd_wait {qs : List Pt} {p : Pt} (c : Ck W i B v (qs ++ [p]) begun broken) (hp : p.waits = true) : Calls Tryz.prog 130 #[.pointer (some ⟨i, 0, none⟩)] W fun r w' => r = .returned (.bool false) ∧ ∃ m, w' = W.drewN m := by
  have ml : maxLen = 9223372036854775807 := rfl
  obtain ⟨g, cp, rfl, h1, h2, h3, k0, k1, k2, kf⟩ := c.last
  have inn := hide (inner_some (W := W) (i := i) g cp qs.length c.kb.cells.1 h1 h2)
  rw [hp] at k1
  clear c
  go_enter Tryz.func130, Tryz.ntmps130
  go_wp2_with (go_at_call 159; refine inn.out.mono ?_; rintro e w1 ⟨rfl, m1, rfl⟩)
  go_ret
  exact ⟨rfl, _, rfl⟩
theorem row_less {g cp n : Nat} {xs : List Value} {T : TypeId} (h : W.ownsRow B T 3 (.slice (some ⟨g, 0, none⟩) (n + 1) cp) (n + 1) xs) : W.ownsRow B T 3 (.slice (some ⟨g, 0, none⟩) n cp) n (xs.take (n * 3)) := by
  obtain ⟨h0, h⟩ := h
  refine ⟨by rw [List.length_take]; omega, ?_⟩
  rcases h with ⟨e, _⟩ | ⟨g', cap, cur, e, h1, h2, h3, h4, h5, h6⟩
  · cases e
  · simp only [Value.slice.injEq, Option.some.injEq, Addr.mk.injEq] at e
    obtain ⟨⟨rfl, _, _⟩, _, rfl⟩ := e
    refine Or.inr ⟨g, cp, cur, rfl, h1, h2, by omega, h4, h5, ?_⟩
    rw [← h6, List.take_take]
    congr 1; omega
theorem Ck.less {qs : List Pt} {p : Pt} {g cp : Nat} (c : Ck W i B (.slice (some ⟨g, 0, none⟩) (qs.length + 1) cp) (qs ++ [p]) begun broken) :
    Ck ((((W.setCell ⟨g, qs.length * 3, none⟩ (.int .i64 0)).setCell ⟨g, qs.length * 3 + 1, none⟩ (.bool false)).setCell ⟨g, qs.length * 3 + 2, none⟩ (.map none)).setCell ⟨i, 0, none⟩ (.slice (some ⟨g, 0, none⟩) qs.length cp)) i B (.slice (some ⟨g, 0, none⟩) qs.length cp) qs begun broken := by
  have hr := c.row
  rw [List.length_append, List.length_singleton] at hr
  have hg := (World.ownsRow.lt hr g rfl)
  have hiB := c.iB
  have s1 := (World.ownsRow.stored hr (qs.length * 3 + 0) (.int .i64 0)).1
  rw [pxs_set, show pxs qs ++ (pcs p).set 0 (.int .i64 0) = pxs (qs ++ [{ p with kind := 0 }]) by rw [pxs_app, pxs_one]; rfl] at s1
  have s2 := (World.ownsRow.stored s1 (qs.length * 3 + 1) (.bool false)).1
  rw [pxs_set, show pxs qs ++ (pcs { p with kind := 0 }).set 1 (.bool false) = pxs (qs ++ [{ p with kind := 0, waits := false }]) by rw [pxs_app, pxs_one]; rfl] at s2
  have s3 := (World.ownsRow.stored s2 (qs.length * 3 + 2) (.map none)).1
  rw [pxs_set] at s3
  have s4 := row_less s3
  rw [List.take_append_of_le_length (by rw [pxs_length]; exact Nat.le_refl _), List.take_of_length_le (by rw [pxs_length]; exact Nat.le_refl _)] at s4
  have hne : ∀ k, k ≠ g → k ≠ i → ((((W.setCell ⟨g, qs.length * 3, none⟩ (.int .i64 0)).setCell ⟨g, qs.length * 3 + 1, none⟩ (.bool false)).setCell ⟨g, qs.length * 3 + 2, none⟩ (.map none)).setCell ⟨i, 0, none⟩ (.slice (some ⟨g, 0, none⟩) qs.length cp)).heap[k]? = W.heap[k]? := fun k h1 h2 => by
    rw [Below.heap_setCell _ _ _ _ (show k ≠ i from h2), Below.heap_setCell _ _ _ _ (show k ≠ g from h1), Below.heap_setCell _ _ _ _ (show k ≠ g from h1), Below.heap_setCell _ _ _ _ (show k ≠ g from h1)]
  have kb : KB (((W.setCell ⟨g, qs.length * 3, none⟩ (.int .i64 0)).setCell ⟨g, qs.length * 3 + 1, none⟩ (.bool false)).setCell ⟨g, qs.length * 3 + 2, none⟩ (.map none)) i (.slice (some ⟨g, 0, none⟩) (qs.length + 1) cp) begun broken := c.kb.same (by rw [Below.heap_setCell _ _ _ _ (show i ≠ g by omega), Below.heap_setCell _ _ _ _ (show i ≠ g by omega), Below.heap_setCell _ _ _ _ (show i ≠ g by omega)])
  refine ⟨kb.set0 _, own_of s4 fun k hk _ => Below.heap_setCell _ _ _ _ (by cases hk; show g ≠ i; omega), ?_, ?_, hiB, by simpa using c.hB, by have := c.len; simp at this; omega⟩
  · intro q hq
    have hq2 := c.ok q (List.mem_append.2 (Or.inl hq))
    exact hq2.of fun b' e => hne b' (fun e2 => hq2.ne b' e c.row (by rw [e2]; rfl)) (by have := (hq2.blt b' e).1; omega)
  · have := c.dis
    rw [List.filterMap_append] at this
    exact (List.nodup_append.1 this).1
set_option maxHeartbeats 2000000 in
theorem takeEnd_some {qs : List Pt} {p : Pt} (c : Ck W i B v (qs ++ [p]) begun broken) (hp : p.waits = false) : Calls Tryz.prog 130 #[.pointer (some ⟨i, 0, none⟩)] W fun r w' => r = .returned (.bool true) ∧ ∃ v', Ck w' i B v' qs begun broken ∧ BK i W w' := by
  have ml : maxLen = 9223372036854775807 := rfl
  obtain ⟨g, cp, rfl, h1, h2, h3, k0, k1, k2, kf⟩ := c.last
  have inn := hide (inner_some (W := W) (i := i) g cp qs.length c.kb.cells.1 h1 h2)
  rw [hp] at k1
  obtain ⟨c0, c1, c2, f0, f1, f2⟩ := c.kb.cells
  have C := hide c
  have hz := c.iB
  have hw : IntKind.i64.wrap ((qs.length : Int) + 1 - 1) = (qs.length : Int) := by rw [IntKind.wrap_i64] <;> omega
  clear c
  go_enter Tryz.func130, Tryz.ntmps130
  go_wp2_with (go_at_call 159; refine inn.out.mono ?_; rintro e w1 ⟨rfl, m1, rfl⟩)
  have hgi : g ≠ i := by omega
  have hgi2 : i ≠ g := by omega
  have hw2 : IntKind.i64.wrap (qs.length : Int) = (qs.length : Int) := by rw [IntKind.wrap_i64] <;> omega
  have hle : qs.length ≤ cp := by omega
  go_region_with (fail)
  all_goals
    go_wp2
    go_ret
    refine ⟨rfl, _, (C.out.then (W1 := W.drewN m1) ⟨rfl, rfl, rfl, Nat.le_refl _, fun _ _ => rfl⟩).less.then (Below.refl _ _).drew, ?_⟩
    have t0 : Ty (W.drewN m1) g := row_ty (by have := C.out.row; rwa [List.length_append, List.length_singleton] at this)
    have t1 : Ty (W.drewN m1) i := C.out.kb.ty
    exact ((((((BK.dn i W m1).set (p := ⟨g, qs.length * 3, none⟩) (show i ≤ g by omega) t0 _).set (p := ⟨g, qs.length * 3 + 1, none⟩) (show i ≤ g by omega) (t0.set _ _) _).set (p := ⟨g, qs.length * 3 + 2, none⟩) (show i ≤ g by omega) ((t0.set _ _).set _ _) _).set (p := ⟨i, 0, none⟩) (Nat.le_refl i) (((t1.set _ _).set _ _).set _ _) _)).drew
end
end Go.Proofs.YtoaacfhjejmbnaaGreatDoor
/- event's Checker: takeName: walked. -/
namespace Go.Proofs.YtoaacfhjejmbnaaGreatDoor
open Go.RowKit
set_option linter.unusedSimpArgs false
set_option linter.unusedVariables false
theorem Sm_app (l : List ByteArray) (s : ByteArray) : Sm (l ++ [s]) = (Sm l).put (.string s.data.toList) (.agg []) := by
  unfold Sm
  rw [List.length_append, List.length_singleton, Sn_succ _ _ (by simp)]
  congr 1
  · unfold Sn
    rw [List.take_append_of_le_length (Nat.le_refl _)]
  · simp
theorem has_Sm (l : List ByteArray) (s : ByteArray) : Maps.has (Sm l) (.string s.data.toList) = true ↔ s ∈ l := by
  unfold Sm
  rw [has_Sn, List.take_length]
section
variable {W : World} {i B : Nat} {v : Value} {ps : List Pt} {begun broken : Bool}
theorem takeName_none (s : ByteArray) (c : Ck W i B v [] begun broken) : Calls Tryz.prog 129 #[.pointer (some ⟨i, 0, none⟩), .string s] W fun r w' => r = .returned (.bool false) ∧ ∃ m, w' = W.drewN m := by
  have inn := hide (inner_none c)
  clear c
  go_enter Tryz.func129, Tryz.ntmps129
  go_wp2_with (go_at_call 159; refine inn.out.mono ?_; rintro e w1 ⟨rfl, hw1⟩; have hw1s := hw1.symm; clear hw1; subst hw1s)
  go_ret
  exact ⟨rfl, 0, rfl⟩
set_option maxHeartbeats 2000000 in
theorem takeName_no (s : ByteArray) {qs : List Pt} {p : Pt} (c : Ck W i B v (qs ++ [p]) begun broken) (hp : p.kind ≠ 8 ∨ p.waits = true) : Calls Tryz.prog 129 #[.pointer (some ⟨i, 0, none⟩), .string s] W fun r w' => r = .returned (.bool false) ∧ ∃ m, w' = W.drewN m := by
  have ml : maxLen = 9223372036854775807 := rfl
  obtain ⟨g, cp, rfl, h1, h2, h3, k0, k1, k2, kf⟩ := c.last
  have inn := hide (inner_some (W := W) (i := i) g cp qs.length c.kb.cells.1 h1 h2)
  clear c
  by_cases h8 : p.kind = 8
  · have hw : p.waits = true := by rcases hp with h | h; exact absurd h8 h; exact h
    rw [hw] at k1
    rw [h8] at k0
    go_enter Tryz.func129, Tryz.ntmps129
    go_wp2_with (go_at_call 159; refine inn.out.mono ?_; rintro e w1 ⟨rfl, m1, rfl⟩)
    go_ret
    exact ⟨rfl, _, rfl⟩
  · obtain ⟨kd, hkd⟩ : ∃ kd, p.kind = kd := ⟨_, rfl⟩
    rw [hkd] at k0 h8
    clear hp hkd
    go_enter Tryz.func129, Tryz.ntmps129
    go_wp2_with (go_at_call 159; refine inn.out.mono ?_; rintro e w1 ⟨rfl, m1, rfl⟩)
    go_ret
    exact ⟨rfl, _, rfl⟩
set_option maxHeartbeats 2000000 in
theorem takeName_twice (s : ByteArray) {qs : List Pt} {p : Pt} (c : Ck W i B v (qs ++ [p]) begun broken) (h8 : p.kind = 8) (hw : p.waits = false) (hm : s ∈ p.names) (hs : s.size ≤ 281474976710656) : Calls Tryz.prog 129 #[.pointer (some ⟨i, 0, none⟩), .string s] W fun r w' => r = .returned (.bool false) ∧ Below W.heap.size W w' := by
  have ml : maxLen = 9223372036854775807 := rfl
  obtain ⟨g, cp, rfl, h1, h2, h3, k0, k1, k2, kf⟩ := c.last
  have inn := hide (inner_some (W := W) (i := i) g cp qs.length c.kb.cells.1 h1 h2)
  rw [hw] at k1
  rw [h8] at k0
  obtain ⟨b, hb, hbB, hown⟩ : ∃ b, p.mb = some b ∧ B ≤ b ∧ W.ownsMap Tryz.prog 9 (unitElem (H := Unit)) b p.names.length (Sm p.names) := by
    rcases c.ok p (by simp) with ⟨_, h⟩ | ⟨h, _⟩
    · exact h
    · exact absurd h8 h
  rw [hb] at k2
  have hhas : Maps.has (Sm p.names) (.string s.data.toList) = true := (has_Sm _ _).2 hm
  have hkey := hide (show keyOf Tryz.prog 9 (.string s) = some (.string s.data.toList) from WideMaps.keyOf_string_mk Tryz.underlying9 (by omega))
  have hown' : Hid (∀ d, (W.drewN d).ownsMap Tryz.prog 9 (unitElem (H := Unit)) b p.names.length (Sm p.names)) := fun d => hown
  clear c hm hown
  go_enter Tryz.func129, Tryz.ntmps129
  go_wp2_with (first | (go_at_call 159; refine inn.out.mono ?_; rintro e w1 ⟨rfl, m1, rfl⟩) | (at_lookup; refine wpList_lookup_own_unit _ rfl _ _ 134 rfl 9 164 keyS Tryz.underlying134 (zeroU _) b p.names.length _ rfl (hown'.out _) _ _ rfl hkey.out ?_; rw [hhas]))
  go_ret
  exact ⟨rfl, by repeat (first | exact ⟨rfl, rfl, rfl, Nat.le_refl _, fun _ _ => rfl⟩ | refine below_al ?_)⟩
theorem Ck.name {qs : List Pt} {p : Pt} {g cp b : Nat} {s : ByteArray} {W1 : World} (c : Ck W i B (.slice (some ⟨g, 0, none⟩) (qs.length + 1) cp) (qs ++ [p]) begun broken) (h8 : p.kind = 8) (hb : p.mb = some b)
    (hg : W.grownBy W1 (some b)) (ho : W1.ownsMap Tryz.prog 9 (unitElem (H := Unit)) b (p.names.length + 1) ((Sm p.names).put (.string s.data.toList) (.agg []))) : Ck W1 i B (.slice (some ⟨g, 0, none⟩) (qs.length + 1) cp) (qs ++ [{ p with names := p.names ++ [s] }]) begun broken := by
  have hp := c.ok p (by simp)
  have hbb := hp.blt b hb
  have hgb : g ≠ b := fun e => hp.ne b hb c.row (by rw [← e]; rfl)
  have hr := c.row
  have hgl := (World.ownsRow.lt hr g rfl).2
  have hiB := c.iB
  have hkl := c.kb.lt
  refine ⟨c.kb.same (hg.block i hkl (by simp; omega)), ?_, ?_, ?_, c.iB, Nat.le_trans c.hB hg.size, by have := c.len; simpa using this⟩
  · have h2 := own_of (W1 := W1) hr fun k hk hlt => hg.block k hlt (by cases hk; simpa using hgb)
    rw [pxs_app, pxs_one, List.length_append, List.length_singleton] at h2 ⊢
    exact h2
  · intro q hq
    rcases List.mem_append.1 hq with h | h
    · have hq2 := c.ok q (List.mem_append.2 (Or.inl h))
      refine hq2.of fun b' e => hg.block b' (hq2.blt b' e).2 ?_
      intro e2
      cases e2
      have hd := c.dis
      rw [List.filterMap_append] at hd
      refine (List.nodup_append.1 hd).2.2 b (List.mem_filterMap.2 ⟨q, h, e⟩) b (List.mem_filterMap.2 ⟨p, by simp, hb⟩) rfl
    · have hq2 : q = { p with names := p.names ++ [s] } := by simpa using h
      subst hq2
      refine Or.inl ⟨h8, b, hb, hbb.1, ?_⟩
      show W1.ownsMap _ _ _ _ (p.names ++ [s]).length (Sm (p.names ++ [s]))
      rw [Sm_app, List.length_append, List.length_singleton]
      exact ho
  · have := c.dis
    rw [List.filterMap_append] at this ⊢
    exact this
set_option maxHeartbeats 2000000 in
set_option maxRecDepth 100000 in
theorem takeName_some (s : ByteArray) {qs : List Pt} {p : Pt} (c : Ck W i B v (qs ++ [p]) begun broken) (h8 : p.kind = 8) (hw : p.waits = false) (hm : ¬ s ∈ p.names) (hs : s.size ≤ 281474976710656) (hn : p.names.length ≤ 300000) : Calls Tryz.prog 129 #[.pointer (some ⟨i, 0, none⟩), .string s] W fun r w' => r = .returned (.bool true) ∧ Ck w' i B v (qs ++ [{ p with waits := true, names := p.names ++ [s] }]) begun broken ∧ BK i W w' := by
  have ml : maxLen = 9223372036854775807 := rfl
  obtain ⟨g, cp, rfl, h1, h2, h3, k0, k1, k2, kf⟩ := c.last
  have inn := hide (inner_some (W := W) (i := i) g cp qs.length c.kb.cells.1 h1 h2)
  rw [hw] at k1
  rw [h8] at k0
  obtain ⟨b, hb, hbB, hown⟩ : ∃ b, p.mb = some b ∧ B ≤ b ∧ W.ownsMap Tryz.prog 9 (unitElem (H := Unit)) b p.names.length (Sm p.names) := by
    rcases c.ok p (by simp) with ⟨_, h⟩ | ⟨h, _⟩
    · exact h
    · exact absurd h8 h
  rw [hb] at k2
  have hhas : Maps.has (Sm p.names) (.string s.data.toList) = false := by
    rw [Bool.eq_false_iff]
    exact fun h => hm ((has_Sm _ _).1 h)
  have hkey := hide (show keyOf Tryz.prog 9 (.string s) = some (.string s.data.toList) from WideMaps.keyOf_string_mk Tryz.underlying9 (by omega))
  have hown' : Hid (∀ d, (W.drewN d).ownsMap Tryz.prog 9 (unitElem (H := Unit)) b p.names.length (Sm p.names)) := fun d => hown
  have hd0 : Hid (∀ d o, Below W.heap.size W ((W.drewN d).alloc o)) := fun d o => below_al ⟨rfl, rfl, rfl, Nat.le_refl _, fun _ _ => rfl⟩
  have hownA : Hid (∀ d o, ((W.drewN d).alloc o).ownsMap Tryz.prog 9 (unitElem (H := Unit)) b p.names.length (Sm p.names)) := fun d o => ownsMap_below hown (hd0.out d o)
  have C : Hid (∀ d o, Ck ((W.drewN d).alloc o) i B (.slice (some ⟨g, 0, none⟩) (qs.length + 1) cp) (qs ++ [p]) begun broken) := fun d o => c.then (hd0.out d o)
  have hiB := c.iB
  have hb' := hide hb
  have h8' := hide h8
  have hgb : Hid (g ≠ b) := fun e => (c.ok p (by simp)).ne b hb c.row (by rw [← e]; rfl)
  have hgl : Hid (g < W.heap.size) := (World.ownsRow.lt c.row g rfl).2
  have hkm : p.names.length < maxLen := by omega
  have k2A : ∀ d o, ((W.drewN d).alloc o).cell? ⟨g, qs.length * 3 + 2, none⟩ = some (.map (some b)) := fun d o => ((hd0.out d o).cell (p := ⟨g, qs.length * 3 + 2, none⟩) hgl.out).trans k2
  clear c hm hown hb h8
  go_enter Tryz.func129, Tryz.ntmps129
  go_wp2_with (first
    | (go_at_call 159; refine inn.out.mono ?_; rintro e w1 ⟨rfl, m1, rfl⟩)
    | (at_lookup; refine wpList_lookup_own_unit _ rfl _ _ 134 rfl 9 164 keyS Tryz.underlying134 (zeroU _) b p.names.length _ rfl (hown'.out _) _ _ rfl hkey.out ?_; rw [hhas])
    | (at_mapUpdate; refine wpList_mapUpdate_own _ rfl _ _ _ 134 rfl 9 164 keyS Tryz.underlying134 (unitElem (H := Unit)) b p.names.length _ rfl (hownA.out _ _) hkm _ _ _ rfl rfl hkey.out _ [] unitElem_mk ?_; intro w2 hown2 hgrow2; have C2 := hide ((C.out _ _).name h8'.out hb'.out hgrow2 hown2); have j1 : w2.cell? ⟨g, qs.length * 3 + 1, none⟩ = some (.bool false) := ((World.cell?_of_block (a := ⟨g, qs.length * 3 + 1, none⟩) ((hgrow2.block g (Nat.lt_of_lt_of_le hgl.out (hd0.out _ _).size) (by simpa using hgb.out)).trans ((hd0.out _ _).block g hgl.out))).trans k1); have j2 : w2.frozen? ⟨g, qs.length * 3 + 1, none⟩ = false := ((World.frozen?_of_block (a := ⟨g, qs.length * 3 + 1, none⟩) ((hgrow2.block g (Nat.lt_of_lt_of_le hgl.out (hd0.out _ _).size) (by simpa using hgb.out)).trans ((hd0.out _ _).block g hgl.out))).trans (kf _)); have G2 := hide hgrow2; clear hown2 hgrow2))
  go_ret
  refine ⟨rfl, C2.out.wait true, ?_⟩
  refine BK.set (p := ⟨g, qs.length * 3 + 1, none⟩) ?_ (show i ≤ g by omega) (row_ty (by have := C2.out.row; rwa [List.length_append, List.length_singleton] at this)) _
  exact (BK.of (hd0.out _ _) (by have := hgl.out; omega)).grown G2.out (by have := hgl.out; have := (hd0.out m1 (.cells #[] 80)).size; first | omega | (simp; omega)) (fun j hj => by cases hj; exact ⟨by omega, map_ty (hownA.out _ _)⟩)
end
end Go.Proofs.YtoaacfhjejmbnaaGreatDoor
