/- One more value in a column: the step of a drawn region; columns by place. -/
import Derived.Test.YtlfnnecpinmjjaaDoorHmCols
namespace Go.Proofs.YtlfnnecpinmjjaaDoor
open Go.RowKit Go.Maps
set_option linter.unusedSimpArgs false
set_option linter.unusedVariables false
/-- An empty value's cells. -/
def z9 : List Value := [.int .i64 0, .bool false, .bool false, .string ⟨#[]⟩, .int .i64 0, .int .u64 0, .string ⟨#[]⟩, .slice none 0 0, .slice none 0 0]
theorem step_vz {w : World} {ops : Array Oper} {o : Oper} {a : Act} {K : Act → World → Prop} {Q : Exit → Act → World → Prop} {E : Prop} (hgd : o.guard = none) (s x : Operand) (ho : o.op = .call { callee := .builtin .append, args := #[s, x], argTypes := #[31, 31] })
    (B : Nat) (v : Value) (n : Nat) (xs : List Value) (hs : a.eval s = v) (hown : w.ownsRow B 33 9 v n xs) (g c : Nat) (hx : a.eval x = .slice (some ⟨g, 0, none⟩) 1 c)
    (hnews : w.rangeAt g 0 z9) (hm : n ≤ 200000) (hB : B ≤ w.heap.size)
    (h : ∀ G c' w', Hid (w'.ownsRow B 33 9 (.slice (some ⟨G, 0, none⟩) (n + 1) c') (n + 1) (xs ++ z9)) → Hid (w.grownBy w' v.ownBlock) → Hid (some G = v.ownBlock ∨ G = w.heap.size) → Hid (n + 1 ≤ c' ∧ c' ≤ maxLen) → K (a.put o.dst (.slice (some ⟨G, 0, none⟩) (n + 1) c')) w') :
    if Region.wanted o (yielded ops a.tmps) = true then Oper.wp Tryd.prog o a w K Q else E := by
  have hw : Region.wanted o (yielded ops a.tmps) = true := by simp [Region.wanted, hgd]
  rw [if_pos hw]
  obtain ⟨i0, hi, hz0, hz1, hz2⟩ := info_parts infoVV
  obtain ⟨v', w', hr, h1, h2, h3, h4⟩ := run_append_own_at (P := Tryd.prog) w B 31 o.type 33 i0 _ 9 120 Tryd.underlying31 hi hz0 hz1 hz2 rfl (by decide) v n xs hown ⟨g, 0, none⟩ 1 c z9 rfl (by
    intro j u hj
    have := hnews j u hj
    rw [show (⟨g, 0, none⟩ : Addr).add j = ⟨g, 0 + j, none⟩ by unfold Addr.add; split <;> simp_all]
    exact this) (by
    intro u hu
    simp only [z9, List.mem_cons, List.not_mem_nil, or_false] at hu
    rcases hu with rfl | rfl | rfl | rfl | rfl | rfl | rfl | rfl | rfl
    all_goals rfl) (by unfold maxLen; omega) (by omega) hB
  unfold Oper.wp execOp
  simp only [ho, resolve, invoke, builtin, Sem.run_bind, Sem.run_pure, Result.andThen_ok, List.map_toArray, List.map_cons, List.map_nil, hs, hx, hr]
  rcases h1.2 with ⟨rfl, e⟩ | ⟨g', cap, cur, rfl, _, _, q1, q2, _⟩
  · omega
  · refine h g' cap w' h1 h2 ?_ ⟨q1, q2⟩
    rcases h4 with q | q
    · exact Or.inl q
    · exact Or.inr (by simpa [Value.ownBlock] using q)
theorem vz_facts {w : World} {B G n c : Nat} {xs : List Value} (h : w.ownsRow B 33 9 (.slice (some ⟨G, 0, none⟩) (n + 1) c) (n + 1) (xs ++ z9)) (hx : xs.length = n * 9) :
    (∀ j, w.frozen? ⟨G, j, none⟩ = false) ∧ (∃ ar, w.heap[G]? = some (.cells ar 33 (0, 0)) ∧ n * 9 + 9 ≤ ar.size) ∧ w.cell? ⟨G, n * 9, none⟩ = some (.int .i64 0) ∧ w.cell? ⟨G, n * 9 + 1, none⟩ = some (.bool false) ∧ w.cell? ⟨G, n * 9 + 2, none⟩ = some (.bool false) ∧ w.cell? ⟨G, n * 9 + 3, none⟩ = some (.string ⟨#[]⟩) ∧ w.cell? ⟨G, n * 9 + 4, none⟩ = some (.int .i64 0) ∧ w.cell? ⟨G, n * 9 + 5, none⟩ = some (.int .u64 0) ∧ w.cell? ⟨G, n * 9 + 6, none⟩ = some (.string ⟨#[]⟩) ∧ w.cell? ⟨G, n * 9 + 7, none⟩ = some (.slice none 0 0) ∧ w.cell? ⟨G, n * 9 + 8, none⟩ = some (.slice none 0 0) := by
  have hc : ∀ j (hj : j < 9), w.cell? ⟨G, n * 9 + j, none⟩ = z9[j]? := fun j hj => by
    rw [World.ownsRow.cellAt h (n * 9 + j) (by omega), List.getElem?_append_right (by omega), hx, Nat.add_sub_cancel_left]
  obtain ⟨o1, o2⟩ := h
  rcases o2 with ⟨q, _⟩ | ⟨g, cap, cur, q, q1, q2, q3, q4, q5, q6⟩
  · cases q
  · simp only [Value.slice.injEq, Option.some.injEq, Addr.mk.injEq, and_true, true_and] at q
    obtain ⟨rfl, rfl⟩ := q
    refine ⟨fun j => by simp [World.frozen?, q2], ⟨cur, q2, ?_⟩, hc 0 (by omega), hc 1 (by omega), hc 2 (by omega), hc 3 (by omega), hc 4 (by omega), hc 5 (by omega), hc 6 (by omega), hc 7 (by omega), hc 8 (by omega)⟩
    have := Nat.mul_le_mul_right 9 q3
    omega
/-- What stands at a place in some values. -/
def col (m : Nat) (l : List (VT (m + 1))) (j : Nat) : List (VT m) := l.filterMap (fun x => x.2[j]?)
theorem col_take (m : Nat) (l : List (VT (m + 1))) (k j : Nat) (h : k < l.length) (hj : j < l[k].2.length) : col m (l.take (k + 1)) j = col m (l.take k) j ++ [l[k].2[j]] := by
  unfold col
  rw [List.take_succ_eq_append_getElem h, List.filterMap_append]
  simp [List.getElem?_eq_getElem hj]
theorem col_len (m : Nat) (l : List (VT (m + 1))) (j : Nat) : (col m l j).length ≤ l.length := List.length_filterMap_le _ _
theorem col_mem {m : Nat} {l : List (VT (m + 1))} {j : Nat} {y : VT m} (h : y ∈ col m l j) : ∃ x ∈ l, x.2[j]? = some y := by
  obtain ⟨x, hx, e⟩ := List.mem_filterMap.1 h
  exact ⟨x, hx, e⟩
theorem sizL_at {m : Nat} {l : List (VT m)} {j : Nat} {y : VT m} (h : l[j]? = some y) : siz m y ≤ sizL m l := by
  obtain ⟨hj, rfl⟩ := List.getElem?_eq_some_iff.1 h
  exact sizL_mem (List.getElem_mem hj)
theorem col_siz (m : Nat) (l : List (VT (m + 1))) (j : Nat) : sizL m (col m l j) ≤ sizL (m + 1) l := by
  induction l with
  | nil => simp [col, sizL, suml]
  | cons a l ih =>
    have e2 : sizL (m + 1) (a :: l) = siz (m + 1) a + sizL (m + 1) l := by simp [sizL, suml]
    have e3 : siz (m + 1) a = 1 + sizL m a.2 := rfl
    cases h : a.2[j]? with
    | none =>
      have e1 : col m (a :: l) j = col m l j := by simp [col, List.filterMap_cons, h]
      rw [e1]; omega
    | some y =>
      have e1 : col m (a :: l) j = y :: col m l j := by simp [col, List.filterMap_cons, h]
      have e4 : sizL m (y :: col m l j) = siz m y + sizL m (col m l j) := by simp [sizL, suml]
      have := sizL_at h
      rw [e1]; omega
theorem CL.congr {m : Nat} {w0 W : World} {R L : Nat} {f : Nat → Value} {cols cols' : Nat → List (VT m)} (h : CL m w0 W R L f cols) (e : ∀ j, j < L → cols j = cols' j) : CL m w0 W R L f cols' :=
  ⟨h.row, fun i hi => by rw [← e i hi]; exact h.ov i hi, h.sep⟩
theorem infoSV : (Tryd.prog.info? 31).map (fun i => (i.zero, i.size, i.bytes)) = some (some (.slice none 0 0), 1, 24) := by kernel_rfl
theorem CL.made {m : Nat} (w0 w : World) (L : Nat) : CL m w0 (w.alloc (.cells (madeCells #[.slice none 0 0] L) 31)) w.heap.size L (fun _ => .slice none 0 0) (fun _ => []) :=
  ⟨World.rowIs_made w _ L _, fun i _ => OV.nil, fun i j _ _ _ g hg => by cases hg⟩
theorem range_z9 (w : World) : (w.alloc (.cells #[.int .i64 0, .bool false, .bool false, .string ⟨#[]⟩, .int .i64 0, .int .u64 0, .string ⟨#[]⟩, .slice none 0 0, .slice none 0 0] 33)).rangeAt w.heap.size 0 z9 := by
  intro j v hj
  have hb : (w.alloc (.cells #[.int .i64 0, .bool false, .bool false, .string ⟨#[]⟩, .int .i64 0, .int .u64 0, .string ⟨#[]⟩, .slice none 0 0, .slice none 0 0] 33)).heap[w.heap.size]? = some (.cells z9.toArray 33 (0, 0)) := heap_alloc_last w _
  unfold World.cell?
  rw [Nat.zero_add]
  simp only [hb]
  rw [← hj]
  simp
end Go.Proofs.YtlfnnecpinmjjaaDoor
