/- types.plain: walked. -/
import Derived.Test.YtolmbjeinilhlaaDoorZtHcPlaces
namespace Go.Proofs.YtolmbjeinilhlaaDoor
open Go.RowKit Go.Maps
set_option linter.unusedSimpArgs false
set_option linter.unusedVariables false
/-- The kinds of types without parts, as cells. -/
def pkC : Array Value := #[.int .i64 1, .int .i64 0, .int .i64 2, .int .i64 1, .int .i64 3, .int .i64 2, .int .i64 4, .int .i64 3, .int .i64 5, .int .i64 3, .int .i64 6, .int .i64 4, .int .i64 7, .int .i64 5, .int .i64 8, .int .i64 6]
/-- The table lies there. -/
def Gt (w : World) : Prop := ∃ t fr, w.heap[0]? = some (.cells pkC t fr)
theorem Gt.lt {w : World} (g : Gt w) : 0 < w.heap.size := by
  obtain ⟨t, fr, h⟩ := g
  exact (Array.getElem?_eq_some_iff.1 h).1
theorem Gt.below {w W : World} (g : Gt w) (h : Below w.heap.size w W) : Gt W := by
  obtain ⟨t, fr, hc⟩ := g
  exact ⟨t, fr, (h.block _ (Array.getElem?_eq_some_iff.1 hc).1).trans hc⟩
/-- The Kind of a plain type's values. -/
def pk (k : Int) : Int := if k = 1 then 0 else if k = 2 then 1 else if k = 3 then 2 else if k = 4 then 3 else if k = 5 then 3 else if k = 6 then 4 else if k = 7 then 5 else if k = 8 then 6 else 0
/-- What plain answers. -/
def plR (k : Int) : Array Value := if 1 ≤ k ∧ k ≤ 8 then #[.agg #[.int .i64 k, .int .i64 (pk k)], .bool true] else #[.agg #[.int .i64 0, .int .i64 0], .bool false]
theorem ix_pk (j : Nat) (hj : j < 8) (w : World) : (Instr.index 80 (.agg pkC) (.int .i64 j)).run Tryd.prog w = .ok (.agg #[.int .i64 ((j : Int) + 1), .int .i64 (pk ((j : Int) + 1))]) w := by
  match j, hj with
  | 0, _ => exact (show (Instr.index 80 (.agg pkC) (.int .i64 0)).run Tryd.prog w = .ok (.agg #[.int .i64 1, .int .i64 0]) w by kernel_rfl)
  | 1, _ => exact (show (Instr.index 80 (.agg pkC) (.int .i64 1)).run Tryd.prog w = .ok (.agg #[.int .i64 2, .int .i64 1]) w by kernel_rfl)
  | 2, _ => exact (show (Instr.index 80 (.agg pkC) (.int .i64 2)).run Tryd.prog w = .ok (.agg #[.int .i64 3, .int .i64 2]) w by kernel_rfl)
  | 3, _ => exact (show (Instr.index 80 (.agg pkC) (.int .i64 3)).run Tryd.prog w = .ok (.agg #[.int .i64 4, .int .i64 3]) w by kernel_rfl)
  | 4, _ => exact (show (Instr.index 80 (.agg pkC) (.int .i64 4)).run Tryd.prog w = .ok (.agg #[.int .i64 5, .int .i64 3]) w by kernel_rfl)
  | 5, _ => exact (show (Instr.index 80 (.agg pkC) (.int .i64 5)).run Tryd.prog w = .ok (.agg #[.int .i64 6, .int .i64 4]) w by kernel_rfl)
  | 6, _ => exact (show (Instr.index 80 (.agg pkC) (.int .i64 6)).run Tryd.prog w = .ok (.agg #[.int .i64 7, .int .i64 5]) w by kernel_rfl)
  | 7, _ => exact (show (Instr.index 80 (.agg pkC) (.int .i64 7)).run Tryd.prog w = .ok (.agg #[.int .i64 8, .int .i64 6]) w by kernel_rfl)
/-- An empty answer in a block of its own. -/
def PZ (W : World) (i : Nat) : Prop := W.heap[i]? = some (.cells #[.int .i64 0, .int .i64 0] 66 (0, 0))
theorem PZ.lt {W : World} {i : Nat} (q : PZ W i) : i < W.heap.size := (Array.getElem?_eq_some_iff.1 q).1
theorem PZ.below {W W1 : World} {i : Nat} (q : PZ W i) (h : Below W.heap.size W W1) : PZ W1 i := (h.block _ q.lt).trans q
theorem PZ.cells {W : World} {i : Nat} (q : PZ W i) : W.cell? ⟨i, 0, none⟩ = some (.int .i64 0) ∧ W.cell? ⟨i, 1, none⟩ = some (.int .i64 0) := by
  unfold PZ at q
  simp [World.cell?, q]
theorem PZ.frz {W : World} {i : Nat} (q : PZ W i) (j : Nat) : W.frozen? ⟨i, j, none⟩ = false := by
  unfold PZ at q
  simp [World.frozen?, q]
set_option maxHeartbeats 1000000 in
set_option maxRecDepth 100000 in
theorem plain_any (k : Int) (w : World) (g : Gt w) :
    Calls Tryd.prog 63 #[.int .i64 k] w fun e w' => e = .returned (.tuple (plR k)) ∧ Below w.heap.size w w' := by
  have hg := g.lt
  obtain ⟨t, fr, hc⟩ := g
  have hc1 : ∀ o, (w.alloc o).heap[0]? = some (.cells pkC t fr) := fun o => by rw [(below_al (Below.refl w.heap.size w)).block _ hg]; exact hc
  have hz0 := hide (show PZ (w.alloc (.cells #[.int .i64 0, .int .i64 0] 66)) w.heap.size from heap_alloc_last w _)
  clear hg hc
  go_enter Tryd.func63, Tryd.ntmps63
  go_wp2_with (refine wpList_load_row rfl 80 _ rfl 0 rfl t pkC fr _ (hc1 _) Tryd.underlying80 rfl (by kernel_rfl) ?_)
  clear hc1
  go_loopw [7] (fun i w' => ∃ j : Nat, j ≤ 8 ∧ i = .int .i64 j ∧ Hid ((∀ i : Nat, i < j → (i : Int) + 1 ≠ k) ∧ Below w.heap.size w w' ∧ PZ w' w.heap.size)) (fun i _ => (8 - intOf i).toNat)
  case atStart => exact ⟨0, by omega, rfl, (fun i h => by omega), below_al (Below.refl _ _), hz0.out⟩
  case round =>
    clear hz0
    obtain ⟨j, hj, rfl, H⟩ := hrel
    obtain ⟨z0, z1⟩ := H.out.2.2.cells
    have zf := H.out.2.2.frz
    have hlt := H.out.2.2.lt
    have zf' : ∀ o j, (wr.alloc o).frozen? ⟨w.heap.size, j, none⟩ = false := fun o j => (H.out.2.2.below (below_al (Below.refl _ _))).frz j
    have z0' : ∀ o, (wr.alloc o).cell? ⟨w.heap.size, 0, none⟩ = some (.int .i64 0) := fun o => (H.out.2.2.below (below_al (Below.refl _ _))).cells.1
    have z1' : ∀ o, (wr.alloc o).cell? ⟨w.heap.size, 1, none⟩ = some (.int .i64 0) := fun o => (H.out.2.2.below (below_al (Below.refl _ _))).cells.2
    by_cases hj8 : j < 8
    · have hji : (j : Int) < 8 := by omega
      have hix := ix_pk j hj8
      obtain ⟨J, hJ⟩ : ∃ J : Int, Hid (J = (j : Int) + 1) := ⟨_, rfl⟩
      rw [← hJ.out] at hix
      obtain ⟨V, hV⟩ : ∃ V : Int, Hid (V = pk J) := ⟨_, rfl⟩
      rw [← hV.out] at hix
      by_cases hk : J = k
      · subst hk
        have hR := hide (show plR J = #[.agg #[.int .i64 J, .int .i64 V], .bool true] by
          have := hJ.out
          rw [hV.out]
          unfold plR
          rw [if_pos (by omega)])
        go_wp2_with fail
        refine bodyPost_ret (v := .tuple #[.agg #[.int .i64 J, .int .i64 V], .bool true]) (by simp [results, Tryd.results63, go_sem, *]) rfl ⟨by rw [hR.out], ?_⟩
        repeat (first | exact H.out.2.1 | refine below_al ?_ | refine Below.setCell ?_ (by show _ ≤ _; exact Nat.le_refl _) _)
      · have hk' : (J == k) = false := beq_eq_false_iff_ne.2 hk
        go_wp2_with fail
        refine ⟨⟨j + 1, by omega, by go_num, ?_, below_al H.out.2.1, H.out.2.2.below (below_al (Below.refl _ _))⟩, by simp [intOf]; omega⟩
        intro i hi
        by_cases e : i = j
        · subst e
          rw [← hJ.out]
          exact hk
        · exact H.out.1 i (by omega)
    · have hji : ¬ (j : Int) < 8 := by omega
      have hR := hide (show plR k = #[.agg #[.int .i64 0, .int .i64 0], .bool false] by
        unfold plR
        rw [if_neg]
        rintro ⟨h1, h2⟩
        exact H.out.1 (k - 1).toNat (by omega) (by omega))
      go_wp2_with fail
      refine bodyPost_ret (v := .tuple #[.agg #[.int .i64 0, .int .i64 0], .bool false]) (by simp [results, Tryd.results63, go_sem, *]) rfl ⟨by rw [hR.out], ?_⟩
      repeat (first | exact H.out.2.1 | refine below_al ?_ | refine Below.setCell ?_ (by show _ ≤ _; exact Nat.le_refl _) _)
end Go.Proofs.YtolmbjeinilhlaaDoor
