/- What awake leans on. -/
import Derived.Test.YthbfopdeaknbkaaDoorEoEx
namespace Go.Proofs.YthbfopdeaknbkaaDoor
open Go.RowKit
set_option linter.unusedSimpArgs false
set_option linter.unusedVariables false
theorem evs_len (h : Hd) : (evs h).toList.length = 7 := rfl
theorem ecs_len (es : List Hd) : (ecs es).length = es.length * 7 := by
  induction es with
  | nil => rfl
  | cons h es ih => simp only [ecs, List.flatMap_cons, List.length_append, List.length_cons] at *; rw [ih, evs_len]; omega
theorem ecs_at (es : List Hd) (i j : Nat) (hi : i < es.length) (hj : j < 7) : (ecs es)[i * 7 + j]? = (evs es[i]).toList[j]? := by
  induction es generalizing i with
  | nil => simp at hi
  | cons h es ih =>
    have e : ecs (h :: es) = (evs h).toList ++ ecs es := by simp [ecs]
    rw [e]
    cases i with
    | zero => rw [List.getElem?_append_left (by rw [evs_len]; omega)]; simp
    | succ i =>
      rw [List.getElem?_append_right (by rw [evs_len]; omega), evs_len, show (i + 1) * 7 + j - 7 = i * 7 + j by omega]
      exact ih i (by simpa using hi)
theorem el_row {W : World} {B g n cap : Nat} {es : List Hd} (h : W.ownsRow B 42 7 (.slice (some ⟨g, 0, none⟩) n cap) n (ecs es)) (hn : n = es.length) : EL W g 0 es := by
  intro i hi j v hj
  have hj7 : j < 7 := by have := (List.getElem?_eq_some_iff.1 hj).1; rw [evs_len] at this; exact this
  have hc := World.ownsRow.cellAt h (i * 7 + j) (by subst hn; omega)
  rw [Nat.zero_add, hc, ecs_at es i j hi hj7, hj]
theorem bd_row {W : World} {B g n cap : Nat} {es : List Hd} (h : W.ownsRow B 42 7 (.slice (some ⟨g, 0, none⟩) n cap) n (ecs es)) (hn : n = es.length) (hs : es.length ≤ 50000) (hz : ∀ e ∈ es, EvZ e) : Bd W es g 0 cap := by
  have hlt := (World.ownsRow.lt h g rfl).2
  rcases h.2 with ⟨h0, _⟩ | ⟨g', cap', cur, he, _, _, h1, h2, _⟩
  · cases h0
  · cases he
    exact ⟨el_row h hn, hlt, by omega, h2, hs, hz⟩
theorem Bd.take {W : World} {es : List Hd} {b o c k : Nat} (h : Bd W es b o c) : Bd W (es.take k) b o c :=
  ⟨fun i hi => by have := h.el i (by simp at hi; omega); rw [List.getElem_take]; exact this, h.lt, by have := h.len; simp; omega, h.max, by have := h.small; simp; omega, fun e he => h.ez e (List.mem_of_mem_take he)⟩
theorem row_news {W : World} {B T sz g n cap : Nat} {xs : List Value} (h : W.ownsRow B T sz (.slice (some ⟨g, 0, none⟩) n cap) n xs) : ∀ j u, xs[j]? = some u → W.cell? ((⟨g, 0, none⟩ : Addr).add j) = some u := by
  intro j u hj
  have hlt := (List.getElem?_eq_some_iff.1 hj).1
  have hc := World.ownsRow.cellAt h j (by rw [h.1] at hlt; exact hlt)
  rw [show (⟨g, 0, none⟩ : Addr).add j = ⟨g, j, none⟩ by unfold Addr.add; split <;> simp_all]
  rw [hc, hj]
theorem evs_one (h : Hd) : ∀ u ∈ (evs h).toList, u.oneCell' = true := by simp [evs, Value.oneCell']
theorem ecs_cell (es : List Hd) : ∀ u ∈ ecs es, u.oneCell' = true := by
  intro u hu
  unfold ecs at hu
  obtain ⟨h, _, hu⟩ := List.mem_flatMap.1 hu
  exact evs_one h u hu
theorem ev_news (w : World) (h : Hd) : ∀ j u, (evs h).toList[j]? = some u → (w.alloc (.cells (evs h) 42)).cell? ((⟨w.heap.size, 0, none⟩ : Addr).add j) = some u := by
  intro j u hj
  rw [Array.getElem?_toList] at hj
  rw [show (⟨w.heap.size, 0, none⟩ : Addr).add j = ⟨w.heap.size, j, none⟩ by unfold Addr.add; split <;> simp_all]
  exact (one_cell (w := w) (c1 := evs h) (T1 := 42) (Below.refl _ _) j).trans hj
theorem before_end {pre : List Hd} (h : runE (pre ++ [evE]) = some ([], true)) : runE pre ≠ none ∧ doneS (runE pre) = false := by
  unfold runE at h ⊢
  rw [runS_app, runS_cons, runS_nil] at h
  generalize runS (some ([], false)) pre = s at h ⊢
  cases s with
  | none => rw [feedE_none] at h; cases h
  | some x =>
    obtain ⟨st, bg⟩ := x
    rw [feedE_ok may_end] at h
    refine ⟨by simp, ?_⟩
    cases st with
    | nil => cases h
    | cons a r => rfl
theorem ex_run : runE (fl 3 exT) = some ([], true) := runE_fl 3 exT ex_isv
theorem ex_run7 : runE ((fl 3 exT).take 7) ≠ none ∧ doneS (runE ((fl 3 exT).take 7)) = false := before_end (by have := ex_run; exact this)
theorem ex_run9 : runE (fl 3 exT ++ [evE]) = none := by
  have h := ex_run
  unfold runE at h ⊢
  rw [runS_app, h, runS_cons, runS_nil, feedE_ok may_end]
  rfl
theorem ex_ez : ∀ e ∈ fl 3 exT ++ [evE], EvZ e := by
  intro e he
  rw [ex_fl] at he
  simp only [List.cons_append, List.nil_append, List.mem_cons, List.not_mem_nil, or_false] at he
  rcases he with rfl | rfl | rfl | rfl | rfl | rfl | rfl | rfl | rfl
  all_goals exact ⟨by decide, by decide, rfl⟩
def tagE : Hd := { zr 9 with text := ⟨#[116]⟩ }
theorem may_tag : May tagE := by
  unfold May
  rw [mayV_9 tagE (Or.inl rfl)]
  exact ⟨⟨(show (1 : Int) ≤ 9 by decide), (show (9 : Int) ≤ 9 by decide), rfl, Or.inl (show (7 : Int) ≤ 9 by decide)⟩, ⟨fun h => (by cases h), fun h => (by cases h), fun h => (by cases h), fun _ => ⟨by decide, rfl⟩⟩, ex_one isv_null1⟩
theorem may_null : May (zr 1) := by
  unfold May
  rw [mayV_o (zr 1) (by decide) (by decide) (by decide)]
  exact ⟨⟨(show (1 : Int) ≤ 1 by decide), (show (1 : Int) ≤ 9 by decide), rfl, Or.inr rfl⟩, ⟨fun h => (by cases h), fun h => (by cases h), fun h => (by cases h), fun h => (by cases h)⟩, fun y hy => (by cases hy)⟩
theorem st1 : feedE (some ([], false)) (mayB tagE) tagE = some ([(9, true, [])], true) := by rw [feedE_ok may_tag]; rfl
theorem st2 : feedE (some ([(9, true, [])], true)) (mayB (zr 1)) (zr 1) = some ([(9, false, [])], true) := by rw [feedE_ok may_null]; rfl
theorem st3 : feedE (some ([(9, false, [])], true)) (mayB evE) evE = some ([], true) := by rw [feedE_ok may_end]; rfl
theorem st4 : feedE (some ([], true)) (mayB (zr 1)) (zr 1) = none := by rw [feedE_ok may_null]; rfl
theorem ez_zr (k : Int) : EvZ (zr k) := ⟨by show 0 ≤ _; omega, by show 0 ≤ _; omega, rfl⟩
theorem ez_tag : EvZ tagE := ⟨by decide, by decide, rfl⟩
theorem CkS.open {W : World} {i B n : Nat} {st : List Pa} {bg : Bool} (h : CkS W i B n (some (st, bg))) : Calls Tryd.prog 21 #[.pointer (some ⟨i, 0, none⟩)] W fun r w' => r = .returned (.int .i64 st.length) ∧ w' = W := by
  obtain ⟨v, ps, c, hps, _⟩ := h
  have hps : (ps.map Pt.abs).reverse = st := hps
  have hl : ps.length = st.length := by rw [← hps]; simp
  refine (copen_any c).mono ?_
  rintro r w' ⟨rfl, rfl⟩
  rw [hl]
  exact ⟨rfl, rfl⟩
theorem null_chk : Chk 1 null1 0 := Or.inr (Or.inr ⟨rfl, isv_null1, ex_sht1, by decide, by decide⟩)
end Go.Proofs.YthbfopdeaknbkaaDoor
