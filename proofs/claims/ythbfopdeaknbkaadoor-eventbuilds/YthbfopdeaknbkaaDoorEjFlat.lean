/- event.Flatten: walked. -/
import Derived.Test.YthbfopdeaknbkaaDoorEiAll
namespace Go.Proofs.YthbfopdeaknbkaaDoor
open Go.RowKit Go.Shelf
set_option linter.unusedSimpArgs false
set_option linter.unusedVariables false
attribute [local go_sem] Oper.semAt_some
/-- Events' cells, one behind the other. -/
def ecs (l : List Hd) : List Value := l.flatMap (fun h => (evs h).toList)
def Stop (p : Prop) : Prop := p
theorem Stop.out {p : Prop} (h : Stop p) : p := h
theorem Stop.mk {p : Prop} (h : p) : Stop p := h
theorem ecs_app (a b : List Hd) : ecs (a ++ b) = ecs a ++ ecs b := by simp [ecs]
theorem ecs_one (h : Hd) : ecs [h] = (evs h).toList := by simp [ecs]
theorem infoE : (Tryd.prog.info? 42).map (fun i => (i.zero, i.size, i.bytes)) = some (some (.agg #[.int .i64 0, .bool false, .bool false, .string ⟨#[]⟩, .int .i64 0, .int .u64 0, .string ⟨#[]⟩]), 7, 72) := by kernel_rfl
theorem eb_own {β : Type} (B i : Nat) (x : Hd) : OwnFrom B (fun (_ : β) W => EB W i x) := fun s X Y row hs hg hr => by
  refine EB.same hs (hg.block i hs.lt (fun e => ?_))
  obtain ⟨_, o, ho, hc⟩ := hr i e.symm
  rw [show X.heap[i]? = _ from hs] at ho
  cases ho; cases hc
theorem kv_appended {W w1 : World} {n₀ B k : Nat} {v v' : Value} {xs : List Value} {tmp : Obj} (hv : Boxed W B 32 v) (hrow : W.ownsRow n₀ 42 7 v k xs) (hgrow : (W.alloc tmp).grownBy w1 v.ownBlock) : KV W (w1.setCell ⟨B, 0, none⟩ v') := by
  intro i c f e
  have hi : i < W.heap.size := (Array.getElem?_eq_some_iff.1 e).1
  have hiB : i ≠ B := by
    rintro rfl
    rw [show W.heap[i]? = _ from hv] at e
    cases e
  have hir : some i ≠ v.ownBlock := by
    rcases hrow.2 with ⟨rfl, _⟩ | ⟨g, cap, cur, rfl, _, hgb, _⟩
    · simp [Value.ownBlock]
    · intro e'
      obtain rfl : i = g := by simpa [Value.ownBlock] using e'
      rw [e] at hgb
      cases hgb
  rw [Below.heap_setCell _ _ _ i hiB, hgrow.block i (by simp; omega) hir, Below.heap_alloc W tmp i hi, e]
theorem kpK_b {n₀ : Nat} {w : World} (hn : n₀ ≤ w.heap.size) (W : World) (l : Nat) (o o' : Obj) (hl : w.heap.size ≤ l) (h : W.heap[l]? = some o) (h1 : o.isCells = false) (h2 : o.isWalk = false) : KP n₀ W (W.putObj l o') :=
  ⟨belowK_b hn W l o o' hl h h1 h2, fun i c f e => by
    have hil : i ≠ l := by
      rintro rfl
      rw [e] at h
      cases h; cases h1
    rw [World.putObj_heap_other hil, e]⟩
set_option maxHeartbeats 4000000 in
set_option maxRecDepth 100000 in
theorem flat_ok (n : Nat) (x : VT n) (ns ls : Value) (w : World) (hr : Rdy n w x ns ls) (g : Ut.Gu w) (hE : Chk n x 0) (hnm : NmOk n x) (hlen : (fl n x).length ≤ 1000000) (h1 : 1 ≤ (fl n x).length) :
    Calls Tryd.prog 11 #[.agg (vals (vhd n x) ns ls)] w fun e w' => ∃ v, e = .returned (.tuple #[v, .int .i64 0]) ∧ w'.ownsRow w.heap.size 42 7 v (fl n x).length (ecs (fl n x)) ∧ Below w.heap.size w w' := by
  refine (callsIn_wide (n := 10)).1 ?_
  obtain ⟨a1, m1, d1, a2, m2, d2, rfl, rfl⟩ := hr.rd.shape
  have ck := hide (fun W (hb : Below w.heap.size w W) m => (callsIn_wide (n := m)).2 (check_any n x (.slice a1 m1 d1) (.slice a2 m2 d2) W (hr.below hb) (g.below hb) 0 hE))
  have hA := hide (fun m W => all_in Fence.wide m trivial rfl (vhd n x) a1 m1 d1 a2 m2 d2 W)
  obtain ⟨i0, hi, hz0, hz1, hz2⟩ := info_parts infoE
  have hrd := hide hr.rd
  have fC : Fence.wide.fn 27 := trivial
  have fE : Fence.wide.fn 28 := trivial
  clear g hE hr
  generalize hh : vhd n x = h at *
  simp only [vals] at ck ⊢
  refine callsIn_of_wp_marks Tryd.func11 rfl trivial ?_ rfl
  simp only [Tryd.ntmps11, List.size_toArray, List.length_cons, List.length_nil, Nat.reduceAdd, Nat.reduceSub, Array.replicate_succ, Array.replicate_zero, List.push_toArray, List.append_toArray, List.nil_append, List.cons_append]
  gi_wp2_with (first
    | (gi_at_call 27; refine (ck.out _ (below_al (Below.refl _ _)) _).mono ?_; rintro e w1 ⟨rfl, hb1⟩; have z1 : w.heap.size < w1.heap.size := (Nat.lt_of_lt_of_le (by simp) hb1.size); have hB1 := hide (below_then (below_al (Below.refl _ _)) hb1); have bV := (bx_new w h (.slice a1 m1 d1) (.slice a2 m2 d2)).below hb1; obtain ⟨f0, f1, f2, f3, f4, f5, f6, f7, f8⟩ := bV.cells; clear hb1 bV)
    | (gi_at_call 28; refine (hA.out _ _).mono ?_; rintro e w2 ⟨rfl, rfl⟩))
  clear f0 f1 f2 f3 f4 f5 f6 f7 f8
  have bO := Boxed.new w1 32 (.slice none 0 0)
  have bN := bx_new (w1.alloc (.cells #[.slice none 0 0] 32)) h (.slice a1 m1 d1) (.slice a2 m2 d2)
  rw [World.size_alloc] at bN
  have hB0 : Below w.heap.size w ((w1.alloc (.cells #[.slice none 0 0] 32)).alloc (.cells (vals h (.slice a1 m1 d1) (.slice a2 m2 d2)) 29)) := below_al (below_al hB1.out)
  refine wpIn_rangeFunc_ownH rfl (by decide) (gf := 41) (lb := #[.pointer (some ⟨w1.heap.size + 1, 0, none⟩)]) rfl trivial (enters_of Tryd.func41 (by kernel_rfl) rfl)
    (all_stops Fence.wide rfl 9 trivial trivial rfl (w1.heap.size + 1) w n x _ _ _ hrd.out hnm hB0 (by rw [hh]; exact bN)) KP.trans (kpK_b (by simp; omega)) (Below.refl _ _) (fun _ => rfl)
    (fun pre W => (∃ v, Boxed W w1.heap.size 32 v ∧ W.ownsRow w.heap.size 42 7 v pre.length (ecs pre) ∧ True) ∧ Below w.heap.size w W)
    (fun _ _ _ => False)
    (OwnFrom.and (Own.from (holdsRow_own w.heap.size w1.heap.size 32 42 7 (fun pre => pre.length) (fun pre => ecs pre) (fun _ _ => True)) _) (ownFrom_below (Nat.le_refl _) (by simp; omega)))
    (fun _ _ _ _ _ hs _ _ => hs)
    ⟨⟨_, bO.alloc _, World.ownsRow_nil _ _ _ _, trivial⟩, hB0⟩
    (fun y a' W => ∃ Be, EB W Be y ∧ a' = { tmps := #[.agg (vals h (.slice a1 m1 d1) (.slice a2 m2 d2)), .pointer (some ⟨w.heap.size, 0, none⟩), .slice none 0 0, .int .i64 0, .int .i64 0, .pointer (some ⟨w1.heap.size, 0, none⟩), .pointer (some ⟨Be, 0, none⟩), .agg (vals h (.slice a1 m1 d1) (.slice a2 m2 d2)), .int .i64 0, .int .i64 0, .bool false, undef, .agg (vals h (.slice a1 m1 d1) (.slice a2 m2 d2)), .func (.func 41) #[] #[.pointer (some ⟨w1.heap.size + 1, 0, none⟩)], .agg (evs y), undef, undef, undef, undef, undef], defers := [] })
    (fun y a' => fun s X Y row hs hg hr => by
      obtain ⟨Be, h1, h2⟩ := hs
      exact ⟨Be, eb_own (β := Unit) _ Be y () X Y row h1 hg hr, h2⟩) ?assign ?body ?done ?stop
  case assign =>
    rintro l pre y W K ⟨⟨v, hv, hrow, _⟩, hB⟩ hK
    have hK' := hide (hK _ _ ((KeepsOthers.alloc W (.cells (evs y) 42)).from _) (KP.al ⟨Below.refl _ _, KV.refl _⟩ hB.size _) ⟨⟨v, hv.alloc _, hrow.alloc _, trivial⟩, below_al hB⟩ ⟨W.heap.size, EB.new W y, rfl⟩)
    clear hK hv hrow hB
    simp only [evs, vals] at hK' ⊢
    gi_wp2
    exact hK'.out
  case body =>
    rintro l pre y a' W _ _ ⟨⟨v, hv, hrow, _⟩, hB⟩ ⟨Be, hEB, rfl⟩ hlt
    have hc := hv.cell
    obtain ⟨c0, c1, c2, c3, c4, c5, c6⟩ := hEB.cells
    simp only [evs, vals]
    gi_wp2_with (gi_at_builtin; refine Stop.out ?_)
    refine Stop.mk ?_
    refine wpListIn_append_own _ rfl _ _ 32 rfl w.heap.size 42 i0 _ 7 72 Tryd.underlying32 hi hz0 hz1 hz2 rfl (by decide) _ _ _ rfl (hrow.alloc _) ⟨W.heap.size, 0, none⟩ 1 1 (evs y).toList rfl rfl ?cells (by simp [evs, Value.oneCell']) (by have : maxLen = 9223372036854775807 := rfl; omega) (by omega) (by have := hB.size; simp; omega) ?_
    · intro j u hj
      rw [Array.getElem?_toList] at hj
      have h0 := one_cell (w := W) (c1 := evs y) (T1 := 42) (Below.refl _ _) j
      rw [show (⟨W.heap.size, 0, none⟩ : Addr).add j = ⟨W.heap.size, j, none⟩ by unfold Addr.add; split <;> simp_all]
      exact h0.trans hj
    intro v' w3 hown' hgrow _
    obtain ⟨g', cap', rfl⟩ := ownsRow_succ hown'
    obtain ⟨hv1, hv2, hr2, hk2, hb2⟩ := hv.appended (by decide) hrow hB.size (by omega) hown' hgrow
    have hc1 := hv1.cell
    have hf1 := hv1.frozen
    have hkv := kv_appended (v' := .slice (some ⟨g', 0, none⟩) (pre.length + 1) cap') hv hrow hgrow
    clear c0 c1 c2 c3 c4 c5 c6 hc hgrow hown'
    gi_wp2
    exact ⟨hk2.from _, ⟨hb2, hkv⟩, ⟨_, hv2, by rw [ecs_app, ecs_one]; simpa using hr2, trivial⟩, hB.trans hb2⟩
  case done =>
    rintro D ys W hD rfl ⟨⟨v, hv, hrow, _⟩, hB⟩ hK
    have hc := hv.cell
    obtain ⟨k, hk⟩ : ∃ k, (fl n x).length = k + 1 := ⟨(fl n x).length - 1, by omega⟩
    rw [hk] at hrow
    obtain ⟨g', cap', rfl⟩ := ownsRow_succ hrow
    gi_wp2
    refine ⟨by simp, .inl ⟨_, _, rfl, run_takeDeferred hK, ?_⟩⟩
    refine ⟨.tuple #[.slice (some ⟨g', 0, none⟩) (k + 1) cap', .int .i64 0], by simp [results, Tryd.results11, go_sem], _, rfl, by rw [hk]; exact ownsRow_putObj hrow _ hK rfl, hB.trans (belowK_b (w := w) (Nat.le_refl _) W D _ _ (by simp at hD; omega) hK rfl rfl)⟩
  case stop =>
    rintro D c pre W _ _ h _
    exact h.elim
set_option maxHeartbeats 1000000 in
set_option maxRecDepth 100000 in
theorem flat_no (n : Nat) (x : VT n) (ns ls : Value) (w : World) (hr : Rdy n w x ns ls) (g : Ut.Gu w) (E : Int) (hE : Chk n x E) (h0 : E ≠ 0) :
    Calls Tryd.prog 11 #[.agg (vals (vhd n x) ns ls)] w fun e w' => e = .returned (.tuple #[.slice none 0 0, .int .i64 E]) ∧ Below w.heap.size w w' := by
  obtain ⟨a1, m1, d1, a2, m2, d2, rfl, rfl⟩ := hr.rd.shape
  have ck := hide (fun W (hb : Below w.heap.size w W) => check_any n x (.slice a1 m1 d1) (.slice a2 m2 d2) W (hr.below hb) (g.below hb) E hE)
  clear g hE hr
  generalize hh : vhd n x = h at *
  simp only [vals] at ck ⊢
  go_enter Tryd.func11, Tryd.ntmps11
  go_wp2_with (go_at_call 27; refine (ck.out _ (below_al (Below.refl _ _))).mono ?_; rintro e w1 ⟨rfl, hb1⟩; have hB1 := hide (below_then (below_al (Below.refl _ _)) hb1); clear hb1)
  exact bodyPost_ret (v := .tuple #[.slice none 0 0, .int .i64 E]) (by simp [results, Tryd.results11, go_sem]) rfl ⟨rfl, hB1.out⟩
theorem isv_nm : ∀ (n : Nat) (x : VT n), IsV n x → NmOk n x
  | 0, x, _ => Empty.elim x
  | n + 1, x, h => ⟨fun k => by rw [(h.2.1.2.2.1 k).1]; exact Nat.le_refl _, fun y hy => isv_nm n y (h.2.2 y hy)⟩
theorem preN_len (h : Hd) (i : Nat) : (preN h i).length ≤ 1 := by unfold preN; split <;> simp
theorem fl_len : ∀ (n : Nat) (x : VT n), (fl n x).length + 1 ≤ 4 * siz n x
  | 0, x => Empty.elim x
  | n + 1, (h, l) => by
    have hk : ∀ k, k ≤ l.length → (kids n h l k).length ≤ 4 * suml ((l.take k).map (siz n)) := by
      intro k
      induction k with
      | zero => intro _; simp [kids_zero]
      | succ k ih =>
        intro hk
        have h1 := ih (by omega)
        have h2 := fl_len n l[k]
        have h3 := preN_len h k
        rw [kids_succ n h l k (by omega), List.take_succ_eq_append_getElem (by omega), List.map_append, suml_app]
        simp only [List.length_append, List.map_cons, List.map_nil, suml]
        omega
    have h1 := hk l.length (Nat.le_refl _)
    rw [List.take_length] at h1
    rw [fl_succ]
    simp only [siz, List.length_cons]
    split
    · simp; omega
    · simp only [List.length_append, List.length_cons, List.length_nil]; omega
theorem fl_pos : ∀ (n : Nat) (x : VT n), 1 ≤ (fl n x).length
  | 0, x => Empty.elim x
  | n + 1, (h, l) => by rw [fl_succ]; simp
/-- What Flatten answers. -/
theorem flat_any (n : Nat) (x : VT n) (ns ls : Value) (w : World) (hr : Rdy n w x ns ls) (g : Ut.Gu w) (E : Int) (hE : Chk n x E) :
    Calls Tryd.prog 11 #[.agg (vals (vhd n x) ns ls)] w fun e w' => ∃ v, e = .returned (.tuple #[v, .int .i64 E]) ∧ Below w.heap.size w w' ∧ (E = 0 → w'.ownsRow w.heap.size 42 7 v (fl n x).length (ecs (fl n x))) ∧ (E ≠ 0 → v = .slice none 0 0) := by
  by_cases h0 : E = 0
  · subst h0
    have hv : IsV n x ∧ Win n x := by rcases hE with ⟨h, _⟩ | ⟨h, _⟩ | ⟨_, h⟩ <;> first | exact h | cases h
    have hl := fl_len n x
    have hs := hv.2.2.2
    refine (flat_ok n x ns ls w hr g hE (isv_nm n x hv.1) (by omega) (fl_pos n x)).mono ?_
    rintro e w' ⟨v, rfl, h1, h2⟩
    exact ⟨v, rfl, h2, fun _ => h1, fun h => absurd rfl h⟩
  · refine (flat_no n x ns ls w hr g E hE h0).mono ?_
    rintro e w' ⟨rfl, h2⟩
    exact ⟨_, rfl, h2, fun h => absurd h h0, fun _ => rfl⟩
end Go.Proofs.YthbfopdeaknbkaaDoor
