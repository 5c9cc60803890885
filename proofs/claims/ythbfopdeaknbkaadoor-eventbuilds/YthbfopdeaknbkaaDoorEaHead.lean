/- event.head, mayBe: walked. -/
import Derived.Test.YthbfopdeaknbkaaDoorWiCheck
namespace Go.Proofs.YthbfopdeaknbkaaDoor
open Go.RowKit
set_option linter.unusedSimpArgs false
set_option linter.unusedVariables false
/-- An event's cells (its names are none). -/
def evs (h : Hd) : Array Value := #[.int .i64 h.kind, .bool h.flag, .bool h.neg, .string h.dig, .int .i64 h.exp, .int .u64 h.bits, .string h.text]
/-- Nothing of an event is longer than memory is. -/
def EvZ (h : Hd) : Prop := h.text.size ≤ 281474976710656 ∧ h.dig.size ≤ 281474976710656 ∧ h.names = []
theorem head_any (h : Hd) (w : World) : Calls Tryd.prog 45 #[.agg (evs h)] w fun e w' => e = .returned (.agg (vals h (.slice none 0 0) (.slice none 0 0))) ∧ Below w.heap.size w w' := by
  unfold evs
  go_enter Tryd.func45, Tryd.ntmps45
  go_wp2
  exact bodyPost_ret (v := .agg #[.int .i64 h.kind, .bool h.flag, .bool h.neg, .string h.dig, .int .i64 h.exp, .int .u64 h.bits, .string h.text, .slice none 0 0, .slice none 0 0]) (by simp [results, Tryd.results45, go_sem]) rfl ⟨rfl, by repeat (first | exact Below.refl _ _ | refine below_al ?_)⟩
/-- A tree of two. -/
def tv (h : Hd) (l : List (VT 1)) : VT 2 := (h, l)
def null1 : VT 1 := (zr 1, [])
/-- The value that an event is held for, as far as it may be. -/
def mayV (h : Hd) : VT 2 := if h.kind = 9 ∨ h.kind = 10 then tv { h with kind := 9 } [null1] else if h.kind = 11 then tv { h with kind := 1 } [] else tv h []
/-- May an event be? -/
def May (h : Hd) : Prop := IsV 2 (mayV h)
/-- An event in a block of its own. -/
def EB (W : World) (i : Nat) (h : Hd) : Prop := W.heap[i]? = some (.cells (evs h) 42 (0, 0))
theorem EB.new (w : World) (h : Hd) : EB (w.alloc (.cells (evs h) 42)) w.heap.size h := heap_alloc_new _ _
theorem EB.lt {W : World} {i : Nat} {h : Hd} (q : EB W i h) : i < W.heap.size := by
  by_cases k : i < W.heap.size
  · exact k
  · unfold EB at q
    rw [Array.getElem?_eq_none (by omega)] at q
    cases q
theorem EB.same {W W1 : World} {i : Nat} {h : Hd} (q : EB W i h) (k : W1.heap[i]? = W.heap[i]?) : EB W1 i h := by unfold EB; rw [k]; exact q
theorem EB.below {W W1 : World} {i : Nat} {h : Hd} (q : EB W i h) (hb : Below W.heap.size W W1) : EB W1 i h := q.same (hb.block _ q.lt)
theorem EB.cells {W : World} {i : Nat} {h : Hd} (q : EB W i h) : W.cell? ⟨i, 0, none⟩ = some (.int .i64 h.kind) ∧ W.cell? ⟨i, 1, none⟩ = some (.bool h.flag) ∧ W.cell? ⟨i, 2, none⟩ = some (.bool h.neg) ∧ W.cell? ⟨i, 3, none⟩ = some (.string h.dig) ∧ W.cell? ⟨i, 4, none⟩ = some (.int .i64 h.exp) ∧ W.cell? ⟨i, 5, none⟩ = some (.int .u64 h.bits) ∧ W.cell? ⟨i, 6, none⟩ = some (.string h.text) := by
  unfold EB evs at q
  simp [World.cell?, q]
theorem sz_one {h : Hd} (hz : EvZ h) (k : Int) : Sz 2 (tv { h with kind := k } []) := ⟨hz.1, hz.2.1, by show h.names.length ≤ _; rw [hz.2.2]; simp, by intro s hs; have : s ∈ h.names := hs; rw [hz.2.2] at this; simp at this, by intro y hy; exact absurd hy (by simp [tv])⟩
theorem rd_bare (w : World) (h : Hd) (hn : h.names = []) : RD 2 w (tv h []) (.slice none 0 0) (.slice none 0 0) := ⟨Or.inl ⟨rfl, hn⟩, Or.inl ⟨rfl, rfl⟩⟩
/-- Check of what an event is held for. -/
theorem chk40 {n : Nat} {x : VT n} {E : Int} (h : Chk n x E) : E ≠ 40 ↔ IsV n x := by
  rcases h with ⟨rfl, h⟩ | ⟨rfl, h, _⟩ | ⟨rfl, h, _⟩
  · simp [h]
  · simp [h]
  · simp [h]
theorem mayV_9 (h : Hd) (k : h.kind = 9 ∨ h.kind = 10) : mayV h = tv { h with kind := 9 } [null1] := if_pos k
theorem mayV_11 (h : Hd) (k : h.kind = 11) : mayV h = tv { h with kind := 1 } [] := (if_neg (by omega)).trans (if_pos k)
theorem mayV_o (h : Hd) (k : h.kind ≠ 9) (k2 : h.kind ≠ 10) (k3 : h.kind ≠ 11) : mayV h = tv h [] := (if_neg (by omega)).trans (if_neg k3)
theorem may_q {h : Hd} {x : VT 2} {E : Int} {q : Bool} (hx : mayV h = x) (hE : Chk 2 x E) (hq : q = true ↔ May h) : (E != 40) = q := by
  have hm : May h ↔ E ≠ 40 := by rw [chk40 hE]; unfold May; rw [hx]
  rw [Bool.eq_iff_iff, hq, hm]; simp
set_option maxHeartbeats 2000000 in
set_option maxRecDepth 100000 in
theorem mayBe_11 (h : Hd) (hz : EvZ h) (w : World) (g : Ut.Gu w) (q : Bool) (hq : q = true ↔ May h) (h11 : h.kind = 11) : Calls Tryd.prog 35 #[.agg (evs h)] w fun e w' => e = .returned (.bool q) ∧ Below w.heap.size w w' := by
  have hd := hide (head_any h)
  obtain ⟨E, hE⟩ := chk_ex 2 (tv { h with kind := 1 } [])
  have hfin := may_q (mayV_11 h h11) hE hq
  have ck := hide (fun W (hb : Below w.heap.size w W) => check_any 2 (tv { h with kind := 1 } []) (.slice none 0 0) (.slice none 0 0) W ⟨rd_bare W _ hz.2.2, sz_one hz 1, by simp [siz, suml, tv]⟩ (g.below hb) E hE)
  clear hq hE g hz
  obtain ⟨kd, fl, ng, dg, ex, bt, tx, nm⟩ := h
  simp only at h11
  subst h11
  have hfin' := hide hfin
  clear hfin
  simp only [vhd, vals, evs, tv] at ck hd ⊢
  go_enter Tryd.func35, Tryd.ntmps35
  go_wp2_with (go_at_call 45; refine (hd.out _).mono ?_; rintro e w1 ⟨rfl, hb1⟩; have B1 := hide (below_then (below_al (Below.refl _ _)) hb1); have d0 : w1.cell? ⟨w.heap.size, 0, none⟩ = some (.int .i64 11) := one_cell hb1 0; have z1 : w.heap.size < w1.heap.size := (Nat.lt_of_lt_of_le (by simp) hb1.size); clear hb1)
  refine (ck.out _ (below_al B1.out)).mono ?_
  rintro e w2 ⟨rfl, hb2⟩
  have B2 := hide (below_then (below_al (o := .cells #[.int .i64 1, .bool fl, .bool ng, .string dg, .int .i64 ex, .int .u64 bt, .string tx, .slice none 0 0, .slice none 0 0] 29) B1.out) hb2)
  clear hb2
  go_wp2_with fail
  go_ret
  exact ⟨by rw [← hfin'.out]; rfl, B2.out⟩
set_option maxHeartbeats 2000000 in
set_option maxRecDepth 100000 in
theorem mayBe_o (h : Hd) (hz : EvZ h) (w : World) (g : Ut.Gu w) (q : Bool) (hq : q = true ↔ May h) (h9 : h.kind ≠ 9) (h10 : h.kind ≠ 10) (h11 : h.kind ≠ 11) : Calls Tryd.prog 35 #[.agg (evs h)] w fun e w' => e = .returned (.bool q) ∧ Below w.heap.size w w' := by
  have hd := hide (head_any h)
  obtain ⟨E, hE⟩ := chk_ex 2 (tv h [])
  have hfin := may_q (mayV_o h h9 h10 h11) hE hq
  have ck := hide (fun W (hb : Below w.heap.size w W) => check_any 2 (tv h []) (.slice none 0 0) (.slice none 0 0) W ⟨rd_bare W _ hz.2.2, sz_one hz h.kind, by simp [siz, suml, tv]⟩ (g.below hb) E hE)
  clear hq hE g hz
  obtain ⟨kd, fl, ng, dg, ex, bt, tx, nm⟩ := h
  simp only at h9 h10 h11
  have hfin' := hide hfin
  clear hfin
  simp only [vhd, vals, evs, tv] at ck hd ⊢
  go_enter Tryd.func35, Tryd.ntmps35
  go_wp2_with (go_at_call 45; refine (hd.out _).mono ?_; rintro e w1 ⟨rfl, hb1⟩; have B1 := hide (below_then (below_al (Below.refl _ _)) hb1); have d0 : w1.cell? ⟨w.heap.size, 0, none⟩ = some (.int .i64 kd) := one_cell hb1 0; have z1 : w.heap.size < w1.heap.size := (Nat.lt_of_lt_of_le (by simp) hb1.size); clear hb1)
  refine (ck.out _ (below_al B1.out)).mono ?_
  rintro e w2 ⟨rfl, hb2⟩
  have B2 := hide (below_then (below_al (o := .cells #[.int .i64 kd, .bool fl, .bool ng, .string dg, .int .i64 ex, .int .u64 bt, .string tx, .slice none 0 0, .slice none 0 0] 29) B1.out) hb2)
  clear hb2
  go_wp2_with fail
  go_ret
  exact ⟨by rw [← hfin'.out]; rfl, B2.out⟩
theorem rd_tag (W : World) (h : Hd) (hn : h.names = []) (i : Nat) (hi : W.heap[i]? = some (.cells (vals (zr 1) (.slice none 0 0) (.slice none 0 0)) 29 (0, 0))) : RD 2 W (tv h [null1]) (.slice none 0 0) (.slice (some ⟨i, 0, none⟩) 1 1) := by
  have b : Bx W i (zr 1) (.slice none 0 0) (.slice none 0 0) := ⟨hi⟩
  refine ⟨Or.inl ⟨rfl, hn⟩, Or.inr ⟨i, 0, 1, none, rfl, Nat.le_refl _, by decide, fun _ => ⟨rfl, b.lt⟩, fun k hk => ?_⟩⟩
  have hk0 : k = 0 := by have : k < 1 := hk; omega
  subst hk0
  exact ⟨.slice none 0 0, .slice none 0 0, b.range, ⟨Or.inl ⟨rfl, rfl⟩, Or.inl ⟨rfl, rfl⟩⟩⟩
theorem sz_tag {h : Hd} (hz : EvZ h) : Sz 2 (tv { h with kind := 9 } [null1]) := ⟨hz.1, hz.2.1, by show h.names.length ≤ _; rw [hz.2.2]; simp, by intro s hs; have : s ∈ h.names := hs; rw [hz.2.2] at this; simp at this, by
  intro y hy
  have hy2 : y = null1 := by simpa [tv] using hy
  subst hy2
  exact ⟨by decide, by decide, by simp [zr, null1], by intro s hs; simp [zr, null1] at hs, by intro y hy; exact absurd hy (by simp [null1])⟩⟩
set_option maxHeartbeats 2000000 in
set_option maxRecDepth 100000 in
theorem mayBe_9 (h : Hd) (hz : EvZ h) (w : World) (g : Ut.Gu w) (q : Bool) (hq : q = true ↔ May h) (k9 : h.kind = 9 ∨ h.kind = 10) : Calls Tryd.prog 35 #[.agg (evs h)] w fun e w' => e = .returned (.bool q) ∧ Below w.heap.size w w' := by
  have hd := hide (head_any h)
  obtain ⟨E, hE⟩ := chk_ex 2 (tv { h with kind := 9 } [null1])
  have hfin := may_q (mayV_9 h k9) hE hq
  have ck := hide (fun W i (hb : Below w.heap.size w W) hi => check_any 2 (tv { h with kind := 9 } [null1]) (.slice none 0 0) (.slice (some ⟨i, 0, none⟩) 1 1) W ⟨rd_tag W _ hz.2.2 i hi, sz_tag hz, by show 1 + ((1 + 0) + 0) ≤ 200000; decide⟩ (g.below hb) E hE)
  clear hq hE g hz
  obtain ⟨kd, fl, ng, dg, ex, bt, tx, nm⟩ := h
  have hfin' := hide hfin
  clear hfin
  simp only at k9
  rcases k9 with k9 | k9
  all_goals
    subst k9
    simp only [vhd, vals, evs, tv, zr] at ck hd ⊢
    go_enter Tryd.func35, Tryd.ntmps35
    go_wp2_with (go_at_call 45; refine (hd.out _).mono ?_; rintro e w1 ⟨rfl, hb1⟩; have B1 := hide (below_then (below_al (Below.refl _ _)) hb1); have d0 : w1.cell? ⟨w.heap.size, 0, none⟩ = some (.int .i64 _) := one_cell hb1 0; have z1 : w.heap.size < w1.heap.size := (Nat.lt_of_lt_of_le (by simp) hb1.size); clear hb1)
    have hi : ∀ o, ((w1.alloc o).alloc (.cells #[.int .i64 1, .bool false, .bool false, .string ⟨#[]⟩, .int .i64 0, .int .u64 0, .string ⟨#[]⟩, .slice none 0 0, .slice none 0 0] 29)).heap[w1.heap.size + 1]? = some (.cells #[.int .i64 1, .bool false, .bool false, .string ⟨#[]⟩, .int .i64 0, .int .u64 0, .string ⟨#[]⟩, .slice none 0 0, .slice none 0 0] 29 (0, 0)) := fun o => by
      rw [show w1.heap.size + 1 = (w1.alloc o).heap.size by simp]
      exact heap_alloc_new _ _
    refine (ck.out _ _ (below_al (below_al B1.out)) (hi _)).mono ?_
    rintro e w2 ⟨rfl, hb2⟩
    have B2 := hide (below_then (below_al (below_al B1.out)) hb2)
    clear hb2 hi
    go_wp2_with fail
    go_ret
    exact ⟨by rw [← hfin'.out]; rfl, B2.out⟩
theorem mayBe_any (h : Hd) (hz : EvZ h) (w : World) (g : Ut.Gu w) (q : Bool) (hq : q = true ↔ May h) : Calls Tryd.prog 35 #[.agg (evs h)] w fun e w' => e = .returned (.bool q) ∧ Below w.heap.size w w' := by
  by_cases h9 : h.kind = 9 ∨ h.kind = 10
  · exact mayBe_9 h hz w g q hq h9
  · by_cases h11 : h.kind = 11
    · exact mayBe_11 h hz w g q hq h11
    · exact mayBe_o h hz w g q hq (by omega) (by omega) h11
end Go.Proofs.YthbfopdeaknbkaaDoor
