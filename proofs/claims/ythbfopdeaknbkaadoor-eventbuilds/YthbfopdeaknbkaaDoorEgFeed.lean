/- event's Checker: Feed: walked. -/
import Derived.Test.YthbfopdeaknbkaaDoorEfTake
namespace Go.Proofs.YthbfopdeaknbkaaDoor
open Go.RowKit
set_option linter.unusedSimpArgs false
set_option linter.unusedVariables false
theorem take_any {W : World} {i B n : Nat} {st : List Pa} {bg : Bool} (h : Hd) (hz : EvZ h) (c : CkA W i B n st bg) (hi : i < W.heap.size) (hn : n ≤ 50000) : Calls Tryd.prog 36 #[.pointer (some ⟨i, 0, none⟩), .agg (evs h)] W fun r w' => TakeP W i B n (stepE st bg h) r w' := by
  by_cases h10 : h.kind = 10
  · exact take_10 h hz h10 c hi hn
  · by_cases h11 : h.kind = 11
    · exact take_11 h h11 c hi
    · exact take_v h h10 h11 c hi hn
/-- A Checker, also a broken one. -/
def CkS (W : World) (i B n : Nat) : Option (List Pa × Bool) → Prop
  | none => Ck W i B (.slice none 0 0) [] false true
  | some x => CkA W i B n x.1 x.2
theorem CkS.then {W W1 : World} {i B n : Nat} {s : Option (List Pa × Bool)} (h : CkS W i B n s) (hb : Below W.heap.size W W1) : CkS W1 i B n s := by
  cases s with
  | none => exact Ck.then h hb
  | some x => exact CkA.then h hb
/-- What an event makes of a Checker, q telling whether it may be. -/
def feedE (s : Option (List Pa × Bool)) (q : Bool) (h : Hd) : Option (List Pa × Bool) := if q then s.bind fun x => stepE x.1 x.2 h else none
theorem brk {W : World} {i B : Nat} {v : Value} {b1 b2 : Bool} (k : KB W i v b1 b2) (h1 : i < B) (h2 : B ≤ W.heap.size) : Ck (((W.setCell ⟨i, 0, none⟩ (.slice none 0 0)).setCell ⟨i, 1, none⟩ (.bool false)).setCell ⟨i, 2, none⟩ (.bool true)) i B (.slice none 0 0) [] false true :=
  Ck.new (((k.set0 _).set1 _).set2 _) h1 (by simpa using h2)
set_option maxHeartbeats 2000000 in
set_option maxRecDepth 100000 in
theorem cfeed_any {W : World} {i B n : Nat} (s : Option (List Pa × Bool)) (h : Hd) (hz : EvZ h) (c : CkS W i B n s) (hi : i < W.heap.size) (hiB : i < B) (hB : B ≤ W.heap.size) (hn : n ≤ 50000) (g : Ut.Gu W) (q : Bool) (hq : q = true ↔ May h) :
    Calls Tryd.prog 23 #[.pointer (some ⟨i, 0, none⟩), .agg (evs h)] W fun r w' => r = .returned (.int .i64 (if (feedE s q h).isSome then 0 else 50)) ∧ CkS w' i B (n + 1) (feedE s q h) ∧ Below i W w' := by
  have hB0 : Hid (∀ o, Below W.heap.size W (W.alloc o)) := fun o => below_al (Below.refl _ _)
  have E0 := hide (EB.new W h)
  have mb := hide (fun o => mayBe_any h hz (W.alloc o) (g.below (below_al (Below.refl _ _))) q hq)
  cases s with
  | none =>
    have c' : Ck W i B (.slice none 0 0) [] false true := c
    obtain ⟨h0, h1, h2, h3, h4, h5⟩ := c'.kb.cells
    have hk := hide c'.kb
    have hf : feedE none q h = none := by unfold feedE; cases q <;> rfl
    rw [hf]
    clear c c' hf hq g
    obtain ⟨kd, fl, ng, dg, ex, bt, tx, nm⟩ := h
    simp only [evs]
    go_enter Tryd.func23, Tryd.ntmps23
    go_wp2
    go_ret
    refine ⟨rfl, Ck.then (brk hk.out hiB hB) (below_al (Below.refl _ _)), ?_⟩
    refine Below.alloc ?_ (by simp; omega) _
    iterate 3 refine Below.setCell ?_ (by show i ≤ i; exact Nat.le_refl _) _
    exact Below.refl _ _
  | some x =>
    obtain ⟨st, bg⟩ := x
    have c' : CkA W i B n st bg := c
    have hkb : ∃ v, KB W i v bg false := by obtain ⟨v, ps, k, _⟩ := c'; exact ⟨v, k.kb⟩
    obtain ⟨v0, hk0⟩ := hkb
    obtain ⟨h0, h1, h2, h3, h4, h5⟩ := hk0.cells
    cases q
    · have hf : feedE (some (st, bg)) false h = none := rfl
      rw [hf]
      have hk := hide hk0
      clear c c' hf hq g hk0
      obtain ⟨kd, fl, ng, dg, ex, bt, tx, nm⟩ := h
      simp only [evs] at mb ⊢
      go_enter Tryd.func23, Tryd.ntmps23
      go_wp2_with (go_at_call 35; refine (mb.out _).mono ?_; rintro e w1 ⟨rfl, hb1⟩; have B1 := hide (below_then (hB0.out _) hb1); have K1 := hide (hk.out.same (B1.out.block i hi)); clear hb1; obtain ⟨j0, j1, j2, l0, l1, l2⟩ := K1.out.cells)
      go_ret
      refine ⟨rfl, brk K1.out hiB (Nat.le_trans hB B1.out.size), ?_⟩
      iterate 3 refine Below.setCell ?_ (by show i ≤ i; exact Nat.le_refl _) _
      exact B1.out.mono (Nat.le_of_lt hi)
    · have hf : feedE (some (st, bg)) true h = stepE st bg h := rfl
      rw [hf]
      have tk := hide (fun W1 (hb : Below W.heap.size W W1) => take_any h hz (c'.then hb) (Nat.lt_of_lt_of_le hi hb.size) hn)
      have hk := hide hk0
      clear c c' hf hq g hk0
      obtain ⟨o, ho⟩ : ∃ o, stepE st bg h = o := ⟨_, rfl⟩
      rw [ho] at tk ⊢
      clear ho
      obtain ⟨kd, fl, ng, dg, ex, bt, tx, nm⟩ := h
      have E0' := E0
      simp only [evs] at mb tk ⊢
      cases o with
      | none =>
        go_enter Tryd.func23, Tryd.ntmps23
        go_wp2_with (first
          | (go_at_call 35; refine (mb.out _).mono ?_; rintro e w1 ⟨rfl, hb1⟩; have B1 := hide (below_then (hB0.out _) hb1); have E1 := hide (E0.out.below hb1); clear hb1; obtain ⟨d0, d1, d2, d3, d4, d5, d6⟩ := E1.out.cells; simp only at d0 d1 d2 d3 d4 d5 d6)
          | (go_at_call 36; refine (tk.out _ B1.out).mono ?_; rintro e w2 ⟨he, hb2, ⟨v2, b2, hk2⟩, _⟩; subst he; have B2 := hide hb2; have K2 := hide hk2; clear hb2 hk2; obtain ⟨j0, j1, j2, l0, l1, l2⟩ := K2.out.cells))
        go_ret
        refine ⟨rfl, brk K2.out hiB (Nat.le_trans hB (Nat.le_trans B1.out.size B2.out.size)), ?_⟩
        iterate 3 refine Below.setCell ?_ (by show i ≤ i; exact Nat.le_refl _) _
        exact (B1.out.mono (Nat.le_of_lt hi)).trans B2.out
      | some x =>
        go_enter Tryd.func23, Tryd.ntmps23
        go_wp2_with (first
          | (go_at_call 35; refine (mb.out _).mono ?_; rintro e w1 ⟨rfl, hb1⟩; have B1 := hide (below_then (hB0.out _) hb1); have E1 := hide (E0.out.below hb1); clear hb1; obtain ⟨d0, d1, d2, d3, d4, d5, d6⟩ := E1.out.cells; simp only at d0 d1 d2 d3 d4 d5 d6)
          | (go_at_call 36; refine (tk.out _ B1.out).mono ?_; rintro e w2 ⟨he, hb2, _, hc2⟩; subst he; have B2 := hide hb2; have C2 := hide (hc2 x rfl); clear hb2 hc2))
        go_ret
        exact ⟨rfl, C2.out, (B1.out.mono (Nat.le_of_lt hi)).trans B2.out⟩
end Go.Proofs.YthbfopdeaknbkaaDoor
