/- calamuslaw13.LexPrints: walked. -/
import Derived.Test.YtjidnceccpmheaaGreatDoorZlGgPrint
import Derived.Test.YtjidnceccpmheaaGreatDoorZlAsAwake
import Derived.Laws.CopyRow
import Derived.Laws.MakeOwn
import Derived.Laws.CopyOwn
namespace Go.Proofs.YtjidnceccpmheaaGreatDoor
namespace Lx
open Go.RowKit
set_option linter.unusedSimpArgs false
set_option linter.unusedVariables false
theorem blk_set {W : World} {i : Nat} {a : Array Value} {T : TypeId} (q : W.heap[i]? = some (.cells a T (0, 0))) (j : Nat) (u : Value) : (W.setCell ⟨i, j, none⟩ u).heap[i]? = some (.cells (a.setIfInBounds j u) T (0, 0)) := by
  rw [setCell_eq_setRow W i j _ _ (0, 0) _ q, setRow_heap W i _ _ _ (0, 0) q]
/-- copy of elements of several cells. -/
theorem run_copy_wide {P : Program} (w : World) (dT sT ty elem : TypeId) (g dLen dCap : Nat) (a : Addr) (sLen sCap sz : Nat) (cur : Array Value) (t : TypeId) (cs : List Value)
    (hu : P.underlying dT = some (.slice elem)) (hs : (P.info? elem).map (·.size) = some sz)
    (hg : w.heap[g]? = some (.cells cur t (0, 0))) (hm : Nat.min sLen dLen = sLen) (hn : cs.length = sLen * sz)
    (hsrc : ∀ j v, cs[j]? = some v → w.cell? (a.add j) = some v) (hfit : 0 + cs.length ≤ cur.size) (h1 : ∀ v ∈ cs, v.oneCell' = true) :
    (Builtin.copy_ #[dT, sT] ty #[.slice (some ⟨g, 0, none⟩) dLen dCap, .slice (some a) sLen sCap]).run P w =
      .ok (goInt sLen) (w.setRow g (cur.toList.take 0 ++ cs ++ cur.toList.drop (0 + cs.length)).toArray) := by
  have hl := run_loadCells_list (P := P) w a cs hsrc
  have hst := run_storeCells_at P g 0 t cs 0 cur w hg (by simpa using hfit) h1
  cases hq : P.info? elem with
  | none => simp [hq] at hs
  | some i =>
    have hi : i.size = sz := by simpa [hq] using hs
    simp [Builtin.copy_, run_underlying hu, Builtin.lenOf, Builtin.firstCells, sizeOf, typeInfo, hq, hi, hm, ← hn, hl, hst]
/-- The row of the call's own, made and copied: a block in which the tokens stand, and room for one more. -/
def OwnK (W : World) (g : Nat) (es : List Tk) : Prop := ∃ cs : Array Value, W.heap[g]? = some (.cells cs 32 (0, 0)) ∧ cs.size = (es.length + 1) * 3 ∧ ∀ (j : Nat) (v : Value), (tcs es)[j]? = some v → cs[j]? = some v
theorem made_copied (w : World) (va : Option Addr) (vc : Nat) (es : List Tk) (hv : TS w (.slice va es.length vc) es) (cur : Array Value) (hc : cur.size = (es.length + 1) * 3) :
    ∃ W2, (Builtin.copy_ #[22, 22] 3 #[.slice (some ⟨w.heap.size, 0, none⟩) (es.length + 1) (es.length + 1), .slice va es.length vc]).run Tryz.prog (w.alloc (.cells cur 32)) = .ok (.int .i64 es.length) W2 ∧ OwnK W2 w.heap.size es ∧ Below w.heap.size w W2 := by
  obtain ⟨a', c', e, h1, h2, h3⟩ := hv
  cases e
  have hblk := heap_alloc_new w (.cells cur 32)
  have hsz : (Tryz.prog.info? 32).map (·.size) = some 3 := by
    obtain ⟨i0, hi, hz0, hz1, hz2⟩ := info_parts infoK
    rw [hi]; simp [hz1]
  by_cases h0 : es.length = 0
  · have e0 : es = [] := List.eq_nil_of_length_eq_zero h0
    subst e0
    have hr : (Builtin.copy_ #[22, 22] 3 #[.slice (some ⟨w.heap.size, 0, none⟩) 1 1, .slice va 0 vc]).run Tryz.prog (w.alloc (.cells cur 32)) = .ok (.int .i64 0) (w.alloc (.cells cur 32)) := by
      cases hq : Tryz.prog.info? 32 with
      | none => simp [hq] at hsz
      | some i =>
        cases va with
        | none => simp [Builtin.copy_, run_underlying Tryz.underlying22, Builtin.lenOf, Builtin.firstCells, sizeOf, typeInfo, hq, storeCells, loadCells, loadCellsFrom, goInt]
        | some a => simp [Builtin.copy_, run_underlying Tryz.underlying22, Builtin.lenOf, Builtin.firstCells, sizeOf, typeInfo, hq, storeCells, loadCells, loadCellsFrom, goInt]
    exact ⟨_, hr, ⟨cur, hblk, hc, fun j v hj => (by simp [tcs] at hj)⟩, below_al (Below.refl _ _)⟩
  · obtain ⟨b, o, rfl, hlt, hel⟩ := h3 (by omega)
    have hcl : (tcs es).length = es.length * 3 := by rw [tcs_len]; omega
    have hr := run_copy_wide (P := Tryz.prog) (w.alloc (.cells cur 32)) 22 22 3 32 w.heap.size (es.length + 1) (es.length + 1) ⟨b, o, none⟩ es.length vc 3 cur 32 (tcs es) Tryz.underlying22 hsz hblk (Nat.min_eq_left (by omega)) hcl ?_ (by omega) (tcs_cell _)
    · refine ⟨_, hr, ⟨_, setRow_heap _ _ _ _ _ _ hblk, ?_, ?_⟩, below_setRow (below_al (Below.refl _ _)) (Nat.le_refl _) _⟩
      · simp [hcl]; omega
      · intro j v hj
        have hjl := (List.getElem?_eq_some_iff.1 hj).1
        simp
        rw [List.getElem?_append_left hjl]
        exact hj
    · intro j v hj
      have hjl : j < es.length * 3 := by have := (List.getElem?_eq_some_iff.1 hj).1; omega
      have hi : j / 3 < es.length := by omega
      obtain ⟨q0, q1, q2⟩ := hel (j / 3) hi
      obtain ⟨r0, r1, r2⟩ := tcs_at es (j / 3) hi
      rw [show (⟨b, o, none⟩ : Addr).add j = ⟨b, o + j, none⟩ by unfold Addr.add; split <;> simp_all]
      rw [(below_al (Below.refl w.heap.size w)).cell (p := ⟨b, o + j, none⟩) hlt]
      have hm : j % 3 = 0 ∨ j % 3 = 1 ∨ j % 3 = 2 := by omega
      rcases hm with h | h | h
      · rw [show j / 3 * 3 = j by omega] at r0
        rw [hj] at r0
        rw [show o + j / 3 * 3 = o + j by omega] at q0
        rw [q0, r0]
      · rw [show j / 3 * 3 + 1 = j by omega] at r1
        rw [hj] at r1
        rw [show o + j / 3 * 3 + 1 = o + j by omega] at q1
        rw [q1, r1]
      · rw [show j / 3 * 3 + 2 = j by omega] at r2
        rw [hj] at r2
        rw [show o + j / 3 * 3 + 2 = o + j by omega] at q2
        rw [q2, r2]
theorem OwnK.cell {W : World} {g : Nat} {es : List Tk} (h : OwnK W g es) (j : Nat) (hj : j < 3) : (∃ u, W.cell? ⟨g, es.length * 3 + j, none⟩ = some u) ∧ W.frozen? ⟨g, es.length * 3 + j, none⟩ = false := by
  obtain ⟨cs, h1, h2, h3⟩ := h
  refine ⟨⟨cs[es.length * 3 + j]'(by omega), ?_⟩, by simp [World.frozen?, h1]⟩
  simp [World.cell?, h1]
theorem OwnK.set {W : World} {g : Nat} {es : List Tk} (h : OwnK W g es) (j : Nat) (u : Value) : OwnK (W.setCell ⟨g, es.length * 3 + j, none⟩ u) g es := by
  obtain ⟨cs, h1, h2, h3⟩ := h
  refine ⟨_, blk_set h1 _ u, by simpa using h2, fun k v hk => ?_⟩
  have hl := (List.getElem?_eq_some_iff.1 hk).1
  rw [tcs_len] at hl
  rw [Array.getElem?_setIfInBounds_ne (by omega)]
  exact h3 k v hk
theorem OwnK.lt {W : World} {g : Nat} {es : List Tk} (h : OwnK W g es) : g < W.heap.size := by
  obtain ⟨cs, h1, _⟩ := h
  exact (Array.getElem?_eq_some_iff.1 h1).1
theorem OwnK.ts {W : World} {g : Nat} {es : List Tk} (h : OwnK W g es) (hs : es.length + 1 ≤ maxLen) : TS W (.slice (some ⟨g, 0, none⟩) es.length (es.length + 1)) es := by
  have hlt := h.lt
  obtain ⟨cs, h1, h2, h3⟩ := h
  refine ⟨_, _, rfl, Nat.le_succ _, hs, fun _ => ⟨g, 0, rfl, hlt, fun i hi => ?_⟩⟩
  obtain ⟨r0, r1, r2⟩ := tcs_at es i hi
  have hc : ∀ q v, (tcs es)[q]? = some v → W.cell? ⟨g, 0 + q, none⟩ = some v := fun q v hq => by
    rw [Nat.zero_add]
    simp [World.cell?, h1]
    exact h3 q v hq
  exact ⟨hc _ _ r0, by rw [Nat.add_assoc]; exact hc _ _ r1, by rw [Nat.add_assoc]; exact hc _ _ r2⟩
theorem OwnK.setc {W : World} {g : Nat} {es : List Tk} (h : OwnK W g es) (j : Nat) (hj : j < 3) (u : Value) : (W.setCell ⟨g, es.length * 3 + j, none⟩ u).cell? ⟨g, es.length * 3 + j, none⟩ = some u := by
  obtain ⟨cs, h1, h2, h3⟩ := h
  have := blk_set h1 (es.length * 3 + j) u
  unfold World.cell?
  rw [this]
  show (cs.setIfInBounds (es.length * 3 + j) u)[es.length * 3 + j]? = some u
  rw [Array.getElem?_setIfInBounds_self_of_lt (by omega)]
theorem cell_ne {W : World} {g a b : Nat} {u : Value} (h : b ≠ a) : (W.setCell ⟨g, a, none⟩ u).cell? ⟨g, b, none⟩ = W.cell? ⟨g, b, none⟩ := by
  refine World.cell?_setCell_other _ _ _ _ ?_
  simp [Ne.symm h]
set_option maxHeartbeats 4000000 in
set_option maxRecDepth 100000 in
theorem prints_any (hP : ParseOk) (u : Value) (l : List Tk) (w : World) (g : Gg w) (hu : TS w u l) (hz : ∀ t ∈ l, t.s.length ≤ 1000000000000000) :
    Calls Tryz.prog 4 #[u] w fun e w' => e = .returned (.bool true) ∧ Below w.heap.size w w' := by
  have ml : maxLen = 2 ^ 63 - 1 := rfl
  have BG := hide (big_any u l w hu hz)
  obtain ⟨au, cu, rfl, hu1, hu2⟩ := hu.shape
  have g0 := hide g
  have hP0 := hide hP
  have TU := hide hu
  clear g hP hu hz
  go_enter Tryz.func4, Tryz.ntmps4
  go_wp2_with fail
  refine BG.out.mono ?_
  rintro e w1 ⟨b, rfl, hbt, hb1⟩
  have B1 := hide hb1
  clear hb1
  cases b
  · have htot := hbt rfl
    clear hbt
    have hle : l.length ≤ 65536 := by unfold tot at htot; omega
    obtain ⟨i0, hi, hz0, hz1, hz2⟩ := info_parts infoK
    have hmk := fun w => run_make (P := Tryz.prog) w 22 32 i0 _ Tryz.underlying22 hi hz0 .i64 .i64 ((l.length : Int) + 1) ((l.length : Int) + 1) (by omega) (by omega) (by rw [hz2]; omega) (by omega)
    rw [hz1] at hmk
    obtain ⟨cur, hcur⟩ : ∃ cur : Array Value, cur = madeCells (Value.agg #[.int .i64 0, .string ⟨#[]⟩, .int .i64 0]).cells (((l.length : Int) + 1).toNat * 3) := ⟨_, rfl⟩
    have hcs : cur.size = (l.length + 1) * 3 := by rw [hcur, size_madeCells]; omega
    rw [← hcur] at hmk
    have hto : ((l.length : Int) + 1).toNat = l.length + 1 := by omega
    rw [hto] at hmk
    obtain ⟨W2, hcp, hO, hB2⟩ := made_copied w1 au cu l (TU.out.below B1.out) cur hcs
    have O2 := hide hO
    have BW2 := hide hB2
    clear hcur hcs hto hi hz0 hz1 hz2 hO hB2
    obtain ⟨⟨u0, k0⟩, f0⟩ := O2.out.cell 0 (by omega)
    obtain ⟨⟨u1, k1⟩, f1⟩ := O2.out.cell 1 (by omega)
    obtain ⟨⟨u2, k2⟩, f2⟩ := O2.out.cell 2 (by omega)
    simp only [Nat.add_zero] at k0 f0
    have hli : (l.length : Int) < (l.length : Int) + 1 := by omega
    go_wp2_with (go_at_call 10; refine Sto.out ?_)
    have hW : ∀ W, W = (((W2.setCell ⟨w1.heap.size, l.length * 3, none⟩ (.int .i64 0)).setCell ⟨w1.heap.size, l.length * 3 + 1, none⟩ (.string ⟨#[]⟩)).setCell ⟨w1.heap.size, l.length * 3 + 2, none⟩ (.int .i64 77)) → OwnK W w1.heap.size l ∧ (W.cell? ⟨w1.heap.size, l.length * 3, none⟩ = some (.int .i64 0) ∧ W.cell? ⟨w1.heap.size, l.length * 3 + 1, none⟩ = some (.string ⟨#[]⟩) ∧ W.cell? ⟨w1.heap.size, l.length * 3 + 2, none⟩ = some (.int .i64 77)) ∧ Below w1.heap.size w1 W := by
      rintro W rfl
      refine ⟨((O2.out.set 0 _).set 1 _).set 2 _, ⟨?_, ?_, ?_⟩, ?_⟩
      · rw [cell_ne (by omega), cell_ne (by omega)]
        exact O2.out.setc 0 (by omega) _
      · rw [cell_ne (by omega)]
        exact (O2.out.set 0 _).setc 1 (by omega) _
      · exact ((O2.out.set 0 _).set 1 _).setc 2 (by omega) _
      · iterate 3 refine Below.setCell ?_ (by show w1.heap.size ≤ w1.heap.size; exact Nat.le_refl _) _
        exact BW2.out
    obtain ⟨W3, hW3⟩ : ∃ W3, W3 = (((W2.setCell ⟨w1.heap.size, l.length * 3, none⟩ (.int .i64 0)).setCell ⟨w1.heap.size, l.length * 3 + 1, none⟩ (.string ⟨#[]⟩)).setCell ⟨w1.heap.size, l.length * 3 + 2, none⟩ (.int .i64 77)) := ⟨_, rfl⟩
    rw [← hW3]
    obtain ⟨o3, c3, b3⟩ := hW W3 hW3
    have C3 := hide c3
    have B3 : Hid (Below w.heap.size w W3) := below_then B1.out b3
    have S3 : Hid (TS W3 (.slice (some ⟨w1.heap.size, 0, none⟩) l.length (l.length + 1)) l) := o3.ts (by omega)
    have z3 := o3.lt
    clear o3 c3 b3 hW hW3 k0 k1 k2 f0 f1 f2 hcp hmk O2 BW2
    have P4 := hide (print_any hP0.out _ l W3 S3.out (g0.out.below B3.out g0.out.sz) (by omega))
    have R5 := hide (fun W (b : Below w.heap.size w W) => rprint_any (.slice au l.length cu) l W (TU.out.below b) (by omega))
    obtain ⟨x0, hx0⟩ : ∃ x0, prR l = x0 := ⟨_, rfl⟩
    rw [hx0] at P4 R5
    obtain ⟨e0, T0⟩ := x0
    simp only [prE] at P4 R5
    obtain ⟨s0, hs0⟩ : ∃ s0, mkB T0 = s0 := ⟨_, rfl⟩
    rw [hs0] at P4 R5
    clear hx0 hs0
    have n1 : (s0.toList == s0.toList) = true := by simp
    have n2 : ((e0 : Int) == (e0 : Int)) = true := by simp
    refine Sto.mk (P4.out.mono ?_)
    rintro e w4 ⟨rfl, hb4⟩
    have B4 := hide (below_then B3.out hb4)
    have B34 := hide hb4
    clear hb4
    go_wp2_with (first | (go_at_call 11; refine (R5.out _ B4.out).mono ?_; rintro e w5 ⟨rfl, hb5⟩; have B5 := hide (below_then B4.out hb5); have B35 := hide (below_then B34.out hb5); clear hb5) | (go_at_call 7; refine (awake_any hP0.out _ (g0.out.below B5.out g0.out.sz)).mono ?_; rintro e w6 ⟨rfl, hb6⟩; have B6 := hide (below_then B5.out hb6); have B36 := hide (below_then B35.out hb6); have EX := hide (exact_any _ _ l w6 (S3.out.below B36.out) (TU.out.below B6.out)); clear hb6) | (go_at_call 8; refine EX.out.mono ?_; rintro e w7 ⟨rfl, hb7⟩; have B7 := hide (below_then B6.out hb7); have B37 := hide (below_then B36.out hb7); have hc : ∀ x, w7.cell? ⟨w1.heap.size, x, none⟩ = W3.cell? ⟨w1.heap.size, x, none⟩ := (fun x => World.cell?_of_block (w := W3) (B37.out.block _ z3)); have d0 : w7.cell? ⟨w1.heap.size, l.length * 3, none⟩ = some (.int .i64 0) := (hc _).trans C3.out.1; have d1 : w7.cell? ⟨w1.heap.size, l.length * 3 + 1, none⟩ = some (.string ⟨#[]⟩) := (hc _).trans C3.out.2.1; have d2 : w7.cell? ⟨w1.heap.size, l.length * 3 + 2, none⟩ = some (.int .i64 77) := (hc _).trans C3.out.2.2; clear hb7 hc))
    go_ret
    exact ⟨rfl, B7.out⟩
  · clear hbt
    go_wp2
    go_ret
    exact ⟨rfl, B1.out⟩
end Lx
end Go.Proofs.YtjidnceccpmheaaGreatDoor
