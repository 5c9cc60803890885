/- Rows of tokens that are read; calamusref13.Same, calamuslaw13.exact, big: walked. -/
import Derived.Test.YtjidnceccpmheaaDoorAmScan
import Derived.BigQuiet
namespace Go.Proofs.YtjidnceccpmheaaDoor
namespace Lx
open Go.RowKit
set_option linter.unusedSimpArgs false
set_option linter.unusedVariables false
theorem below_drewN (w : World) (n B : Nat) : Below B w (w.drewN n) := ⟨rfl, rfl, rfl, Nat.le_refl _, fun _ _ => rfl⟩
theorem add_none0 (g q : Nat) : ((⟨g, 0, none⟩ : Addr).add q) = ⟨g, 0 + q, none⟩ := by
  unfold Addr.add
  split
  · rename_i h; rw [h]
  · simp
/-- A slice reads as tokens. -/
def TS (W : World) (v : Value) (l : List Tk) : Prop := ∃ a c, v = .slice a l.length c ∧ l.length ≤ c ∧ c ≤ maxLen ∧ (0 < l.length → ∃ b o, a = some ⟨b, o, none⟩ ∧ b < W.heap.size ∧ ∀ k (h : k < l.length), W.cell? ⟨b, o + k * 3, none⟩ = some (.int .i64 l[k].w) ∧ W.cell? ⟨b, o + k * 3 + 1, none⟩ = some (.string (mkB l[k].s)) ∧ W.cell? ⟨b, o + k * 3 + 2, none⟩ = some (.int .i64 l[k].p))
theorem TS.of {w W : World} {v : Value} {l : List Tk} (h : TS w v l) (hz : w.heap.size ≤ W.heap.size) (hb : ∀ k, k < w.heap.size → W.heap[k]? = w.heap[k]?) : TS W v l := by
  obtain ⟨a, c, rfl, h1, h2, h3⟩ := h
  refine ⟨a, c, rfl, h1, h2, fun hp => ?_⟩
  obtain ⟨b, o, e, hlt, hc⟩ := h3 hp
  refine ⟨b, o, e, by omega, fun k hk => ?_⟩
  have hq : ∀ x, W.cell? ⟨b, x, none⟩ = w.cell? ⟨b, x, none⟩ := fun x => World.cell?_of_block (w := w) (hb b hlt)
  rw [hq, hq, hq]
  exact hc k hk
theorem TS.below {w W : World} {v : Value} {l : List Tk} (h : TS w v l) (hb : Below w.heap.size w W) : TS W v l := h.of hb.size hb.block
theorem TS.nil (W : World) : TS W (.slice none 0 0) [] := ⟨none, 0, rfl, by simp, by unfold maxLen; omega, fun h => by simp at h⟩
theorem tcs_at : ∀ (l : List Tk) (k : Nat) (h : k < l.length), (tcs l)[k * 3]? = some (.int .i64 l[k].w) ∧ (tcs l)[k * 3 + 1]? = some (.string (mkB l[k].s)) ∧ (tcs l)[k * 3 + 2]? = some (.int .i64 l[k].p)
  | [], k, h => by simp at h
  | t :: l, 0, h => by simp [tcs]
  | t :: l, k + 1, h => by
    have := tcs_at l k (by simpa using h)
    have e : tcs (t :: l) = [.int .i64 t.w, .string (mkB t.s), .int .i64 t.p] ++ tcs l := by simp [tcs]
    rw [e]
    have ap : ∀ q, ([.int .i64 t.w, .string (mkB t.s), .int .i64 t.p] ++ tcs l : List Value)[3 + q]? = (tcs l)[q]? := fun q => by rw [List.getElem?_append_right (by simp)]; simp
    have e1 : (k + 1) * 3 = 3 + k * 3 := by omega
    have e2 : (k + 1) * 3 + 1 = 3 + (k * 3 + 1) := by omega
    have e3 : (k + 1) * 3 + 2 = 3 + (k * 3 + 2) := by omega
    rw [e2, e3, e1, ap, ap, ap]
    simpa using this
theorem OT.ts {W : World} {B : Nat} {v : Value} {l : List Tk} (h : OT W B v l) (hl : l.length ≤ 100000) : TS W v l := by
  have hc := h
  have hlt := World.ownsRow.lt h
  rcases h.2 with ⟨rfl, h0⟩ | ⟨g, cap, cur, rfl, h1, h2, h3, h4, h5⟩
  · have : l = [] := List.length_eq_zero_iff.1 h0
    subst this
    exact TS.nil W
  · refine ⟨_, cap, rfl, h3, by first | exact h4 | (unfold maxLen; omega), fun hp => ⟨g, 0, rfl, (hlt g rfl).2, fun k hk => ?_⟩⟩
    have hcells : ∀ j u, (tcs l)[j]? = some u → W.cell? ((⟨g, 0, none⟩ : Addr).add j) = some u := World.ownsRow.cells hc (g := g) rfl
    obtain ⟨t1, t2, t3⟩ := tcs_at l k hk
    have ad : ∀ q, ((⟨g, 0, none⟩ : Addr).add q) = ⟨g, 0 + q, none⟩ := fun q => add_none0 g q
    exact ⟨by have := hcells _ _ t1; rwa [ad] at this, by have := hcells _ _ t2; rwa [ad] at this, by have := hcells _ _ t3; rwa [ad] at this⟩
theorem TS.shape {W : World} {v : Value} {l : List Tk} (h : TS W v l) : ∃ a c, v = .slice a l.length c ∧ l.length ≤ c ∧ c ≤ maxLen := by
  obtain ⟨a, c, rfl, h1, h2, _⟩ := h
  exact ⟨a, c, rfl, h1, h2⟩
/-- A token's three cells. -/
theorem TS.at {W : World} {a : Option Addr} {n c : Nat} {l : List Tk} (h : TS W (.slice a n c) l) (k : Nat) (hk : k < l.length) : ∃ b o, a = some ⟨b, o, none⟩ ∧ b < W.heap.size ∧ W.cell? ⟨b, o + k * 3, none⟩ = some (.int .i64 l[k].w) ∧ W.cell? ⟨b, o + k * 3 + 1, none⟩ = some (.string (mkB l[k].s)) ∧ W.cell? ⟨b, o + k * 3 + 2, none⟩ = some (.int .i64 l[k].p) := by
  obtain ⟨a', c', e, h1, h2, h3⟩ := h
  cases e
  obtain ⟨b, o, e, hlt, hc⟩ := h3 (by omega)
  exact ⟨b, o, e, hlt, hc k hk⟩
theorem same_at {a b : List Tk} (h : same a b) (k : Nat) (h1 : k < a.length) (h2 : k < b.length) : a[k].w = b[k].w ∧ a[k].s = b[k].s := by
  have e1 : (a.map fun t => (t.w, t.s))[k]? = (b.map fun t => (t.w, t.s))[k]? := by unfold same at h; rw [h]
  simp only [List.getElem?_map, List.getElem?_eq_getElem h1, List.getElem?_eq_getElem h2, Option.map_some, Option.some.injEq, Prod.mk.injEq] at e1
  exact e1
set_option maxHeartbeats 2000000 in
set_option maxRecDepth 100000 in
theorem same_any (u v : Value) (a b : List Tk) (w : World) (hu : TS w u a) (hv : TS w v b) (hs : same a b) : Calls Tryd.prog 9 #[u, v] w fun e w' => e = .returned (.bool true) ∧ Below w.heap.size w w' := by
  obtain ⟨au, cu, rfl, hu1, hu2⟩ := hu.shape
  obtain ⟨av, cv, rfl, hv1, hv2⟩ := hv.shape
  have hl : b.length = a.length := by have := congrArg List.length hs; simpa using this.symm
  have hu := hide hu
  have hv := hide hv
  have hs := hide hs
  have ml : maxLen = 9223372036854775807 := rfl
  have hlh := hide hl
  rw [hl]
  have hlb : ((a.length : Int) != (a.length : Int)) = false := by simp
  clear hl hv1
  go_enter Tryd.func9, Tryd.ntmps9
  go_wp2
  go_loopw [5] (fun i W => ∃ k : Nat, i = .int .i64 k ∧ k ≤ a.length ∧ Hid (Below w.heap.size w W)) (fun i _ => a.length - (intOf i).toNat)
  case atStart => exact ⟨0, rfl, Nat.zero_le _, Below.refl _ _⟩
  case round =>
    obtain ⟨k, rfl, hk, H⟩ := hrel
    by_cases hkl : k < a.length
    · have hki : (k : Int) < (a.length : Int) := by omega
      have hkb : k < b.length := by rw [hlh.out]; exact hkl
      obtain ⟨b1, o1, rfl, hb1, p1, p2, _⟩ := (hu.out.below H.out).at k hkl
      obtain ⟨b2, o2, rfl, hb2, q1, q2, _⟩ := (hv.out.below H.out).at k hkb
      obtain ⟨e1, e2⟩ := same_at hs.out k hkl hkb
      rw [← e1] at q1
      rw [← e2] at q2
      obtain ⟨x, hx⟩ : ∃ x, a[k].w = x := ⟨_, rfl⟩
      obtain ⟨y, hy⟩ : ∃ y, mkB a[k].s = y := ⟨_, rfl⟩
      rw [hx] at p1 q1
      rw [hy] at p2 q2
      clear e1 e2 hx hy
      have n1 : (x != x) = false := by simp
      have n2 : (y.toList != y.toList) = false := by simp
      go_wp2_with fail
      go_quiet (fail)
      go_wp2
      go_roundw
      case rel => exact ⟨k + 1, by go_num, by omega, below_then H.out (below_drewN _ _ _)⟩
      case measure => simp [intOf]; omega
    · have hki : ¬ (k : Int) < (a.length : Int) := by omega
      go_wp2
      go_ret
      exact ⟨rfl, H.out⟩
set_option maxHeartbeats 2000000 in
set_option maxRecDepth 100000 in
theorem exact_any (u v : Value) (a : List Tk) (w : World) (hu : TS w u a) (hv : TS w v a) : Calls Tryd.prog 11 #[u, v] w fun e w' => e = .returned (.bool true) ∧ Below w.heap.size w w' := by
  have hsm := hide (fun W (hb : Below w.heap.size w W) => same_any u v a a W (hu.below hb) (hv.below hb) rfl)
  obtain ⟨au, cu, rfl, hu1, hu2⟩ := hu.shape
  obtain ⟨av, cv, rfl, hv1, hv2⟩ := hv.shape
  have hu := hide hu
  have hv := hide hv
  have ml : maxLen = 9223372036854775807 := rfl
  clear hv1
  go_enter Tryd.func11, Tryd.ntmps11
  go_wp2
  go_loopw [5] (fun i W => ∃ k : Nat, i = .int .i64 k ∧ k ≤ a.length ∧ Hid (Below w.heap.size w W)) (fun i _ => a.length - (intOf i).toNat)
  case atStart => exact ⟨0, rfl, Nat.zero_le _, Below.refl _ _⟩
  case round =>
    obtain ⟨k, rfl, hk, H⟩ := hrel
    by_cases hkl : k < a.length
    · have hki : (k : Int) < (a.length : Int) := by omega
      obtain ⟨b1, o1, rfl, hb1, _, _, p1⟩ := (hu.out.below H.out).at k hkl
      obtain ⟨b2, o2, rfl, hb2, _, _, q1⟩ := (hv.out.below H.out).at k hkl
      obtain ⟨x, hx⟩ : ∃ x, a[k].p = x := ⟨_, rfl⟩
      rw [hx] at p1 q1
      clear hx
      have n1 : (x != x) = false := by simp
      go_wp2_with fail
      go_quiet (fail)
      go_wp2
      go_roundw
      case rel => exact ⟨k + 1, by go_num, by omega, below_then H.out (below_drewN _ _ _)⟩
      case measure => simp [intOf]; omega
    · have hki : ¬ (k : Int) < (a.length : Int) := by omega
      go_wp2_with (go_at_call 9; refine (hsm.out _ H.out).mono ?_; rintro e w1 ⟨rfl, hb1⟩; have hb1 := hide (below_then H.out hb1))
      go_ret
      exact ⟨rfl, hb1.out⟩
/-- All that tokens hold. -/
def tot (l : List Tk) : Nat := l.length + (l.map fun t => t.s.length).sum
theorem sum_take (l : List Nat) (k : Nat) (h : k < l.length) : (l.take (k + 1)).sum = (l.take k).sum + l[k] := by
  rw [List.take_succ_eq_append_getElem h, List.sum_append]; simp
/-- What big answers. -/
def BigP (a : List Tk) (w : World) (e : Ending) (w' : World) : Prop := ∃ b, e = .returned (.bool b) ∧ (b = false → tot a ≤ 65536) ∧ Below w.heap.size w w'
set_option maxHeartbeats 2000000 in
set_option maxRecDepth 100000 in
theorem big_any (u : Value) (a : List Tk) (w : World) (hu : TS w u a) (hz : ∀ t ∈ a, t.s.length ≤ 1000000000000000) : Calls Tryd.prog 6 #[u] w fun e w' => BigP a w e w' := by
  obtain ⟨au, cu, rfl, hu1, hu2⟩ := hu.shape
  have hu := hide hu
  have hz := hide hz
  have ml : maxLen = 9223372036854775807 := rfl
  go_enter Tryd.func6, Tryd.ntmps6
  go_wp2
  go_loopw [3, 4] (fun n i W => ∃ (k m : Nat), i = .int .i64 k ∧ n = .int .i64 (m : Nat) ∧ k ≤ a.length ∧ Hid (m = a.length + ((a.map fun t => t.s.length).take k).sum) ∧ Hid (Below w.heap.size w W)) (fun _ i _ => a.length - (intOf i).toNat)
  case atStart => exact ⟨0, a.length, rfl, rfl, Nat.zero_le _, by show _ = _; simp, Below.refl _ _⟩
  case round =>
    obtain ⟨k, m, rfl, rfl, hk, Hm, H⟩ := hrel
    by_cases hkl : k < a.length
    · have hki : (k : Int) < (a.length : Int) := by omega
      by_cases hm : m ≤ 65536
      · have hmi : (m : Int) ≤ 65536 := by omega
        obtain ⟨b1, o1, rfl, hb1, _, p1, _⟩ := (hu.out.below H.out).at k hkl
        have hzk := hz.out a[k] (List.getElem_mem _)
        have hsz : Hid ((mkB a[k].s).size = a[k].s.length) := mkB_size _
        have hst : Hid (m + a[k].s.length = a.length + ((a.map fun t => t.s.length).take (k + 1)).sum) := by
          show _ = _
          rw [sum_take _ k (by simpa using hkl), Hm.out]
          simp only [List.getElem_map]
          omega
        obtain ⟨y, hy⟩ : ∃ y, mkB a[k].s = y := ⟨_, rfl⟩
        rw [hy] at p1 hsz
        have hyz : (y.size : Int) ≤ 1000000000000000 := by rw [hsz.out]; omega
        have hsum : (m : Int) + (y.size : Int) ≤ 9223372036854775807 := by omega
        have hst2 : Hid (m + y.size = a.length + ((a.map fun t => t.s.length).take (k + 1)).sum) := by show _ = _; rw [hsz.out]; exact hst.out
        clear hy hst hsz hzk
        go_wp2
        go_roundw
        case rel => exact ⟨k + 1, m + y.size, by go_num, by go_num, by omega, hst2, H⟩
        case measure => simp [intOf]; omega
      · have hmi : ¬ (m : Int) ≤ 65536 := by omega
        have hmi2 : (65536 : Int) < (m : Int) := by omega
        go_wp2
        go_ret
        exact ⟨true, rfl, (fun q => by cases q), H.out⟩
    · have hki : ¬ (k : Int) < (a.length : Int) := by omega
      have hfin : Hid (m = tot a) := by show _ = _; rw [Hm.out]; unfold tot; rw [List.take_of_length_le (by simp; omega)]
      by_cases hm : m ≤ 65536
      · have hmi : ¬ (65536 : Int) < (m : Int) := by omega
        go_wp2
        go_ret
        exact ⟨false, rfl, fun _ => by rw [← hfin.out]; exact hm, H.out⟩
      · have hmi : (65536 : Int) < (m : Int) := by omega
        go_wp2
        go_ret
        exact ⟨true, rfl, (fun q => by cases q), H.out⟩
end Lx
end Go.Proofs.YtjidnceccpmheaaDoor
