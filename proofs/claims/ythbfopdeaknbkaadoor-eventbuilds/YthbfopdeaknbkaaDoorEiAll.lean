/- event.events: the iterator of a tree's events. -/
import Derived.Test.YthbfopdeaknbkaaDoorEhTell
namespace Go.Proofs.YthbfopdeaknbkaaDoor
open Go.RowKit Go.Shelf
set_option linter.unusedSimpArgs false
set_option linter.unusedVariables false
attribute [local go_sem] Oper.semAt_some
set_option maxHeartbeats 1000000 in
set_option maxRecDepth 100000 in
theorem all1_in (F : Fence) (hd : F.depth = none) (h1 : F.fn 41) (hf : F.fn 42) (hro : F.round = none) (m l Bt : Nat) (w0 : World) (n : Nat) (x : VT n) (ns ls : Value) (J Jx : List Hd → World → Prop)
    (hJ : ∀ pre W o, J pre W → J pre (W.alloc o))
    (hY : ∀ pre y W, J pre W → pre.length < (fl n x).length → YieldAt F (m - 1) Tryd.prog l #[.agg (evs y)] W fun e W' =>
      (e = .returned (.bool true) ∧ J (pre ++ [y]) W' ∧ KP w0.heap.size W W') ∨ (e = .returned (.bool false) ∧ Jx (pre ++ [y]) W'))
    (W : World) (hr : RD n w0 x ns ls) (hnm : NmOk n x) (hb : Below w0.heap.size w0 W) (hB : Bx W Bt (vhd n x) ns ls) (h0 : J [] W) :
    CallsIn F m Tryd.prog 41 #[.func (.yield l) #[] #[], .pointer (some ⟨Bt, 0, none⟩)] W fun e W' => (∃ v, e = .returned v) ∧
      ((∃ ys, ys = fl n x ∧ J ys W') ∨ (∃ pre, pre <+: fl n x ∧ Jx pre W')) := by
  have hdd : ∀ k : Nat, (F.depth.isSome = true → 1 ≤ k) := fun k h => by rw [hd] at h; cases h
  have hp := hide (tell_in F hd hf hro l (fl n x).length w0 J Jx hJ (fun m' pre y W hj hl => yield_any hd m' (hY pre y W hj hl)) n x ns ls (m - 1) [] W hr hnm hb h0 (by simp))
  obtain ⟨a1, m1, d1, a2, m2, d2, rfl, rfl⟩ := hr.shape
  obtain ⟨c0, c1, c2, c3, c4, c5, c6, c7, c8⟩ := hB.cells
  simp only [vals] at hp
  clear hJ hY hr hnm hb hB h0
  refine callsIn_of_wp Tryd.func41 rfl h1 ?_ hro
  simp only [Tryd.ntmps41, List.size_toArray, List.length_cons, List.length_nil, Nat.reduceAdd, Nat.reduceSub, Array.replicate_succ, Array.replicate_zero, List.push_toArray, List.append_toArray, List.nil_append, List.cons_append]
  gi_wp2_with ((try refine ⟨hdd _, ?_⟩); gi_at_call 42; refine hp.out.mono ?_; clear hp; rintro e W1 (⟨rfl, hJ1, _⟩ | ⟨rfl, q, hq, hx⟩))
  · go_end0
    exact ⟨⟨_, rfl⟩, .inl ⟨_, rfl, by simpa using hJ1⟩⟩
  · go_end0
    exact ⟨⟨_, rfl⟩, .inr ⟨q, hq, by simpa using hx⟩⟩
set_option maxHeartbeats 1000000 in
set_option maxRecDepth 100000 in
theorem all_in (F : Fence) (m : Nat) (h1 : F.fn 28) (hro : F.round = none) (h : Hd) (a1 : Option Addr) (m1 d1 : Nat) (a2 : Option Addr) (m2 d2 : Nat) (w : World) :
    CallsIn F m Tryd.prog 28 #[.agg (vals h (.slice a1 m1 d1) (.slice a2 m2 d2))] w fun e w' => e = .returned (.func (.func 41) #[] #[.pointer (some ⟨w.heap.size, 0, none⟩)]) ∧ w' = w.alloc (.cells (vals h (.slice a1 m1 d1) (.slice a2 m2 d2)) 29) := by
  simp only [vals]
  refine callsIn_of_wp Tryd.func28 rfl h1 ?_ hro
  simp only [Tryd.ntmps28, List.size_toArray, List.length_cons, List.length_nil, Nat.reduceAdd, Nat.reduceSub, Array.replicate_succ, Array.replicate_zero, List.push_toArray, List.append_toArray, List.nil_append, List.cons_append]
  gi_wp2
  go_ret
  exact ⟨rfl, rfl⟩
theorem all_stops (F : Fence) (hd : F.depth = none) (m : Nat) (h1 : F.fn 41) (hf : F.fn 42) (hro : F.round = none) (Bt : Nat) (w0 : World) (n : Nat) (x : VT n) (ns ls : Value) (w : World)
    (hr : RD n w0 x ns ls) (hnm : NmOk n x) (hb : Below w0.heap.size w0 w) (hB : Bx w Bt (vhd n x) ns ls) :
    SeqStopsK F m Tryd.prog 41 #[.pointer (some ⟨Bt, 0, none⟩)] (fun y : Hd => #[Value.agg (evs y)]) (KP w0.heap.size) (fun ys => ys = fl n x) (fun pre => pre <+: fl n x) (fl n x).length w := fun l J Jx W hW hJ _ hY h0 =>
  all1_in F hd h1 hf hro m l Bt w0 n x ns ls J Jx (fun pre W' o k => hJ pre W' _ none k (World.grownBy_alloc W' o none) (fun r e => by cases e)) hY W hr hnm (hb.trans (hW.mono hb.size)) (hB.below hW) h0
end Go.Proofs.YthbfopdeaknbkaaDoor
