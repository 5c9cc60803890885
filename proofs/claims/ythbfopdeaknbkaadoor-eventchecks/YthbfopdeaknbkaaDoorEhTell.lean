/- event.tell, an iterator that calls itself: its contract. -/
import Derived.RangeFuncNested
import Derived.RangeFuncBound
import Derived.RangeFuncCalls
import Derived.RangeFuncLeaves
import Derived.RangeFuncBox
import Derived.Shelf.Abstract
import Derived.Shelf.RegionOpen
import Derived.OwnWalkIn
import Derived.TacticsInMore
import Derived.LoopNIn
import Derived.LoopIn
import Derived.Test.YthbfopdeaknbkaaDoorEaHead
namespace Go.Proofs.YthbfopdeaknbkaaDoor
open Go.RowKit Go.Shelf
set_option linter.unusedSimpArgs false
set_option linter.unusedVariables false
attribute [local go_sem] Oper.semAt_some
theorem no_fn {f : FuncId} {p : Prop} (h : (none : Option FuncId) = some f) : p := by cases h
theorem room_none {F : Fence} (hd : F.depth = none) (k : Nat) : F.room k := fun d h => by rw [hd] at h; cases h
theorem round_any {F : Fence} (hd : F.depth = none) {m m' : Nat} {P : Program} {l : Nat} {f : FuncId} {tmps : Array Value} {assign body : Code} {w : World} {R : Ending → World → Prop}
    (h : RoundIn F m P l f tmps assign body w R) : RoundIn F m' P l f tmps assign body w R := ⟨h.1, fun c cs _ => h.2 c cs (room_none hd _)⟩
theorem yield_any {F : Fence} (hd : F.depth = none) {m : Nat} (m' : Nat) {P : Program} {l : Nat} {args : Array Value} {W : World} {R : Ending → World → Prop} (h : YieldAt F m P l args W R) : YieldAt F m' P l args W R := by
  obtain ⟨fn, tmps, assign, body, hy, hR⟩ := h
  exact ⟨fn, tmps, assign, body, hy, round_any hd hR⟩
/-- What a round keeps of an iterator's boxes: blocks that hold values. -/
def KV (W W' : World) : Prop := ∀ (i : Nat) (c : Array Value) (f : Nat × Nat), W.heap[i]? = some (.cells c 29 f) → W'.heap[i]? = some (.cells c 29 f)
theorem KV.refl (W : World) : KV W W := fun _ _ _ h => h
theorem KV.trans {A B C : World} (h : KV A B) (k : KV B C) : KV A C := fun i c f e => k i c f (h i c f e)
theorem KV.alloc {A B : World} (h : KV A B) (o : Obj) : KV A (B.alloc o) := fun i c f e => by
  have h1 := h i c f e
  exact (Below.heap_alloc B o i (Array.getElem?_eq_some_iff.1 h1).1).trans h1
def KP (n₀ : Nat) (W W' : World) : Prop := Below n₀ W W' ∧ KV W W'
theorem KP.trans {n₀ : Nat} {A B C : World} (h : KP n₀ A B) (k : KP n₀ B C) : KP n₀ A C := ⟨h.1.trans k.1, h.2.trans k.2⟩
theorem KP.al {n₀ : Nat} {A B : World} (h : KP n₀ A B) (hn : n₀ ≤ B.heap.size) (o : Obj) : KP n₀ A (B.alloc o) := ⟨h.1.alloc hn o, h.2.alloc o⟩
theorem Bx.kv {W W1 : World} {i : Nat} {h : Hd} {ns ls : Value} (k : Bx W i h ns ls) (hk : KV W W1) : Bx W1 i h ns ls := ⟨hk _ _ _ k.at_⟩
/-- An event that has no names, the event of a name, of an end. -/
def hd0 (h : Hd) : Hd := { h with names := [] }
def evN (s : ByteArray) : Hd := { zr 10 with text := s }
def evE : Hd := zr 11
/-- What stands ahead of a child. -/
def preN (h : Hd) (i : Nat) : List Hd := if h.kind = 8 then [evN ((h.names[i]?).getD ByteArray.empty)] else []
/-- A tree's events. -/
def fl : (n : Nat) → VT n → List Hd
  | 0, _ => []
  | n + 1, x => hd0 x.1 :: (if x.1.kind < 7 then [] else ((List.range x.2.length).map (fun i => preN x.1 i ++ ((x.2[i]?).elim [] (fl n)))).flatten ++ [evE])
def kid (n : Nat) (h : Hd) (l : List (VT n)) (i : Nat) : List Hd := preN h i ++ ((l[i]?).elim [] (fl n))
def kids (n : Nat) (h : Hd) (l : List (VT n)) (k : Nat) : List Hd := ((List.range k).map (kid n h l)).flatten
theorem fl_succ (n : Nat) (h : Hd) (l : List (VT n)) : fl (n + 1) (h, l) = hd0 h :: (if h.kind < 7 then [] else kids n h l l.length ++ [evE]) := rfl
theorem kids_zero (n : Nat) (h : Hd) (l : List (VT n)) : kids n h l 0 = [] := rfl
theorem kids_succ (n : Nat) (h : Hd) (l : List (VT n)) (k : Nat) (hk : k < l.length) : kids n h l (k + 1) = kids n h l k ++ preN h k ++ fl n l[k] := by
  simp [kids, List.range_succ, kid, hk]
theorem kids_le (n : Nat) (h : Hd) (l : List (VT n)) {k : Nat} (hk : k ≤ l.length) : kids n h l k <+: kids n h l l.length := by
  obtain ⟨d, hd⟩ := Nat.exists_eq_add_of_le hk
  rw [hd]
  unfold kids
  rw [List.range_add, List.map_append, List.flatten_append]
  exact List.prefix_append _ _
/-- Every record has a name for each value. -/
def NmOk : (n : Nat) → VT n → Prop
  | 0, _ => True
  | n + 1, x => (x.1.kind = 8 → x.2.length ≤ x.1.names.length) ∧ ∀ y ∈ x.2, NmOk n y
set_option maxHeartbeats 4000000 in
set_option maxRecDepth 100000 in
theorem tell_in (F : Fence) (hd : F.depth = none) (hf : F.fn 42) (hro : F.round = none) (l N : Nat) (w0 : World) (J Jx : List Hd → World → Prop)
    (hJ : ∀ pre W o, J pre W → J pre (W.alloc o))
    (hY : ∀ m pre x W, J pre W → pre.length < N → YieldAt F m Tryd.prog l #[.agg (evs x)] W fun e W' =>
      (e = .returned (.bool true) ∧ J (pre ++ [x]) W' ∧ KP w0.heap.size W W') ∨ (e = .returned (.bool false) ∧ Jx (pre ++ [x]) W')) :
    ∀ (n : Nat) (x : VT n) (ns ls : Value) (m : Nat) (pre : List Hd) (W : World), RD n w0 x ns ls → NmOk n x → Below w0.heap.size w0 W → J pre W → pre.length + (fl n x).length ≤ N →
      CallsIn F m Tryd.prog 42 #[.agg (vals (vhd n x) ns ls), .func (.yield l) #[] #[]] W fun e W' =>
        (e = .returned (.bool true) ∧ J (pre ++ fl n x) W' ∧ KP w0.heap.size W W') ∨ (e = .returned (.bool false) ∧ ∃ q, q <+: fl n x ∧ Jx (pre ++ q) W') := by
  have hdd : ∀ k : Nat, (F.depth.isSome = true → 1 ≤ k) := fun k h => by rw [hd] at h; cases h
  intro n
  induction n with
  | zero => intro x; exact Empty.elim x
  | succ n ih =>
    intro x ns ls m pre W hr hnm hb hJ0 hN
    obtain ⟨h, xs⟩ := x
    obtain ⟨al, cl, rfl, hc1, hc2⟩ := hr.len
    obtain ⟨an, cn, rfl, hn1, hn2⟩ := hr.1.len
    have hr := hide hr
    have ih' := hide ih
    have hN' := hide hN
    have hY' := hide hY
    have hJ' := hide hJ
    clear ih hN hY hJ
    rw [fl_succ] at hN' ⊢
    show CallsIn _ _ _ _ #[.agg #[.int .i64 h.kind, .bool h.flag, .bool h.neg, .string h.dig, .int .i64 h.exp, .int .u64 h.bits, .string h.text, .slice an h.names.length cn, .slice al xs.length cl], _] _ _
    -- the first yield
    have hn0 : w0.heap.size ≤ W.heap.size := hb.size
    have Y1 : YieldAt F (m - 1) Tryd.prog l #[.agg (evs (hd0 h))] (W.alloc (.cells (vals h (.slice an h.names.length cn) (.slice al xs.length cl)) 29)) fun e W1 =>
        (e = .returned (.bool true) ∧ Hid (J (pre ++ [hd0 h]) W1 ∧ KP w0.heap.size W W1 ∧ Bx W1 W.heap.size h (.slice an h.names.length cn) (.slice al xs.length cl)) ∧ W1.cell? ⟨W.heap.size, 0, none⟩ = some (.int .i64 h.kind) ∧ W1.cell? ⟨W.heap.size, 8, none⟩ = some (.slice al xs.length cl)) ∨ (e = .returned (.bool false) ∧ Hid (Jx (pre ++ [hd0 h]) W1)) :=
      YieldAt.mono (hY'.out (m - 1) pre (hd0 h) _ (hJ'.out _ _ _ hJ0) (by have := hN'.out; simp at this; omega)) fun e W1 q => q.elim
        (fun ⟨he, hj, hk⟩ => Or.inl (by
          have b1 := (bx_new W h (.slice an h.names.length cn) (.slice al xs.length cl)).kv hk.2
          exact ⟨he, hide ⟨hj, KP.trans (KP.al ⟨Below.refl _ _, KV.refl _⟩ hn0 _) hk, b1⟩, b1.cells.1, b1.cells.2.2.2.2.2.2.2.2⟩)) (fun ⟨he, hj⟩ => Or.inr ⟨he, hide hj⟩)
    obtain ⟨fn, tmps, assign, body, hy, hR⟩ := Y1
    have hR' := hide hR
    clear hR
    simp only [evs, hd0, vals] at hy
    refine callsIn_of_wp Tryd.func42 rfl hf ?_ hro
    simp only [Tryd.ntmps42, List.size_toArray, List.length_cons, List.length_nil, Nat.reduceAdd, Nat.reduceSub, Array.replicate_succ, Array.replicate_zero, List.push_toArray, List.append_toArray, List.nil_append, List.cons_append]
    by_cases h7 : h.kind < 7
    · rw [if_pos h7]
      gi_wp2_with ((try refine ⟨hdd _, ?_⟩); refine hR'.out.mono ?_; rintro e W1 (⟨rfl, hJ1, d0, d8⟩ | ⟨rfl, hx1⟩))
      · go_ret
        exact Or.inl ⟨rfl, hJ1.out.1, hJ1.out.2.1⟩
      · go_ret
        exact Or.inr ⟨rfl, [hd0 h], List.prefix_refl _, hx1.out⟩
    · rw [if_neg h7] at hN' ⊢
      have h7b : ¬ (h.kind < 7) := h7
      gi_wp2_with ((try refine ⟨hdd _, ?_⟩); refine hR'.out.mono ?_; rintro e W1 (⟨rfl, hJ1, d0, d8⟩ | ⟨rfl, hx1⟩))
      · gi_loopw [27] (fun i wr => ∃ k : Nat, i = .int .i64 k ∧ k ≤ xs.length ∧ Hid (J (pre ++ (hd0 h :: kids n h xs k)) wr ∧ KP w0.heap.size W wr ∧ Bx wr W.heap.size h (.slice an h.names.length cn) (.slice al xs.length cl))) (fun i _ => xs.length - (intOf i).toNat)
        case atStart => exact ⟨0, rfl, Nat.zero_le _, hJ1⟩
        case round =>
          obtain ⟨k, rfl, hk, hJk⟩ := hrel
          clear hR' hy hJ1 d0 d8
          have ml : maxLen = 9223372036854775807 := rfl
          by_cases hkl : k < xs.length
          · have hki : (k : Int) < (xs.length : Int) := by omega
            have hk63 : (k : Int) < 9223372036854775807 := by omega
            obtain ⟨bA, bB, bC⟩ := hJk.out
            have hB := hide (hb.trans bB.1)
            obtain ⟨b, o, c, he, hbl, hlc, hcm, ns', ls', hrg, hrd⟩ := hr.out.at k hkl
            have he' := Value.slice.inj he
            obtain ⟨rfl, _, rfl⟩ := he'
            clear he
            obtain ⟨c0, c1, c2, c3, c4, c5, c6, c7, c8⟩ := range9 (rangeAt_below hrg hB.out hbl)
            have hrd' := hide hrd
            have hnk : NmOk n xs[k] := hnm.2 _ (List.getElem_mem hkl)
            have e0 := bC.cells.1
            have e7 := bC.cells.2.2.2.2.2.2.2.1
            have hks := kids_succ n h xs k hkl
            have hlen : pre.length + (kids n h xs k).length + (preN h k).length + (fl n xs[k]).length + 2 ≤ N := by
              have h1 := hN'.out
              have h2 := (kids_le n h xs (k := k + 1) (by omega)).length_le
              rw [hks] at h2
              simp at h1 h2
              omega
            have hpf : kids n h xs (k + 1) <+: kids n h xs xs.length := kids_le n h xs (by omega)
            obtain ⟨a1, m1, d1, a2, m2, d2, rfl, rfl⟩ := hrd.shape
            have wn : w0.heap.size ≤ wr.heap.size := hB.out.size
            have zW : W.heap.size < wr.heap.size := bC.lt
            by_cases h8 : h.kind = 8
            · have hkn : k < h.names.length := Nat.lt_of_lt_of_le hkl (hnm.1 h8)
              have hkni : (k : Int) < (h.names.length : Int) := by omega
              obtain ⟨bn, on, cn', hen, hbn, hln, hcn, hsn⟩ := hr.out.1.at k hkn
              have hen' := Value.slice.inj hen
              obtain ⟨rfl, _, rfl⟩ := hen'
              clear hen
              have g7 : wr.cell? ⟨bn, on + k, none⟩ = some (.string h.names[k]) := (hB.out.cell (p := ⟨bn, on + k, none⟩) hbn).trans hsn
              have hp0 : preN h k = [evN h.names[k]] := by unfold preN; rw [if_pos h8]; simp [hkn]
              rw [hp0] at hks hlen
              have Y2 : YieldAt F (m - 1) Tryd.prog l #[.agg (evs (evN h.names[k]))] (wr.alloc (.cells (vals (vhd n xs[k]) (.slice a1 m1 d1) (.slice a2 m2 d2)) 29)) fun e W2 =>
                  (e = .returned (.bool true) ∧ Hid (J (pre ++ (hd0 h :: kids n h xs k) ++ [evN h.names[k]]) W2 ∧ KP w0.heap.size wr W2 ∧ Bx W2 wr.heap.size (vhd n xs[k]) (.slice a1 m1 d1) (.slice a2 m2 d2))) ∨ (e = .returned (.bool false) ∧ Hid (Jx (pre ++ (hd0 h :: kids n h xs k) ++ [evN h.names[k]]) W2)) :=
                YieldAt.mono (hY'.out (m - 1) _ (evN h.names[k]) _ (hJ'.out _ _ _ bA) (by simp at hlen ⊢; omega)) fun e W2 q => q.elim
                  (fun ⟨he, hj, hk⟩ => Or.inl ⟨he, hide ⟨hj, KP.trans (KP.al ⟨Below.refl _ _, KV.refl _⟩ wn _) hk, (bx_new wr (vhd n xs[k]) (.slice a1 m1 d1) (.slice a2 m2 d2)).kv hk.2⟩⟩) (fun ⟨he, hj⟩ => Or.inr ⟨he, hide hj⟩)
              have hcall := hide (fun (W2 : World) (q : J (pre ++ (hd0 h :: kids n h xs k) ++ [evN h.names[k]]) W2) (hb2 : KP w0.heap.size wr W2) => ih'.out xs[k] (.slice a1 m1 d1) (.slice a2 m2 d2) (m - 1) (pre ++ (hd0 h :: kids n h xs k) ++ [evN h.names[k]]) W2 hrd'.out hnk (hB.out.trans hb2.1) q (by simp at hlen ⊢; omega))
              obtain ⟨fn, tmps, assign, body, hy, hR⟩ := Y2
              have hR' := hide hR
              have bB' := hide bB
              have bC' := hide bC
              have hks' := hide hks
              have hpf' := hide hpf
              have zn : bn < wr.heap.size := Nat.lt_of_lt_of_le hbn wn
              have q8 : (h.kind == 8) = true := by simpa using h8
              have q8' : decide (h.kind = 8) = true := by simpa using h8
              clear bA bB bC hJk hrg hrd hks hpf hlen hp0 hnk hR hsn hnm h8 h7 h7b ml hc2 hn2 hcm hcn
              simp only [vals] at hcall
              simp only [evs, evN, zr, vals] at hy
              gi_wp2_with (first
                | ((try refine ⟨hdd _, ?_⟩); refine hR'.out.mono ?_; clear hR'; rintro e W2 (⟨rfl, hJ2⟩ | ⟨rfl, hx2⟩); (try (obtain ⟨f0, f1, f2, f3, f4, f5, f6, f7, f8⟩ := hJ2.out.2.2.cells)))
                | ((try refine ⟨hdd _, ?_⟩); gi_at_call 42; refine (hcall.out _ hJ2.out.1 hJ2.out.2.1).mono ?_; rintro e W3 (⟨rfl, hJ3, hk3⟩ | ⟨rfl, q, hq, hx3⟩)))
              · exact ⟨⟨k + 1, by go_num, by omega, hide ⟨by rw [hks'.out]; simpa [List.append_assoc] using hJ3, bB'.out.trans (hJ2.out.2.1.trans hk3), bC'.out.kv (hJ2.out.2.1.2.trans hk3.2)⟩⟩, by simp [intOf]; omega⟩
              · go_ret
                refine Or.inr ⟨rfl, hd0 h :: (kids n h xs k ++ (evN h.names[k] :: q)), ?_, by simpa [List.append_assoc] using hx3⟩
                refine (List.prefix_cons_inj _).2 (List.IsPrefix.trans ?_ (hpf'.out.trans (List.prefix_append _ _)))
                rw [hks'.out]
                simpa using hq
              · go_ret
                refine Or.inr ⟨rfl, hd0 h :: (kids n h xs k ++ [evN h.names[k]]), ?_, by simpa [List.append_assoc] using hx2.out⟩
                refine (List.prefix_cons_inj _).2 (List.IsPrefix.trans ?_ (hpf'.out.trans (List.prefix_append _ _)))
                rw [hks'.out]
                exact List.prefix_append _ _
            · have hp0 : preN h k = [] := if_neg h8
              rw [hp0] at hks hlen
              have hcall := hide (ih'.out xs[k] (.slice a1 m1 d1) (.slice a2 m2 d2) (m - 1) (pre ++ (hd0 h :: kids n h xs k)) (wr.alloc (.cells (vals (vhd n xs[k]) (.slice a1 m1 d1) (.slice a2 m2 d2)) 29)) hrd'.out hnk (hB.out.alloc wn _) (hJ'.out _ _ _ bA) (by simp at hlen ⊢; omega))
              have bA' := hide bA
              have bB' := hide bB
              have bC' := hide bC
              have hks' := hide hks
              have hpf' := hide hpf
              have hlen' := hide hlen
              have q8 : (h.kind == 8) = false := by simpa using h8
              have q8' : decide (h.kind = 8) = false := by simpa using h8
              clear bA bB bC hJk hrg hrd hks hpf hlen hp0 hnk hnm h8 h7 h7b ml hc2 hn2 hcm
              simp only [vals] at hcall
              repeat (first | go_values | gi_guarded | gi_step | gi_upon)
              refine ⟨fun _ h => no_fn h, ?_⟩
              gi_wp2_with ((try refine ⟨hdd _, ?_⟩); gi_at_call 42; refine hcall.out.mono ?_; rintro e W3 (⟨rfl, hJ3, hk3⟩ | ⟨rfl, q, hq, hx3⟩))
              · exact ⟨⟨k + 1, by go_num, by omega, hide ⟨by rw [hks'.out]; simpa [List.append_assoc] using hJ3, bB'.out.trans (KP.trans (KP.al ⟨Below.refl _ _, KV.refl _⟩ wn _) hk3), (bC'.out.kv (KV.trans (KV.alloc (KV.refl _) _) hk3.2))⟩⟩, by simp [intOf]; omega⟩
              · go_ret
                refine Or.inr ⟨rfl, hd0 h :: (kids n h xs k ++ q), ?_, by simpa [List.append_assoc] using hx3⟩
                refine (List.prefix_cons_inj _).2 (List.IsPrefix.trans ?_ (hpf'.out.trans (List.prefix_append _ _)))
                rw [hks'.out]
                simpa using hq
          · have hki : ¬ ((k : Int) < (xs.length : Int)) := by omega
            have hkeq : k = xs.length := by omega
            subst hkeq
            obtain ⟨bA, bB, bC⟩ := hJk.out
            obtain ⟨fn, tmps, assign, body, hy, hR⟩ := hY'.out (m - 1) _ evE wr bA (by have := hN'.out; simp at this ⊢; omega)
            have hR' := hide hR
            have bB' := hide bB
            clear hR bA bB bC hJk
            simp only [evs, evE, zr] at hy
            gi_wp2_with ((try refine ⟨hdd _, ?_⟩); refine hR'.out.mono ?_; rintro e W3 (⟨rfl, hJ3, hk3⟩ | ⟨rfl, hx3⟩))
            · go_ret
              exact Or.inl ⟨rfl, by simpa [List.append_assoc] using hJ3, bB'.out.trans hk3⟩
            · go_ret
              exact Or.inr ⟨rfl, hd0 h :: (kids n h xs xs.length ++ [evE]), List.prefix_refl _, by simpa [List.append_assoc] using hx3⟩
      · go_ret
        exact Or.inr ⟨rfl, [hd0 h], ⟨_, rfl⟩, hx1.out⟩
end Go.Proofs.YthbfopdeaknbkaaDoor
