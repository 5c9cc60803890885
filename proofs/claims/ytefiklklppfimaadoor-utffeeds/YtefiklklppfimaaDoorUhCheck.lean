/- utf's Checker: walked. -/
import Derived.Test.YtefiklklppfimaaDoorUgDecode
import Derived.Laws.BytesArg
import Derived.Laws.IdiomStrings
namespace Go.Proofs.YtefiklklppfimaaDoor
open Go.RowKit
set_option linter.unusedSimpArgs false
set_option linter.unusedVariables false
def mkB (l : List UInt8) : ByteArray := ⟨l.toArray⟩
theorem bl_mkB (l : List UInt8) : bl (mkB l) = l := by simp [bl, mkB]
theorem mkB_size (l : List UInt8) : (mkB l).size = l.length := by rw [← bl_length, bl_mkB]
theorem mkB_bl (s : ByteArray) : mkB (bl s) = s := by cases s; simp [bl, mkB]
/-- A slice of bytes reads as l. -/
def SL (w : World) (v : Value) (l : List UInt8) : Prop :=
  (v = .slice none 0 0 ∧ l = []) ∨ ∃ (a : Addr) (c : Nat), v = .slice (some a) l.length c ∧ l.length ≤ c ∧ c ≤ maxLen ∧ ∀ i (h : i < l.length), a.block < w.heap.size ∧ w.cell? (a.add i) = some (.int .u8 (l[i].toNat : Int))
theorem SL.conv {w : World} {v : Value} {l : List UInt8} (h : SL w v l) : (convert 35 9 v).run Tryd.prog w = .ok (.string (mkB l)) w := by
  rcases h with ⟨rfl, rfl⟩ | ⟨a, c, rfl, _, _, hc⟩
  · exact run_convert_bytes_nil w 35 5 Tryd.underlying35 Tryd.underlying5 0 0 9 Tryd.underlying9
  · exact run_convert_bytes_back w 35 9 5 a c l Tryd.underlying35 Tryd.underlying5 Tryd.underlying9 (fun j hj => (hc j hj).2)
theorem add_block (a : Addr) (i : Nat) : (a.add i).block = a.block := by unfold Addr.add; split <;> rfl
theorem add_add (a : Addr) (i j : Nat) : (a.add i).add j = a.add (i + j) := by
  unfold Addr.add
  by_cases hi : i = 0
  · subst hi; simp
  · by_cases hj : j = 0
    · subst hj; simp
    · simp [hi, hj, Nat.add_assoc]
theorem SL.below {w W : World} {v : Value} {l : List UInt8} (h : SL w v l) (hb : Below w.heap.size w W) : SL W v l := by
  rcases h with ⟨rfl, rfl⟩ | ⟨a, c, rfl, h1, h2, hc⟩
  · exact Or.inl ⟨rfl, rfl⟩
  · exact Or.inr ⟨a, c, rfl, h1, h2, fun i hi => ⟨Nat.lt_of_lt_of_le (hc i hi).1 hb.size, (hb.cell (p := a.add i) (by rw [add_block]; exact (hc i hi).1)).trans (hc i hi).2⟩⟩
theorem SL.drew {w : World} {v : Value} {l : List UInt8} (h : SL w v l) : SL w.drew v l := h.below (Below.refl _ _).drew
/-- Nothing that was there has turned, but block i. -/
structure But (i : Nat) (w w' : World) : Prop where
  os : w'.os = w.os
  tape : w'.tape = w.tape
  output : w'.output = w.output
  size : w.heap.size ≤ w'.heap.size
  block : ∀ k, k < w.heap.size → k ≠ i → w'.heap[k]? = w.heap[k]?
theorem But.refl (i : Nat) (w : World) : But i w w := ⟨rfl, rfl, rfl, Nat.le_refl _, fun _ _ _ => rfl⟩
theorem But.then {i : Nat} {w W W1 : World} (h : But i w W) (hb : Below W.heap.size W W1) : But i w W1 :=
  ⟨hb.os.trans h.os, hb.tape.trans h.tape, hb.output.trans h.output, Nat.le_trans h.size hb.size, fun k hk hi => (hb.block k (Nat.lt_of_lt_of_le hk h.size)).trans (h.block k hk hi)⟩
theorem But.trans {i : Nat} {w W W1 : World} (h : But i w W) (hb : But i W W1) : But i w W1 :=
  ⟨hb.os.trans h.os, hb.tape.trans h.tape, hb.output.trans h.output, Nat.le_trans h.size hb.size, fun k hk hi => (hb.block k (Nat.lt_of_lt_of_le hk h.size) hi).trans (h.block k hk hi)⟩
theorem But.al {i : Nat} {w W : World} {o : Obj} (h : But i w W) : But i w (W.alloc o) := h.then (below_al (Below.refl _ _))
theorem But.dr {i : Nat} {w W : World} (h : But i w W) : But i w W.drew := h.then (Below.refl _ _).drew
theorem But.set {i o : Nat} {w W : World} {v : Value} (h : But i w W) : But i w (W.setCell ⟨i, o, none⟩ v) :=
  ⟨h.os, h.tape, h.output, by simpa using h.size, fun k hk hi => by rw [Below.heap_setCell _ _ _ _ hi]; exact h.block k hk hi⟩
theorem But.setNew {i j o : Nat} {w W : World} {v : Value} (h : But i w W) (hj : w.heap.size ≤ j) : But i w (W.setCell ⟨j, o, none⟩ v) :=
  ⟨h.os, h.tape, h.output, by simpa using h.size, fun k hk hi => by rw [Below.heap_setCell _ _ _ _ (show k ≠ j by omega)]; exact h.block k hk hi⟩
theorem But.below {i B : Nat} {w W : World} (h : But i w W) (hi : B ≤ i) (hB : B ≤ w.heap.size) : Below B w W :=
  ⟨h.os, h.tape, h.output, h.size, fun k hk => h.block k (by omega) (by omega)⟩
/-- Block i holds a Checker. -/
def CB (W : World) (i : Nat) (a b c d e f g h : Nat) (br : Bool) : Prop := W.heap[i]? = some (.cells #[.int .u8 a, .int .u8 b, .int .u8 c, .int .u8 d, .int .u8 e, .int .u8 f, .int .u8 g, .int .u8 h, .bool br] 58 (0, 0))
section
variable {W W1 : World} {i j o B a b c d e f g h : Nat} {br : Bool}
theorem CB.cells (q : CB W i a b c d e f g h br) : W.cell? ⟨i, 0, none⟩ = some (.int .u8 a) ∧ W.cell? ⟨i, 1, none⟩ = some (.int .u8 b) ∧ W.cell? ⟨i, 2, none⟩ = some (.int .u8 c) ∧ W.cell? ⟨i, 3, none⟩ = some (.int .u8 d) ∧ W.cell? ⟨i, 4, none⟩ = some (.int .u8 e) ∧ W.cell? ⟨i, 5, none⟩ = some (.int .u8 f) ∧ W.cell? ⟨i, 6, none⟩ = some (.int .u8 g) ∧ W.cell? ⟨i, 7, none⟩ = some (.int .u8 h) ∧ W.cell? ⟨i, 8, none⟩ = some (.bool br) ∧ W.frozen? ⟨i, 0, none⟩ = false ∧ W.frozen? ⟨i, 1, none⟩ = false ∧ W.frozen? ⟨i, 2, none⟩ = false ∧ W.frozen? ⟨i, 3, none⟩ = false ∧ W.frozen? ⟨i, 4, none⟩ = false ∧ W.frozen? ⟨i, 5, none⟩ = false ∧ W.frozen? ⟨i, 6, none⟩ = false ∧ W.frozen? ⟨i, 7, none⟩ = false ∧ W.frozen? ⟨i, 8, none⟩ = false := by
  unfold CB at q
  simp [World.cell?, World.frozen?, q]
theorem CB.lt (q : CB W i a b c d e f g h br) : i < W.heap.size := by
  unfold CB at q
  by_cases hlt : i < W.heap.size
  · exact hlt
  · have hn : W.heap[i]? = none := by simp; omega
    rw [hn] at q; cases q
theorem CB.below (q : CB W i a b c d e f g h br) (hb : Below B W W1) (hi : i < B) : CB W1 i a b c d e f g h br := by
  unfold CB at q ⊢; rw [hb.block i hi]; exact q
theorem CB.then (q : CB W i a b c d e f g h br) (hb : Below W.heap.size W W1) : CB W1 i a b c d e f g h br := q.below hb q.lt
theorem CB.other {v : Value} (q : CB W i a b c d e f g h br) (hij : i ≠ j) : CB (W.setCell ⟨j, o, none⟩ v) i a b c d e f g h br := by
  unfold CB at q ⊢; rw [Below.heap_setCell _ _ _ _ hij]; exact q
theorem CB.alloc (q : CB W i a b c d e f g h br) (o : Obj) : CB (W.alloc o) i a b c d e f g h br := q.then (below_al (Below.refl _ _))
theorem CB.drew (q : CB W i a b c d e f g h br) : CB W.drew i a b c d e f g h br := q
theorem CB.set {a' b' c' d' e' f' g' h' : Nat} {br' : Bool} (q : CB W i a b c d e f g h br) : CB (((((((((W.setCell ⟨i, 0, none⟩ (.int .u8 a')).setCell ⟨i, 1, none⟩ (.int .u8 b')).setCell ⟨i, 2, none⟩ (.int .u8 c')).setCell ⟨i, 3, none⟩ (.int .u8 d')).setCell ⟨i, 4, none⟩ (.int .u8 e')).setCell ⟨i, 5, none⟩ (.int .u8 f')).setCell ⟨i, 6, none⟩ (.int .u8 g')).setCell ⟨i, 7, none⟩ (.int .u8 h')).setCell ⟨i, 8, none⟩ (.bool br')) i a' b' c' d' e' f' g' h' br' := by
  unfold CB at q ⊢
  simp only [World.setCell, Array.getElem?_modify, if_true, q, Option.map_some]
  simp
end
theorem cb_new (w : World) (a b c d e f g h : Nat) (br : Bool) : CB (w.alloc (.cells #[.int .u8 a, .int .u8 b, .int .u8 c, .int .u8 d, .int .u8 e, .int .u8 f, .int .u8 g, .int .u8 h, .bool br] 58)) w.heap.size a b c d e f g h br := by
  unfold CB
  show (w.heap.push _)[w.heap.size]? = _
  simp
/-- Block i holds a Checker that needs so, or is broken. -/
def KB (W : World) (i : Nat) (o : Option St) : Prop := ∃ a b c d e f g h : Nat, spV (o.getD .i8) = sp a b c d e f g h ∧ CB W i a b c d e f g h (!o.isSome)
theorem KB.then {W W1 : World} {i : Nat} {o : Option St} (q : KB W i o) (hb : Below W.heap.size W W1) : KB W1 i o := by
  obtain ⟨a, b, c, d, e, f, g, h, e1, q⟩ := q
  exact ⟨a, b, c, d, e, f, g, h, e1, q.then hb⟩
theorem KB.lt {W : World} {i : Nat} {o : Option St} (q : KB W i o) : i < W.heap.size := by
  obtain ⟨a, b, c, d, e, f, g, h, e1, q⟩ := q
  exact q.lt
theorem new_any (w : World) : Calls Tryd.prog 17 #[] w fun r w' => r = .returned (.pointer (some ⟨w.heap.size, 0, none⟩)) ∧ KB w' w.heap.size (some .i8) ∧ Below w.heap.size w w' := by
  go_enter Tryd.func17, Tryd.ntmps17
  go_wp2
  go_ret
  exact ⟨rfl, ⟨0, 0, 0, 0, 0, 0, 0, 0, rfl, cb_new w 0 0 0 0 0 0 0 0 false⟩, below_al (Below.refl _ _)⟩
/-- What End answers. -/
def endE (o : Option St) : Nat := match o with
  | none => 30
  | some q => if q = .i8 then 0 else 31
theorem end_nil (w : World) : Calls Tryd.prog 20 #[.pointer none] w fun r w' => r = .returned (.int .i64 3) ∧ w' = w := by
  go_enter Tryd.func20, Tryd.ntmps20
  go_wp2
  go_ret
  exact ⟨rfl, rfl⟩
theorem feed_nil (v : Value) (w : World) : Calls Tryd.prog 18 #[.pointer none, v] w fun r w' => r = .returned (.int .i64 3) ∧ w' = w := by
  go_enter Tryd.func18, Tryd.ntmps18
  go_wp2
  go_ret
  exact ⟨rfl, rfl⟩
set_option maxHeartbeats 1000000 in
theorem end_any (i : Nat) (o : Option St) (w : World) (g : Gu w) (k : KB w i o) :
    Calls Tryd.prog 20 #[.pointer (some ⟨i, 0, none⟩)] w fun r w' => r = .returned (.int .i64 (endE o : Nat)) ∧ Below w.heap.size w w' := by
  obtain ⟨a, b, c, d, e, f, g', h, e1, q⟩ := k
  obtain ⟨b0, b1, b2, b3, b4, b5, b6, b7⟩ := g.bts
  obtain ⟨c0, c1, c2, c3, c4, c5, c6, c7, c8, _⟩ := q.cells
  clear q
  cases o with
  | none =>
    simp only [Option.isSome_none, Bool.not_false] at c8
    clear e1
    go_enter Tryd.func20, Tryd.ntmps20
    go_wp2
    go_ret
    exact ⟨rfl, Below.refl _ _⟩
  | some q =>
    simp only [Option.isSome_some, Bool.not_true] at c8
    simp only [Option.getD_some] at e1
    have heq : ∀ w, (Op.equalIn 10000 48 (.agg #[.int .u8 a, .int .u8 b, .int .u8 c, .int .u8 d, .int .u8 e, .int .u8 f, .int .u8 g', .int .u8 h]) (.agg #[.int .u8 0, .int .u8 0, .int .u8 0, .int .u8 0, .int .u8 0, .int .u8 0, .int .u8 0, .int .u8 0])).run Tryd.prog w = .ok (q == .i8) w := fun w => by
      have := eq_sp q w
      rw [e1] at this
      exact this
    clear e1
    have hqe : (q == IntKind.i8) = decide (q = .i8) := by cases q <;> rfl
    rw [hqe] at heq
    by_cases hq : q = .i8
    · rw [decide_eq_true hq] at heq
      have hf := hide (show endE (some q) = 0 by simp [endE, hq])
      clear hq hqe
      go_enter Tryd.func20, Tryd.ntmps20
      go_wp2
      go_region_with fail
      all_goals
        go_wp2
        go_ret
        refine ⟨?_, (Below.refl _ _).drew⟩
        rw [hf.out]
        rfl
    · rw [decide_eq_false hq] at heq
      have hf := hide (show endE (some q) = 31 by simp [endE, hq])
      clear hq hqe
      go_enter Tryd.func20, Tryd.ntmps20
      go_wp2
      go_region_with fail
      all_goals
        go_wp2
        go_ret
        refine ⟨?_, (Below.refl _ _).drew⟩
        rw [hf.out]
        rfl
set_option maxHeartbeats 2000000 in
theorem feed_any (i : Nat) (o : Option St) (v : Value) (l : List UInt8) (w : World) (g : Gu w) (k : KB w i o) (sl : SL w v l) (hl : l.length < 9223372036854775807) :
    Calls Tryd.prog 18 #[.pointer (some ⟨i, 0, none⟩), v] w fun r w' => r = .returned (.int .i64 (if (o.bind fun q => run q l).isSome then 0 else 30)) ∧ KB w' i (o.bind fun q => run q l) ∧ But i w w' := by
  have k0 := hide k
  obtain ⟨a, b, c, d, e, f, g', h0, e1, q⟩ := k
  obtain ⟨c0, c1, c2, c3, c4, c5, c6, c7, c8, _⟩ := q.cells
  have hlt := q.lt
  have q := hide q
  cases o with
  | none =>
    simp only [Option.isSome_none, Bool.not_false] at c8
    clear e1
    go_enter Tryd.func18, Tryd.ntmps18
    go_wp2
    go_ret
    exact ⟨rfl, k0.out, But.refl _ _⟩
  | some p =>
    simp only [Option.isSome_some, Bool.not_true] at c8 q
    simp only [Option.getD_some] at e1
    have hcv := sl.drew.conv
    have hcv2 : ∀ o, (convert 35 9 v).run Tryd.prog (w.alloc o).drew = .ok (.string (mkB l)) (w.alloc o).drew := fun o => (sl.below (below_al (Below.refl _ _))).drew.conv
    have hth : Hid (∀ (W : World), Gu W → Calls Tryd.prog 21 #[.agg #[.int .u8 a, .int .u8 b, .int .u8 c, .int .u8 d, .int .u8 e, .int .u8 f, .int .u8 g', .int .u8 h0], .string (mkB l)] W fun r w' => r = .returned (stV (run p l)) ∧ Below W.heap.size W w') := fun W gW => by
      have := through_any p (mkB l) W gW (by rw [mkB_size]; exact hl)
      rw [e1, bl_mkB] at this
      exact this
    have g := hide g
    clear e1 sl
    have hbind : (Option.bind (some p) fun q => run q l) = run p l := rfl
    rw [hbind]
    clear hbind
    cases hr : run p l with
    | none =>
      rw [hr] at hth
      simp only [stV, sp] at hth
      clear hr
      go_enter Tryd.func18, Tryd.ntmps18
      go_wp2_with fail
      go_region_with (go_at_call 21; refine (hth.out _ (g.out.below (by first | exact (Below.refl _ _).drew | exact (below_al (Below.refl _ _)).drew))).mono ?_; rintro r w1 ⟨rfl, hb1⟩; first | (have sb1 : Hid (SB w1 w.heap.size 0 0 0 0 0 0 0 0) := (sb_new w 0 0 0 0 0 0 0 0).drew.below hb1 (show w.heap.size < (w.alloc _).heap.size by simp); have q1 : Hid (CB w1 i a b c d e f g' h0 false) := (q.out.alloc _).drew.then hb1; have U1 : Hid (But i w w1) := ((But.refl i w).al.dr).then hb1; have hz1 : w.heap.size < w1.heap.size := Nat.lt_of_lt_of_le (show w.heap.size < (w.alloc _).heap.size by simp) hb1.size; clear hb1; obtain ⟨r0, r1, r2, r3, r4, r5, r6, r7, s0, s1, s2, s3, s4, s5, s6, s7⟩ := sb1.out.cells; obtain ⟨m0, m1, m2, m3, m4, m5, m6, m7, m8, f0, f1, f2, f3, f4, f5, f6, f7, f8⟩ := q1.out.cells) | (have q1 : Hid (CB w1 i a b c d e f g' h0 false) := q.out.drew.then hb1; have U1 : Hid (But i w w1) := ((But.refl i w).dr).then hb1; have hz1 : w.heap.size ≤ w1.heap.size := hb1.size; clear hb1; have hq1 := q1.out.lt; obtain ⟨m0, m1, m2, m3, m4, m5, m6, m7, m8, f0, f1, f2, f3, f4, f5, f6, f7, f8⟩ := q1.out.cells))
      all_goals
        go_wp2_with fail
        go_ret
        first
          | (refine ⟨rfl, ⟨0, 0, 0, 0, 0, 0, 0, 0, rfl, ?_⟩, ?_⟩
             · with_reducible refine CB.alloc ?_ _
               exact CB.set (a' := 0) (b' := 0) (c' := 0) (d' := 0) (e' := 0) (f' := 0) (g' := 0) (h' := 0) (br' := true) q1.out
             · with_reducible refine But.al ?_
               iterate 9 with_reducible refine But.set ?_
               exact U1.out)
          | (refine ⟨rfl, ⟨0, 0, 0, 0, 0, 0, 0, 0, rfl, ?_⟩, ?_⟩
             · refine CB.set (a := a) (b := b) (c := c) (d := d) (e := e) (f := f) (g := g') (h := h0) (br := false) (a' := 0) (b' := 0) (c' := 0) (d' := 0) (e' := 0) (f' := 0) (g' := 0) (h' := 0) (br' := true) ?_
               iterate 8 with_reducible refine CB.other ?_ (by omega)
               exact q1.out
             · iterate 9 with_reducible refine But.set ?_
               iterate 8 with_reducible refine But.setNew ?_ (by omega)
               exact U1.out)
    | some p' =>
      rw [hr] at hth
      obtain ⟨a', b', c', d', e', f', g3, h', e2, _⟩ := spV_ex p'
      simp only [stV, e2, sp] at hth
      have e2 := hide e2
      clear hr
      go_enter Tryd.func18, Tryd.ntmps18
      go_wp2_with fail
      go_region_with (go_at_call 21; refine (hth.out _ (g.out.below (by first | exact (Below.refl _ _).drew | exact (below_al (Below.refl _ _)).drew))).mono ?_; rintro r w1 ⟨rfl, hb1⟩; first | (have sb1 : Hid (SB w1 w.heap.size 0 0 0 0 0 0 0 0) := (sb_new w 0 0 0 0 0 0 0 0).drew.below hb1 (show w.heap.size < (w.alloc _).heap.size by simp); have q1 : Hid (CB w1 i a b c d e f g' h0 false) := (q.out.alloc _).drew.then hb1; have U1 : Hid (But i w w1) := ((But.refl i w).al.dr).then hb1; have hz1 : w.heap.size < w1.heap.size := Nat.lt_of_lt_of_le (show w.heap.size < (w.alloc _).heap.size by simp) hb1.size; clear hb1; obtain ⟨r0, r1, r2, r3, r4, r5, r6, r7, s0, s1, s2, s3, s4, s5, s6, s7⟩ := sb1.out.cells; obtain ⟨m0, m1, m2, m3, m4, m5, m6, m7, m8, f0, f1, f2, f3, f4, f5, f6, f7, f8⟩ := q1.out.cells) | (have q1 : Hid (CB w1 i a b c d e f g' h0 false) := q.out.drew.then hb1; have U1 : Hid (But i w w1) := ((But.refl i w).dr).then hb1; have hz1 : w.heap.size ≤ w1.heap.size := hb1.size; clear hb1; have hq1 := q1.out.lt; obtain ⟨m0, m1, m2, m3, m4, m5, m6, m7, m8, f0, f1, f2, f3, f4, f5, f6, f7, f8⟩ := q1.out.cells))
      all_goals
        go_wp2_with fail
        go_ret
        first
          | (refine ⟨rfl, ⟨a', b', c', d', e', f', g3, h', e2.out, ?_⟩, ?_⟩
             · with_reducible refine CB.alloc ?_ _
               exact CB.set (a' := a') (b' := b') (c' := c') (d' := d') (e' := e') (f' := f') (g' := g3) (h' := h') (br' := false) q1.out
             · with_reducible refine But.al ?_
               iterate 9 with_reducible refine But.set ?_
               exact U1.out)
          | (refine ⟨rfl, ⟨a', b', c', d', e', f', g3, h', e2.out, ?_⟩, ?_⟩
             · refine CB.set (a := a) (b := b) (c := c) (d := d) (e := e) (f := f) (g := g') (h := h0) (br := false) (a' := a') (b' := b') (c' := c') (d' := d') (e' := e') (f' := f') (g' := g3) (h' := h') (br' := false) ?_
               iterate 8 with_reducible refine CB.other ?_ (by omega)
               exact q1.out
             · iterate 9 with_reducible refine But.set ?_
               iterate 8 with_reducible refine But.setNew ?_ (by omega)
               exact U1.out)
end Go.Proofs.YtefiklklppfimaaDoor
