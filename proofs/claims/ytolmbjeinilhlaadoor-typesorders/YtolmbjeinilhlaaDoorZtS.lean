/- Merged by program: IiSub, IiBox, IiStep. -/
import Derived.Test.YtolmbjeinilhlaaDoorZtIiPart
import Derived.Test.YtolmbjeinilhlaaDoorZtP
import Derived.Test.YtolmbjeinilhlaaDoorZtF
import Derived.Test.YtolmbjeinilhlaaDoorZtIaUnited
/- The reference of layer 11: Sub; Join, given Joined: walked. -/
namespace Go.Proofs.YtolmbjeinilhlaaDoor
open Go.RowKit Go.Maps
set_option linter.unusedSimpArgs false
set_option linter.unusedVariables false
set_option maxHeartbeats 2000000 in
set_option maxRecDepth 100000 in
theorem rsub_any (rv : RVal) (n : Nat) (x y : TT (n + 1)) (ns ls ns' ls' : Value) (w : World) (hx : TRd (n + 1) w x ns ls) (hy : TRd (n + 1) w y ns' ls') (E F : Int) (hE : TChk (n + 1) x E) (hF : TChk (n + 1) y F) :
    Calls Tryd.prog 19 #[.agg (tvs x.1 ns ls), .agg (tvs y.1 ns' ls')] w fun e w' => SubP (Chk2 E F) (Prt (n + 1) x y) w e w' := by
  obtain ⟨a1, m1, d1, a2, m2, d2, rfl, rfl⟩ := hx.rd.shape
  obtain ⟨a3, m3, d3, a4, m4, d4, rfl, rfl⟩ := hy.rd.shape
  have cA := hide (fun W (hb : Below w.heap.size w W) => rtcheck_any rv (n + 1) x _ _ W (hx.below hb) E hE)
  have cB := hide (fun W (hb : Below w.heap.size w W) => rtcheck_any rv (n + 1) y _ _ W (hy.below hb) F hF)
  have h00 : Hid (E = 0 → F = 0 → IsT (n + 1) x ∧ IsT (n + 1) y ∧ TChk (n + 1) x 0 ∧ TChk (n + 1) y 0) := fun e f => by
    subst e f
    exact ⟨hE.zero.1, hF.zero.1, hE, hF⟩
  have hP := hide (fun (q : IsT (n + 1) x ∧ IsT (n + 1) y) W (hb : Below w.heap.size w W) => rpart_any (n + 1) x y _ _ _ _ W (hx.rd.below hb) (hy.rd.below hb) q.1 q.2)
  obtain ⟨h, hh⟩ : ∃ h, thd (n + 1) x = h := ⟨_, rfl⟩
  obtain ⟨k, hk⟩ : ∃ k, thd (n + 1) y = k := ⟨_, rfl⟩
  have hh2 : x.1 = h := hh
  have hk2 : y.1 = k := hk
  rw [hh] at cA
  rw [hk] at cB
  rw [hh, hk] at hP
  rw [hh2, hk2]
  have T0 := hide (Bo2.new w h k (.slice a1 m1 d1) (.slice a2 m2 d2) (.slice a3 m3 d3) (.slice a4 m4 d4))
  clear hh hk hh2 hk2 hx hy hE hF
  show Calls _ _ #[.agg #[.int .i64 h.kind, .slice a1 m1 d1, .slice a2 m2 d2], .agg #[.int .i64 k.kind, .slice a3 m3 d3, .slice a4 m4 d4]] _ _
  by_cases e0 : E = 0
  · subst e0
    by_cases f0 : F = 0
    · subst f0
      have hp := hide (h00.out rfl rfl)
      go_enter Tryd.func19, Tryd.ntmps19
      go_wp2_with fail
      refine (cA.out _ T0.out.below).mono ?_
      rintro e w1 ⟨rfl, hb⟩
      have T1 := hide (T0.out.then hb)
      clear hb
      obtain ⟨x0, x1, x2⟩ := T1.out.ba.cells
      obtain ⟨y0, y1, y2⟩ := T1.out.bb.cells
      go_wp2_with fail
      refine (cB.out _ T1.out.below).mono ?_
      rintro e w2 ⟨rfl, hb⟩
      have T2 := hide (T1.out.then hb)
      clear hb T1 x0 x1 x2 y0 y1 y2
      obtain ⟨x0, x1, x2⟩ := T2.out.ba.cells
      obtain ⟨y0, y1, y2⟩ := T2.out.bb.cells
      go_wp2_with fail
      refine (hP.out ⟨hp.out.1, hp.out.2.1⟩ _ T2.out.below).mono ?_
      rintro e w3 ⟨b, rfl, hT2, hb2⟩
      have hT2 := hide hT2
      have T3 := hide (T2.out.then hb2)
      clear hb2
      go_wp2_with fail
      refine bodyPost_ret (v := .tuple #[.bool b, .int .i64 0]) (by simp [results, Tryd.results19, go_sem]) rfl ?_
      rw [chk2_00]
      exact ⟨b, rfl, ⟨fun q => ⟨rfl, hT2.out.1 q⟩, fun q => hT2.out.2 q.2⟩, T3.out.below⟩
    · have f1 : (F == 0) = false := beq_eq_false_iff_ne.2 f0
      have f2 : (F != 0) = true := by simpa using f0
      have f3 : decide (F = 0) = false := decide_eq_false f0
      have hc2 := hide (chk2_0 F)
      have f0' := hide f0
      clear f0
      go_enter Tryd.func19, Tryd.ntmps19
      go_wp2_with fail
      refine (cA.out _ T0.out.below).mono ?_
      rintro e w1 ⟨rfl, hb⟩
      have T1 := hide (T0.out.then hb)
      clear hb
      obtain ⟨x0, x1, x2⟩ := T1.out.ba.cells
      obtain ⟨y0, y1, y2⟩ := T1.out.bb.cells
      go_wp2_with fail
      refine (cB.out _ T1.out.below).mono ?_
      rintro e w2 ⟨rfl, hb⟩
      have T2 := hide (T1.out.then hb)
      clear hb T1 x0 x1 x2 y0 y1 y2
      obtain ⟨x0, x1, x2⟩ := T2.out.ba.cells
      obtain ⟨y0, y1, y2⟩ := T2.out.bb.cells
      go_wp2_with fail
      refine bodyPost_ret (v := .tuple #[.bool false, .int .i64 F]) (by simp [results, Tryd.results19, go_sem]) rfl ?_
      rw [hc2.out]
      exact ⟨false, rfl, ⟨(fun q => by cases q), fun q => absurd q.1 f0'.out⟩, T2.out.below⟩
  · have f1 : (E == 0) = false := beq_eq_false_iff_ne.2 e0
    have f2 : (E != 0) = true := by simpa using e0
    have f3 : decide (E = 0) = false := decide_eq_false e0
    have hc2 : Hid (Chk2 E F = E) := by unfold Chk2; rw [f1]; rfl
    have e0' := hide e0
    clear e0
    go_enter Tryd.func19, Tryd.ntmps19
    go_wp2_with fail
    refine (cA.out _ T0.out.below).mono ?_
    rintro e w1 ⟨rfl, hb⟩
    have T1 := hide (T0.out.then hb)
    clear hb
    obtain ⟨x0, x1, x2⟩ := T1.out.ba.cells
    obtain ⟨y0, y1, y2⟩ := T1.out.bb.cells
    go_wp2_with fail
    refine bodyPost_ret (v := .tuple #[.bool false, .int .i64 E]) (by simp [results, Tryd.results19, go_sem]) rfl ?_
    rw [hc2.out]
    exact ⟨false, rfl, ⟨(fun q => by cases q), fun q => absurd q.1 e0'.out⟩, T1.out.below⟩
/-- The reference's Joined is walked: what it answers lies in its arguments, or in blocks that it made. -/
def RJoinedOk : Prop := ∀ (n : Nat) (x y : TT (n + 1)) (ns ls ns' ls' : Value) (w0 w : World), Below w0.heap.size w0 w → TRd (n + 1) w0 x ns ls → TRd (n + 1) w0 y ns' ls' → TChk (n + 1) x 0 → TChk (n + 1) y 0 →
    Calls Tryd.prog 45 #[.agg (tvs x.1 ns ls), .agg (tvs y.1 ns' ls')] w fun e w' => ∃ (j : TT (n + 1)) (ns2 ls2 : Value), e = .returned (.agg (tvs j.1 ns2 ls2)) ∧ Hid (RJn n x y j ∧ ∀ W, Below w0.heap.size w0 W → (∀ k, w.heap.size ≤ k → k < w'.heap.size → W.heap[k]? = w'.heap[k]?) → RT (n + 1) W j ns2 ls2) ∧ Below w.heap.size w w'
/-- What the reference's Join answers. -/
def RJoinP (n : Nat) (C : Int) (x y : TT (n + 1)) (w : World) (e : Ending) (w' : World) : Prop :=
  (C ≠ 0 ∧ e = .returned (.tuple #[.agg #[.int .i64 0, .slice none 0 0, .slice none 0 0], .int .i64 C]) ∧ Below w.heap.size w w') ∨
  (C = 0 ∧ ∃ (j : TT (n + 1)) (ns2 ls2 : Value), e = .returned (.tuple #[.agg (tvs j.1 ns2 ls2), .int .i64 0]) ∧ Hid (RJn n x y j ∧ RT (n + 1) w' j ns2 ls2) ∧ Below w.heap.size w w')
set_option maxHeartbeats 2000000 in
set_option maxRecDepth 100000 in
theorem rjoin_any (rv : RVal) (rj : RJoinedOk) (n : Nat) (x y : TT (n + 1)) (ns ls ns' ls' : Value) (w : World) (hx : TRd (n + 1) w x ns ls) (hy : TRd (n + 1) w y ns' ls') (E F : Int) (hE : TChk (n + 1) x E) (hF : TChk (n + 1) y F) :
    Calls Tryd.prog 21 #[.agg (tvs x.1 ns ls), .agg (tvs y.1 ns' ls')] w fun e w' => RJoinP n (Chk2 E F) x y w e w' := by
  obtain ⟨a1, m1, d1, a2, m2, d2, rfl, rfl⟩ := hx.rd.shape
  obtain ⟨a3, m3, d3, a4, m4, d4, rfl, rfl⟩ := hy.rd.shape
  have cA := hide (fun W (hb : Below w.heap.size w W) => rtcheck_any rv (n + 1) x _ _ W (hx.below hb) E hE)
  have cB := hide (fun W (hb : Below w.heap.size w W) => rtcheck_any rv (n + 1) y _ _ W (hy.below hb) F hF)
  have h00 : Hid (E = 0 → F = 0 → IsT (n + 1) x ∧ IsT (n + 1) y ∧ TChk (n + 1) x 0 ∧ TChk (n + 1) y 0) := fun e f => by
    subst e f
    exact ⟨hE.zero.1, hF.zero.1, hE, hF⟩
  have hP := hide (fun (q : TChk (n + 1) x 0 ∧ TChk (n + 1) y 0) W (hb : Below w.heap.size w W) => rj n x y _ _ _ _ w W hb hx hy q.1 q.2)
  obtain ⟨h, hh⟩ : ∃ h, thd (n + 1) x = h := ⟨_, rfl⟩
  obtain ⟨k, hk⟩ : ∃ k, thd (n + 1) y = k := ⟨_, rfl⟩
  have hh2 : x.1 = h := hh
  have hk2 : y.1 = k := hk
  rw [hh] at cA
  rw [hk] at cB
  rw [show x.1 = h from hh, show y.1 = k from hk] at hP
  rw [hh2, hk2]
  have T0 := hide (Bo2.new w h k (.slice a1 m1 d1) (.slice a2 m2 d2) (.slice a3 m3 d3) (.slice a4 m4 d4))
  clear hh hk hh2 hk2 hx hy hE hF
  show Calls _ _ #[.agg #[.int .i64 h.kind, .slice a1 m1 d1, .slice a2 m2 d2], .agg #[.int .i64 k.kind, .slice a3 m3 d3, .slice a4 m4 d4]] _ _
  have T0' := hide (T0.out.then (below_al (o := .cells #[.int .i64 0, .slice none 0 0, .slice none 0 0] 26) (Below.refl _ _)))
  have hZ : Hid (ZT (((w.alloc (.cells (tvs h (.slice a1 m1 d1) (.slice a2 m2 d2)) 26)).alloc (.cells (tvs k (.slice a3 m3 d3) (.slice a4 m4 d4)) 26)).alloc (.cells #[.int .i64 0, .slice none 0 0, .slice none 0 0] 26)) (w.heap.size + 2)) := by
    have := heap_alloc_last ((w.alloc (.cells (tvs h (.slice a1 m1 d1) (.slice a2 m2 d2)) 26)).alloc (.cells (tvs k (.slice a3 m3 d3) (.slice a4 m4 d4)) 26)) (.cells #[.int .i64 0, .slice none 0 0, .slice none 0 0] 26)
    rw [World.size_alloc, World.size_alloc] at this
    exact this
  by_cases e0 : E = 0
  · subst e0
    by_cases f0 : F = 0
    · subst f0
      have hp := hide (h00.out rfl rfl)
      go_enter Tryd.func21, Tryd.ntmps21
      go_wp2_with fail
      refine (cA.out _ T0'.out.below).mono ?_
      rintro e w1 ⟨rfl, hb⟩
      have T1 := hide (T0'.out.then hb)
      have hZ1 := hide (hZ.out.below hb)
      clear hb
      obtain ⟨x0, x1, x2⟩ := T1.out.ba.cells
      obtain ⟨y0, y1, y2⟩ := T1.out.bb.cells
      obtain ⟨z0, z1, z2⟩ := hZ1.out.cells
      have zf := hZ1.out.frz
      go_wp2_with fail
      refine (cB.out _ T1.out.below).mono ?_
      rintro e w2 ⟨rfl, hb⟩
      have T2 := hide (T1.out.then hb)
      have hZ2 := hide (hZ1.out.below hb)
      clear hb T1 hZ1 x0 x1 x2 y0 y1 y2 z0 z1 z2 zf
      obtain ⟨x0, x1, x2⟩ := T2.out.ba.cells
      obtain ⟨y0, y1, y2⟩ := T2.out.bb.cells
      obtain ⟨z0, z1, z2⟩ := hZ2.out.cells
      have zf := hZ2.out.frz
      go_wp2_with fail
      refine (hP.out ⟨hp.out.2.2.1, hp.out.2.2.2⟩ _ T2.out.below).mono ?_
      rintro e w3 ⟨j, ns2, ls2, rfl, hj, hb2⟩
      have T3 := hide (T2.out.then hb2)
      have hlt := hZ2.out.lt
      have hZ3 := hide (hZ2.out.below hb2)
      clear hb2 x0 x1 x2 y0 y1 y2 z0 z1 z2 zf
      obtain ⟨z0, z1, z2⟩ := hZ3.out.cells
      have zf := hZ3.out.frz
      obtain ⟨p1, p2, p3, p4, p5, p6, rfl, rfl⟩ := (hj.out.2 _ T3.out.below (fun _ _ _ => rfl)).shape
      obtain ⟨⟨jk, jm⟩, jl⟩ := j
      simp only [tvs]
      go_wp2_with fail
      refine bodyPost_ret (v := .tuple #[.agg #[.int .i64 jk, .slice p1 p2 p3, .slice p4 p5 p6], .int .i64 0]) (by simp [results, Tryd.results21, go_sem, *]) rfl ?_
      rw [chk2_00]
      refine Or.inr ⟨rfl, (⟨jk, jm⟩, jl), _, _, rfl, ⟨hj.out.1, hj.out.2 _ (by repeat (first | exact T3.out.below | refine Below.setCell ?_ (by show w.heap.size ≤ w.heap.size + 2; omega) _)) (fun q e hq => ?_)⟩, (by repeat (first | exact T3.out.below | refine Below.setCell ?_ (by show w.heap.size ≤ w.heap.size + 2; omega) _))⟩
      have hne : q ≠ w.heap.size + 2 := by omega
      repeat rw [heap_set_ne hne]
    · have f1 : (F == 0) = false := beq_eq_false_iff_ne.2 f0
      have f2 : (F != 0) = true := by simpa using f0
      have f3 : decide (F = 0) = false := decide_eq_false f0
      have hc2 := hide (chk2_0 F)
      have f0' := hide f0
      clear f0
      go_enter Tryd.func21, Tryd.ntmps21
      go_wp2_with fail
      refine (cA.out _ T0'.out.below).mono ?_
      rintro e w1 ⟨rfl, hb⟩
      have T1 := hide (T0'.out.then hb)
      have hZ1 := hide (hZ.out.below hb)
      clear hb
      obtain ⟨x0, x1, x2⟩ := T1.out.ba.cells
      obtain ⟨y0, y1, y2⟩ := T1.out.bb.cells
      obtain ⟨z0, z1, z2⟩ := hZ1.out.cells
      have zf := hZ1.out.frz
      go_wp2_with fail
      refine (cB.out _ T1.out.below).mono ?_
      rintro e w2 ⟨rfl, hb⟩
      have T2 := hide (T1.out.then hb)
      have hZ2 := hide (hZ1.out.below hb)
      clear hb T1 hZ1 x0 x1 x2 y0 y1 y2 z0 z1 z2 zf
      obtain ⟨x0, x1, x2⟩ := T2.out.ba.cells
      obtain ⟨y0, y1, y2⟩ := T2.out.bb.cells
      obtain ⟨z0, z1, z2⟩ := hZ2.out.cells
      have zf := hZ2.out.frz
      go_wp2_with fail
      refine bodyPost_ret (v := .tuple #[.agg #[.int .i64 0, .slice none 0 0, .slice none 0 0], .int .i64 F]) (by simp [results, Tryd.results21, go_sem, *]) rfl ?_
      rw [hc2.out]
      exact Or.inl ⟨f0'.out, rfl, (by repeat (first | exact T2.out.below | refine Below.setCell ?_ (by show w.heap.size ≤ w.heap.size + 2; omega) _))⟩
  · have f1 : (E == 0) = false := beq_eq_false_iff_ne.2 e0
    have f2 : (E != 0) = true := by simpa using e0
    have f3 : decide (E = 0) = false := decide_eq_false e0
    have hc2 : Hid (Chk2 E F = E) := by unfold Chk2; rw [f1]; rfl
    have e0' := hide e0
    clear e0
    go_enter Tryd.func21, Tryd.ntmps21
    go_wp2_with fail
    refine (cA.out _ T0'.out.below).mono ?_
    rintro e w1 ⟨rfl, hb⟩
    have T1 := hide (T0'.out.then hb)
    have hZ1 := hide (hZ.out.below hb)
    clear hb
    obtain ⟨x0, x1, x2⟩ := T1.out.ba.cells
    obtain ⟨y0, y1, y2⟩ := T1.out.bb.cells
    obtain ⟨z0, z1, z2⟩ := hZ1.out.cells
    have zf := hZ1.out.frz
    go_wp2_with fail
    refine bodyPost_ret (v := .tuple #[.agg #[.int .i64 0, .slice none 0 0, .slice none 0 0], .int .i64 E]) (by simp [results, Tryd.results21, go_sem, *]) rfl ?_
    rw [hc2.out]
    exact Or.inl ⟨e0'.out, rfl, (by repeat (first | exact T1.out.below | refine Below.setCell ?_ (by show w.heap.size ≤ w.heap.size + 2; omega) _))⟩
end Go.Proofs.YtolmbjeinilhlaaDoor
/- The reference's Joined: its boxes and the rows that it makes. -/
namespace Go.Proofs.YtolmbjeinilhlaaDoor
open Go.RowKit Go.Maps
set_option linter.unusedSimpArgs false
set_option linter.unusedVariables false
/-- Where the reference's Joined stands, in its loops: out's box is V. -/
structure JI (n : Nat) (w0 w : World) (h g : Th) (an al bn bl' : Value) (V : Nat) (nm : List ByteArray) (ts : List (TT n)) (nv lv : Value) (W : World) : Prop where
  below : Below w.heap.size w W
  hV : w.heap.size + 4 ≤ V
  box : Tx W V ⟨11, nm⟩ nv lv
  nrow : OwnS W (w.heap.size + 4) nv nm
  lrow : OT n w0 W (w.heap.size + 4) lv ts
  nne : nv.ownBlock ≠ some V
  lne : lv.ownBlock ≠ some V
  ba : Tx W w.heap.size h an al
  bb : Tx W (w.heap.size + 1) g bn bl'
  bz : ZT W (w.heap.size + 2)
  be : Tx W (w.heap.size + 3) ⟨1, []⟩ (.slice none 0 0) (.slice none 0 0)
section
variable {n : Nat} {w0 w W : World} {h g : Th} {an al bn bl' : Value} {V : Nat} {nm : List ByteArray} {ts : List (TT n)} {nv lv : Value}
theorem JI.then {W1 : World} (k : JI n w0 w h g an al bn bl' V nm ts nv lv W) (hb : Below W.heap.size W W1) : JI n w0 w h g an al bn bl' V nm ts nv lv W1 :=
  ⟨below_then k.below hb, k.hV, k.box.below hb, ownsRow_of k.nrow fun q _ hq => hb.block q hq, k.lrow.below hb, k.nne, k.lne, k.ba.below hb, k.bb.below hb, k.bz.below hb, k.be.below hb⟩
/-- A name more. -/
theorem JI.name {w3 w4 : World} {nv' : Value} {s : ByteArray} (k : JI n w0 w h g an al bn bl' V nm ts nv lv W) (hb : Below W.heap.size W w3) (hg : w3.grownBy w4 nv.ownBlock) (ho : w4.ownsRow (w.heap.size + 4) 9 1 nv' (nm.length + 1) (scs nm ++ [.string s])) (hat : nv'.ownBlock = nv.ownBlock ∨ nv'.ownBlock = some w3.heap.size) :
    JI n w0 w h g an al bn bl' V (nm ++ [s]) ts nv' lv (w4.setCell ⟨V, 1, none⟩ nv') ∧ Tx w4 V ⟨11, nm⟩ nv lv := by
  have hz := hb.size
  have hVl := k.box.lt
  have hVb := k.hV
  have hnl := World.ownsRow.lt k.nrow
  have hol := World.ownsRow.lt ho
  obtain ⟨xs, hxs, hall⟩ := k.lrow
  have hll := World.ownsRow.lt hxs
  have old : ∀ q, q < W.heap.size → nv.ownBlock ≠ some q → w4.heap[q]? = W.heap[q]? := fun q q1 q2 => (hg.block q (by omega) (fun e => q2 e.symm)).trans (hb.block q q1)
  have bx : Tx w4 V ⟨11, nm⟩ nv lv := ⟨(old V hVl k.nne).trans k.box.at_⟩
  have nne' : nv'.ownBlock ≠ some V := by
    rcases hat with q | q
    · rw [q]; exact k.nne
    · rw [q]; intro e; have : w3.heap.size = V := by simpa using e
      omega
  have low : ∀ q, q < w.heap.size + 4 → nv.ownBlock ≠ some q := fun q hq e => by have := (hnl q e).1; omega
  have hbl := k.below.size
  have keep : ∀ q, q < W.heap.size → nv.ownBlock ≠ some q → q ≠ V → (w4.setCell ⟨V, 1, none⟩ nv').heap[q]? = W.heap[q]? := fun q q1 q2 q3 => by rw [heap_set_ne q3]; exact old q q1 q2
  refine ⟨⟨?_, k.hV, ?_, ?_, ?_, nne', k.lne, ⟨?_⟩, ⟨?_⟩, ?_, ⟨?_⟩⟩, bx⟩
  · exact ((below_then k.below hb).grown hg (by omega) fun q e => by have := (hnl q e).1; omega).setCell (by show w.heap.size ≤ V; omega) _
  · have := bx.set1 (u := nv')
    exact ⟨this.at_⟩
  · unfold OwnS
    rw [List.length_append, show scs (nm ++ [s]) = scs nm ++ [.string s] by simp [scs]]
    exact ownsRow_of ho fun q e _ => heap_set_ne (show q ≠ V from fun e2 => nne' (e2 ▸ e))
  · refine ⟨xs, ownsRow_of hxs fun q e hq => keep q hq (fun e1 => ?_) (fun e2 => k.lne (e2 ▸ e)), hall⟩
    exact rows_neT k.nrow hxs e1 e
  · rw [keep _ k.ba.lt (low _ (by omega)) (by omega)]; exact k.ba.at_
  · rw [keep _ k.bb.lt (low _ (by omega)) (by omega)]; exact k.bb.at_
  · exact (keep _ k.bz.lt (low _ (by omega)) (by omega)).trans k.bz
  · rw [keep _ k.be.lt (low _ (by omega)) (by omega)]; exact k.be.at_
/-- A type more. -/
theorem JI.push {w3 w4 : World} {lv' : Value} {y : TT n} {ns ls : Value} {xs : List Value} (k : JI n w0 w h g an al bn bl' V nm ts nv lv W) (hb : Below W.heap.size W w3) (hx : W.ownsRow (w.heap.size + 4) 26 3 lv ts.length xs)
    (hall : ∀ j (h : j < ts.length), ∃ ns ls, RT n w0 ts[j] ns ls ∧ ∀ r u, (tvs (thd n ts[j]) ns ls).toList[r]? = some u → xs[j * 3 + r]? = some u) (hy : RT n w0 y ns ls)
    (hg : w3.grownBy w4 lv.ownBlock) (ho : w4.ownsRow (w.heap.size + 4) 26 3 lv' (ts.length + 1) (xs ++ (tvs (thd n y) ns ls).toList)) (hat : lv'.ownBlock = lv.ownBlock ∨ lv'.ownBlock = some w3.heap.size) :
    JI n w0 w h g an al bn bl' V nm (ts ++ [y]) nv lv' (w4.setCell ⟨V, 2, none⟩ lv') ∧ Tx w4 V ⟨11, nm⟩ nv lv := by
  have hz := hb.size
  have hVl := k.box.lt
  have hVb := k.hV
  have hnl := World.ownsRow.lt k.nrow
  have hll := World.ownsRow.lt hx
  have old : ∀ q, q < W.heap.size → lv.ownBlock ≠ some q → w4.heap[q]? = W.heap[q]? := fun q q1 q2 => (hg.block q (by omega) (fun e => q2 e.symm)).trans (hb.block q q1)
  have bx : Tx w4 V ⟨11, nm⟩ nv lv := ⟨(old V hVl k.lne).trans k.box.at_⟩
  have lne' : lv'.ownBlock ≠ some V := by
    rcases hat with q | q
    · rw [q]; exact k.lne
    · rw [q]; intro e; have : w3.heap.size = V := by simpa using e
      omega
  have low : ∀ q, q < w.heap.size + 4 → lv.ownBlock ≠ some q := fun q hq e => by have := (hll q e).1; omega
  have hbl := k.below.size
  have keep : ∀ q, q < W.heap.size → lv.ownBlock ≠ some q → q ≠ V → (w4.setCell ⟨V, 2, none⟩ lv').heap[q]? = W.heap[q]? := fun q q1 q2 q3 => by rw [heap_set_ne q3]; exact old q q1 q2
  refine ⟨⟨?_, k.hV, bx.set2, ?_, ?_, k.nne, lne', ⟨?_⟩, ⟨?_⟩, ?_, ⟨?_⟩⟩, bx⟩
  · exact ((below_then k.below hb).grown hg (by omega) fun q e => by have := (hll q e).1; omega).setCell (by show w.heap.size ≤ V; omega) _
  · exact ownsRow_of k.nrow fun q e hq => keep q hq (fun e1 => rows_neT k.nrow hx e e1) (fun e2 => k.nne (e2 ▸ e))
  · have ho' := ownsRow_of ho (W1 := w4.setCell ⟨V, 2, none⟩ lv') fun q e _ => heap_set_ne (show q ≠ V from fun e2 => lne' (e2 ▸ e))
    refine OT.app (l2 := [y]) (by rw [hx.1]) hall (fun j hj => ?_) ho' (by simp)
    have hj0 : j = 0 := by have : j < 1 := hj; omega
    subst hj0
    exact ⟨ns, ls, hy, fun r u hu => by simpa using hu⟩
  · rw [keep _ k.ba.lt (low _ (by omega)) (by omega)]; exact k.ba.at_
  · rw [keep _ k.bb.lt (low _ (by omega)) (by omega)]; exact k.bb.at_
  · exact (keep _ k.bz.lt (low _ (by omega)) (by omega)).trans k.bz
  · rw [keep _ k.be.lt (low _ (by omega)) (by omega)]; exact k.be.at_
end
end Go.Proofs.YtolmbjeinilhlaaDoor
/- One name, one type appended to a row of the call's own. -/
namespace Go.Proofs.YtolmbjeinilhlaaDoor
open Go.RowKit Go.Maps
set_option linter.unusedSimpArgs false
set_option linter.unusedVariables false
set_option maxHeartbeats 1000000 in
/-- One name more, in a region that draws its order. -/
theorem step_n1 {w : World} {ops : Array Oper} {o : Oper} {a : Act} {K : Act → World → Prop} {Q : Exit → Act → World → Prop} {E : Prop} (hgd : o.guard = none) (s x : Operand) (ho : o.op = .call { callee := .builtin .append, args := #[s, x], argTypes := #[23, 23] })
    (B : Nat) (v : Value) (nm : List ByteArray) (N : Nat) (hN : nm.length = N) (hs : a.eval s = v) (hown : OwnS w B v nm) (g c : Nat) (hx : a.eval x = .slice (some ⟨g, 0, none⟩) 1 c) (st : ByteArray) (hnews : w.cell? ⟨g, 0, none⟩ = some (.string st)) (hm : N ≤ 200000) (hB : B ≤ w.heap.size)
    (h : ∀ av c' w', Hid (w'.ownsRow B 9 1 (.slice av (N + 1) c') (N + 1) (scs nm ++ [.string st])) → Hid (w.grownBy w' v.ownBlock) → Hid ((Value.slice av (N + 1) c').ownBlock = v.ownBlock ∨ (Value.slice av (N + 1) c').ownBlock = some w.heap.size) → K (a.put o.dst (.slice av (N + 1) c')) w') :
    if Region.wanted o (yielded ops a.tmps) = true then Oper.wp Tryd.prog o a w K Q else E := by
  have hw : Region.wanted o (yielded ops a.tmps) = true := by simp [Region.wanted, hgd]
  rw [if_pos hw]
  obtain ⟨i0, hi, hz0, hz1, hz2⟩ := info_parts info9
  unfold OwnS at hown
  rw [hN] at hown
  obtain ⟨v', w', hr, h1, h2, h3, h4⟩ := run_append_own_at (P := Tryd.prog) w B 23 o.type 9 i0 (.string ⟨#[]⟩) 1 16 Tryd.underlying23 hi hz0 hz1 hz2 rfl (by decide) v N (scs nm) hown ⟨g, 0, none⟩ 1 c [.string st] rfl (by
    intro j u hj
    have hj0 : j = 0 := by have := (List.getElem?_eq_some_iff.1 hj).1; simp at this; omega
    subst hj0
    simp only [List.getElem?_cons_zero, Option.some.injEq] at hj
    subst hj
    exact hnews) (by intro u hu; rw [List.mem_singleton] at hu; subst hu; rfl) (by unfold maxLen; omega) (by omega) hB
  unfold Oper.wp execOp
  simp only [ho, resolve, invoke, builtin, Sem.run_bind, Sem.run_pure, Result.andThen_ok, List.map_toArray, List.map_cons, List.map_nil, hs, hx, hr]
  rcases h1.2 with ⟨rfl, e⟩ | ⟨g', cap, cur, rfl, _⟩
  · omega
  · exact h _ _ w' h1 h2 h4
set_option maxHeartbeats 1000000 in
/-- One type more, where the order is fixed. -/
theorem app_t1 {w : World} {ops : Array Oper} {o : Oper} {a : Act} {rest : List Oper} {Q : Exit → Act → World → Prop} (hgd : o.guard = none) (s x : Operand) (ho : o.op = .call { callee := .builtin .append, args := #[s, x], argTypes := #[24, 24] })
    (B : Nat) (v : Value) (n : Nat) (xs : List Value) (hs : a.eval s = v) (hown : Hid (w.ownsRow B 26 3 v n xs)) (g c : Nat) (hx : a.eval x = .slice (some ⟨g, 0, none⟩) 1 c) (hd : Th) (ns ls : Value) (hn : ns.oneCell' = true) (hl : ls.oneCell' = true)
    (hnews : Hid (w.rangeAt g 0 (tvs hd ns ls).toList)) (hm : Hid (n ≤ 200000)) (hB : Hid (B ≤ w.heap.size))
    (h : ∀ av c' w', Hid (w'.ownsRow B 26 3 (.slice av (n + 1) c') (n + 1) (xs ++ (tvs hd ns ls).toList)) → Hid (w.grownBy w' v.ownBlock) → Hid ((Value.slice av (n + 1) c').ownBlock = v.ownBlock ∨ (Value.slice av (n + 1) c').ownBlock = some w.heap.size) → wpList Tryd.prog ops Q rest (a.put o.dst (.slice av (n + 1) c')) w') : wpList Tryd.prog ops Q (o :: rest) a w := by
  obtain ⟨i0, hi, hz0, hz1, hz2⟩ := info_parts infoTT
  have hm := hm.out
  have hnews := hnews.out
  refine wpList_append_own_at w hgd s x 24 ho B 26 i0 _ 3 56 Tryd.underlying24 hi hz0 hz1 hz2 rfl (by decide) v n xs hs hown.out ⟨g, 0, none⟩ 1 c (tvs hd ns ls).toList hx rfl ?_ ?_ (by unfold maxLen; omega) (by omega) hB.out ?_
  · intro j u hj
    have := hnews j u hj
    rw [show (⟨g, 0, none⟩ : Addr).add j = ⟨g, 0 + j, none⟩ by unfold Addr.add; split <;> simp_all]
    exact this
  · intro u hu
    simp only [tvs, List.mem_cons, List.not_mem_nil, or_false] at hu
    rcases hu with rfl | rfl | rfl
    all_goals first | rfl | exact hn | exact hl
  · intro v' w' h1 h2 h3 h4
    rcases h1.2 with ⟨rfl, e⟩ | ⟨g', cap, cur, rfl, _⟩
    · omega
    · exact h _ _ w' h1 h2 h4
end Go.Proofs.YtolmbjeinilhlaaDoor
