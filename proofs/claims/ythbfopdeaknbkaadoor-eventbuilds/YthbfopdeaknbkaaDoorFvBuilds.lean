/-
  calamuslaw05.EventBuilds answers true for any events, and leaves them as they were: Build answers just the value whose events they are, or the error that the document asks, and leaves what is handed in as it was; and the document's examples answer as they should.
  What it leans on: utf's two package variables start as the program's text lays them (the card ties them), and what is handed in fits into memory (the form's own reach); nothing else is asked.
-/
import Derived.Test.YthbfopdeaknbkaaDoorFtM
import Derived.Laws.CopyRow
import Derived.Laws.MakeOwn
import Derived.Laws.CopyOwn
import Derived.Test.YthbfopdeaknbkaaDoorUfTextV
import Derived.Lib.LaidU8T
import Derived.Lib.LaidTab
import Derived.ChangeMaps5
import Derived.ProofKit
import Derived.Lib.SmallJoins
import Derived.Lay
import Derived.SevenTiedAt
import Derived.Test.YthbfopdeaknbkaaDoorWoOpen
import Derived.Test.YthbfopdeaknbkaaDoorCards
import Derived.Test.YthbfopdeaknbkaaDoorTie
/- Merged by program: FrOwn, FsBuilds. -/
/- event.Build and the reference's, case by case; a row of events of the call's own. -/
namespace Go.Proofs.YthbfopdeaknbkaaDoor
open Go.RowKit
set_option linter.unusedSimpArgs false
set_option linter.unusedVariables false
theorem blt_cases (es : List Hd) : (runE es = none ∧ bltE (runE es) = 50) ∨ (runE es ≠ none ∧ doneS (runE es) = false ∧ bltE (runE es) = 51) ∨ (doneS (runE es) = true ∧ bltE (runE es) = 0) := by
  cases hr : runE es with
  | none => exact Or.inl ⟨rfl, rfl⟩
  | some s =>
    cases hd : doneS (some s) with
    | false => exact Or.inr (Or.inl ⟨by simp, rfl, by unfold bltE; rw [hd]; rfl⟩)
    | true => exact Or.inr (Or.inr ⟨rfl, by unfold bltE; rw [hd]; rfl⟩)
theorem build_A (v : Value) (es : List Hd) (w : World) (hv : ES w v es) (hs : es.length ≤ 50000) (hz : ∀ e ∈ es, EvZ e) (g : Ut.Gu w) (hne : bltE (runE es) ≠ 0) :
    Calls Tryd.prog 17 #[v] w fun e w' => e = .returned (.tuple #[.agg #[.int .i64 0, .bool false, .bool false, .string ⟨#[]⟩, .int .i64 0, .int .u64 0, .string ⟨#[]⟩, .slice none 0 0, .slice none 0 0], .int .i64 (bltE (runE es))]) ∧ Below w.heap.size w w' := by
  obtain ⟨a, c, rfl, h1, h2, h3⟩ := hv
  by_cases h0 : es.length = 0
  · have e : es = [] := List.eq_nil_of_length_eq_zero h0
    subst e
    refine (Build_empty a c w).mono ?_
    rintro e w' ⟨hb, rfl⟩
    exact ⟨rfl, hb⟩
  · obtain ⟨b, o, rfl, hlt, hel⟩ := h3 (by omega)
    have hB : Bd w es b o c := ⟨hel, hlt, h1, h2, hs, hz⟩
    have hd : ¬ doneS (runE es) = true := fun q => by
      rcases blt_cases es with ⟨p, _⟩ | ⟨_, p, _⟩ | ⟨_, p⟩
      · rw [p] at q; cases q
      · rw [p] at q; cases q
      · exact hne p
    have main : ∀ e w', Below w.heap.size w w' ∧ BR es 1 null1 0 w w' e → e = .returned (.tuple #[.agg #[.int .i64 0, .bool false, .bool false, .string ⟨#[]⟩, .int .i64 0, .int .u64 0, .string ⟨#[]⟩, .slice none 0 0, .slice none 0 0], .int .i64 (bltE (runE es))]) ∧ Below w.heap.size w w' := by
      rintro e w' ⟨hb, r1, r2, _⟩
      rcases blt_cases es with ⟨p, q⟩ | ⟨p, p2, q⟩ | ⟨_, p⟩
      · rw [r1 p, q]; exact ⟨rfl, hb⟩
      · rw [r2 p p2, q]; exact ⟨rfl, hb⟩
      · exact absurd p hne
    by_cases hc : c = 1
    · subst hc
      exact (Build_one es b o w hB g 1 null1 (fun q => absurd q hd) 0 null_chk).mono main
    · exact (Build_any es b o c w hB (by omega) g 1 null1 (fun q => absurd q hd) 0 null_chk).mono main
theorem build_D (v : Value) (es : List Hd) (w : World) (hv : ES w v es) (hs : es.length ≤ 50000) (hz : ∀ e ∈ es, EvZ e) (g : Ut.Gu w) (x : VT es.length) (hx : IsV es.length x) (hfl : es = fl es.length x) (E : Int) (hE : Chk es.length x E) :
    Calls Tryd.prog 17 #[v] w fun e w' => Below w.heap.size w w' ∧ (E ≠ 0 → e = .returned (.tuple #[.agg #[.int .i64 0, .bool false, .bool false, .string ⟨#[]⟩, .int .i64 0, .int .u64 0, .string ⟨#[]⟩, .slice none 0 0, .slice none 0 0], .int .i64 2])) ∧ (E = 0 → ∃ ns ls, e = .returned (.tuple #[.agg (vals (vhd es.length x) ns ls), .int .i64 0]) ∧ RD es.length w' x ns ls) := by
  obtain ⟨a, c, rfl, h1, h2, h3⟩ := hv
  have hp : 0 < es.length := by rw [hfl]; exact fl_pos _ x
  obtain ⟨b, o, rfl, hlt, hel⟩ := h3 hp
  have hB : Bd w es b o c := ⟨hel, hlt, h1, h2, hs, hz⟩
  have hd : doneS (runE es) = true := by rw [hfl, runE_fl _ x hx]; rfl
  have hsz : Sz es.length x := fl_sz _ x hx (by rw [← hfl]; exact hs) (by rw [← hfl]; exact hz)
  have hsi : siz es.length x ≤ 200000 := by have := fl_siz _ x hx; rw [← hfl] at this; omega
  have main : ∀ e w', Below w.heap.size w w' ∧ BR es es.length x E w w' e → Below w.heap.size w w' ∧ (E ≠ 0 → e = .returned (.tuple #[.agg #[.int .i64 0, .bool false, .bool false, .string ⟨#[]⟩, .int .i64 0, .int .u64 0, .string ⟨#[]⟩, .slice none 0 0, .slice none 0 0], .int .i64 2])) ∧ (E = 0 → ∃ ns ls, e = .returned (.tuple #[.agg (vals (vhd es.length x) ns ls), .int .i64 0]) ∧ RD es.length w' x ns ls) := by
    rintro e w' ⟨hb, _, _, hbr⟩
    obtain ⟨r1, r2⟩ := hbr hd
    refine ⟨hb, r1, fun q => ?_⟩
    obtain ⟨ns, ls, s', f, e1, _, hk⟩ := r2 q
    exact ⟨ns, ls, e1, hk.out.rd⟩
  by_cases hc : c = 1
  · subst hc
    exact (Build_one es b o w hB g es.length x (fun _ => ⟨hfl, isv_nf _ x hx, hsz, hsi⟩) E hE).mono main
  · exact (Build_any es b o c w hB (by omega) g es.length x (fun _ => ⟨hfl, isv_nf _ x hx, hsz, hsi⟩) E hE).mono main
set_option maxHeartbeats 2000000 in
set_option maxRecDepth 100000 in
theorem rbuild_A (v : Value) (es : List Hd) (w : World) (hv : ES w v es) (hs : es.length ≤ 50000) (hz : ∀ e ∈ es, EvZ e) (hne : bltE (runE es) ≠ 0) :
    Calls Tryd.prog 18 #[v] w fun e w' => e = .returned (.tuple #[.agg #[.int .i64 0, .bool false, .bool false, .string ⟨#[]⟩, .int .i64 0, .int .u64 0, .string ⟨#[]⟩, .slice none 0 0, .slice none 0 0], .int .i64 (bltE (runE es))]) ∧ Below w.heap.size w w' := by
  have rb := hide (fun o => rbuilt_any rmay es v (w.alloc o) (hv.below (below_al (Below.refl _ _))) hz hs)
  obtain ⟨va, vc, rfl⟩ := es_shape hv
  obtain ⟨E, hE⟩ : ∃ E, bltE (runE es) = E := ⟨_, rfl⟩
  have hE' := hide hE
  rw [hE] at hne ⊢
  have hne2 : (E != 0) = true := by simpa using hne
  clear hE hv hz hs
  go_enter Tryd.func18, Tryd.ntmps18
  go_wp2_with (go_at_call 22; refine Stop.out ?_)
  refine Stop.mk ((rb.out _).mono ?_)
  rintro e w1 ⟨hb1, h, a1, m1, d1, a2, m2, d2, rfl, _⟩
  rw [hE'.out]
  have B1 : Hid (Below w.heap.size w w1) := below_then (below_al (Below.refl _ _)) hb1
  have X1 := hide ((bx_new w (zr 0) (.slice none 0 0) (.slice none 0 0)).below hb1)
  obtain ⟨r0, r1, r2, r3, r4, r5, r6, r7, r8⟩ := X1.out.cells
  have fR := X1.out.frz
  simp only [zr] at r0 r1 r2 r3 r4 r5 r6
  have z1 : w.heap.size < w1.heap.size := X1.out.lt
  simp only [vals]
  clear hb1
  go_wp2_with fail
  refine bodyPost_ret (v := .tuple #[.agg #[.int .i64 0, .bool false, .bool false, .string ⟨#[]⟩, .int .i64 0, .int .u64 0, .string ⟨#[]⟩, .slice none 0 0, .slice none 0 0], .int .i64 E]) (by simp [results, Tryd.results18, go_sem, *]) rfl ⟨rfl, ?_⟩
  repeat (first | (with_reducible exact Hid.out (by assumption)) | (with_reducible refine below_al ?_) | (with_reducible refine Below.setCell ?_ (Nat.le_refl w.heap.size) _))
set_option maxHeartbeats 2000000 in
set_option maxRecDepth 100000 in
theorem rbuild_D (v : Value) (es : List Hd) (w : World) (hv : ES w v es) (hs : es.length ≤ 50000) (hz : ∀ e ∈ es, EvZ e) (x : VT es.length) (hx : IsV es.length x) (hfl : es = fl es.length x) (E : Int) (hE : Chk es.length x E) :
    Calls Tryd.prog 18 #[v] w fun e w' => Below w.heap.size w w' ∧ (E ≠ 0 → e = .returned (.tuple #[.agg #[.int .i64 0, .bool false, .bool false, .string ⟨#[]⟩, .int .i64 0, .int .u64 0, .string ⟨#[]⟩, .slice none 0 0, .slice none 0 0], .int .i64 2])) ∧ (E = 0 → ∃ ns ls, e = .returned (.tuple #[.agg (vals (vhd es.length x) ns ls), .int .i64 0]) ∧ RD es.length w' x ns ls) := by
  have rb := hide (fun o => rbuilt_any rmay es v (w.alloc o) (hv.below (below_al (Below.refl _ _))) hz hs)
  obtain ⟨va, vc, rfl⟩ := es_shape hv
  have hd : bltE (runE es) = 0 := bltE_done (by rw [hfl]; exact runE_fl _ x hx)
  have hd' := hide hd
  have hsz : Sz es.length x := fl_sz _ x hx (by rw [← hfl]; exact hs) (by rw [← hfl]; exact hz)
  have hsi : siz es.length x ≤ 200000 := by have := fl_siz _ x hx; rw [← hfl] at this; omega
  have hinj : Hid (∀ x' : VT es.length, IsV es.length x' → es = fl es.length x' → x' = x) := fun x' h1 h2 => (fl_inj _ x' x h1 hx [] [] (by rw [← h2, ← hfl])).1
  have ck := hide (fun W ns ls (hr : RD es.length W x ns ls) => rcheck_any rval es.length x ns ls W ⟨hr, hsz, hsi⟩ E hE)
  clear hd hv hz hs hfl hx hsz hsi hE
  go_enter Tryd.func18, Tryd.ntmps18
  go_wp2_with (go_at_call 22; refine Stop.out ?_)
  refine Stop.mk ((rb.out _).mono ?_)
  rintro e w1 ⟨hb1, h, a1, m1, d1, a2, m2, d2, rfl, hq⟩
  obtain ⟨x', hx1, hx2, hx3, s0, f0, hs0, hx4⟩ := hq hd'.out
  have hxx := hinj.out x' hx1 hx2
  subst hxx
  rw [hd'.out]
  have hh' := hide hx3
  have KR1 := hide hx4
  have RD1 := hide hx4.rd
  simp only [World.size_alloc] at hs0
  rw [← hx3] at ck
  have B1 : Hid (Below w.heap.size w w1) := below_then (below_al (Below.refl _ _)) hb1
  have X1 := hide ((bx_new w (zr 0) (.slice none 0 0) (.slice none 0 0)).below hb1)
  simp only [vals] at ck ⊢
  have z1 : w.heap.size < w1.heap.size := X1.out.lt
  clear hb1 hq hx1 hx2 hx3 hx4
  have ck1 := hide (fun o => ck.out (w1.alloc o) (.slice a1 m1 d1) (.slice a2 m2 d2) (RD1.out.below (below_al (Below.refl _ _))))
  clear ck
  go_wp2_with (go_at_call 29; refine Stop.out ?_)
  refine Stop.mk ((ck1.out _).mono ?_)
  rintro e w2 ⟨rfl, hb2⟩
  have B2 : Hid (Below w.heap.size w w2) := below_then (below_al B1.out) hb2
  have X2 := hide ((X1.out.below (below_al (Below.refl _ _))).below hb2)
  have V2 := hide ((bx_new w1 h (.slice a1 m1 d1) (.slice a2 m2 d2)).below hb2)
  have RD2 := hide ((RD1.out.below (below_al (Below.refl _ _))).below hb2)
  have z2 : w1.heap.size < w2.heap.size := V2.out.lt
  have z3 : w.heap.size < w2.heap.size := by omega
  have KR2 := hide (KR1.out.move (W1 := w2) (by have := KR1.out.2.1; omega) (fun q q1 q2 => by rw [hb2.block q (by simp; have := KR1.out.2.1; omega), Below.heap_alloc _ _ _ (by have := KR1.out.2.1; omega)]))
  obtain ⟨r0, r1, r2, r3, r4, r5, r6, r7, r8⟩ := X2.out.cells
  have fR := X2.out.frz
  simp only [zr] at r0 r1 r2 r3 r4 r5 r6
  obtain ⟨v0, v1, v2, v3, v4, v5, v6, v7, v8⟩ := V2.out.cells
  clear hb2
  by_cases e0 : E = 0
  · have ne0 : (E != 0) = false := by simpa using e0
    have e0' := hide e0
    have hs0' := hide hs0
    clear e0 hs0
    go_wp2_with fail
    refine bodyPost_ret (v := .tuple #[.agg #[.int .i64 h.kind, .bool h.flag, .bool h.neg, .string h.dig, .int .i64 h.exp, .int .u64 h.bits, .string h.text, .slice a1 m1 d1, .slice a2 m2 d2], .int .i64 0]) (by simp [results, Tryd.results18, go_sem, *]) rfl ⟨?_, fun q => absurd e0'.out q, fun _ => ⟨.slice a1 m1 d1, .slice a2 m2 d2, by rw [← hh'.out]; rfl, ?_⟩⟩
    · repeat (first | (with_reducible exact Hid.out (by assumption)) | (with_reducible refine below_al ?_) | (with_reducible refine Below.setCell ?_ (Nat.le_refl w.heap.size) _))
    · refine (KR2.out.move (by simp; exact KR2.out.2.1) ?_).rd
      intro q q1 q2
      have := hs0'.out
      simp only [heap_set_ne (show q ≠ w.heap.size by omega)]
  · have ne0 : (E != 0) = true := by simpa using e0
    go_wp2_with fail
    refine bodyPost_ret (v := .tuple #[.agg #[.int .i64 0, .bool false, .bool false, .string ⟨#[]⟩, .int .i64 0, .int .u64 0, .string ⟨#[]⟩, .slice none 0 0, .slice none 0 0], .int .i64 2]) (by simp [results, Tryd.results18, go_sem, *]) rfl ⟨?_, fun _ => rfl, fun q => absurd q e0⟩
    repeat (first | (with_reducible exact Hid.out (by assumption)) | (with_reducible refine below_al ?_) | (with_reducible refine Below.setCell ?_ (Nat.le_refl w.heap.size) _))
end Go.Proofs.YthbfopdeaknbkaaDoor
/- calamuslaw05.EventBuilds: walked. -/
namespace Go.Proofs.YthbfopdeaknbkaaDoor
open Go.RowKit
set_option linter.unusedSimpArgs false
set_option linter.unusedVariables false
/-- copy of elements of several cells. -/
theorem run_copy_wide {P : Program} (w : World) (dT sT ty elem : TypeId) (g dLen dCap : Nat) (a : Addr) (sLen sCap sz : Nat) (cur : Array Value) (t : TypeId) (cs : List Value)
    (hu : P.underlying dT = some (.slice elem)) (hs : (P.info? elem).map (·.size) = some sz)
    (hg : w.heap[g]? = some (.cells cur t (0, 0))) (hm : Nat.min sLen dLen = sLen) (hn : cs.length = sLen * sz)
    (hsrc : ∀ j v, cs[j]? = some v → w.cell? (a.add j) = some v) (hfit : 0 + cs.length ≤ cur.size) (h1 : ∀ v ∈ cs, v.oneCell' = true) :
    (Builtin.copy_ #[dT, sT] ty #[.slice (some ⟨g, 0, none⟩) dLen dCap, .slice (some a) sLen sCap]).run P w =
      .ok (goInt sLen) (w.setRow g (cur.toList.take 0 ++ cs ++ cur.toList.drop (0 + cs.length)).toArray) := by
  have hl := run_loadCells_list (P := P) w a cs hsrc
  have hst := run_storeCells_at P g 0 t cs 0 cur w hg (by simpa using hfit) h1
  cases hq : P.info? elem with
  | none => simp [hq] at hs
  | some i =>
    have hi : i.size = sz := by simpa [hq] using hs
    simp [Builtin.copy_, run_underlying hu, Builtin.lenOf, Builtin.firstCells, sizeOf, typeInfo, hq, hi, hm, ← hn, hl, hst]
/-- The row of the call's own, made and copied: a block in which the events stand, and room for one more. -/
def OwnE (W : World) (g : Nat) (es : List Hd) : Prop := ∃ cs : Array Value, W.heap[g]? = some (.cells cs 42 (0, 0)) ∧ cs.size = (es.length + 1) * 7 ∧ ∀ (j : Nat) (v : Value), (ecs es)[j]? = some v → cs[j]? = some v
theorem made_copied (w : World) (va : Option Addr) (vc : Nat) (es : List Hd) (hv : ES w (.slice va es.length vc) es) (cur : Array Value) (hc : cur.size = (es.length + 1) * 7) :
    ∃ W2, (Builtin.copy_ #[32, 32] 3 #[.slice (some ⟨w.heap.size, 0, none⟩) (es.length + 1) (es.length + 1), .slice va es.length vc]).run Tryd.prog (w.alloc (.cells cur 42)) = .ok (.int .i64 es.length) W2 ∧ OwnE W2 w.heap.size es ∧ Below w.heap.size w W2 := by
  obtain ⟨a', c', e, h1, h2, h3⟩ := hv
  cases e
  have hblk := heap_alloc_last w (.cells cur 42)
  have hsz : (Tryd.prog.info? 42).map (·.size) = some 7 := by
    obtain ⟨i0, hi, hz0, hz1, hz2⟩ := info_parts infoE
    rw [hi]; simp [hz1]
  by_cases h0 : es.length = 0
  · have e0 : es = [] := List.eq_nil_of_length_eq_zero h0
    subst e0
    have hr : (Builtin.copy_ #[32, 32] 3 #[.slice (some ⟨w.heap.size, 0, none⟩) 1 1, .slice va 0 vc]).run Tryd.prog (w.alloc (.cells cur 42)) = .ok (.int .i64 0) (w.alloc (.cells cur 42)) := by
      cases hq : Tryd.prog.info? 42 with
      | none => simp [hq] at hsz
      | some i =>
        cases va with
        | none => simp [Builtin.copy_, run_underlying Tryd.underlying32, Builtin.lenOf, Builtin.firstCells, sizeOf, typeInfo, hq, storeCells, loadCells, loadCellsFrom, goInt]
        | some a => simp [Builtin.copy_, run_underlying Tryd.underlying32, Builtin.lenOf, Builtin.firstCells, sizeOf, typeInfo, hq, storeCells, loadCells, loadCellsFrom, goInt]
    exact ⟨_, hr, ⟨cur, hblk, hc, fun j v hj => (by simp [ecs] at hj)⟩, below_al (Below.refl _ _)⟩
  · obtain ⟨b, o, rfl, hlt, hel⟩ := h3 (by omega)
    have hcl : (ecs es).length = es.length * 7 := by rw [ecs_len]
    have hr := run_copy_wide (P := Tryd.prog) (w.alloc (.cells cur 42)) 32 32 3 42 w.heap.size (es.length + 1) (es.length + 1) ⟨b, o, none⟩ es.length vc 7 cur 42 (ecs es) Tryd.underlying32 hsz hblk (Nat.min_eq_left (by omega)) hcl ?_ (by omega) (ecs_cell _)
    · refine ⟨_, hr, ⟨_, setRow_heap _ _ _ _ _ _ hblk, ?_, ?_⟩, below_setRow (below_al (Below.refl _ _)) (Nat.le_refl _) _⟩
      · simp [hcl]; omega
      · intro j v hj
        have hjl := (List.getElem?_eq_some_iff.1 hj).1
        simp
        rw [List.getElem?_append_left hjl]
        exact hj
    · intro j v hj
      have hjl : j < es.length * 7 := by have := (List.getElem?_eq_some_iff.1 hj).1; omega
      have hi : j / 7 < es.length := by omega
      have hj2 : j / 7 * 7 + j % 7 = j := by omega
      have he := ecs_at es (j / 7) (j % 7) hi (by omega)
      rw [hj2, hj] at he
      have hcell := hel (j / 7) hi (j % 7) v he.symm
      rw [show (⟨b, o, none⟩ : Addr).add j = ⟨b, o + j, none⟩ by unfold Addr.add; split <;> simp_all]
      rw [show o + j / 7 * 7 + j % 7 = o + j by omega] at hcell
      rw [(below_al (Below.refl w.heap.size w)).cell (p := ⟨b, o + j, none⟩) hlt]
      exact hcell
theorem OwnE.cell {W : World} {g : Nat} {es : List Hd} (h : OwnE W g es) (j : Nat) (hj : j < 7) : (∃ u, W.cell? ⟨g, es.length * 7 + j, none⟩ = some u) ∧ W.frozen? ⟨g, es.length * 7 + j, none⟩ = false := by
  obtain ⟨cs, h1, h2, h3⟩ := h
  refine ⟨⟨cs[es.length * 7 + j]'(by omega), ?_⟩, by simp [World.frozen?, h1]⟩
  simp [World.cell?, h1]
/-- A store behind the events. -/
theorem OwnE.set {W : World} {g : Nat} {es : List Hd} (h : OwnE W g es) (j : Nat) (u : Value) : OwnE (W.setCell ⟨g, es.length * 7 + j, none⟩ u) g es := by
  obtain ⟨cs, h1, h2, h3⟩ := h
  refine ⟨_, blk_set h1 _ u, by simpa using h2, fun k v hk => ?_⟩
  have hl := (List.getElem?_eq_some_iff.1 hk).1
  rw [ecs_len] at hl
  rw [Array.getElem?_setIfInBounds_ne (by omega)]
  exact h3 k v hk
theorem OwnE.lt {W : World} {g : Nat} {es : List Hd} (h : OwnE W g es) : g < W.heap.size := by
  obtain ⟨cs, h1, _⟩ := h
  exact (Array.getElem?_eq_some_iff.1 h1).1
theorem OwnE.es {W : World} {g : Nat} {es : List Hd} (h : OwnE W g es) (hs : es.length + 1 ≤ maxLen) : ES W (.slice (some ⟨g, 0, none⟩) es.length (es.length + 1)) es := by
  have hlt := h.lt
  obtain ⟨cs, h1, h2, h3⟩ := h
  refine ⟨_, _, rfl, Nat.le_succ _, hs, fun _ => ⟨g, 0, rfl, hlt, fun i hi => ?_⟩⟩
  intro j v hj
  have hj7 : j < 7 := by have := (List.getElem?_eq_some_iff.1 hj).1; simpa [evs] using this
  have := h3 (i * 7 + j) v (by rw [ecs_at es i j hi hj7]; exact hj)
  rw [show 0 + i * 7 + j = i * 7 + j by omega]
  simp [World.cell?, h1]
  exact this
theorem OwnE.set0 {W : World} {g : Nat} {es : List Hd} (h : OwnE W g es) (u : Value) : (W.setCell ⟨g, es.length * 7, none⟩ u).cell? ⟨g, es.length * 7, none⟩ = some u := by
  obtain ⟨cs, h1, h2, h3⟩ := h
  have := blk_set h1 (es.length * 7) u
  unfold World.cell?
  rw [this]
  show (cs.setIfInBounds (es.length * 7) u)[es.length * 7]? = some u
  rw [Array.getElem?_setIfInBounds_self_of_lt (by omega)]
theorem cell_ne {W : World} {g a b : Nat} {u : Value} (h : b ≠ a) : (W.setCell ⟨g, a, none⟩ u).cell? ⟨g, b, none⟩ = W.cell? ⟨g, b, none⟩ := by
  refine World.cell?_setCell_other _ _ _ _ ?_
  simp [Ne.symm h]
set_option maxHeartbeats 4000000 in
set_option maxRecDepth 100000 in
theorem builds_law (v : Value) (es : List Hd) (w : World) (hv : ES w v es) (hvz : ∀ e ∈ es, EvZ e) (g : Ut.Gu w) :
    Calls Tryd.prog 4 #[v] w fun e w' => e = .returned (.bool true) ∧ Below w.heap.size w w' := by
  have hlb := hide (lbig_any v es w hv hvz)
  have hv' := hide hv
  have hvz' := hide hvz
  obtain ⟨va, vc, rfl⟩ := es_shape hv
  have g' := hide g
  clear hv hvz g
  go_enter Tryd.func4, Tryd.ntmps4
  go_wp2_with (go_at_call 16; refine Stop.out ?_)
  refine Stop.mk (hlb.out.mono ?_)
  rintro e w1 ⟨bl, rfl, hsm, hb1⟩
  have B1 := hide hb1
  clear hb1 hlb
  cases bl
  · have h400 := hide (hsm rfl)
    have hle : es.length ≤ 400 := hsm rfl
    obtain ⟨i0, hi, hz0, hz1, hz2⟩ := info_parts infoE
    have hmk := fun w => run_make (P := Tryd.prog) w 32 42 i0 _ Tryd.underlying32 hi hz0 .i64 .i64 ((es.length : Int) + 1) ((es.length : Int) + 1) (by omega) (by omega) (by rw [hz2]; omega) (by omega)
    rw [hz1] at hmk
    obtain ⟨cur, hcur⟩ : ∃ cur : Array Value, cur = madeCells (Value.agg #[.int .i64 0, .bool false, .bool false, .string ⟨#[]⟩, .int .i64 0, .int .u64 0, .string ⟨#[]⟩]).cells (((es.length : Int) + 1).toNat * 7) := ⟨_, rfl⟩
    have hcs : cur.size = (es.length + 1) * 7 := by rw [hcur, size_madeCells]; omega
    rw [← hcur] at hmk
    have hto : ((es.length : Int) + 1).toNat = es.length + 1 := by omega
    rw [hto] at hmk
    obtain ⟨W2, hcp, hO, hB2⟩ := made_copied w1 va vc es (hv'.out.below B1.out) cur hcs
    have O2 := hide hO
    have BW2 := hide hB2
    clear hsm hcur hcs hto hi hz0 hz1 hz2 hO hB2
    obtain ⟨⟨u0, k0⟩, f0⟩ := O2.out.cell 0 (by omega)
    obtain ⟨⟨u1, k1⟩, f1⟩ := O2.out.cell 1 (by omega)
    obtain ⟨⟨u2, k2⟩, f2⟩ := O2.out.cell 2 (by omega)
    obtain ⟨⟨u3, k3⟩, f3⟩ := O2.out.cell 3 (by omega)
    obtain ⟨⟨u4, k4⟩, f4⟩ := O2.out.cell 4 (by omega)
    obtain ⟨⟨u5, k5⟩, f5⟩ := O2.out.cell 5 (by omega)
    obtain ⟨⟨u6, k6⟩, f6⟩ := O2.out.cell 6 (by omega)
    simp only [Nat.add_zero] at k0 f0
    have hli : (es.length : Int) < (es.length : Int) + 1 := by omega
    go_wp2_with (go_at_call 17; refine Stop.out ?_)
    have hW : ∀ W, W = (((((((W2.setCell ⟨w1.heap.size, es.length * 7, none⟩ (.int .i64 77)).setCell ⟨w1.heap.size, es.length * 7 + 1, none⟩ (.bool false)).setCell ⟨w1.heap.size, es.length * 7 + 2, none⟩ (.bool false)).setCell ⟨w1.heap.size, es.length * 7 + 3, none⟩ (.string ⟨#[]⟩)).setCell ⟨w1.heap.size, es.length * 7 + 4, none⟩ (.int .i64 0)).setCell ⟨w1.heap.size, es.length * 7 + 5, none⟩ (.int .u64 0)).setCell ⟨w1.heap.size, es.length * 7 + 6, none⟩ (.string ⟨#[]⟩)) → OwnE W w1.heap.size es ∧ W.cell? ⟨w1.heap.size, es.length * 7, none⟩ = some (.int .i64 77) ∧ Below w1.heap.size w1 W := by
      rintro W rfl
      refine ⟨((((((O2.out.set 0 _).set 1 _).set 2 _).set 3 _).set 4 _).set 5 _).set 6 _, ?_, ?_⟩
      · rw [cell_ne (by omega), cell_ne (by omega), cell_ne (by omega), cell_ne (by omega), cell_ne (by omega), cell_ne (by omega)]
        exact O2.out.set0 _
      · iterate 7 refine Below.setCell ?_ (by show w1.heap.size ≤ w1.heap.size; exact Nat.le_refl _) _
        exact BW2.out
    obtain ⟨W3, hW3⟩ : ∃ W3, W3 = (((((((W2.setCell ⟨w1.heap.size, es.length * 7, none⟩ (.int .i64 77)).setCell ⟨w1.heap.size, es.length * 7 + 1, none⟩ (.bool false)).setCell ⟨w1.heap.size, es.length * 7 + 2, none⟩ (.bool false)).setCell ⟨w1.heap.size, es.length * 7 + 3, none⟩ (.string ⟨#[]⟩)).setCell ⟨w1.heap.size, es.length * 7 + 4, none⟩ (.int .i64 0)).setCell ⟨w1.heap.size, es.length * 7 + 5, none⟩ (.int .u64 0)).setCell ⟨w1.heap.size, es.length * 7 + 6, none⟩ (.string ⟨#[]⟩)) := ⟨_, rfl⟩
    rw [← hW3]
    obtain ⟨o3, c3, b3⟩ := hW W3 hW3
    have O3 := hide o3
    have C3 := hide c3
    have B3 : Hid (Below w.heap.size w W3) := below_then B1.out b3
    have S3 : Hid (ES W3 (.slice (some ⟨w1.heap.size, 0, none⟩) es.length (es.length + 1)) es) := o3.es (by unfold maxLen; omega)
    have z3 := o3.lt
    clear o3 c3 b3 hW hW3 k0 k1 k2 k3 k4 k5 k6 f0 f1 f2 f3 f4 f5 f6 hcp hmk O2 BW2
    by_cases hb : bltE (runE es) = 0
    · have hd : doneS (runE es) = true := by
        rcases blt_cases es with ⟨_, p⟩ | ⟨_, _, p⟩ | ⟨p, _⟩
        · rw [p] at hb; cases hb
        · rw [p] at hb; cases hb
        · exact p
      obtain ⟨x, hx, hfl⟩ := parse es ((doneS_iff _).1 hd)
      obtain ⟨E, hE⟩ := chk_ex es.length x
      have kb := hide (build_D _ es W3 S3.out (by omega) hvz'.out (g'.out.below B3.out) x hx hfl E hE)
      have kr := hide (fun W (b : Below w.heap.size w W) => rbuild_D _ es W (hv'.out.below b) (by omega) hvz'.out x hx hfl E hE)
      have hle' := hide hle
      clear hb hd hfl hx hE hle
      by_cases e0 : E = 0
      · refine Stop.mk (kb.out.mono ?_)
        rintro e w4 ⟨hb4, _, h4⟩
        obtain ⟨ns, ls, rfl, hrd⟩ := h4 e0
        obtain ⟨q1, q2, q3, q4, q5, q6, rfl, rfl⟩ := hrd.shape
        have RD4 := hide hrd
        obtain ⟨h, hh⟩ : ∃ h, vhd es.length x = h := ⟨_, rfl⟩
        rw [hh]
        simp only [vals]
        have hh' := hide hh
        have e0' := hide e0
        have B4 : Hid (Below w.heap.size w w4) := below_then B3.out hb4
        have G4 : w4.heap[w1.heap.size]? = W3.heap[w1.heap.size]? := hb4.block _ z3
        have S4 := hide (S3.out.below hb4)
        have z4 : w1.heap.size < w4.heap.size := Nat.lt_of_lt_of_le z3 hb4.size
        have GG4 := hide G4
        clear e0 hb4 h4 G4
        go_wp2_with (go_at_call 18; refine Stop.out ?_)
        refine Stop.mk ((kr.out _ (below_al B4.out)).mono ?_)
        rintro e w5 ⟨hb5, _, h5⟩
        obtain ⟨ns2, ls2, rfl, hrd5⟩ := h5 e0'.out
        obtain ⟨t1, t2, t3, t4, t5, t6, rfl, rfl⟩ := hrd5.shape
        have RD5 := hide hrd5
        rw [hh'.out]
        simp only [vals]
        clear h5 hrd5
        have B5 : Hid (Below w.heap.size w w5) := below_then (below_al B4.out) hb5
        have BB5 := hide hb5
        have G5 : Hid (w5.heap[w1.heap.size]? = W3.heap[w1.heap.size]?) := by show _ = _; rw [hb5.block _ (by simp; omega), Below.heap_alloc _ _ _ z4]; exact GG4.out
        have S5 := hide ((S4.out.below (below_al (Below.refl _ _))).below hb5)
        have V4 := hide ((bx_new w4 h (.slice q1 q2 q3) (.slice q4 q5 q6)).below hb5)
        have z5 : w4.heap.size < w5.heap.size := V4.out.lt
        have aw := hide (fun o => awake_any (w5.alloc o) (g'.out.below (below_al B5.out)))
        clear hb5
        go_wp2_with (go_at_call 13; refine Stop.out ?_)
        refine Stop.mk ((aw.out _).mono ?_)
        rintro e w6 ⟨rfl, hb6⟩
        have B56 : Hid (Below w5.heap.size w5 w6) := below_then (below_al (Below.refl _ _)) hb6
        have V6 := hide (V4.out.below B56.out)
        have U6 := hide ((bx_new w5 h (.slice t1 t2 t3) (.slice t4 t5 t6)).below hb6)
        have z6 : w5.heap.size < w6.heap.size := U6.out.lt
        clear hb6 aw
        have kq := hide (fun W (b : Below w5.heap.size w5 W) => Calls.tb (b := true) (requal_any es.length x x _ _ _ _ W (((RD4.out.below (below_al (Below.refl _ _))).below BB5.out).below b) (RD5.out.below b)) (by simp))
        rw [hh'.out] at kq
        simp only [vals] at kq
        obtain ⟨a0, a1, a2, a3, a4, a5, a6, a7, a8⟩ := V6.out.cells
        obtain ⟨b0, b1, b2, b3, b4, b5, b6, b7, b8⟩ := U6.out.cells
        skip
        go_wp2_with (go_at_call 15; refine Stop.out ?_)
        refine Stop.mk ((kq.out _ B56.out).mono ?_)
        rintro e w7 ⟨rfl, hb7⟩
        have B57 : Hid (Below w5.heap.size w5 w7) := below_then B56.out hb7
        have ev := hide (events_any _ _ es w7 (S5.out.below B57.out) (hv'.out.below (below_then B5.out B57.out)))
        clear hb7 a0 a1 a2 a3 a4 a5 a6 a7 a8 b0 b1 b2 b3 b4 b5 b6 b7 b8
        go_wp2_with (go_at_call 14; refine Stop.out ?_)
        refine Stop.mk (ev.out.mono ?_)
        rintro e w8 ⟨rfl, hb8⟩
        have B8 : Hid (Below w.heap.size w w8) := below_then (below_then B5.out B57.out) hb8
        have B58 : Hid (Below w5.heap.size w5 w8) := below_then B57.out hb8
        have C8 : w8.cell? ⟨w1.heap.size, es.length * 7, none⟩ = some (.int .i64 77) := by rw [← C3.out]; unfold World.cell?; rw [B58.out.block _ (show w1.heap.size < w5.heap.size by omega), G5.out]
        clear hb8 ev
        go_wp2_with fail
        go_ret
        exact ⟨rfl, B8.out⟩
      · refine Stop.mk (kb.out.mono ?_)
        rintro e w4 ⟨hb4, h4, _⟩
        obtain rfl := h4 e0
        have e0' := hide e0
        have B4 : Hid (Below w.heap.size w w4) := below_then B3.out hb4
        have G4 : w4.heap[w1.heap.size]? = W3.heap[w1.heap.size]? := hb4.block _ z3
        have S4 := hide (S3.out.below hb4)
        have z4 : w1.heap.size < w4.heap.size := Nat.lt_of_lt_of_le z3 hb4.size
        have GG4 := hide G4
        clear e0 hb4 h4 G4
        go_wp2_with (go_at_call 18; refine Stop.out ?_)
        refine Stop.mk ((kr.out _ (below_al B4.out)).mono ?_)
        rintro e w5 ⟨hb5, h5, _⟩
        obtain rfl := h5 e0'.out
        clear h5
        have B5 : Hid (Below w.heap.size w w5) := below_then (below_al B4.out) hb5
        have BB5 := hide hb5
        have G5 : Hid (w5.heap[w1.heap.size]? = W3.heap[w1.heap.size]?) := by show _ = _; rw [hb5.block _ (by simp; omega), Below.heap_alloc _ _ _ z4]; exact GG4.out
        have S5 := hide ((S4.out.below (below_al (Below.refl _ _))).below hb5)
        have V4 := hide ((bx_new w4 (zr 0) (.slice none 0 0) (.slice none 0 0)).below hb5)
        have z5 : w4.heap.size < w5.heap.size := V4.out.lt
        have aw := hide (fun o => awake_any (w5.alloc o) (g'.out.below (below_al B5.out)))
        clear hb5
        go_wp2_with (go_at_call 13; refine Stop.out ?_)
        refine Stop.mk ((aw.out _).mono ?_)
        rintro e w6 ⟨rfl, hb6⟩
        have B56 : Hid (Below w5.heap.size w5 w6) := below_then (below_al (Below.refl _ _)) hb6
        have V6 := hide (V4.out.below B56.out)
        have U6 := hide ((bx_new w5 (zr 0) (.slice none 0 0) (.slice none 0 0)).below hb6)
        have z6 : w5.heap.size < w6.heap.size := U6.out.lt
        clear hb6 aw
        have kq : Hid (∀ W, Below w5.heap.size w5 W → Calls Tryd.prog 15 #[.agg #[.int .i64 0, .bool false, .bool false, .string ⟨#[]⟩, .int .i64 0, .int .u64 0, .string ⟨#[]⟩, .slice none 0 0, .slice none 0 0], .agg #[.int .i64 0, .bool false, .bool false, .string ⟨#[]⟩, .int .i64 0, .int .u64 0, .string ⟨#[]⟩, .slice none 0 0, .slice none 0 0]] W fun e w' => e = .returned (.bool true) ∧ Below W.heap.size W w') := fun W _ => Calls.tb (b := true) (requal_any 1 ((zr 0, []) : VT 1) ((zr 0, []) : VT 1) (.slice none 0 0) (.slice none 0 0) (.slice none 0 0) (.slice none 0 0) W ⟨Or.inl ⟨rfl, rfl⟩, Or.inl ⟨rfl, rfl⟩⟩ ⟨Or.inl ⟨rfl, rfl⟩, Or.inl ⟨rfl, rfl⟩⟩) ⟨fun _ => rfl, fun _ => rfl⟩
        obtain ⟨a0, a1, a2, a3, a4, a5, a6, a7, a8⟩ := V6.out.cells
        obtain ⟨b0, b1, b2, b3, b4, b5, b6, b7, b8⟩ := U6.out.cells
        simp only [zr] at a0 a1 a2 a3 a4 a5 a6 b0 b1 b2 b3 b4 b5 b6
        go_wp2_with (go_at_call 15; refine Stop.out ?_)
        refine Stop.mk ((kq.out _ B56.out).mono ?_)
        rintro e w7 ⟨rfl, hb7⟩
        have B57 : Hid (Below w5.heap.size w5 w7) := below_then B56.out hb7
        have ev := hide (events_any _ _ es w7 (S5.out.below B57.out) (hv'.out.below (below_then B5.out B57.out)))
        clear hb7 a0 a1 a2 a3 a4 a5 a6 a7 a8 b0 b1 b2 b3 b4 b5 b6 b7 b8
        go_wp2_with (go_at_call 14; refine Stop.out ?_)
        refine Stop.mk (ev.out.mono ?_)
        rintro e w8 ⟨rfl, hb8⟩
        have B8 : Hid (Below w.heap.size w w8) := below_then (below_then B5.out B57.out) hb8
        have B58 : Hid (Below w5.heap.size w5 w8) := below_then B57.out hb8
        have C8 : w8.cell? ⟨w1.heap.size, es.length * 7, none⟩ = some (.int .i64 77) := by rw [← C3.out]; unfold World.cell?; rw [B58.out.block _ (show w1.heap.size < w5.heap.size by omega), G5.out]
        clear hb8 ev
        go_wp2_with fail
        go_ret
        exact ⟨rfl, B8.out⟩
    · have kb := hide (build_A _ es W3 S3.out (by omega) hvz'.out (g'.out.below B3.out) hb)
      have kr := hide (fun W (b : Below w.heap.size w W) => rbuild_A _ es W (hv'.out.below b) (by omega) hvz'.out hb)
      obtain ⟨E, hE⟩ : ∃ E, bltE (runE es) = E := ⟨_, rfl⟩
      rw [hE] at kb kr
      have hle' := hide hle
      have e0 : True := trivial
      have h4 : True := trivial
      clear hb hE hle
      · refine Stop.mk (kb.out.mono ?_)
        rintro e w4 ⟨rfl, hb4⟩
        have e0' := hide e0
        have B4 : Hid (Below w.heap.size w w4) := below_then B3.out hb4
        have G4 : w4.heap[w1.heap.size]? = W3.heap[w1.heap.size]? := hb4.block _ z3
        have S4 := hide (S3.out.below hb4)
        have z4 : w1.heap.size < w4.heap.size := Nat.lt_of_lt_of_le z3 hb4.size
        have GG4 := hide G4
        clear e0 hb4 h4 G4
        go_wp2_with (go_at_call 18; refine Stop.out ?_)
        refine Stop.mk ((kr.out _ (below_al B4.out)).mono ?_)
        rintro e w5 ⟨rfl, hb5⟩
        have B5 : Hid (Below w.heap.size w w5) := below_then (below_al B4.out) hb5
        have BB5 := hide hb5
        have G5 : Hid (w5.heap[w1.heap.size]? = W3.heap[w1.heap.size]?) := by show _ = _; rw [hb5.block _ (by simp; omega), Below.heap_alloc _ _ _ z4]; exact GG4.out
        have S5 := hide ((S4.out.below (below_al (Below.refl _ _))).below hb5)
        have V4 := hide ((bx_new w4 (zr 0) (.slice none 0 0) (.slice none 0 0)).below hb5)
        have z5 : w4.heap.size < w5.heap.size := V4.out.lt
        have aw := hide (fun o => awake_any (w5.alloc o) (g'.out.below (below_al B5.out)))
        clear hb5
        go_wp2_with (go_at_call 13; refine Stop.out ?_)
        refine Stop.mk ((aw.out _).mono ?_)
        rintro e w6 ⟨rfl, hb6⟩
        have B56 : Hid (Below w5.heap.size w5 w6) := below_then (below_al (Below.refl _ _)) hb6
        have V6 := hide (V4.out.below B56.out)
        have U6 := hide ((bx_new w5 (zr 0) (.slice none 0 0) (.slice none 0 0)).below hb6)
        have z6 : w5.heap.size < w6.heap.size := U6.out.lt
        clear hb6 aw
        have kq : Hid (∀ W, Below w5.heap.size w5 W → Calls Tryd.prog 15 #[.agg #[.int .i64 0, .bool false, .bool false, .string ⟨#[]⟩, .int .i64 0, .int .u64 0, .string ⟨#[]⟩, .slice none 0 0, .slice none 0 0], .agg #[.int .i64 0, .bool false, .bool false, .string ⟨#[]⟩, .int .i64 0, .int .u64 0, .string ⟨#[]⟩, .slice none 0 0, .slice none 0 0]] W fun e w' => e = .returned (.bool true) ∧ Below W.heap.size W w') := fun W _ => Calls.tb (b := true) (requal_any 1 ((zr 0, []) : VT 1) ((zr 0, []) : VT 1) (.slice none 0 0) (.slice none 0 0) (.slice none 0 0) (.slice none 0 0) W ⟨Or.inl ⟨rfl, rfl⟩, Or.inl ⟨rfl, rfl⟩⟩ ⟨Or.inl ⟨rfl, rfl⟩, Or.inl ⟨rfl, rfl⟩⟩) ⟨fun _ => rfl, fun _ => rfl⟩
        obtain ⟨a0, a1, a2, a3, a4, a5, a6, a7, a8⟩ := V6.out.cells
        obtain ⟨b0, b1, b2, b3, b4, b5, b6, b7, b8⟩ := U6.out.cells
        simp only [zr] at a0 a1 a2 a3 a4 a5 a6 b0 b1 b2 b3 b4 b5 b6
        go_wp2_with (go_at_call 15; refine Stop.out ?_)
        refine Stop.mk ((kq.out _ B56.out).mono ?_)
        rintro e w7 ⟨rfl, hb7⟩
        have B57 : Hid (Below w5.heap.size w5 w7) := below_then B56.out hb7
        have ev := hide (events_any _ _ es w7 (S5.out.below B57.out) (hv'.out.below (below_then B5.out B57.out)))
        clear hb7 a0 a1 a2 a3 a4 a5 a6 a7 a8 b0 b1 b2 b3 b4 b5 b6 b7 b8
        go_wp2_with (go_at_call 14; refine Stop.out ?_)
        refine Stop.mk (ev.out.mono ?_)
        rintro e w8 ⟨rfl, hb8⟩
        have B8 : Hid (Below w.heap.size w w8) := below_then (below_then B5.out B57.out) hb8
        have B58 : Hid (Below w5.heap.size w5 w8) := below_then B57.out hb8
        have C8 : w8.cell? ⟨w1.heap.size, es.length * 7, none⟩ = some (.int .i64 77) := by rw [← C3.out]; unfold World.cell?; rw [B58.out.block _ (show w1.heap.size < w5.heap.size by omega), G5.out]
        clear hb8 ev
        go_wp2_with fail
        go_ret
        exact ⟨rfl, B8.out⟩
  · go_wp2_with fail
    go_ret
    exact ⟨rfl, B1.out⟩
end Go.Proofs.YthbfopdeaknbkaaDoor
/- What the rows of layer 4 list, as the walks want it. -/
namespace Go.Proofs.YthbfopdeaknbkaaDoor.Ut
open Go.ChangeShapes Go.WideShapes Go.ChangeAt Go.RowKit Go.Joins
set_option linter.unusedVariables false
set_option maxRecDepth 100000
theorem c5 : Tryd.prog.cellsOf 5 = 1 := by kernel_rfl
theorem c46 : Tryd.prog.cellsOf 89 = 2 := by kernel_rfl
theorem c48 : Tryd.prog.cellsOf 91 = 8 := by kernel_rfl
theorem c62 : Tryd.prog.cellsOf 104 = 64 := by kernel_rfl
theorem split_at' (k n : Nat) (cs : List Value) : cs.drop k = (cs.drop k).take n ++ cs.drop (k + n) := by
  rw [← List.drop_drop]; exact (List.take_append_drop n _).symm
/-- Four spans that read as these numbers hold them, cell for cell. -/
theorem spans_cells {W : World} {fuel : Nat} {cs : List Value} {p : List MemPlace} {a b c d e f g h : Int}
    (hd : DataW.trod (fun _ => ()) Tryd.prog W 0 (fun _ => true) false fuel 91 cs = some (.agg [.agg [.lit (.int .u8 a), .lit (.int .u8 b)], .agg [.lit (.int .u8 c), .lit (.int .u8 d)], .agg [.lit (.int .u8 e), .lit (.int .u8 f)], .agg [.lit (.int .u8 g), .lit (.int .u8 h)]], p)) :
    cs = [.int .u8 a, .int .u8 b, .int .u8 c, .int .u8 d, .int .u8 e, .int .u8 f, .int .u8 g, .int .u8 h] := by
  obtain ⟨xs, m1, rfl, hx1, hlen, hn3, hel⟩ := DataW.trod_array Tryd.underlying91 hd
  rw [c48] at hlen
  have key : ∀ (i : Nat) (x y : Int), i < 4 → ([.agg [.lit (.int .u8 a), .lit (.int .u8 b)], .agg [.lit (.int .u8 c), .lit (.int .u8 d)], .agg [.lit (.int .u8 e), .lit (.int .u8 f)], .agg [.lit (.int .u8 g), .lit (.int .u8 h)]] : List (DataW Unit))[i]? = some (.agg [.lit (.int .u8 x), .lit (.int .u8 y)]) → (cs.drop (i * 2)).take 2 = [.int .u8 x, .int .u8 y] := by
    intro i x y hi hxy
    obtain ⟨fuel', d', q, hdi, he⟩ := Lib.array_elem Tryd.underlying91 hd i hi
    rw [hxy] at hdi
    obtain rfl := Option.some.inj hdi
    rw [c46] at he
    exact Lib.cells_of_tab (zs := [x, y]) Tryd.underlying89 Tryd.underlying5 c5 c46 he
  have k0 := key 0 a b (by omega) rfl
  have k1 := key 1 c d (by omega) rfl
  have k2 := key 2 e f (by omega) rfl
  have k3 := key 3 g h (by omega) rfl
  have e0 : cs = cs.drop 0 := rfl
  rw [e0, split_at' 0 2 cs, split_at' (0 + 2) 2 cs, split_at' (0 + 2 + 2) 2 cs, split_at' (0 + 2 + 2 + 2) 2 cs, List.drop_of_length_le (i := 0 + 2 + 2 + 2 + 2) (by omega)]
  simp only [Nat.zero_mul, Nat.one_mul] at k0 k1 k2 k3
  rw [k0, k1, k2, k3]
  rfl
theorem longer_cells {W : World} {fuel : Nat} {cs : List Value} {p : List MemPlace}
    (hd : DataW.trod (fun _ => ()) Tryd.prog W 0 (fun _ => true) false fuel 104 cs = some (Rows.laid_calamus_utf_longer, p)) : cs = lgC.toList := by
  obtain ⟨xs, m1, rfl, hx1, hlen, hn3, hel⟩ := DataW.trod_array Tryd.underlying104 hd
  rw [c62] at hlen
  have key : ∀ (i : Nat), i < 8 → ∃ fuel' q d', (match (Rows.laid_calamus_utf_longer : DataW Unit) with | .agg ds => ds | _ => [])[i]? = some d' ∧ DataW.trod (fun _ => ()) Tryd.prog W 0 (fun _ => true) false fuel' 91 ((cs.drop (i * 8)).take 8) = some (d', q) := by
    intro i hi
    obtain ⟨fuel', d', q, hdi, he⟩ := Lib.array_elem Tryd.underlying104 hd i hi
    rw [c48] at he
    exact ⟨fuel', q, d', hdi, he⟩
  have k0 : (cs.drop (0 * 8)).take 8 = [.int .u8 194, .int .u8 223, .int .u8 128, .int .u8 191, .int .u8 0, .int .u8 0, .int .u8 0, .int .u8 0] := by
    obtain ⟨fuel', q, d', hdi, he⟩ := key 0 (by omega)
    obtain rfl := Option.some.inj hdi
    exact spans_cells he
  have k1 : (cs.drop (1 * 8)).take 8 = [.int .u8 224, .int .u8 224, .int .u8 160, .int .u8 191, .int .u8 128, .int .u8 191, .int .u8 0, .int .u8 0] := by
    obtain ⟨fuel', q, d', hdi, he⟩ := key 1 (by omega)
    obtain rfl := Option.some.inj hdi
    exact spans_cells he
  have k2 : (cs.drop (2 * 8)).take 8 = [.int .u8 225, .int .u8 236, .int .u8 128, .int .u8 191, .int .u8 128, .int .u8 191, .int .u8 0, .int .u8 0] := by
    obtain ⟨fuel', q, d', hdi, he⟩ := key 2 (by omega)
    obtain rfl := Option.some.inj hdi
    exact spans_cells he
  have k3 : (cs.drop (3 * 8)).take 8 = [.int .u8 237, .int .u8 237, .int .u8 128, .int .u8 159, .int .u8 128, .int .u8 191, .int .u8 0, .int .u8 0] := by
    obtain ⟨fuel', q, d', hdi, he⟩ := key 3 (by omega)
    obtain rfl := Option.some.inj hdi
    exact spans_cells he
  have k4 : (cs.drop (4 * 8)).take 8 = [.int .u8 238, .int .u8 239, .int .u8 128, .int .u8 191, .int .u8 128, .int .u8 191, .int .u8 0, .int .u8 0] := by
    obtain ⟨fuel', q, d', hdi, he⟩ := key 4 (by omega)
    obtain rfl := Option.some.inj hdi
    exact spans_cells he
  have k5 : (cs.drop (5 * 8)).take 8 = [.int .u8 240, .int .u8 240, .int .u8 144, .int .u8 191, .int .u8 128, .int .u8 191, .int .u8 128, .int .u8 191] := by
    obtain ⟨fuel', q, d', hdi, he⟩ := key 5 (by omega)
    obtain rfl := Option.some.inj hdi
    exact spans_cells he
  have k6 : (cs.drop (6 * 8)).take 8 = [.int .u8 241, .int .u8 243, .int .u8 128, .int .u8 191, .int .u8 128, .int .u8 191, .int .u8 128, .int .u8 191] := by
    obtain ⟨fuel', q, d', hdi, he⟩ := key 6 (by omega)
    obtain rfl := Option.some.inj hdi
    exact spans_cells he
  have k7 : (cs.drop (7 * 8)).take 8 = [.int .u8 244, .int .u8 244, .int .u8 128, .int .u8 143, .int .u8 128, .int .u8 191, .int .u8 128, .int .u8 191] := by
    obtain ⟨fuel', q, d', hdi, he⟩ := key 7 (by omega)
    obtain rfl := Option.some.inj hdi
    exact spans_cells he
  have e0 : cs = cs.drop 0 := rfl
  rw [e0, split_at' 0 8 cs, split_at' (0 + 8) 8 cs, split_at' (0 + 8 + 8) 8 cs, split_at' (0 + 8 + 8 + 8) 8 cs, split_at' (0 + 8 + 8 + 8 + 8) 8 cs, split_at' (0 + 8 + 8 + 8 + 8 + 8) 8 cs, split_at' (0 + 8 + 8 + 8 + 8 + 8 + 8) 8 cs, split_at' (0 + 8 + 8 + 8 + 8 + 8 + 8 + 8) 8 cs, List.drop_of_length_le (i := 0 + 8 + 8 + 8 + 8 + 8 + 8 + 8 + 8) (by omega)]
  simp only [Nat.reduceMul, Nat.reduceAdd] at k0 k1 k2 k3 k4 k5 k6 k7 ⊢
  rw [k0, k1, k2, k3, k4, k5, k6, k7]
  rfl
theorem heap_of_var {W : World} {n : String} {g : Nat} {cs : Array Value} (hg : Tryd.prog.globalNamed n = some g) (h : W.var? Tryd.prog n = some cs) : ∃ t fr, W.heap[g]? = some (.cells cs t fr) := by
  simp only [World.var?, hg, Option.bind_some] at h
  split at h
  · rename_i cs' t fr e
    obtain rfl := Option.some.inj h
    exact ⟨t, fr, e⟩
  · cases h
theorem of_laid2 {W : World} (h : laidMetH Tryd.prog [("calamus/utf.between", Rows.laid_calamus_utf_between), ("calamus/utf.longer", Rows.laid_calamus_utf_longer)] W) : Gu W := by
  rw [MakeChecks.laidMetH_plain _ _ _ (by kernel_rfl)] at h
  have r1 := Lib.laidMet.reads h (.head _)
  have r2 := Lib.laidMet.reads h (.tail _ (.head _))
  obtain ⟨g1, t1, cs1, f1, p1, hg1, ht1, hv1, hd1⟩ := r1
  obtain ⟨g2, t2, cs2, f2, p2, hg2, ht2, hv2, hd2⟩ := r2
  obtain rfl := Option.some.inj ((show Tryd.prog.globalNamed "calamus/utf.between" = some 0 by kernel_rfl).symm.trans hg1)
  obtain rfl := Option.some.inj ((show Tryd.prog.globalNamed "calamus/utf.longer" = some 1 by kernel_rfl).symm.trans hg2)
  obtain rfl := Option.some.inj ((show Option.map (fun x => x.type) Tryd.prog.globals[0]? = some 91 by kernel_rfl).symm.trans ht1)
  obtain rfl := Option.some.inj ((show Option.map (fun x => x.type) Tryd.prog.globals[1]? = some 104 by kernel_rfl).symm.trans ht2)
  have e1 := spans_cells hd1
  have e2 := longer_cells hd2
  obtain ⟨t, fr, q1⟩ := heap_of_var hg1 hv1
  obtain ⟨t', fr', q2⟩ := heap_of_var hg2 hv2
  have hc1 : cs1 = #[.int .u8 0, .int .u8 0, .int .u8 0, .int .u8 0, .int .u8 0, .int .u8 0, .int .u8 0, .int .u8 0] := Array.toList_inj.1 e1
  have hc2 : cs2 = lgC := Array.toList_inj.1 e2
  rw [hc1] at q1
  rw [hc2] at q2
  exact ⟨⟨t, fr, q1⟩, ⟨t', fr', q2⟩⟩
end Go.Proofs.YthbfopdeaknbkaaDoor.Ut
namespace Go.Proofs.YthbfopdeaknbkaaDoor
open Go.ChangeShapes Go.WideShapes Go.ChangeAt Go.RowKit Go.Joins Go.ChangeMaps
set_option linter.unusedVariables false
set_option maxRecDepth 100000 in
theorem eventBuilds_lifted (os : Os) (started : os.Started) (H : Type) (enc : TypeId × Value → H) :
    ReturnsInHanded {} Tryd.checked os 4 .any (fun w args => (Rows.eventBuildsSpec.pre enc Tryd.prog Tryd.f4 [] false w args ∧ laidMetH Tryd.prog Rows.eventBuildsRow.laid w) ∧ sizedMet enc Tryd.prog Tryd.f4 (OpenSpec.ofChange Rows.eventBuildsSpec) false w args)
      (Rows.eventBuildsSpec.post enc Tryd.prog Tryd.f4 false true false false) := by
  refine returnsInHanded_of_change_and (C := Tryd.checked) (X := fun w _ => laidMetH Tryd.prog Rows.eventBuildsRow.laid w) (fun _ _ _ hh h => h.of_heap hh) own started (by kernel_rfl) Tryd.func4
    (ChangeSpec.witness_shaped (enc := enc) (C := Tryd.checked) (os := os) (X := fun w _ => laidMetH Tryd.prog Rows.eventBuildsRow.laid w) false (World.laidAll Tryd.prog os Rows.eventBuildsRow.laid) #[.slice none 0 0] 8 (World.laidAll_os _ _ _)
      (World.shaped_of_ZipB (by kernel_rfl) (by kernel_rfl)) (by kernel_rfl) (by kernel_rfl) (by kernel_rfl)
      (by rw [MakeChecks.laidMetH_plain _ _ _ (by kernel_rfl)]; exact laidMet_laidAll _ (by kernel_rfl) (by kernel_rfl))) ?_
  intro W base args ds gs before hval0 hW _ hsz0 hL _
  have hval : ∀ (j : Nat) t v, Tryd.f4.params[j]? = some t → args[j]? = some v → Value.okWide Tryd.prog W .any base t v := hval0
  have hsz : (DataW.weightsEach Tryd.prog (Tryd.f4.params.toList ++ Rows.eventBuildsSpec.plain.varTypes Tryd.prog) (ds ++ gs)).all (· ≤ reachBytes) = true := hsz0
  clear hsz0
  have hW' := hW
  have hltB := hW.lt
  obtain ⟨p, q, hA0, hV, rfl, _, _⟩ := hW
  have hA : DataW.TrodAll enc Tryd.prog W 0 (fun _ => true) true Tryd.f4.params.toList args.toList ds p := hA0
  rw [Tryd.params4] at hA hval hsz
  have hltA : ∀ x ∈ p, x.block < W.heap.size := fun x hx => hltB x (by simp [hx])
  obtain ⟨v0, d0, rfl, rfl, h0⟩ := trodAll_one hA
  obtain ⟨rfl, rfl⟩ := trodVars_none hV
  have hwt : ∀ k ∈ DataW.weightsEach Tryd.prog [32] [d0], k ≤ reachBytes := by
    have hvt : Rows.eventBuildsSpec.plain.varTypes Tryd.prog = [] := rfl
    rw [hvt, List.append_nil, List.append_nil] at hsz
    intro k hk
    simpa using List.all_eq_true.1 hsz k hk
  have hlt0 : ∀ x ∈ p, x.block < W.heap.size := fun x hx => hltA x (by simp [hx])
  obtain ⟨la0, ll0, lc0, rfl⟩ := okWide_slice Tryd.underlying32 (hval 0 32 v0 rfl rfl)
  obtain ⟨f0, hf0⟩ := h0
  obtain ⟨t0, hr0, hz0⟩ := open_es f0 (.slice la0 ll0 lc0) _ hf0 hlt0 (fun k hk => hwt k (by simp [DataW.weightsEach, hk]))
  clear hA0 hval0
  simp only [List.append_nil] at hW'
  refine (builds_law (.slice la0 ll0 lc0) t0 W hr0 hz0 (Ut.of_laid2 hL)).mono fun e W' ⟨he, hb⟩ => ?_
  subst he
  exact ⟨_, rfl, _, _, _, [], _, [], hW', trodAll_mk1 (shut_bool Tryd.underlying4 _), trodAll_mk1 (Below.trod laidOut (by kernel_rfl) (of_decide_eq_true (by kernel_rfl)) ⟨f0, hf0⟩ hb hlt0), rfl, hb.frame _, fun h => by cases h⟩
theorem eventBuilds_holds : Rows.EventBuildsSaid :=
  OpenClaim.holds_of_wide 4 Tryd.f4 rfl rfl rfl rfl rfl rfl rfl ⟨rfl, rfl, rfl, rfl, rfl⟩ rfl rfl rfl rfl rfl (by kernel_rfl) Tryd.func4 (by kernel_rfl)
    (of_decide_eq_true (by kernel_rfl)) (by unfold Func.isWrapper; first | (rw [if_pos (by decide +kernel)]; kernel_rfl) | (rw [if_neg (by decide +kernel)]; exact ⟨rfl, rfl⟩))
    (fun os started H enc _ => eventBuilds_lifted os started H enc)
theorem eventBuilds_card : Rows.EventBuildsCardSaid :=
  Claim7.holds_tied_plain_at .later [] [.wider, .data] true Rows.eventBuildsCard.stood.harness false
    eventBuilds_holds (fun _ h => by cases h) (by kernel_rfl) (fun _ h => by cases h) eventBuilds_row_tie rfl ⟨rfl, rfl⟩ (by kernel_rfl) rfl
    (fun f fn hf hfn => by
      obtain rfl : f = 4 := Option.some.inj ((show Tryd.prog.funcNamed Rows.eventBuildsRow.func = some 4 by kernel_rfl).symm.trans hf) |>.symm
      obtain rfl : fn = Tryd.f4 := (Option.some.inj (Tryd.func4.symm.trans hfn)).symm
      exact ⟨by kernel_rfl, fun j t ht => by
        rw [Tryd.params4] at ht
        have hm : t ∈ [32] := by simpa using Array.mem_of_getElem? ht
        have hall : ([32].all fun u => !Tryd.prog.wantsStandIn u) = true := by kernel_rfl
        exact (show Tryd.prog.wantsStandIn t = false by simpa using List.all_eq_true.1 hall t hm)⟩)
    (by kernel_rfl)
#print axioms eventBuilds_card
end Go.Proofs.YthbfopdeaknbkaaDoor
