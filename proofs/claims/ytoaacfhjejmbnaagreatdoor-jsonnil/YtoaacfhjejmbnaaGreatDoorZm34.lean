/- Merged by program: KoWord. -/
import Derived.Test.YtoaacfhjejmbnaaGreatDoorZm31
import Derived.Test.YtoaacfhjejmbnaaGreatDoorZm12
/- json's Reader: number, takeWord, endWord walked. -/
namespace Go.Proofs.YtoaacfhjejmbnaaGreatDoor
open Go.RowKit
set_option linter.unusedSimpArgs false
set_option linter.unusedVariables false
/-- What number answers. -/
def NP (W : World) (r : Nat) (g : Gv) (m : Mv) (o : Sum Int (Hd × St)) (e : Ending) (w' : World) : Prop :=
  RF g m W w' ∧ match o with
  | .inl E => e = .panicked (pan E) ∧ ∃ s, RdB w' r s
  | .inr x => e = .returned (.agg (evs x.1)) ∧ ∃ m', RM w' r g m' x.2 ∧ OM W m m'
section
variable {W W1 W2 : World} {r : Nat} {g : Gv} {m : Mv} {st : St}
/-- All but block k is as it was. -/
structure But (k : Nat) (W w' : World) : Prop where
  os : w'.os = W.os
  tape : w'.tape = W.tape
  output : w'.output = W.output
  size : w'.heap.size = W.heap.size
  blk : ∀ q, q ≠ k → w'.heap[q]? = W.heap[q]?
theorem But.refl (k : Nat) (W : World) : But k W W := ⟨rfl, rfl, rfl, rfl, fun _ _ => rfl⟩
theorem But.set {k : Nat} (h : But k W W1) (j : Nat) (u : Value) : But k W (W1.setCell ⟨k, j, none⟩ u) :=
  ⟨h.os, h.tape, h.output, by simpa using h.size, fun q hq => (Below.heap_setCell _ _ _ _ hq).trans (h.blk q hq)⟩
theorem But.below {k L : Nat} (h : But k W W1) (hk : L ≤ k) : Below L W W1 := ⟨h.os, h.tape, h.output, Nat.le_of_eq h.size.symm, fun q hq => h.blk q (by omega)⟩
theorem RM.apart (h : RM W r g m st) {k : Nat} {e : Hd} (hE : EB W k e) (nb : NoB m k) (hlo : g.lo ≤ k) (hb : But k W W1) : RM W1 r g m st := by
  have hr := h.rd
  unfold RdB at hr
  have ht := h.ty.tb
  unfold TyB at ht
  unfold EB at hE
  have key : ∀ {q : Nat} {c : Array Value} {T : TypeId} {f : Nat × Nat}, W.heap[q]? = some (.cells c T f) → T ≠ 88 → W1.heap[q]? = some (.cells c T f) := fun {q c T f} hq hT => by
    rw [hb.blk q (fun e => by rw [e, hE] at hq; exact hT (cells_ty hq).symm), hq]
  have row : ∀ {u : Value} {B T sz n : Nat} {xs : List Value}, W.ownsRow B T sz u n xs → u.ownBlock ≠ some k → W1.ownsRow B T sz u n xs := fun {u B T sz n xs} ho hn => own_of ho fun q hq _ => hb.blk q (fun e => hn (by rw [hq, e]))
  have rowT : ∀ {u : Value} {B T sz n : Nat} {xs : List Value}, W.ownsRow B T sz u n xs → T ≠ 88 → W1.ownsRow B T sz u n xs := fun {u B T sz n xs} ho hT => row ho (ty_ne hE ho (Ne.symm hT))
  refine ⟨key hr (by decide), row h.word nb.1, row h.held nb.2.1, h.dif, rowT h.opn (by decide), row h.told nb.2.2, ?_, ?_, Gu.low h.gu (hb.below hlo) h.gk.low, h.gk, h.qf, h.wl, h.kl, h.tl⟩
  · exact h.ck.keep (Nat.le_of_eq hb.size.symm) fun q _ hq => hb.blk q (fun e => by subst e; exact ty_no hE (by decide) (by decide) hq)
  · exact h.ty.keep (Nat.le_of_eq hb.size.symm) (by rw [key ht (by decide), ht]) fun q hq => by
      obtain ⟨c, f, hc⟩ := own_blk h.ty.row hq
      rw [key hc (by decide), hc]
theorem RF.fresh (h : RF g m W W1) {k : Nat} (hk : W.heap.size ≤ k) (hlo : g.lo ≤ W.heap.size) (hb : But k W1 W2) : RF g m W W2 :=
  ⟨h.below.trans (hb.below (by omega)), fun q c T f hq t1 t2 t3 t4 t5 t6 n1 n2 n3 => by
    have := (Array.getElem?_eq_some_iff.1 hq).1
    rw [hb.blk q (by omega)]
    exact h.keep q c T f hq t1 t2 t3 t4 t5 t6 n1 n2 n3⟩
/-- Seven cells stored. -/
def set7 (w : World) (k : Nat) (e : Hd) : World := ((((((w.setCell ⟨k, 0, none⟩ (.int .i64 e.kind)).setCell ⟨k, 1, none⟩ (.bool e.flag)).setCell ⟨k, 2, none⟩ (.bool e.neg)).setCell ⟨k, 3, none⟩ (.string e.dig)).setCell ⟨k, 4, none⟩ (.int .i64 e.exp)).setCell ⟨k, 5, none⟩ (.int .u64 e.bits)).setCell ⟨k, 6, none⟩ (.string e.text)
theorem blk_set {w : World} {k : Nat} {c : Array Value} {T : TypeId} (h : w.heap[k]? = some (.cells c T (0, 0))) (j : Nat) (u : Value) : (w.setCell ⟨k, j, none⟩ u).heap[k]? = some (.cells (c.setIfInBounds j u) T (0, 0)) := by
  rw [setCell_eq_setRow w k j _ _ (0, 0) _ h, setRow_heap w k _ _ _ (0, 0) h]
theorem eb_set7 {w : World} {k : Nat} {h0 : Hd} (h : EB w k h0) (e : Hd) : EB (set7 w k e) k e ∧ But k w (set7 w k e) := by
  constructor
  · unfold EB evs at h
    have h1 := blk_set h 0 (.int .i64 e.kind)
    simp at h1
    have h2 := blk_set h1 1 (.bool e.flag)
    simp at h2
    have h3 := blk_set h2 2 (.bool e.neg)
    simp at h3
    have h4 := blk_set h3 3 (.string e.dig)
    simp at h4
    have h5 := blk_set h4 4 (.int .i64 e.exp)
    simp at h5
    have h6 := blk_set h5 5 (.int .u64 e.bits)
    simp at h6
    have h7 := blk_set h6 6 (.string e.text)
    simp at h7
    exact h7
  · exact (((((((But.refl k w).set 0 _).set 1 _).set 2 _).set 3 _).set 4 _).set 5 _).set 6 _
set_option maxHeartbeats 4000000 in
set_option maxRecDepth 100000 in
theorem number_r (h : RM W r g m st) (s : ByteArray) (hs : s.size ≤ 100000) : Calls Tryz.prog 157 #[.pointer (some ⟨r, 0, none⟩), .string s] W fun x w' => NP W r g m (numS st s) x w' := by
  obtain ⟨W0, hW0⟩ : ∃ W0, W0 = W.alloc (.cells (evs (zr 0)) 88) := ⟨_, rfl⟩
  have B0 : Hid (Below W.heap.size W W0) := by rw [hW0]; exact below_al (Below.refl _ _)
  have E0 : Hid (EB W0 W.heap.size (zr 0)) := by rw [hW0]; exact EB.new W (zr 0)
  have M0 := hide (h.then B0.out)
  have NB := hide (h.nob (Nat.le_refl _))
  have lo := hide h.lo
  clear h
  obtain ⟨k, hk⟩ : ∃ k, W.heap.size = k := ⟨_, rfl⟩
  have hk' := hide hk
  rw [hk] at E0 NB
  have P : Hid (Calls Tryz.prog 178 #[.string s] (W.alloc (.cells (evs (zr 0)) 88)) fun e w' => e = retF (parseF (bl s)) ∧ RF g m W w' ∧ RM w' r g m st ∧ EB w' k (zr 0)) := by
    rw [← hW0]
    refine (parse_any s W0 hs).mono ?_
    rintro e w1 ⟨h1, h2⟩
    exact ⟨h1, RF.of (below_then B0.out h2) lo.out, M0.out.then h2, E0.out.below h2⟩
  have PA := hide (fun w1 (h1 : RM w1 r g m st) (hE : EB w1 k (zr 0)) => pass_r h1)
  clear hW0 hs
  unfold numS
  obtain ⟨⟨b, d, x, E⟩, hp⟩ : ∃ p, parseF (bl s) = p := ⟨_, rfl⟩
  rw [hp] at P ⊢
  have hE := parseF_err (bl s)
  have hz := fun q => parseF_size (l := bl s) q
  rw [hp] at hE hz
  simp only [retF, evs, zr] at P
  by_cases h0 : E = 0
  · subst h0
    rw [if_pos rfl]
    clear hE hz hp PA
    simp only [evNum, evs, zr]
    go_enter Tryz.func157, Tryz.ntmps157
    go_wp2_with (go_at_call 178; refine P.out.mono ?_; rintro e w1 ⟨rfl, hp1, hp2, hp3⟩; have F1 := hide hp1; have M1 := hide hp2; have E1 := hide hp3; clear hp1 hp2 hp3; obtain ⟨b0, b1, b2, b3, b4, b5, b6⟩ := E1.out.cells; have fz : ∀ j, w1.frozen? ⟨k, j, none⟩ = false := (fun j => by have q := E1.out; unfold EB at q; simp [World.frozen?, q]); have lt1 : k < w1.heap.size := E1.out.lt)
    have Q := eb_set7 E1.out ⟨3, false, b, d, x, 0, ⟨#[]⟩, []⟩
    obtain ⟨w2, hw2⟩ : ∃ w2, set7 w1 k ⟨3, false, b, d, x, 0, ⟨#[]⟩, []⟩ = w2 := ⟨_, rfl⟩
    rw [hw2] at Q
    simp only [set7] at hw2
    rw [hw2]
    obtain ⟨Q1, Q2⟩ := Q
    have Q3 := Q1.below (W1 := w2.alloc (.cells #[.bool b, .string d, .int .i64 x] 24)) (below_al (Below.refl _ _))
    obtain ⟨c0, c1, c2, c3, c4, c5, c6⟩ := Q3.cells
    simp only at c0 c1 c2 c3 c4 c5 c6
    have hlo : g.lo ≤ k := by have := lo.out; rw [hk'.out] at this; exact this
    have R2 := (M1.out.apart E1.out NB.out hlo Q2)
    refine bodyPost_ret (v := .agg #[.int .i64 3, .bool false, .bool b, .string d, .int .i64 x, .int .u64 0, .string ⟨#[]⟩]) (by simp [results, Tryz.results157, go_sem, c0, c1, c2, c3, c4, c5, c6]) rfl ⟨?_, rfl, m, R2.then (below_al (Below.refl _ _)), OM.refl _ _⟩
    exact (F1.out.fresh (Nat.le_of_eq hk'.out) lo.out Q2).trans (OM.refl _ _) (RF.of (below_al (Below.refl _ _)) R2.lo)
  · have hz := hz h0
    simp only [Prod.mk.injEq] at hz
    obtain ⟨rfl, rfl, rfl, _⟩ := hz
    rw [if_neg h0]
    by_cases h2 : E = 2
    · subst h2
      rw [if_pos rfl]
      clear hE hp h0
      cases hq : passS st with
      | inl E =>
        simp only [bnd]
        rw [hq] at PA
        clear hq
        go_enter Tryz.func157, Tryz.ntmps157
        go_wp2_with (first
          | (go_at_call 178; refine P.out.mono ?_; rintro e w1 ⟨rfl, hp1, hp2, hp3⟩; have F1 := hide hp1; have M1 := hide hp2; have E1 := hide hp3; clear hp1 hp2 hp3; obtain ⟨b0, b1, b2, b3, b4, b5, b6⟩ := E1.out.cells; have fz : ∀ j, w1.frozen? ⟨k, j, none⟩ = false := (fun j => by have q := E1.out; unfold EB at q; simp [World.frozen?, q]); have lt1 : k < w1.heap.size := E1.out.lt)
          | (go_at_call 76; refine (PA.out _ (M1.out.then (below_al (Below.refl _ _))) (E1.out.below (below_al (Below.refl _ _)))).mono ?_; rintro q w2 ⟨hp1, rfl, hp2⟩; have F2 := hide (F1.out.trans (OM.refl _ _) ((RF.of (below_al (Below.refl _ _)) M1.out.lo).trans (OM.refl _ _) hp1)); have M2 := hide hp2; clear hp1 hp2))
        exact ⟨rfl, F2.out, rfl, M2.out⟩
      | inr y =>
        simp only [bnd, evs, zr]
        rw [hq] at PA
        clear hq
        have PA2 : Hid (∀ w1, RM w1 r g m st → EB w1 k (zr 0) → Calls Tryz.prog 76 #[.pointer (some ⟨r, 0, none⟩)] w1 fun q w' => ∃ m2, q = .returned (.tuple #[]) ∧ RF g m w1 w' ∧ RM w' r g m2 y ∧ OM w1 m m2 ∧ EB w' k (zr 0)) := fun w1 h1 hE => (PA.out w1 h1 hE).mono (by
          rintro q w2 ⟨hp1, rfl, m2, hp2, hp3⟩
          exact ⟨m2, rfl, hp1, hp2, hp3, hp1.eb hE NB.out.1 NB.out.2.1 NB.out.2.2⟩)
        clear PA
        go_enter Tryz.func157, Tryz.ntmps157
        go_wp2_with (first
          | (go_at_call 178; refine P.out.mono ?_; rintro e w1 ⟨rfl, hp1, hp2, hp3⟩; have F1 := hide hp1; have M1 := hide hp2; have E1 := hide hp3; clear hp1 hp2 hp3; obtain ⟨b0, b1, b2, b3, b4, b5, b6⟩ := E1.out.cells; have fz : ∀ j, w1.frozen? ⟨k, j, none⟩ = false := (fun j => by have q := E1.out; unfold EB at q; simp [World.frozen?, q]); have lt1 : k < w1.heap.size := E1.out.lt)
          | (go_at_call 76; refine (PA2.out _ (M1.out.then (below_al (Below.refl _ _))) (E1.out.below (below_al (Below.refl _ _)))).mono ?_; rintro q w2 ⟨m2, rfl, hp1, hp2, hp3, hp4⟩; have F2 := hide (F1.out.trans (OM.refl _ _) ((RF.of (below_al (Below.refl _ _)) M1.out.lo).trans (OM.refl _ _) hp1)); have M2 := hide hp2; have O2 : Hid (OM W m m2) := (OM.refl _ _).trans hp3 (Nat.le_trans F1.out.below.size (by simp)); have NB2 : Hid (NoB m2 k) := NB.out.om hp3 (E1.out.below (below_al (Below.refl _ _))).lt; have E2 := hide hp4; clear hp1 hp2 hp3 hp4; obtain ⟨e0, e1, e2, e3, e4, e5, e6⟩ := E2.out.cells; have fz2 : ∀ j, w2.frozen? ⟨k, j, none⟩ = false := (fun j => by have q := E2.out; unfold EB at q; simp [World.frozen?, q]); have lt2 : k < w2.heap.size := E2.out.lt))
        have Q := eb_set7 E2.out (zr 1)
        obtain ⟨w3, hw3⟩ : ∃ w3, set7 w2 k (zr 1) = w3 := ⟨_, rfl⟩
        rw [hw3] at Q
        simp only [set7, zr] at hw3
        rw [hw3]
        obtain ⟨Q1, Q2⟩ := Q
        obtain ⟨c0, c1, c2, c3, c4, c5, c6⟩ := Q1.cells
        simp only [zr] at c0 c1 c2 c3 c4 c5 c6
        have hlo : g.lo ≤ k := by have := lo.out; rw [hk'.out] at this; exact this
        have R2 := (M2.out.apart E2.out NB2.out hlo Q2)
        refine bodyPost_ret (v := .agg #[.int .i64 1, .bool false, .bool false, .string ⟨#[]⟩, .int .i64 0, .int .u64 0, .string ⟨#[]⟩]) (by simp [results, Tryz.results157, go_sem, c0, c1, c2, c3, c4, c5, c6]) rfl ⟨?_, rfl, m2, R2, O2.out⟩
        exact F2.out.fresh (Nat.le_of_eq hk'.out) lo.out Q2
    · rw [if_neg h2]
      have hE' : E = 10 := hE.elim (fun q => absurd q h0) (fun q => q.elim id (fun q => absurd q h2))
      subst hE'
      clear hE hp h0 h2 PA
      go_enter Tryz.func157, Tryz.ntmps157
      go_wp2_with (go_at_call 178; refine P.out.mono ?_; rintro e w1 ⟨rfl, hp1, hp2, hp3⟩; have F1 := hide hp1; have M1 := hide hp2; have E1 := hide hp3; clear hp1 hp2 hp3; obtain ⟨b0, b1, b2, b3, b4, b5, b6⟩ := E1.out.cells; have fz : ∀ j, w1.frozen? ⟨k, j, none⟩ = false := (fun j => by have q := E1.out; unfold EB at q; simp [World.frozen?, q]); have lt1 : k < w1.heap.size := E1.out.lt)
      exact ⟨rfl, F1.out.trans (OM.refl _ _) (RF.of (below_al (Below.refl _ _)) M1.out.lo), rfl, _, (M1.out.then (below_al (Below.refl _ _))).rd⟩
theorem wordE_z {s : ByteArray} {x : Hd × St} (h : wordE st s = .inr x) : EvZ x.1 ∧ x.2.n = st.n ∧ x.2.ks = st.ks ∧ x.2.wait = st.wait ∧ x.2.behind = st.behind ∧ x.2.q = st.q ∧ x.2.word = st.word ∧ x.2.total = st.total := by
  have z1 : EvZ (zr 1) := ⟨by decide, by decide, rfl⟩
  unfold wordE at h
  split at h
  · cases h; exact ⟨z1, rfl, rfl, rfl, rfl, rfl, rfl, rfl⟩
  split at h
  · cases h; exact ⟨⟨by show (ByteArray.size ⟨#[]⟩) ≤ _; decide, by show (ByteArray.size ⟨#[]⟩) ≤ _; decide, rfl⟩, rfl, rfl, rfl, rfl, rfl, rfl, rfl⟩
  split at h
  · cases h; exact ⟨⟨by show (ByteArray.size ⟨#[]⟩) ≤ _; decide, by show (ByteArray.size ⟨#[]⟩) ≤ _; decide, rfl⟩, rfl, rfl, rfl, rfl, rfl, rfl, rfl⟩
  unfold numS at h
  split at h
  · rename_i he
    cases h
    refine ⟨⟨by show (ByteArray.size ⟨#[]⟩) ≤ _; decide, ?_, rfl⟩, rfl, rfl, rfl, rfl, rfl, rfl, rfl⟩
    obtain ⟨⟨b, d, x, E⟩, hp⟩ : ∃ p, parseF (bl s) = p := ⟨_, rfl⟩
    rw [hp] at he ⊢
    simp only at he
    subst he
    have := isN_len (parseF_isN hp)
    simp only [evNum]
    omega
  split at h
  · unfold passS at h
    split at h
    · cases h
    · cases h; exact ⟨z1, rfl, rfl, rfl, rfl, rfl, rfl, rfl⟩
  · cases h
end
end Go.Proofs.YtoaacfhjejmbnaaGreatDoor
