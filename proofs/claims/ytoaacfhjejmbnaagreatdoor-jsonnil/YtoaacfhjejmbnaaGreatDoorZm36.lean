/- Merged by program: KuFin, KvTake. -/
import Derived.Test.YtoaacfhjejmbnaaGreatDoorZm35
/- json's Reader: finish, take walked (genread5.py writes this). -/
namespace Go.Proofs.YtoaacfhjejmbnaaGreatDoor
open Go.RowKit
set_option linter.unusedSimpArgs false
set_option linter.unusedVariables false
section
variable {W W1 W2 : World} {r : Nat} {g : Gv} {m : Mv} {st : St}
theorem RdO.setj (j : Nat) (u : Value) : RdO r W (W.setCell ⟨r, j, none⟩ u) :=
  ⟨(Below.refl r W).setCell (p := ⟨r, j, none⟩) (Nat.le_refl _) _, fun q _ hq => Below.heap_setCell _ _ _ _ hq⟩
theorem RM.w1 (h : RM W r g m st) : RM (W.setCell ⟨r, 1, none⟩ (.int .i64 ((st.total : Int) + 1))) r g m { st with total := st.total + 1 } := h.sc (h.rd.set 1 _ _ rfl) (RdO.setj _ _)
theorem RF.w1 (h : RM W r g m st) : RF g m W (W.setCell ⟨r, 1, none⟩ (.int .i64 ((st.total : Int) + 1))) := RF.ofO h (RdO.setj _ _)
theorem RM.z5 (h : RM W r g m st) : RM (((((W.setCell ⟨r, 4, none⟩ (.int .i64 0)).setCell ⟨r, 5, none⟩ (.slice none 0 0)).setCell ⟨r, 6, none⟩ (.int .i64 0)).setCell ⟨r, 7, none⟩ (.int .i64 0)).setCell ⟨r, 8, none⟩ (.int .i64 0)) r g { m with held := .slice none 0 0 } { st with q := q0 } ∧ RF g m W (((((W.setCell ⟨r, 4, none⟩ (.int .i64 0)).setCell ⟨r, 5, none⟩ (.slice none 0 0)).setCell ⟨r, 6, none⟩ (.int .i64 0)).setCell ⟨r, 7, none⟩ (.int .i64 0)).setCell ⟨r, 8, none⟩ (.int .i64 0)) ∧ OM W m { m with held := .slice none 0 0 } := by
  have F : RdF r m.held W (((((W.setCell ⟨r, 4, none⟩ (.int .i64 0)).setCell ⟨r, 5, none⟩ (.slice none 0 0)).setCell ⟨r, 6, none⟩ (.int .i64 0)).setCell ⟨r, 7, none⟩ (.int .i64 0)).setCell ⟨r, 8, none⟩ (.int .i64 0)) := ((((RdF.refl.set 4 _).set 5 _).set 6 _).set 7 _).set 8 _
  have ob : OB W m.held (.slice none 0 0) := Or.inr fun q hq => by cases hq
  have r1 := h.rd.set 4 (.int .i64 0) { st.rv g m with place := 0 } rfl
  have r2 := r1.set 5 (.slice none 0 0) { st.rv g m with place := 0, held := .slice none 0 0 } rfl
  have r3 := r2.set 6 (.int .i64 0) { st.rv g m with place := 0, held := .slice none 0 0, digits := 0 } rfl
  have r4 := r3.set 7 (.int .i64 0) { st.rv g m with place := 0, held := .slice none 0 0, digits := 0, number := 0 } rfl
  have r5 := r4.set 8 (.int .i64 0) { st.rv g m with place := 0, held := .slice none 0 0, digits := 0, number := 0, high := 0 } rfl
  exact ⟨h.ofQ F ⟨r5, own_nil _ _, by simp [q0], by simp [q0], Or.inl rfl, by simp [q0]⟩ ob, RF.ofF h F, ⟨OB.refl _ _, ob, OB.refl _ _⟩⟩
/-- What a call on the quoted text answers, as the whole reader sees it. -/
def QW (w : World) (r : Nat) (g : Gv) (m : Mv) (st : St) (o : Sum Int (Value × Qa)) (e : Ending) (w' : World) : Prop :=
  RF g m w w' ∧ match o with
  | .inl E => e = .panicked (pan E) ∧ ∃ s, RdB w' r s
  | .inr x => e = .returned x.1 ∧ ∃ m', RM w' r g m' { st with q := x.2 } ∧ OM w m m'
theorem QW.of (h : RM W r g m st) {o : Sum Int (Value × Qa)} {e : Ending} (k : QP W r (st.rv g m) m.held o e W1) : QW W r g m st o e W1 := by
  obtain ⟨h1, h2⟩ := k
  refine ⟨RF.ofF h h1, ?_⟩
  cases o with
  | inl E => exact h2
  | inr x =>
    obtain ⟨h3, v', h4, h5⟩ := h2
    exact ⟨h3, { m with held := v' }, h.ofQ h1 h4 h5, ⟨OB.refl _ _, h5, OB.refl _ _⟩⟩
theorem qtake_r (h : RM W r g m st) (hd : st.q.place = 3 → st.q.digits < 4) (c : UInt8) : Calls Tryz.prog 77 #[.pointer (some ⟨r, 4, none⟩), .int .u8 c.toNat] W fun e w' => QW W r g m st (takeQ st.q c) e w' :=
  (take_q h.q hd c).mono fun e w' k => QW.of h k
theorem qtext_r (h : RM W r g m st) : Calls Tryz.prog 78 #[.pointer (some ⟨r, 4, none⟩)] W fun e w' => QW W r g m st (textQ st.q) e w' :=
  (text_q h.q h.gu).mono fun e w' k => QW.of h k
theorem facts_endWordS {x : St} (h : endWordS st = .inr x) (h1 : st.wait = 1 → st.ks ≠ []) (h11 : st.wait = 11 → st.ks ≠ []) : x.n ≤ st.n + 1 ∧ (x.wait = 1 → x.ks ≠ []) ∧ (x.wait = 11 → x.ks ≠ []) ∧ x.q = st.q ∧ x.behind = st.behind ∧ x.total = st.total := by
  unfold endWordS at h
  split at h
  · cases h; exact ⟨Nat.le_succ _, h1, h11, rfl, rfl, rfl⟩
  · unfold wordS at h
    split at h
    · cases hq : wordE { st with word := [] } (mkB st.word) with
      | inl E => rw [hq] at h; cases h
      | inr y =>
        rw [hq] at h
        simp only [bnd] at h
        obtain ⟨_, a1, a2, a3, a4, a5, a6, a7⟩ := wordE_z hq
        cases ht : tellS y.2 y.1 with
        | inl E => rw [ht] at h; cases h
        | inr z =>
          rw [ht] at h
          cases h
          obtain ⟨b1, b2, b3, b4, b5, b6, b7⟩ := tellS_n ht
          simp only at a1 a2 a3 a4 a5 a6 a7
          refine ⟨by show z.n ≤ _; omega, fun q => ?_, fun q => ?_, by show z.q = _; rw [b5, a5], by show z.behind = _; rw [b4, a4], by show z.total = _; rw [b7, a7]⟩
          · have : endW z.ks = 1 := q
            unfold endW at this
            split at this
            · cases this
            · split at this <;> cases this
          · have : endW z.ks = 11 := q
            unfold endW at this
            split at this
            · cases this
            · split at this
              · rename_i h9
                exact lastK_ne h9 (by decide)
              · cases this
    · cases h
set_option maxHeartbeats 4000000 in
set_option maxRecDepth 100000 in
theorem finish_r (h : RM W r g m st) (hn : st.n ≤ 199980) : Calls Tryz.prog 44 #[.pointer (some ⟨r, 0, none⟩)] W fun x w' => RP W r g m (finS st) x w' := by
  have H := hide h
  have C1 := hide (endWord_r h hn)
  clear h hn
  unfold finS
  cases hq1 : endWordS st with
  | inl E =>
    rw [hq1] at C1
    clear hq1
    simp only [bnd]
    go_enter Tryz.func44, Tryz.ntmps44
    go_wp2_with (go_at_call 82; refine C1.out.mono ?_; rintro q w1 ⟨hp1, rfl, hp2⟩; have F1 := hide hp1; have M1 := hide hp2; clear hp1 hp2)
    exact ⟨rfl, F1.out, rfl, M1.out⟩
  | inr x =>
    rw [hq1] at C1
    clear hq1
    simp only [bnd]
    by_cases h13 : x.wait = 13
    · by_cases hp0 : x.q.place = 0
      · rw [if_neg (fun o => o.elim (fun q => q h13) (fun q => q hp0))]
        cases hp : x.passed with
        | true =>
          simp only [if_true]
          go_enter Tryz.func44, Tryz.ntmps44
          go_wp2_with (go_at_call 82; refine C1.out.mono ?_; rintro q w1 ⟨hp1, rfl, m1, hp2, hp3⟩; have F1 := hide hp1; have M1 := hide hp2; have O1 := hide hp3; clear hp1 hp2 hp3; have d9 : w1.cell? ⟨r, 9, none⟩ = some (.int .i64 x.wait) := (M1.out.rd.cell 9).trans rfl; have d4 : w1.cell? ⟨r, 4, none⟩ = some (.int .i64 x.q.place) := (M1.out.rd.cell 4).trans rfl; have d2 : w1.cell? ⟨r, 2, none⟩ = some (.bool x.passed) := (M1.out.rd.cell 2).trans rfl; rw [h13] at d9; rw [hp0] at d4; rw [hp] at d2)
          exact ⟨rfl, RP.trans F1.out O1.out (RP.pan M1.out 2 0)⟩
        | false =>
          simp only [Bool.false_eq_true, if_false]
          go_enter Tryz.func44, Tryz.ntmps44
          go_wp2_with (go_at_call 82; refine C1.out.mono ?_; rintro q w1 ⟨hp1, rfl, m1, hp2, hp3⟩; have F1 := hide hp1; have M1 := hide hp2; have O1 := hide hp3; clear hp1 hp2 hp3; have d9 : w1.cell? ⟨r, 9, none⟩ = some (.int .i64 x.wait) := (M1.out.rd.cell 9).trans rfl; have d4 : w1.cell? ⟨r, 4, none⟩ = some (.int .i64 x.q.place) := (M1.out.rd.cell 4).trans rfl; have d2 : w1.cell? ⟨r, 2, none⟩ = some (.bool x.passed) := (M1.out.rd.cell 2).trans rfl; rw [h13] at d9; rw [hp0] at d4; rw [hp] at d2)
          go_end0
          exact ⟨F1.out, rfl, m1, M1.out, O1.out⟩
      · rw [if_pos (Or.inr hp0)]
        have ep : ((x.q.place : Int) != 0) = true := by simp; omega
        have ep2 : ((x.q.place : Int) == 0) = false := by simp; omega
        go_enter Tryz.func44, Tryz.ntmps44
        go_wp2_with (go_at_call 82; refine C1.out.mono ?_; rintro q w1 ⟨hp1, rfl, m1, hp2, hp3⟩; have F1 := hide hp1; have M1 := hide hp2; have O1 := hide hp3; clear hp1 hp2 hp3; have d9 : w1.cell? ⟨r, 9, none⟩ = some (.int .i64 x.wait) := (M1.out.rd.cell 9).trans rfl; have d4 : w1.cell? ⟨r, 4, none⟩ = some (.int .i64 x.q.place) := (M1.out.rd.cell 4).trans rfl; have d2 : w1.cell? ⟨r, 2, none⟩ = some (.bool x.passed) := (M1.out.rd.cell 2).trans rfl; rw [h13] at d9)
        exact ⟨rfl, RP.trans F1.out O1.out (RP.pan M1.out 70 0)⟩
    · rw [if_pos (Or.inl h13)]
      have ep : ((x.wait : Int) != 13) = true := by simp; omega
      have ep2 : ((x.wait : Int) == 13) = false := by simp; omega
      go_enter Tryz.func44, Tryz.ntmps44
      go_wp2_with (go_at_call 82; refine C1.out.mono ?_; rintro q w1 ⟨hp1, rfl, m1, hp2, hp3⟩; have F1 := hide hp1; have M1 := hide hp2; have O1 := hide hp3; clear hp1 hp2 hp3; have d9 : w1.cell? ⟨r, 9, none⟩ = some (.int .i64 x.wait) := (M1.out.rd.cell 9).trans rfl; have d4 : w1.cell? ⟨r, 4, none⟩ = some (.int .i64 x.q.place) := (M1.out.rd.cell 4).trans rfl; have d2 : w1.cell? ⟨r, 2, none⟩ = some (.bool x.passed) := (M1.out.rd.cell 2).trans rfl)
      exact ⟨rfl, RP.trans F1.out O1.out (RP.pan M1.out 70 0)⟩
end
end Go.Proofs.YtoaacfhjejmbnaaGreatDoor
/- json's Reader: take walked (genread6.py writes this). -/
namespace Go.Proofs.YtoaacfhjejmbnaaGreatDoor
open Go.RowKit
set_option linter.unusedSimpArgs false
set_option linter.unusedVariables false
def mkE : ByteArray := ⟨#[32, 9, 10, 13, 91, 93, 123, 125, 44, 58, 34]⟩
set_option maxRecDepth 100000 in
set_option maxHeartbeats 2000000 in
theorem mk_idx_n : ∀ n, n < 256 → decide (firstIdx mkE n.toUInt8 < 0) = !isMk n.toUInt8 := by decide +kernel
theorem mk_idx (c : UInt8) : decide (firstIdx mkE ((c.toNat : Int).toNat.toUInt8) < 0) = !isMk c := by
  have h := mk_idx_n c.toNat c.toNat_lt
  have e : c.toNat.toUInt8 = c := by simp
  rw [Int.toNat_natCast, h, e]
theorem retQ_bool {o : Sum Int (Value × Qa)} {x : Value × Qa} (h : retQ o = .inr x) : x.1 = .bool false := by
  unfold retQ at h
  split at h
  · cases h
  · cases h; rfl
theorem takeQ_bool {q : Qa} {c : UInt8} {x : Value × Qa} (h : takeQ q c = .inr x) : x.1 = .bool true ∨ x.1 = .bool false := by
  unfold takeQ at h
  split at h
  · exact Or.inr (retQ_bool h)
  split at h
  · exact Or.inr (retQ_bool h)
  unfold plainQ at h
  split at h
  · cases h; exact Or.inr rfl
  split at h
  · cases h
  split at h
  · cases h; exact Or.inl rfl
  split at h
  · cases h; exact Or.inr rfl
  · cases h
theorem facts_passS {st x : St} (h : passS st = .inr x) : x.n = st.n ∧ x.ks = st.ks ∧ x.wait = st.wait ∧ x.q = st.q ∧ x.word = st.word ∧ x.behind = st.behind ∧ x.total = st.total := by
  unfold passS at h
  split at h
  · cases h
  · cases h; exact ⟨rfl, rfl, rfl, rfl, rfl, rfl, rfl⟩
section
variable {W W1 W2 : World} {r : Nat} {g : Gv} {m : Mv} {st : St}
set_option maxHeartbeats 8000000 in
set_option maxRecDepth 100000 in
theorem take_c (h : RM W r g m st) (c : UInt8) (hd : st.q.place = 3 → st.q.digits < 4) (hk1 : st.wait = 1 → st.ks ≠ []) (hk11 : st.wait = 11 → st.ks ≠ []) (hn : st.n ≤ 199900) (ht : st.total ≤ 1000000) (hp : st.passed = false) (hb : st.total + 1 ≤ 65536) : Calls Tryz.prog 43 #[.pointer (some ⟨r, 0, none⟩), .int .u8 c.toNat] W fun q w' => RP W r g m (goS { st with total := st.total + 1 } c) q w' := by
  have H := hide h
  have c1 : W.cell? ⟨r, 1, none⟩ = some (.int .i64 st.total) := (h.rd.cell 1).trans rfl
  have f1 : W.frozen? ⟨r, 1, none⟩ = false := h.rd.frz 1
  have c2 : W.cell? ⟨r, 2, none⟩ = some (.bool st.passed) := (h.rd.cell 2).trans rfl
  have c4 : W.cell? ⟨r, 4, none⟩ = some (.int .i64 st.q.place) := (h.rd.cell 4).trans rfl
  have hw : IntKind.i64.wrap ((st.total : Int) + 1) = (st.total : Int) + 1 := by rw [IntKind.wrap_i64] <;> omega
  have M0 := hide h.w1
  have F0 := hide (RF.w1 h)
  clear h
  have hlt : decide ((65536 : Int) < (st.total : Int) + 1) = false := by simp; omega
  rw [hp] at c2
  clear hp hb ht
  obtain ⟨s2, hs2⟩ : ∃ s2, ({ st with total := st.total + 1 } : St) = s2 := ⟨_, rfl⟩
  rw [hs2] at M0 ⊢
  have hq : s2.q = st.q := by rw [← hs2]
  have hnn : s2.n = st.n := by rw [← hs2]
  have hww : s2.wait = st.wait := by rw [← hs2]
  have hkk : s2.ks = st.ks := by rw [← hs2]
  clear hs2
  have M1 := M0
  have F1 := F0
  have O1 : Hid (OM W m m) := OM.refl _ _
  unfold goS
  by_cases hp0 : s2.q.place = 0
  · rw [if_neg (fun o => o hp0)]
    have k4 : W.cell? ⟨r, 4, none⟩ = some (.int .i64 0) := by rw [c4, ← hq, hp0]; rfl
    clear c4
    obtain ⟨xi, SA, hxi⟩ : ∃ xi : Int, Hid (∀ w, Calls Tryz.prog 80 #[.string ⟨#[32, 9, 10, 13, 91, 93, 123, 125, 44, 58, 34]⟩, .int .u8 c.toNat] w fun r w' => r = .returned (.int .i64 xi) ∧ w' = w) ∧ decide (xi < 0) = !isMk c := ⟨_, fun w => sib_any mkE (c.toNat : Int) w, mk_idx c⟩
    cases hm : isMk c with
    | false =>
      rw [hm] at hxi
      simp only [Bool.not_false, Bool.false_eq_true, if_false] at hxi ⊢
      have C2 := hide (fun w m (h1 : RM w r g m s2) => holdWord_r h1 c)
      clear hm hd hk1 hk11 hn hq hnn hww hkk
      cases hq2 : holdS s2 c with
      | inl E =>
        rw [hq2] at C2
        clear hq2
        go_enter Tryz.func43, Tryz.ntmps43
        go_wp2_with (first
          | (go_at_call 80; refine (SA.out _).mono ?_; rintro e w0 ⟨rfl, hw0⟩; have hws := hw0.symm; clear hw0; subst hws)
          | (go_at_call 81; refine (C2.out _ _ M1.out).mono ?_; rintro q w2 ⟨hp1, rfl, hp2⟩; have F2 := hide hp1; have M2 := hide hp2; clear hp1 hp2))
        exact ⟨rfl, RP.trans F1.out O1.out (⟨F2.out, rfl, M2.out⟩)⟩
      | inr x =>
        rw [hq2] at C2
        clear hq2
        go_enter Tryz.func43, Tryz.ntmps43
        go_wp2_with (first
          | (go_at_call 80; refine (SA.out _).mono ?_; rintro e w0 ⟨rfl, hw0⟩; have hws := hw0.symm; clear hw0; subst hws)
          | (go_at_call 81; refine (C2.out _ _ M1.out).mono ?_; rintro q w2 ⟨hp1, rfl, m2, hp2, hp3⟩; have F2 := hide hp1; have M2 := hide hp2; have O2 := hide hp3; clear hp1 hp2 hp3))
        go_end0
        exact RP.trans F1.out O1.out (⟨F2.out, rfl, m2, M2.out, O2.out⟩)
    | true =>
      rw [hm] at hxi
      simp only [Bool.not_true, if_true] at hxi ⊢
      have C2 := hide (fun w m (h1 : RM w r g m s2) => endWord_r h1 (by omega))
      cases hq2 : endWordS s2 with
      | inl E =>
        rw [hq2] at C2
        clear hq2 hm hd hk1 hk11 hn hq hnn hww hkk
        simp only [bnd]
        go_enter Tryz.func43, Tryz.ntmps43
        go_wp2_with (first
          | (go_at_call 80; refine (SA.out _).mono ?_; rintro e w0 ⟨rfl, hw0⟩; have hws := hw0.symm; clear hw0; subst hws)
          | (go_at_call 82; refine (C2.out _ _ M1.out).mono ?_; rintro q w2 ⟨hp1, rfl, hp2⟩; have F2 := hide hp1; have M2 := hide hp2; clear hp1 hp2))
        exact ⟨rfl, RP.trans F1.out O1.out (⟨F2.out, rfl, M2.out⟩)⟩
      | inr x2 =>
        rw [hq2] at C2
        obtain ⟨k1, k2, k3, _⟩ := facts_endWordS hq2 (by rw [hww, hkk]; exact hk1) (by rw [hww, hkk]; exact hk11)
        simp only [bnd]
        have C3 := hide (fun w m (h1 : RM w r g m x2) => takeMark_r h1 c k2 k3 (by omega))
        clear hq2 hm hd hk1 hk11 hn hq hnn hww hkk k1 k2 k3
        cases hq3 : markS x2 c with
        | inl E =>
          rw [hq3] at C3
          clear hq3
          go_enter Tryz.func43, Tryz.ntmps43
          go_wp2_with (first
            | (go_at_call 80; refine (SA.out _).mono ?_; rintro e w0 ⟨rfl, hw0⟩; have hws := hw0.symm; clear hw0; subst hws)
            | (go_at_call 82; refine (C2.out _ _ M1.out).mono ?_; rintro q w2 ⟨hp1, rfl, m2, hp2, hp3⟩; have F2 := hide hp1; have M2 := hide hp2; have O2 := hide hp3; clear hp1 hp2 hp3)
            | (go_at_call 83; refine (C3.out _ _ M2.out).mono ?_; rintro q w3 ⟨hp1, rfl, hp2⟩; have F3 := hide hp1; have M3 := hide hp2; clear hp1 hp2))
          exact ⟨rfl, RP.trans F1.out O1.out (RP.trans F2.out O2.out (⟨F3.out, rfl, M3.out⟩))⟩
        | inr x3 =>
          rw [hq3] at C3
          clear hq3
          go_enter Tryz.func43, Tryz.ntmps43
          go_wp2_with (first
            | (go_at_call 80; refine (SA.out _).mono ?_; rintro e w0 ⟨rfl, hw0⟩; have hws := hw0.symm; clear hw0; subst hws)
            | (go_at_call 82; refine (C2.out _ _ M1.out).mono ?_; rintro q w2 ⟨hp1, rfl, m2, hp2, hp3⟩; have F2 := hide hp1; have M2 := hide hp2; have O2 := hide hp3; clear hp1 hp2 hp3)
            | (go_at_call 83; refine (C3.out _ _ M2.out).mono ?_; rintro q w3 ⟨hp1, rfl, m3, hp2, hp3⟩; have F3 := hide hp1; have M3 := hide hp2; have O3 := hide hp3; clear hp1 hp2 hp3))
          go_end0
          exact RP.trans F1.out O1.out (RP.trans F2.out O2.out (⟨F3.out, rfl, m3, M3.out, O3.out⟩))
  · rw [if_pos hp0]
    have ep : ((s2.q.place : Int) != 0) = true := by simp; omega
    have ep2 : ((s2.q.place : Int) == 0) = false := by simp; omega
    have k4 : W.cell? ⟨r, 4, none⟩ = some (.int .i64 s2.q.place) := by rw [c4, hq]
    clear c4
    unfold quoS
    have C2 := hide (fun w m (h1 : RM w r g m s2) => qtake_r h1 (by rw [hq]; exact hd) c)
    cases hq2 : takeQ s2.q c with
    | inl E =>
      rw [hq2] at C2
      clear hq2 hd hk1 hk11 hn hq hnn hww hkk
      simp only [bnd]
      go_enter Tryz.func43, Tryz.ntmps43
      go_wp2_with (go_at_call 77; refine (C2.out _ _ M1.out).mono ?_; rintro q w2 ⟨hp1, rfl, hp2⟩; have F2 := hide hp1; have M2 := hide hp2; clear hp1 hp2)
      exact ⟨rfl, RP.trans F1.out O1.out (⟨F2.out, rfl, M2.out⟩)⟩
    | inr x2 =>
      rw [hq2] at C2
      have hb := takeQ_bool hq2
      clear hq2
      obtain ⟨v2, q2⟩ := x2
      simp only [bnd] at hb ⊢
      rcases hb with rfl | rfl
      · simp only
        have C3 := hide (fun w m (h1 : RM w r g m { s2 with q := q2 }) => qtext_r h1)
        simp only [textQ] at C3 ⊢
        cases hok : Ut.okT (Ut.bl (mkB q2.held)) with
        | false =>
          rw [hok] at C3
          simp only [Bool.false_eq_true, if_false] at C3 ⊢
          clear hok hd hk1 hk11 hn hq hnn hww hkk
          go_enter Tryz.func43, Tryz.ntmps43
          go_wp2_with (first
            | (go_at_call 77; refine (C2.out _ _ M1.out).mono ?_; rintro q w2 ⟨hp1, rfl, m2, hp2, hp3⟩; have F2 := hide hp1; have M2 := hide hp2; have O2 := hide hp3; clear hp1 hp2 hp3)
            | (go_at_call 78; refine (C3.out _ _ M2.out).mono ?_; rintro q w3 ⟨hp1, rfl, hp2⟩; have F3 := hide hp1; have M3 := hide hp2; clear hp1 hp2))
          exact ⟨rfl, RP.trans F1.out O1.out (RP.trans F2.out O2.out (⟨F3.out, rfl, M3.out⟩))⟩
        | true =>
          rw [hok] at C3
          simp only [if_true] at C3 ⊢
          have C4 := hide (fun w m (h1 : RM w r g m { s2 with q := q0 }) (hl : q2.held.length ≤ 8192) => takeText_r h1 (mkB q2.held) (by rw [← bl_length, bl_mkB]; omega) (show s2.n ≤ 199980 by omega))
          clear hok hd hk1 hk11 hn hq hnn hww hkk
          obtain ⟨o4, ho4⟩ : ∃ o, textS { s2 with q := q0 } (mkB q2.held) = o := ⟨_, rfl⟩
          rw [ho4] at C4 ⊢
          clear ho4
          cases o4 with
          | inl E =>
            go_enter Tryz.func43, Tryz.ntmps43
            go_wp2_with (first
              | (go_at_call 77; refine (C2.out _ _ M1.out).mono ?_; rintro q w2 ⟨hp1, rfl, m2, hp2, hp3⟩; have F2 := hide hp1; have M2 := hide hp2; have O2 := hide hp3; clear hp1 hp2 hp3)
              | (go_at_call 78; refine (C3.out _ _ M2.out).mono ?_; rintro q w3 ⟨hp1, rfl, m3, hp2, hp3⟩; have F3 := hide hp1; have M3 := hide hp2; have O3 := hide hp3; clear hp1 hp2 hp3; have hl3 : Hid (q2.held.length ≤ 8192) := M3.out.qf.len; have Z3 := hide M3.out.z5; have x3_4 : w3.frozen? ⟨r, 4, none⟩ = false := M3.out.rd.frz 4; have y3_4 : w3.cell? ⟨r, 4, none⟩ = some (.int .i64 q2.place) := (M3.out.rd.cell 4).trans rfl; have x3_5 : w3.frozen? ⟨r, 5, none⟩ = false := M3.out.rd.frz 5; have y3_5 : w3.cell? ⟨r, 5, none⟩ = some (m3.held) := (M3.out.rd.cell 5).trans rfl; have x3_6 : w3.frozen? ⟨r, 6, none⟩ = false := M3.out.rd.frz 6; have y3_6 : w3.cell? ⟨r, 6, none⟩ = some (.int .i64 q2.digits) := (M3.out.rd.cell 6).trans rfl; have x3_7 : w3.frozen? ⟨r, 7, none⟩ = false := M3.out.rd.frz 7; have y3_7 : w3.cell? ⟨r, 7, none⟩ = some (.int .i64 q2.number) := (M3.out.rd.cell 7).trans rfl; have x3_8 : w3.frozen? ⟨r, 8, none⟩ = false := M3.out.rd.frz 8; have y3_8 : w3.cell? ⟨r, 8, none⟩ = some (.int .i64 q2.high) := (M3.out.rd.cell 8).trans rfl)
              | (go_at_call 79; refine (C4.out _ _ Z3.out.1 hl3.out).mono ?_; rintro q w4 ⟨hp1, rfl, hp2⟩; have F4 := hide hp1; have M4 := hide hp2; clear hp1 hp2))
            exact ⟨rfl, RP.trans F1.out O1.out (RP.trans F2.out O2.out (RP.trans F3.out O3.out (RP.trans Z3.out.2.1 Z3.out.2.2 (⟨F4.out, rfl, M4.out⟩))))⟩
          | inr x4 =>
            go_enter Tryz.func43, Tryz.ntmps43
            go_wp2_with (first
              | (go_at_call 77; refine (C2.out _ _ M1.out).mono ?_; rintro q w2 ⟨hp1, rfl, m2, hp2, hp3⟩; have F2 := hide hp1; have M2 := hide hp2; have O2 := hide hp3; clear hp1 hp2 hp3)
              | (go_at_call 78; refine (C3.out _ _ M2.out).mono ?_; rintro q w3 ⟨hp1, rfl, m3, hp2, hp3⟩; have F3 := hide hp1; have M3 := hide hp2; have O3 := hide hp3; clear hp1 hp2 hp3; have hl3 : Hid (q2.held.length ≤ 8192) := M3.out.qf.len; have Z3 := hide M3.out.z5; have x3_4 : w3.frozen? ⟨r, 4, none⟩ = false := M3.out.rd.frz 4; have y3_4 : w3.cell? ⟨r, 4, none⟩ = some (.int .i64 q2.place) := (M3.out.rd.cell 4).trans rfl; have x3_5 : w3.frozen? ⟨r, 5, none⟩ = false := M3.out.rd.frz 5; have y3_5 : w3.cell? ⟨r, 5, none⟩ = some (m3.held) := (M3.out.rd.cell 5).trans rfl; have x3_6 : w3.frozen? ⟨r, 6, none⟩ = false := M3.out.rd.frz 6; have y3_6 : w3.cell? ⟨r, 6, none⟩ = some (.int .i64 q2.digits) := (M3.out.rd.cell 6).trans rfl; have x3_7 : w3.frozen? ⟨r, 7, none⟩ = false := M3.out.rd.frz 7; have y3_7 : w3.cell? ⟨r, 7, none⟩ = some (.int .i64 q2.number) := (M3.out.rd.cell 7).trans rfl; have x3_8 : w3.frozen? ⟨r, 8, none⟩ = false := M3.out.rd.frz 8; have y3_8 : w3.cell? ⟨r, 8, none⟩ = some (.int .i64 q2.high) := (M3.out.rd.cell 8).trans rfl)
              | (go_at_call 79; refine (C4.out _ _ Z3.out.1 hl3.out).mono ?_; rintro q w4 ⟨hp1, rfl, m4, hp2, hp3⟩; have F4 := hide hp1; have M4 := hide hp2; have O4 := hide hp3; clear hp1 hp2 hp3))
            go_end0
            exact RP.trans F1.out O1.out (RP.trans F2.out O2.out (RP.trans F3.out O3.out (RP.trans Z3.out.2.1 Z3.out.2.2 (⟨F4.out, rfl, m4, M4.out, O4.out⟩))))
      · simp only
        clear hd hk1 hk11 hn hq hnn hww hkk
        go_enter Tryz.func43, Tryz.ntmps43
        go_wp2_with (go_at_call 77; refine (C2.out _ _ M1.out).mono ?_; rintro q w2 ⟨hp1, rfl, m2, hp2, hp3⟩; have F2 := hide hp1; have M2 := hide hp2; have O2 := hide hp3; clear hp1 hp2 hp3)
        go_end0
        exact RP.trans F1.out O1.out (⟨F2.out, rfl, m2, M2.out, O2.out⟩)
end
end Go.Proofs.YtoaacfhjejmbnaaGreatDoor
