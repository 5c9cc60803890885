/- Merged by program: KvTakeB, KvTakeZ, KwPure. -/
import Derived.Test.YtoaacfhjejmbnaaGreatDoorZm36
import Derived.Test.YtoaacfhjejmbnaaGreatDoorZm37
/- json's Reader: take walked (genread6.py writes this). -/
namespace Go.Proofs.YtoaacfhjejmbnaaGreatDoor
open Go.RowKit
set_option linter.unusedSimpArgs false
set_option linter.unusedVariables false
section
variable {W W1 W2 : World} {r : Nat} {g : Gv} {m : Mv} {st : St}
set_option maxHeartbeats 8000000 in
set_option maxRecDepth 100000 in
theorem take_b (h : RM W r g m st) (c : UInt8) (hd : st.q.place = 3 → st.q.digits < 4) (hk1 : st.wait = 1 → st.ks ≠ []) (hk11 : st.wait = 11 → st.ks ≠ []) (hn : st.n ≤ 199900) (ht : st.total ≤ 1000000) (hp : st.passed = false) (hb : 65536 < st.total + 1) : Calls Tryz.prog 43 #[.pointer (some ⟨r, 0, none⟩), .int .u8 c.toNat] W fun q w' => RP W r g m (bnd (passS { st with total := st.total + 1 }) fun x => goS x c) q w' := by
  have H := hide h
  have c1 : W.cell? ⟨r, 1, none⟩ = some (.int .i64 st.total) := (h.rd.cell 1).trans rfl
  have f1 : W.frozen? ⟨r, 1, none⟩ = false := h.rd.frz 1
  have c2 : W.cell? ⟨r, 2, none⟩ = some (.bool st.passed) := (h.rd.cell 2).trans rfl
  have c4 : W.cell? ⟨r, 4, none⟩ = some (.int .i64 st.q.place) := (h.rd.cell 4).trans rfl
  have hw : IntKind.i64.wrap ((st.total : Int) + 1) = (st.total : Int) + 1 := by rw [IntKind.wrap_i64] <;> omega
  have M0 := hide h.w1
  have F0 := hide (RF.w1 h)
  clear h
  rw [hp] at c2
  have hlt : decide ((65536 : Int) < (st.total : Int) + 1) = true := by simp; omega
  clear hp ht hb
  have C0 := hide (pass_r M0.out)
  cases hq0 : passS { st with total := st.total + 1 } with
  | inl E =>
    rw [hq0] at C0
    clear hq0 hd hk1 hk11 hn
    simp only [bnd]
    go_enter Tryz.func43, Tryz.ntmps43
    go_wp2_with (go_at_call 76; refine C0.out.mono ?_; rintro q w1 ⟨hp1, rfl, hp2⟩; have F1 : Hid (RF g m W w1) := F0.out.trans (OM.refl _ _) hp1; have M1 := hide hp2; clear hp1 hp2)
    exact ⟨rfl, F1.out, rfl, M1.out⟩
  | inr s2 =>
    rw [hq0] at C0
    obtain ⟨hnn, hkk, hww, hq, _⟩ := facts_passS hq0
    simp only at hnn hkk hww hq
    clear hq0
    simp only [bnd]
    unfold goS
    by_cases hp0 : s2.q.place = 0
    · rw [if_neg (fun o => o hp0)]
      have k4 : W.cell? ⟨r, 4, none⟩ = some (.int .i64 0) := by rw [c4, ← hq, hp0]; rfl
      clear c4
      obtain ⟨xi, SA, hxi⟩ : ∃ xi : Int, Hid (∀ w, Calls Tryz.prog 80 #[.string ⟨#[32, 9, 10, 13, 91, 93, 123, 125, 44, 58, 34]⟩, .int .u8 c.toNat] w fun r w' => r = .returned (.int .i64 xi) ∧ w' = w) ∧ decide (xi < 0) = !isMk c := ⟨_, fun w => sib_any mkE (c.toNat : Int) w, mk_idx c⟩
      cases hm : isMk c with
      | false =>
        rw [hm] at hxi
        simp only [Bool.not_false, Bool.false_eq_true, if_false] at hxi ⊢
        have C2 := hide (fun w m (h1 : RM w r g m s2) => holdWord_r h1 c)
        clear hm hd hk1 hk11 hn hq hnn hww hkk
        cases hq2 : holdS s2 c with
        | inl E =>
          rw [hq2] at C2
          clear hq2
          go_enter Tryz.func43, Tryz.ntmps43
          go_wp2_with (first
            | (go_at_call 76; refine C0.out.mono ?_; rintro q w1 ⟨hp1, rfl, m1, hp2, hp3⟩; have F1 : Hid (RF g m W w1) := F0.out.trans (OM.refl _ _) hp1; have M1 := hide hp2; have O1 : Hid (OM W m m1) := (OM.refl _ _).trans hp3 F0.out.below.size; clear hp1 hp2 hp3; have e4 : w1.cell? ⟨r, 4, none⟩ = some (.int .i64 0) := (M1.out.rd.cell 4).trans (by show some (Value.int .i64 (s2.q.place : Int)) = _; rw [hp0]; rfl))
            | (go_at_call 80; refine (SA.out _).mono ?_; rintro e w0 ⟨rfl, hw0⟩; have hws := hw0.symm; clear hw0; subst hws)
            | (go_at_call 81; refine (C2.out _ _ M1.out).mono ?_; rintro q w2 ⟨hp1, rfl, hp2⟩; have F2 := hide hp1; have M2 := hide hp2; clear hp1 hp2))
          exact ⟨rfl, RP.trans F1.out O1.out (⟨F2.out, rfl, M2.out⟩)⟩
        | inr x =>
          rw [hq2] at C2
          clear hq2
          go_enter Tryz.func43, Tryz.ntmps43
          go_wp2_with (first
            | (go_at_call 76; refine C0.out.mono ?_; rintro q w1 ⟨hp1, rfl, m1, hp2, hp3⟩; have F1 : Hid (RF g m W w1) := F0.out.trans (OM.refl _ _) hp1; have M1 := hide hp2; have O1 : Hid (OM W m m1) := (OM.refl _ _).trans hp3 F0.out.below.size; clear hp1 hp2 hp3; have e4 : w1.cell? ⟨r, 4, none⟩ = some (.int .i64 0) := (M1.out.rd.cell 4).trans (by show some (Value.int .i64 (s2.q.place : Int)) = _; rw [hp0]; rfl))
            | (go_at_call 80; refine (SA.out _).mono ?_; rintro e w0 ⟨rfl, hw0⟩; have hws := hw0.symm; clear hw0; subst hws)
            | (go_at_call 81; refine (C2.out _ _ M1.out).mono ?_; rintro q w2 ⟨hp1, rfl, m2, hp2, hp3⟩; have F2 := hide hp1; have M2 := hide hp2; have O2 := hide hp3; clear hp1 hp2 hp3))
          go_end0
          exact RP.trans F1.out O1.out (⟨F2.out, rfl, m2, M2.out, O2.out⟩)
      | true =>
        rw [hm] at hxi
        simp only [Bool.not_true, if_true] at hxi ⊢
        have C2 := hide (fun w m (h1 : RM w r g m s2) => endWord_r h1 (by omega))
        cases hq2 : endWordS s2 with
        | inl E =>
          rw [hq2] at C2
          clear hq2 hm hd hk1 hk11 hn hq hnn hww hkk
          simp only [bnd]
          go_enter Tryz.func43, Tryz.ntmps43
          go_wp2_with (first
            | (go_at_call 76; refine C0.out.mono ?_; rintro q w1 ⟨hp1, rfl, m1, hp2, hp3⟩; have F1 : Hid (RF g m W w1) := F0.out.trans (OM.refl _ _) hp1; have M1 := hide hp2; have O1 : Hid (OM W m m1) := (OM.refl _ _).trans hp3 F0.out.below.size; clear hp1 hp2 hp3; have e4 : w1.cell? ⟨r, 4, none⟩ = some (.int .i64 0) := (M1.out.rd.cell 4).trans (by show some (Value.int .i64 (s2.q.place : Int)) = _; rw [hp0]; rfl))
            | (go_at_call 80; refine (SA.out _).mono ?_; rintro e w0 ⟨rfl, hw0⟩; have hws := hw0.symm; clear hw0; subst hws)
            | (go_at_call 82; refine (C2.out _ _ M1.out).mono ?_; rintro q w2 ⟨hp1, rfl, hp2⟩; have F2 := hide hp1; have M2 := hide hp2; clear hp1 hp2))
          exact ⟨rfl, RP.trans F1.out O1.out (⟨F2.out, rfl, M2.out⟩)⟩
        | inr x2 =>
          rw [hq2] at C2
          obtain ⟨k1, k2, k3, _⟩ := facts_endWordS hq2 (by rw [hww, hkk]; exact hk1) (by rw [hww, hkk]; exact hk11)
          simp only [bnd]
          have C3 := hide (fun w m (h1 : RM w r g m x2) => takeMark_r h1 c k2 k3 (by omega))
          clear hq2 hm hd hk1 hk11 hn hq hnn hww hkk k1 k2 k3
          cases hq3 : markS x2 c with
          | inl E =>
            rw [hq3] at C3
            clear hq3
            go_enter Tryz.func43, Tryz.ntmps43
            go_wp2_with (first
              | (go_at_call 76; refine C0.out.mono ?_; rintro q w1 ⟨hp1, rfl, m1, hp2, hp3⟩; have F1 : Hid (RF g m W w1) := F0.out.trans (OM.refl _ _) hp1; have M1 := hide hp2; have O1 : Hid (OM W m m1) := (OM.refl _ _).trans hp3 F0.out.below.size; clear hp1 hp2 hp3; have e4 : w1.cell? ⟨r, 4, none⟩ = some (.int .i64 0) := (M1.out.rd.cell 4).trans (by show some (Value.int .i64 (s2.q.place : Int)) = _; rw [hp0]; rfl))
              | (go_at_call 80; refine (SA.out _).mono ?_; rintro e w0 ⟨rfl, hw0⟩; have hws := hw0.symm; clear hw0; subst hws)
              | (go_at_call 82; refine (C2.out _ _ M1.out).mono ?_; rintro q w2 ⟨hp1, rfl, m2, hp2, hp3⟩; have F2 := hide hp1; have M2 := hide hp2; have O2 := hide hp3; clear hp1 hp2 hp3)
              | (go_at_call 83; refine (C3.out _ _ M2.out).mono ?_; rintro q w3 ⟨hp1, rfl, hp2⟩; have F3 := hide hp1; have M3 := hide hp2; clear hp1 hp2))
            exact ⟨rfl, RP.trans F1.out O1.out (RP.trans F2.out O2.out (⟨F3.out, rfl, M3.out⟩))⟩
          | inr x3 =>
            rw [hq3] at C3
            clear hq3
            go_enter Tryz.func43, Tryz.ntmps43
            go_wp2_with (first
              | (go_at_call 76; refine C0.out.mono ?_; rintro q w1 ⟨hp1, rfl, m1, hp2, hp3⟩; have F1 : Hid (RF g m W w1) := F0.out.trans (OM.refl _ _) hp1; have M1 := hide hp2; have O1 : Hid (OM W m m1) := (OM.refl _ _).trans hp3 F0.out.below.size; clear hp1 hp2 hp3; have e4 : w1.cell? ⟨r, 4, none⟩ = some (.int .i64 0) := (M1.out.rd.cell 4).trans (by show some (Value.int .i64 (s2.q.place : Int)) = _; rw [hp0]; rfl))
              | (go_at_call 80; refine (SA.out _).mono ?_; rintro e w0 ⟨rfl, hw0⟩; have hws := hw0.symm; clear hw0; subst hws)
              | (go_at_call 82; refine (C2.out _ _ M1.out).mono ?_; rintro q w2 ⟨hp1, rfl, m2, hp2, hp3⟩; have F2 := hide hp1; have M2 := hide hp2; have O2 := hide hp3; clear hp1 hp2 hp3)
              | (go_at_call 83; refine (C3.out _ _ M2.out).mono ?_; rintro q w3 ⟨hp1, rfl, m3, hp2, hp3⟩; have F3 := hide hp1; have M3 := hide hp2; have O3 := hide hp3; clear hp1 hp2 hp3))
            go_end0
            exact RP.trans F1.out O1.out (RP.trans F2.out O2.out (⟨F3.out, rfl, m3, M3.out, O3.out⟩))
    · rw [if_pos hp0]
      have ep : ((s2.q.place : Int) != 0) = true := by simp; omega
      have ep2 : ((s2.q.place : Int) == 0) = false := by simp; omega
      have k4 : W.cell? ⟨r, 4, none⟩ = some (.int .i64 s2.q.place) := by rw [c4, hq]
      clear c4
      unfold quoS
      have C2 := hide (fun w m (h1 : RM w r g m s2) => qtake_r h1 (by rw [hq]; exact hd) c)
      cases hq2 : takeQ s2.q c with
      | inl E =>
        rw [hq2] at C2
        clear hq2 hd hk1 hk11 hn hq hnn hww hkk
        simp only [bnd]
        go_enter Tryz.func43, Tryz.ntmps43
        go_wp2_with (first
          | (go_at_call 76; refine C0.out.mono ?_; rintro q w1 ⟨hp1, rfl, m1, hp2, hp3⟩; have F1 : Hid (RF g m W w1) := F0.out.trans (OM.refl _ _) hp1; have M1 := hide hp2; have O1 : Hid (OM W m m1) := (OM.refl _ _).trans hp3 F0.out.below.size; clear hp1 hp2 hp3; have e4 : w1.cell? ⟨r, 4, none⟩ = some (.int .i64 s2.q.place) := (M1.out.rd.cell 4).trans rfl)
          | (go_at_call 77; refine (C2.out _ _ M1.out).mono ?_; rintro q w2 ⟨hp1, rfl, hp2⟩; have F2 := hide hp1; have M2 := hide hp2; clear hp1 hp2))
        exact ⟨rfl, RP.trans F1.out O1.out (⟨F2.out, rfl, M2.out⟩)⟩
      | inr x2 =>
        rw [hq2] at C2
        have hb := takeQ_bool hq2
        clear hq2
        obtain ⟨v2, q2⟩ := x2
        simp only [bnd] at hb ⊢
        rcases hb with rfl | rfl
        · simp only
          have C3 := hide (fun w m (h1 : RM w r g m { s2 with q := q2 }) => qtext_r h1)
          simp only [textQ] at C3 ⊢
          cases hok : Ut.okT (Ut.bl (mkB q2.held)) with
          | false =>
            rw [hok] at C3
            simp only [Bool.false_eq_true, if_false] at C3 ⊢
            clear hok hd hk1 hk11 hn hq hnn hww hkk
            go_enter Tryz.func43, Tryz.ntmps43
            go_wp2_with (first
              | (go_at_call 76; refine C0.out.mono ?_; rintro q w1 ⟨hp1, rfl, m1, hp2, hp3⟩; have F1 : Hid (RF g m W w1) := F0.out.trans (OM.refl _ _) hp1; have M1 := hide hp2; have O1 : Hid (OM W m m1) := (OM.refl _ _).trans hp3 F0.out.below.size; clear hp1 hp2 hp3; have e4 : w1.cell? ⟨r, 4, none⟩ = some (.int .i64 s2.q.place) := (M1.out.rd.cell 4).trans rfl)
              | (go_at_call 77; refine (C2.out _ _ M1.out).mono ?_; rintro q w2 ⟨hp1, rfl, m2, hp2, hp3⟩; have F2 := hide hp1; have M2 := hide hp2; have O2 := hide hp3; clear hp1 hp2 hp3)
              | (go_at_call 78; refine (C3.out _ _ M2.out).mono ?_; rintro q w3 ⟨hp1, rfl, hp2⟩; have F3 := hide hp1; have M3 := hide hp2; clear hp1 hp2))
            exact ⟨rfl, RP.trans F1.out O1.out (RP.trans F2.out O2.out (⟨F3.out, rfl, M3.out⟩))⟩
          | true =>
            rw [hok] at C3
            simp only [if_true] at C3 ⊢
            have C4 := hide (fun w m (h1 : RM w r g m { s2 with q := q0 }) (hl : q2.held.length ≤ 8192) => takeText_r h1 (mkB q2.held) (by rw [← bl_length, bl_mkB]; omega) (show s2.n ≤ 199980 by omega))
            clear hok hd hk1 hk11 hn hq hnn hww hkk
            obtain ⟨o4, ho4⟩ : ∃ o, textS { s2 with q := q0 } (mkB q2.held) = o := ⟨_, rfl⟩
            rw [ho4] at C4 ⊢
            clear ho4
            cases o4 with
            | inl E =>
              go_enter Tryz.func43, Tryz.ntmps43
              go_wp2_with (first
                | (go_at_call 76; refine C0.out.mono ?_; rintro q w1 ⟨hp1, rfl, m1, hp2, hp3⟩; have F1 : Hid (RF g m W w1) := F0.out.trans (OM.refl _ _) hp1; have M1 := hide hp2; have O1 : Hid (OM W m m1) := (OM.refl _ _).trans hp3 F0.out.below.size; clear hp1 hp2 hp3; have e4 : w1.cell? ⟨r, 4, none⟩ = some (.int .i64 s2.q.place) := (M1.out.rd.cell 4).trans rfl)
                | (go_at_call 77; refine (C2.out _ _ M1.out).mono ?_; rintro q w2 ⟨hp1, rfl, m2, hp2, hp3⟩; have F2 := hide hp1; have M2 := hide hp2; have O2 := hide hp3; clear hp1 hp2 hp3)
                | (go_at_call 78; refine (C3.out _ _ M2.out).mono ?_; rintro q w3 ⟨hp1, rfl, m3, hp2, hp3⟩; have F3 := hide hp1; have M3 := hide hp2; have O3 := hide hp3; clear hp1 hp2 hp3; have hl3 : Hid (q2.held.length ≤ 8192) := M3.out.qf.len; have Z3 := hide M3.out.z5; have x3_4 : w3.frozen? ⟨r, 4, none⟩ = false := M3.out.rd.frz 4; have y3_4 : w3.cell? ⟨r, 4, none⟩ = some (.int .i64 q2.place) := (M3.out.rd.cell 4).trans rfl; have x3_5 : w3.frozen? ⟨r, 5, none⟩ = false := M3.out.rd.frz 5; have y3_5 : w3.cell? ⟨r, 5, none⟩ = some (m3.held) := (M3.out.rd.cell 5).trans rfl; have x3_6 : w3.frozen? ⟨r, 6, none⟩ = false := M3.out.rd.frz 6; have y3_6 : w3.cell? ⟨r, 6, none⟩ = some (.int .i64 q2.digits) := (M3.out.rd.cell 6).trans rfl; have x3_7 : w3.frozen? ⟨r, 7, none⟩ = false := M3.out.rd.frz 7; have y3_7 : w3.cell? ⟨r, 7, none⟩ = some (.int .i64 q2.number) := (M3.out.rd.cell 7).trans rfl; have x3_8 : w3.frozen? ⟨r, 8, none⟩ = false := M3.out.rd.frz 8; have y3_8 : w3.cell? ⟨r, 8, none⟩ = some (.int .i64 q2.high) := (M3.out.rd.cell 8).trans rfl)
                | (go_at_call 79; refine (C4.out _ _ Z3.out.1 hl3.out).mono ?_; rintro q w4 ⟨hp1, rfl, hp2⟩; have F4 := hide hp1; have M4 := hide hp2; clear hp1 hp2))
              exact ⟨rfl, RP.trans F1.out O1.out (RP.trans F2.out O2.out (RP.trans F3.out O3.out (RP.trans Z3.out.2.1 Z3.out.2.2 (⟨F4.out, rfl, M4.out⟩))))⟩
            | inr x4 =>
              go_enter Tryz.func43, Tryz.ntmps43
              go_wp2_with (first
                | (go_at_call 76; refine C0.out.mono ?_; rintro q w1 ⟨hp1, rfl, m1, hp2, hp3⟩; have F1 : Hid (RF g m W w1) := F0.out.trans (OM.refl _ _) hp1; have M1 := hide hp2; have O1 : Hid (OM W m m1) := (OM.refl _ _).trans hp3 F0.out.below.size; clear hp1 hp2 hp3; have e4 : w1.cell? ⟨r, 4, none⟩ = some (.int .i64 s2.q.place) := (M1.out.rd.cell 4).trans rfl)
                | (go_at_call 77; refine (C2.out _ _ M1.out).mono ?_; rintro q w2 ⟨hp1, rfl, m2, hp2, hp3⟩; have F2 := hide hp1; have M2 := hide hp2; have O2 := hide hp3; clear hp1 hp2 hp3)
                | (go_at_call 78; refine (C3.out _ _ M2.out).mono ?_; rintro q w3 ⟨hp1, rfl, m3, hp2, hp3⟩; have F3 := hide hp1; have M3 := hide hp2; have O3 := hide hp3; clear hp1 hp2 hp3; have hl3 : Hid (q2.held.length ≤ 8192) := M3.out.qf.len; have Z3 := hide M3.out.z5; have x3_4 : w3.frozen? ⟨r, 4, none⟩ = false := M3.out.rd.frz 4; have y3_4 : w3.cell? ⟨r, 4, none⟩ = some (.int .i64 q2.place) := (M3.out.rd.cell 4).trans rfl; have x3_5 : w3.frozen? ⟨r, 5, none⟩ = false := M3.out.rd.frz 5; have y3_5 : w3.cell? ⟨r, 5, none⟩ = some (m3.held) := (M3.out.rd.cell 5).trans rfl; have x3_6 : w3.frozen? ⟨r, 6, none⟩ = false := M3.out.rd.frz 6; have y3_6 : w3.cell? ⟨r, 6, none⟩ = some (.int .i64 q2.digits) := (M3.out.rd.cell 6).trans rfl; have x3_7 : w3.frozen? ⟨r, 7, none⟩ = false := M3.out.rd.frz 7; have y3_7 : w3.cell? ⟨r, 7, none⟩ = some (.int .i64 q2.number) := (M3.out.rd.cell 7).trans rfl; have x3_8 : w3.frozen? ⟨r, 8, none⟩ = false := M3.out.rd.frz 8; have y3_8 : w3.cell? ⟨r, 8, none⟩ = some (.int .i64 q2.high) := (M3.out.rd.cell 8).trans rfl)
                | (go_at_call 79; refine (C4.out _ _ Z3.out.1 hl3.out).mono ?_; rintro q w4 ⟨hp1, rfl, m4, hp2, hp3⟩; have F4 := hide hp1; have M4 := hide hp2; have O4 := hide hp3; clear hp1 hp2 hp3))
              go_end0
              exact RP.trans F1.out O1.out (RP.trans F2.out O2.out (RP.trans F3.out O3.out (RP.trans Z3.out.2.1 Z3.out.2.2 (⟨F4.out, rfl, m4, M4.out, O4.out⟩))))
        · simp only
          clear hd hk1 hk11 hn hq hnn hww hkk
          go_enter Tryz.func43, Tryz.ntmps43
          go_wp2_with (first
            | (go_at_call 76; refine C0.out.mono ?_; rintro q w1 ⟨hp1, rfl, m1, hp2, hp3⟩; have F1 : Hid (RF g m W w1) := F0.out.trans (OM.refl _ _) hp1; have M1 := hide hp2; have O1 : Hid (OM W m m1) := (OM.refl _ _).trans hp3 F0.out.below.size; clear hp1 hp2 hp3; have e4 : w1.cell? ⟨r, 4, none⟩ = some (.int .i64 s2.q.place) := (M1.out.rd.cell 4).trans rfl)
            | (go_at_call 77; refine (C2.out _ _ M1.out).mono ?_; rintro q w2 ⟨hp1, rfl, m2, hp2, hp3⟩; have F2 := hide hp1; have M2 := hide hp2; have O2 := hide hp3; clear hp1 hp2 hp3))
          go_end0
          exact RP.trans F1.out O1.out (⟨F2.out, rfl, m2, M2.out, O2.out⟩)
end
end Go.Proofs.YtoaacfhjejmbnaaGreatDoor
/- json's Reader: take walked (genread6.py writes this). -/
namespace Go.Proofs.YtoaacfhjejmbnaaGreatDoor
open Go.RowKit
set_option linter.unusedSimpArgs false
set_option linter.unusedVariables false
section
variable {W W1 W2 : World} {r : Nat} {g : Gv} {m : Mv} {st : St}
theorem take_r (h : RM W r g m st) (c : UInt8) (hd : st.q.place = 3 → st.q.digits < 4) (hk1 : st.wait = 1 → st.ks ≠ []) (hk11 : st.wait = 11 → st.ks ≠ []) (hn : st.n ≤ 199900) (ht : st.total ≤ 1000000) : Calls Tryz.prog 43 #[.pointer (some ⟨r, 0, none⟩), .int .u8 c.toNat] W fun q w' => RP W r g m (takeS st c) q w' := by
  unfold takeS
  cases hp : st.passed with
  | true =>
    rw [if_pos (Or.inl rfl)]
    have := take_a h c hd hk1 hk11 hn ht hp
    simp only [hp] at this
    exact this
  | false =>
    by_cases hb : 65536 < st.total + 1
    · rw [if_pos (Or.inr hb)]
      have := take_b h c hd hk1 hk11 hn ht hp hb
      simp only [hp] at this
      exact this
    · rw [if_neg (fun o => o.elim (fun q => by cases q) hb)]
      have := take_c h c hd hk1 hk11 hn ht hp (by omega)
      simp only [hp] at this
      exact this
end
end Go.Proofs.YtoaacfhjejmbnaaGreatDoor
/- json's Reader: what holds of it all along, with no memory in sight. -/
namespace Go.Proofs.YtoaacfhjejmbnaaGreatDoor
open Go.RowKit
set_option linter.unusedSimpArgs false
set_option linter.unusedVariables false
structure Wk (st : St) : Prop where
  k1 : st.wait = 1 → st.ks ≠ []
  k11 : st.wait = 11 → st.ks ≠ []
  b1 : st.behind ≠ 1
  b11 : st.behind ≠ 11
/-- What holds of a reader between two bytes. -/
structure Wf (st : St) : Prop where
  wk : Wk st
  dig : st.q.place = 3 → st.q.digits < 4
  n : st.n ≤ 3 * st.total
  tot : st.total ≤ 65536
theorem bnd_inr {α β γ : Type} {o : Sum α β} {f : β → Sum α γ} {z : γ} (h : bnd o f = .inr z) : ∃ y, o = .inr y ∧ f y = .inr z := by
  cases o with
  | inl E => cases h
  | inr y => exact ⟨y, rfl, h⟩
theorem endW_1 (ks : List Int) : endW ks ≠ 1 := by
  unfold endW
  split
  · decide
  · split <;> decide
theorem endW_11 {ks : List Int} (h : endW ks = 11) : ks ≠ [] := by
  unfold endW at h
  split at h
  · cases h
  · split at h
    · rename_i h9; exact lastK_ne h9 (by decide)
    · cases h
section
variable {st x y : St}
theorem wk_endV (b1 : st.behind ≠ 1) (b11 : st.behind ≠ 11) : Wk (endV st) := ⟨fun h => absurd h (endW_1 _), fun h => endW_11 h, b1, b11⟩
theorem wk_w (a : Nat) (h1 : a ≠ 1) (h11 : a ≠ 11) (b1 : st.behind ≠ 1) (b11 : st.behind ≠ 11) : Wk { st with wait := a } := ⟨fun h => absurd h h1, fun h => absurd h h11, b1, b11⟩
/-- What a method leaves: the quoted text, the bytes that came; and how many events it tells at most. -/
structure Nx (st x : St) (d : Nat) : Prop where
  wk : Wk x
  q : x.q = st.q
  n : x.n ≤ st.n + d
  tot : x.total = st.total
theorem tell_nx {e : Hd} (h : tellS st e = .inr x) : x.n = st.n + 1 ∧ x.ks = st.ks ∧ x.behind = st.behind ∧ x.q = st.q ∧ x.total = st.total := by
  obtain ⟨a1, a2, _, a4, a5, _, a7⟩ := tellS_n h
  exact ⟨a1, a2, a4, a5, a7⟩
theorem begin_nx {e : Hd} (h : beginS st e = .inr x) : x.n = st.n + 1 ∧ x.ks ≠ [] ∧ x.behind = st.behind ∧ x.q = st.q ∧ x.total = st.total := by
  unfold beginS at h
  obtain ⟨y, hy, he⟩ := bnd_inr h
  cases he
  obtain ⟨a1, a2, a4, a5, a7⟩ := tell_nx hy
  exact ⟨a1, by simp, a4, a5, a7⟩
theorem end_nx (h : endS st = .inr x) : x.n = st.n + 1 ∧ x.behind = st.behind ∧ x.q = st.q ∧ x.total = st.total := by
  unfold endS at h
  obtain ⟨y, hy, he⟩ := bnd_inr h
  cases he
  obtain ⟨a1, a2, a4, a5, a7⟩ := tell_nx hy
  exact ⟨a1, a4, a5, a7⟩
theorem name_nx {s : ByteArray} (h : nameS st s = .inr x) : Nx st x 1 := by
  unfold nameS at h
  obtain ⟨y, hy, he⟩ := bnd_inr h
  cases he
  obtain ⟨a1, a2, a4, a5, a7⟩ := tell_nx hy
  exact ⟨⟨(fun h => by (cases h)), (fun h => by (cases h)), (by show (0 : Nat) ≠ 1; decide), (by show (0 : Nat) ≠ 11; decide)⟩, a5, Nat.le_of_eq a1, a7⟩
theorem rec_nx {s : ByteArray} (h : recS st s = .inr x) : Nx st x 2 := by
  unfold recS at h
  obtain ⟨y, hy, he⟩ := bnd_inr h
  obtain ⟨a1, a2, a4, a5, a7⟩ := begin_nx hy
  have k := name_nx he
  exact ⟨k.wk, k.q.trans a5, by have := k.n; simp only at a1; omega, k.tot.trans a7⟩
theorem first_nx {s : ByteArray} (h : firstS st s = .inr x) : Nx st x 2 := by
  rw [firstS_eq] at h
  split at h
  · cases h; exact ⟨⟨(fun h => by (cases h)), (fun h => by (cases h)), by show (6 : Nat) ≠ 1; decide, by show (6 : Nat) ≠ 11; decide⟩, rfl, Nat.le_add_right _ _, rfl⟩
  split at h
  · cases h; exact ⟨⟨(fun h => by (cases h)), (fun h => by (cases h)), by show (7 : Nat) ≠ 1; decide, by show (7 : Nat) ≠ 11; decide⟩, rfl, Nat.le_add_right _ _, rfl⟩
  split at h
  · cases h; exact ⟨⟨(fun h => by (cases h)), (fun h => by (cases h)), by show (8 : Nat) ≠ 1; decide, by show (8 : Nat) ≠ 11; decide⟩, rfl, Nat.le_add_right _ _, rfl⟩
  split at h
  · split at h
    · exact rec_nx h
    · cases h
  · exact rec_nx h
theorem tellW_nx (hw : Wk st) {e : Hd} {a : Nat} (h1 : a ≠ 1) (h11 : a ≠ 11) (h : (bnd (tellS st e) fun x => .inr { x with wait := a }) = .inr x) : Nx st x 2 := by
  obtain ⟨y, hy, he⟩ := bnd_inr h
  cases he
  obtain ⟨a1, a2, a4, a5, a7⟩ := tell_nx hy
  exact ⟨wk_w a h1 h11 (by rw [a4]; exact hw.b1) (by rw [a4]; exact hw.b11), a5, by show y.n ≤ _; omega, a7⟩
theorem tellV_nx (hw : Wk st) {e : Hd} (h : (bnd (tellS st e) fun x => .inr (endV x)) = .inr x) : Nx st x 2 := by
  obtain ⟨y, hy, he⟩ := bnd_inr h
  cases he
  obtain ⟨a1, a2, a4, a5, a7⟩ := tell_nx hy
  exact ⟨wk_endV (by rw [a4]; exact hw.b1) (by rw [a4]; exact hw.b11), a5, by show y.n ≤ _; omega, a7⟩
theorem endV_nx (hw : Wk st) (h : (bnd (endS st) fun x => .inr (endV x)) = .inr x) : Nx st x 2 := by
  obtain ⟨y, hy, he⟩ := bnd_inr h
  cases he
  obtain ⟨a1, a4, a5, a7⟩ := end_nx hy
  exact ⟨wk_endV (by rw [a4]; exact hw.b1) (by rw [a4]; exact hw.b11), a5, by show y.n ≤ _; omega, a7⟩
theorem text_nx (hw : Wk st) {s : ByteArray} (h : textS st s = .inr x) : Nx st x 2 := by
  unfold textS at h
  split at h
  · exact tellV_nx hw h
  split at h
  · exact first_nx h
  split at h
  · have := name_nx h; exact ⟨this.wk, this.q, Nat.le_succ_of_le this.n, this.tot⟩
  split at h
  · unfold floatS at h
    split at h
    · exact tellW_nx hw (by decide) (by decide) h
    · cases h
  split at h
  · unfold bytesS at h
    split at h
    · cases h
    · exact tellW_nx hw (by decide) (by decide) h
  split at h
  · obtain ⟨y, hy, he⟩ := bnd_inr h
    cases he
    obtain ⟨a1, a2, a4, a5, a7⟩ := begin_nx hy
    exact ⟨wk_w 10 (by decide) (by decide) (by rw [a4]; exact hw.b1) (by rw [a4]; exact hw.b11), a5, by show y.n ≤ _; omega, a7⟩
  · cases h
theorem mark_nx (hw : Wk st) {c : UInt8} (h : markS st c = .inr x) : Wk x ∧ (x.q = st.q ∨ x.q = { st.q with place := 1 }) ∧ x.n ≤ st.n + 2 ∧ x.total = st.total := by
  have nx : ∀ {x : St}, Nx st x 2 → Wk x ∧ (x.q = st.q ∨ x.q = { st.q with place := 1 }) ∧ x.n ≤ st.n + 2 ∧ x.total = st.total := fun k => ⟨k.wk, Or.inl k.q, k.n, k.tot⟩
  unfold markS at h
  split at h
  · cases h; exact ⟨⟨hw.k1, hw.k11, hw.b1, hw.b11⟩, Or.inr rfl, Nat.le_add_right _ _, rfl⟩
  split at h
  · unfold openL at h
    split at h
    · obtain ⟨y, hy, he⟩ := bnd_inr h
      cases he
      obtain ⟨a1, a2, a4, a5, a7⟩ := begin_nx hy
      exact ⟨⟨fun _ => a2, fun _ => a2, by show y.behind ≠ 1; rw [a4]; exact hw.b1, by show y.behind ≠ 11; rw [a4]; exact hw.b11⟩, Or.inl a5, by show y.n ≤ _; omega, a7⟩
    split at h
    · cases h; exact ⟨wk_w 9 (by decide) (by decide) hw.b1 hw.b11, Or.inl rfl, Nat.le_add_right _ _, rfl⟩
    · cases h
  split at h
  · unfold closeL at h
    split at h
    · exact nx (endV_nx hw h)
    split at h
    · obtain ⟨y, hy, he⟩ := bnd_inr h
      cases he
      obtain ⟨a1, a4, a5, a7⟩ := end_nx hy
      exact ⟨wk_w 12 (by decide) (by decide) (by rw [a4]; exact hw.b1) (by rw [a4]; exact hw.b11), Or.inl a5, by show y.n ≤ _; omega, a7⟩
    · cases h
  split at h
  · unfold openO at h
    split at h
    · cases h; exact ⟨wk_w 3 (by decide) (by decide) hw.b1 hw.b11, Or.inl rfl, Nat.le_add_right _ _, rfl⟩
    · cases h
  split at h
  · unfold closeO at h
    split at h
    · obtain ⟨y, hy, he⟩ := bnd_inr h
      obtain ⟨z, hz, he⟩ := bnd_inr he
      cases he
      obtain ⟨a1, a2, a4, a5, a7⟩ := begin_nx hy
      obtain ⟨c1, c4, c5, c7⟩ := end_nx hz
      exact ⟨wk_endV (by rw [c4, a4]; exact hw.b1) (by rw [c4, a4]; exact hw.b11), Or.inl (c5.trans a5), by show z.n ≤ _; omega, c7.trans a7⟩
    split at h
    · exact nx (endV_nx hw h)
    split at h
    · cases h; exact ⟨wk_endV hw.b1 hw.b11, Or.inl rfl, Nat.le_add_right _ _, rfl⟩
    · cases h
  split at h
  · unfold commaS at h
    split at h
    · cases h; exact ⟨wk_w 4 (by decide) (by decide) hw.b1 hw.b11, Or.inl rfl, Nat.le_add_right _ _, rfl⟩
    split at h
    · cases h; exact ⟨wk_w 0 (by decide) (by decide) hw.b1 hw.b11, Or.inl rfl, Nat.le_add_right _ _, rfl⟩
    · cases h
  split at h
  · unfold colonS at h
    split at h
    · cases h; exact ⟨wk_w st.behind hw.b1 hw.b11 hw.b1 hw.b11, Or.inl rfl, Nat.le_add_right _ _, rfl⟩
    · cases h
  · cases h; exact ⟨hw, Or.inl rfl, Nat.le_add_right _ _, rfl⟩
theorem takeQ_dig {q : Qa} {c : UInt8} {z : Value × Qa} (hd : q.place = 3 → q.digits < 4) (h : takeQ q c = .inr z) : z.2.place = 3 → z.2.digits < 4 := by
  unfold takeQ at h
  split at h
  · unfold uescQ at h
    split at h
    · simp only [retQ] at h; cases h; intro _; show (0 : Nat) < 4; decide
    split at h
    · cases h
    split at h
    · cases h
    split at h
    · simp only [retQ] at h; cases h; intro h; cases h
    · cases h
  split at h
  · rename_i hp
    have hd := hd hp
    unfold digQ at h
    split at h
    · cases h
    · simp only at h
      split at h
      · split at h
        · cases h
        · simp only [retQ] at h; cases h; intro h; cases h
      · simp only [retQ] at h; cases h; intro _; show q.digits + 1 < 4; omega
  · rename_i h2 h3
    unfold plainQ at h
    split at h
    · cases h; intro h; cases h
    split at h
    · cases h
    split at h
    · cases h; exact fun h => absurd h h3
    split at h
    · cases h; exact fun h => absurd h h3
    · cases h
theorem takeS_wf (hw : Wf st) {c : UInt8} (h : takeS st c = .inr x) : Wf x := by
  unfold takeS at h
  obtain ⟨s2, h2, hg⟩ := bnd_inr h
  have k2 : s2.n = st.n ∧ s2.ks = st.ks ∧ s2.wait = st.wait ∧ s2.q = st.q ∧ s2.behind = st.behind ∧ s2.total = st.total + 1 ∧ st.total + 1 ≤ 65536 := by
    split at h2
    · rename_i ho
      unfold passS at h2
      split at h2
      · cases h2
      · rename_i h16
        cases h2
        simp only at h16
        exact ⟨rfl, rfl, rfl, rfl, rfl, rfl, by omega⟩
    · rename_i ho
      cases h2
      exact ⟨rfl, rfl, rfl, rfl, rfl, rfl, by have := mt Or.inr ho; omega⟩
  obtain ⟨a1, a2, a3, a4, a5, a6, a7⟩ := k2
  have wk2 : Wk s2 := ⟨by rw [a3, a2]; exact hw.wk.k1, by rw [a3, a2]; exact hw.wk.k11, by rw [a5]; exact hw.wk.b1, by rw [a5]; exact hw.wk.b11⟩
  have hn := hw.n
  unfold goS at hg
  split at hg
  · unfold quoS at hg
    obtain ⟨z, hz, he⟩ := bnd_inr hg
    have hdz := takeQ_dig (by rw [a4]; exact hw.dig) hz
    split at he
    · obtain ⟨u, hu, he⟩ := bnd_inr he
      have k := text_nx (st := { s2 with q := q0 }) ⟨wk2.k1, wk2.k11, wk2.b1, wk2.b11⟩ he
      refine ⟨k.wk, by (rw [k.q]; intro h; cases h), ?_, ?_⟩
      · have := k.n; rw [k.tot]; show x.n ≤ 3 * s2.total; simp only at this; omega
      · rw [k.tot]; show s2.total ≤ _; omega
    · cases he
      exact ⟨⟨wk2.k1, wk2.k11, wk2.b1, wk2.b11⟩, hdz, by show s2.n ≤ 3 * s2.total; omega, by show s2.total ≤ _; omega⟩
  · split at hg
    · obtain ⟨z, hz, he⟩ := bnd_inr hg
      obtain ⟨e1, e2, e3, e4, e5, e6⟩ := facts_endWordS hz wk2.k1 wk2.k11
      obtain ⟨m1, m2, m3, m4⟩ := mark_nx ⟨e2, e3, by rw [e5]; exact wk2.b1, by rw [e5]; exact wk2.b11⟩ he
      refine ⟨m1, ?_, by rw [m4, e6]; omega, by rw [m4, e6]; omega⟩
      rcases m2 with m2 | m2
      · rw [m2, e4, a4]; exact hw.dig
      · rw [m2]; intro h; cases h
    · unfold holdS at hg
      split at hg
      · cases hg
      · cases hg
        exact ⟨⟨wk2.k1, wk2.k11, wk2.b1, wk2.b11⟩, by show s2.q.place = 3 → _; rw [a4]; exact hw.dig, by show s2.n ≤ 3 * s2.total; omega, by show s2.total ≤ _; omega⟩
theorem st0_wf : Wf st0 := ⟨⟨(fun h => by (cases h)), (fun h => by (cases h)), by decide, by decide⟩, (fun h => by (cases h)), by decide, by decide⟩
/-- Bytes taken, one after another. -/
def feedS (st : St) : List UInt8 → Sum Int St
  | [] => .inr st
  | c :: l => bnd (takeS st c) fun x => feedS x l
theorem feedS_snoc (st : St) (l : List UInt8) (c : UInt8) : feedS st (l ++ [c]) = bnd (feedS st l) fun x => takeS x c := by
  induction l generalizing st with
  | nil =>
    show bnd (takeS st c) (fun x => .inr x) = takeS st c
    cases takeS st c <;> rfl
  | cons a l ih =>
    simp only [List.cons_append, feedS]
    cases takeS st a with
    | inl E => rfl
    | inr y => exact ih y
theorem feedS_app (st : St) (a b : List UInt8) : feedS st (a ++ b) = bnd (feedS st a) fun x => feedS x b := by
  induction a generalizing st with
  | nil => rfl
  | cons c l ih =>
    simp only [List.cons_append, feedS]
    cases takeS st c with
    | inl E => rfl
    | inr y => exact ih y
theorem feedS_wf (hw : Wf st) : ∀ {l : List UInt8} {x : St}, feedS st l = .inr x → Wf x := by
  intro l
  induction l generalizing st with
  | nil => intro x h; cases h; exact hw
  | cons c l ih =>
    intro x h
    simp only [feedS] at h
    obtain ⟨y, hy, he⟩ := bnd_inr h
    exact ih (takeS_wf hw hy) he
end
end Go.Proofs.YtoaacfhjejmbnaaGreatDoor
