/- Merged by program: KtWord. -/
import Derived.Test.YtoaacfhjejmbnaaGreatDoorZm33
import Derived.Test.YtoaacfhjejmbnaaGreatDoorZm34
/- json's Reader: takeWord, endWord walked (genread4.py writes this). -/
namespace Go.Proofs.YtoaacfhjejmbnaaGreatDoor
open Go.RowKit
set_option linter.unusedSimpArgs false
set_option linter.unusedVariables false
section
variable {W W1 W2 : World} {r : Nat} {g : Gv} {m : Mv} {st : St}
theorem zFl (b : Bool) : EvZ (evFlag b) := ⟨by show (ByteArray.size ⟨#[]⟩) ≤ _; decide, by show (ByteArray.size ⟨#[]⟩) ≤ _; decide, rfl⟩
theorem wordE_other {s : ByteArray} (h1 : ¬ s = nullB) (h2 : ¬ s = trueB) (h3 : ¬ s = falseB) : wordE st s = numS st s := by
  unfold wordE
  rw [if_neg h1, if_neg h2, if_neg h3]
set_option maxHeartbeats 4000000 in
set_option maxRecDepth 100000 in
theorem takeWord_r (h : RM W r g m st) (s : ByteArray) (hs : s.size ≤ 100000) (hn : st.n ≤ 199980) : Calls Tryz.prog 122 #[.pointer (some ⟨r, 0, none⟩), .string s] W fun x w' => RP W r g m (wordS st s) x w' := by
  have H := hide h
  have c9 : W.cell? ⟨r, 9, none⟩ = some (.int .i64 st.wait) := (h.rd.cell 9).trans rfl
  have f9 : W.frozen? ⟨r, 9, none⟩ = false := h.rd.frz 9
  clear h
  unfold wordS
  by_cases hw0 : st.wait = 0
  · rw [if_pos (Or.inl hw0)]
    rw [hw0] at c9
    clear hw0
    by_cases h1 : s = nullB
    · have hE : wordE st s = .inr (zr 1, st) := by
        unfold wordE
        rw [if_pos h1]
      rw [hE]
      subst h1
      simp only [bnd]
      clear hE hs
      simp only [nullB]
      have M0 := H
      have C1 := hide (fun w m (h1 : RM w r g m st) => tell_q h1 (zr 1) (z1) (by omega))
      cases hq1 : tellS st (zr 1) with
      | inl E =>
        rw [hq1] at C1
        clear hq1 hn 
        try simp only [bnd]
        try simp only [evs, zr, evE, evN, evNum, evFlag, evText, evFloat, evBytes, evTag] at C1
        go_enter Tryz.func122, Tryz.ntmps122
        go_wp2_with (go_at_call 114; refine (C1.out _ _ M0.out).mono ?_; rintro q w1 ⟨hp1, rfl, hp2⟩; have F1 := hide hp1; have M1 := hide hp2; clear hp1 hp2)
        exact ⟨rfl, ⟨F1.out, rfl, M1.out⟩⟩
      | inr x1 =>
        rw [hq1] at C1
        try simp only [bnd]
        have N1 := facts_tellS hq1
        clear hq1
        have C2 := hide (fun w m (h1 : RM w r g m x1) => endValue_r h1 (by have := N1.1; omega))
        obtain ⟨x2, hx2⟩ : ∃ x, endV x1 = x := ⟨_, rfl⟩
        rw [hx2] at C2 ⊢
        clear hx2
        clear  hn N1
        try simp only [evs, zr, evE, evN, evNum, evFlag, evText, evFloat, evBytes, evTag] at C1 C2
        go_enter Tryz.func122, Tryz.ntmps122
        go_wp2_with (first
          | (go_at_call 114; refine (C1.out _ _ M0.out).mono ?_; rintro q w1 ⟨hp1, rfl, m1, hp2, hp3⟩; have F1 := hide hp1; have M1 := hide hp2; have O1 := hide hp3; clear hp1 hp2 hp3; have d9 := (M1.out.rd.cell 9).trans rfl; have g9 : w1.frozen? ⟨r, 9, none⟩ = false := M1.out.rd.frz 9; have d10 := (M1.out.rd.cell 10).trans rfl; have g10 : w1.frozen? ⟨r, 10, none⟩ = false := M1.out.rd.frz 10; simp only [St.rv] at d9 d10)
          | (go_at_call 115; refine (C2.out _ _ M1.out).mono ?_; rintro q w2 ⟨hp1, rfl, m2, hp2, hp3⟩; have F2 := hide hp1; have M2 := hide hp2; have O2 := hide hp3; clear hp1 hp2 hp3; have d9 := (M2.out.rd.cell 9).trans rfl; have g9 : w2.frozen? ⟨r, 9, none⟩ = false := M2.out.rd.frz 9; have d10 := (M2.out.rd.cell 10).trans rfl; have g10 : w2.frozen? ⟨r, 10, none⟩ = false := M2.out.rd.frz 10; simp only [St.rv] at d9 d10))
        go_end0
        exact RP.trans F1.out O1.out (⟨F2.out, rfl, m2, M2.out, O2.out⟩)
    by_cases h2 : s = trueB
    · have hE : wordE st s = .inr (evFlag true, st) := by
        unfold wordE
        rw [if_neg h1, if_pos h2]
      rw [hE]
      subst h2
      simp only [bnd]
      clear hE hs h1
      simp only [trueB]
      have M0 := H
      have C1 := hide (fun w m (h1 : RM w r g m st) => tell_q h1 (evFlag true) (zFl true) (by omega))
      cases hq1 : tellS st (evFlag true) with
      | inl E =>
        rw [hq1] at C1
        clear hq1 hn 
        try simp only [bnd]
        try simp only [evs, zr, evE, evN, evNum, evFlag, evText, evFloat, evBytes, evTag] at C1
        go_enter Tryz.func122, Tryz.ntmps122
        go_wp2_with (go_at_call 114; refine (C1.out _ _ M0.out).mono ?_; rintro q w1 ⟨hp1, rfl, hp2⟩; have F1 := hide hp1; have M1 := hide hp2; clear hp1 hp2)
        exact ⟨rfl, ⟨F1.out, rfl, M1.out⟩⟩
      | inr x1 =>
        rw [hq1] at C1
        try simp only [bnd]
        have N1 := facts_tellS hq1
        clear hq1
        have C2 := hide (fun w m (h1 : RM w r g m x1) => endValue_r h1 (by have := N1.1; omega))
        obtain ⟨x2, hx2⟩ : ∃ x, endV x1 = x := ⟨_, rfl⟩
        rw [hx2] at C2 ⊢
        clear hx2
        clear  hn N1
        try simp only [evs, zr, evE, evN, evNum, evFlag, evText, evFloat, evBytes, evTag] at C1 C2
        go_enter Tryz.func122, Tryz.ntmps122
        go_wp2_with (first
          | (go_at_call 114; refine (C1.out _ _ M0.out).mono ?_; rintro q w1 ⟨hp1, rfl, m1, hp2, hp3⟩; have F1 := hide hp1; have M1 := hide hp2; have O1 := hide hp3; clear hp1 hp2 hp3; have d9 := (M1.out.rd.cell 9).trans rfl; have g9 : w1.frozen? ⟨r, 9, none⟩ = false := M1.out.rd.frz 9; have d10 := (M1.out.rd.cell 10).trans rfl; have g10 : w1.frozen? ⟨r, 10, none⟩ = false := M1.out.rd.frz 10; simp only [St.rv] at d9 d10)
          | (go_at_call 115; refine (C2.out _ _ M1.out).mono ?_; rintro q w2 ⟨hp1, rfl, m2, hp2, hp3⟩; have F2 := hide hp1; have M2 := hide hp2; have O2 := hide hp3; clear hp1 hp2 hp3; have d9 := (M2.out.rd.cell 9).trans rfl; have g9 : w2.frozen? ⟨r, 9, none⟩ = false := M2.out.rd.frz 9; have d10 := (M2.out.rd.cell 10).trans rfl; have g10 : w2.frozen? ⟨r, 10, none⟩ = false := M2.out.rd.frz 10; simp only [St.rv] at d9 d10))
        go_end0
        exact RP.trans F1.out O1.out (⟨F2.out, rfl, m2, M2.out, O2.out⟩)
    by_cases h3 : s = falseB
    · have hE : wordE st s = .inr (evFlag false, st) := by
        unfold wordE
        rw [if_neg h1, if_neg h2, if_pos h3]
      rw [hE]
      subst h3
      simp only [bnd]
      clear hE hs h1 h2
      simp only [falseB]
      have M0 := H
      have C1 := hide (fun w m (h1 : RM w r g m st) => tell_q h1 (evFlag false) (zFl false) (by omega))
      cases hq1 : tellS st (evFlag false) with
      | inl E =>
        rw [hq1] at C1
        clear hq1 hn 
        try simp only [bnd]
        try simp only [evs, zr, evE, evN, evNum, evFlag, evText, evFloat, evBytes, evTag] at C1
        go_enter Tryz.func122, Tryz.ntmps122
        go_wp2_with (go_at_call 114; refine (C1.out _ _ M0.out).mono ?_; rintro q w1 ⟨hp1, rfl, hp2⟩; have F1 := hide hp1; have M1 := hide hp2; clear hp1 hp2)
        exact ⟨rfl, ⟨F1.out, rfl, M1.out⟩⟩
      | inr x1 =>
        rw [hq1] at C1
        try simp only [bnd]
        have N1 := facts_tellS hq1
        clear hq1
        have C2 := hide (fun w m (h1 : RM w r g m x1) => endValue_r h1 (by have := N1.1; omega))
        obtain ⟨x2, hx2⟩ : ∃ x, endV x1 = x := ⟨_, rfl⟩
        rw [hx2] at C2 ⊢
        clear hx2
        clear  hn N1
        try simp only [evs, zr, evE, evN, evNum, evFlag, evText, evFloat, evBytes, evTag] at C1 C2
        go_enter Tryz.func122, Tryz.ntmps122
        go_wp2_with (first
          | (go_at_call 114; refine (C1.out _ _ M0.out).mono ?_; rintro q w1 ⟨hp1, rfl, m1, hp2, hp3⟩; have F1 := hide hp1; have M1 := hide hp2; have O1 := hide hp3; clear hp1 hp2 hp3; have d9 := (M1.out.rd.cell 9).trans rfl; have g9 : w1.frozen? ⟨r, 9, none⟩ = false := M1.out.rd.frz 9; have d10 := (M1.out.rd.cell 10).trans rfl; have g10 : w1.frozen? ⟨r, 10, none⟩ = false := M1.out.rd.frz 10; simp only [St.rv] at d9 d10)
          | (go_at_call 115; refine (C2.out _ _ M1.out).mono ?_; rintro q w2 ⟨hp1, rfl, m2, hp2, hp3⟩; have F2 := hide hp1; have M2 := hide hp2; have O2 := hide hp3; clear hp1 hp2 hp3; have d9 := (M2.out.rd.cell 9).trans rfl; have g9 : w2.frozen? ⟨r, 9, none⟩ = false := M2.out.rd.frz 9; have d10 := (M2.out.rd.cell 10).trans rfl; have g10 : w2.frozen? ⟨r, 10, none⟩ = false := M2.out.rd.frz 10; simp only [St.rv] at d9 d10))
        go_end0
        exact RP.trans F1.out O1.out (⟨F2.out, rfl, m2, M2.out, O2.out⟩)
    rw [wordE_other h1 h2 h3]
    have n1 := ba_neq h1
    have n2 := ba_neq h2
    have n3 := ba_neq h3
    simp only [nullB, trueB, falseB] at n1 n2 n3
    have WZ := fun x (hx : numS st s = .inr x) => wordE_z (show wordE st s = .inr x by rw [wordE_other h1 h2 h3]; exact hx)
    clear h1 h2 h3
    have C1 := hide (number_r H.out s hs)
    cases hq1 : numS st s with
    | inl E =>
      rw [hq1] at C1
      clear hq1 hs hn WZ
      simp only [bnd]
      go_enter Tryz.func122, Tryz.ntmps122
      go_wp2_with (go_at_call 157; refine C1.out.mono ?_; rintro q w1 ⟨hp1, rfl, hp2⟩; have F1 := hide hp1; have M1 := hide hp2; clear hp1 hp2)
      exact ⟨rfl, F1.out, rfl, M1.out⟩
    | inr x1 =>
      obtain ⟨e1, y1⟩ := x1
      rw [hq1] at C1
      obtain ⟨hz1, hyn, _⟩ := WZ _ hq1
      simp only at hz1 hyn
      clear hq1 WZ hs
      simp only [bnd]
      have C2 := hide (fun w m (h1 : RM w r g m y1) => tell_q h1 e1 hz1 (by omega))
      clear hz1
      cases hq2 : tellS y1 e1 with
      | inl E =>
        rw [hq2] at C2
        clear hq2 hn hyn
        simp only [NP, evs] at C1 C2
        go_enter Tryz.func122, Tryz.ntmps122
        go_wp2_with (first | (go_at_call 157; refine C1.out.mono ?_; rintro q w1 ⟨hp1, rfl, m1, hp2, hp3⟩; have F1 := hide hp1; have M1 := hide hp2; have O1 := hide hp3; clear hp1 hp2 hp3) | (go_at_call 114; refine (C2.out _ _ M1.out).mono ?_; rintro q w2 ⟨hp1, rfl, hp2⟩; have F2 := hide hp1; have M2 := hide hp2; clear hp1 hp2))
        exact ⟨rfl, RP.trans F1.out O1.out ⟨F2.out, rfl, M2.out⟩⟩
      | inr x2 =>
        rw [hq2] at C2
        have N2 := facts_tellS hq2
        clear hq2
        have C3 := hide (fun w m (h1 : RM w r g m x2) => endValue_r h1 (by have := N2.1; omega))
        obtain ⟨x3, hx3⟩ : ∃ x, endV x2 = x := ⟨_, rfl⟩
        simp only at C3 ⊢
        rw [hx3] at C3 ⊢
        clear hx3 N2 hn hyn
        simp only [NP, evs] at C1 C2
        go_enter Tryz.func122, Tryz.ntmps122
        go_wp2_with (first | (go_at_call 157; refine C1.out.mono ?_; rintro q w1 ⟨hp1, rfl, m1, hp2, hp3⟩; have F1 := hide hp1; have M1 := hide hp2; have O1 := hide hp3; clear hp1 hp2 hp3) | (go_at_call 114; refine (C2.out _ _ M1.out).mono ?_; rintro q w2 ⟨hp1, rfl, m2, hp2, hp3⟩; have F2 := hide hp1; have M2 := hide hp2; have O2 := hide hp3; clear hp1 hp2 hp3; have d9 := (M2.out.rd.cell 9).trans rfl; have g9 : w2.frozen? ⟨r, 9, none⟩ = false := M2.out.rd.frz 9; have d10 := (M2.out.rd.cell 10).trans rfl; have g10 : w2.frozen? ⟨r, 10, none⟩ = false := M2.out.rd.frz 10; simp only [St.rv] at d9 d10) | (go_at_call 115; refine (C3.out _ _ M2.out).mono ?_; rintro q w3 ⟨hp1, rfl, m3, hp2, hp3⟩; have F3 := hide hp1; have M3 := hide hp2; have O3 := hide hp3; clear hp1 hp2 hp3; have d9 := (M3.out.rd.cell 9).trans rfl; have g9 : w3.frozen? ⟨r, 9, none⟩ = false := M3.out.rd.frz 9; have d10 := (M3.out.rd.cell 10).trans rfl; have g10 : w3.frozen? ⟨r, 10, none⟩ = false := M3.out.rd.frz 10; simp only [St.rv] at d9 d10))
        go_end0
        exact RP.trans F1.out O1.out (RP.trans F2.out O2.out ⟨F3.out, rfl, m3, M3.out, O3.out⟩)
  by_cases hw1 : st.wait = 1
  · rw [if_pos (Or.inr hw1)]
    rw [hw1] at c9
    clear hw0 hw1
    by_cases h1 : s = nullB
    · have hE : wordE st s = .inr (zr 1, st) := by
        unfold wordE
        rw [if_pos h1]
      rw [hE]
      subst h1
      simp only [bnd]
      clear hE hs
      simp only [nullB]
      have M0 := H
      have C1 := hide (fun w m (h1 : RM w r g m st) => tell_q h1 (zr 1) (z1) (by omega))
      cases hq1 : tellS st (zr 1) with
      | inl E =>
        rw [hq1] at C1
        clear hq1 hn 
        try simp only [bnd]
        try simp only [evs, zr, evE, evN, evNum, evFlag, evText, evFloat, evBytes, evTag] at C1
        go_enter Tryz.func122, Tryz.ntmps122
        go_wp2_with (go_at_call 114; refine (C1.out _ _ M0.out).mono ?_; rintro q w1 ⟨hp1, rfl, hp2⟩; have F1 := hide hp1; have M1 := hide hp2; clear hp1 hp2)
        exact ⟨rfl, ⟨F1.out, rfl, M1.out⟩⟩
      | inr x1 =>
        rw [hq1] at C1
        try simp only [bnd]
        have N1 := facts_tellS hq1
        clear hq1
        have C2 := hide (fun w m (h1 : RM w r g m x1) => endValue_r h1 (by have := N1.1; omega))
        obtain ⟨x2, hx2⟩ : ∃ x, endV x1 = x := ⟨_, rfl⟩
        rw [hx2] at C2 ⊢
        clear hx2
        clear  hn N1
        try simp only [evs, zr, evE, evN, evNum, evFlag, evText, evFloat, evBytes, evTag] at C1 C2
        go_enter Tryz.func122, Tryz.ntmps122
        go_wp2_with (first
          | (go_at_call 114; refine (C1.out _ _ M0.out).mono ?_; rintro q w1 ⟨hp1, rfl, m1, hp2, hp3⟩; have F1 := hide hp1; have M1 := hide hp2; have O1 := hide hp3; clear hp1 hp2 hp3; have d9 := (M1.out.rd.cell 9).trans rfl; have g9 : w1.frozen? ⟨r, 9, none⟩ = false := M1.out.rd.frz 9; have d10 := (M1.out.rd.cell 10).trans rfl; have g10 : w1.frozen? ⟨r, 10, none⟩ = false := M1.out.rd.frz 10; simp only [St.rv] at d9 d10)
          | (go_at_call 115; refine (C2.out _ _ M1.out).mono ?_; rintro q w2 ⟨hp1, rfl, m2, hp2, hp3⟩; have F2 := hide hp1; have M2 := hide hp2; have O2 := hide hp3; clear hp1 hp2 hp3; have d9 := (M2.out.rd.cell 9).trans rfl; have g9 : w2.frozen? ⟨r, 9, none⟩ = false := M2.out.rd.frz 9; have d10 := (M2.out.rd.cell 10).trans rfl; have g10 : w2.frozen? ⟨r, 10, none⟩ = false := M2.out.rd.frz 10; simp only [St.rv] at d9 d10))
        go_end0
        exact RP.trans F1.out O1.out (⟨F2.out, rfl, m2, M2.out, O2.out⟩)
    by_cases h2 : s = trueB
    · have hE : wordE st s = .inr (evFlag true, st) := by
        unfold wordE
        rw [if_neg h1, if_pos h2]
      rw [hE]
      subst h2
      simp only [bnd]
      clear hE hs h1
      simp only [trueB]
      have M0 := H
      have C1 := hide (fun w m (h1 : RM w r g m st) => tell_q h1 (evFlag true) (zFl true) (by omega))
      cases hq1 : tellS st (evFlag true) with
      | inl E =>
        rw [hq1] at C1
        clear hq1 hn 
        try simp only [bnd]
        try simp only [evs, zr, evE, evN, evNum, evFlag, evText, evFloat, evBytes, evTag] at C1
        go_enter Tryz.func122, Tryz.ntmps122
        go_wp2_with (go_at_call 114; refine (C1.out _ _ M0.out).mono ?_; rintro q w1 ⟨hp1, rfl, hp2⟩; have F1 := hide hp1; have M1 := hide hp2; clear hp1 hp2)
        exact ⟨rfl, ⟨F1.out, rfl, M1.out⟩⟩
      | inr x1 =>
        rw [hq1] at C1
        try simp only [bnd]
        have N1 := facts_tellS hq1
        clear hq1
        have C2 := hide (fun w m (h1 : RM w r g m x1) => endValue_r h1 (by have := N1.1; omega))
        obtain ⟨x2, hx2⟩ : ∃ x, endV x1 = x := ⟨_, rfl⟩
        rw [hx2] at C2 ⊢
        clear hx2
        clear  hn N1
        try simp only [evs, zr, evE, evN, evNum, evFlag, evText, evFloat, evBytes, evTag] at C1 C2
        go_enter Tryz.func122, Tryz.ntmps122
        go_wp2_with (first
          | (go_at_call 114; refine (C1.out _ _ M0.out).mono ?_; rintro q w1 ⟨hp1, rfl, m1, hp2, hp3⟩; have F1 := hide hp1; have M1 := hide hp2; have O1 := hide hp3; clear hp1 hp2 hp3; have d9 := (M1.out.rd.cell 9).trans rfl; have g9 : w1.frozen? ⟨r, 9, none⟩ = false := M1.out.rd.frz 9; have d10 := (M1.out.rd.cell 10).trans rfl; have g10 : w1.frozen? ⟨r, 10, none⟩ = false := M1.out.rd.frz 10; simp only [St.rv] at d9 d10)
          | (go_at_call 115; refine (C2.out _ _ M1.out).mono ?_; rintro q w2 ⟨hp1, rfl, m2, hp2, hp3⟩; have F2 := hide hp1; have M2 := hide hp2; have O2 := hide hp3; clear hp1 hp2 hp3; have d9 := (M2.out.rd.cell 9).trans rfl; have g9 : w2.frozen? ⟨r, 9, none⟩ = false := M2.out.rd.frz 9; have d10 := (M2.out.rd.cell 10).trans rfl; have g10 : w2.frozen? ⟨r, 10, none⟩ = false := M2.out.rd.frz 10; simp only [St.rv] at d9 d10))
        go_end0
        exact RP.trans F1.out O1.out (⟨F2.out, rfl, m2, M2.out, O2.out⟩)
    by_cases h3 : s = falseB
    · have hE : wordE st s = .inr (evFlag false, st) := by
        unfold wordE
        rw [if_neg h1, if_neg h2, if_pos h3]
      rw [hE]
      subst h3
      simp only [bnd]
      clear hE hs h1 h2
      simp only [falseB]
      have M0 := H
      have C1 := hide (fun w m (h1 : RM w r g m st) => tell_q h1 (evFlag false) (zFl false) (by omega))
      cases hq1 : tellS st (evFlag false) with
      | inl E =>
        rw [hq1] at C1
        clear hq1 hn 
        try simp only [bnd]
        try simp only [evs, zr, evE, evN, evNum, evFlag, evText, evFloat, evBytes, evTag] at C1
        go_enter Tryz.func122, Tryz.ntmps122
        go_wp2_with (go_at_call 114; refine (C1.out _ _ M0.out).mono ?_; rintro q w1 ⟨hp1, rfl, hp2⟩; have F1 := hide hp1; have M1 := hide hp2; clear hp1 hp2)
        exact ⟨rfl, ⟨F1.out, rfl, M1.out⟩⟩
      | inr x1 =>
        rw [hq1] at C1
        try simp only [bnd]
        have N1 := facts_tellS hq1
        clear hq1
        have C2 := hide (fun w m (h1 : RM w r g m x1) => endValue_r h1 (by have := N1.1; omega))
        obtain ⟨x2, hx2⟩ : ∃ x, endV x1 = x := ⟨_, rfl⟩
        rw [hx2] at C2 ⊢
        clear hx2
        clear  hn N1
        try simp only [evs, zr, evE, evN, evNum, evFlag, evText, evFloat, evBytes, evTag] at C1 C2
        go_enter Tryz.func122, Tryz.ntmps122
        go_wp2_with (first
          | (go_at_call 114; refine (C1.out _ _ M0.out).mono ?_; rintro q w1 ⟨hp1, rfl, m1, hp2, hp3⟩; have F1 := hide hp1; have M1 := hide hp2; have O1 := hide hp3; clear hp1 hp2 hp3; have d9 := (M1.out.rd.cell 9).trans rfl; have g9 : w1.frozen? ⟨r, 9, none⟩ = false := M1.out.rd.frz 9; have d10 := (M1.out.rd.cell 10).trans rfl; have g10 : w1.frozen? ⟨r, 10, none⟩ = false := M1.out.rd.frz 10; simp only [St.rv] at d9 d10)
          | (go_at_call 115; refine (C2.out _ _ M1.out).mono ?_; rintro q w2 ⟨hp1, rfl, m2, hp2, hp3⟩; have F2 := hide hp1; have M2 := hide hp2; have O2 := hide hp3; clear hp1 hp2 hp3; have d9 := (M2.out.rd.cell 9).trans rfl; have g9 : w2.frozen? ⟨r, 9, none⟩ = false := M2.out.rd.frz 9; have d10 := (M2.out.rd.cell 10).trans rfl; have g10 : w2.frozen? ⟨r, 10, none⟩ = false := M2.out.rd.frz 10; simp only [St.rv] at d9 d10))
        go_end0
        exact RP.trans F1.out O1.out (⟨F2.out, rfl, m2, M2.out, O2.out⟩)
    rw [wordE_other h1 h2 h3]
    have n1 := ba_neq h1
    have n2 := ba_neq h2
    have n3 := ba_neq h3
    simp only [nullB, trueB, falseB] at n1 n2 n3
    have WZ := fun x (hx : numS st s = .inr x) => wordE_z (show wordE st s = .inr x by rw [wordE_other h1 h2 h3]; exact hx)
    clear h1 h2 h3
    have C1 := hide (number_r H.out s hs)
    cases hq1 : numS st s with
    | inl E =>
      rw [hq1] at C1
      clear hq1 hs hn WZ
      simp only [bnd]
      go_enter Tryz.func122, Tryz.ntmps122
      go_wp2_with (go_at_call 157; refine C1.out.mono ?_; rintro q w1 ⟨hp1, rfl, hp2⟩; have F1 := hide hp1; have M1 := hide hp2; clear hp1 hp2)
      exact ⟨rfl, F1.out, rfl, M1.out⟩
    | inr x1 =>
      obtain ⟨e1, y1⟩ := x1
      rw [hq1] at C1
      obtain ⟨hz1, hyn, _⟩ := WZ _ hq1
      simp only at hz1 hyn
      clear hq1 WZ hs
      simp only [bnd]
      have C2 := hide (fun w m (h1 : RM w r g m y1) => tell_q h1 e1 hz1 (by omega))
      clear hz1
      cases hq2 : tellS y1 e1 with
      | inl E =>
        rw [hq2] at C2
        clear hq2 hn hyn
        simp only [NP, evs] at C1 C2
        go_enter Tryz.func122, Tryz.ntmps122
        go_wp2_with (first | (go_at_call 157; refine C1.out.mono ?_; rintro q w1 ⟨hp1, rfl, m1, hp2, hp3⟩; have F1 := hide hp1; have M1 := hide hp2; have O1 := hide hp3; clear hp1 hp2 hp3) | (go_at_call 114; refine (C2.out _ _ M1.out).mono ?_; rintro q w2 ⟨hp1, rfl, hp2⟩; have F2 := hide hp1; have M2 := hide hp2; clear hp1 hp2))
        exact ⟨rfl, RP.trans F1.out O1.out ⟨F2.out, rfl, M2.out⟩⟩
      | inr x2 =>
        rw [hq2] at C2
        have N2 := facts_tellS hq2
        clear hq2
        have C3 := hide (fun w m (h1 : RM w r g m x2) => endValue_r h1 (by have := N2.1; omega))
        obtain ⟨x3, hx3⟩ : ∃ x, endV x2 = x := ⟨_, rfl⟩
        simp only at C3 ⊢
        rw [hx3] at C3 ⊢
        clear hx3 N2 hn hyn
        simp only [NP, evs] at C1 C2
        go_enter Tryz.func122, Tryz.ntmps122
        go_wp2_with (first | (go_at_call 157; refine C1.out.mono ?_; rintro q w1 ⟨hp1, rfl, m1, hp2, hp3⟩; have F1 := hide hp1; have M1 := hide hp2; have O1 := hide hp3; clear hp1 hp2 hp3) | (go_at_call 114; refine (C2.out _ _ M1.out).mono ?_; rintro q w2 ⟨hp1, rfl, m2, hp2, hp3⟩; have F2 := hide hp1; have M2 := hide hp2; have O2 := hide hp3; clear hp1 hp2 hp3; have d9 := (M2.out.rd.cell 9).trans rfl; have g9 : w2.frozen? ⟨r, 9, none⟩ = false := M2.out.rd.frz 9; have d10 := (M2.out.rd.cell 10).trans rfl; have g10 : w2.frozen? ⟨r, 10, none⟩ = false := M2.out.rd.frz 10; simp only [St.rv] at d9 d10) | (go_at_call 115; refine (C3.out _ _ M2.out).mono ?_; rintro q w3 ⟨hp1, rfl, m3, hp2, hp3⟩; have F3 := hide hp1; have M3 := hide hp2; have O3 := hide hp3; clear hp1 hp2 hp3; have d9 := (M3.out.rd.cell 9).trans rfl; have g9 : w3.frozen? ⟨r, 9, none⟩ = false := M3.out.rd.frz 9; have d10 := (M3.out.rd.cell 10).trans rfl; have g10 : w3.frozen? ⟨r, 10, none⟩ = false := M3.out.rd.frz 10; simp only [St.rv] at d9 d10))
        go_end0
        exact RP.trans F1.out O1.out (RP.trans F2.out O2.out ⟨F3.out, rfl, m3, M3.out, O3.out⟩)
  rw [if_neg (fun o => o.elim hw0 hw1)]
  have e0 : ((st.wait : Int) == 0) = false := by simp; omega
  have en0 : ((st.wait : Int) != 0) = true := by simp; omega
  have e1 : ((st.wait : Int) == 1) = false := by simp; omega
  have en1 : ((st.wait : Int) != 1) = true := by simp; omega
  clear hw0 hw1 hn hs
  go_enter Tryz.func122, Tryz.ntmps122
  go_wp2_with fail
  exact ⟨rfl, RP.pan H.out 70 0⟩
theorem RM.w3 (h : RM W r g m st) (k : Nat) : RM ((W.drewN k).setCell ⟨r, 3, none⟩ (.slice none 0 0)) r g { m with word := .slice none 0 0 } { st with word := [] } ∧ RF g m W ((W.drewN k).setCell ⟨r, 3, none⟩ (.slice none 0 0)) ∧ OM W m { m with word := .slice none 0 0 } := by
  have F : RdF r m.word W ((W.drewN k).setCell ⟨r, 3, none⟩ (.slice none 0 0)) := (RdF.refl.then (dn_b W k) (Nat.le_of_lt h.lt)).set 3 _
  have ob : OB W m.word (.slice none 0 0) := Or.inr fun q hq => by cases hq
  exact ⟨h.ofWord F (RdB.set (W := W.drewN k) (h.rd.same rfl) 3 _ _ rfl) (own_nil _ _) (by simp) ob, RF.ofWord h F, ⟨ob, OB.refl _ _, OB.refl _ _⟩⟩
set_option maxHeartbeats 4000000 in
set_option maxRecDepth 100000 in
theorem endWord_r (h : RM W r g m st) (hn : st.n ≤ 199980) : Calls Tryz.prog 82 #[.pointer (some ⟨r, 0, none⟩)] W fun x w' => RP W r g m (endWordS st) x w' := by
  have H := hide h
  obtain ⟨wa, wc, hw⟩ := h.shW
  have c3 : W.cell? ⟨r, 3, none⟩ = some (.slice wa st.word.length wc) := (h.rd.cell 3).trans (by rw [← hw]; rfl)
  have f3 : W.frozen? ⟨r, 3, none⟩ = false := h.rd.frz 3
  have hcv := own_conv h.word
  rw [hw] at hcv
  have wl := h.wl
  clear h hw
  unfold endWordS
  by_cases hl : st.word = []
  · rw [if_pos hl]
    rw [hl] at c3
    simp only [List.length_nil] at c3
    clear hl hcv wl hn
    go_enter Tryz.func82, Tryz.ntmps82
    go_wp2
    exact bodyPost_ret (results_none rfl _ _ _) rfl (RP.same H.out 0)
  · rw [if_neg hl]
    have e0 : ((st.word.length : Int) == 0) = false := by
      have : st.word.length ≠ 0 := fun e => hl (List.length_eq_zero_iff.1 e)
      simp; omega
    have hsz : (mkB st.word).size ≤ 100000 := by rw [← bl_length, bl_mkB]; omega
    obtain ⟨M1, F1, O1⟩ := H.out.w3 0
    have M1 := hide M1
    have F1 := hide F1
    have O1 := hide O1
    have C1 := hide (takeWord_r M1.out (mkB st.word) hsz hn)
    clear hl wl hsz hn
    generalize mkB st.word = s at C1 hcv ⊢
    obtain ⟨o, ho⟩ : ∃ o, wordS { st with word := [] } s = o := ⟨_, rfl⟩
    rw [ho] at C1 ⊢
    clear ho
    cases o with
    | inl E =>
      go_enter Tryz.func82, Tryz.ntmps82
      go_wp2_with (go_at_call 122; refine C1.out.mono ?_; rintro q w1 ⟨hp1, rfl, hp2⟩; have F2 := hide hp1; have M2 := hide hp2; clear hp1 hp2)
      exact ⟨rfl, RP.trans F1.out O1.out ⟨F2.out, rfl, M2.out⟩⟩
    | inr x =>
      go_enter Tryz.func82, Tryz.ntmps82
      go_wp2_with (go_at_call 122; refine C1.out.mono ?_; rintro q w1 ⟨hp1, rfl, hp2⟩; have F2 := hide hp1; have M2 := hide hp2; clear hp1 hp2)
      go_end0
      exact RP.trans F1.out O1.out ⟨F2.out, rfl, M2.out⟩
end
end Go.Proofs.YtoaacfhjejmbnaaGreatDoor
