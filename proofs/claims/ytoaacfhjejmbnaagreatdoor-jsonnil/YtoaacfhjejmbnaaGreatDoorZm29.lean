/- Merged by program: KkMarks, KlEnd. -/
import Derived.Test.YtoaacfhjejmbnaaGreatDoorZm27
import Derived.Test.YtoaacfhjejmbnaaGreatDoorZm28
/- json's Reader: takeComma, takeColon, openObject, endValue, as the whole reader sees them. -/
namespace Go.Proofs.YtoaacfhjejmbnaaGreatDoor
open Go.RowKit
set_option linter.unusedSimpArgs false
set_option linter.unusedVariables false
section
variable {W W1 W2 : World} {r : Nat} {g : Gv} {m : Mv} {st : St}
theorem RP.setw (h : RM W r g m st) (a k : Nat) : RP W r g m (.inr { st with wait := a }) (.returned (.tuple #[])) ((W.drewN k).setCell ⟨r, 9, none⟩ (.int .i64 a)) :=
  ⟨RF.ofO h (RdO.set9 _ _), rfl, m, h.sc (RdB.set (W := W.drewN k) (h.rd.same rfl) 9 _ _ rfl) (RdO.set9 _ _), OM.refl _ _⟩
theorem RP.pan (h : RM W r g m st) (E : Int) (k : Nat) : RP W r g m (.inl E) (.panicked (pan E)) (W.drewN k) :=
  ⟨RF.of (dn_b W k) h.lo, rfl, _, h.rd.same rfl⟩
theorem RP.same (h : RM W r g m st) (k : Nat) : RP W r g m (.inr st) (.returned (.tuple #[])) (W.drewN k) :=
  ⟨RF.of (dn_b W k) h.lo, rfl, m, h.then (dn_b W k), OM.refl _ _⟩
theorem endValue_r (h : RM W r g m st) (hn : st.n ≤ 300000) : Calls Tryz.prog 115 #[.pointer (some ⟨r, 0, none⟩)] W fun e w' => RP W r g m (.inr (endV st)) e w' :=
  (endValue_q h.rd h.opn (Nat.le_trans h.kl hn)).mono (by
    rintro e w1 ⟨rfl, h1, h2⟩
    exact ⟨RF.ofO h h2, rfl, m, h.sc h1 h2, OM.refl _ _⟩)
theorem takeColon_r (h : RM W r g m st) : Calls Tryz.prog 128 #[.pointer (some ⟨r, 0, none⟩)] W fun e w' => RP W r g m (colonS st) e w' :=
  (takeColon_q h.rd).mono (by
    intro e w1 hp
    unfold colonS
    by_cases h5 : st.wait = 5
    · rw [if_pos (show (st.rv g m).wait = 5 from h5)] at hp
      rw [if_pos h5]
      obtain ⟨rfl, h1, h2⟩ := hp
      exact ⟨RF.ofO h h2, rfl, m, h.sc h1 h2, OM.refl _ _⟩
    · rw [if_neg (show ¬ (st.rv g m).wait = 5 from h5)] at hp
      rw [if_neg h5]
      obtain ⟨rfl, rfl⟩ := hp
      exact RP.pan h 70 0)
theorem openObject_r (h : RM W r g m st) : Calls Tryz.prog 125 #[.pointer (some ⟨r, 0, none⟩)] W fun e w' => RP W r g m (openO st) e w' :=
  (openObject_q h.rd).mono (by
    intro e w1 hp
    unfold openO
    by_cases h5 : st.wait = 0 ∨ st.wait = 1
    · rw [if_pos (show (st.rv g m).wait = 0 ∨ (st.rv g m).wait = 1 from h5)] at hp
      rw [if_pos h5]
      obtain ⟨rfl, h1, h2⟩ := hp
      exact ⟨RF.ofO h h2, rfl, m, h.sc h1 h2, OM.refl _ _⟩
    · rw [if_neg (show ¬ ((st.rv g m).wait = 0 ∨ (st.rv g m).wait = 1) from h5)] at hp
      rw [if_neg h5]
      obtain ⟨rfl, k, rfl⟩ := hp
      exact RP.pan h 70 k)
theorem pass_r (h : RM W r g m st) : Calls Tryz.prog 76 #[.pointer (some ⟨r, 0, none⟩)] W fun e w' => RP W r g m (passS st) e w' :=
  (pass_any h.rd).mono (by
    intro e w1 hp
    unfold passS
    by_cases h5 : 16 < st.total
    · rw [if_pos (show 16 < (st.rv g m).total from h5)] at hp
      rw [if_pos h5]
      obtain ⟨rfl, rfl⟩ := hp
      exact RP.pan h 2 0
    · rw [if_neg (show ¬ 16 < (st.rv g m).total from h5)] at hp
      rw [if_neg h5]
      obtain ⟨rfl, h1, h2⟩ := hp
      exact ⟨RF.ofO h h2, rfl, m, h.sc h1 h2, OM.refl _ _⟩)
theorem takeComma_r (h : RM W r g m st) (hn : st.n ≤ 300000) : Calls Tryz.prog 127 #[.pointer (some ⟨r, 0, none⟩)] W fun e w' => RP W r g m (commaS st) e w' := by
  have IN := hide (inner_q h.rd h.opn (Nat.le_trans h.kl hn))
  have H := hide h
  have c9 : W.cell? ⟨r, 9, none⟩ = some (.int .i64 st.wait) := (h.rd.cell 9).trans rfl
  have f9 : W.frozen? ⟨r, 9, none⟩ = false := h.rd.frz 9
  clear h hn
  unfold commaS
  by_cases h2 : st.wait = 2
  · rw [h2] at c9
    by_cases hk : lastK st.ks = 8
    · rw [if_pos ⟨h2, hk⟩]
      rw [hk] at IN
      clear h2 hk
      go_enter Tryz.func127, Tryz.ntmps127
      go_wp2_with (go_at_call 152; refine IN.out.mono ?_; rintro e w1 ⟨rfl, m1, rfl⟩)
      go_end0
      exact RP.setw H.out 4 _
    · rw [if_neg (fun o => hk o.2), if_pos (Or.inl h2)]
      have e8 : (lastK st.ks == 8) = false := by simpa using hk
      clear h2 hk
      generalize lastK st.ks = k at IN e8
      go_enter Tryz.func127, Tryz.ntmps127
      go_wp2_with (go_at_call 152; refine IN.out.mono ?_; rintro e w1 ⟨rfl, m1, rfl⟩)
      go_end0
      exact RP.setw H.out 0 _
  · have e2 : ((st.wait : Int) == 2) = false := by simp; omega
    rw [if_neg (fun o => h2 o.1)]
    by_cases h10 : st.wait = 10
    · rw [if_pos (Or.inr h10)]
      rw [h10] at c9
      clear h2 h10 e2
      go_enter Tryz.func127, Tryz.ntmps127
      go_wp2
      go_end0
      exact RP.setw H.out 0 0
    · have e10 : ((st.wait : Int) == 10) = false := by simp; omega
      rw [if_neg (fun o => o.elim h2 h10)]
      clear h2 h10
      go_enter Tryz.func127, Tryz.ntmps127
      go_wp2_with fail
      exact ⟨rfl, RP.pan H.out 70 0⟩
end
end Go.Proofs.YtoaacfhjejmbnaaGreatDoor
/- json's Reader: end, name, holdWord walked. -/
namespace Go.Proofs.YtoaacfhjejmbnaaGreatDoor
open Go.RowKit
set_option linter.unusedSimpArgs false
set_option linter.unusedVariables false
section
variable {W W1 W2 : World} {r : Nat} {g : Gv} {m : Mv} {st : St}
theorem row_less1 {B T k cp n : Nat} {xs : List Value} (h : W.ownsRow B T 1 (.slice (some ⟨k, 0, none⟩) (n + 1) cp) (n + 1) xs) : W.ownsRow B T 1 (.slice (some ⟨k, 0, none⟩) n cp) n (xs.take n) := by
  obtain ⟨h0, h⟩ := h
  refine ⟨by rw [List.length_take]; omega, ?_⟩
  rcases h with ⟨e, _⟩ | ⟨g', cap, cur, e, h1, h2, h3, h4, h5, h6⟩
  · cases e
  · simp only [Value.slice.injEq, Option.some.injEq, Addr.mk.injEq] at e
    obtain ⟨⟨rfl, _, _⟩, _, rfl⟩ := e
    refine Or.inr ⟨k, cp, cur, rfl, h1, h2, by omega, h4, h5, ?_⟩
    rw [← h6, List.take_take]
    congr 1; omega
theorem RM.lastK (h : RM W r g m st) {qs : List Int} {k : Int} (hk : st.ks = qs ++ [k]) : ∃ j cp, m.opn = .slice (some ⟨j, 0, none⟩) (qs.length + 1) cp ∧ qs.length + 1 ≤ cp ∧ cp ≤ maxLen := by
  have o := h.opn
  unfold OwnK at o
  rw [hk, List.length_append, List.length_singleton] at o
  rcases o.2 with ⟨_, e⟩ | ⟨j, cp, cur, hv, h1, h2, h3, h4, h5, h6⟩
  · omega
  · exact ⟨j, cp, hv, h3, h4⟩
theorem RM.popK (h : RM W r g m st) {qs : List Int} {k : Int} {j cp : Nat} (hk : st.ks = qs ++ [k]) (hm : m.opn = .slice (some ⟨j, 0, none⟩) (qs.length + 1) cp) (d : Nat) :
    RP W r g m (.inr { st with ks := qs }) (.returned (.tuple #[])) ((W.drewN d).setCell ⟨r, 11, none⟩ (.slice (some ⟨j, 0, none⟩) qs.length cp)) := by
  have hlt := h.lt
  have o := h.opn
  unfold OwnK at o
  rw [hk, List.length_append, List.length_singleton, hm] at o
  have o2 := row_less1 o
  rw [List.map_append, List.take_append_of_le_length (by simp), List.take_of_length_le (by simp)] at o2
  have F : RdF r m.opn W ((W.drewN d).setCell ⟨r, 11, none⟩ (.slice (some ⟨j, 0, none⟩) qs.length cp)) := (RdF.refl.then (dn_b W d) (Nat.le_of_lt hlt)).set 11 _
  refine ⟨RF.ofOpn h F, rfl, { m with opn := .slice (some ⟨j, 0, none⟩) qs.length cp }, h.ofOpn F (RdB.set (W := W.drewN d) (h.rd.same rfl) 11 _ _ rfl) ?_ ?_, ⟨OB.refl _ _, OB.refl _ _, OB.refl _ _⟩⟩
  · unfold OwnK
    exact own_of (W := W) o2 fun k hk hl => Below.heap_setCell _ _ _ _ (by have := (World.ownsRow.lt o2 k hk).1; show k ≠ r; omega)
  · have := h.kl
    rw [hk, List.length_append] at this
    omega
set_option maxHeartbeats 4000000 in
set_option maxRecDepth 100000 in
theorem end_q (h : RM W r g m st) (hks : st.ks ≠ []) (hn : st.n ≤ 200000) : Calls Tryz.prog 158 #[.pointer (some ⟨r, 0, none⟩)] W fun x w' => RP W r g m (endS st) x w' := by
  have ml : maxLen = 9223372036854775807 := rfl
  have T := hide (tell_q h evE ⟨by decide, by decide, rfl⟩ hn)
  have GK := hide h.gk
  have kl := h.kl
  unfold endS
  cases ht : tellS st evE with
  | inl E =>
    rw [ht] at T
    clear ht hn h hks kl
    simp only [evs, evE, zr, bnd] at T ⊢
    go_enter Tryz.func158, Tryz.ntmps158
    go_wp2_with (go_at_call 114; refine T.out.mono ?_; rintro q w1 ⟨hp1, rfl, hp2⟩; have F1 := hide hp1; have M1 := hide hp2; clear hp1 hp2)
    exact ⟨rfl, F1.out, rfl, M1.out⟩
  | inr x =>
    rw [ht] at T
    obtain ⟨_, hx, _⟩ := tellS_n ht
    rcases List.eq_nil_or_concat st.ks with e | ⟨qs, p, e⟩
    · exact absurd e hks
    rw [List.concat_eq_append] at e
    have hxk := hide (hx.trans e)
    rw [e, List.length_append, List.length_singleton] at kl
    have hdl : Hid (x.ks.dropLast = qs) := by show _ = _; rw [hxk.out, List.dropLast_concat]
    simp only [bnd]
    rw [hdl.out]
    have hv : IntKind.i64.wrap ((qs.length : Int) + 1 - 1) = (qs.length : Int) := by rw [IntKind.wrap_i64] <;> omega
    have hv2 : IntKind.i64.wrap ((qs.length : Int)) = (qs.length : Int) := by rw [IntKind.wrap_i64] <;> omega
    have hm1 : decide ((qs.length : Int) < 0) = false := by simp
    have hm2 : decide ((0 : Int) < (qs.length : Int)) = decide (0 < qs.length) := by simp
    have MT : Hid (Calls Tryz.prog 114 #[.pointer (some ⟨r, 0, none⟩), .agg (evs evE)] W fun q w' => ∃ m1 j cp, q = .returned (.tuple #[]) ∧ RF g m W w' ∧ RM w' r g m1 x ∧ OM W m m1 ∧ m1.opn = .slice (some ⟨j, 0, none⟩) (qs.length + 1) cp ∧ qs.length + 1 ≤ cp ∧ cp ≤ maxLen) := T.out.mono (by
      rintro q w1 ⟨hp1, rfl, m1, hp2, hp3⟩
      obtain ⟨j, cp, k1, k2, k3⟩ := hp2.lastK hxk.out
      exact ⟨m1, j, cp, rfl, hp1, hp2, hp3, k1, k2, k3⟩)
    clear ht hn h hks hx e T kl
    simp only [evs, evE, zr] at MT
    go_enter Tryz.func158, Tryz.ntmps158
    go_wp2_with (go_at_call 114; refine MT.out.mono ?_; rintro q w1 ⟨m1, j, cp, rfl, hp1, hp2, hp3, k1, k2, k3⟩; have F1 := hide hp1; have M1 := hide hp2; have O1 := hide hp3; have d11 : w1.cell? ⟨r, 11, none⟩ = some (.slice (some ⟨j, 0, none⟩) (qs.length + 1) cp) := (hp2.rd.cell 11).trans (by rw [← k1]; rfl); have g11 : w1.frozen? ⟨r, 11, none⟩ = false := hp2.rd.frz 11; have K1 := hide k1; clear hp1 hp2 hp3 k1; have hle : qs.length ≤ cp := (by omega))
    go_region_with (fail)
    all_goals
      go_wp2
      go_end0
      exact (RP.trans F1.out O1.out ((M1.out.popK hxk.out K1.out 0).then (by repeat (first | exact Below.refl _ _ | refine Below.drew ?_ | refine below_al ?_)) GK.out.loR))
end
end Go.Proofs.YtoaacfhjejmbnaaGreatDoor
