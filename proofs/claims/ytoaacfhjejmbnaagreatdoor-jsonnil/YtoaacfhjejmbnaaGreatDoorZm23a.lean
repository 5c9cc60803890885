/- Merged by program: JqTally, JrTally. -/
import Derived.Test.YtoaacfhjejmbnaaGreatDoorZm22
/- tally: New, Take: walked whole. -/
namespace Go.Proofs.YtoaacfhjejmbnaaGreatDoor
open Go.RowKit
set_option linter.unusedSimpArgs false
set_option linter.unusedVariables false
theorem tnew_any (w : World) : Calls Tryz.prog 40 #[] w fun r w' => r = .returned (.pointer (some ⟨w.heap.size, 0, none⟩)) ∧ TyB w' w.heap.size 0 (.slice none 0 0) ∧ Below w.heap.size w w' := by
  go_enter Tryz.func40, Tryz.ntmps40
  go_wp2
  go_ret
  exact ⟨rfl, heap_alloc_new _ _, below_al (Below.refl _ _)⟩
theorem TyA.new {w : World} {t B : Nat} (h : TyB w t 0 (.slice none 0 0)) (h1 : t < B) (h2 : B ≤ w.heap.size) : TyA w t B (.slice none 0 0) 0 [] :=
  ⟨h, World.ownsRow_nil _ _ _ _, h1, h2, by simp, by omega, fun p hp => by simp at hp⟩
theorem count_any {W : World} {t B z : Nat} {v : Value} {ps : List Tp} (k : Int) (c : TyA W t B v z ps) (hr : rom z ps k = true) : Calls Tryz.prog 175 #[.pointer (some ⟨t, 0, none⟩), .int .i64 k] W fun r w' => r = .returned (.tuple #[]) ∧ TyP W t B v (cnt z ps k).1 (cnt z ps k).2 w' := by
  by_cases h10 : k = 10
  · subst h10; exact count_10 c hr
  by_cases h7 : k = 7
  · subst h7; exact count_7 c hr
  by_cases h8 : k = 8
  · subst h8; exact count_8 c hr
  by_cases h9 : k = 9
  · subst h9; exact count_9 c hr
  exact count_k k h10 h7 h8 h9 c hr
/-- What Take makes of a tally: none, if there is no room. -/
def takeT (z : Nat) (ps : List Tp) (h : Hd) : Option (Nat × List Tp) :=
  if h.kind = 11 then some (z, ps.dropLast) else if (h.text.size : Int) ≤ lng h.kind then (if rom z ps h.kind then some (cnt z ps h.kind) else none) else none
/-- What Take answers. -/
def TkP (W : World) (t B : Nat) (v : Value) (z : Nat) (ps : List Tp) (o : Option (Nat × List Tp)) (r : Ending) (w' : World) : Prop :=
  (r = .returned (.int .i64 (match o with | none => 2 | some _ => 0))) ∧ TyP W t B v (o.getD (z, ps)).1 (o.getD (z, ps)).2 w'
section
variable {W W1 : World} {t B z : Nat} {v : Value} {ps : List Tp}
theorem row_less2 {g cp n : Nat} {xs : List Value} {T : TypeId} (h : W.ownsRow B T 2 (.slice (some ⟨g, 0, none⟩) (n + 1) cp) (n + 1) xs) : W.ownsRow B T 2 (.slice (some ⟨g, 0, none⟩) n cp) n (xs.take (n * 2)) := by
  obtain ⟨h0, h⟩ := h
  refine ⟨by rw [List.length_take]; omega, ?_⟩
  rcases h with ⟨e, _⟩ | ⟨g', cap, cur, e, h1, h2, h3, h4, h5, h6⟩
  · cases e
  · simp only [Value.slice.injEq, Option.some.injEq, Addr.mk.injEq] at e
    obtain ⟨⟨rfl, _, _⟩, _, rfl⟩ := e
    refine Or.inr ⟨g, cp, cur, rfl, h1, h2, by omega, h4, h5, ?_⟩
    rw [← h6, List.take_take]
    congr 1; omega
theorem TyA.less {qs : List Tp} {p : Tp} {g cp : Nat} (c : TyA W t B (.slice (some ⟨g, 0, none⟩) (qs.length + 1) cp) z (qs ++ [p])) :
    TyA (W.setCell ⟨t, 1, none⟩ (.slice (some ⟨g, 0, none⟩) qs.length cp)) t B (.slice (some ⟨g, 0, none⟩) qs.length cp) z qs := by
  have hr := c.row
  rw [List.length_append, List.length_singleton] at hr
  have s4 := row_less2 hr
  rw [txs_app, List.take_append_of_le_length (by rw [txs_length]; exact Nat.le_refl _), List.take_of_length_le (by rw [txs_length]; exact Nat.le_refl _)] at s4
  have htB := c.tB
  exact ⟨c.tb.set1 _, own_of s4 fun k hk _ => Below.heap_setCell _ _ _ _ (by have := (World.ownsRow.lt s4 k hk).1; show k ≠ t; omega), htB, by simpa using c.hB, by have := c.len; simp at this; omega, c.siz, fun q hq => c.its q (List.mem_append.2 (Or.inl hq))⟩
theorem TyA.less0 {a : Option Addr} {cp : Nat} (c : TyA W t B (.slice a 0 cp) z []) : TyA (W.setCell ⟨t, 1, none⟩ (.slice a 0 cp)) t B (.slice a 0 cp) z [] :=
  ⟨c.tb.set1 _, own_of c.row fun k hk _ => Below.heap_setCell _ _ _ _ (by have := (World.ownsRow.lt c.row k hk).1; have := c.tB; show k ≠ t; omega), c.tB, by simpa using c.hB, c.len, c.siz, c.its⟩
set_option maxHeartbeats 2000000 in
theorem take_end (fl ng : Bool) (dg tx : ByteArray) (ex bt : Int) (c : TyA W t B v z ps) : Calls Tryz.prog 151 #[.pointer (some ⟨t, 0, none⟩), .agg #[.int .i64 11, .bool fl, .bool ng, .string dg, .int .i64 ex, .int .u64 bt, .string tx]] W fun r w' => r = .returned (.int .i64 0) ∧ TyP W t B v z ps.dropLast w' := by
  have ml : maxLen = 9223372036854775807 := rfl
  rcases List.eq_nil_or_concat ps with rfl | ⟨qs, p, rfl⟩
  · obtain ⟨a, cp, rfl⟩ := c.shape
    obtain ⟨c0, c1, f0, f1⟩ := c.tb.cells
    have C := hide c
    have hlt := c.tb.lt
    clear c
    simp only [List.length_nil] at c1
    go_enter Tryz.func151, Tryz.ntmps151
    go_wp2
    go_region_with (fail)
    all_goals
      go_wp2
      go_ret
      exact ⟨rfl, _, C.out.less0.then (by repeat (first | exact Below.refl _ _ | refine Below.drew ?_ | refine below_al ?_)), ((TyF.refl.set ⟨t, 1, none⟩ _ (Or.inl rfl) (Nat.le_refl _)).then (by repeat (first | exact Below.refl _ _ | refine Below.drew ?_ | refine below_al ?_)) (by simp; omega))⟩
  · rw [List.concat_eq_append] at c ⊢
    obtain ⟨g, cp, rfl, q1, q2, q3, k0, k1, kf⟩ := c.last
    obtain ⟨c0, c1, f0, f1⟩ := c.tb.cells
    have hln := c.len
    rw [List.length_append, List.length_singleton] at hln
    rw [List.dropLast_concat]
    have C := hide c
    have hlt := c.tb.lt
    have hv : IntKind.i64.wrap ((qs.length : Int) + 1 - 1) = (qs.length : Int) := by rw [IntKind.wrap_i64] <;> omega
    have hv2 : IntKind.i64.wrap ((qs.length : Int)) = (qs.length : Int) := by rw [IntKind.wrap_i64] <;> omega
    have hm1 : decide ((qs.length : Int) < 0) = false := by simp
    have hm2 : decide ((0 : Int) < (qs.length : Int)) = decide (0 < qs.length) := by simp
    have hle : qs.length ≤ cp := by omega
    clear c
    go_enter Tryz.func151, Tryz.ntmps151
    go_wp2
    go_region_with (fail)
    all_goals
      go_wp2
      go_ret
      exact ⟨rfl, _, C.out.less.then (by repeat (first | exact Below.refl _ _ | refine Below.drew ?_ | refine below_al ?_)), ((TyF.refl.set ⟨t, 1, none⟩ _ (Or.inl rfl) (Nat.le_refl _)).then (by repeat (first | exact Below.refl _ _ | refine Below.drew ?_ | refine below_al ?_)) (by simp; omega))⟩
end
end Go.Proofs.YtoaacfhjejmbnaaGreatDoor
/- tally: Take, walked whole. -/
namespace Go.Proofs.YtoaacfhjejmbnaaGreatDoor
open Go.RowKit
set_option linter.unusedSimpArgs false
set_option linter.unusedVariables false
section
variable {W W1 W2 : World} {t B z : Nat} {v : Value} {ps : List Tp}
theorem TyF.pre (h : Below W.heap.size W W1) (k : TyF t v W1 W2) (ht : t ≤ W.heap.size) : TyF t v W W2 :=
  ⟨(h.mono ht).trans k.below, fun q h1 h2 h3 => (k.keep q (Nat.lt_of_lt_of_le h1 h.size) h2 h3).trans (h.block q h1)⟩
theorem dn_b (W : World) (m : Nat) : Below W.heap.size W (W.drewN m) := ⟨rfl, rfl, rfl, Nat.le_refl _, fun _ _ => rfl⟩
set_option maxHeartbeats 4000000 in
theorem take_oth (k : Int) (fl ng : Bool) (dg tx : ByteArray) (ex bt : Int) (n11 : k ≠ 11) (c : TyA W t B v z ps) : Calls Tryz.prog 151 #[.pointer (some ⟨t, 0, none⟩), .agg #[.int .i64 k, .bool fl, .bool ng, .string dg, .int .i64 ex, .int .u64 bt, .string tx]] W
    fun r w' => TkP W t B v z ps (if (tx.size : Int) ≤ lng k then (if rom z ps k then some (cnt z ps k) else none) else none) r w' := by
  have ml : maxLen = 9223372036854775807 := rfl
  have e11 : (k == 11) = false := by simpa using n11
  obtain ⟨w0, hw0⟩ : ∃ w0, w0 = W.alloc (.cells #[.int .i64 k, .bool fl, .bool ng, .string dg, .int .i64 ex, .int .u64 bt, .string tx] 88) := ⟨_, rfl⟩
  have hb0 : Below W.heap.size W w0 := by rw [hw0]; exact below_al (Below.refl _ _)
  have LG := hide (fun m => longest_any k (w0.drewN m))
  have HR := hide (fun m => hasRoom_any ((c.then hb0).then (dn_b w0 m)) k)
  have CT := hide (fun (hr : rom z ps k = true) m => count_any k ((c.then hb0).then (dn_b w0 m)) hr)
  have C0 := hide (fun m => (c.then hb0).then (dn_b w0 m))
  have hlt := c.tb.lt
  have hb1 := hide hb0
  rw [hw0] at LG HR CT C0 hb1
  clear hb0 hw0 c
  have F0 := hide (fun m => TyF.refl (t := t) (v := v) |>.then (hb1.out.trans ((dn_b _ m).mono (by have := hb1.out.size; exact this))) (Nat.le_of_lt hlt))
  by_cases h1 : (tx.size : Int) ≤ lng k
  · rw [if_pos h1]
    have d1 : decide (lng k < (tx.size : Int)) = false := by simp; omega
    cases hr : rom z ps k
    · rw [hr] at HR
      clear CT
      simp only [Bool.false_eq_true, if_false]
      go_enter Tryz.func151, Tryz.ntmps151
      go_wp2
      go_quiet (first | (go_at_call 173; exact Calls.quiet_of_same (LG.out _)) | (go_at_call 174; exact Calls.quiet_of (HR.out _)))
      go_wp2
      go_ret
      exact ⟨rfl, _, C0.out _, F0.out _⟩
    · rw [hr] at HR
      simp only [if_true]
      have CT2 := hide (CT.out hr)
      clear CT
      go_enter Tryz.func151, Tryz.ntmps151
      go_wp2
      go_quiet (first | (go_at_call 173; exact Calls.quiet_of_same (LG.out _)) | (go_at_call 174; exact Calls.quiet_of (HR.out _)))
      go_wp2_with (go_at_call 175; refine (CT2.out _).mono ?_; rintro e w1 ⟨rfl, hp⟩; have P1 := hide hp; clear hp)
      go_ret
      obtain ⟨v', p1, p2⟩ := P1.out
      exact ⟨rfl, v', p1, TyF.pre (hb1.out.trans ((dn_b _ _).mono hb1.out.size)) p2 (Nat.le_of_lt hlt)⟩
  · rw [if_neg h1]
    have d1 : decide (lng k < (tx.size : Int)) = true := by simp; omega
    clear CT HR
    go_enter Tryz.func151, Tryz.ntmps151
    go_wp2
    go_quiet (first | (go_at_call 173; exact Calls.quiet_of_same (LG.out _)))
    go_wp2
    go_ret
    exact ⟨rfl, _, C0.out _, F0.out _⟩
theorem taken (h : Hd) (c : TyA W t B v z ps) : Calls Tryz.prog 151 #[.pointer (some ⟨t, 0, none⟩), .agg (evs h)] W fun r w' => TkP W t B v z ps (takeT z ps h) r w' := by
  obtain ⟨kd, fl, ng, dg, ex, bt, tx, nm⟩ := h
  unfold takeT evs
  by_cases h11 : kd = 11
  · subst h11
    refine (take_end fl ng dg tx ex bt c).mono ?_
    rintro e w' ⟨rfl, p⟩
    exact ⟨rfl, p⟩
  · simp only [h11, if_false]
    exact take_oth kd fl ng dg tx ex bt h11 c
end
end Go.Proofs.YtoaacfhjejmbnaaGreatDoor
