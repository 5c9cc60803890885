/- Merged by program: JyQuote, JzQuote, KaQuote, KbRead, KcRead, KdRead, KeRead, EgFeed, EhTell, EiAll, EjFlat. -/
import Derived.Test.YtoaacfhjejmbnaaGreatDoorZm24
import Derived.Test.YtoaacfhjejmbnaaGreatDoorZm05
import Derived.Test.YtoaacfhjejmbnaaGreatDoorZm20
import Derived.RangeFuncNested
import Derived.RangeFuncBound
import Derived.RangeFuncCalls
import Derived.RangeFuncLeaves
import Derived.RangeFuncBox
import Derived.Shelf.Abstract
import Derived.Shelf.RegionOpen
import Derived.OwnWalkIn
import Derived.TacticsInMore
import Derived.LoopNIn
import Derived.LoopIn
import Derived.Test.YtoaacfhjejmbnaaGreatDoorZm18
/- json's quoted: digit of a large letter, digit and take walked whole. -/
namespace Go.Proofs.YtoaacfhjejmbnaaGreatDoor
open Go.RowKit
set_option linter.unusedSimpArgs false
set_option linter.unusedVariables false
section
variable {W W1 W2 : World} {r : Nat} {s : Rv} {q : Qa} {v : Value}
set_option maxRecDepth 20000 in
set_option maxHeartbeats 2000000 in
theorem digit_big (h : QM W r s q v) (hd : q.digits < 4) (c : UInt8) (hc : 65 ≤ c.toNat ∧ c.toNat ≤ 70) : Calls Tryz.prog 111 #[.pointer (some ⟨r, 4, none⟩), .int .u8 c.toNat] W fun e w' => QP W r s v (digQ q c) e w' := by
  have H := hide h
  have hlt := h.rd.lt
  have c4 : W.cell? ⟨r, 4, none⟩ = some (.int .i64 q.place) := (h.rd.cell 4).trans rfl
  have c6 : W.cell? ⟨r, 6, none⟩ = some (.int .i64 q.digits) := (h.rd.cell 6).trans rfl
  have c7 : W.cell? ⟨r, 7, none⟩ = some (.int .i64 q.number) := (h.rd.cell 7).trans rfl
  have f4 : W.frozen? ⟨r, 4, none⟩ = false := h.rd.frz 4
  have f6 : W.frozen? ⟨r, 6, none⟩ = false := h.rd.frz 6
  have f7 : W.frozen? ⟨r, 7, none⟩ = false := h.rd.frz 7
  clear h
  have hlow : lowC c = c + 32 := by unfold lowC; rw [if_pos hc]
  have h32 : ((c + 32).toNat : Int) = (c.toNat : Int) + 32 := by rw [UInt8.toNat_add]; simp; omega
  have SI := hide (fun w => sib_any hxE ((c + 32).toNat : Int) w)
  rw [hx_idx, h32] at SI
  have d1 : decide ((65 : Int) ≤ (c.toNat : Int)) = true := by simp; omega
  have d2 : decide ((c.toNat : Int) ≤ 70) = true := by simp; omega
  have w0 : IntKind.u8.wrap ((c.toNat : Int) + 32) = (c.toNat : Int) + 32 := by rw [IntKind.wrap_u8']; omega
  obtain ⟨d, hi⟩ : ∃ d, hxD (c + 32) = some d := by
    have e : (c + 32).toNat = c.toNat + 32 := by omega
    unfold hxD
    rw [dif_neg (by omega), dif_pos (by omega)]
    exact ⟨_, rfl⟩
  rw [hi] at SI
  have hn4 : q.number < 65536 := H.out.num4
  have hd0 : decide ((d.val : Int) < 0) = false := by simp
  have w1 : IntKind.i64.wrap ((q.digits : Int) + 1) = (q.digits : Int) + 1 := by rw [IntKind.wrap_i64] <;> omega
  have w2 : IntKind.i64.wrap ((q.number : Int) * 16) = (q.number : Int) * 16 := by rw [IntKind.wrap_i64] <;> omega
  have hor : bits .or .i64 ((q.number : Int) * 16) (d.val : Int) = ((q.number * 16 + d.val : Nat) : Int) := or16 q.number d.val hn4 d.isLt
  have M2 := hide (H.out.dg d.val d.isLt hd)
  have EN := hide (endNumber_any M2.out)
  have hq : digQ q c = if q.digits = 3 then (match endQ { q with digits := q.digits + 1, number := q.number * 16 + d.val } with | .inl E => .inl E | .inr x => .inr (.tuple #[], { x.2 with place := 1 })) else .inr (.tuple #[], { q with digits := q.digits + 1, number := q.number * 16 + d.val }) := by unfold digQ; rw [hlow, hi]; try rfl
  rw [hq]
  clear hq
  by_cases h3 : q.digits = 3
  · rw [if_pos h3]
    have e3 : ((q.digits : Int) + 1 == 4) = true := by simp; omega
    clear h3
    clear hi hlow hc hd hn4 h32
    cases he : endQ { q with digits := q.digits + 1, number := q.number * 16 + d.val } with
    | inl E =>
      rw [he] at EN
      go_enter Tryz.func111, Tryz.ntmps111
      go_wp2_with (first | (go_at_call 80; refine (SI.out _).mono ?_; rintro e w1 ⟨rfl, hw1⟩; have hw1s := hw1.symm; clear hw1; subst hw1s) | (go_at_call 149; refine EN.out.mono ?_; rintro e w1 ⟨F1, rfl, M1⟩; have F := hide F1; have M := hide M1; clear F1 M1))
      exact ⟨rfl, F.out.pre8.pre8, rfl, M.out⟩
    | inr x =>
      rw [he] at EN
      go_enter Tryz.func111, Tryz.ntmps111
      go_wp2_with (first | (go_at_call 80; refine (SI.out _).mono ?_; rintro e w1 ⟨rfl, hw1⟩; have hw1s := hw1.symm; clear hw1; subst hw1s) | (go_at_call 149; refine EN.out.mono ?_; rintro e w1 ⟨F1, rfl, v1, M1, O1⟩; have F := hide F1; have M := hide M1; have O := hide O1; have d4 : w1.cell? ⟨r, 4, none⟩ = some (.int .i64 x.2.place) := (M1.rd.cell 4).trans rfl; have g4 : w1.frozen? ⟨r, 4, none⟩ = false := M1.rd.frz 4; clear F1 M1 O1))
      go_end0
      exact ⟨F.out.pre8.pre8.set 4 _, rfl, v1, M.out.setp 1, O.out.imp id (fun f g hg => by have := f g hg; simpa using this)⟩
  · rw [if_neg h3]
    have e3 : ((q.digits : Int) + 1 == 4) = false := by simp; omega
    clear h3
    clear hi hlow hc hd hn4 h32 EN
    go_enter Tryz.func111, Tryz.ntmps111
    go_wp2_with (go_at_call 80; refine (SI.out _).mono ?_; rintro e w1 ⟨rfl, hw1⟩; have hw1s := hw1.symm; clear hw1; subst hw1s)
    go_end0
    exact ⟨(RdF.refl.set 6 _).set 7 _, rfl, v, M2.out, OB.refl _ _⟩
theorem digit_q (h : QM W r s q v) (hd : q.digits < 4) (c : UInt8) : Calls Tryz.prog 111 #[.pointer (some ⟨r, 4, none⟩), .int .u8 c.toNat] W fun e w' => QP W r s v (digQ q c) e w' := by
  by_cases hc : 65 ≤ c.toNat ∧ c.toNat ≤ 70
  · exact digit_big h hd c hc
  · exact digit_any h hd c hc
end
end Go.Proofs.YtoaacfhjejmbnaaGreatDoor
/- json's quoted: take walked. -/
namespace Go.Proofs.YtoaacfhjejmbnaaGreatDoor
open Go.RowKit
set_option linter.unusedSimpArgs false
set_option linter.unusedVariables false
def retQ (o : Sum Int (Value × Qa)) : Sum Int (Value × Qa) := match o with | .inl E => .inl E | .inr x => .inr (.bool false, x.2)
def takeQ (q : Qa) (c : UInt8) : Sum Int (Value × Qa) := if q.place = 2 then retQ (uescQ q c) else if q.place = 3 then retQ (digQ q c) else plainQ q c
section
variable {W W1 W2 : World} {r : Nat} {s : Rv} {q : Qa} {v : Value}
set_option maxRecDepth 20000 in
set_option maxHeartbeats 2000000 in
theorem take_q (h : QM W r s q v) (hd : q.place = 3 → q.digits < 4) (c : UInt8) : Calls Tryz.prog 77 #[.pointer (some ⟨r, 4, none⟩), .int .u8 c.toNat] W fun e w' => QP W r s v (takeQ q c) e w' := by
  have H := hide h
  have hlt := h.rd.lt
  have c4 : W.cell? ⟨r, 4, none⟩ = some (.int .i64 q.place) := (h.rd.cell 4).trans rfl
  unfold takeQ
  by_cases h2 : q.place = 2
  · rw [if_pos h2]
    rw [h2] at c4
    have CQ := hide (escape_any h c)
    clear h hd h2
    cases ho : uescQ q c with
    | inl E =>
      rw [ho] at CQ
      go_enter Tryz.func77, Tryz.ntmps77
      go_wp2_with (go_at_call 110; refine CQ.out.mono ?_; rintro e w1 ⟨F1, rfl, M1⟩; have F := hide F1; have M := hide M1; clear F1 M1)
      exact ⟨rfl, F.out, rfl, M.out⟩
    | inr x =>
      rw [ho] at CQ
      go_enter Tryz.func77, Tryz.ntmps77
      go_wp2_with (go_at_call 110; refine CQ.out.mono ?_; rintro e w1 ⟨F1, rfl, M1⟩; have F := hide F1; have M := hide M1; clear F1 M1)
      go_ret
      exact ⟨F.out, rfl, M.out⟩
  · rw [if_neg h2]
    by_cases h3 : q.place = 3
    · rw [if_pos h3]
      rw [h3] at c4
      have CQ := hide (digit_q h (hd h3) c)
      clear h hd h2 h3
      cases ho : digQ q c with
      | inl E =>
        rw [ho] at CQ
        go_enter Tryz.func77, Tryz.ntmps77
        go_wp2_with (go_at_call 111; refine CQ.out.mono ?_; rintro e w1 ⟨F1, rfl, M1⟩; have F := hide F1; have M := hide M1; clear F1 M1)
        exact ⟨rfl, F.out, rfl, M.out⟩
      | inr x =>
        rw [ho] at CQ
        go_enter Tryz.func77, Tryz.ntmps77
        go_wp2_with (go_at_call 111; refine CQ.out.mono ?_; rintro e w1 ⟨F1, rfl, M1⟩; have F := hide F1; have M := hide M1; clear F1 M1)
        go_ret
        exact ⟨F.out, rfl, M.out⟩
    · rw [if_neg h3]
      have e2 : ((q.place : Int) == 2) = false := by simp; omega
      have e3 : ((q.place : Int) == 3) = false := by simp; omega
      have CQ := hide (plain_any h c)
      clear h hd h2 h3
      cases ho : plainQ q c with
      | inl E =>
        rw [ho] at CQ
        go_enter Tryz.func77, Tryz.ntmps77
        go_wp2_with (go_at_call 112; refine CQ.out.mono ?_; rintro e w1 ⟨F1, rfl, M1⟩; have F := hide F1; have M := hide M1; clear F1 M1)
        exact ⟨rfl, F.out, rfl, M.out⟩
      | inr x =>
        rw [ho] at CQ
        go_enter Tryz.func77, Tryz.ntmps77
        go_wp2_with (go_at_call 112; refine CQ.out.mono ?_; rintro e w1 ⟨F1, rfl, M1⟩; have F := hide F1; have M := hide M1; clear F1 M1)
        go_ret
        exact ⟨F.out, rfl, M.out⟩
end
end Go.Proofs.YtoaacfhjejmbnaaGreatDoor
/- json's quoted: text walked. -/
namespace Go.Proofs.YtoaacfhjejmbnaaGreatDoor
open Go.RowKit
set_option linter.unusedSimpArgs false
set_option linter.unusedVariables false
section
variable {W W1 W2 : World} {r : Nat} {s : Rv} {q : Qa} {v : Value}
/-- What text answers. -/
def textQ (q : Qa) : Sum Int (Value × Qa) := if Ut.okT (Ut.bl (mkB q.held)) then .inr (.string (mkB q.held), q) else .inl 70
set_option maxRecDepth 20000 in
set_option maxHeartbeats 2000000 in
theorem text_q (h : QM W r s q v) (g : Ut.Gu W) : Calls Tryz.prog 78 #[.pointer (some ⟨r, 4, none⟩)] W fun e w' => QP W r s v (textQ q) e w' := by
  have H := hide h
  have hlt := h.rd.lt
  have c5 : W.cell? ⟨r, 5, none⟩ = some v := (h.rd.cell 5).trans rfl
  have hcv := own_conv h.own
  have hsz : (mkB q.held).size ≤ 8192 := by rw [← bl_length, bl_mkB]; exact h.len
  have VA := hide (Ut.valid_any (mkB q.held) W g (by omega))
  clear h g
  unfold textQ
  cases hv : Ut.okT (Ut.bl (mkB q.held))
  · rw [hv] at VA
    rw [if_neg (show ¬ (false = true) by decide)]
    clear hv
    go_enter Tryz.func78, Tryz.ntmps78
    go_wp2_with (go_at_call 113; refine VA.out.mono ?_; rintro e w1 ⟨rfl, hb⟩; have B1 := hide hb; clear hb)
    exact ⟨rfl, RdF.refl.then B1.out (Nat.le_of_lt hlt), rfl, _, H.out.rd.same (B1.out.block r hlt)⟩
  · rw [hv] at VA
    rw [if_pos rfl]
    clear hv
    go_enter Tryz.func78, Tryz.ntmps78
    go_wp2_with (go_at_call 113; refine VA.out.mono ?_; rintro e w1 ⟨rfl, hb⟩; have B1 := hide hb; clear hb)
    go_ret
    exact ⟨RdF.refl.then B1.out (Nat.le_of_lt hlt), rfl, v, ⟨H.out.rd.same (B1.out.block r hlt), own_of H.out.own fun k _ hk => B1.out.block k hk, H.out.len, H.out.num, H.out.hig, H.out.dig⟩, OB.refl _ _⟩
end
end Go.Proofs.YtoaacfhjejmbnaaGreatDoor
/- json's Reader: pass walked. -/
namespace Go.Proofs.YtoaacfhjejmbnaaGreatDoor
open Go.RowKit
set_option linter.unusedSimpArgs false
set_option linter.unusedVariables false
section
variable {W W1 W2 : World} {r : Nat} {s : Rv} {q : Qa} {v : Value}
/-- Only Reader r's own block is written. -/
def RdO (r : Nat) (W w' : World) : Prop := Below r W w' ∧ ∀ q, q < W.heap.size → q ≠ r → w'.heap[q]? = W.heap[q]?
theorem RdO.f (h : RdO r W W1) : RdF r v W W1 := ⟨h.1, fun q h1 h2 _ => h.2 q h1 h2⟩
theorem pass_any (h : RdB W r s) : Calls Tryz.prog 76 #[.pointer (some ⟨r, 0, none⟩)] W fun e w' =>
    if 16 < s.total then e = .panicked (pan 2) ∧ w' = W else e = .returned (.tuple #[]) ∧ RdB w' r { s with passed := true } ∧ RdO r W w' := by
  have H := hide h
  have c1 : W.cell? ⟨r, 1, none⟩ = some (.int .i64 s.total) := (h.cell 1).trans rfl
  have c2 : W.cell? ⟨r, 2, none⟩ = some (.bool s.passed) := (h.cell 2).trans rfl
  have f2 : W.frozen? ⟨r, 2, none⟩ = false := h.frz 2
  clear h
  by_cases ht : 16 < s.total
  · simp only [ht, if_true]
    have d : decide ((16 : Int) < (s.total : Int)) = true := by simp; omega
    clear ht
    go_enter Tryz.func76, Tryz.ntmps76
    go_wp2_with fail
    exact ⟨rfl, rfl, rfl⟩
  · simp only [ht, if_false]
    have d : decide ((16 : Int) < (s.total : Int)) = false := by simp; omega
    clear ht
    go_enter Tryz.func76, Tryz.ntmps76
    go_wp2
    go_end0
    exact ⟨rfl, H.out.set 2 _ _ rfl, (Below.refl r W).setCell (p := ⟨r, 2, none⟩) (Nat.le_refl _) _, fun q _ hq => Below.heap_setCell _ _ _ _ hq⟩
end
end Go.Proofs.YtoaacfhjejmbnaaGreatDoor
/- json's Reader: inner, endValue walked. -/
namespace Go.Proofs.YtoaacfhjejmbnaaGreatDoor
open Go.RowKit
set_option linter.unusedSimpArgs false
set_option linter.unusedVariables false
/-- A row of kinds. -/
def OwnK (W : World) (B : Nat) (v : Value) (ks : List Int) : Prop := W.ownsRow B 86 1 v ks.length (ks.map (Value.int .i64))
def lastK (ks : List Int) : Int := ks.getLast?.getD 0
section
variable {W W1 W2 : World} {r : Nat} {s : Rv} {v : Value} {ks : List Int}
theorem inner_q (h : RdB W r s) (o : OwnK W (r + 1) s.opn ks) (hl : ks.length ≤ 300000) : Calls Tryz.prog 152 #[.pointer (some ⟨r, 0, none⟩)] W fun e w' => e = .returned (.int .i64 (lastK ks)) ∧ ∃ m, w' = W.drewN m := by
  have ml : maxLen = 9223372036854775807 := rfl
  have c11 : W.cell? ⟨r, 11, none⟩ = some s.opn := (h.cell 11).trans rfl
  clear h
  unfold OwnK at o
  rcases List.eq_nil_or_concat ks with rfl | ⟨qs, p, rfl⟩
  · obtain ⟨a, cp, hv⟩ : ∃ a cp, s.opn = .slice a 0 cp := by
      rcases o.2 with ⟨e1, e⟩ | ⟨g, cap, cur, e1, _⟩
      · exact ⟨none, 0, e1⟩
      · exact ⟨_, _, e1⟩
    rw [hv] at c11
    clear o hv
    go_enter Tryz.func152, Tryz.ntmps152
    go_wp2
    go_ret
    exact ⟨rfl, 0, rfl⟩
  · rw [List.concat_eq_append] at o hl ⊢
    rw [List.length_append, List.length_singleton] at o hl
    rcases o.2 with ⟨_, e⟩ | ⟨g, cp, cur, hv, h1, h2, h3, h4, h5, h6⟩
    · omega
    · rw [hv] at c11 o
      have k0 : W.cell? ⟨g, qs.length, none⟩ = some (.int .i64 p) := by
        rw [World.ownsRow.cellAt o _ (by omega)]; simp
      have hlast : lastK (qs ++ [p]) = p := by simp [lastK]
      rw [hlast]
      have hw : IntKind.i64.wrap ((qs.length : Int) + 1 - 1) = (qs.length : Int) := by rw [IntKind.wrap_i64] <;> omega
      have hw2 : IntKind.i64.wrap ((qs.length : Int)) = (qs.length : Int) := by rw [IntKind.wrap_i64] <;> omega
      clear o hv h1 h2 h5 h6 hlast hl
      go_enter Tryz.func152, Tryz.ntmps152
      go_wp2
      go_quiet (fail)
      go_wp2
      go_ret
      exact ⟨by first | rfl | (simp; done) | trace_state, _, rfl⟩
end
end Go.Proofs.YtoaacfhjejmbnaaGreatDoor
/- json's Reader: endValue, takeColon, openObject walked. -/
namespace Go.Proofs.YtoaacfhjejmbnaaGreatDoor
open Go.RowKit
set_option linter.unusedSimpArgs false
set_option linter.unusedVariables false
def endW (ks : List Int) : Nat := if lastK ks = 0 then 13 else if lastK ks = 9 then 11 else 2
section
variable {W W1 W2 : World} {r : Nat} {s : Rv} {v : Value} {ks : List Int}
theorem RdO.set9 (u : Value) (m : Nat) : RdO r W ((W.drewN m).setCell ⟨r, 9, none⟩ u) :=
  ⟨(show Below r W (W.drewN m) from ⟨rfl, rfl, rfl, Nat.le_refl _, fun _ _ => rfl⟩).setCell (p := ⟨r, 9, none⟩) (Nat.le_refl _) _, fun q _ hq => Below.heap_setCell _ _ _ _ hq⟩
theorem endValue_q (h : RdB W r s) (o : OwnK W (r + 1) s.opn ks) (hl : ks.length ≤ 300000) : Calls Tryz.prog 115 #[.pointer (some ⟨r, 0, none⟩)] W fun e w' => e = .returned (.tuple #[]) ∧ RdB w' r { s with wait := endW ks } ∧ RdO r W w' := by
  have IN := hide (inner_q h o hl)
  have H := hide h
  have c9 : W.cell? ⟨r, 9, none⟩ = some (.int .i64 s.wait) := (h.cell 9).trans rfl
  have f9 : W.frozen? ⟨r, 9, none⟩ = false := h.frz 9
  clear h o hl
  unfold endW
  generalize lastK ks = k at IN ⊢
  by_cases h0 : k = 0
  · subst h0
    rw [if_pos rfl]
    go_enter Tryz.func115, Tryz.ntmps115
    go_wp2_with (go_at_call 152; refine IN.out.mono ?_; rintro e w1 ⟨rfl, m1, rfl⟩)
    go_end0
    exact ⟨rfl, RdB.set (W := W.drewN m1) (H.out.same rfl) 9 _ _ rfl, RdO.set9 _ _⟩
  · rw [if_neg h0]
    have e0 : (k == 0) = false := by simpa using h0
    by_cases h9 : k = 9
    · subst h9
      rw [if_pos rfl]
      go_enter Tryz.func115, Tryz.ntmps115
      go_wp2_with (go_at_call 152; refine IN.out.mono ?_; rintro e w1 ⟨rfl, m1, rfl⟩)
      go_end0
      exact ⟨rfl, RdB.set (W := W.drewN m1) (H.out.same rfl) 9 _ _ rfl, RdO.set9 _ _⟩
    · rw [if_neg h9]
      have e9 : (k == 9) = false := by simpa using h9
      clear h0 h9
      go_enter Tryz.func115, Tryz.ntmps115
      go_wp2_with (go_at_call 152; refine IN.out.mono ?_; rintro e w1 ⟨rfl, m1, rfl⟩)
      go_end0
      exact ⟨rfl, RdB.set (W := W.drewN m1) (H.out.same rfl) 9 _ _ rfl, RdO.set9 _ _⟩
theorem takeColon_q (h : RdB W r s) : Calls Tryz.prog 128 #[.pointer (some ⟨r, 0, none⟩)] W fun e w' => if s.wait = 5 then e = .returned (.tuple #[]) ∧ RdB w' r { s with wait := s.behind } ∧ RdO r W w' else e = .panicked (pan 70) ∧ w' = W := by
  have H := hide h
  have c9 : W.cell? ⟨r, 9, none⟩ = some (.int .i64 s.wait) := (h.cell 9).trans rfl
  have c10 : W.cell? ⟨r, 10, none⟩ = some (.int .i64 s.behind) := (h.cell 10).trans rfl
  have f9 : W.frozen? ⟨r, 9, none⟩ = false := h.frz 9
  clear h
  by_cases h5 : s.wait = 5
  · simp only [h5, if_true]
    rw [h5] at c9
    clear h5
    go_enter Tryz.func128, Tryz.ntmps128
    go_wp2
    go_end0
    exact ⟨rfl, H.out.set 9 _ _ rfl, RdO.set9 _ 0⟩
  · simp only [h5, if_false]
    have e5 : ((s.wait : Int) == 5) = false := by simp; omega
    have e5n : ((s.wait : Int) != 5) = true := by simp; omega
    clear h5
    go_enter Tryz.func128, Tryz.ntmps128
    go_wp2_with fail
    exact ⟨rfl, rfl, rfl⟩
end
end Go.Proofs.YtoaacfhjejmbnaaGreatDoor
/- json's Reader: openObject walked. -/
namespace Go.Proofs.YtoaacfhjejmbnaaGreatDoor
open Go.RowKit
set_option linter.unusedSimpArgs false
set_option linter.unusedVariables false
section
variable {W W1 W2 : World} {r : Nat} {s : Rv} {v : Value} {ks : List Int}
theorem openObject_q (h : RdB W r s) : Calls Tryz.prog 125 #[.pointer (some ⟨r, 0, none⟩)] W fun e w' => if s.wait = 0 ∨ s.wait = 1 then e = .returned (.tuple #[]) ∧ RdB w' r { s with wait := 3 } ∧ RdO r W w' else e = .panicked (pan 70) ∧ ∃ m, w' = W.drewN m := by
  have H := hide h
  have c9 : W.cell? ⟨r, 9, none⟩ = some (.int .i64 s.wait) := (h.cell 9).trans rfl
  have f9 : W.frozen? ⟨r, 9, none⟩ = false := h.frz 9
  clear h
  by_cases h0 : s.wait = 0
  · have hor : (s.wait = 0 ∨ s.wait = 1) = True := eq_true (Or.inl h0)
    simp only [hor, if_true]
    clear hor
    rw [h0] at c9
    clear h0
    go_enter Tryz.func125, Tryz.ntmps125
    go_wp2
    go_end0
    exact ⟨rfl, H.out.set 9 _ _ rfl, RdO.set9 _ 0⟩
  · by_cases h1 : s.wait = 1
    · have hor : (s.wait = 0 ∨ s.wait = 1) = True := eq_true (Or.inr h1)
      simp only [hor, if_true]
      clear hor
      rw [h1] at c9
      clear h0 h1
      go_enter Tryz.func125, Tryz.ntmps125
      go_wp2
      go_end0
      exact ⟨rfl, H.out.set 9 _ _ rfl, RdO.set9 _ 0⟩
    · have hor : (s.wait = 0 ∨ s.wait = 1) = False := eq_false (fun o => o.elim h0 h1)
      simp only [hor, if_false]
      clear hor
      have e0 : ((s.wait : Int) != 0) = true := by simp; omega
      have e1 : ((s.wait : Int) != 1) = true := by simp; omega
      clear h0 h1
      go_enter Tryz.func125, Tryz.ntmps125
      go_wp2_with fail
      exact ⟨rfl, rfl, 0, rfl⟩
end
end Go.Proofs.YtoaacfhjejmbnaaGreatDoor
/- event's Checker: Feed: walked. -/
namespace Go.Proofs.YtoaacfhjejmbnaaGreatDoor
open Go.RowKit
set_option linter.unusedSimpArgs false
set_option linter.unusedVariables false
theorem take_any {W : World} {i B n : Nat} {st : List Pa} {bg : Bool} (h : Hd) (hz : EvZ h) (c : CkA W i B n st bg) (hi : i < W.heap.size) (hn : n ≤ 200000) : Calls Tryz.prog 85 #[.pointer (some ⟨i, 0, none⟩), .agg (evs h)] W fun r w' => TakeP W i B n (stepE st bg h) r w' := by
  by_cases h10 : h.kind = 10
  · exact take_10 h hz h10 c hi hn
  · by_cases h11 : h.kind = 11
    · exact take_11 h h11 c hi
    · exact take_v h h10 h11 c hi hn
/-- A Checker, also a broken one. -/
def CkS (W : World) (i B n : Nat) : Option (List Pa × Bool) → Prop
  | none => Ck W i B (.slice none 0 0) [] false true
  | some x => CkA W i B n x.1 x.2
theorem CkS.then {W W1 : World} {i B n : Nat} {s : Option (List Pa × Bool)} (h : CkS W i B n s) (hb : Below W.heap.size W W1) : CkS W1 i B n s := by
  cases s with
  | none => exact Ck.then h hb
  | some x => exact CkA.then h hb
/-- What an event makes of a Checker, q telling whether it may be. -/
def feedE (s : Option (List Pa × Bool)) (q : Bool) (h : Hd) : Option (List Pa × Bool) := if q then s.bind fun x => stepE x.1 x.2 h else none
theorem brk {W : World} {i B : Nat} {v : Value} {b1 b2 : Bool} (k : KB W i v b1 b2) (h1 : i < B) (h2 : B ≤ W.heap.size) : Ck (((W.setCell ⟨i, 0, none⟩ (.slice none 0 0)).setCell ⟨i, 1, none⟩ (.bool false)).setCell ⟨i, 2, none⟩ (.bool true)) i B (.slice none 0 0) [] false true :=
  Ck.new (((k.set0 _).set1 _).set2 _) h1 (by simpa using h2)
set_option maxHeartbeats 2000000 in
set_option maxRecDepth 100000 in
theorem cfeed_k {W : World} {i B n : Nat} (s : Option (List Pa × Bool)) (h : Hd) (hz : EvZ h) (c : CkS W i B n s) (hi : i < W.heap.size) (hiB : i < B) (hB : B ≤ W.heap.size) (hn : n ≤ 200000) (g : Ut.Gu W) (q : Bool) (hq : q = true ↔ May h) :
    Calls Tryz.prog 45 #[.pointer (some ⟨i, 0, none⟩), .agg (evs h)] W fun r w' => r = .returned (.int .i64 (if (feedE s q h).isSome then 0 else 50)) ∧ CkS w' i B (n + 1) (feedE s q h) ∧ BK i W w' := by
  have hB0 : Hid (∀ o, Below W.heap.size W (W.alloc o)) := fun o => below_al (Below.refl _ _)
  have E0 := hide (EB.new W h)
  have mb := hide (fun o => mayBe_any h hz (W.alloc o) (g.below (below_al (Below.refl _ _))) q hq)
  cases s with
  | none =>
    have c' : Ck W i B (.slice none 0 0) [] false true := c
    obtain ⟨h0, h1, h2, h3, h4, h5⟩ := c'.kb.cells
    have hk := hide c'.kb
    have hf : feedE none q h = none := by unfold feedE; cases q <;> rfl
    rw [hf]
    clear c c' hf hq g
    obtain ⟨kd, fl, ng, dg, ex, bt, tx, nm⟩ := h
    simp only [evs]
    go_enter Tryz.func45, Tryz.ntmps45
    go_wp2
    go_ret
    have t1 : Ty W i := hk.out.ty
    refine ⟨rfl, Ck.then (brk hk.out hiB hB) (below_al (Below.refl _ _)), ?_⟩
    refine BK.al ?_ (by simp; omega)
    exact (((BK.refl i W).set (p := ⟨i, 0, none⟩) (Nat.le_refl i) t1 _).set (p := ⟨i, 1, none⟩) (Nat.le_refl i) (t1.set _ _) _).set (p := ⟨i, 2, none⟩) (Nat.le_refl i) ((t1.set _ _).set _ _) _
  | some x =>
    obtain ⟨st, bg⟩ := x
    have c' : CkA W i B n st bg := c
    have hkb : ∃ v, KB W i v bg false := by obtain ⟨v, ps, k, _⟩ := c'; exact ⟨v, k.kb⟩
    obtain ⟨v0, hk0⟩ := hkb
    obtain ⟨h0, h1, h2, h3, h4, h5⟩ := hk0.cells
    cases q
    · have hf : feedE (some (st, bg)) false h = none := rfl
      rw [hf]
      have hk := hide hk0
      clear c c' hf hq g hk0
      obtain ⟨kd, fl, ng, dg, ex, bt, tx, nm⟩ := h
      simp only [evs] at mb ⊢
      go_enter Tryz.func45, Tryz.ntmps45
      go_wp2_with (go_at_call 84; refine (mb.out _).mono ?_; rintro e w1 ⟨rfl, hb1⟩; have B1 := hide (below_then (hB0.out _) hb1); have K1 := hide (hk.out.same (B1.out.block i hi)); clear hb1; obtain ⟨j0, j1, j2, l0, l1, l2⟩ := K1.out.cells)
      go_ret
      refine ⟨rfl, brk K1.out hiB (Nat.le_trans hB B1.out.size), ?_⟩
      have t1 : Ty w1 i := K1.out.ty
      exact (((BK.of B1.out (Nat.le_of_lt hi)).set (p := ⟨i, 0, none⟩) (Nat.le_refl i) t1 _).set (p := ⟨i, 1, none⟩) (Nat.le_refl i) (t1.set _ _) _).set (p := ⟨i, 2, none⟩) (Nat.le_refl i) ((t1.set _ _).set _ _) _
    · have hf : feedE (some (st, bg)) true h = stepE st bg h := rfl
      rw [hf]
      have tk := hide (fun W1 (hb : Below W.heap.size W W1) => take_any h hz (c'.then hb) (Nat.lt_of_lt_of_le hi hb.size) hn)
      have hk := hide hk0
      clear c c' hf hq g hk0
      obtain ⟨o, ho⟩ : ∃ o, stepE st bg h = o := ⟨_, rfl⟩
      rw [ho] at tk ⊢
      clear ho
      obtain ⟨kd, fl, ng, dg, ex, bt, tx, nm⟩ := h
      have E0' := E0
      simp only [evs] at mb tk ⊢
      cases o with
      | none =>
        go_enter Tryz.func45, Tryz.ntmps45
        go_wp2_with (first
          | (go_at_call 84; refine (mb.out _).mono ?_; rintro e w1 ⟨rfl, hb1⟩; have B1 := hide (below_then (hB0.out _) hb1); have E1 := hide (E0.out.below hb1); clear hb1; obtain ⟨d0, d1, d2, d3, d4, d5, d6⟩ := E1.out.cells; simp only at d0 d1 d2 d3 d4 d5 d6)
          | (go_at_call 85; refine (tk.out _ B1.out).mono ?_; rintro e w2 ⟨he, hb2, ⟨v2, b2, hk2⟩, _⟩; subst he; have B2 := hide hb2; have K2 := hide hk2; clear hb2 hk2; obtain ⟨j0, j1, j2, l0, l1, l2⟩ := K2.out.cells))
        go_ret
        refine ⟨rfl, brk K2.out hiB (Nat.le_trans hB (Nat.le_trans B1.out.size B2.out.below.size)), ?_⟩
        have t1 : Ty w2 i := K2.out.ty
        exact ((((BK.of B1.out (Nat.le_of_lt hi)).trans B2.out).set (p := ⟨i, 0, none⟩) (Nat.le_refl i) t1 _).set (p := ⟨i, 1, none⟩) (Nat.le_refl i) (t1.set _ _) _).set (p := ⟨i, 2, none⟩) (Nat.le_refl i) ((t1.set _ _).set _ _) _
      | some x =>
        go_enter Tryz.func45, Tryz.ntmps45
        go_wp2_with (first
          | (go_at_call 84; refine (mb.out _).mono ?_; rintro e w1 ⟨rfl, hb1⟩; have B1 := hide (below_then (hB0.out _) hb1); have E1 := hide (E0.out.below hb1); clear hb1; obtain ⟨d0, d1, d2, d3, d4, d5, d6⟩ := E1.out.cells; simp only at d0 d1 d2 d3 d4 d5 d6)
          | (go_at_call 85; refine (tk.out _ B1.out).mono ?_; rintro e w2 ⟨he, hb2, _, hc2⟩; subst he; have B2 := hide hb2; have C2 := hide (hc2 x rfl); clear hb2 hc2))
        go_ret
        exact ⟨rfl, C2.out, (BK.of B1.out (Nat.le_of_lt hi)).trans B2.out⟩
theorem cfeed_any {W : World} {i B n : Nat} (s : Option (List Pa × Bool)) (h : Hd) (hz : EvZ h) (c : CkS W i B n s) (hi : i < W.heap.size) (hiB : i < B) (hB : B ≤ W.heap.size) (hn : n ≤ 200000) (g : Ut.Gu W) (q : Bool) (hq : q = true ↔ May h) :
    Calls Tryz.prog 45 #[.pointer (some ⟨i, 0, none⟩), .agg (evs h)] W fun r w' => r = .returned (.int .i64 (if (feedE s q h).isSome then 0 else 50)) ∧ CkS w' i B (n + 1) (feedE s q h) ∧ Below i W w' := by
  refine (cfeed_k s h hz c hi hiB hB hn g q hq).mono ?_
  rintro r w' ⟨h1, h2, h3⟩
  exact ⟨h1, h2, h3.below⟩
end Go.Proofs.YtoaacfhjejmbnaaGreatDoor
/- event.tell, an iterator that calls itself: its contract. -/
namespace Go.Proofs.YtoaacfhjejmbnaaGreatDoor
open Go.RowKit Go.Shelf
set_option linter.unusedSimpArgs false
set_option linter.unusedVariables false
attribute [local go_sem] Oper.semAt_some
/-- What a round keeps of an iterator's boxes: blocks that hold values. -/
def KV (W W' : World) : Prop := ∀ (i : Nat) (c : Array Value) (f : Nat × Nat), W.heap[i]? = some (.cells c 29 f) → W'.heap[i]? = some (.cells c 29 f)
theorem KV.refl (W : World) : KV W W := fun _ _ _ h => h
theorem KV.trans {A B C : World} (h : KV A B) (k : KV B C) : KV A C := fun i c f e => k i c f (h i c f e)
theorem KV.alloc {A B : World} (h : KV A B) (o : Obj) : KV A (B.alloc o) := fun i c f e => by
  have h1 := h i c f e
  exact (Below.heap_alloc B o i (Array.getElem?_eq_some_iff.1 h1).1).trans h1
def KP (n₀ : Nat) (W W' : World) : Prop := Below n₀ W W' ∧ KV W W'
theorem KP.trans {n₀ : Nat} {A B C : World} (h : KP n₀ A B) (k : KP n₀ B C) : KP n₀ A C := ⟨h.1.trans k.1, h.2.trans k.2⟩
theorem KP.al {n₀ : Nat} {A B : World} (h : KP n₀ A B) (hn : n₀ ≤ B.heap.size) (o : Obj) : KP n₀ A (B.alloc o) := ⟨h.1.alloc hn o, h.2.alloc o⟩
/-- An event that has no names, the event of a name, of an end. -/
def hd0 (h : Hd) : Hd := { h with names := [] }
def evN (s : ByteArray) : Hd := { zr 10 with text := s }
def evE : Hd := zr 11
/-- What stands ahead of a child. -/
def preN (h : Hd) (i : Nat) : List Hd := if h.kind = 8 then [evN ((h.names[i]?).getD ByteArray.empty)] else []
/-- A tree's events. -/
def fl : (n : Nat) → VT n → List Hd
  | 0, _ => []
  | n + 1, x => hd0 x.1 :: (if x.1.kind < 7 then [] else ((List.range x.2.length).map (fun i => preN x.1 i ++ ((x.2[i]?).elim [] (fl n)))).flatten ++ [evE])
def kid (n : Nat) (h : Hd) (l : List (VT n)) (i : Nat) : List Hd := preN h i ++ ((l[i]?).elim [] (fl n))
def kids (n : Nat) (h : Hd) (l : List (VT n)) (k : Nat) : List Hd := ((List.range k).map (kid n h l)).flatten
theorem fl_succ (n : Nat) (h : Hd) (l : List (VT n)) : fl (n + 1) (h, l) = hd0 h :: (if h.kind < 7 then [] else kids n h l l.length ++ [evE]) := rfl
theorem kids_zero (n : Nat) (h : Hd) (l : List (VT n)) : kids n h l 0 = [] := rfl
theorem kids_succ (n : Nat) (h : Hd) (l : List (VT n)) (k : Nat) (hk : k < l.length) : kids n h l (k + 1) = kids n h l k ++ preN h k ++ fl n l[k] := by
  simp [kids, List.range_succ, kid, hk]
theorem kids_le (n : Nat) (h : Hd) (l : List (VT n)) {k : Nat} (hk : k ≤ l.length) : kids n h l k <+: kids n h l l.length := by
  obtain ⟨d, hd⟩ := Nat.exists_eq_add_of_le hk
  rw [hd]
  unfold kids
  rw [List.range_add, List.map_append, List.flatten_append]
  exact List.prefix_append _ _
end Go.Proofs.YtoaacfhjejmbnaaGreatDoor
/- event.events: the iterator of a tree's events. -/
namespace Go.Proofs.YtoaacfhjejmbnaaGreatDoor
open Go.RowKit Go.Shelf
set_option linter.unusedSimpArgs false
set_option linter.unusedVariables false
attribute [local go_sem] Oper.semAt_some
end Go.Proofs.YtoaacfhjejmbnaaGreatDoor
/- event.Flatten: walked. -/
namespace Go.Proofs.YtoaacfhjejmbnaaGreatDoor
open Go.RowKit Go.Shelf
set_option linter.unusedSimpArgs false
set_option linter.unusedVariables false
attribute [local go_sem] Oper.semAt_some
/-- Events' cells, one behind the other. -/
def ecs (l : List Hd) : List Value := l.flatMap (fun h => (evs h).toList)
def Stop (p : Prop) : Prop := p
theorem Stop.out {p : Prop} (h : Stop p) : p := h
theorem Stop.mk {p : Prop} (h : p) : Stop p := h
theorem ecs_app (a b : List Hd) : ecs (a ++ b) = ecs a ++ ecs b := by simp [ecs]
theorem ecs_one (h : Hd) : ecs [h] = (evs h).toList := by simp [ecs]
theorem infoE : (Tryz.prog.info? 88).map (fun i => (i.zero, i.size, i.bytes)) = some (some (.agg #[.int .i64 0, .bool false, .bool false, .string ⟨#[]⟩, .int .i64 0, .int .u64 0, .string ⟨#[]⟩]), 7, 72) := by kernel_rfl
theorem fl_pos : ∀ (n : Nat) (x : VT n), 1 ≤ (fl n x).length
  | 0, x => Empty.elim x
  | n + 1, (h, l) => by rw [fl_succ]; simp
end Go.Proofs.YtoaacfhjejmbnaaGreatDoor
