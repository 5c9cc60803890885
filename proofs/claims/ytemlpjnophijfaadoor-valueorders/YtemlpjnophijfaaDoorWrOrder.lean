/- The order of values, as value.compare makes it; value.compareLists of values: walked. -/
import Derived.Test.YtemlpjnophijfaaDoorWkCmp
import Derived.Deep.RegionHeld3
import Derived.BigQuiet
namespace Go.Proofs.YtemlpjnophijfaaDoor
open Go.RowKit
set_option linter.unusedSimpArgs false
set_option linter.unusedVariables false
/-- Lists, element by element. -/
def lexL {α : Type} (c : α → α → Int) : List α → List α → Int
  | [], [] => 0
  | [], _ :: _ => -1
  | _ :: _, [] => 1
  | a :: l, b :: m => if c a b = 0 then lexL c l m else c a b
def cmpF (a b : Bool) : Int := if a = b then 0 else if b then -1 else 1
/-- A name, then a value. -/
def cmpP {α : Type} (c : α → α → Int) (p q : ByteArray × α) : Int := if cmpB p.1 q.1 = 0 then c p.2 q.2 else cmpB p.1 q.1
def cmpV : (n : Nat) → VT n → VT n → Int
  | 0, _, _ => 0
  | n + 1, x, y =>
    if cmpI x.1.kind y.1.kind = 0 then
      (if x.1.kind = 2 then cmpF x.1.flag y.1.flag
       else if x.1.kind = 3 then cmpN x.1.neg x.1.dig x.1.exp y.1.neg y.1.dig y.1.exp
       else if x.1.kind = 4 then cmpI x.1.bits y.1.bits
       else if x.1.kind = 5 ∨ x.1.kind = 6 then cmpB x.1.text y.1.text
       else if x.1.kind = 7 then lexL (cmpV n) x.2 y.2
       else if x.1.kind = 8 then lexL (cmpP (cmpV n)) (x.1.names.zip x.2) (y.1.names.zip y.2)
       else if x.1.kind = 9 then lexL (cmpP (cmpV n)) (x.2.map fun a => (x.1.text, a)) (y.2.map fun a => (y.1.text, a))
       else 0)
    else cmpI x.1.kind y.1.kind
theorem lex_step {α : Type} (c : α → α → Int) {l m : List α} {k : Nat} (hl : k < l.length) (hm : k < m.length) : lexL c (l.drop k) (m.drop k) = if c l[k] m[k] = 0 then lexL c (l.drop (k + 1)) (m.drop (k + 1)) else c l[k] m[k] := by
  rw [List.drop_eq_getElem_cons hl, List.drop_eq_getElem_cons hm]
  rfl
theorem lex_end {α : Type} (c : α → α → Int) {l m : List α} {k : Nat} (h : k = min l.length m.length) : lexL c (l.drop k) (m.drop k) = cmpI l.length m.length := by
  rcases Nat.lt_trichotomy l.length m.length with q | q | q
  · have hk : k = l.length := by omega
    rw [hk, List.drop_length, List.drop_eq_getElem_cons q]
    unfold cmpI
    rw [if_pos (by omega)]
    rfl
  · have hk : k = l.length := by omega
    rw [hk, List.drop_length, List.drop_of_length_le (by omega)]
    unfold cmpI
    rw [if_neg (by omega), if_neg (by omega)]
    rfl
  · have hk : k = m.length := by omega
    rw [hk, List.drop_length, List.drop_eq_getElem_cons q]
    unfold cmpI
    rw [if_neg (by omega), if_pos (by omega)]
    rfl
/-- A value within the limits of length. -/
def VOk (n : Nat) (x : VT n) : Prop := IsV n x ∧ Sht n x
/-- What compare says of trees less than n deep. -/
def CmpOk (n : Nat) : Prop := ∀ (x y : VT n) (ns ls ns' ls' : Value) (w : World), RD n w x ns ls → RD n w y ns' ls' → VOk n x → VOk n y →
    Calls Tryd.prog 29 #[.agg (vals (vhd n x) ns ls), .agg (vals (vhd n y) ns' ls')] w fun e w' => e = .returned (.int .i64 (cmpV n x y)) ∧ Below w.heap.size w w'
set_option maxHeartbeats 2000000 in
set_option maxRecDepth 100000 in
theorem clists_any (n : Nat) (ih : CmpOk n) (x y : VT (n + 1)) (ns ls ns' ls' : Value) (w : World) (hu : RD (n + 1) w x ns ls) (hv : RD (n + 1) w y ns' ls') (hx : ∀ a ∈ x.2, VOk n a) (hy : ∀ a ∈ y.2, VOk n a) :
    Calls Tryd.prog 43 #[ls, ls', .func (.func 29) #[] #[]] w fun e w' => e = .returned (.int .i64 (lexL (cmpV n) x.2 y.2)) ∧ Below w.heap.size w w' := by
  obtain ⟨h, l⟩ := x
  obtain ⟨g, m⟩ := y
  obtain ⟨al, cl, rfl, hl1, hl2⟩ := hu.len
  obtain ⟨bl', dl, rfl, hm1, hm2⟩ := hv.len
  have hu := hide hu
  have hv := hide hv
  have hx := hide hx
  have hy := hide hy
  simp only at hl1 hl2 hm1 hm2 ⊢
  have ml : maxLen = 9223372036854775807 := rfl
  have hci := hide (fun w => cmpInt_any (l.length : Int) (m.length : Int) w)
  obtain ⟨K, hK⟩ : ∃ K, min l.length m.length = K := ⟨_, rfl⟩
  have hKi : min (l.length : Int) (m.length : Int) = (K : Int) := by omega
  obtain ⟨C, hC⟩ : ∃ C, lexL (cmpV n) l m = C := ⟨_, rfl⟩
  rw [hC]
  have hC' := hide hC
  have hK' := hide hK
  clear hC hK
  by_cases q : (l.length : Int) < (m.length : Int)
  · go_enter Tryd.func43, Tryd.ntmps43
    go_wp2_with fail
    go_loopw [14] (fun i w' => ∃ k : Nat, i = .int .i64 k ∧ k ≤ l.length ∧ Hid (lexL (cmpV n) (l.drop k) (m.drop k) = C ∧ Below w.heap.size w w')) (fun i _ => l.length - (intOf i).toNat)
    case atStart => exact ⟨0, rfl, Nat.zero_le _, hC'.out, Below.refl _ _⟩
    case round =>
      obtain ⟨k, rfl, hk, H⟩ := hrel
      by_cases hkl0 : k < l.length
      · have hki : (k : Int) < (l.length : Int) := by omega
        have hk63 : (k : Int) < 9223372036854775807 := by omega
        have hkl : k < l.length := by omega
        have hkm : k < m.length := by omega
        have hkl' : (k : Int) < (l.length : Int) := by omega
        have hkm' : (k : Int) < (m.length : Int) := by omega
        obtain ⟨b, o, c, he, hbl, hlc, hcm, ns1, ls1, hrg, hrd⟩ := hu.out.at k hkl
        have he' := Value.slice.inj he
        obtain ⟨rfl, _, rfl⟩ := he'
        clear he
        obtain ⟨q0, q1, q2, q3, q4, q5, q6, q7, q8⟩ := range9 (rangeAt_below hrg H.out.2 hbl)
        obtain ⟨b', o', c', he, hbl', hlc', hcm', ns2, ls2, hrg', hrd'⟩ := hv.out.at k hkm
        have he' := Value.slice.inj he
        obtain ⟨rfl, _, rfl⟩ := he'
        clear he
        obtain ⟨r0, r1, r2, r3, r4, r5, r6, r7, r8⟩ := range9 (rangeAt_below hrg' H.out.2 hbl')
        obtain ⟨a1, m1, d1, a2, m2, d2, rfl, rfl⟩ := hrd.shape
        obtain ⟨a3, m3, d3, a4, m4, d4, rfl, rfl⟩ := hrd'.shape
        have hst := lex_step (cmpV n) hkl hkm
        have hcall := hide (fun W (hb : Below w.heap.size w W) => ih l[k] m[k] _ _ _ _ W (hrd.below hb) (hrd'.below hb) (hx.out _ (List.getElem_mem _)) (hy.out _ (List.getElem_mem _)))
        obtain ⟨hk1, hh1⟩ : ∃ hk1, vhd n l[k] = hk1 := ⟨_, rfl⟩
        obtain ⟨hk2, hh2⟩ : ∃ hk2, vhd n m[k] = hk2 := ⟨_, rfl⟩
        obtain ⟨D, hD⟩ : ∃ D, cmpV n l[k] m[k] = D := ⟨_, rfl⟩
        simp only at hst hh1 hh2 hD q0 q1 q2 q3 q4 q5 q6 r0 r1 r2 r3 r4 r5 r6
        rw [hh1] at hcall q0 q1 q2 q3 q4 q5 q6
        rw [hh2] at hcall r0 r1 r2 r3 r4 r5 r6
        rw [hD] at hcall hst
        have hst' := hide hst
        clear hst hrg hrd hrg' hrd' hh1 hh2 hD
        have hbw : b < wr.heap.size := Nat.lt_of_lt_of_le hbl H.out.2.size
        have hbw' : b' < wr.heap.size := Nat.lt_of_lt_of_le hbl' H.out.2.size
        go_wp2_with fail
        go_region_held3 (fun w' => w'.cell? ⟨b, o + k * 9, none⟩ = some (.int .i64 hk1.kind) ∧ w'.cell? ⟨b, o + k * 9 + 1, none⟩ = some (.bool hk1.flag) ∧ w'.cell? ⟨b, o + k * 9 + 2, none⟩ = some (.bool hk1.neg) ∧ w'.cell? ⟨b, o + k * 9 + 3, none⟩ = some (.string hk1.dig) ∧ w'.cell? ⟨b, o + k * 9 + 4, none⟩ = some (.int .i64 hk1.exp) ∧ w'.cell? ⟨b, o + k * 9 + 5, none⟩ = some (.int .u64 hk1.bits) ∧ w'.cell? ⟨b, o + k * 9 + 6, none⟩ = some (.string hk1.text) ∧ w'.cell? ⟨b, o + k * 9 + 7, none⟩ = some (.slice a1 m1 d1) ∧ w'.cell? ⟨b, o + k * 9 + 8, none⟩ = some (.slice a2 m2 d2) ∧ w'.cell? ⟨b', o' + k * 9, none⟩ = some (.int .i64 hk2.kind) ∧ w'.cell? ⟨b', o' + k * 9 + 1, none⟩ = some (.bool hk2.flag) ∧ w'.cell? ⟨b', o' + k * 9 + 2, none⟩ = some (.bool hk2.neg) ∧ w'.cell? ⟨b', o' + k * 9 + 3, none⟩ = some (.string hk2.dig) ∧ w'.cell? ⟨b', o' + k * 9 + 4, none⟩ = some (.int .i64 hk2.exp) ∧ w'.cell? ⟨b', o' + k * 9 + 5, none⟩ = some (.int .u64 hk2.bits) ∧ w'.cell? ⟨b', o' + k * 9 + 6, none⟩ = some (.string hk2.text) ∧ w'.cell? ⟨b', o' + k * 9 + 7, none⟩ = some (.slice a3 m3 d3) ∧ w'.cell? ⟨b', o' + k * 9 + 8, none⟩ = some (.slice a4 m4 d4)) (first | (simp [go_sem]; done) | go_keep) (first | (go_at_call 29; refine (hcall.out _ (by first | exact H.out.2 | exact H.out.2.drew | exact (H.out.2.drew).drew)).mono ?_; rintro e w1 ⟨rfl, hb1⟩; have K : ∀ (i j : Nat) (v : Value), i < wr.heap.size → wr.cell? ⟨i, j, none⟩ = some v → w1.cell? ⟨i, j, none⟩ = some v := fun i j v hi hv => (hb1.cell (p := ⟨i, j, none⟩) hi).trans hv; have z0 := K _ _ _ hbw q0; have z1 := K _ _ _ hbw q1; have z2 := K _ _ _ hbw q2; have z3 := K _ _ _ hbw q3; have z4 := K _ _ _ hbw q4; have z5 := K _ _ _ hbw q5; have z6 := K _ _ _ hbw q6; have z7 := K _ _ _ hbw q7; have z8 := K _ _ _ hbw q8; have y0 := K _ _ _ hbw' r0; have y1 := K _ _ _ hbw' r1; have y2 := K _ _ _ hbw' r2; have y3 := K _ _ _ hbw' r3; have y4 := K _ _ _ hbw' r4; have y5 := K _ _ _ hbw' r5; have y6 := K _ _ _ hbw' r6; have y7 := K _ _ _ hbw' r7; have y8 := K _ _ _ hbw' r8; clear K))
        clear z0 z1 z2 z3 z4 z5 z6 z7 z8 y0 y1 y2 y3 y4 y5 y6 y7 y8
        have hb2 := hide (below_then H.out.2.drew hb1)
        by_cases hD0 : D = 0
        · subst hD0
          have hn := hide (show lexL (cmpV n) (l.drop (k + 1)) (m.drop (k + 1)) = C by rw [← H.out.1, hst'.out, if_pos rfl])
          go_wp2_with fail
          exact ⟨⟨k + 1, by go_num, by omega, hn.out, hb2.out⟩, by simp [intOf]; omega⟩
        · have hn : D = C := by rw [← H.out.1, hst'.out, if_neg hD0]
          clear hst' H hcall hb1 hC' hci hk63 ml hcm hcm' hl2 hm2 hki hkl' hkm' q0 q1 q2 q3 q4 q5 q6 q7 q8 r0 r1 r2 r3 r4 r5 r6 r7 r8
          subst hn
          have hD1 : (D == 0) = false := by rw [beq_eq_false_iff_ne]; exact hD0
          have hD2 : decide (D = 0) = false := decide_eq_false hD0
          go_wp2_with fail
          go_ret
          exact ⟨rfl, hb2.out⟩
      · have hki : ¬ ((k : Int) < (l.length : Int)) := by omega
        have hE := lex_end (cmpV n) (l := l) (m := m) (k := k) (by omega)
        rw [H.out.1] at hE
        have hci2 : Hid (∀ w, Calls Tryd.prog 58 #[.int .i64 l.length, .int .i64 m.length] w fun e w' => e = .returned (.int .i64 C) ∧ w' = w) := fun w => by
          have := hci.out w
          rw [← hE] at this
          exact this
        clear hE
        go_wp2_with (go_at_call 58; refine (hci2.out _).mono ?_; rintro e w1 ⟨rfl, rfl⟩)
        go_ret
        exact ⟨rfl, H.out.2⟩
  by_cases q2 : (m.length : Int) < (l.length : Int)
  · go_enter Tryd.func43, Tryd.ntmps43
    go_wp2_with fail
    go_loopw [14] (fun i w' => ∃ k : Nat, i = .int .i64 k ∧ k ≤ m.length ∧ Hid (lexL (cmpV n) (l.drop k) (m.drop k) = C ∧ Below w.heap.size w w')) (fun i _ => m.length - (intOf i).toNat)
    case atStart => exact ⟨0, rfl, Nat.zero_le _, hC'.out, Below.refl _ _⟩
    case round =>
      obtain ⟨k, rfl, hk, H⟩ := hrel
      by_cases hkl0 : k < m.length
      · have hki : (k : Int) < (m.length : Int) := by omega
        have hk63 : (k : Int) < 9223372036854775807 := by omega
        have hkl : k < l.length := by omega
        have hkm : k < m.length := by omega
        have hkl' : (k : Int) < (l.length : Int) := by omega
        have hkm' : (k : Int) < (m.length : Int) := by omega
        obtain ⟨b, o, c, he, hbl, hlc, hcm, ns1, ls1, hrg, hrd⟩ := hu.out.at k hkl
        have he' := Value.slice.inj he
        obtain ⟨rfl, _, rfl⟩ := he'
        clear he
        obtain ⟨q0, q1, q2, q3, q4, q5, q6, q7, q8⟩ := range9 (rangeAt_below hrg H.out.2 hbl)
        obtain ⟨b', o', c', he, hbl', hlc', hcm', ns2, ls2, hrg', hrd'⟩ := hv.out.at k hkm
        have he' := Value.slice.inj he
        obtain ⟨rfl, _, rfl⟩ := he'
        clear he
        obtain ⟨r0, r1, r2, r3, r4, r5, r6, r7, r8⟩ := range9 (rangeAt_below hrg' H.out.2 hbl')
        obtain ⟨a1, m1, d1, a2, m2, d2, rfl, rfl⟩ := hrd.shape
        obtain ⟨a3, m3, d3, a4, m4, d4, rfl, rfl⟩ := hrd'.shape
        have hst := lex_step (cmpV n) hkl hkm
        have hcall := hide (fun W (hb : Below w.heap.size w W) => ih l[k] m[k] _ _ _ _ W (hrd.below hb) (hrd'.below hb) (hx.out _ (List.getElem_mem _)) (hy.out _ (List.getElem_mem _)))
        obtain ⟨hk1, hh1⟩ : ∃ hk1, vhd n l[k] = hk1 := ⟨_, rfl⟩
        obtain ⟨hk2, hh2⟩ : ∃ hk2, vhd n m[k] = hk2 := ⟨_, rfl⟩
        obtain ⟨D, hD⟩ : ∃ D, cmpV n l[k] m[k] = D := ⟨_, rfl⟩
        simp only at hst hh1 hh2 hD q0 q1 q2 q3 q4 q5 q6 r0 r1 r2 r3 r4 r5 r6
        rw [hh1] at hcall q0 q1 q2 q3 q4 q5 q6
        rw [hh2] at hcall r0 r1 r2 r3 r4 r5 r6
        rw [hD] at hcall hst
        have hst' := hide hst
        clear hst hrg hrd hrg' hrd' hh1 hh2 hD
        have hbw : b < wr.heap.size := Nat.lt_of_lt_of_le hbl H.out.2.size
        have hbw' : b' < wr.heap.size := Nat.lt_of_lt_of_le hbl' H.out.2.size
        go_wp2_with fail
        go_region_held3 (fun w' => w'.cell? ⟨b, o + k * 9, none⟩ = some (.int .i64 hk1.kind) ∧ w'.cell? ⟨b, o + k * 9 + 1, none⟩ = some (.bool hk1.flag) ∧ w'.cell? ⟨b, o + k * 9 + 2, none⟩ = some (.bool hk1.neg) ∧ w'.cell? ⟨b, o + k * 9 + 3, none⟩ = some (.string hk1.dig) ∧ w'.cell? ⟨b, o + k * 9 + 4, none⟩ = some (.int .i64 hk1.exp) ∧ w'.cell? ⟨b, o + k * 9 + 5, none⟩ = some (.int .u64 hk1.bits) ∧ w'.cell? ⟨b, o + k * 9 + 6, none⟩ = some (.string hk1.text) ∧ w'.cell? ⟨b, o + k * 9 + 7, none⟩ = some (.slice a1 m1 d1) ∧ w'.cell? ⟨b, o + k * 9 + 8, none⟩ = some (.slice a2 m2 d2) ∧ w'.cell? ⟨b', o' + k * 9, none⟩ = some (.int .i64 hk2.kind) ∧ w'.cell? ⟨b', o' + k * 9 + 1, none⟩ = some (.bool hk2.flag) ∧ w'.cell? ⟨b', o' + k * 9 + 2, none⟩ = some (.bool hk2.neg) ∧ w'.cell? ⟨b', o' + k * 9 + 3, none⟩ = some (.string hk2.dig) ∧ w'.cell? ⟨b', o' + k * 9 + 4, none⟩ = some (.int .i64 hk2.exp) ∧ w'.cell? ⟨b', o' + k * 9 + 5, none⟩ = some (.int .u64 hk2.bits) ∧ w'.cell? ⟨b', o' + k * 9 + 6, none⟩ = some (.string hk2.text) ∧ w'.cell? ⟨b', o' + k * 9 + 7, none⟩ = some (.slice a3 m3 d3) ∧ w'.cell? ⟨b', o' + k * 9 + 8, none⟩ = some (.slice a4 m4 d4)) (first | (simp [go_sem]; done) | go_keep) (first | (go_at_call 29; refine (hcall.out _ (by first | exact H.out.2 | exact H.out.2.drew | exact (H.out.2.drew).drew)).mono ?_; rintro e w1 ⟨rfl, hb1⟩; have K : ∀ (i j : Nat) (v : Value), i < wr.heap.size → wr.cell? ⟨i, j, none⟩ = some v → w1.cell? ⟨i, j, none⟩ = some v := fun i j v hi hv => (hb1.cell (p := ⟨i, j, none⟩) hi).trans hv; have z0 := K _ _ _ hbw q0; have z1 := K _ _ _ hbw q1; have z2 := K _ _ _ hbw q2; have z3 := K _ _ _ hbw q3; have z4 := K _ _ _ hbw q4; have z5 := K _ _ _ hbw q5; have z6 := K _ _ _ hbw q6; have z7 := K _ _ _ hbw q7; have z8 := K _ _ _ hbw q8; have y0 := K _ _ _ hbw' r0; have y1 := K _ _ _ hbw' r1; have y2 := K _ _ _ hbw' r2; have y3 := K _ _ _ hbw' r3; have y4 := K _ _ _ hbw' r4; have y5 := K _ _ _ hbw' r5; have y6 := K _ _ _ hbw' r6; have y7 := K _ _ _ hbw' r7; have y8 := K _ _ _ hbw' r8; clear K))
        clear z0 z1 z2 z3 z4 z5 z6 z7 z8 y0 y1 y2 y3 y4 y5 y6 y7 y8
        have hb2 := hide (below_then H.out.2.drew hb1)
        by_cases hD0 : D = 0
        · subst hD0
          have hn := hide (show lexL (cmpV n) (l.drop (k + 1)) (m.drop (k + 1)) = C by rw [← H.out.1, hst'.out, if_pos rfl])
          go_wp2_with fail
          exact ⟨⟨k + 1, by go_num, by omega, hn.out, hb2.out⟩, by simp [intOf]; omega⟩
        · have hn : D = C := by rw [← H.out.1, hst'.out, if_neg hD0]
          clear hst' H hcall hb1 hC' hci hk63 ml hcm hcm' hl2 hm2 hki hkl' hkm' q0 q1 q2 q3 q4 q5 q6 q7 q8 r0 r1 r2 r3 r4 r5 r6 r7 r8
          subst hn
          have hD1 : (D == 0) = false := by rw [beq_eq_false_iff_ne]; exact hD0
          have hD2 : decide (D = 0) = false := decide_eq_false hD0
          go_wp2_with fail
          go_ret
          exact ⟨rfl, hb2.out⟩
      · have hki : ¬ ((k : Int) < (m.length : Int)) := by omega
        have hE := lex_end (cmpV n) (l := l) (m := m) (k := k) (by omega)
        rw [H.out.1] at hE
        have hci2 : Hid (∀ w, Calls Tryd.prog 58 #[.int .i64 l.length, .int .i64 m.length] w fun e w' => e = .returned (.int .i64 C) ∧ w' = w) := fun w => by
          have := hci.out w
          rw [← hE] at this
          exact this
        clear hE
        go_wp2_with (go_at_call 58; refine (hci2.out _).mono ?_; rintro e w1 ⟨rfl, rfl⟩)
        go_ret
        exact ⟨rfl, H.out.2⟩
  · have hml := hide (show m.length = l.length by omega)
    rw [hml.out] at hm1 ⊢
    clear q q2 hKi
    go_enter Tryd.func43, Tryd.ntmps43
    go_wp2_with fail
    go_loopw [14] (fun i w' => ∃ k : Nat, i = .int .i64 k ∧ k ≤ l.length ∧ Hid (lexL (cmpV n) (l.drop k) (m.drop k) = C ∧ Below w.heap.size w w')) (fun i _ => l.length - (intOf i).toNat)
    case atStart => exact ⟨0, rfl, Nat.zero_le _, hC'.out, Below.refl _ _⟩
    case round =>
      obtain ⟨k, rfl, hk, H⟩ := hrel
      by_cases hkl0 : k < l.length
      · have hki : (k : Int) < (l.length : Int) := by omega
        have hk63 : (k : Int) < 9223372036854775807 := by omega
        have hkl : k < l.length := by omega
        have hkm : k < m.length := by rw [hml.out]; omega
        have hkl' : (k : Int) < (l.length : Int) := by omega
        have hkm' : (k : Int) < (l.length : Int) := by omega
        obtain ⟨b, o, c, he, hbl, hlc, hcm, ns1, ls1, hrg, hrd⟩ := hu.out.at k hkl
        have he' := Value.slice.inj he
        obtain ⟨rfl, _, rfl⟩ := he'
        clear he
        obtain ⟨q0, q1, q2, q3, q4, q5, q6, q7, q8⟩ := range9 (rangeAt_below hrg H.out.2 hbl)
        obtain ⟨b', o', c', he, hbl', hlc', hcm', ns2, ls2, hrg', hrd'⟩ := hv.out.at k hkm
        have he' := Value.slice.inj he
        obtain ⟨rfl, _, rfl⟩ := he'
        clear he
        obtain ⟨r0, r1, r2, r3, r4, r5, r6, r7, r8⟩ := range9 (rangeAt_below hrg' H.out.2 hbl')
        obtain ⟨a1, m1, d1, a2, m2, d2, rfl, rfl⟩ := hrd.shape
        obtain ⟨a3, m3, d3, a4, m4, d4, rfl, rfl⟩ := hrd'.shape
        have hst := lex_step (cmpV n) hkl hkm
        have hcall := hide (fun W (hb : Below w.heap.size w W) => ih l[k] m[k] _ _ _ _ W (hrd.below hb) (hrd'.below hb) (hx.out _ (List.getElem_mem _)) (hy.out _ (List.getElem_mem _)))
        obtain ⟨hk1, hh1⟩ : ∃ hk1, vhd n l[k] = hk1 := ⟨_, rfl⟩
        obtain ⟨hk2, hh2⟩ : ∃ hk2, vhd n m[k] = hk2 := ⟨_, rfl⟩
        obtain ⟨D, hD⟩ : ∃ D, cmpV n l[k] m[k] = D := ⟨_, rfl⟩
        simp only at hst hh1 hh2 hD q0 q1 q2 q3 q4 q5 q6 r0 r1 r2 r3 r4 r5 r6
        rw [hh1] at hcall q0 q1 q2 q3 q4 q5 q6
        rw [hh2] at hcall r0 r1 r2 r3 r4 r5 r6
        rw [hD] at hcall hst
        have hst' := hide hst
        clear hst hrg hrd hrg' hrd' hh1 hh2 hD
        have hbw : b < wr.heap.size := Nat.lt_of_lt_of_le hbl H.out.2.size
        have hbw' : b' < wr.heap.size := Nat.lt_of_lt_of_le hbl' H.out.2.size
        go_wp2_with fail
        go_region_held3 (fun w' => w'.cell? ⟨b, o + k * 9, none⟩ = some (.int .i64 hk1.kind) ∧ w'.cell? ⟨b, o + k * 9 + 1, none⟩ = some (.bool hk1.flag) ∧ w'.cell? ⟨b, o + k * 9 + 2, none⟩ = some (.bool hk1.neg) ∧ w'.cell? ⟨b, o + k * 9 + 3, none⟩ = some (.string hk1.dig) ∧ w'.cell? ⟨b, o + k * 9 + 4, none⟩ = some (.int .i64 hk1.exp) ∧ w'.cell? ⟨b, o + k * 9 + 5, none⟩ = some (.int .u64 hk1.bits) ∧ w'.cell? ⟨b, o + k * 9 + 6, none⟩ = some (.string hk1.text) ∧ w'.cell? ⟨b, o + k * 9 + 7, none⟩ = some (.slice a1 m1 d1) ∧ w'.cell? ⟨b, o + k * 9 + 8, none⟩ = some (.slice a2 m2 d2) ∧ w'.cell? ⟨b', o' + k * 9, none⟩ = some (.int .i64 hk2.kind) ∧ w'.cell? ⟨b', o' + k * 9 + 1, none⟩ = some (.bool hk2.flag) ∧ w'.cell? ⟨b', o' + k * 9 + 2, none⟩ = some (.bool hk2.neg) ∧ w'.cell? ⟨b', o' + k * 9 + 3, none⟩ = some (.string hk2.dig) ∧ w'.cell? ⟨b', o' + k * 9 + 4, none⟩ = some (.int .i64 hk2.exp) ∧ w'.cell? ⟨b', o' + k * 9 + 5, none⟩ = some (.int .u64 hk2.bits) ∧ w'.cell? ⟨b', o' + k * 9 + 6, none⟩ = some (.string hk2.text) ∧ w'.cell? ⟨b', o' + k * 9 + 7, none⟩ = some (.slice a3 m3 d3) ∧ w'.cell? ⟨b', o' + k * 9 + 8, none⟩ = some (.slice a4 m4 d4)) (first | (simp [go_sem]; done) | go_keep) (first | (go_at_call 29; refine (hcall.out _ (by first | exact H.out.2 | exact H.out.2.drew | exact (H.out.2.drew).drew)).mono ?_; rintro e w1 ⟨rfl, hb1⟩; have K : ∀ (i j : Nat) (v : Value), i < wr.heap.size → wr.cell? ⟨i, j, none⟩ = some v → w1.cell? ⟨i, j, none⟩ = some v := fun i j v hi hv => (hb1.cell (p := ⟨i, j, none⟩) hi).trans hv; have z0 := K _ _ _ hbw q0; have z1 := K _ _ _ hbw q1; have z2 := K _ _ _ hbw q2; have z3 := K _ _ _ hbw q3; have z4 := K _ _ _ hbw q4; have z5 := K _ _ _ hbw q5; have z6 := K _ _ _ hbw q6; have z7 := K _ _ _ hbw q7; have z8 := K _ _ _ hbw q8; have y0 := K _ _ _ hbw' r0; have y1 := K _ _ _ hbw' r1; have y2 := K _ _ _ hbw' r2; have y3 := K _ _ _ hbw' r3; have y4 := K _ _ _ hbw' r4; have y5 := K _ _ _ hbw' r5; have y6 := K _ _ _ hbw' r6; have y7 := K _ _ _ hbw' r7; have y8 := K _ _ _ hbw' r8; clear K))
        clear z0 z1 z2 z3 z4 z5 z6 z7 z8 y0 y1 y2 y3 y4 y5 y6 y7 y8
        have hb2 := hide (below_then H.out.2.drew hb1)
        by_cases hD0 : D = 0
        · subst hD0
          have hn := hide (show lexL (cmpV n) (l.drop (k + 1)) (m.drop (k + 1)) = C by rw [← H.out.1, hst'.out, if_pos rfl])
          go_wp2_with fail
          exact ⟨⟨k + 1, by go_num, by omega, hn.out, hb2.out⟩, by simp [intOf]; omega⟩
        · have hn : D = C := by rw [← H.out.1, hst'.out, if_neg hD0]
          clear hst' H hcall hb1 hC' hci hk63 ml hcm hcm' hl2 hm2 hki hkl' hkm' q0 q1 q2 q3 q4 q5 q6 q7 q8 r0 r1 r2 r3 r4 r5 r6 r7 r8
          subst hn
          have hD1 : (D == 0) = false := by rw [beq_eq_false_iff_ne]; exact hD0
          have hD2 : decide (D = 0) = false := decide_eq_false hD0
          go_wp2_with fail
          go_ret
          exact ⟨rfl, hb2.out⟩
      · have hki : ¬ ((k : Int) < (l.length : Int)) := by omega
        have hE := lex_end (cmpV n) (l := l) (m := m) (k := k) (by rw [hml.out]; omega)
        rw [H.out.1] at hE
        have hci2 : Hid (∀ w, Calls Tryd.prog 58 #[.int .i64 l.length, .int .i64 l.length] w fun e w' => e = .returned (.int .i64 C) ∧ w' = w) := fun w => by
          have := hci.out w
          rw [← hE] at this
          rw [hml.out] at this; exact this
        clear hE
        go_wp2_with (go_at_call 58; refine (hci2.out _).mono ?_; rintro e w1 ⟨rfl, rfl⟩)
        go_ret
        exact ⟨rfl, H.out.2⟩
end Go.Proofs.YtemlpjnophijfaaDoor
