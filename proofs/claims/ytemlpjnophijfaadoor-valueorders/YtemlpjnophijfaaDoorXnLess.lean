/- calamusref04.Less: walked. -/
import Derived.Test.YtemlpjnophijfaaDoorXmLess
namespace Go.Proofs.YtemlpjnophijfaaDoor
open Go.RowKit
set_option linter.unusedSimpArgs false
set_option linter.unusedVariables false
theorem lex_map {α : Type} (c : α → α → Int) (t : ByteArray) : ∀ l m : List α, lexL (cmpP c) (l.map fun a => (t, a)) (m.map fun a => (t, a)) = lexL c l m
  | [], [] => rfl
  | [], _ :: _ => rfl
  | _ :: _, [] => rfl
  | a :: l, b :: m => by
    have hp : cmpP c (t, a) (t, b) = c a b := by unfold cmpP; rw [if_pos ((cmpB_zero t t).2 rfl)]
    simp only [List.map_cons, lexL]
    rw [hp, lex_map c t l m]
theorem dec_eq {p q : Prop} [Decidable p] [Decidable q] (h : p ↔ q) : decide p = decide q := decide_eq_decide.2 h
set_option maxHeartbeats 2000000 in
set_option maxRecDepth 100000 in
theorem less_sc (h g : Hd) (a1 a4 b1 b4 : Option Addr) (a2 a3 a5 a6 b2 b3 b5 b6 : Nat) (w : World) (q : Bool) (hk : h.kind = g.kind) (h7 : h.kind < 7 ∨ (h.kind = 9 ∧ ¬ h.text = g.text))
    (hS : ∀ W : World, Calls Tryd.prog 47 #[.agg (vals h (.slice a1 a2 a3) (.slice a4 a5 a6)), .agg (vals g (.slice b1 b2 b3) (.slice b4 b5 b6))] W fun e w' => e = .returned (.bool q) ∧ Below W.heap.size W w') :
    Calls Tryd.prog 30 #[.agg (vals h (.slice a1 a2 a3) (.slice a4 a5 a6)), .agg (vals g (.slice b1 b2 b3) (.slice b4 b5 b6))] w fun e w' => e = .returned (.bool q) ∧ Below w.heap.size w w' := by
  have hS : Hid (∀ W : World, Calls Tryd.prog 47 #[.agg #[.int .i64 h.kind, .bool h.flag, .bool h.neg, .string h.dig, .int .i64 h.exp, .int .u64 h.bits, .string h.text, .slice a1 a2 a3, .slice a4 a5 a6], .agg #[.int .i64 g.kind, .bool g.flag, .bool g.neg, .string g.dig, .int .i64 g.exp, .int .u64 g.bits, .string g.text, .slice b1 b2 b3, .slice b4 b5 b6]] W fun e w' => e = .returned (.bool q) ∧ Below W.heap.size W w') := hS
  show Calls _ _ #[.agg #[.int .i64 h.kind, .bool h.flag, .bool h.neg, .string h.dig, .int .i64 h.exp, .int .u64 h.bits, .string h.text, .slice a1 a2 a3, .slice a4 a5 a6], .agg #[.int .i64 g.kind, .bool g.flag, .bool g.neg, .string g.dig, .int .i64 g.exp, .int .u64 g.bits, .string g.text, .slice b1 b2 b3, .slice b4 b5 b6]] _ _
  rw [hk] at hS ⊢
  rcases h7 with h7 | ⟨h9, ht⟩
  · rw [hk] at h7
    go_enter Tryd.func30, Tryd.ntmps30
    go_wp2_with (go_at_call 47; refine (hS.out _).mono ?_; rintro e w1 ⟨rfl, hb1⟩)
    go_ret
    exact ⟨rfl, below_then (below_al (below_al (Below.refl _ _))) hb1⟩
  · rw [hk] at h9
    rw [h9] at hS ⊢
    have q1 : decide (h.text = g.text) = false := decide_eq_false ht
    have q2 := ba_ne ht
    go_enter Tryd.func30, Tryd.ntmps30
    go_wp2_with (go_at_call 47; refine (hS.out _).mono ?_; rintro e w1 ⟨rfl, hb1⟩)
    go_ret
    exact ⟨rfl, below_then (below_al (below_al (Below.refl _ _))) hb1⟩
set_option maxHeartbeats 2000000 in
set_option maxRecDepth 100000 in
theorem less_kd (h g : Hd) (a1 a4 b1 b4 : Option Addr) (a2 a3 a5 a6 b2 b3 b5 b6 : Nat) (w : World) (hk : ¬ h.kind = g.kind) :
    Calls Tryd.prog 30 #[.agg (vals h (.slice a1 a2 a3) (.slice a4 a5 a6)), .agg (vals g (.slice b1 b2 b3) (.slice b4 b5 b6))] w fun e w' => e = .returned (.bool (decide (cmpI h.kind g.kind = -1))) ∧ Below w.heap.size w w' := by
  have hd := hide (show decide (cmpI h.kind g.kind = -1) = decide (h.kind < g.kind) from dec_eq (cmpI_lt _ _))
  show Calls _ _ #[.agg #[.int .i64 h.kind, .bool h.flag, .bool h.neg, .string h.dig, .int .i64 h.exp, .int .u64 h.bits, .string h.text, .slice a1 a2 a3, .slice a4 a5 a6], .agg #[.int .i64 g.kind, .bool g.flag, .bool g.neg, .string g.dig, .int .i64 g.exp, .int .u64 g.bits, .string g.text, .slice b1 b2 b3, .slice b4 b5 b6]] _ _
  by_cases hl : h.kind < g.kind
  · go_enter Tryd.func30, Tryd.ntmps30
    go_wp2_with fail
    go_ret
    exact ⟨by rw [hd.out]; first | rfl | simp [hl], below_al (below_al (Below.refl _ _))⟩
  · go_enter Tryd.func30, Tryd.ntmps30
    go_wp2_with fail
    go_ret
    exact ⟨by rw [hd.out]; first | rfl | simp [hl], below_al (below_al (Below.refl _ _))⟩
theorem bare_text {α : Type} {h : Hd} {l : List α} (b : Bare h l) (k : h.kind = 1) : h.text = ⟨#[]⟩ := by
  have e := congrArg Hd.text b.2.2.1
  simpa [strip, zr, k] using e
set_option maxRecDepth 100000 in
theorem lessA : ∀ n, LessOk n := by
  intro n
  induction n with
  | zero => intro x; exact Empty.elim x
  | succ n ih =>
    intro x y ns ls ns' ls' w hx hy vx vy
    obtain ⟨h, l⟩ := x
    obtain ⟨g, m⟩ := y
    obtain ⟨a1, a2, a3, a4, a5, a6, rfl, rfl⟩ := hx.shape
    obtain ⟨b1, b2, b3, b4, b5, b6, rfl, rfl⟩ := hy.shape
    have vl : ∀ y ∈ l, VOk n y := fun y hy => ⟨vx.1.2.2 y hy, vx.2.2.2.2 y hy⟩
    have vm : ∀ y ∈ m, VOk n y := fun y hy => ⟨vy.1.2.2 y hy, vy.2.2.2.2 y hy⟩
    show Calls _ _ #[.agg (vals h _ _), .agg (vals g _ _)] _ _
    by_cases hk : h.kind = g.kind
    · have hlo : 1 ≤ h.kind := vx.1.1.1
      have hhi : h.kind ≤ 9 := vx.1.1.2.1
      have hself : cmpI h.kind g.kind = 0 := by rw [hk]; exact cmpI_self _
      by_cases k2 : h.kind = 2
      · have hV : cmpV (n + 1) (h, l) (g, m) = cmpF h.flag g.flag := by simp only [cmpV]; rw [if_pos hself, if_pos k2]
        rw [hV]
        exact less_sc h g _ _ _ _ _ _ _ _ _ _ _ _ w _ hk (Or.inl (by omega)) (fun W => sc_2 h g _ _ _ _ _ _ _ _ _ _ _ _ W k2 (by omega))
      by_cases k3 : h.kind = 3
      · have hV : cmpV (n + 1) (h, l) (g, m) = cmpN h.neg h.dig h.exp g.neg g.dig g.exp := by simp only [cmpV]; rw [if_pos hself, if_neg k2, if_pos k3]
        rw [hV]
        exact less_sc h g _ _ _ _ _ _ _ _ _ _ _ _ w _ hk (Or.inl (by omega)) (fun W => sc_3 h g _ _ _ _ _ _ _ _ _ _ _ _ W k3 (by omega) (vx.1.2.1.1 k3) (vy.1.2.1.1 (by show g.kind = 3; omega)))
      by_cases k4 : h.kind = 4
      · have hV : cmpV (n + 1) (h, l) (g, m) = cmpI h.bits g.bits := by simp only [cmpV]; rw [if_pos hself, if_neg k2, if_neg k3, if_pos k4]
        rw [hV]
        exact less_sc h g _ _ _ _ _ _ _ _ _ _ _ _ w _ hk (Or.inl (by omega)) (fun W => sc_4 h g _ _ _ _ _ _ _ _ _ _ _ _ W k4 (by omega))
      by_cases k56 : h.kind = 5 ∨ h.kind = 6
      · have hV : cmpV (n + 1) (h, l) (g, m) = cmpB h.text g.text := by simp only [cmpV]; rw [if_pos hself, if_neg k2, if_neg k3, if_neg k4, if_pos k56]
        rw [hV]
        exact less_sc h g _ _ _ _ _ _ _ _ _ _ _ _ w _ hk (Or.inl (by omega)) (fun W => sc_t h g _ _ _ _ _ _ _ _ _ _ _ _ W k2 k3 k4)
      by_cases k7 : h.kind = 7
      · have hV : cmpV (n + 1) (h, l) (g, m) = lexL (cmpV n) l m := by simp only [cmpV]; rw [if_pos hself, if_neg k2, if_neg k3, if_neg k4, if_neg k56, if_pos k7]
        rw [hV]
        exact less_7 n ih h g l m _ _ _ _ w hx hy vl vm k7 (by omega)
      by_cases k8 : h.kind = 8
      · have hV : cmpV (n + 1) (h, l) (g, m) = lexL (cmpP (cmpV n)) (h.names.zip l) (g.names.zip m) := by simp only [cmpV]; rw [if_pos hself, if_neg k2, if_neg k3, if_neg k4, if_neg k56, if_neg k7, if_pos k8]
        rw [hV]
        exact less_8 n ih h g l m _ _ _ _ w hx hy vl vm k8 (by omega) (vx.1.2.1.2.2.1 k8).1 (vy.1.2.1.2.2.1 (by show g.kind = 8; omega)).1
      by_cases k9 : h.kind = 9
      · have hV : cmpV (n + 1) (h, l) (g, m) = lexL (cmpP (cmpV n)) (l.map fun a => (h.text, a)) (m.map fun a => (g.text, a)) := by simp only [cmpV]; rw [if_pos hself, if_neg k2, if_neg k3, if_neg k4, if_neg k56, if_neg k7, if_neg k8, if_pos k9]
        rw [hV]
        by_cases ht : h.text = g.text
        · rw [ht, lex_map]
          exact less_9 n ih h g l m _ _ _ _ w hx hy vl vm k9 (by omega) ht
        · have hl1 : l.length = 1 := (vx.1.2.1.2.2.2 k9).2
          have hm1 : m.length = 1 := (vy.1.2.1.2.2.2 (by show g.kind = 9; omega)).2
          have hB : lexL (cmpP (cmpV n)) (l.map fun a => (h.text, a)) (m.map fun a => (g.text, a)) = cmpB h.text g.text := by
            match l, m, hl1, hm1 with
            | [p], [q], _, _ =>
              have hb0 : ¬ cmpB h.text g.text = 0 := fun e => ht ((cmpB_zero _ _).1 e)
              have hp : cmpP (cmpV n) (h.text, p) (g.text, q) = cmpB h.text g.text := by unfold cmpP; rw [if_neg hb0]
              simp only [List.map_cons, List.map_nil, lexL]
              rw [hp, if_neg hb0]
          rw [hB]
          exact less_sc h g _ _ _ _ _ _ _ _ _ _ _ _ w _ hk (Or.inr ⟨k9, ht⟩) (fun W => sc_t h g _ _ _ _ _ _ _ _ _ _ _ _ W k2 k3 k4)
      · have k1 : h.kind = 1 := by omega
        have hV : cmpV (n + 1) (h, l) (g, m) = cmpB h.text g.text := by
          simp only [cmpV]
          rw [if_pos hself, if_neg k2, if_neg k3, if_neg k4, if_neg k56, if_neg k7, if_neg k8, if_neg k9]
          rw [bare_text vx.1.1 k1, bare_text vy.1.1 (by show g.kind = 1; omega)]
          exact ((cmpB_zero _ _).2 rfl).symm
        rw [hV]
        exact less_sc h g _ _ _ _ _ _ _ _ _ _ _ _ w _ hk (Or.inl (by omega)) (fun W => sc_t h g _ _ _ _ _ _ _ _ _ _ _ _ W k2 k3 k4)
    · have h0 : ¬ cmpI h.kind g.kind = 0 := fun e => by
        have := (ord_int.zero h.kind g.kind trivial trivial).1 e
        exact hk this
      have hV : cmpV (n + 1) (h, l) (g, m) = cmpI h.kind g.kind := by simp only [cmpV]; rw [if_neg h0]
      rw [hV]
      exact less_kd h g _ _ _ _ _ _ _ _ _ _ _ _ w hk
end Go.Proofs.YtemlpjnophijfaaDoor
