/- Orders by -1, 0, 1: no program in sight. -/
import Derived.Test.YtemlpjnophijfaaDoorWrOrder
namespace Go.Proofs.YtemlpjnophijfaaDoor
set_option linter.unusedVariables false
/-- c is an order of the things that are P. -/
structure Ord3 {α : Type} (P : α → Prop) (c : α → α → Int) : Prop where
  val : ∀ a b, c a b = -1 ∨ c a b = 0 ∨ c a b = 1
  rev : ∀ a b, P a → P b → c b a = - c a b
  zero : ∀ a b, P a → P b → (c a b = 0 ↔ a = b)
  tr : ∀ a b d, P a → P b → P d → c a b ≤ 0 → c b d ≤ 0 → c a d ≤ 0
theorem ord_int : Ord3 (fun _ => True) cmpI := by
  refine ⟨fun a b => ?_, fun a b _ _ => ?_, fun a b _ _ => ?_, fun a b d _ _ _ h1 h2 => ?_⟩
  · unfold cmpI; split
    · exact Or.inl rfl
    · split
      · exact Or.inr (Or.inr rfl)
      · exact Or.inr (Or.inl rfl)
  · unfold cmpI; repeat' split
    all_goals omega
  · unfold cmpI; repeat' split
    all_goals (constructor <;> intro h <;> omega)
  · unfold cmpI at *
    repeat' split at h1
    all_goals repeat' split at h2
    all_goals repeat' split
    all_goals omega
theorem ord_flag : Ord3 (fun _ => True) cmpF := by
  refine ⟨fun a b => ?_, fun a b _ _ => ?_, fun a b _ _ => ?_, fun a b d _ _ _ h1 h2 => ?_⟩
  · cases a <;> cases b <;> decide
  · cases a <;> cases b <;> decide
  · cases a <;> cases b <;> decide
  · revert h1 h2; cases a <;> cases b <;> cases d <;> decide
/-- Equal in the order: alike to a third. -/
theorem Ord3.tr0 {α : Type} {P : α → Prop} {c : α → α → Int} (o : Ord3 P c) {a b d : α} (ha : P a) (hb : P b) (hd : P d) (h : c a b < 0) (h2 : c b d ≤ 0) : c a d < 0 := by
  have h3 := o.tr a b d ha hb hd (by omega) h2
  rcases o.val a d with q | q | q
  · omega
  · have e := (o.zero a d ha hd).1 q
    subst e
    have := o.rev a b ha hb
    omega
  · omega
theorem Ord3.tr1 {α : Type} {P : α → Prop} {c : α → α → Int} (o : Ord3 P c) {a b d : α} (ha : P a) (hb : P b) (hd : P d) (h : c a b ≤ 0) (h2 : c b d < 0) : c a d < 0 := by
  have h3 := o.tr a b d ha hb hd h (by omega)
  rcases o.val a d with q | q | q
  · omega
  · have e := (o.zero a d ha hd).1 q
    subst e
    have := o.rev a b ha hb
    omega
  · omega
theorem lex_val {α : Type} {c : α → α → Int} (h : ∀ a b, c a b = -1 ∨ c a b = 0 ∨ c a b = 1) : ∀ l m : List α, lexL c l m = -1 ∨ lexL c l m = 0 ∨ lexL c l m = 1
  | [], [] => Or.inr (Or.inl rfl)
  | [], _ :: _ => Or.inl rfl
  | _ :: _, [] => Or.inr (Or.inr rfl)
  | a :: l, b :: m => by
    unfold lexL
    split
    · exact lex_val h l m
    · exact h a b
theorem lex_rev {α : Type} {P : α → Prop} {c : α → α → Int} (o : Ord3 P c) : ∀ l m : List α, (∀ a ∈ l, P a) → (∀ a ∈ m, P a) → lexL c m l = - lexL c l m
  | [], [], _, _ => rfl
  | [], _ :: _, _, _ => rfl
  | _ :: _, [], _, _ => rfl
  | a :: l, b :: m, hl, hm => by
    have r := o.rev a b (hl a (by simp)) (hm b (by simp))
    unfold lexL
    by_cases q : c a b = 0
    · rw [if_pos q, if_pos (by rw [r, q]; rfl)]
      exact lex_rev o l m (fun x hx => hl x (by simp [hx])) (fun x hx => hm x (by simp [hx]))
    · rw [if_neg q, if_neg (by rw [r]; omega), r]
theorem lex_zero {α : Type} {P : α → Prop} {c : α → α → Int} (o : Ord3 P c) : ∀ l m : List α, (∀ a ∈ l, P a) → (∀ a ∈ m, P a) → (lexL c l m = 0 ↔ l = m)
  | [], [], _, _ => by simp [lexL]
  | [], _ :: _, _, _ => by simp [lexL]
  | _ :: _, [], _, _ => by simp [lexL]
  | a :: l, b :: m, hl, hm => by
    have z := o.zero a b (hl a (by simp)) (hm b (by simp))
    have ih := lex_zero o l m (fun x hx => hl x (by simp [hx])) (fun x hx => hm x (by simp [hx]))
    unfold lexL
    by_cases q : c a b = 0
    · rw [if_pos q, ih, z.1 q]; simp
    · rw [if_neg q]
      constructor
      · intro h; exact absurd h q
      · intro h; simp only [List.cons.injEq] at h; exact absurd (z.2 h.1) q
theorem lex_tr {α : Type} {P : α → Prop} {c : α → α → Int} (o : Ord3 P c) : ∀ l m k : List α, (∀ a ∈ l, P a) → (∀ a ∈ m, P a) → (∀ a ∈ k, P a) → lexL c l m ≤ 0 → lexL c m k ≤ 0 → lexL c l k ≤ 0
  | [], _, [], _, _, _, _, _ => by simp [lexL]
  | [], _, _ :: _, _, _, _, _, _ => by simp [lexL]
  | _ :: _, [], _, _, _, _, h, _ => by simp [lexL] at h
  | _ :: _, _ :: _, [], _, _, _, _, h => by simp [lexL] at h
  | a :: l, b :: m, d :: k, hl, hm, hk, h1, h2 => by
    have pa := hl a (by simp)
    have pb := hm b (by simp)
    have pd := hk d (by simp)
    have ih := lex_tr o l m k (fun x hx => hl x (by simp [hx])) (fun x hx => hm x (by simp [hx])) (fun x hx => hk x (by simp [hx]))
    unfold lexL at h1 h2 ⊢
    by_cases q1 : c a b = 0
    · rw [if_pos q1] at h1
      have e := (o.zero a b pa pb).1 q1
      subst e
      by_cases q2 : c a d = 0
      · rw [if_pos q2] at h2 ⊢
        exact ih h1 h2
      · rw [if_neg q2] at h2 ⊢
        exact h2
    · rw [if_neg q1] at h1
      have h1' : c a b < 0 := by omega
      by_cases q2 : c b d = 0
      · have e := (o.zero b d pb pd).1 q2
        subst e
        rw [if_neg q1]
        exact h1
      · rw [if_neg q2] at h2
        have := o.tr0 pa pb pd h1' h2
        rw [if_neg (by omega)]
        omega
/-- Lists stand in an order if their elements do. -/
theorem ord_lex {α : Type} {P : α → Prop} {c : α → α → Int} (o : Ord3 P c) : Ord3 (fun l : List α => ∀ a ∈ l, P a) (lexL c) :=
  ⟨lex_val o.val, fun l m hl hm => lex_rev o l m hl hm, fun l m hl hm => lex_zero o l m hl hm, fun l m k hl hm hk h1 h2 => lex_tr o l m k hl hm hk h1 h2⟩
/-- So do names with things behind them. -/
theorem ord_pair {α : Type} {P : α → Prop} {c : α → α → Int} (o : Ord3 P c) (ob : Ord3 (fun _ => True) cmpB) : Ord3 (fun p : ByteArray × α => P p.2) (cmpP c) := by
  refine ⟨fun p q => ?_, fun p q hp hq => ?_, fun p q hp hq => ?_, fun p q r hp hq hr h1 h2 => ?_⟩
  · unfold cmpP; split
    · exact o.val _ _
    · exact ob.val _ _
  · have rb := ob.rev p.1 q.1 trivial trivial
    unfold cmpP
    by_cases e : cmpB p.1 q.1 = 0
    · rw [if_pos e, if_pos (by rw [rb, e]; rfl)]; exact o.rev _ _ hp hq
    · rw [if_neg e, if_neg (by rw [rb]; omega), rb]
  · have zb := ob.zero p.1 q.1 trivial trivial
    have z := o.zero p.2 q.2 hp hq
    obtain ⟨s, x⟩ := p
    obtain ⟨t, y⟩ := q
    unfold cmpP
    simp only at zb z ⊢
    by_cases e : cmpB s t = 0
    · rw [if_pos e, z, zb.1 e]; simp
    · rw [if_neg e]
      constructor
      · intro h; exact absurd h e
      · intro h; simp only [Prod.mk.injEq] at h; exact absurd (zb.2 h.1) e
  · obtain ⟨s, x⟩ := p
    obtain ⟨t, y⟩ := q
    obtain ⟨u, z⟩ := r
    unfold cmpP at h1 h2 ⊢
    simp only at h1 h2 ⊢
    by_cases q1 : cmpB s t = 0
    · rw [if_pos q1] at h1
      have e := (ob.zero s t trivial trivial).1 q1
      subst e
      by_cases q2 : cmpB s u = 0
      · rw [if_pos q2] at h2 ⊢
        exact o.tr x y z hp hq hr h1 h2
      · rw [if_neg q2] at h2 ⊢
        exact h2
    · rw [if_neg q1] at h1
      by_cases q2 : cmpB t u = 0
      · have e := (ob.zero t u trivial trivial).1 q2
        subst e
        rw [if_neg q1]
        exact h1
      · rw [if_neg q2] at h2
        have := ob.tr0 (a := s) (b := t) (d := u) trivial trivial trivial (by omega) h2
        rw [if_neg (by omega)]
        omega
end Go.Proofs.YtemlpjnophijfaaDoor
