/- Merged by program: WyOrd, WyOrdB, WyOrdV, WyOrdW. -/
import Derived.Test.YtemlpjnophijfaaDoorWrOrder
import Derived.Test.YtemlpjnophijfaaDoorNzM
/- Orders by -1, 0, 1: no program in sight. -/
namespace Go.Proofs.YtemlpjnophijfaaDoor
set_option linter.unusedVariables false
/-- c is an order of the things that are P. -/
structure Ord3 {α : Type} (P : α → Prop) (c : α → α → Int) : Prop where
  val : ∀ a b, c a b = -1 ∨ c a b = 0 ∨ c a b = 1
  rev : ∀ a b, P a → P b → c b a = - c a b
  zero : ∀ a b, P a → P b → (c a b = 0 ↔ a = b)
  tr : ∀ a b d, P a → P b → P d → c a b ≤ 0 → c b d ≤ 0 → c a d ≤ 0
theorem ord_int : Ord3 (fun _ => True) cmpI := by
  refine ⟨fun a b => ?_, fun a b _ _ => ?_, fun a b _ _ => ?_, fun a b d _ _ _ h1 h2 => ?_⟩
  · unfold cmpI; split
    · exact Or.inl rfl
    · split
      · exact Or.inr (Or.inr rfl)
      · exact Or.inr (Or.inl rfl)
  · unfold cmpI; repeat' split
    all_goals omega
  · unfold cmpI; repeat' split
    all_goals (constructor <;> intro h <;> omega)
  · unfold cmpI at *
    repeat' split at h1
    all_goals repeat' split at h2
    all_goals repeat' split
    all_goals omega
theorem ord_flag : Ord3 (fun _ => True) cmpF := by
  refine ⟨fun a b => ?_, fun a b _ _ => ?_, fun a b _ _ => ?_, fun a b d _ _ _ h1 h2 => ?_⟩
  · cases a <;> cases b <;> decide
  · cases a <;> cases b <;> decide
  · cases a <;> cases b <;> decide
  · revert h1 h2; cases a <;> cases b <;> cases d <;> decide
/-- Equal in the order: alike to a third. -/
theorem Ord3.tr0 {α : Type} {P : α → Prop} {c : α → α → Int} (o : Ord3 P c) {a b d : α} (ha : P a) (hb : P b) (hd : P d) (h : c a b < 0) (h2 : c b d ≤ 0) : c a d < 0 := by
  have h3 := o.tr a b d ha hb hd (by omega) h2
  rcases o.val a d with q | q | q
  · omega
  · have e := (o.zero a d ha hd).1 q
    subst e
    have := o.rev a b ha hb
    omega
  · omega
theorem Ord3.tr1 {α : Type} {P : α → Prop} {c : α → α → Int} (o : Ord3 P c) {a b d : α} (ha : P a) (hb : P b) (hd : P d) (h : c a b ≤ 0) (h2 : c b d < 0) : c a d < 0 := by
  have h3 := o.tr a b d ha hb hd h (by omega)
  rcases o.val a d with q | q | q
  · omega
  · have e := (o.zero a d ha hd).1 q
    subst e
    have := o.rev a b ha hb
    omega
  · omega
theorem lex_val {α : Type} {c : α → α → Int} (h : ∀ a b, c a b = -1 ∨ c a b = 0 ∨ c a b = 1) : ∀ l m : List α, lexL c l m = -1 ∨ lexL c l m = 0 ∨ lexL c l m = 1
  | [], [] => Or.inr (Or.inl rfl)
  | [], _ :: _ => Or.inl rfl
  | _ :: _, [] => Or.inr (Or.inr rfl)
  | a :: l, b :: m => by
    unfold lexL
    split
    · exact lex_val h l m
    · exact h a b
theorem lex_rev {α : Type} {P : α → Prop} {c : α → α → Int} (o : Ord3 P c) : ∀ l m : List α, (∀ a ∈ l, P a) → (∀ a ∈ m, P a) → lexL c m l = - lexL c l m
  | [], [], _, _ => rfl
  | [], _ :: _, _, _ => rfl
  | _ :: _, [], _, _ => rfl
  | a :: l, b :: m, hl, hm => by
    have r := o.rev a b (hl a (by simp)) (hm b (by simp))
    unfold lexL
    by_cases q : c a b = 0
    · rw [if_pos q, if_pos (by rw [r, q]; rfl)]
      exact lex_rev o l m (fun x hx => hl x (by simp [hx])) (fun x hx => hm x (by simp [hx]))
    · rw [if_neg q, if_neg (by rw [r]; omega), r]
theorem lex_zero {α : Type} {P : α → Prop} {c : α → α → Int} (o : Ord3 P c) : ∀ l m : List α, (∀ a ∈ l, P a) → (∀ a ∈ m, P a) → (lexL c l m = 0 ↔ l = m)
  | [], [], _, _ => by simp [lexL]
  | [], _ :: _, _, _ => by simp [lexL]
  | _ :: _, [], _, _ => by simp [lexL]
  | a :: l, b :: m, hl, hm => by
    have z := o.zero a b (hl a (by simp)) (hm b (by simp))
    have ih := lex_zero o l m (fun x hx => hl x (by simp [hx])) (fun x hx => hm x (by simp [hx]))
    unfold lexL
    by_cases q : c a b = 0
    · rw [if_pos q, ih, z.1 q]; simp
    · rw [if_neg q]
      constructor
      · intro h; exact absurd h q
      · intro h; simp only [List.cons.injEq] at h; exact absurd (z.2 h.1) q
theorem lex_tr {α : Type} {P : α → Prop} {c : α → α → Int} (o : Ord3 P c) : ∀ l m k : List α, (∀ a ∈ l, P a) → (∀ a ∈ m, P a) → (∀ a ∈ k, P a) → lexL c l m ≤ 0 → lexL c m k ≤ 0 → lexL c l k ≤ 0
  | [], _, [], _, _, _, _, _ => by simp [lexL]
  | [], _, _ :: _, _, _, _, _, _ => by simp [lexL]
  | _ :: _, [], _, _, _, _, h, _ => by simp [lexL] at h
  | _ :: _, _ :: _, [], _, _, _, _, h => by simp [lexL] at h
  | a :: l, b :: m, d :: k, hl, hm, hk, h1, h2 => by
    have pa := hl a (by simp)
    have pb := hm b (by simp)
    have pd := hk d (by simp)
    have ih := lex_tr o l m k (fun x hx => hl x (by simp [hx])) (fun x hx => hm x (by simp [hx])) (fun x hx => hk x (by simp [hx]))
    unfold lexL at h1 h2 ⊢
    by_cases q1 : c a b = 0
    · rw [if_pos q1] at h1
      have e := (o.zero a b pa pb).1 q1
      subst e
      by_cases q2 : c a d = 0
      · rw [if_pos q2] at h2 ⊢
        exact ih h1 h2
      · rw [if_neg q2] at h2 ⊢
        exact h2
    · rw [if_neg q1] at h1
      have h1' : c a b < 0 := by omega
      by_cases q2 : c b d = 0
      · have e := (o.zero b d pb pd).1 q2
        subst e
        rw [if_neg q1]
        exact h1
      · rw [if_neg q2] at h2
        have := o.tr0 pa pb pd h1' h2
        rw [if_neg (by omega)]
        omega
/-- Lists stand in an order if their elements do. -/
theorem ord_lex {α : Type} {P : α → Prop} {c : α → α → Int} (o : Ord3 P c) : Ord3 (fun l : List α => ∀ a ∈ l, P a) (lexL c) :=
  ⟨lex_val o.val, fun l m hl hm => lex_rev o l m hl hm, fun l m hl hm => lex_zero o l m hl hm, fun l m k hl hm hk h1 h2 => lex_tr o l m k hl hm hk h1 h2⟩
/-- So do names with things behind them. -/
theorem ord_pair {α : Type} {P : α → Prop} {c : α → α → Int} (o : Ord3 P c) (ob : Ord3 (fun _ => True) cmpB) : Ord3 (fun p : ByteArray × α => P p.2) (cmpP c) := by
  refine ⟨fun p q => ?_, fun p q hp hq => ?_, fun p q hp hq => ?_, fun p q r hp hq hr h1 h2 => ?_⟩
  · unfold cmpP; split
    · exact o.val _ _
    · exact ob.val _ _
  · have rb := ob.rev p.1 q.1 trivial trivial
    unfold cmpP
    by_cases e : cmpB p.1 q.1 = 0
    · rw [if_pos e, if_pos (by rw [rb, e]; rfl)]; exact o.rev _ _ hp hq
    · rw [if_neg e, if_neg (by rw [rb]; omega), rb]
  · have zb := ob.zero p.1 q.1 trivial trivial
    have z := o.zero p.2 q.2 hp hq
    obtain ⟨s, x⟩ := p
    obtain ⟨t, y⟩ := q
    unfold cmpP
    simp only at zb z ⊢
    by_cases e : cmpB s t = 0
    · rw [if_pos e, z, zb.1 e]; simp
    · rw [if_neg e]
      constructor
      · intro h; exact absurd h e
      · intro h; simp only [Prod.mk.injEq] at h; exact absurd (zb.2 h.1) e
  · obtain ⟨s, x⟩ := p
    obtain ⟨t, y⟩ := q
    obtain ⟨u, z⟩ := r
    unfold cmpP at h1 h2 ⊢
    simp only at h1 h2 ⊢
    by_cases q1 : cmpB s t = 0
    · rw [if_pos q1] at h1
      have e := (ob.zero s t trivial trivial).1 q1
      subst e
      by_cases q2 : cmpB s u = 0
      · rw [if_pos q2] at h2 ⊢
        exact o.tr x y z hp hq hr h1 h2
      · rw [if_neg q2] at h2 ⊢
        exact h2
    · rw [if_neg q1] at h1
      by_cases q2 : cmpB t u = 0
      · have e := (ob.zero t u trivial trivial).1 q2
        subst e
        rw [if_neg q1]
        exact h1
      · rw [if_neg q2] at h2
        have := ob.tr0 (a := s) (b := t) (d := u) trivial trivial trivial (by omega) h2
        rw [if_neg (by omega)]
        omega
end Go.Proofs.YtemlpjnophijfaaDoor
/- The order of texts. -/
namespace Go.Proofs.YtemlpjnophijfaaDoor
set_option linter.unusedVariables false
set_option linter.unusedSimpArgs false
def cmpU (u v : UInt8) : Int := cmpI u.toNat v.toNat
theorem ord_u : Ord3 (fun _ => True) cmpU := by
  refine ⟨fun a b => ord_int.val _ _, fun a b _ _ => ord_int.rev _ _ trivial trivial, fun a b _ _ => ?_, fun a b d _ _ _ h1 h2 => ord_int.tr _ _ _ trivial trivial trivial h1 h2⟩
  unfold cmpU
  rw [ord_int.zero _ _ trivial trivial]
  constructor
  · intro h; exact UInt8.toNat_inj.1 (by omega)
  · intro h; rw [h]
theorem bytes_lex : ∀ l m : List UInt8, (if Op.bytesLess l m then (-1 : Int) else if l == m then 0 else 1) = lexL cmpU l m
  | [], [] => rfl
  | [], _ :: _ => rfl
  | _ :: _, [] => rfl
  | a :: l, b :: m => by
    have ih := bytes_lex l m
    rcases Nat.lt_trichotomy a.toNat b.toNat with q | q | q
    · have h1 : cmpU a b = -1 := by unfold cmpU cmpI; rw [if_pos (by omega)]
      have hr : lexL cmpU (a :: l) (b :: m) = -1 := by
        unfold lexL
        rw [h1, if_neg (by decide)]
      rw [hr]
      simp [Op.bytesLess, UInt8.lt_iff_toNat_lt, q]
    · have e : a = b := UInt8.toNat_inj.1 q
      subst e
      have h1 : cmpU a a = 0 := by unfold cmpU cmpI; rw [if_neg (by omega), if_neg (by omega)]
      have hr : lexL cmpU (a :: l) (a :: m) = lexL cmpU l m := by
        unfold lexL
        rw [if_pos h1]
        cases l <;> cases m <;> rfl
      rw [hr, ← ih]
      simp [Op.bytesLess, UInt8.lt_iff_toNat_lt]
    · have h1 : cmpU a b = 1 := by unfold cmpU cmpI; rw [if_neg (by omega), if_pos (by omega)]
      have hne : ¬ a = b := fun e => by rw [e] at q; omega
      have hr : lexL cmpU (a :: l) (b :: m) = 1 := by
        unfold lexL
        rw [h1, if_neg (by decide)]
      rw [hr]
      have h3 : ¬ a.toNat < b.toNat := by omega
      simp [Op.bytesLess, UInt8.lt_iff_toNat_lt, h3, hne]
theorem cmpB_lex (a b : ByteArray) : cmpB a b = lexL cmpU a.toList b.toList := bytes_lex _ _
theorem ord_b : Ord3 (fun _ => True) cmpB := by
  have o := ord_lex ord_u
  refine ⟨fun a b => ?_, fun a b _ _ => ?_, fun a b _ _ => ?_, fun a b d _ _ _ h1 h2 => ?_⟩
  · rw [cmpB_lex]; exact o.val _ _
  · rw [cmpB_lex, cmpB_lex]; exact o.rev _ _ (fun _ _ => trivial) (fun _ _ => trivial)
  · rw [cmpB_lex, o.zero _ _ (fun _ _ => trivial) (fun _ _ => trivial)]
    constructor
    · intro h
      rw [ByteArray.toList_eq, ByteArray.toList_eq] at h
      exact ByteArray.ext (Array.toList_inj.1 h)
    · intro h; rw [h]
  · rw [cmpB_lex] at h1 h2 ⊢
    exact o.tr _ _ _ (fun _ _ => trivial) (fun _ _ => trivial) (fun _ _ => trivial) h1 h2
end Go.Proofs.YtemlpjnophijfaaDoor
/- The order of values is one. -/
namespace Go.Proofs.YtemlpjnophijfaaDoor
set_option linter.unusedVariables false
set_option linter.unusedSimpArgs false
theorem ord_map {α β : Type} {P : α → Prop} {Q : β → Prop} {c : β → β → Int} (o : Ord3 Q c) (f : α → β) (hq : ∀ a, P a → Q (f a)) (inj : ∀ a b, P a → P b → f a = f b → a = b) (D : α → α → Int) (hD : ∀ a b, P a → P b → D a b = c (f a) (f b)) (val : ∀ a b, D a b = -1 ∨ D a b = 0 ∨ D a b = 1) : Ord3 P D := by
  refine ⟨val, fun a b ha hb => ?_, fun a b ha hb => ?_, fun a b d ha hb hd h1 h2 => ?_⟩
  · rw [hD a b ha hb, hD b a hb ha]; exact o.rev _ _ (hq a ha) (hq b hb)
  · rw [hD a b ha hb, o.zero _ _ (hq a ha) (hq b hb)]
    exact ⟨fun h => inj a b ha hb h, fun h => by rw [h]⟩
  · rw [hD a b ha hb] at h1
    rw [hD b d hb hd] at h2
    rw [hD a d ha hd]
    exact o.tr _ _ _ (hq a ha) (hq b hb) (hq d hd) h1 h2
theorem ord_first {α : Type} {P : α → Prop} (f : α → Int) (D : α → α → Int) (o : ∀ k, Ord3 (fun a => P a ∧ f a = k) D) : Ord3 P (fun a b => if cmpI (f a) (f b) = 0 then D a b else cmpI (f a) (f b)) := by
  have z := fun a b => ord_int.zero (f a) (f b) trivial trivial
  have r := fun a b => ord_int.rev (f a) (f b) trivial trivial
  refine ⟨fun a b => ?_, fun a b ha hb => ?_, fun a b ha hb => ?_, fun a b d ha hb hd h1 h2 => ?_⟩
  · split
    · exact (o 0).val a b
    · exact ord_int.val _ _
  · by_cases e : cmpI (f a) (f b) = 0
    · rw [if_pos e, if_pos (by rw [r, e]; rfl)]
      exact (o (f b)).rev a b ⟨ha, (z a b).1 e⟩ ⟨hb, rfl⟩
    · rw [if_neg e, if_neg (by rw [r]; omega), r]
  · by_cases e : cmpI (f a) (f b) = 0
    · rw [if_pos e]
      exact (o (f b)).zero a b ⟨ha, (z a b).1 e⟩ ⟨hb, rfl⟩
    · rw [if_neg e]
      constructor
      · intro h; exact absurd h e
      · intro h; exact absurd ((z a b).2 (by rw [h])) e
  · by_cases e1 : cmpI (f a) (f b) = 0
    · rw [if_pos e1] at h1
      have k1 := (z a b).1 e1
      by_cases e2 : cmpI (f b) (f d) = 0
      · rw [if_pos e2] at h2
        have k2 := (z b d).1 e2
        rw [if_pos (by rw [k1]; exact e2)]
        exact (o (f d)).tr a b d ⟨ha, by rw [k1, k2]⟩ ⟨hb, k2⟩ ⟨hd, rfl⟩ h1 h2
      · rw [if_neg e2] at h2
        rw [k1, if_neg e2]; exact h2
    · rw [if_neg e1] at h1
      by_cases e2 : cmpI (f b) (f d) = 0
      · have k2 := (z b d).1 e2
        rw [← k2, if_neg e1]; exact h1
      · rw [if_neg e2] at h2
        have := ord_int.tr0 (a := f a) (b := f b) (d := f d) trivial trivial trivial (by omega) h2
        rw [if_neg (by omega)]
        omega
theorem ord_unit : Ord3 (fun _ : Unit => True) (fun _ _ => 0) := ⟨fun _ _ => Or.inr (Or.inl rfl), fun _ _ _ _ => rfl, fun _ _ _ _ => by simp, fun _ _ _ _ _ _ _ _ => Int.le_refl _⟩
/-- Numbers. -/
def cmpT (a b : Bool × ByteArray × Int) : Int := cmpN a.1 a.2.1 a.2.2 b.1 b.2.1 b.2.2
theorem cmpN_val (a b : Bool × ByteArray × Int) : cmpT a b = -1 ∨ cmpT a b = 0 ∨ cmpT a b = 1 := by
  unfold cmpT cmpN cmpSz
  repeat' split
  all_goals first | exact Or.inr (Or.inl rfl) | exact Or.inl rfl | exact Or.inr (Or.inr rfl) | exact ord_b.val _ _ | exact ord_int.val _ _
theorem ord_num : Ord3 (fun t : Bool × ByteArray × Int => isN t.1 t.2.1 t.2.2 = true) cmpT := by
  have sp : ∀ a b : Bool × ByteArray × Int, isN a.1 a.2.1 a.2.2 = true → isN b.1 b.2.1 b.2.2 = true → cmpT a b = cmpI (Zv a.1 a.2.1 a.2.2) (Zv b.1 b.2.1 b.2.2) := fun a b ha hb => cmpN_spec ha hb
  refine ord_map (Q := fun _ => True) ord_int (fun t => Zv t.1 t.2.1 t.2.2) (fun _ _ => trivial) (fun a b ha hb h => ?_) cmpT (fun a b ha hb => sp a b ha hb) cmpN_val
  have := isSum_unique (Z := Zv a.1 a.2.1 a.2.2) (r := (a.1, a.2.1, a.2.2, 0)) (r' := (b.1, b.2.1, b.2.2, 0)) (Or.inl ⟨rfl, ha, rfl⟩) (Or.inl ⟨rfl, hb, h.symm⟩)
  obtain ⟨a1, a2, a3⟩ := a
  obtain ⟨b1, b2, b3⟩ := b
  simp only [Prod.mk.injEq] at this
  obtain ⟨rfl, rfl, rfl, _⟩ := this
  rfl
/-- What compare makes of two of one kind. -/
def dV (n : Nat) (x y : VT (n + 1)) : Int :=
  if x.1.kind = 2 then cmpF x.1.flag y.1.flag
  else if x.1.kind = 3 then cmpN x.1.neg x.1.dig x.1.exp y.1.neg y.1.dig y.1.exp
  else if x.1.kind = 4 then cmpI x.1.bits y.1.bits
  else if x.1.kind = 5 ∨ x.1.kind = 6 then cmpB x.1.text y.1.text
  else if x.1.kind = 7 then lexL (cmpV n) x.2 y.2
  else if x.1.kind = 8 then lexL (cmpP (cmpV n)) (x.1.names.zip x.2) (y.1.names.zip y.2)
  else if x.1.kind = 9 then lexL (cmpP (cmpV n)) (x.2.map fun a => (x.1.text, a)) (y.2.map fun a => (y.1.text, a))
  else 0
theorem dV_val {n : Nat} (o : ∀ a b, cmpV n a b = -1 ∨ cmpV n a b = 0 ∨ cmpV n a b = 1) (x y : VT (n + 1)) : dV n x y = -1 ∨ dV n x y = 0 ∨ dV n x y = 1 := by
  have op : ∀ p q : ByteArray × VT n, cmpP (cmpV n) p q = -1 ∨ cmpP (cmpV n) p q = 0 ∨ cmpP (cmpV n) p q = 1 := fun p q => by
    unfold cmpP; split
    · exact o _ _
    · exact ord_b.val _ _
  unfold dV
  split
  · exact ord_flag.val _ _
  split
  · exact cmpN_val (_, _, _) (_, _, _)
  split
  · exact ord_int.val _ _
  split
  · exact ord_b.val _ _
  split
  · exact lex_val o _ _
  split
  · exact lex_val op _ _
  split
  · exact lex_val op _ _
  · exact Or.inr (Or.inl rfl)
theorem bare_eq {α : Type} {h g : Hd} {l m : List α} (b1 : Bare h l) (b2 : Bare g m) (hk : h.kind = g.kind) : strip h = strip g := by
  rw [b1.2.2.1, b2.2.2.1, hk]
end Go.Proofs.YtemlpjnophijfaaDoor
/- The order of values is one: for every depth. -/
namespace Go.Proofs.YtemlpjnophijfaaDoor
set_option linter.unusedVariables false
set_option linter.unusedSimpArgs false
theorem zip_inj {α β : Type} {a c : List α} {b d : List β} (h1 : a.length = b.length) (h2 : c.length = d.length) (h : a.zip b = c.zip d) : a = c ∧ b = d := by
  have e1 := congrArg (List.map Prod.fst) h
  have e2 := congrArg (List.map Prod.snd) h
  rw [List.map_fst_zip (by omega), List.map_fst_zip (by omega)] at e1
  rw [List.map_snd_zip (by omega), List.map_snd_zip (by omega)] at e2
  exact ⟨e1, e2⟩
theorem ord_v : ∀ n, Ord3 (IsV n) (cmpV n)
  | 0 => ⟨fun _ _ => Or.inr (Or.inl rfl), fun a => Empty.elim a, fun a => Empty.elim a, fun a => Empty.elim a⟩
  | n + 1 => by
    have o := ord_v n
    have op := ord_pair o ord_b
    have dv := dV_val o.val
    refine ord_first (fun x : VT (n + 1) => x.1.kind) (dV n) (fun k => ?_)
    by_cases hk : 1 ≤ k ∧ k ≤ 9
    · rcases (show k = 1 ∨ k = 2 ∨ k = 3 ∨ k = 4 ∨ k = 5 ∨ k = 6 ∨ k = 7 ∨ k = 8 ∨ k = 9 by omega) with rfl | rfl | rfl | rfl | rfl | rfl | rfl | rfl | rfl
      · refine ord_map (P := fun a : VT (n + 1) => IsV (n + 1) a ∧ a.1.kind = 1) (Q := fun _ => True) ord_unit (fun _ => ()) (fun _ _ => trivial) (fun a b ha hb h => ?_) (dV n) (fun a b ha hb => ?_) dv
        · obtain ⟨⟨ak, af, an, ad, ae, ab, at', am⟩, al⟩ := a
          obtain ⟨⟨bk, bf, bn, bd, be, bb, bt, bm⟩, bl'⟩ := b
          obtain rfl : ak = 1 := ha.2
          obtain rfl : bk = 1 := hb.2
          have e := bare_eq ha.1.1 hb.1.1 rfl
          have la : (7 : Int) ≤ 1 ∨ al = [] := ha.1.1.2.2.2
          have lb : (7 : Int) ≤ 1 ∨ bl' = [] := hb.1.1.2.2.2
          simp [strip] at e h la lb
          first | (simp_all; done) | (simp_all; rfl)
        · unfold dV
          have hk1 : a.1.kind = 1 := ha.2
          rw [hk1]
          rw [if_neg (by decide), if_neg (by decide), if_neg (by decide), if_neg (by decide), if_neg (by decide), if_neg (by decide), if_neg (by decide)]
      · refine ord_map (P := fun a : VT (n + 1) => IsV (n + 1) a ∧ a.1.kind = 2) (Q := fun _ => True) ord_flag (fun x => x.1.flag) (fun _ _ => trivial) (fun a b ha hb h => ?_) (dV n) (fun a b ha hb => ?_) dv
        · obtain ⟨⟨ak, af, an, ad, ae, ab, at', am⟩, al⟩ := a
          obtain ⟨⟨bk, bf, bn, bd, be, bb, bt, bm⟩, bl'⟩ := b
          obtain rfl : ak = 2 := ha.2
          obtain rfl : bk = 2 := hb.2
          have e := bare_eq ha.1.1 hb.1.1 rfl
          have la : (7 : Int) ≤ 2 ∨ al = [] := ha.1.1.2.2.2
          have lb : (7 : Int) ≤ 2 ∨ bl' = [] := hb.1.1.2.2.2
          simp [strip] at e h la lb
          first | (simp_all; done) | (simp_all; rfl)
        · unfold dV
          have hk1 : a.1.kind = 2 := ha.2
          rw [hk1]
          rw [if_pos (by decide)]
      · refine ord_map (P := fun a : VT (n + 1) => IsV (n + 1) a ∧ a.1.kind = 3) (Q := fun t => isN t.1 t.2.1 t.2.2 = true) ord_num (fun x => (x.1.neg, x.1.dig, x.1.exp)) (fun a ha => ha.1.2.1.1 ha.2) (fun a b ha hb h => ?_) (dV n) (fun a b ha hb => ?_) dv
        · obtain ⟨⟨ak, af, an, ad, ae, ab, at', am⟩, al⟩ := a
          obtain ⟨⟨bk, bf, bn, bd, be, bb, bt, bm⟩, bl'⟩ := b
          obtain rfl : ak = 3 := ha.2
          obtain rfl : bk = 3 := hb.2
          have e := bare_eq ha.1.1 hb.1.1 rfl
          have la : (7 : Int) ≤ 3 ∨ al = [] := ha.1.1.2.2.2
          have lb : (7 : Int) ≤ 3 ∨ bl' = [] := hb.1.1.2.2.2
          simp [strip] at e h la lb
          first | (simp_all; done) | (simp_all; rfl)
        · unfold dV
          have hk1 : a.1.kind = 3 := ha.2
          rw [hk1]
          rw [if_neg (by decide), if_pos (by decide)]
          rfl
      · refine ord_map (P := fun a : VT (n + 1) => IsV (n + 1) a ∧ a.1.kind = 4) (Q := fun _ => True) ord_int (fun x => x.1.bits) (fun _ _ => trivial) (fun a b ha hb h => ?_) (dV n) (fun a b ha hb => ?_) dv
        · obtain ⟨⟨ak, af, an, ad, ae, ab, at', am⟩, al⟩ := a
          obtain ⟨⟨bk, bf, bn, bd, be, bb, bt, bm⟩, bl'⟩ := b
          obtain rfl : ak = 4 := ha.2
          obtain rfl : bk = 4 := hb.2
          have e := bare_eq ha.1.1 hb.1.1 rfl
          have la : (7 : Int) ≤ 4 ∨ al = [] := ha.1.1.2.2.2
          have lb : (7 : Int) ≤ 4 ∨ bl' = [] := hb.1.1.2.2.2
          simp [strip] at e h la lb
          first | (simp_all; done) | (simp_all; rfl)
        · unfold dV
          have hk1 : a.1.kind = 4 := ha.2
          rw [hk1]
          rw [if_neg (by decide), if_neg (by decide), if_pos (by decide)]
      · refine ord_map (P := fun a : VT (n + 1) => IsV (n + 1) a ∧ a.1.kind = 5) (Q := fun _ => True) ord_b (fun x => x.1.text) (fun _ _ => trivial) (fun a b ha hb h => ?_) (dV n) (fun a b ha hb => ?_) dv
        · obtain ⟨⟨ak, af, an, ad, ae, ab, at', am⟩, al⟩ := a
          obtain ⟨⟨bk, bf, bn, bd, be, bb, bt, bm⟩, bl'⟩ := b
          obtain rfl : ak = 5 := ha.2
          obtain rfl : bk = 5 := hb.2
          have e := bare_eq ha.1.1 hb.1.1 rfl
          have la : (7 : Int) ≤ 5 ∨ al = [] := ha.1.1.2.2.2
          have lb : (7 : Int) ≤ 5 ∨ bl' = [] := hb.1.1.2.2.2
          simp [strip] at e h la lb
          first | (simp_all; done) | (simp_all; rfl)
        · unfold dV
          have hk1 : a.1.kind = 5 := ha.2
          rw [hk1]
          rw [if_neg (by decide), if_neg (by decide), if_neg (by decide), if_pos (by decide)]
      · refine ord_map (P := fun a : VT (n + 1) => IsV (n + 1) a ∧ a.1.kind = 6) (Q := fun _ => True) ord_b (fun x => x.1.text) (fun _ _ => trivial) (fun a b ha hb h => ?_) (dV n) (fun a b ha hb => ?_) dv
        · obtain ⟨⟨ak, af, an, ad, ae, ab, at', am⟩, al⟩ := a
          obtain ⟨⟨bk, bf, bn, bd, be, bb, bt, bm⟩, bl'⟩ := b
          obtain rfl : ak = 6 := ha.2
          obtain rfl : bk = 6 := hb.2
          have e := bare_eq ha.1.1 hb.1.1 rfl
          have la : (7 : Int) ≤ 6 ∨ al = [] := ha.1.1.2.2.2
          have lb : (7 : Int) ≤ 6 ∨ bl' = [] := hb.1.1.2.2.2
          simp [strip] at e h la lb
          first | (simp_all; done) | (simp_all; rfl)
        · unfold dV
          have hk1 : a.1.kind = 6 := ha.2
          rw [hk1]
          rw [if_neg (by decide), if_neg (by decide), if_neg (by decide), if_pos (by decide)]
      · refine ord_map (P := fun a : VT (n + 1) => IsV (n + 1) a ∧ a.1.kind = 7) (Q := fun l => ∀ a ∈ l, IsV n a) (ord_lex o) (fun x => x.2) (fun a ha => ha.1.2.2) (fun a b ha hb h => ?_) (dV n) (fun a b ha hb => ?_) dv
        · obtain ⟨⟨ak, af, an, ad, ae, ab, at', am⟩, al⟩ := a
          obtain ⟨⟨bk, bf, bn, bd, be, bb, bt, bm⟩, bl'⟩ := b
          obtain rfl : ak = 7 := ha.2
          obtain rfl : bk = 7 := hb.2
          have e := bare_eq ha.1.1 hb.1.1 rfl
          have la : (7 : Int) ≤ 7 ∨ al = [] := ha.1.1.2.2.2
          have lb : (7 : Int) ≤ 7 ∨ bl' = [] := hb.1.1.2.2.2
          simp [strip] at e h la lb
          first | (simp_all; done) | (simp_all; rfl)
        · unfold dV
          have hk1 : a.1.kind = 7 := ha.2
          rw [hk1]
          rw [if_neg (by decide), if_neg (by decide), if_neg (by decide), if_neg (by decide), if_pos (by decide)]
      · refine ord_map (P := fun a : VT (n + 1) => IsV (n + 1) a ∧ a.1.kind = 8) (Q := fun l => ∀ a ∈ l, IsV n a.2) (ord_lex op) (fun x => x.1.names.zip x.2) (fun a ha p hp => ha.1.2.2 _ (List.of_mem_zip hp).2) (fun a b ha hb h => ?_) (dV n) (fun a b ha hb => ?_) dv
        · obtain ⟨⟨ak, af, an, ad, ae, ab, at', am⟩, al⟩ := a
          obtain ⟨⟨bk, bf, bn, bd, be, bb, bt, bm⟩, bl'⟩ := b
          obtain rfl : ak = 8 := ha.2
          obtain rfl : bk = 8 := hb.2
          have e := bare_eq ha.1.1 hb.1.1 rfl
          have la : (7 : Int) ≤ 8 ∨ al = [] := ha.1.1.2.2.2
          have lb : (7 : Int) ≤ 8 ∨ bl' = [] := hb.1.1.2.2.2
          have na : am.length = al.length := (ha.1.2.1.2.2.1 rfl).1
          have nb : bm.length = bl'.length := (hb.1.2.1.2.2.1 rfl).1
          obtain ⟨rfl, rfl⟩ := zip_inj na nb h
          simp [strip] at e h la lb
          first | (simp_all; done) | (simp_all; rfl)
        · unfold dV
          have hk1 : a.1.kind = 8 := ha.2
          rw [hk1]
          rw [if_neg (by decide), if_neg (by decide), if_neg (by decide), if_neg (by decide), if_neg (by decide), if_pos (by decide)]
      · refine ord_map (P := fun a : VT (n + 1) => IsV (n + 1) a ∧ a.1.kind = 9) (Q := fun l => ∀ a ∈ l, IsV n a.2) (ord_lex op) (fun x => x.2.map fun a => (x.1.text, a)) (fun a ha p hp => by obtain ⟨q, hq, rfl⟩ := List.mem_map.1 hp; exact ha.1.2.2 q hq) (fun a b ha hb h => ?_) (dV n) (fun a b ha hb => ?_) dv
        · obtain ⟨⟨ak, af, an, ad, ae, ab, at', am⟩, al⟩ := a
          obtain ⟨⟨bk, bf, bn, bd, be, bb, bt, bm⟩, bl'⟩ := b
          obtain rfl : ak = 9 := ha.2
          obtain rfl : bk = 9 := hb.2
          have e := bare_eq ha.1.1 hb.1.1 rfl
          have la : (7 : Int) ≤ 9 ∨ al = [] := ha.1.1.2.2.2
          have lb : (7 : Int) ≤ 9 ∨ bl' = [] := hb.1.1.2.2.2
          have na : al.length = 1 := (ha.1.2.1.2.2.2 rfl).2
          have nb : bl'.length = 1 := (hb.1.2.1.2.2.2 rfl).2
          obtain ⟨p, rfl⟩ := List.length_eq_one_iff.1 na
          obtain ⟨q, rfl⟩ := List.length_eq_one_iff.1 nb
          simp [strip] at e h la lb
          first | (simp_all; done) | (simp_all; rfl)
        · unfold dV
          have hk1 : a.1.kind = 9 := ha.2
          rw [hk1]
          rw [if_neg (by decide), if_neg (by decide), if_neg (by decide), if_neg (by decide), if_neg (by decide), if_neg (by decide), if_pos (by decide)]
    · refine ⟨dv, fun a b ha hb => ?_, fun a b ha hb => ?_, fun a b d ha hb hd _ _ => ?_⟩
      all_goals
        exfalso
        apply hk
        have h1 := ha.1.1.1
        have h2 := ha.1.1.2.1
        have h3 : a.1.kind = k := ha.2
        exact ⟨by omega, by omega⟩
end Go.Proofs.YtemlpjnophijfaaDoor
