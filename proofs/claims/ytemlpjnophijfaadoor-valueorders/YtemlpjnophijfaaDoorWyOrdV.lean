/- The order of values is one. -/
import Derived.Test.YtemlpjnophijfaaDoorWyOrdB
import Derived.Test.YtemlpjnophijfaaDoorNrSum
namespace Go.Proofs.YtemlpjnophijfaaDoor
set_option linter.unusedVariables false
set_option linter.unusedSimpArgs false
theorem ord_map {α β : Type} {P : α → Prop} {Q : β → Prop} {c : β → β → Int} (o : Ord3 Q c) (f : α → β) (hq : ∀ a, P a → Q (f a)) (inj : ∀ a b, P a → P b → f a = f b → a = b) (D : α → α → Int) (hD : ∀ a b, P a → P b → D a b = c (f a) (f b)) (val : ∀ a b, D a b = -1 ∨ D a b = 0 ∨ D a b = 1) : Ord3 P D := by
  refine ⟨val, fun a b ha hb => ?_, fun a b ha hb => ?_, fun a b d ha hb hd h1 h2 => ?_⟩
  · rw [hD a b ha hb, hD b a hb ha]; exact o.rev _ _ (hq a ha) (hq b hb)
  · rw [hD a b ha hb, o.zero _ _ (hq a ha) (hq b hb)]
    exact ⟨fun h => inj a b ha hb h, fun h => by rw [h]⟩
  · rw [hD a b ha hb] at h1
    rw [hD b d hb hd] at h2
    rw [hD a d ha hd]
    exact o.tr _ _ _ (hq a ha) (hq b hb) (hq d hd) h1 h2
theorem ord_first {α : Type} {P : α → Prop} (f : α → Int) (D : α → α → Int) (o : ∀ k, Ord3 (fun a => P a ∧ f a = k) D) : Ord3 P (fun a b => if cmpI (f a) (f b) = 0 then D a b else cmpI (f a) (f b)) := by
  have z := fun a b => ord_int.zero (f a) (f b) trivial trivial
  have r := fun a b => ord_int.rev (f a) (f b) trivial trivial
  refine ⟨fun a b => ?_, fun a b ha hb => ?_, fun a b ha hb => ?_, fun a b d ha hb hd h1 h2 => ?_⟩
  · split
    · exact (o 0).val a b
    · exact ord_int.val _ _
  · by_cases e : cmpI (f a) (f b) = 0
    · rw [if_pos e, if_pos (by rw [r, e]; rfl)]
      exact (o (f b)).rev a b ⟨ha, (z a b).1 e⟩ ⟨hb, rfl⟩
    · rw [if_neg e, if_neg (by rw [r]; omega), r]
  · by_cases e : cmpI (f a) (f b) = 0
    · rw [if_pos e]
      exact (o (f b)).zero a b ⟨ha, (z a b).1 e⟩ ⟨hb, rfl⟩
    · rw [if_neg e]
      constructor
      · intro h; exact absurd h e
      · intro h; exact absurd ((z a b).2 (by rw [h])) e
  · by_cases e1 : cmpI (f a) (f b) = 0
    · rw [if_pos e1] at h1
      have k1 := (z a b).1 e1
      by_cases e2 : cmpI (f b) (f d) = 0
      · rw [if_pos e2] at h2
        have k2 := (z b d).1 e2
        rw [if_pos (by rw [k1]; exact e2)]
        exact (o (f d)).tr a b d ⟨ha, by rw [k1, k2]⟩ ⟨hb, k2⟩ ⟨hd, rfl⟩ h1 h2
      · rw [if_neg e2] at h2
        rw [k1, if_neg e2]; exact h2
    · rw [if_neg e1] at h1
      by_cases e2 : cmpI (f b) (f d) = 0
      · have k2 := (z b d).1 e2
        rw [← k2, if_neg e1]; exact h1
      · rw [if_neg e2] at h2
        have := ord_int.tr0 (a := f a) (b := f b) (d := f d) trivial trivial trivial (by omega) h2
        rw [if_neg (by omega)]
        omega
theorem ord_unit : Ord3 (fun _ : Unit => True) (fun _ _ => 0) := ⟨fun _ _ => Or.inr (Or.inl rfl), fun _ _ _ _ => rfl, fun _ _ _ _ => by simp, fun _ _ _ _ _ _ _ _ => Int.le_refl _⟩
/-- Numbers. -/
def cmpT (a b : Bool × ByteArray × Int) : Int := cmpN a.1 a.2.1 a.2.2 b.1 b.2.1 b.2.2
theorem cmpN_val (a b : Bool × ByteArray × Int) : cmpT a b = -1 ∨ cmpT a b = 0 ∨ cmpT a b = 1 := by
  unfold cmpT cmpN cmpSz
  repeat' split
  all_goals first | exact Or.inr (Or.inl rfl) | exact Or.inl rfl | exact Or.inr (Or.inr rfl) | exact ord_b.val _ _ | exact ord_int.val _ _
theorem ord_num : Ord3 (fun t : Bool × ByteArray × Int => isN t.1 t.2.1 t.2.2 = true) cmpT := by
  have sp : ∀ a b : Bool × ByteArray × Int, isN a.1 a.2.1 a.2.2 = true → isN b.1 b.2.1 b.2.2 = true → cmpT a b = cmpI (Zv a.1 a.2.1 a.2.2) (Zv b.1 b.2.1 b.2.2) := fun a b ha hb => cmpN_spec ha hb
  refine ord_map (Q := fun _ => True) ord_int (fun t => Zv t.1 t.2.1 t.2.2) (fun _ _ => trivial) (fun a b ha hb h => ?_) cmpT (fun a b ha hb => sp a b ha hb) cmpN_val
  have := isSum_unique (Z := Zv a.1 a.2.1 a.2.2) (r := (a.1, a.2.1, a.2.2, 0)) (r' := (b.1, b.2.1, b.2.2, 0)) (Or.inl ⟨rfl, ha, rfl⟩) (Or.inl ⟨rfl, hb, h.symm⟩)
  obtain ⟨a1, a2, a3⟩ := a
  obtain ⟨b1, b2, b3⟩ := b
  simp only [Prod.mk.injEq] at this
  obtain ⟨rfl, rfl, rfl, _⟩ := this
  rfl
/-- What compare makes of two of one kind. -/
def dV (n : Nat) (x y : VT (n + 1)) : Int :=
  if x.1.kind = 2 then cmpF x.1.flag y.1.flag
  else if x.1.kind = 3 then cmpN x.1.neg x.1.dig x.1.exp y.1.neg y.1.dig y.1.exp
  else if x.1.kind = 4 then cmpI x.1.bits y.1.bits
  else if x.1.kind = 5 ∨ x.1.kind = 6 then cmpB x.1.text y.1.text
  else if x.1.kind = 7 then lexL (cmpV n) x.2 y.2
  else if x.1.kind = 8 then lexL (cmpP (cmpV n)) (x.1.names.zip x.2) (y.1.names.zip y.2)
  else if x.1.kind = 9 then lexL (cmpP (cmpV n)) (x.2.map fun a => (x.1.text, a)) (y.2.map fun a => (y.1.text, a))
  else 0
theorem dV_val {n : Nat} (o : ∀ a b, cmpV n a b = -1 ∨ cmpV n a b = 0 ∨ cmpV n a b = 1) (x y : VT (n + 1)) : dV n x y = -1 ∨ dV n x y = 0 ∨ dV n x y = 1 := by
  have op : ∀ p q : ByteArray × VT n, cmpP (cmpV n) p q = -1 ∨ cmpP (cmpV n) p q = 0 ∨ cmpP (cmpV n) p q = 1 := fun p q => by
    unfold cmpP; split
    · exact o _ _
    · exact ord_b.val _ _
  unfold dV
  split
  · exact ord_flag.val _ _
  split
  · exact cmpN_val (_, _, _) (_, _, _)
  split
  · exact ord_int.val _ _
  split
  · exact ord_b.val _ _
  split
  · exact lex_val o _ _
  split
  · exact lex_val op _ _
  split
  · exact lex_val op _ _
  · exact Or.inr (Or.inl rfl)
theorem bare_eq {α : Type} {h g : Hd} {l m : List α} (b1 : Bare h l) (b2 : Bare g m) (hk : h.kind = g.kind) : strip h = strip g := by
  rw [b1.2.2.1, b2.2.2.1, hk]
end Go.Proofs.YtemlpjnophijfaaDoor
