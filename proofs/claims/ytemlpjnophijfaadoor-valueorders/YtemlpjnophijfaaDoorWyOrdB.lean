/- The order of texts. -/
import Derived.Test.YtemlpjnophijfaaDoorWyOrd
namespace Go.Proofs.YtemlpjnophijfaaDoor
set_option linter.unusedVariables false
set_option linter.unusedSimpArgs false
def cmpU (u v : UInt8) : Int := cmpI u.toNat v.toNat
theorem ord_u : Ord3 (fun _ => True) cmpU := by
  refine ⟨fun a b => ord_int.val _ _, fun a b _ _ => ord_int.rev _ _ trivial trivial, fun a b _ _ => ?_, fun a b d _ _ _ h1 h2 => ord_int.tr _ _ _ trivial trivial trivial h1 h2⟩
  unfold cmpU
  rw [ord_int.zero _ _ trivial trivial]
  constructor
  · intro h; exact UInt8.toNat_inj.1 (by omega)
  · intro h; rw [h]
theorem bytes_lex : ∀ l m : List UInt8, (if Op.bytesLess l m then (-1 : Int) else if l == m then 0 else 1) = lexL cmpU l m
  | [], [] => rfl
  | [], _ :: _ => rfl
  | _ :: _, [] => rfl
  | a :: l, b :: m => by
    have ih := bytes_lex l m
    rcases Nat.lt_trichotomy a.toNat b.toNat with q | q | q
    · have h1 : cmpU a b = -1 := by unfold cmpU cmpI; rw [if_pos (by omega)]
      have hr : lexL cmpU (a :: l) (b :: m) = -1 := by
        unfold lexL
        rw [h1, if_neg (by decide)]
      rw [hr]
      simp [Op.bytesLess, UInt8.lt_iff_toNat_lt, q]
    · have e : a = b := UInt8.toNat_inj.1 q
      subst e
      have h1 : cmpU a a = 0 := by unfold cmpU cmpI; rw [if_neg (by omega), if_neg (by omega)]
      have hr : lexL cmpU (a :: l) (a :: m) = lexL cmpU l m := by
        unfold lexL
        rw [if_pos h1]
        cases l <;> cases m <;> rfl
      rw [hr, ← ih]
      simp [Op.bytesLess, UInt8.lt_iff_toNat_lt]
    · have h1 : cmpU a b = 1 := by unfold cmpU cmpI; rw [if_neg (by omega), if_pos (by omega)]
      have hne : ¬ a = b := fun e => by rw [e] at q; omega
      have hr : lexL cmpU (a :: l) (b :: m) = 1 := by
        unfold lexL
        rw [h1, if_neg (by decide)]
      rw [hr]
      have h3 : ¬ a.toNat < b.toNat := by omega
      simp [Op.bytesLess, UInt8.lt_iff_toNat_lt, h3, hne]
theorem cmpB_lex (a b : ByteArray) : cmpB a b = lexL cmpU a.toList b.toList := bytes_lex _ _
theorem ord_b : Ord3 (fun _ => True) cmpB := by
  have o := ord_lex ord_u
  refine ⟨fun a b => ?_, fun a b _ _ => ?_, fun a b _ _ => ?_, fun a b d _ _ _ h1 h2 => ?_⟩
  · rw [cmpB_lex]; exact o.val _ _
  · rw [cmpB_lex, cmpB_lex]; exact o.rev _ _ (fun _ _ => trivial) (fun _ _ => trivial)
  · rw [cmpB_lex, o.zero _ _ (fun _ _ => trivial) (fun _ _ => trivial)]
    constructor
    · intro h
      rw [ByteArray.toList_eq, ByteArray.toList_eq] at h
      exact ByteArray.ext (Array.toList_inj.1 h)
    · intro h; rw [h]
  · rw [cmpB_lex] at h1 h2 ⊢
    exact o.tr _ _ _ (fun _ _ => trivial) (fun _ _ => trivial) (fun _ _ => trivial) h1 h2
end Go.Proofs.YtemlpjnophijfaaDoor
