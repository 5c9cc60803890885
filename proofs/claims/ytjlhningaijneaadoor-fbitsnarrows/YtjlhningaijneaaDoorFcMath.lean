/- math's Abs, IsNaN, IsInf, normalize, frexp, ldexp at numbers from 0 up: walked. -/
import Derived.Test.YtjlhningaijneaaDoorFbOrd
import Derived.Test.YtjlhningaijneaaDoorChecked
import Derived.WalkKit
import Derived.WalkSpells
import Derived.WalkLawsBesides
import Derived.Laws.Externs
import Derived.Outline
namespace Go.Proofs.YtjlhningaijneaaDoor
open Go.RowKit
set_option linter.unusedSimpArgs false
set_option linter.unusedVariables false
theorem bits_run (x : Nat) (w : World) : (callFunc 40 #[.float .f64 x]).run Tryd.prog w = .ok (.value (.int .u64 x)) w := by
  rw [run_callFunc_extern Tryd.func40 (by kernel_rfl) (by kernel_rfl) (by kernel_rfl) (e := Extern.MathFloatBits.float64bits) (by kernel_rfl)]
  rfl
theorem frombits_run (x : Int) (w : World) : (callFunc 44 #[.int .u64 x]).run Tryd.prog w = .ok (.value (.float .f64 x.toNat)) w := by
  rw [run_callFunc_extern Tryd.func44 (by kernel_rfl) (by kernel_rfl) (by kernel_rfl) (e := Extern.MathFloatBits.float64frombits) (by kernel_rfl)]
  rfl
theorem abs_any (x : Nat) (w : World) (hx : Fin64 x) :
    Calls Tryd.prog 54 #[.float .f64 x] w fun e w' => e = .returned (.float .f64 x) ∧ w' = w := by
  have hb := abs_word x (by unfold Fin64 at hx; omega)
  clear hx
  go_enter Tryd.func54, Tryd.ntmps54
  go_wp2_with (first | rw [bits_run] | rw [frombits_run])
  go_ret
  exact ⟨rfl, rfl⟩
theorem isNaN_any (x : Nat) (w : World) (hx : Fin64 x) :
    Calls Tryd.prog 50 #[.float .f64 x] w fun e w' => e = .returned (.bool false) ∧ w' = w := by
  have hb := order_self x hx
  clear hx
  go_enter Tryd.func50, Tryd.ntmps50
  go_wp2
  go_ret
  exact ⟨rfl, rfl⟩
theorem isInf_any (x : Nat) (w : World) (hx : Fin64 x) :
    Calls Tryd.prog 49 #[.float .f64 x, .int .i64 0] w fun e w' => e = .returned (.bool false) ∧ w' = w := by
  have hb := order_max x hx
  go_enter Tryd.func49, Tryd.ntmps49
  go_wp2_with (go_at_call 54; go_fit (abs_any x _ hx); rintro e w' ⟨rfl, rfl⟩)
  go_ret
  exact ⟨rfl, rfl⟩
theorem normalize_norm (x : Nat) (w : World) (hx : Fin64 x) (hn : 4503599627370496 ≤ x) :
    Calls Tryd.prog 51 #[.float .f64 x] w fun e w' => e = .returned (.tuple #[.float .f64 x, .int .i64 0]) ∧ w' = w := by
  have hb := order_norm x hx hn
  go_enter Tryd.func51, Tryd.ntmps51
  go_wp2_with (go_at_call 54; go_fit (abs_any x _ hx); rintro e w' ⟨rfl, rfl⟩)
  exact bodyPost_ret (v := .tuple #[.float .f64 x, .int .i64 0]) (by simp [results, Tryd.results51, go_sem]) rfl ⟨rfl, rfl⟩
open Ieee in
theorem mul_up (x t : Nat) (h1 : 4503599627370496 ≤ x * 2 ^ t) (h2 : x * 2 ^ t < 9007199254740992) (hx : x < 4503599627370496) (ht : t ≤ 52) : FloatKind.f64.format.mul x 4841369599423283200 = some ((53 - t) * 4503599627370496 + (x * 2 ^ t - 4503599627370496)) := by
  show double.mul x 4841369599423283200 = _
  unfold Format.mul
  rw [read_low x hx, show (4841369599423283200 : Nat) = 1075 * 4503599627370496 + 0 from rfl, read_norm 1075 0 (by omega) (by omega) (by omega)]
  show some (double.nearest false (x * 4503599627370496) _) = _
  rw [nearest_prod false (x * 2 ^ t) (-1022 - t) _ (52 - t) _ ?_ ?_ h1 h2 (by omega) (by omega)]
  · refine congrArg some ?_
    unfold Format.word
    rw [if_neg (by decide), show ((-1022 : Int) - t + 1074).toNat = 52 - t by omega]
    omega
  · rw [Nat.mul_assoc, ← Nat.pow_add, show t + (52 - t) = 52 by omega]
  · omega
theorem normalize_sub (x t : Nat) (w : World) (h1 : 4503599627370496 ≤ x * 2 ^ t) (h2 : x * 2 ^ t < 9007199254740992) (hx : x < 4503599627370496) (ht : t ≤ 52) :
    Calls Tryd.prog 51 #[.float .f64 x] w fun e w' => e = .returned (.tuple #[.float .f64 ((53 - t) * 4503599627370496 + (x * 2 ^ t - 4503599627370496)), .int .i64 (-52)]) ∧ w' = w := by
  have hb := order_sub x hx
  have hm := mul_up x t h1 h2 hx ht
  have hf := hide (show Fin64 x by unfold Fin64; omega)
  obtain ⟨y, hy⟩ : ∃ y, (53 - t) * 4503599627370496 + (x * 2 ^ t - 4503599627370496) = y := ⟨_, rfl⟩
  rw [hy] at hm ⊢
  have hr : ∀ w, (binOp .mul 64 (.float .f64 x) (.float .f64 4841369599423283200)).run Tryd.prog w = .ok (.float .f64 y) w := fun w => run_float_arith w .mul _ .f64 x _ y hm
  clear hy h1 h2 hx ht hm
  go_enter Tryd.func51, Tryd.ntmps51
  go_wp2_with (go_at_call 54; go_fit (abs_any x _ hf.out); rintro e w' ⟨rfl, rfl⟩)
  exact bodyPost_ret (v := .tuple #[.float .f64 y, .int .i64 (-52)]) (by simp [results, Tryd.results51, go_sem]) rfl ⟨rfl, rfl⟩
end Go.Proofs.YtjlhningaijneaaDoor
