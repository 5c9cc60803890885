/- bytes.Clone and num.Bytes: walked. -/
import Derived.Test.YtjpdlibncmldlaaDoorOdTen
import Derived.Test.YtjpdlibncmldlaaDoorOaAppend
import Derived.Test.YtjpdlibncmldlaaDoorNfTrim
import Derived.Test.YtjpdlibncmldlaaDoorNqAdd
import Derived.Test.YtjpdlibncmldlaaDoorNrSum
import Derived.Outline
namespace Go.Proofs.YtjpdlibncmldlaaDoor
open Go.RowKit
set_option linter.unusedSimpArgs false
set_option linter.unusedVariables false
theorem clone_nil (w : World) : Calls Tryd.prog 54 #[.slice none 0 0] w fun e w' => e = .returned (.slice none 0 0) ∧ w' = w := by
  have q37 : ∀ (w : World) (a : Option Addr) (n c n' c' : Nat), (binOp .eql 37 (.slice a n c) (.slice none n' c')).run Tryd.prog w = .ok (.bool a.isNone) w := fun w a n c n' c' => Lib.run_eql_slice_nil w _ _ a n c n' c' Tryd.underlying37
  go_enter Tryd.func54, Tryd.ntmps54
  go_wp2
  go_ret
  exact ⟨rfl, rfl⟩
theorem own_empty (w : World) : Own (w.alloc (.cells #[] 5)) w.heap.size (.slice (some ⟨w.heap.size, 0, none⟩) 0 0) [] := by
  refine ⟨rfl, Or.inr ⟨w.heap.size, 0, #[], rfl, Nat.le_refl _, ?_, Nat.le_refl _, Nat.zero_le _, rfl, rfl⟩⟩
  show (w.heap.push _)[w.heap.size]? = _
  simp
theorem clone_some (b o n c : Nat) (l : List UInt8) (w : World) (hl : l.length = n) (hn : n ≤ 1000) (hb : b < w.heap.size) (hcell : ∀ i (h : i < l.length), w.cell? ⟨b, o + i, none⟩ = some (.int .u8 (l[i].toNat : Int))) :
    Calls Tryd.prog 54 #[.slice (some ⟨b, o, none⟩) n c] w fun e w' => ∃ v', e = .returned v' ∧ Hid (Own w' w.heap.size v' l) ∧ Hid (Below w.heap.size w w') := by
  have q37 : ∀ (w : World) (a : Option Addr) (n c n' c' : Nat), (binOp .eql 37 (.slice a n c) (.slice none n' c')).run Tryd.prog w = .ok (.bool a.isNone) w := fun w a n c n' c' => Lib.run_eql_slice_nil w _ _ a n c n' c' Tryd.underlying37
  have hnews := hide (show ∀ j u, (bcs l)[j]? = some u → (w.alloc (.cells #[] 5)).cell? ((⟨b, o, none⟩ : Addr).add j) = some u from fun j u hj => by
    have hjl : j < l.length := by
      rcases Nat.lt_or_ge j l.length with h | h
      · exact h
      · rw [List.getElem?_eq_none (by rw [bcs_length]; exact h)] at hj; cases hj
    have e1 : (⟨b, o, none⟩ : Addr).add j = ⟨b, o + j, none⟩ := by unfold Addr.add; split <;> simp_all
    rw [e1, ((Below.refl w.heap.size w).alloc (Nat.le_refl _) _).cell (p := ⟨b, o + j, none⟩) hb, hcell j hjl]
    simp [bcs, List.getElem?_eq_getElem hjl] at hj
    rw [hj])
  have hl := hide hl
  have hoe := hide (own_empty w)
  clear hcell
  go_enter Tryd.func54, Tryd.ntmps54
  go_wp2_with (at_builtin; refine app_bytes rfl (.tmp 5) (.tmp 6) rfl w.heap.size _ [] rfl hoe.out ⟨b, o, none⟩ n c l rfl hl.out hnews.out (by simp; omega) (by simp) ?_; intro v1 w1 h1 h2 h3)
  go_ret
  exact ⟨_, rfl, h1.out, ((Below.refl _ w).alloc (Nat.le_refl _) _).trans h2.out⟩
end Go.Proofs.YtjpdlibncmldlaaDoor
