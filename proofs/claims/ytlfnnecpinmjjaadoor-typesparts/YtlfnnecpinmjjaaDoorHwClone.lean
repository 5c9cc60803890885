/- slices.Clone of strings and of types: walked. -/
import Derived.Test.YtlfnnecpinmjjaaDoorHvCopied
namespace Go.Proofs.YtlfnnecpinmjjaaDoor
open Go.RowKit Go.Maps
set_option linter.unusedSimpArgs false
set_option linter.unusedVariables false
theorem eq_nilS (w : World) : Sem.run Tryd.prog (binOp .eql 23 (.slice none 0 0) (.slice none 0 0)) w = .ok (.bool true) w := by kernel_rfl
theorem eq_someS (ad : Addr) (n c : Nat) (w : World) : Sem.run Tryd.prog (binOp .eql 23 (.slice (some ad) n c) (.slice none 0 0)) w = .ok (.bool false) w := by kernel_rfl
theorem eq_nilT (w : World) : Sem.run Tryd.prog (binOp .eql 24 (.slice none 0 0) (.slice none 0 0)) w = .ok (.bool true) w := by kernel_rfl
theorem eq_someT (ad : Addr) (n c : Nat) (w : World) : Sem.run Tryd.prog (binOp .eql 24 (.slice (some ad) n c) (.slice none 0 0)) w = .ok (.bool false) w := by kernel_rfl
section
variable {w : World} {ops : Array Oper} {rest : List Oper} {o : Oper} {a : Act} {Q : Exit → Act → World → Prop}
theorem app_S (hgd : o.guard = none) (s x : Operand) (ho : o.op = .call { callee := .builtin .append, args := #[s, x], argTypes := #[23, 23] })
    (w0 : World) (hb : w = w0.alloc (.cells #[] 9)) (hs : a.eval s = .slice (some ⟨w0.heap.size, 0, none⟩) 0 0) (ad : Addr) (n cn : Nat) (l : List ByteArray) (hx : a.eval x = .slice (some ad) n cn) (hn : l.length = n) (hl : NL w0 (.slice (some ad) n cn) l) (hm : n ≤ 200000)
    (h : ∀ av c' w', Hid (OwnS w' w0.heap.size (.slice av n c') l) → Hid (Below w0.heap.size w0 w') → wpList Tryd.prog ops Q rest (a.put o.dst (.slice av n c')) w') : wpList Tryd.prog ops Q (o :: rest) a w := by
  obtain ⟨i0, hi, hz0, hz1, hz2⟩ := info_parts info9
  have hown : w.ownsRow w0.heap.size 9 1 (.slice (some ⟨w0.heap.size, 0, none⟩) 0 0) 0 [] := ⟨rfl, Or.inr ⟨w0.heap.size, 0, #[], rfl, Nat.le_refl _, by rw [hb]; exact heap_alloc_last w0 _, Nat.le_refl _, by decide, rfl, rfl⟩⟩
  have hlw : NL w (.slice (some ad) n cn) l := by rw [hb]; exact hl.below (below_al (Below.refl _ _))
  refine wpList_append_own_at w hgd s x 23 ho w0.heap.size 9 i0 (.string ⟨#[]⟩) 1 16 Tryd.underlying23 hi hz0 hz1 hz2 rfl (by decide) _ 0 [] hs hown ad n cn (scs l) hx (by rw [scs_length, hn]; simp) (NL.news hlw (b := 0) (o := 0) (sp := 0)) (scs_one _) (by unfold maxLen; omega) (by omega) (by rw [hb]; simp) ?_
  intro v' w' h1 h2 h3 _
  simp only [Nat.zero_add, List.nil_append] at h1
  have h1' : OwnS w' w0.heap.size v' l := by unfold OwnS; rw [hn]; exact h1
  have hb' : Below w0.heap.size w0 w' := (show Below w0.heap.size w0 w by rw [hb]; exact below_al (Below.refl _ _)).grown h2 (by rw [hb]; simp) (fun k hk => by cases hk; exact Nat.le_refl _)
  rcases h1.2 with ⟨rfl, e⟩ | ⟨g, cap, cur, rfl, _⟩
  · subst e; exact h none 0 w' h1' hb'
  · exact h _ _ w' h1' hb'
end
set_option maxHeartbeats 1000000 in
set_option maxRecDepth 100000 in
theorem cloneS_any (v : Value) (l : List ByteArray) (w : World) (hv : NL w v l) (hl : l.length ≤ 200000) :
    Calls Tryd.prog 77 #[v] w fun e w' => ∃ a c, e = .returned (.slice a l.length c) ∧ Hid (OwnS w' w.heap.size (.slice a l.length c) l) ∧ Below w.heap.size w w' := by
  obtain ⟨av, cv, rfl, hv1, hv2⟩ := hv.len
  have hv := hide hv
  cases av with
  | none =>
    have h0 : l = [] ∧ cv = 0 := by
      rcases hv.out with ⟨e2, e⟩ | ⟨_, _, _, _, e, _⟩
      · simp only [Value.slice.injEq] at e2; exact ⟨e, e2.2.2⟩
      · cases e
    obtain ⟨rfl, rfl⟩ := h0
    have he := eq_nilS
    go_enter Tryd.func77, Tryd.ntmps77
    go_wp2_with fail
    go_ret
    exact ⟨none, 0, rfl, World.ownsRow_nil _ _ _ _, Below.refl _ _⟩
  | some ad =>
    have he := eq_someS ad l.length cv
    go_enter Tryd.func77, Tryd.ntmps77
    go_wp2_with (at_builtin; refine app_S rfl (.tmp 5) (.tmp 6) rfl w rfl rfl ad l.length cv l rfl rfl hv.out hl ?_; intro av c' w1 ho1 hb1)
    go_ret
    exact ⟨av, c', rfl, ho1.out, hb1.out⟩
end Go.Proofs.YtlfnnecpinmjjaaDoor
