/- utf's spans: next, step: walked. -/
import Derived.Test.YtjidnceccpmheaaDoorUaMath
import Derived.Test.YtjidnceccpmheaaDoorRows
import Derived.WalkKit
import Derived.WalkSpells
import Derived.WalkLawsBesides
import Derived.Outline
import Derived.Laws.Rows
namespace Go.Proofs.YtjidnceccpmheaaDoor.Ut
open Go.RowKit
set_option linter.unusedSimpArgs false
set_option linter.unusedVariables false
theorem hide {p : Prop} (h : p) : Hid p := h
/-- Four spans, as the program holds them. -/
def sp (a b c d e f g h : Nat) : Value := .agg #[.int .u8 a, .int .u8 b, .int .u8 c, .int .u8 d, .int .u8 e, .int .u8 f, .int .u8 g, .int .u8 h]
theorem below_al {w W : World} {o : Obj} (h : Below w.heap.size w W) : Below w.heap.size w (W.alloc o) := h.alloc h.size o
theorem below_set {w W : World} {i o : Nat} {v : Value} (h : Below w.heap.size w W) (hi : w.heap.size ≤ i) : Below w.heap.size w (W.setCell ⟨i, o, none⟩ v) := h.setCell hi v
theorem below_then {w W W1 : World} (h : Below w.heap.size w W) (hb : Below W.heap.size W W1) : Below w.heap.size w W1 := h.trans (hb.mono h.size)
theorem next_any (a b c d e f g h n : Nat) (w : World) :
    Calls Tryd.prog 44 #[sp a b c d e f g h, .int .u8 n] w fun r w' => r = .returned (.tuple (if a ≤ n ∧ n ≤ b then #[sp c d e f g h 0 0, .bool true] else #[sp 0 0 0 0 0 0 0 0, .bool false])) ∧ Below w.heap.size w w' := by
  unfold sp
  by_cases h1 : (n : Int) < a
  · rw [if_neg (by omega)]
    go_enter Tryd.func44, Tryd.ntmps44
    go_wp2
    exact bodyPost_ret (v := .tuple #[.agg #[.int .u8 0, .int .u8 0, .int .u8 0, .int .u8 0, .int .u8 0, .int .u8 0, .int .u8 0, .int .u8 0], .bool false]) (by simp [results, Tryd.results44, go_sem]) rfl ⟨rfl, below_al (below_al (Below.refl _ _))⟩
  · by_cases h2 : (b : Int) < n
    · rw [if_neg (by omega)]
      go_enter Tryd.func44, Tryd.ntmps44
      go_wp2
      exact bodyPost_ret (v := .tuple #[.agg #[.int .u8 0, .int .u8 0, .int .u8 0, .int .u8 0, .int .u8 0, .int .u8 0, .int .u8 0, .int .u8 0], .bool false]) (by simp [results, Tryd.results44, go_sem]) rfl ⟨rfl, below_al (below_al (Below.refl _ _))⟩
    · rw [if_pos (by omega)]
      go_enter Tryd.func44, Tryd.ntmps44
      go_wp2
      exact bodyPost_ret (v := .tuple #[.agg #[.int .u8 c, .int .u8 d, .int .u8 e, .int .u8 f, .int .u8 g, .int .u8 h, .int .u8 0, .int .u8 0], .bool true]) (by simp [results, Tryd.results44, go_sem]) rfl ⟨rfl, by repeat (first | exact Below.refl _ _ | refine below_al ?_ | refine below_set ?_ (by omega))⟩
/-- What is needed, as the program holds it. -/
def spV : St → Value
  | .i8 => sp 0 0 0 0 0 0 0 0
  | .i16 => sp 128 191 0 0 0 0 0 0
  | .i32 => sp 128 191 128 191 0 0 0 0
  | .i64 => sp 128 191 128 191 128 191 0 0
  | .u8 => sp 160 191 128 191 0 0 0 0
  | .u16 => sp 128 159 128 191 0 0 0 0
  | .u32 => sp 144 191 128 191 128 191 0 0
  | .u64 => sp 128 143 128 191 128 191 0 0
/-- What step answers. -/
def stV : Option St → Value
  | none => .tuple #[sp 0 0 0 0 0 0 0 0, .bool false]
  | some q => .tuple #[spV q, .bool true]
theorem next_st (p : St) (hp : p ≠ .i8) (n : Nat) (w : World) :
    Calls Tryd.prog 44 #[spV p, .int .u8 n] w fun r w' => r = .returned (stV (nx p n)) ∧ Below w.heap.size w w' := by
  have key : ∀ (a b c d e f g h : Nat) (o : Option St), (stV o = .tuple (if a ≤ n ∧ n ≤ b then #[sp c d e f g h 0 0, .bool true] else #[sp 0 0 0 0 0 0 0 0, .bool false])) → Calls Tryd.prog 44 #[sp a b c d e f g h, .int .u8 n] w fun r w' => r = .returned (stV o) ∧ Below w.heap.size w w' := by
    intro a b c d e f g h o ho
    rw [ho]
    exact next_any a b c d e f g h n w
  cases p
  · exact absurd rfl hp
  all_goals (refine key _ _ _ _ _ _ _ _ _ ?_; simp only [nx]; split <;> rfl)
/-- The rows of longer, as cells. -/
def lgC : Array Value := #[.int .u8 194, .int .u8 223, .int .u8 128, .int .u8 191, .int .u8 0, .int .u8 0, .int .u8 0, .int .u8 0, .int .u8 224, .int .u8 224, .int .u8 160, .int .u8 191, .int .u8 128, .int .u8 191, .int .u8 0, .int .u8 0, .int .u8 225, .int .u8 236, .int .u8 128, .int .u8 191, .int .u8 128, .int .u8 191, .int .u8 0, .int .u8 0, .int .u8 237, .int .u8 237, .int .u8 128, .int .u8 159, .int .u8 128, .int .u8 191, .int .u8 0, .int .u8 0, .int .u8 238, .int .u8 239, .int .u8 128, .int .u8 191, .int .u8 128, .int .u8 191, .int .u8 0, .int .u8 0, .int .u8 240, .int .u8 240, .int .u8 144, .int .u8 191, .int .u8 128, .int .u8 191, .int .u8 128, .int .u8 191, .int .u8 241, .int .u8 243, .int .u8 128, .int .u8 191, .int .u8 128, .int .u8 191, .int .u8 128, .int .u8 191, .int .u8 244, .int .u8 244, .int .u8 128, .int .u8 143, .int .u8 128, .int .u8 191, .int .u8 128, .int .u8 191]
/-- What the package variables of utf hold. -/
structure Gu (w : World) : Prop where
  bt : ∃ t fr, w.heap[2]? = some (.cells #[.int .u8 0, .int .u8 0, .int .u8 0, .int .u8 0, .int .u8 0, .int .u8 0, .int .u8 0, .int .u8 0] t fr)
  lg : ∃ t fr, w.heap[3]? = some (.cells lgC t fr)
theorem Gu.lt {w : World} (g : Gu w) : 3 < w.heap.size := by
  obtain ⟨t, fr, h⟩ := g.lg
  exact (Array.getElem?_eq_some_iff.1 h).1
theorem Gu.sz {w : World} (g : Gu w) : 2 ≤ w.heap.size := by
  have := g.lt
  omega
theorem Gu.below {w W : World} (g : Gu w) (h : Below w.heap.size w W) : Gu W := by
  obtain ⟨t, fr, h0⟩ := g.bt
  obtain ⟨t', fr', h1⟩ := g.lg
  have := g.sz
  exact ⟨⟨t, fr, by rw [h.block 2 ((Array.getElem?_eq_some_iff.1 h0).1)]; exact h0⟩, ⟨t', fr', by rw [h.block _ g.lt]; exact h1⟩⟩
theorem Gu.drew {w : World} (g : Gu w) : Gu w.drew := ⟨g.bt, g.lg⟩
theorem Gu.btc {w : World} (g : Gu w) (k : Nat) (hk : k < 8) : w.cell? ⟨2, k, none⟩ = some (.int .u8 0) := by
  obtain ⟨t, fr, h⟩ := g.bt
  simp only [World.cell?, h]
  match k, hk with
  | 0, _ => rfl
  | 1, _ => rfl
  | 2, _ => rfl
  | 3, _ => rfl
  | 4, _ => rfl
  | 5, _ => rfl
  | 6, _ => rfl
  | 7, _ => rfl
/-- Block i holds four spans. -/
def SB (W : World) (i : Nat) (a b c d e f g h : Nat) : Prop := W.heap[i]? = some (.cells #[.int .u8 a, .int .u8 b, .int .u8 c, .int .u8 d, .int .u8 e, .int .u8 f, .int .u8 g, .int .u8 h] 53 (0, 0))
section
variable {W W1 : World} {i j o B a b c d e f g h : Nat}
theorem SB.cells (q : SB W i a b c d e f g h) : W.cell? ⟨i, 0, none⟩ = some (.int .u8 a) ∧ W.cell? ⟨i, 1, none⟩ = some (.int .u8 b) ∧ W.cell? ⟨i, 2, none⟩ = some (.int .u8 c) ∧ W.cell? ⟨i, 3, none⟩ = some (.int .u8 d) ∧ W.cell? ⟨i, 4, none⟩ = some (.int .u8 e) ∧ W.cell? ⟨i, 5, none⟩ = some (.int .u8 f) ∧ W.cell? ⟨i, 6, none⟩ = some (.int .u8 g) ∧ W.cell? ⟨i, 7, none⟩ = some (.int .u8 h) ∧ W.frozen? ⟨i, 0, none⟩ = false ∧ W.frozen? ⟨i, 1, none⟩ = false ∧ W.frozen? ⟨i, 2, none⟩ = false ∧ W.frozen? ⟨i, 3, none⟩ = false ∧ W.frozen? ⟨i, 4, none⟩ = false ∧ W.frozen? ⟨i, 5, none⟩ = false ∧ W.frozen? ⟨i, 6, none⟩ = false ∧ W.frozen? ⟨i, 7, none⟩ = false := by
  unfold SB at q
  simp [World.cell?, World.frozen?, q]
theorem SB.lt (q : SB W i a b c d e f g h) : i < W.heap.size := by
  unfold SB at q
  by_cases hlt : i < W.heap.size
  · exact hlt
  · have hn : W.heap[i]? = none := by simp; omega
    rw [hn] at q; cases q
theorem SB.below (q : SB W i a b c d e f g h) (hb : Below B W W1) (hi : i < B) : SB W1 i a b c d e f g h := by
  unfold SB at q ⊢; rw [hb.block i hi]; exact q
theorem SB.other {v : Value} (q : SB W i a b c d e f g h) (hij : i ≠ j) : SB (W.setCell ⟨j, o, none⟩ v) i a b c d e f g h := by
  unfold SB at q ⊢; rw [Below.heap_setCell _ _ _ _ hij]; exact q
theorem SB.alloc (q : SB W i a b c d e f g h) (o : Obj) : SB (W.alloc o) i a b c d e f g h := by
  have hl := q.lt
  unfold SB at q ⊢
  rw [← q]
  exact Below.heap_alloc W o i hl
theorem SB.drew (q : SB W i a b c d e f g h) : SB W.drew i a b c d e f g h := q
theorem SB.set {a' b' c' d' e' f' g' h' : Nat} (q : SB W i a b c d e f g h) : SB ((((((((W.setCell ⟨i, 0, none⟩ (.int .u8 a')).setCell ⟨i, 1, none⟩ (.int .u8 b')).setCell ⟨i, 2, none⟩ (.int .u8 c')).setCell ⟨i, 3, none⟩ (.int .u8 d')).setCell ⟨i, 4, none⟩ (.int .u8 e')).setCell ⟨i, 5, none⟩ (.int .u8 f')).setCell ⟨i, 6, none⟩ (.int .u8 g')).setCell ⟨i, 7, none⟩ (.int .u8 h')) i a' b' c' d' e' f' g' h' := by
  unfold SB at q ⊢
  simp only [World.setCell, Array.getElem?_modify, if_true, q, Option.map_some]
  simp
end
theorem sb_new (w : World) (a b c d e f g h : Nat) : SB (w.alloc (.cells #[.int .u8 a, .int .u8 b, .int .u8 c, .int .u8 d, .int .u8 e, .int .u8 f, .int .u8 g, .int .u8 h] 53)) w.heap.size a b c d e f g h := by
  unfold SB
  show (w.heap.push _)[w.heap.size]? = _
  simp
theorem sb_new2 (w : World) (o : Obj) (a b c d e f g h : Nat) : SB ((w.alloc o).alloc (.cells #[.int .u8 a, .int .u8 b, .int .u8 c, .int .u8 d, .int .u8 e, .int .u8 f, .int .u8 g, .int .u8 h] 53)) (w.heap.size + 1) a b c d e f g h := by
  have := sb_new (w.alloc o) a b c d e f g h
  simpa using this
theorem res_sb {fn : Func} {p r : Tmp} (hf : fn.results = #[.cell p 53, .tmp r]) (tmps : Array Value) (W : World) (i : Nat) (v : Value) {a b c d e f g h : Nat} (hp : tmps.getD p undef = .pointer (some ⟨i, 0, none⟩)) (hq : tmps.getD r undef = v) (hS : SB W i a b c d e f g h) :
    (results fn tmps).run Tryd.prog W = .ok (.tuple #[.agg #[.int .u8 a, .int .u8 b, .int .u8 c, .int .u8 d, .int .u8 e, .int .u8 f, .int .u8 g, .int .u8 h], v]) W := by
  have hp' : tmps[p]?.getD undef = .pointer (some ⟨i, 0, none⟩) := by simpa using hp
  have hq' : tmps[r]?.getD undef = v := by simpa using hq
  simp [results, hf, hp', hq', asAddr, run_loadVar_row W i _ 53 _ _ _ hS Tryd.underlying53 rfl (by kernel_rfl)]
theorem Gu.two {w : World} (g : Gu w) : (∀ o1 o2, ((w.alloc o1).alloc o2).cell? ⟨2, 0, none⟩ = some (.int .u8 0)) ∧ (∀ o1 o2, ((w.alloc o1).alloc o2).cell? ⟨2, 1, none⟩ = some (.int .u8 0)) ∧ (∀ o1 o2, ((w.alloc o1).alloc o2).cell? ⟨2, 2, none⟩ = some (.int .u8 0)) ∧ (∀ o1 o2, ((w.alloc o1).alloc o2).cell? ⟨2, 3, none⟩ = some (.int .u8 0)) ∧ (∀ o1 o2, ((w.alloc o1).alloc o2).cell? ⟨2, 4, none⟩ = some (.int .u8 0)) ∧ (∀ o1 o2, ((w.alloc o1).alloc o2).cell? ⟨2, 5, none⟩ = some (.int .u8 0)) ∧ (∀ o1 o2, ((w.alloc o1).alloc o2).cell? ⟨2, 6, none⟩ = some (.int .u8 0)) ∧ (∀ o1 o2, ((w.alloc o1).alloc o2).cell? ⟨2, 7, none⟩ = some (.int .u8 0)) := by
  have k : ∀ o1 o2 j, j < 8 → ((w.alloc o1).alloc o2).cell? ⟨2, j, none⟩ = some (.int .u8 0) := fun o1 o2 j hj => (g.below (below_al (below_al (Below.refl _ _)))).btc j hj
  exact ⟨fun o1 o2 => k o1 o2 0 (by omega), fun o1 o2 => k o1 o2 1 (by omega), fun o1 o2 => k o1 o2 2 (by omega), fun o1 o2 => k o1 o2 3 (by omega), fun o1 o2 => k o1 o2 4 (by omega), fun o1 o2 => k o1 o2 5 (by omega), fun o1 o2 => k o1 o2 6 (by omega), fun o1 o2 => k o1 o2 7 (by omega)⟩
theorem eq_sp (p : St) (w : World) : (Op.equalIn 10000 53 (spV p) (.agg #[.int .u8 0, .int .u8 0, .int .u8 0, .int .u8 0, .int .u8 0, .int .u8 0, .int .u8 0, .int .u8 0])).run Tryd.prog w = .ok (p == .i8) w := by
  cases p <;> kernel_rfl
/-- A state's eight numbers. -/
theorem spV_ex (p : St) : ∃ a b c d e f g h : Nat, spV p = sp a b c d e f g h ∧ ∀ w, (Op.equalIn 10000 53 (.agg #[.int .u8 a, .int .u8 b, .int .u8 c, .int .u8 d, .int .u8 e, .int .u8 f, .int .u8 g, .int .u8 h]) (.agg #[.int .u8 0, .int .u8 0, .int .u8 0, .int .u8 0, .int .u8 0, .int .u8 0, .int .u8 0, .int .u8 0])).run Tryd.prog w = .ok (p == .i8) w := by
  cases p
  · exact ⟨_, _, _, _, _, _, _, _, rfl, fun w => eq_sp .i8 w⟩
  · exact ⟨_, _, _, _, _, _, _, _, rfl, fun w => eq_sp .i16 w⟩
  · exact ⟨_, _, _, _, _, _, _, _, rfl, fun w => eq_sp .i32 w⟩
  · exact ⟨_, _, _, _, _, _, _, _, rfl, fun w => eq_sp .i64 w⟩
  · exact ⟨_, _, _, _, _, _, _, _, rfl, fun w => eq_sp .u8 w⟩
  · exact ⟨_, _, _, _, _, _, _, _, rfl, fun w => eq_sp .u16 w⟩
  · exact ⟨_, _, _, _, _, _, _, _, rfl, fun w => eq_sp .u32 w⟩
  · exact ⟨_, _, _, _, _, _, _, _, rfl, fun w => eq_sp .u64 w⟩
/-- What step, or next, or through answers, in eight numbers. -/
theorem stV_ex (o : Option St) : ∃ a b c d e f g h : Nat, stV o = .tuple #[.agg #[.int .u8 a, .int .u8 b, .int .u8 c, .int .u8 d, .int .u8 e, .int .u8 f, .int .u8 g, .int .u8 h], .bool o.isSome] ∧ spV (o.getD .i8) = sp a b c d e f g h := by
  cases o with
  | none => exact ⟨0, 0, 0, 0, 0, 0, 0, 0, rfl, rfl⟩
  | some q =>
    obtain ⟨a, b, c, d, e, f, g, h, e1, _⟩ := spV_ex q
    exact ⟨a, b, c, d, e, f, g, h, by simp only [stV, e1]; rfl, e1⟩
set_option maxHeartbeats 1000000 in
theorem step_st (p : St) (hp : p ≠ .i8) (n : Nat) (w : World) (g : Gu w) :
    Calls Tryd.prog 35 #[spV p, .int .u8 n] w fun r w' => r = .returned (stV (nx p n)) ∧ Below w.heap.size w w' := by
  obtain ⟨b0, b1, b2, b3, b4, b5, b6, b7⟩ := g.two
  have hsz := g.sz
  have hnx := hide (next_st p hp n)
  clear g
  obtain ⟨a, b, c, d, e, f, g, h, e1, heq⟩ := spV_ex p
  have hpf : (p == IntKind.i8) = false := by cases p <;> simp_all
  rw [hpf] at heq
  obtain ⟨a', b', c', d', e', f', g', h', e2, e3⟩ := stV_ex (nx p n)
  rw [e1, e2] at hnx
  obtain ⟨ob, hob⟩ : ∃ ob, (nx p n).isSome = ob := ⟨_, rfl⟩
  rw [hob] at hnx e2
  rw [e1, e2]
  clear e1 e2 e3 hp hpf hob
  unfold sp
  have hB := hide (sb_new2 w (.cells #[.int .u8 a, .int .u8 b, .int .u8 c, .int .u8 d, .int .u8 e, .int .u8 f, .int .u8 g, .int .u8 h] 53) 0 0 0 0 0 0 0 0)
  go_enter Tryd.func35, Tryd.ntmps35
  go_wp2_with (go_at_call 44; refine (hnx.out _).mono ?_; rintro r w1 ⟨rfl, hb1⟩; obtain ⟨c0, c1, c2, c3, c4, c5, c6, c7, f0, f1, f2, f3, f4, f5, f6, f7⟩ := (hB.out.below hb1 (by simp)).cells; have hb2 := hide (below_then (below_al (below_al (Below.refl w.heap.size w))) hb1); clear hb1)
  exact bodyPost_ret (v := .tuple #[.agg #[.int .u8 a', .int .u8 b', .int .u8 c', .int .u8 d', .int .u8 e', .int .u8 f', .int .u8 g', .int .u8 h'], .bool ob]) (by simp [results, Tryd.results35, go_sem, c0, c1, c2, c3, c4, c5, c6, c7]) rfl ⟨rfl, by (iterate 8 refine below_set ?_ (by omega)); exact hb2.out⟩
end Go.Proofs.YtjidnceccpmheaaDoor.Ut
