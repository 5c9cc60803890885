/- utf's spans: step between characters: walked. -/
import Derived.Test.YtjidnceccpmheaaDoorUbNext
import Derived.Deep.RegionHeld3
import Derived.Laws.Rows
namespace Go.Proofs.YtjidnceccpmheaaDoor.Ut
open Go.RowKit
set_option linter.unusedSimpArgs false
set_option linter.unusedVariables false
/-- The rows of longer. -/
def rowV : Nat → Value
  | 0 => sp 194 223 128 191 0 0 0 0
  | 1 => sp 224 224 160 191 128 191 0 0
  | 2 => sp 225 236 128 191 128 191 0 0
  | 3 => sp 237 237 128 159 128 191 0 0
  | 4 => sp 238 239 128 191 128 191 0 0
  | 5 => sp 240 240 144 191 128 191 128 191
  | 6 => sp 241 243 128 191 128 191 128 191
  | _ => sp 244 244 128 143 128 191 128 191
/-- What a row makes of a byte. -/
def rowN (k n : Nat) : Option St := match k with
  | 0 => if 194 ≤ n ∧ n ≤ 223 then some .i16 else none
  | 1 => if 224 ≤ n ∧ n ≤ 224 then some .u8 else none
  | 2 => if 225 ≤ n ∧ n ≤ 236 then some .i32 else none
  | 3 => if 237 ≤ n ∧ n ≤ 237 then some .u16 else none
  | 4 => if 238 ≤ n ∧ n ≤ 239 then some .i32 else none
  | 5 => if 240 ≤ n ∧ n ≤ 240 then some .u32 else none
  | 6 => if 241 ≤ n ∧ n ≤ 243 then some .i64 else none
  | _ => if 244 ≤ n ∧ n ≤ 244 then some .u64 else none

/-- All the rows. -/
def LG : Value := .agg lgC
theorem ix_long (k : Nat) (h : k < 8) (w : World) : (Instr.index 76 LG (.int .i64 k)).run Tryd.prog w = .ok (rowV k) w := by
  match k, h with
  | 0, _ => exact (show (Instr.index 76 LG (.int .i64 0)).run Tryd.prog w = .ok (rowV 0) w by kernel_rfl)
  | 1, _ => exact (show (Instr.index 76 LG (.int .i64 1)).run Tryd.prog w = .ok (rowV 1) w by kernel_rfl)
  | 2, _ => exact (show (Instr.index 76 LG (.int .i64 2)).run Tryd.prog w = .ok (rowV 2) w by kernel_rfl)
  | 3, _ => exact (show (Instr.index 76 LG (.int .i64 3)).run Tryd.prog w = .ok (rowV 3) w by kernel_rfl)
  | 4, _ => exact (show (Instr.index 76 LG (.int .i64 4)).run Tryd.prog w = .ok (rowV 4) w by kernel_rfl)
  | 5, _ => exact (show (Instr.index 76 LG (.int .i64 5)).run Tryd.prog w = .ok (rowV 5) w by kernel_rfl)
  | 6, _ => exact (show (Instr.index 76 LG (.int .i64 6)).run Tryd.prog w = .ok (rowV 6) w by kernel_rfl)
  | 7, _ => exact (show (Instr.index 76 LG (.int .i64 7)).run Tryd.prog w = .ok (rowV 7) w by kernel_rfl)

theorem next_row (k n : Nat) (h : k < 8) (w : World) :
    Calls Tryd.prog 44 #[rowV k, .int .u8 n] w fun r w' => r = .returned (stV (rowN k n)) ∧ Below w.heap.size w w' := by
  have key : ∀ (a b c d e f g h : Nat) (o : Option St), (stV o = .tuple (if a ≤ n ∧ n ≤ b then #[sp c d e f g h 0 0, .bool true] else #[sp 0 0 0 0 0 0 0 0, .bool false])) → Calls Tryd.prog 44 #[sp a b c d e f g h, .int .u8 n] w fun r w' => r = .returned (stV o) ∧ Below w.heap.size w w' := by
    intro a b c d e f g h o ho
    rw [ho]
    exact next_any a b c d e f g h n w
  match k, h with
  | 0, _ => exact key _ _ _ _ _ _ _ _ _ (by simp only [rowN]; split <;> rfl)
  | 1, _ => exact key _ _ _ _ _ _ _ _ _ (by simp only [rowN]; split <;> rfl)
  | 2, _ => exact key _ _ _ _ _ _ _ _ _ (by simp only [rowN]; split <;> rfl)
  | 3, _ => exact key _ _ _ _ _ _ _ _ _ (by simp only [rowN]; split <;> rfl)
  | 4, _ => exact key _ _ _ _ _ _ _ _ _ (by simp only [rowN]; split <;> rfl)
  | 5, _ => exact key _ _ _ _ _ _ _ _ _ (by simp only [rowN]; split <;> rfl)
  | 6, _ => exact key _ _ _ _ _ _ _ _ _ (by simp only [rowN]; split <;> rfl)
  | 7, _ => exact key _ _ _ _ _ _ _ _ _ (by simp only [rowN]; split <;> rfl)

theorem row_some {k n : Nat} {q : St} (hk : k < 8) (h : rowN k n = some q) : nx .i8 n = some q := by
  match k, hk with
  | 0, _ => simp only [rowN] at h; split at h <;> simp only [Option.some.injEq, reduceCtorEq] at h; subst h; simp only [nx]; repeat (first | rfl | rw [if_pos (by omega)] | rw [if_neg (by omega)])
  | 1, _ => simp only [rowN] at h; split at h <;> simp only [Option.some.injEq, reduceCtorEq] at h; subst h; simp only [nx]; repeat (first | rfl | rw [if_pos (by omega)] | rw [if_neg (by omega)])
  | 2, _ => simp only [rowN] at h; split at h <;> simp only [Option.some.injEq, reduceCtorEq] at h; subst h; simp only [nx]; repeat (first | rfl | rw [if_pos (by omega)] | rw [if_neg (by omega)])
  | 3, _ => simp only [rowN] at h; split at h <;> simp only [Option.some.injEq, reduceCtorEq] at h; subst h; simp only [nx]; repeat (first | rfl | rw [if_pos (by omega)] | rw [if_neg (by omega)])
  | 4, _ => simp only [rowN] at h; split at h <;> simp only [Option.some.injEq, reduceCtorEq] at h; subst h; simp only [nx]; repeat (first | rfl | rw [if_pos (by omega)] | rw [if_neg (by omega)])
  | 5, _ => simp only [rowN] at h; split at h <;> simp only [Option.some.injEq, reduceCtorEq] at h; subst h; simp only [nx]; repeat (first | rfl | rw [if_pos (by omega)] | rw [if_neg (by omega)])
  | 6, _ => simp only [rowN] at h; split at h <;> simp only [Option.some.injEq, reduceCtorEq] at h; subst h; simp only [nx]; repeat (first | rfl | rw [if_pos (by omega)] | rw [if_neg (by omega)])
  | 7, _ => simp only [rowN] at h; split at h <;> simp only [Option.some.injEq, reduceCtorEq] at h; subst h; simp only [nx]; repeat (first | rfl | rw [if_pos (by omega)] | rw [if_neg (by omega)])

theorem row_none {n : Nat} (h8 : 128 ≤ n) (h : ∀ k < 8, rowN k n = none) : nx .i8 n = none := by
  have k : ∀ {p : Prop} [Decidable p] {q : St}, (if p then some q else none) = none → ¬ p := by intro p _ q h hp; rw [if_pos hp] at h; cases h
  have h0 := k (h 0 (by omega)); have h1 := k (h 1 (by omega)); have h2 := k (h 2 (by omega)); have h3 := k (h 3 (by omega))
  have h4 := k (h 4 (by omega)); have h5 := k (h 5 (by omega)); have h6 := k (h 6 (by omega)); have h7 := k (h 7 (by omega))
  simp only [nx]
  repeat' split
  all_goals first | rfl | omega
theorem row_ex (k : Nat) (hk : k < 8) : ∃ a b c d e f g h : Nat, rowV k = .agg #[.int .u8 a, .int .u8 b, .int .u8 c, .int .u8 d, .int .u8 e, .int .u8 f, .int .u8 g, .int .u8 h] := by
  match k, hk with
  | 0, _ => exact ⟨_, _, _, _, _, _, _, _, rfl⟩
  | 1, _ => exact ⟨_, _, _, _, _, _, _, _, rfl⟩
  | 2, _ => exact ⟨_, _, _, _, _, _, _, _, rfl⟩
  | 3, _ => exact ⟨_, _, _, _, _, _, _, _, rfl⟩
  | 4, _ => exact ⟨_, _, _, _, _, _, _, _, rfl⟩
  | 5, _ => exact ⟨_, _, _, _, _, _, _, _, rfl⟩
  | 6, _ => exact ⟨_, _, _, _, _, _, _, _, rfl⟩
  | 7, _ => exact ⟨_, _, _, _, _, _, _, _, rfl⟩

theorem Gu.long2 {w : World} (g : Gu w) : ∃ t fr, ∀ o1 o2, ((w.alloc o1).alloc o2).heap[3]? = some (.cells lgC t fr) := by
  obtain ⟨t, fr, h⟩ := g.lg
  have := g.sz
  refine ⟨t, fr, fun o1 o2 => ?_⟩
  rw [(below_al (below_al (Below.refl w.heap.size w))).block _ g.lt]
  exact h
/-- Where step stands ahead of row k. -/
structure Sw (w : World) (W : World) : Prop where
  below : Below w.heap.size w W
  sb : SB W (w.heap.size + 1) 0 0 0 0 0 0 0 0
set_option maxHeartbeats 1000000 in
set_option maxRecDepth 100000 in
theorem step_b0 (n : Nat) (w : World) (g : Gu w) (h8 : 128 ≤ n) :
    Calls Tryd.prog 35 #[spV .i8, .int .u8 n] w fun r w' => r = .returned (stV (nx .i8 n)) ∧ Below w.heap.size w w' := by
  obtain ⟨b0, b1, b2, b3, b4, b5, b6, b7⟩ := g.two
  obtain ⟨lt, lfr, lh⟩ := g.long2
  have hsz := g.sz
  clear g
  have heq : ∀ w, (Op.equalIn 10000 53 (.agg #[.int .u8 0, .int .u8 0, .int .u8 0, .int .u8 0, .int .u8 0, .int .u8 0, .int .u8 0, .int .u8 0]) (.agg #[.int .u8 0, .int .u8 0, .int .u8 0, .int .u8 0, .int .u8 0, .int .u8 0, .int .u8 0, .int .u8 0])).run Tryd.prog w = .ok true w := fun w => eq_sp .i8 w
  have h8' := hide h8
  clear h8
  simp only [spV, sp]
  have S0 : Hid (Sw w ((w.alloc (.cells #[.int .u8 0, .int .u8 0, .int .u8 0, .int .u8 0, .int .u8 0, .int .u8 0, .int .u8 0, .int .u8 0] 53)).alloc (.cells #[.int .u8 0, .int .u8 0, .int .u8 0, .int .u8 0, .int .u8 0, .int .u8 0, .int .u8 0, .int .u8 0] 53))) := ⟨below_al (below_al (Below.refl _ _)), sb_new2 w _ 0 0 0 0 0 0 0 0⟩
  go_enter Tryd.func35, Tryd.ntmps35
  go_wp2_with (refine wpList_load_row rfl 76 _ rfl 3 rfl lt lgC lfr _ (lh _ _) Tryd.underlying76 rfl (by kernel_rfl) ?_)
  clear b0 b1 b2 b3 b4 b5 b6 b7 lh
  go_loopw [19] (fun i w' => ∃ k : Nat, k ≤ 8 ∧ i = .int .i64 k ∧ Hid (∀ j < k, rowN j n = none) ∧ Hid (Sw w w')) (fun i _ => (8 - intOf i).toNat)
  case atStart => exact ⟨0, by omega, rfl, fun j hj => by omega, S0.out⟩
  case round =>
    obtain ⟨k, hk, rfl, hno, S⟩ := hrel
    by_cases hk8 : k < 8
    · have hix : ∀ w, (Instr.index 76 (.agg lgC) (.int .i64 k)).run Tryd.prog w = .ok (rowV k) w := ix_long k hk8
      have hrow := hide (next_row k n hk8)
      obtain ⟨a, b, c, d, e, f, g, h, e1⟩ := row_ex k hk8
      rw [e1] at hix hrow
      cases hr : rowN k n with
      | none =>
        rw [hr] at hrow
        simp only [stV, sp] at hrow
        have hno' := hide (show ∀ j < k + 1, rowN j n = none from fun j hj => by
          rcases Nat.lt_or_ge j k with h | h
          · exact hno.out j h
          · obtain rfl : j = k := by omega
            exact hr)
        go_wp2_with (go_at_call 44; refine (hrow.out _).mono ?_; rintro r w1 ⟨rfl, hb1⟩; have S1 : Hid (Sw w w1) := ⟨below_then (below_al S.out.below) hb1, (S.out.sb.alloc _).below hb1 (S.out.sb.alloc _).lt⟩; clear hb1)
        refine ⟨⟨k + 1, by omega, by go_num, hno'.out, ?_⟩, by simp [intOf]; omega⟩
        refine ⟨?_, ?_⟩
        · have := S1.out.below.size
          have := below_al (o := .cells #[.int .u8 0, .int .u8 0, .int .u8 0, .int .u8 0, .int .u8 0, .int .u8 0, .int .u8 0, .int .u8 0] 53) S1.out.below
          first | exact this | ((iterate 8 refine below_set ?_ (by omega)); exact this)
        · have := S1.out.sb.alloc (.cells #[.int .u8 0, .int .u8 0, .int .u8 0, .int .u8 0, .int .u8 0, .int .u8 0, .int .u8 0, .int .u8 0] 53)
          have hl := S1.out.sb.lt
          first | exact this | ((iterate 8 refine SB.other ?_ (by omega)); exact this)
      | some q =>
        rw [hr] at hrow
        have hq := row_some hk8 hr
        obtain ⟨a', b', c', d', e', f', g', h', e2, _⟩ := spV_ex q
        simp only [stV, e2, sp] at hrow
        have hfin := hide (show stV (nx .i8 n) = .tuple #[.agg #[.int .u8 a', .int .u8 b', .int .u8 c', .int .u8 d', .int .u8 e', .int .u8 f', .int .u8 g', .int .u8 h'], .bool true] by rw [hq]; simp only [stV, e2, sp])
        clear hq e2 hr
        go_wp2_with (go_at_call 44; refine (hrow.out _).mono ?_; rintro r w1 ⟨rfl, hb1⟩; have S1 : Hid (Sw w w1) := ⟨below_then (below_al S.out.below) hb1, (S.out.sb.alloc _).below hb1 (S.out.sb.alloc _).lt⟩; clear hb1; have hlt := S1.out.sb.lt; obtain ⟨c0, c1, c2, c3, c4, c5, c6, c7, f0, f1, f2, f3, f4, f5, f6, f7⟩ := S1.out.sb.cells)
        exact bodyPost_ret (v := .tuple #[.agg #[.int .u8 a', .int .u8 b', .int .u8 c', .int .u8 d', .int .u8 e', .int .u8 f', .int .u8 g', .int .u8 h'], .bool true]) (res_sb Tryd.results35 _ _ (w.heap.size + 1) _ rfl rfl (S1.out.sb.set.alloc _)) rfl ⟨by rw [hfin.out], by have := S1.out.below; refine below_al ?_; (iterate 8 refine below_set ?_ (by omega)); exact this⟩
    · have hk8' : k = 8 := by omega
      subst hk8'
      have hfin := hide (show stV (nx .i8 n) = .tuple #[.agg #[.int .u8 0, .int .u8 0, .int .u8 0, .int .u8 0, .int .u8 0, .int .u8 0, .int .u8 0, .int .u8 0], .bool false] by rw [row_none h8'.out hno.out]; rfl)
      obtain ⟨c0, c1, c2, c3, c4, c5, c6, c7, f0, f1, f2, f3, f4, f5, f6, f7⟩ := S.out.sb.cells
      go_wp2_with fail
      exact bodyPost_ret (v := .tuple #[.agg #[.int .u8 0, .int .u8 0, .int .u8 0, .int .u8 0, .int .u8 0, .int .u8 0, .int .u8 0, .int .u8 0], .bool false]) (res_sb Tryd.results35 _ _ (w.heap.size + 1) _ rfl rfl S.out.sb.set) rfl ⟨by rw [hfin.out], by have := S.out.below; (iterate 8 refine below_set ?_ (by omega)); exact this⟩
end Go.Proofs.YtjidnceccpmheaaDoor.Ut
