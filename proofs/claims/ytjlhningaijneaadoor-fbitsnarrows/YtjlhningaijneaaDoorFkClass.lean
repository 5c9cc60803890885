/- fbits.Class, hexDigit, Unhex: walked. -/
import Derived.Test.YtjlhningaijneaaDoorFjWiden
import Derived.Test.YtjlhningaijneaaDoorNeArr
namespace Go.Proofs.YtjlhningaijneaaDoor
open Go.RowKit
set_option linter.unusedSimpArgs false
set_option linter.unusedVariables false
set_option maxRecDepth 10000 in
theorem eqp (n : Nat) (a b c d : Int) (w : World) : (Op.equalIn (n + 2) 53 (.agg #[.int .u64 a, .int .u64 b]) (.agg #[.int .u64 c, .int .u64 d])).run Tryd.prog w = .ok (a == c && b == d) w := by
  have h1 : ∀ (x y : Int) w, (Op.equalIn (n + 1) 25 (.int .u64 x) (.int .u64 y)).run Tryd.prog w = .ok (x == y) w := fun x y w => run_equalIn_int w n _ _ _ x y Tryd.underlying25
  rw [Op.equalIn]
  simp only [go_sem]
  have hr : List.range' 0 2 = [0, 1] := rfl
  cases h2 : a == c <;> cases h3 : b == d <;> simp [hr, h1, h2, h3, go_sem, List.forIn_cons]
/-- A pattern's class. -/
def cls (x : Nat) : Nat :=
  if x / 4503599627370496 % 2048 = 0 then (if x % 4503599627370496 = 0 then 1 else 2)
  else if x / 4503599627370496 % 2048 = 2047 then (if x % 4503599627370496 = 0 then 4 else 5) else 3
set_option maxHeartbeats 1000000 in
theorem class_any (x : Nat) (w : World) (g : Gl w) (hx : x < 18446744073709551616) :
    Calls Tryd.prog 16 #[.int .u64 x] w fun e w' => e = .returned (.int .i64 (cls x : Nat)) ∧ Below w.heap.size w w' := by
  obtain ⟨s, hs⟩ : ∃ s, x / 9223372036854775808 = s := ⟨_, rfl⟩
  obtain ⟨E, hE⟩ : ∃ E, x / 4503599627370496 % 2048 = E := ⟨_, rfl⟩
  obtain ⟨F, hF⟩ : ∃ F, x % 4503599627370496 = F := ⟨_, rfl⟩
  have hSp : Hid (∀ w, Calls Tryd.prog 28 #[.int .u64 x, .agg #[.int .i64 11, .int .i64 52]] w fun e w' => e = .returned (.tuple #[.int .u64 s, .agg #[.int .u64 E, .int .u64 F]]) ∧ w' = (((w.alloc (.cells #[.int .i64 11, .int .i64 52] 44)).alloc (.cells #[.int .u64 E, .int .u64 F] 53)).alloc (.cells #[.int .i64 11, .int .i64 52] 44)).drew) := fun w => split_d x s E F w (by omega) (by omega) (by omega) (by omega)
  have hc := hide (show cls x = if E = 0 then (if F = 0 then 1 else 2) else if E = 2047 then (if F = 0 then 4 else 5) else 3 by unfold cls; rw [hE, hF])
  have d0 := g.d0
  have d1 := g.d1
  have hq : ∀ (a b c d : Int) (w : World), (Op.equalIn 10000 53 (.agg #[.int .u64 a, .int .u64 b]) (.agg #[.int .u64 c, .int .u64 d])).run Tryd.prog w = .ok (a == c && b == d) w := fun a b c d w => eqp 9998 a b c d w
  have dd : ∀ o1 o2 o3 o4, ((((w.alloc o1).alloc o2).alloc o3).alloc o4).cell? ⟨1, 0, none⟩ = some (.int .i64 11) := fun o1 o2 o3 o4 => (g.below (below_al (below_al (below_al (below_al (Below.refl _ _)))))).d0
  have de : ∀ o1 o2 o3 o4, ((((w.alloc o1).alloc o2).alloc o3).alloc o4).cell? ⟨1, 1, none⟩ = some (.int .i64 52) := fun o1 o2 o3 o4 => (g.below (below_al (below_al (below_al (below_al (Below.refl _ _)))))).d1
  have df : ∀ o1 o2 o3 o4 o5, (((((w.alloc o1).alloc o2).alloc o3).alloc o4).alloc o5).cell? ⟨1, 0, none⟩ = some (.int .i64 11) := fun o1 o2 o3 o4 o5 => (g.below (below_al (below_al (below_al (below_al (below_al (Below.refl _ _))))))).d0
  have dg : ∀ o1 o2 o3 o4 o5, (((((w.alloc o1).alloc o2).alloc o3).alloc o4).alloc o5).cell? ⟨1, 1, none⟩ = some (.int .i64 52) := fun o1 o2 o3 o4 o5 => (g.below (below_al (below_al (below_al (below_al (below_al (Below.refl _ _))))))).d1
  have hEl : E < 2048 := by omega
  clear hs hE hF g hx
  have key : ∀ (r : Nat), cls x = r → (r = if E = 0 then (if F = 0 then 1 else 2) else if E = 2047 then (if F = 0 then 4 else 5) else 3) → Calls Tryd.prog 16 #[.int .u64 x] w fun e w' => e = .returned (.int .i64 (r : Nat)) ∧ Below w.heap.size w w' := by
    intro r hr1 hr
    by_cases c1 : E = 0
    · by_cases c2 : F = 0
      · rw [if_pos c1, if_pos c2] at hr
        subst c1 c2 hr
        go_enter Tryd.func16, Tryd.ntmps16
        go_wp2_with (first | (go_at_call 28; refine (hSp.out _).mono ?_; rintro e w' ⟨rfl, rfl⟩) | (go_at_call 29; refine (ones_d _).mono ?_; rintro e w' ⟨rfl, rfl⟩))
        go_ret
        refine ⟨rfl, ?_⟩
        repeat (first | exact Below.refl _ _ | refine below_al ?_ | refine Below.drew ?_)
      · rw [if_pos c1, if_neg c2] at hr
        have n2 : ((F : Int) == 0) = false := by simp; omega
        subst c1 hr
        go_enter Tryd.func16, Tryd.ntmps16
        go_wp2_with (first | (go_at_call 28; refine (hSp.out _).mono ?_; rintro e w' ⟨rfl, rfl⟩) | (go_at_call 29; refine (ones_d _).mono ?_; rintro e w' ⟨rfl, rfl⟩))
        go_ret
        refine ⟨rfl, ?_⟩
        repeat (first | exact Below.refl _ _ | refine below_al ?_ | refine Below.drew ?_)
    · have n1 : ((E : Int) == 0) = false := by simp; omega
      rw [if_neg c1] at hr
      by_cases c3 : E = 2047
      · rw [if_pos c3] at hr
        subst c3
        by_cases c2 : F = 0
        · rw [if_pos c2] at hr
          subst c2 hr
          go_enter Tryd.func16, Tryd.ntmps16
          go_wp2_with (first | (go_at_call 28; refine (hSp.out _).mono ?_; rintro e w' ⟨rfl, rfl⟩) | (go_at_call 29; refine (ones_d _).mono ?_; rintro e w' ⟨rfl, rfl⟩))
          go_ret
          refine ⟨rfl, ?_⟩
          repeat (first | exact Below.refl _ _ | refine below_al ?_ | refine Below.drew ?_)
        · have n2 : ((F : Int) == 0) = false := by simp; omega
          rw [if_neg c2] at hr
          subst hr
          go_enter Tryd.func16, Tryd.ntmps16
          go_wp2_with (first | (go_at_call 28; refine (hSp.out _).mono ?_; rintro e w' ⟨rfl, rfl⟩) | (go_at_call 29; refine (ones_d _).mono ?_; rintro e w' ⟨rfl, rfl⟩))
          go_ret
          refine ⟨rfl, ?_⟩
          repeat (first | exact Below.refl _ _ | refine below_al ?_ | refine Below.drew ?_)
      · have n3 : ((E : Int) == 2047) = false := by simp; omega
        rw [if_neg c3] at hr
        subst hr
        go_enter Tryd.func16, Tryd.ntmps16
        go_wp2_with (first | (go_at_call 28; refine (hSp.out _).mono ?_; rintro e w' ⟨rfl, rfl⟩) | (go_at_call 29; refine (ones_d _).mono ?_; rintro e w' ⟨rfl, rfl⟩))
        go_ret
        refine ⟨rfl, ?_⟩
        repeat (first | exact Below.refl _ _ | refine below_al ?_ | refine Below.drew ?_)
  exact key _ rfl hc.out
/-- A byte's value as a digit. -/
def hv (c : UInt8) : Option Nat := if 48 ≤ c.toNat ∧ c.toNat ≤ 57 then some (c.toNat - 48) else if 97 ≤ c.toNat ∧ c.toNat ≤ 102 then some (c.toNat - 87) else none
theorem hv_lt {c : UInt8} {d : Nat} (h : hv c = some d) : d < 16 := by
  unfold hv at h
  split at h
  · have := Option.some.inj h; omega
  · split at h
    · have := Option.some.inj h; omega
    · cases h
theorem hexDigit_some (c : UInt8) (d : Nat) (w : World) (h : hv c = some d) :
    Calls Tryd.prog 31 #[.int .u8 c.toNat] w fun e w' => e = .returned (.tuple #[.int .u64 d, .bool true]) ∧ w' = w := by
  unfold hv at h
  by_cases c1 : 48 ≤ c.toNat ∧ c.toNat ≤ 57
  · rw [if_pos c1] at h
    have hd := hide (Option.some.inj h)
    obtain ⟨c1, c2⟩ := c1
    have c1' : (48 : Int) ≤ c.toNat := by omega
    have c2' : (c.toNat : Int) ≤ 57 := by omega
    clear h
    go_enter Tryd.func31, Tryd.ntmps31
    go_wp2
    exact bodyPost_ret (v := .tuple #[.int .u64 ((c.toNat : Int) - 48), .bool true]) (by simp [results, Tryd.results31, go_sem]) rfl ⟨by rw [← hd.out, show (c.toNat : Int) - 48 = ((c.toNat - 48 : Nat) : Int) by omega], rfl⟩
  · rw [if_neg c1] at h
    by_cases c3 : 97 ≤ c.toNat ∧ c.toNat ≤ 102
    · rw [if_pos c3] at h
      have hd := hide (Option.some.inj h)
      obtain ⟨c3, c4⟩ := c3
      have c3' : (97 : Int) ≤ c.toNat := by omega
      have c4' : (c.toNat : Int) ≤ 102 := by omega
      clear h
      go_enter Tryd.func31, Tryd.ntmps31
      go_wp2
      exact bodyPost_ret (v := .tuple #[.int .u64 ((c.toNat : Int) - 97 + 10), .bool true]) (by simp [results, Tryd.results31, go_sem]) rfl ⟨by rw [← hd.out, show (c.toNat : Int) - 97 + 10 = ((c.toNat - 87 : Nat) : Int) by omega], rfl⟩
    · rw [if_neg c3] at h; cases h
theorem hexDigit_none (c : UInt8) (w : World) (h : hv c = none) :
    Calls Tryd.prog 31 #[.int .u8 c.toNat] w fun e w' => e = .returned (.tuple #[.int .u64 0, .bool false]) ∧ w' = w := by
  unfold hv at h
  have c1 : ¬ (48 ≤ c.toNat ∧ c.toNat ≤ 57) := by intro q; rw [if_pos q] at h; cases h
  rw [if_neg c1] at h
  have c3 : ¬ (97 ≤ c.toNat ∧ c.toNat ≤ 102) := by intro q; rw [if_pos q] at h; cases h
  clear h
  by_cases a1 : c.toNat < 48
  · go_enter Tryd.func31, Tryd.ntmps31
    go_wp2
    exact bodyPost_ret (v := .tuple #[.int .u64 0, .bool false]) (by simp [results, Tryd.results31, go_sem]) rfl ⟨rfl, rfl⟩
  · by_cases a2 : c.toNat < 97
    · have a1' : (48 : Int) ≤ c.toNat := by omega
      have a3 : ¬ ((c.toNat : Int) ≤ 57) := by omega
      have a2' : ¬ (97 : Int) ≤ c.toNat := by omega
      go_enter Tryd.func31, Tryd.ntmps31
      go_wp2
      exact bodyPost_ret (v := .tuple #[.int .u64 0, .bool false]) (by simp [results, Tryd.results31, go_sem]) rfl ⟨rfl, rfl⟩
    · have a3 : ¬ ((c.toNat : Int) ≤ 57) := by omega
      have a2' : (97 : Int) ≤ c.toNat := by omega
      have a4 : ¬ ((c.toNat : Int) ≤ 102) := by omega
      go_enter Tryd.func31, Tryd.ntmps31
      go_wp2
      exact bodyPost_ret (v := .tuple #[.int .u64 0, .bool false]) (by simp [results, Tryd.results31, go_sem]) rfl ⟨rfl, rfl⟩
end Go.Proofs.YtjlhningaijneaaDoor
