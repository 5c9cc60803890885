/- calamusref03: the document's answer, its parts: pure facts; Is, bytes, long: walked. -/
import Derived.Test.YtemlpjnophijfaaDoorUhSL
import Derived.Deep.RegionWith
namespace Go.Proofs.YtemlpjnophijfaaDoor.Ut
open Go.RowKit
set_option linter.unusedSimpArgs false
set_option linter.unusedVariables false
/-- How many bytes a character has that begins so. -/
def lng (x : Nat) : Nat := if x < 128 then 1 else if x < 192 then 0 else if x < 224 then 2 else if x < 240 then 3 else if x < 248 then 4 else 0
/-- How many bytes are still needed. -/
def rem : St → Nat
  | .i8 => 0 | .i16 => 1 | .i32 => 2 | .i64 => 3 | .u8 => 2 | .u16 => 2 | .u32 => 3 | .u64 => 3
theorem rem_zero {q : St} (h : rem q = 0) : q = .i8 := by cases q <;> simp [rem] at h ⊢
theorem lng_first {x : Nat} {q : St} (h : nx .i8 x = some q) : lng x = 1 + rem q := by
  rcases nx_b0 h with ⟨rfl, g⟩ | ⟨rfl, g⟩ | ⟨rfl, g⟩ | ⟨rfl, g⟩ | ⟨rfl, g⟩ | ⟨rfl, g⟩ | ⟨rfl, g⟩ | ⟨rfl, g⟩ <;> (unfold lng; simp only [rem]; repeat (first | rfl | rw [if_pos (by omega)] | rw [if_neg (by omega)]))
theorem rem_step {p q : St} {x : Nat} (hp : p ≠ .i8) (h : nx p x = some q) : rem p = rem q + 1 := by
  cases p
  · exact absurd rfl hp
  all_goals (simp only [nx] at h; split at h <;> simp only [Option.some.injEq, reduceCtorEq] at h; subst h; rfl)
theorem rem_run : ∀ (t : List UInt8) (p q : St), run p t = some q → t.length ≤ rem p → rem q + t.length = rem p
  | [], p, q, h, _ => by rw [run_nil] at h; obtain rfl := Option.some.inj h; simp
  | b :: t, p, q, h, hl => by
    have hp : p ≠ .i8 := by intro e; subst e; simp [rem] at hl
    cases hn : nx p b.toNat with
    | none => rw [run_cons_no hn] at h; cases h
    | some q1 =>
      rw [run_cons hn] at h
      have h1 := rem_step hp hn
      simp only [List.length_cons] at hl ⊢
      have := rem_run t q1 q h (by omega)
      omega
theorem fill (p : St) : run p (List.replicate (rem p) 128) = some .i8 ∨ run p (List.replicate (rem p) 191) = some .i8 := by
  cases p <;> first | exact Or.inl (by decide) | exact Or.inr (by decide)
/-- The number that n bytes say, if they are a character's. -/
def numA (l : List UInt8) (n : Nat) : Nat → Nat
  | 0 => 0
  | 1 => (l.getD 0 0).toNat % 2 ^ (7 - n)
  | k + 2 => 64 * numA l n (k + 1) + (l.getD (k + 1) 0).toNat % 64
def numV (l : List UInt8) (n : Nat) : Nat := if n = 1 then (l.getD 0 0).toNat else numA l n n
theorem chr_num {a : UInt8} {l : List UInt8} {r n : Nat} (h : chr (a :: l) = some (r, n)) : n = lng a.toNat ∧ r = numV (a :: l) n := by
  rcases chr_cases h with ⟨a', t, e, rfl, h1, rfl⟩ | ⟨a', b, t, e, rfl, h1, h2, hb, hr⟩ | ⟨a', b, c, t, e, rfl, h1, h2, hb, hc, g0, g1, hr⟩ | ⟨a', b, c, d, t, e, rfl, h1, h2, hb, hc, hd, g0, g1, hr⟩
  · cases e
    exact ⟨by unfold lng; rw [if_pos h1], rfl⟩
  · cases e
    refine ⟨by unfold lng; rw [if_neg (by omega), if_neg (by omega), if_pos (by omega)], ?_⟩
    simp [numV, numA]; omega
  · cases e
    refine ⟨by unfold lng; rw [if_neg (by omega), if_neg (by omega), if_neg (by omega), if_pos (by omega)], ?_⟩
    simp [numV, numA]; omega
  · cases e
    refine ⟨by unfold lng; rw [if_neg (by omega), if_neg (by omega), if_neg (by omega), if_neg (by omega), if_pos (by omega)], ?_⟩
    simp [numV, numA]; omega
/-- A character's bytes ahead are a character, just so. -/
theorem chr_of_bytes {l : List UInt8} {r n : Nat} (hv : Utf8.valid (r : Int) = true) (hb : bl (Utf8.encode (r : Int)) = l.take n) (hn : n ≤ l.length) : chr l = some (r, n) := by
  have h := chr_encode r hv (l.drop n)
  rw [hb, List.take_append_drop, List.length_take, Nat.min_eq_left hn] at h
  exact h
theorem chr_app' {l : List UInt8} {r n : Nat} (h : chr l = some (r, n)) (t : List UInt8) : chr (l ++ t) = some (r, n) := by
  obtain ⟨n1, n4, nl, _, hv, hb⟩ := chr_some h
  have h2 := chr_encode r hv (l.drop n ++ t)
  rw [hb, ← List.append_assoc, List.take_append_drop, List.length_take, Nat.min_eq_left nl] at h2
  exact h2
/-- A text begins with a character. -/
theorem ok_chr' {l : List UInt8} (hl : l ≠ []) (h : run .i8 l = some .i8) : ∃ r n, chr l = some (r, n) ∧ run .i8 (l.drop n) = some .i8 := by
  cases hc : chr l with
  | none =>
    rcases chr_none hl hc with e | ⟨p, hp, e, _⟩
    · rw [h] at e; cases e
    · rw [h] at e; exact absurd (Option.some.inj e).symm hp
  | some rn =>
    obtain ⟨r, n⟩ := rn
    refine ⟨r, n, rfl, ?_⟩
    have := (chr_some hc).2.2.2.1
    rw [← List.take_append_drop n l, run_app this] at h
    exact h
/-- As many bytes as are needed, and no character: no text begins so. -/
theorem full_none {a : UInt8} {t : List UInt8} (hc : chr (a :: t) = none) (hn : lng a.toNat ≤ (a :: t).length) : run .i8 (a :: t) = none := by
  cases hx : nx .i8 a.toNat with
  | none => exact run_cons_no hx
  | some q =>
    have h1 := lng_first hx
    simp only [List.length_cons] at hn
    rw [run_cons hx]
    cases hr : run q (t.take (rem q)) with
    | none => rw [← List.take_append_drop (rem q) t]; exact run_app_no hr
    | some p =>
      have h2 := rem_run _ _ _ hr (by rw [List.length_take]; omega)
      rw [List.length_take, Nat.min_eq_left (by omega)] at h2
      obtain rfl := rem_zero (q := p) (by omega)
      have h3 : run .i8 (a :: t.take (rem q)) = some .i8 := by rw [run_cons hx]; exact hr
      obtain ⟨r, n, h4, _⟩ := ok_chr' (by simp) h3
      have h5 := chr_app' h4 (t.drop (rem q))
      rw [List.cons_append, List.take_append_drop, hc] at h5
      cases h5
/-- Is it a beginning that the character r's bytes have, of n in all? -/
def cnd (l : List UInt8) (n r : Nat) : Bool := Utf8.valid (r : Int) && ((bl (Utf8.encode (r : Int))).take l.length == l) && decide ((Utf8.encode (r : Int)).size = n)
theorem cnd_some {l : List UInt8} {n r : Nat} (h : Utf8.valid (r : Int) = true) (h2 : (bl (Utf8.encode (r : Int))).take l.length = l) : (run .i8 l).isSome = true := by
  have h3 := chr_encode r h []
  rw [List.append_nil] at h3
  have h4 := (chr_some h3).2.2.2.1
  rw [List.take_length] at h4
  cases hr : run .i8 l with
  | some q => rfl
  | none =>
    rw [← List.take_append_drop l.length (bl (Utf8.encode (r : Int))), h2, run_app_no hr] at h4
    cases h4
/-- What fills a beginning up is a character, of the least or of the greatest bytes. -/
theorem some_cnd {a : UInt8} {t : List UInt8} (hr : (run .i8 (a :: t)).isSome = true) (hn : (a :: t).length < lng a.toNat) :
    cnd (a :: t) (lng a.toNat) (numV ((a :: t) ++ List.replicate (lng a.toNat - (a :: t).length) 128) (lng a.toNat)) = true ∨ cnd (a :: t) (lng a.toNat) (numV ((a :: t) ++ List.replicate (lng a.toNat - (a :: t).length) 191) (lng a.toNat)) = true := by
  cases hx : nx .i8 a.toNat with
  | none => rw [run_cons_no hx] at hr; cases hr
  | some q =>
    have h1 := lng_first hx
    rw [run_cons hx] at hr
    simp only [List.length_cons] at hn ⊢
    obtain ⟨p, hp⟩ := Option.isSome_iff_exists.1 hr
    have h2 := rem_run _ _ _ hp (by omega)
    have hm : lng a.toNat - (t.length + 1) = rem p := by omega
    rw [hm]
    have key : ∀ x : UInt8, run p (List.replicate (rem p) x) = some .i8 → cnd (a :: t) (lng a.toNat) (numV ((a :: t) ++ List.replicate (rem p) x) (lng a.toNat)) = true := by
      intro x hxr
      have h3 : run .i8 ((a :: t) ++ List.replicate (rem p) x) = some .i8 := by
        rw [List.cons_append, run_cons hx, run_app hp]; exact hxr
      obtain ⟨r, n, h4, _⟩ := ok_chr' (by simp) h3
      rw [List.cons_append] at h4
      obtain ⟨e1, e2⟩ := chr_num h4
      obtain ⟨_, _, nl, _, hv, hb⟩ := chr_some h4
      rw [List.cons_append, ← e1, ← e2]
      have hlen : (a :: (t ++ List.replicate (rem p) x)).length = n := by simp; omega
      rw [← hlen, List.take_length] at hb
      unfold cnd
      rw [hv, hb]
      have hsz : (Utf8.encode (r : Int)).size = n := by rw [← bl_length, hb, hlen]
      rw [hsz]
      simp
    rcases fill p with h | h
    · exact Or.inl (key 128 h)
    · exact Or.inr (key 191 h)
theorem ris_any (r : Int) (w : World) (h0 : -9223372036854775808 ≤ r) (h1 : r ≤ 9223372036854775807) :
    Calls Tryd.prog 80 #[.int .i64 r] w fun e w' => e = .returned (.bool (Utf8.valid r)) ∧ w' = w := by
  have e : Utf8.valid r = decide ((0 ≤ r ∧ r ≤ 1114111) ∧ (r < 55296 ∨ 57343 < r)) := by
    simp only [Utf8.valid]
    rw [Bool.eq_iff_iff]
    simp only [Bool.or_eq_true, Bool.and_eq_true, decide_eq_true_eq]
    omega
  rw [e]
  go_enter Tryd.func80, Tryd.ntmps80
  go_wp2
  all_goals
    go_ret
    refine ⟨congrArg Ending.returned (show Value.bool _ = Value.bool _ from congrArg Value.bool ?_), rfl⟩
    first
      | rfl
      | (rw [Bool.eq_iff_iff]; simp; omega)
theorem rlong_any (x : Nat) (w : World) (hx : x ≤ 255) : Calls Tryd.prog 78 #[.int .u8 x] w fun e w' => e = .returned (.int .i64 (lng x : Nat)) ∧ w' = w := by
  have key : ∀ m : Nat, lng x = m → (m = if x < 128 then 1 else if x < 192 then 0 else if x < 224 then 2 else if x < 240 then 3 else if x < 248 then 4 else 0) → Calls Tryd.prog 78 #[.int .u8 x] w fun e w' => e = .returned (.int .i64 (m : Nat)) ∧ w' = w := by
    intro m _ hm
    by_cases c1 : (x : Int) < 128
    · rw [if_pos (by omega)] at hm; subst hm
      go_enter Tryd.func78, Tryd.ntmps78
      go_wp2
      go_ret
      exact ⟨rfl, rfl⟩
    · rw [if_neg (by omega)] at hm
      by_cases c2 : (x : Int) < 192
      · rw [if_pos (by omega)] at hm; subst hm
        have d2 : ¬ ((192 : Int) ≤ x) := by omega
        have d3 : ¬ ((224 : Int) ≤ x) := by omega
        have d4 : ¬ ((240 : Int) ≤ x) := by omega
        go_enter Tryd.func78, Tryd.ntmps78
        go_wp2
        go_ret
        exact ⟨rfl, rfl⟩
      · rw [if_neg (by omega)] at hm
        by_cases c3 : (x : Int) < 224
        · rw [if_pos (by omega)] at hm; subst hm
          have d2 : (192 : Int) ≤ x := by omega
          go_enter Tryd.func78, Tryd.ntmps78
          go_wp2
          go_ret
          exact ⟨rfl, rfl⟩
        · rw [if_neg (by omega)] at hm
          by_cases c4 : (x : Int) < 240
          · rw [if_pos (by omega)] at hm; subst hm
            have d2 : (192 : Int) ≤ x := by omega
            have d3 : (224 : Int) ≤ x := by omega
            go_enter Tryd.func78, Tryd.ntmps78
            go_wp2
            go_ret
            exact ⟨rfl, rfl⟩
          · rw [if_neg (by omega)] at hm
            have d2 : (192 : Int) ≤ x := by omega
            have d3 : (224 : Int) ≤ x := by omega
            have d4 : (240 : Int) ≤ x := by omega
            by_cases c5 : (x : Int) < 248
            · rw [if_pos (by omega)] at hm; subst hm
              go_enter Tryd.func78, Tryd.ntmps78
              go_wp2
              go_ret
              exact ⟨rfl, rfl⟩
            · rw [if_neg (by omega)] at hm; subst hm
              go_enter Tryd.func78, Tryd.ntmps78
              go_wp2
              go_ret
              exact ⟨rfl, rfl⟩
  exact key _ rfl (by unfold lng; rfl)
end Go.Proofs.YtemlpjnophijfaaDoor.Ut
