/- Merged by program: NmMath, QaS, XgUnl, XdRsh, XbRdep, XhForm, XiChk. -/
import Derived.Test.YtlfnnecpinmjjaaDoorNaPlain
import Derived.Test.YtlfnnecpinmjjaaDoorNbCount
import Derived.WalkKit
import Derived.WalkSpells
import Derived.WalkLawsBesides
import Derived.Deep.RegionWith
import Derived.Lib.Strings
import Derived.Outline
import Derived.Test.YtlfnnecpinmjjaaDoorWhValue
import Derived.BigQuiet
import Derived.Test.YtlfnnecpinmjjaaDoorWbSize
import Derived.Test.YtlfnnecpinmjjaaDoorXfPlain
import Derived.Test.YtlfnnecpinmjjaaDoorWiCheck
/- Digits and what they are worth: no program in sight. -/
namespace Go.Proofs.YtlfnnecpinmjjaaDoor
set_option linter.unusedSimpArgs false
set_option linter.unusedVariables false
/-- What a row of digits, the highest first, is worth. -/
def val : List Nat → Nat
  | [] => 0
  | d :: l => d * 10 ^ l.length + val l
theorem val_append (a b : List Nat) : val (a ++ b) = val a * 10 ^ b.length + val b := by
  induction a with
  | nil => simp [val]
  | cons d a ih =>
    simp only [List.cons_append, val, ih, List.length_append, Nat.add_mul, Nat.pow_add, Nat.mul_assoc]
    omega
/-- All are digits. -/
def Dgs (l : List Nat) : Prop := ∀ d ∈ l, d ≤ 9
theorem Dgs.cons {d : Nat} {l : List Nat} (h : Dgs (d :: l)) : d ≤ 9 ∧ Dgs l := ⟨h d (by simp), fun x hx => h x (by simp [hx])⟩
theorem Dgs.app {a b : List Nat} (h : Dgs (a ++ b)) : Dgs a ∧ Dgs b := ⟨fun x hx => h x (by simp [hx]), fun x hx => h x (by simp [hx])⟩
theorem val_lt (l : List Nat) (h : Dgs l) : val l < 10 ^ l.length := by
  induction l with
  | nil => simp [val]
  | cons d l ih =>
    obtain ⟨h1, h2⟩ := h.cons
    have := ih h2
    simp only [val, List.length_cons, Nat.pow_succ]
    have h3 : d * 10 ^ l.length ≤ 9 * 10 ^ l.length := Nat.mul_le_mul_right _ h1
    omega
theorem val_zeros (n : Nat) : val (List.replicate n 0) = 0 := by
  induction n with
  | zero => rfl
  | succ n ih => simp [List.replicate_succ, val, ih]
theorem val_zero_left (n : Nat) (l : List Nat) : val (List.replicate n 0 ++ l) = val l := by rw [val_append, val_zeros]; simp
theorem val_zero_right (n : Nat) (l : List Nat) : val (l ++ List.replicate n 0) = val l * 10 ^ n := by rw [val_append, val_zeros]; simp
/-- The lowest i digits, one more. -/
theorem val_drop_succ (p : List Nat) (n i : Nat) (hn : p.length = n) (hi : i < n) : val (p.drop (n - (i + 1))) = p[n - 1 - i]'(by omega) * 10 ^ i + val (p.drop (n - i)) := by
  have h1 : n - (i + 1) < p.length := by omega
  rw [List.drop_eq_getElem_cons h1]
  simp only [val]
  rw [show n - (i + 1) + 1 = n - i by omega, List.length_drop, show p.length - (n - i) = i by omega]
  congr 2
  congr 1
  omega
/-- The bytes of a text of digits, as digits. -/
def dg (s : ByteArray) : List Nat := (bl s).map fun c => c.toNat - 48
theorem dg_length (s : ByteArray) : (dg s).length = s.size := by simp [dg, bl_length]
theorem dg_get (s : ByteArray) (k : Nat) (h : k < s.size) : (dg s)[k]'(by rw [dg_length]; exact h) = s[k].toNat - 48 := by
  simp only [dg, List.getElem_map]
  rw [bl_get s k h]
theorem dg_dgs (s : ByteArray) (h : allD (bl s) = true) : Dgs (dg s) := by
  intro d hd
  simp only [dg, List.mem_map] at hd
  obtain ⟨c, hc, rfl⟩ := hd
  have := (isDig_iff c).1 ((List.all_eq_true.1 h) c hc)
  omega
theorem allD_get (s : ByteArray) (h : allD (bl s) = true) (k : Nat) (hk : k < s.size) : 48 ≤ s[k].toNat ∧ s[k].toNat ≤ 57 := by
  have h1 : s[k] ∈ bl s := by rw [← bl_get s k hk]; exact List.getElem_mem _
  have := (isDig_iff s[k]).1 ((List.all_eq_true.1 h) _ h1)
  omega
theorem take_get {P Q : List Nat} {m j : Nat} (h : P.take m = Q.take m) (hj : j < m) (hP : j < P.length) (hQ : j < Q.length) : P[j] = Q[j] := by
  have h1 : (P.take m)[j]? = (Q.take m)[j]? := by rw [h]
  rw [List.getElem?_take_of_lt hj, List.getElem?_take_of_lt hj, List.getElem?_eq_getElem hP, List.getElem?_eq_getElem hQ] at h1
  exact Option.some.inj h1
theorem take_less {P Q : List Nat} {m j : Nat} (h : P.take m = Q.take m) (hj : j ≤ m) : P.take j = Q.take j := by
  have := congrArg (List.take j) h
  rwa [List.take_take, List.take_take, Nat.min_eq_left hj] at this
/-- What holds ahead of round i of merge: P of what was P0, sd the digits that are merged, c what is carried. -/
def MInv (P0 sd : List Nat) (at_ : Nat) (less : Bool) (P : List Nat) (c i : Nat) : Prop :=
  P.length = 42 ∧ Dgs P ∧ c ≤ 1 ∧ P.take (42 - i) = P0.take (42 - i) ∧
  (less = false → val (P.drop (42 - i)) + c * 10 ^ i = val (P0.drop (42 - i)) + val (sd.drop (sd.length - (i - at_))) * 10 ^ at_) ∧
  (less = true → val (P.drop (42 - i)) + val (sd.drop (sd.length - (i - at_))) * 10 ^ at_ = val (P0.drop (42 - i)) + c * 10 ^ i)
/-- The digit that round i merges. -/
def mdig (sd : List Nat) (k : Nat) : Nat := if h : k < sd.length then sd[sd.length - 1 - k]'(by omega) else 0
theorem val_mdig (sd : List Nat) (k : Nat) : val (sd.drop (sd.length - (k + 1))) = mdig sd k * 10 ^ k + val (sd.drop (sd.length - k)) := by
  unfold mdig
  by_cases h : k < sd.length
  · rw [dif_pos h]; exact val_drop_succ sd sd.length k rfl h
  · rw [dif_neg h, show sd.length - (k + 1) = sd.length - k by omega]; simp
theorem MInv.start {P0 : List Nat} (sd : List Nat) (at_ : Nat) (less : Bool) (h : P0.length = 42) (hd : Dgs P0) : MInv P0 sd at_ less P0 0 at_ := by
  refine ⟨h, hd, by omega, rfl, fun _ => ?_, fun _ => ?_⟩ <;> simp [val]
theorem MInv.step {P0 sd P : List Nat} {at_ c i v c' : Nat} {less : Bool} (h0 : P0.length = 42) (h : MInv P0 sd at_ less P c i) (ha : at_ ≤ i) (hi : i < 42) (hv : v ≤ 9) (hc : c' ≤ 1)
    (e1 : less = false → v + 10 * c' = P[41 - i]'(by have := h.1; omega) + (c + mdig sd (i - at_))) (e2 : less = true → v + (c + mdig sd (i - at_)) = P[41 - i]'(by have := h.1; omega) + 10 * c') :
    MInv P0 sd at_ less (P.set (41 - i) v) c' (i + 1) := by
  obtain ⟨h1, h2, h3, h4, h5, h6⟩ := h
  have hq : P[41 - i]'(by omega) = P0[41 - i]'(by omega) := take_get h4 (by omega) (by omega) (by omega)
  have hdrop : (P.set (41 - i) v).drop (42 - (i + 1)) = v :: P.drop (42 - i) := by
    rw [show 42 - (i + 1) = 41 - i by omega, List.drop_eq_getElem_cons (by simp; omega), List.getElem_set_self, List.drop_set_of_lt (by omega), show 41 - i + 1 = 42 - i by omega]
  have hl : (P.drop (42 - i)).length = i := by rw [List.length_drop]; omega
  have hP0 : val (P0.drop (42 - (i + 1))) = P0[41 - i]'(by omega) * 10 ^ i + val (P0.drop (42 - i)) := val_drop_succ P0 42 i h0 hi
  have hS := val_mdig sd (i - at_)
  have hk : i + 1 - at_ = i - at_ + 1 := by omega
  have hpow : 10 ^ (i - at_) * 10 ^ at_ = 10 ^ i := by rw [← Nat.pow_add]; congr 1; omega
  refine ⟨by simpa using h1, ?_, hc, ?_, fun hl0 => ?_, fun hl0 => ?_⟩
  · intro d hd
    rcases List.mem_or_eq_of_mem_set hd with h | h
    · exact h2 d h
    · omega
  · rw [show 42 - (i + 1) = 41 - i by omega, List.take_set_of_le (by omega)]
    exact take_less h4 (by omega)
  · have e := e1 hl0
    have g := h5 hl0
    rw [hdrop, val, hl, hP0, hk, hS, Nat.add_mul, Nat.mul_assoc, hpow, Nat.pow_succ]
    have e' := congrArg (· * 10 ^ i) e
    simp only [Nat.add_mul, Nat.mul_assoc] at e'
    rw [hq] at e'
    rw [show c' * (10 ^ i * 10) = 10 * (c' * 10 ^ i) by rw [← Nat.mul_assoc, Nat.mul_comm]]
    omega
  · have e := e2 hl0
    have g := h6 hl0
    rw [hdrop, val, hl, hP0, hk, hS, Nat.add_mul, Nat.mul_assoc, hpow, Nat.pow_succ]
    have e' := congrArg (· * 10 ^ i) e
    simp only [Nat.add_mul, Nat.mul_assoc] at e'
    rw [hq] at e'
    rw [show c' * (10 ^ i * 10) = 10 * (c' * 10 ^ i) by rw [← Nat.mul_assoc, Nat.mul_comm]]
    omega
theorem val_split (P : List Nat) (m : Nat) : val P = val (P.take m) * 10 ^ (P.length - m) + val (P.drop m) := by
  have := val_append (P.take m) (P.drop m)
  rw [List.take_append_drop, List.length_drop] at this
  exact this
/-- When merge ends. -/
theorem MInv.done {P0 sd P : List Nat} {at_ i c : Nat} {less : Bool} (h0 : P0.length = 42) (hd0 : Dgs P0) (h : MInv P0 sd at_ less P c i) (hk : sd.length ≤ i - at_) (hi : i ≤ 42) (hc : c = 0 ∨ i = 42)
    (b1 : less = false → val P0 + val sd * 10 ^ at_ < 10 ^ 42) (b2 : less = true → val sd * 10 ^ at_ ≤ val P0) :
    P.length = 42 ∧ Dgs P ∧ (less = false → val P = val P0 + val sd * 10 ^ at_) ∧ (less = true → val P + val sd * 10 ^ at_ = val P0) := by
  obtain ⟨h1, h2, h3, h4, h5, h6⟩ := h
  have hs : sd.drop (sd.length - (i - at_)) = sd := by rw [show sd.length - (i - at_) = 0 by omega]; rfl
  rw [hs] at h5 h6
  have q := val_split P (42 - i)
  have q0 := val_split P0 (42 - i)
  rw [h1, show 42 - (42 - i) = i by omega] at q
  rw [h0, show 42 - (42 - i) = i by omega, ← h4] at q0
  have hlt := val_lt P h2
  rw [h1] at hlt
  have hc0 : c = 0 := by
    rcases hc with h | h
    · exact h
    · subst h
      rcases Nat.lt_or_ge 0 c with hp | hp
      · have hc1 : c = 1 := by omega
        subst hc1
        have z : P.take (42 - 42) = [] := rfl
        rw [z] at q q0
        simp only [val, Nat.zero_mul, Nat.zero_add] at q q0
        rw [← q, ← q0] at h5 h6
        cases less
        · have g1 := h5 rfl; have g2 := b1 rfl; omega
        · have g1 := h6 rfl; have g2 := b2 rfl; omega
      · omega
  subst hc0
  refine ⟨h1, h2, fun e => ?_, fun e => ?_⟩
  · have := h5 e; omega
  · have := h6 e; omega
end Go.Proofs.YtlfnnecpinmjjaaDoor
/- calamusref01's all, Is, Check, Made: walked. -/
namespace Go.Proofs.YtlfnnecpinmjjaaDoor
open Go.RowKit
set_option linter.unusedSimpArgs false
set_option linter.unusedVariables false
theorem allD_of (s : ByteArray) (h : ∀ j (h : j < s.size), isDig s[j] = true) : allD (bl s) = true := by
  unfold allD; rw [List.all_eq_true]
  intro c hc
  obtain ⟨i, hi, rfl⟩ := List.getElem_of_mem hc
  rw [bl_length] at hi
  rw [bl_get s i hi]; exact h i hi
set_option maxHeartbeats 400000 in
theorem rall_any (s : ByteArray) (w : World) (hs : s.size ≤ maxLen) :
    Calls Tryd.prog 91 #[.string s] w fun e w' => e = .returned (.bool (allD (bl s) && decide (0 < s.size))) ∧ w' = w := by
  unfold maxLen at hs
  go_enter Tryd.func91, Tryd.ntmps91
  go_wp2
  go_loop [3] (fun i => ∃ k : Nat, k ≤ s.size ∧ i = .int .i64 k ∧ Hid (∀ j (hj : j < k) (h : j < s.size), isDig s[j] = true)) (fun i => s.size - (intOf i).toNat)
  case atStart => exact ⟨0, Nat.zero_le _, rfl, fun j hj => by omega⟩
  case round =>
    obtain ⟨k, hk, rfl, hall⟩ := hrel
    by_cases hlt : k < s.size
    · by_cases hd : isDig s[k] = true
      · have hd' := (isDig_iff _).1 hd
        have h1 := hd'.1
        have h2 := hd'.2
        have HH := hide hd
        clear hd hd'
        go_wp2
        go_round
        case rel => exact ⟨k + 1, by omega, by go_num, fun j hj h => by
          by_cases e : j = k
          · subst e; exact HH.out
          · exact hall.out j (by omega) h⟩
        case measure => simp [intOf]; omega
      · have hno := hide (show allD (bl s) = false by
          cases ha : allD (bl s)
          · rfl
          · exfalso; apply hd
            have := allD_get s ha k hlt
            rw [isDig_iff]; omega)
        have hd' : ¬ (48 ≤ (s[k].toNat : Int) ∧ (s[k].toNat : Int) ≤ 57) := fun h => hd ((isDig_iff _).2 h)
        clear hd
        go_wp2
        all_goals
          go_ret
          exact ⟨ret_bool (by rw [hno.out]; rfl), rfl⟩
    · have hyes := hide (allD_of s (fun j h => hall.out j (by omega) h))
      go_wp2
      go_ret
      refine ⟨ret_bool ?_, rfl⟩
      rw [hyes.out, Bool.true_and]
theorem isN_zero_digits (n : Bool) (s : ByteArray) (x : Int) (h : s.toList = [48]) : isN n s x = (!n && x == 0) := by
  rw [bl_toList] at h
  have ho : isO [48] x = false := by unfold isO; simp
  simp [isN, isZ, h, ho]
theorem isN_other (n : Bool) (s : ByteArray) (x : Int) (h : ¬ s.toList = [48]) : isN n s x = isO (bl s) x := by
  rw [bl_toList] at h
  have hz : isZ n s x = false := by simp [isZ, h]
  simp [isN, hz]
set_option maxHeartbeats 1000000 in
theorem ris_any (n : Bool) (s : ByteArray) (x : Int) (w : World) (hs : s.size ≤ maxLen) :
    Calls Tryd.prog 84 #[.agg #[.bool n, .string s, .int .i64 x]] w fun e w' => e = .returned (.bool (isN n s x)) ∧ Below w.heap.size w w' := by
  by_cases hz : s.toList = [48]
  · have hr := hide (isN_zero_digits n s x hz)
    cases n
    all_goals
      go_enter Tryd.func84, Tryd.ntmps84
      go_wp2
      go_ret
      exact ⟨ret_bool (by rw [hr.out]; rfl), (Below.refl _ _).alloc (Nat.le_refl _) _⟩
  · have hr := hide (isN_other n s x hz)
    have hzb : (s.toList == [48]) = false := by simpa using hz
    clear hz
    by_cases h0 : 0 < s.size
    · have hO := hide (isO_at s x h0)
      have h0i : (0 : Int) < s.size := by omega
      cases had : allD (bl s)
      · have had' := hide (show (allD (bl s) && decide (0 < s.size)) = false by rw [had]; rfl)
        go_enter Tryd.func84, Tryd.ntmps84
        go_wp2_with (go_at_call 91; go_fit (rall_any s _ hs); rw [had'.out]; rintro e w' ⟨rfl, rfl⟩)
        go_ret
        exact ⟨ret_bool (by rw [hr.out, hO.out, had]; simp), (Below.refl _ _).alloc (Nat.le_refl _) _⟩
      · have had' := hide (show (allD (bl s) && decide (0 < s.size)) = true by rw [had]; simp [h0])
        by_cases h40 : (s.size : Int) ≤ 40
        · by_cases hx1 : -400 ≤ x
          · go_enter Tryd.func84, Tryd.ntmps84
            go_wp2_with (go_at_call 91; go_fit (rall_any s _ hs); rw [had'.out]; rintro e w' ⟨rfl, rfl⟩)
            all_goals
              go_ret
              refine ⟨ret_bool ?_, (Below.refl _ _).alloc (Nat.le_refl _) _⟩
              have h40' : s.size ≤ 40 := by omega
              rw [hr.out, hO.out, had]
              simp only [← bne48]
              simp [h40', hx1, *]
              try rw [Bool.and_comm, Bool.and_assoc]
          · have hx1' : decide (-400 ≤ x) = false := decide_eq_false hx1
            go_enter Tryd.func84, Tryd.ntmps84
            go_wp2_with (go_at_call 91; go_fit (rall_any s _ hs); rw [had'.out]; rintro e w' ⟨rfl, rfl⟩)
            all_goals
              go_ret
              refine ⟨ret_bool ?_, (Below.refl _ _).alloc (Nat.le_refl _) _⟩
              rw [hr.out, hO.out, had]
              simp
              intros
              omega
        · have h40' : decide ((s.size : Int) ≤ 40) = false := decide_eq_false h40
          go_enter Tryd.func84, Tryd.ntmps84
          go_wp2_with (go_at_call 91; go_fit (rall_any s _ hs); rw [had'.out]; rintro e w' ⟨rfl, rfl⟩)
          go_ret
          refine ⟨ret_bool ?_, (Below.refl _ _).alloc (Nat.le_refl _) _⟩
          rw [hr.out, hO.out, had]
          simp; omega
    · have hOz := hide (show isO (bl s) x = false by unfold isO; rw [bl_length]; simp; omega)
      have had' := hide (show (allD (bl s) && decide (0 < s.size)) = false by simp [h0])
      go_enter Tryd.func84, Tryd.ntmps84
      go_wp2_with (go_at_call 91; go_fit (rall_any s _ hs); rw [had'.out]; rintro e w' ⟨rfl, rfl⟩)
      go_ret
      exact ⟨ret_bool (by rw [hr.out, hOz.out]), (Below.refl _ _).alloc (Nat.le_refl _) _⟩
end Go.Proofs.YtlfnnecpinmjjaaDoor
/- calamusref04.unlike: walked. -/
namespace Go.Proofs.YtlfnnecpinmjjaaDoor
open Go.RowKit
set_option linter.unusedSimpArgs false
set_option linter.unusedVariables false
theorem nodup_more {α : Type} {l : List α} {k : Nat} (h : k < l.length) (hn : (l.take k).Nodup) (hm : ∀ j (hj : j < k), l[j]'(by omega) ≠ l[k]) : (l.take (k + 1)).Nodup := by
  rw [List.take_succ_eq_append_getElem h]
  rw [List.nodup_append]
  refine ⟨hn, by simp, ?_⟩
  intro a ha b hb
  rw [List.mem_singleton.1 hb]
  obtain ⟨j, hj, rfl⟩ := List.getElem_of_mem ha
  rw [List.getElem_take]
  exact hm j (by rw [List.length_take] at hj; omega)
set_option maxHeartbeats 1000000 in
set_option maxRecDepth 100000 in
theorem unlike_any (v : Value) (l : List ByteArray) (w : World) (hr : NL w v l) :
    Calls Tryd.prog 85 #[v] w fun e w' => TB l.Nodup w e w' := by
  obtain ⟨an, cn, rfl, hn1, hn2⟩ := hr.len
  have ml : maxLen = 9223372036854775807 := rfl
  replace hr := hide hr
  go_enter Tryd.func85, Tryd.ntmps85
  go_wp2_with fail
  go_loopw [3] (fun i w' => ∃ k : Nat, i = .int .i64 k ∧ k ≤ l.length ∧ Hid ((l.take k).Nodup ∧ Below w.heap.size w w')) (fun i _ => l.length - (intOf i).toNat)
  case atStart => exact ⟨0, rfl, Nat.zero_le _, by simp, Below.refl _ _⟩
  case round =>
    obtain ⟨k, rfl, hk, H⟩ := hrel
    by_cases hkl : k < l.length
    · have hki : (k : Int) < (l.length : Int) := by omega
      have hk63 : (k : Int) < 9223372036854775807 := by omega
      go_wp2_with fail
      go_loopw [4] (fun i w' => ∃ j : Nat, i = .int .i64 j ∧ j ≤ k ∧ Hid ((∀ i (hi : i < j) (hik : i < l.length), l[i] ≠ l[k]) ∧ Below w.heap.size w w')) (fun i _ => k - (intOf i).toNat)
      case atStart => exact ⟨0, rfl, Nat.zero_le _, (fun i hi => absurd hi (by omega)), H.out.2⟩
      case round =>
        obtain ⟨j, rfl, hj, J⟩ := hrel
        by_cases hjk : j < k
        · have hjl : j < l.length := by omega
          have hjki : (j : Int) < (k : Int) := by omega
          have hjli : (j : Int) < (l.length : Int) := by omega
          have hj63 : (j : Int) < 9223372036854775807 := by omega
          obtain ⟨b, o, c, he, hbl, hlc, hcm, hcell⟩ := hr.out.at k hkl
          obtain ⟨b', o', c', he', hbl', hlc', hcm', hcell'⟩ := hr.out.at j hjl
          have q1 := Value.slice.inj he
          have q2 := Value.slice.inj he'
          obtain ⟨rfl, _, rfl⟩ := q1
          obtain ⟨q3, _, rfl⟩ := q2
          have q4 := Option.some.inj q3
          simp only [Addr.mk.injEq] at q4
          obtain ⟨rfl, rfl, _⟩ := q4
          clear he he' q3
          have hcell := (J.out.2.cell (p := ⟨b, o + k, none⟩) hbl).trans hcell
          have hcell' := (J.out.2.cell (p := ⟨b, o + j, none⟩) hbl).trans hcell'
          obtain ⟨s, hs⟩ : ∃ s, l[k] = s := ⟨_, rfl⟩
          obtain ⟨t, ht⟩ : ∃ t, l[j] = t := ⟨_, rfl⟩
          simp only [hs] at hcell
          simp only [ht] at hcell'
          by_cases hst : s = t
          · have hne : ¬ l.Nodup := fun hn => (List.pairwise_iff_getElem.1 hn j k hjl hkl hjk) (by rw [ht, hs, hst])
            have hne' := hide hne
            subst hst
            clear hne hs ht
            go_wp2_with fail
            go_quiet (fail)
            go_wp2_with fail
            go_ret
            exact TB.no hne'.out (below_dn J.out.2 _)
          · have hmo : Hid (∀ i (hi : i < j + 1) (hik : i < l.length), l[i] ≠ l[k]) := fun i hi hik => by
              rcases Nat.lt_or_ge i j with q | q
              · exact J.out.1 i q hik
              · obtain rfl : i = j := by omega
                rw [ht, hs]
                exact fun e => hst e.symm
            have hst2 : decide (s = t) = false := decide_eq_false hst
            have hst3 := ba_ne hst
            clear hs ht
            go_wp2_with fail
            go_quiet (fail)
            go_wp2_with fail
            exact ⟨⟨j + 1, by go_num, by omega, hmo.out, below_dn J.out.2 _⟩, by simp [intOf]; omega⟩
        · have hjki : ¬ ((j : Int) < (k : Int)) := by omega
          obtain rfl : j = k := by omega
          have hN := hide (nodup_more hkl H.out.1 (fun i hi => J.out.1 i hi (by omega)))
          go_wp2_with fail
          exact ⟨⟨j + 1, by go_num, by omega, hN.out, J.out.2⟩, by simp [intOf]; omega⟩
    · have hki : ¬ ((k : Int) < (l.length : Int)) := by omega
      have hE := H.out.1
      rw [List.take_of_length_le (by omega)] at hE
      have hE' := hide hE
      clear hE
      go_wp2_with fail
      go_ret
      exact TB.yes hE'.out H.out.2
end Go.Proofs.YtlfnnecpinmjjaaDoor
/- calamusref04.short: walked. -/
namespace Go.Proofs.YtlfnnecpinmjjaaDoor
open Go.RowKit
set_option linter.unusedSimpArgs false
set_option linter.unusedVariables false
set_option maxHeartbeats 1000000 in
set_option maxRecDepth 100000 in
theorem rshort_any : ∀ (n : Nat) (x : VT n) (ns ls : Value) (w : World), RD n w x ns ls → Sz n x →
    Calls Tryd.prog 72 #[.agg (vals (vhd n x) ns ls)] w fun e w' => TB (Sht n x) w e w' := by
  intro n
  induction n with
  | zero => intro x; exact Empty.elim x
  | succ n ih =>
    intro x ns ls w hr hz
    obtain ⟨h, l⟩ := x
    obtain ⟨al, cl, rfl, hc1, hc2⟩ := hr.len
    obtain ⟨an, cn, rfl, hn1, hn2⟩ := hr.1.len
    have ml : maxLen = 9223372036854775807 := rfl
    simp only at hc1 hc2 hn1 hn2
    have hb0 : Hid (∀ o, Below w.heap.size w (w.alloc o)) := fun o => below_al (Below.refl _ _)
    have hr := hide hr
    have hz := hide hz
    have ih' := hide ih
    clear ih
    show Calls _ _ #[.agg #[.int .i64 h.kind, .bool h.flag, .bool h.neg, .string h.dig, .int .i64 h.exp, .int .u64 h.bits, .string h.text, .slice an h.names.length cn, .slice al l.length cl]] _ _
    have hB0 := hide (bx_new w h (.slice an h.names.length cn) (.slice al l.length cl))
    obtain ⟨M, hM⟩ : ∃ M : Int, (bif h.kind == 9 then 64 else 4096) = M := ⟨_, rfl⟩
    by_cases k9 : h.kind = 9
    · have hML : M = 64 := by rw [← hM]; simp [k9]
      have hB9 : Hid (Bx (w.alloc (.cells #[.int .i64 9, .bool h.flag, .bool h.neg, .string h.dig, .int .i64 h.exp, .int .u64 h.bits, .string h.text, .slice an h.names.length cn, .slice al l.length cl] 33)) w.heap.size h (.slice an h.names.length cn) (.slice al l.length cl)) := by have := hB0.out; unfold vals at this; rw [k9] at this; exact this
      by_cases ht : (64 : Int) < (h.text.size : Int)
      · have hx := hide (show ¬ Sht (n + 1) (h, l) from fun q => by have h2 : (h.text.size : Int) ≤ (bif h.kind == 9 then 64 else 4096) := q.1; rw [hM, hML] at h2; omega)
        rw [k9]
        go_enter Tryd.func72, Tryd.ntmps72
        go_wp2_with fail
        go_ret
        exact TB.no hx.out (hb0.out _)
      by_cases hl : (256 : Int) < (l.length : Int)
      · have hx := hide (show ¬ Sht (n + 1) (h, l) from fun q => by have h2 : l.length ≤ 256 := q.2.1; omega)
        rw [k9]
        go_enter Tryd.func72, Tryd.ntmps72
        go_wp2_with fail
        go_ret
        exact TB.no hx.out (hb0.out _)
      · have hx0 := hide (show (h.text.size : Int) ≤ (bif h.kind == 9 then 64 else 4096) ∧ l.length ≤ 256 from ⟨by rw [hM, hML]; omega, by omega⟩)
        rw [k9]
        go_enter Tryd.func72, Tryd.ntmps72
        go_wp2_with fail
        go_loopw [4] (fun i w' => ∃ k : Nat, i = .int .i64 k ∧ k ≤ h.names.length ∧ Hid ((∀ s ∈ h.names.take k, s.size ≤ 64) ∧ Below w.heap.size w w') ∧ Hid (Bx w' w.heap.size h (.slice an h.names.length cn) (.slice al l.length cl))) (fun i _ => h.names.length - (intOf i).toNat)
        case atStart => exact ⟨0, rfl, Nat.zero_le _, ⟨(fun y hy => by simp at hy), hb0.out _⟩, hB9.out⟩
        case round =>
          obtain ⟨k, rfl, hk, H, hB⟩ := hrel
          have c7 := hB.out.cells.2.2.2.2.2.2.2.1
          have c8 := hB.out.cells.2.2.2.2.2.2.2.2
          by_cases hkl : k < h.names.length
          · have hki : (k : Int) < (h.names.length : Int) := by omega
            have hk63 : (k : Int) < 9223372036854775807 := by omega
            obtain ⟨b, o, c, he, hbl, hlc, hcm, hcell⟩ := hr.out.1.at k hkl
            have he' := Value.slice.inj he
            obtain ⟨rfl, _, rfl⟩ := he'
            clear he
            have hcell := (H.out.2.cell (p := ⟨b, o + k, none⟩) hbl).trans hcell
            obtain ⟨s, hs⟩ : ∃ s, h.names[k] = s := ⟨_, rfl⟩
            simp only at hcell
            rw [hs] at hcell
            have hs' := hide hs
            clear hs
            by_cases h64 : (64 : Int) < (s.size : Int)
            · have hno := hide (show ¬ Sht (n + 1) (h, l) from fun q => by
                have h2 := q.2.2.1 h.names[k] (List.getElem_mem _)
                rw [hs'.out] at h2
                omega)
              go_wp2_with fail
              go_ret
              exact TB.no hno.out H.out.2
            · have hmo := hide (mem_take_more (p := fun s => s.size ≤ 64) hkl H.out.1 (by rw [hs'.out]; omega))
              go_wp2_with fail
              exact ⟨⟨k + 1, by go_num, by omega, ⟨hmo.out, H.out.2⟩, hB.out⟩, by simp [intOf]; omega⟩
          · have hki : ¬ ((k : Int) < (h.names.length : Int)) := by omega
            have hE := H.out.1
            rw [List.take_of_length_le (by omega)] at hE
            have hE' := hide hE
            have hb2 := hide H.out.2
            clear hE
            go_wp2_with fail
            go_loopw [5] (fun i w' => ∃ k : Nat, i = .int .i64 k ∧ k ≤ l.length ∧ Hid ((∀ y ∈ l.take k, Sht n y) ∧ Below w.heap.size w w') ∧ Hid (Bx w' w.heap.size h (.slice an h.names.length cn) (.slice al l.length cl))) (fun i _ => l.length - (intOf i).toNat)
            case atStart => exact ⟨0, rfl, Nat.zero_le _, ⟨(fun y hy => by simp at hy), hb2.out⟩, hB.out⟩
            case round =>
              clear H c7 c8 hki hk hB
              obtain ⟨k2, rfl, hk, H, hB⟩ := hrel
              have c8 := hB.out.cells.2.2.2.2.2.2.2.2
              by_cases hkl : k2 < l.length
              · have hki : (k2 : Int) < (l.length : Int) := by omega
                have hk63 : (k2 : Int) < 9223372036854775807 := by omega
                obtain ⟨b, o, c, he, hbl, hlc, hcm, ns', ls', hrg, hrd⟩ := hr.out.at k2 hkl
                have he' := Value.slice.inj he
                obtain ⟨rfl, _, rfl⟩ := he'
                clear he
                obtain ⟨q0, q1, q2, q3, q4, q5, q6, q7, q8⟩ := range9 (rangeAt_below hrg H.out.2 hbl)
                have hrd' := hide (hrd.below H.out.2)
                obtain ⟨a1, m1, d1, a2, m2, d2, rfl, rfl⟩ := hrd.shape
                clear hrg hrd
                obtain ⟨bk, hbk⟩ := tells (Sht n l[k2])
                have hcall := hide (Calls.tb (ih'.out l[k2] (.slice a1 m1 d1) (.slice a2 m2 d2) wr hrd'.out (hz.out.2.2.2.2 _ (List.getElem_mem _))) hbk)
                have hbk' := hide hbk
                clear hbk
                cases bk
                · go_wp2_with (go_at_call 72; refine hcall.out.mono ?_; rintro e w3 ⟨rfl, hb3⟩)
                  go_ret
                  exact TB.no (fun q => by have := hbk'.out.2 (q.2.2.2 _ (List.getElem_mem _)); cases this) (below_then H.out.2 hb3)
                · go_wp2_with (go_at_call 72; refine hcall.out.mono ?_; rintro e w3 ⟨rfl, hb3⟩)
                  exact ⟨⟨k2 + 1, by go_num, by omega, ⟨mem_take_more hkl H.out.1 (hbk'.out.1 (by simp)), below_then H.out.2 hb3⟩, hB.out.below hb3⟩, by simp [intOf]; omega⟩
              · have hki : ¬ ((k2 : Int) < (l.length : Int)) := by omega
                have hE2 := H.out.1
                rw [List.take_of_length_le (by omega)] at hE2
                have hE2' := hide hE2
                clear hE2
                go_wp2_with fail
                go_ret
                exact TB.yes ⟨hx0.out.1, hx0.out.2, hE'.out, hE2'.out⟩ H.out.2
    · have hML : M = 4096 := by rw [← hM, show (h.kind == 9) = false by rw [beq_eq_false_iff_ne]; exact k9]; rfl
      by_cases ht : (4096 : Int) < (h.text.size : Int)
      · have hx := hide (show ¬ Sht (n + 1) (h, l) from fun q => by have h2 : (h.text.size : Int) ≤ (bif h.kind == 9 then 64 else 4096) := q.1; rw [hM, hML] at h2; omega)
        go_enter Tryd.func72, Tryd.ntmps72
        go_wp2_with fail
        go_ret
        exact TB.no hx.out (hb0.out _)
      by_cases hl : (256 : Int) < (l.length : Int)
      · have hx := hide (show ¬ Sht (n + 1) (h, l) from fun q => by have h2 : l.length ≤ 256 := q.2.1; omega)
        go_enter Tryd.func72, Tryd.ntmps72
        go_wp2_with fail
        go_ret
        exact TB.no hx.out (hb0.out _)
      · have hx0 := hide (show (h.text.size : Int) ≤ (bif h.kind == 9 then 64 else 4096) ∧ l.length ≤ 256 from ⟨by rw [hM, hML]; omega, by omega⟩)
        go_enter Tryd.func72, Tryd.ntmps72
        go_wp2_with fail
        go_loopw [4] (fun i w' => ∃ k : Nat, i = .int .i64 k ∧ k ≤ h.names.length ∧ Hid ((∀ s ∈ h.names.take k, s.size ≤ 64) ∧ Below w.heap.size w w') ∧ Hid (Bx w' w.heap.size h (.slice an h.names.length cn) (.slice al l.length cl))) (fun i _ => h.names.length - (intOf i).toNat)
        case atStart => exact ⟨0, rfl, Nat.zero_le _, ⟨(fun y hy => by simp at hy), hb0.out _⟩, hB0.out⟩
        case round =>
          obtain ⟨k, rfl, hk, H, hB⟩ := hrel
          have c7 := hB.out.cells.2.2.2.2.2.2.2.1
          have c8 := hB.out.cells.2.2.2.2.2.2.2.2
          by_cases hkl : k < h.names.length
          · have hki : (k : Int) < (h.names.length : Int) := by omega
            have hk63 : (k : Int) < 9223372036854775807 := by omega
            obtain ⟨b, o, c, he, hbl, hlc, hcm, hcell⟩ := hr.out.1.at k hkl
            have he' := Value.slice.inj he
            obtain ⟨rfl, _, rfl⟩ := he'
            clear he
            have hcell := (H.out.2.cell (p := ⟨b, o + k, none⟩) hbl).trans hcell
            obtain ⟨s, hs⟩ : ∃ s, h.names[k] = s := ⟨_, rfl⟩
            simp only at hcell
            rw [hs] at hcell
            have hs' := hide hs
            clear hs
            by_cases h64 : (64 : Int) < (s.size : Int)
            · have hno := hide (show ¬ Sht (n + 1) (h, l) from fun q => by
                have h2 := q.2.2.1 h.names[k] (List.getElem_mem _)
                rw [hs'.out] at h2
                omega)
              go_wp2_with fail
              go_ret
              exact TB.no hno.out H.out.2
            · have hmo := hide (mem_take_more (p := fun s => s.size ≤ 64) hkl H.out.1 (by rw [hs'.out]; omega))
              go_wp2_with fail
              exact ⟨⟨k + 1, by go_num, by omega, ⟨hmo.out, H.out.2⟩, hB.out⟩, by simp [intOf]; omega⟩
          · have hki : ¬ ((k : Int) < (h.names.length : Int)) := by omega
            have hE := H.out.1
            rw [List.take_of_length_le (by omega)] at hE
            have hE' := hide hE
            have hb2 := hide H.out.2
            clear hE
            go_wp2_with fail
            go_loopw [5] (fun i w' => ∃ k : Nat, i = .int .i64 k ∧ k ≤ l.length ∧ Hid ((∀ y ∈ l.take k, Sht n y) ∧ Below w.heap.size w w') ∧ Hid (Bx w' w.heap.size h (.slice an h.names.length cn) (.slice al l.length cl))) (fun i _ => l.length - (intOf i).toNat)
            case atStart => exact ⟨0, rfl, Nat.zero_le _, ⟨(fun y hy => by simp at hy), hb2.out⟩, hB.out⟩
            case round =>
              clear H c7 c8 hki hk hB
              obtain ⟨k2, rfl, hk, H, hB⟩ := hrel
              have c8 := hB.out.cells.2.2.2.2.2.2.2.2
              by_cases hkl : k2 < l.length
              · have hki : (k2 : Int) < (l.length : Int) := by omega
                have hk63 : (k2 : Int) < 9223372036854775807 := by omega
                obtain ⟨b, o, c, he, hbl, hlc, hcm, ns', ls', hrg, hrd⟩ := hr.out.at k2 hkl
                have he' := Value.slice.inj he
                obtain ⟨rfl, _, rfl⟩ := he'
                clear he
                obtain ⟨q0, q1, q2, q3, q4, q5, q6, q7, q8⟩ := range9 (rangeAt_below hrg H.out.2 hbl)
                have hrd' := hide (hrd.below H.out.2)
                obtain ⟨a1, m1, d1, a2, m2, d2, rfl, rfl⟩ := hrd.shape
                clear hrg hrd
                obtain ⟨bk, hbk⟩ := tells (Sht n l[k2])
                have hcall := hide (Calls.tb (ih'.out l[k2] (.slice a1 m1 d1) (.slice a2 m2 d2) wr hrd'.out (hz.out.2.2.2.2 _ (List.getElem_mem _))) hbk)
                have hbk' := hide hbk
                clear hbk
                cases bk
                · go_wp2_with (go_at_call 72; refine hcall.out.mono ?_; rintro e w3 ⟨rfl, hb3⟩)
                  go_ret
                  exact TB.no (fun q => by have := hbk'.out.2 (q.2.2.2 _ (List.getElem_mem _)); cases this) (below_then H.out.2 hb3)
                · go_wp2_with (go_at_call 72; refine hcall.out.mono ?_; rintro e w3 ⟨rfl, hb3⟩)
                  exact ⟨⟨k2 + 1, by go_num, by omega, ⟨mem_take_more hkl H.out.1 (hbk'.out.1 (by simp)), below_then H.out.2 hb3⟩, hB.out.below hb3⟩, by simp [intOf]; omega⟩
              · have hki : ¬ ((k2 : Int) < (l.length : Int)) := by omega
                have hE2 := H.out.1
                rw [List.take_of_length_le (by omega)] at hE2
                have hE2' := hide hE2
                clear hE2
                go_wp2_with fail
                go_ret
                exact TB.yes ⟨hx0.out.1, hx0.out.2, hE'.out, hE2'.out⟩ H.out.2
end Go.Proofs.YtlfnnecpinmjjaaDoor
/- calamusref04.Depth, Size: walked. -/
namespace Go.Proofs.YtlfnnecpinmjjaaDoor
open Go.RowKit
set_option linter.unusedSimpArgs false
set_option linter.unusedVariables false
set_option maxHeartbeats 1000000 in
set_option maxRecDepth 100000 in
theorem rdepth_any : ∀ (n : Nat) (x : VT n) (ns ls : Value) (w : World), RD n w x ns ls → siz n x ≤ 200000 →
    Calls Tryd.prog 73 #[.agg (vals (vhd n x) ns ls)] w fun e w' => e = .returned (.int .i64 (dep n x)) ∧ Below w.heap.size w w' := by
  intro n
  induction n with
  | zero => intro x; exact Empty.elim x
  | succ n ih =>
    intro x ns ls w hr hs
    obtain ⟨h, l⟩ := x
    obtain ⟨al, cl, rfl, hc1, hc2⟩ := hr.len
    have hB0 := hide (bx_new w h ns (.slice al l.length cl))
    have hr := hide hr
    have ih' := hide ih
    have hs' := hide hs
    clear ih hs
    show Calls _ _ #[.agg #[.int .i64 h.kind, .bool h.flag, .bool h.neg, .string h.dig, .int .i64 h.exp, .int .u64 h.bits, .string h.text, ns, .slice al l.length cl]] _ _
    go_enter Tryd.func73, Tryd.ntmps73
    go_wp2_with fail
    go_loopw [3, 4] (fun m i w' => ∃ k : Nat, m = .int .i64 (mxl ((l.map (dep n)).take k) : Nat) ∧ i = .int .i64 k ∧ k ≤ l.length ∧ Hid (Bx w' w.heap.size h ns (.slice al l.length cl)) ∧ Hid (Below w.heap.size w w')) (fun _ i _ => l.length - (intOf i).toNat)
    case atStart => exact ⟨0, rfl, rfl, Nat.zero_le _, hB0.out, below_al (Below.refl _ _)⟩
    case round =>
      obtain ⟨k, rfl, rfl, hk, hB, hb⟩ := hrel
      have ml : maxLen = 9223372036854775807 := rfl
      have hk63 : (k : Int) ≤ 9223372036854775807 := by omega
      have hc8 := hB.out.cells.2.2.2.2.2.2.2.2
      by_cases hkl : k < l.length
      · obtain ⟨b, o, c, he, hbl, hlc, hcm, ns', ls', hrg, hrd⟩ := hr.out.at k hkl
        have he' := Value.slice.inj he
        obtain ⟨rfl, _, rfl⟩ := he'
        clear he
        have hki : (k : Int) < (l.length : Int) := by omega
        have hk63 : (k : Int) < 9223372036854775807 := by omega
        obtain ⟨c0, c1, c2, c3, c4, c5, c6, c7, c8⟩ := range9 (rangeAt_below hrg hb.out hbl)
        have hrd' := hide (hrd.below hb.out)
        obtain ⟨a1, m1, d1, a2, m2, d2, rfl, rfl⟩ := hrd.shape
        clear hrg hrd
        have hsk : siz n l[k] ≤ 200000 := by have h1 := siz_mem (x := (h, l)) hkl; have h2 := hs'.out; simp only at h1; omega
        obtain ⟨D, hD⟩ : ∃ D, dep n l[k] = D := ⟨_, rfl⟩
        have hmx := mxl_take (l.map (dep n)) k (by simpa using hkl)
        rw [List.getElem_map, hD] at hmx
        have hcall := hide (ih'.out l[k] (.slice a1 m1 d1) (.slice a2 m2 d2) wr hrd'.out hsk)
        rw [hD] at hcall
        obtain ⟨M, hM⟩ : ∃ M, mxl ((l.map (dep n)).take k) = M := ⟨_, rfl⟩
        rw [hM] at hmx ⊢
        have hmx' := hide hmx
        have hD' := hide hD
        have hM' := hide hM
        clear hD hM hsk hmx
        rcases Nat.lt_trichotomy M D with hlt | hlt | hlt
        · have hdi : (M : Int) < (D : Int) := by omega
          have hdj : ¬ ((D : Int) < (M : Int)) := by omega
          go_wp2_with (go_at_call 73; refine hcall.out.mono ?_; rintro e w1 ⟨rfl, hb1⟩)
          exact ⟨⟨k + 1, by rw [hmx'.out]; congr 2; omega, by go_num, by omega, hB.out.below hb1, below_then hb.out hb1⟩, by simp [intOf]; omega⟩
        · subst hlt
          have hdi : ¬ ((M : Int) < (M : Int)) := by omega
          go_wp2_with (go_at_call 73; refine hcall.out.mono ?_; rintro e w1 ⟨rfl, hb1⟩)
          exact ⟨⟨k + 1, by rw [hmx'.out]; congr 2; omega, by go_num, by omega, hB.out.below hb1, below_then hb.out hb1⟩, by simp [intOf]; omega⟩
        · have hdi : (D : Int) < (M : Int) := by omega
          have hdj : ¬ ((M : Int) < (D : Int)) := by omega
          go_wp2_with (go_at_call 73; refine hcall.out.mono ?_; rintro e w1 ⟨rfl, hb1⟩)
          exact ⟨⟨k + 1, by rw [hmx'.out]; congr 2; omega, by go_num, by omega, hB.out.below hb1, below_then hb.out hb1⟩, by simp [intOf]; omega⟩
      · have hki : ¬ ((k : Int) < (l.length : Int)) := by omega
        have hkl2 : k = l.length := by omega
        have hD : dep (n + 1) (h, l) = 1 + mxl ((l.map (dep n)).take k) := by
          simp only [dep]
          rw [List.take_of_length_le (by simp; omega)]
        have hsz : 1 + mxl ((l.map (dep n)).take k) ≤ 200000 := by
          rw [← hD]; exact Nat.le_trans (dep_le _ _) hs'.out
        obtain ⟨M, hM⟩ : ∃ M, mxl ((l.map (dep n)).take k) = M := ⟨_, rfl⟩
        rw [hM] at hsz hD ⊢
        have hD' := hide hD
        clear hD hM hkl2
        have hM2 : (M : Int) < 200000 := by omega
        clear hsz
        go_wp2_with fail
        go_ret
        exact ⟨by rw [hD'.out]; exact ret_int (by omega), hb.out⟩
set_option maxHeartbeats 1000000 in
set_option maxRecDepth 100000 in
theorem rsize_any : ∀ (n : Nat) (x : VT n) (ns ls : Value) (w : World), RD n w x ns ls → siz n x ≤ 200000 →
    Calls Tryd.prog 74 #[.agg (vals (vhd n x) ns ls)] w fun e w' => e = .returned (.int .i64 (siz n x)) ∧ Below w.heap.size w w' := by
  intro n
  induction n with
  | zero => intro x; exact Empty.elim x
  | succ n ih =>
    intro x ns ls w hr hs
    obtain ⟨h, l⟩ := x
    obtain ⟨al, cl, rfl, hc1, hc2⟩ := hr.len
    have hB0 := hide (bx_new w h ns (.slice al l.length cl))
    have hr := hide hr
    have ih' := hide ih
    have hs' := hide hs
    clear ih hs
    show Calls _ _ #[.agg #[.int .i64 h.kind, .bool h.flag, .bool h.neg, .string h.dig, .int .i64 h.exp, .int .u64 h.bits, .string h.text, ns, .slice al l.length cl]] _ _
    go_enter Tryd.func74, Tryd.ntmps74
    go_wp2_with fail
    go_loopw [3, 4] (fun m i w' => ∃ k : Nat, m = .int .i64 (1 + suml ((l.map (siz n)).take k) : Nat) ∧ i = .int .i64 k ∧ k ≤ l.length ∧ Hid (Bx w' w.heap.size h ns (.slice al l.length cl)) ∧ Hid (Below w.heap.size w w')) (fun _ i _ => l.length - (intOf i).toNat)
    case atStart => exact ⟨0, rfl, rfl, Nat.zero_le _, hB0.out, below_al (Below.refl _ _)⟩
    case round =>
      obtain ⟨k, rfl, rfl, hk, hB, hb⟩ := hrel
      have ml : maxLen = 9223372036854775807 := rfl
      have hk63 : (k : Int) ≤ 9223372036854775807 := by omega
      have hc8 := hB.out.cells.2.2.2.2.2.2.2.2
      obtain ⟨M, hM⟩ : ∃ M, 1 + suml ((l.map (siz n)).take k) = M := ⟨_, rfl⟩
      have hMle : M ≤ 200000 := by
        have h1 := suml_take_le (l.map (siz n)) k
        have h2 := hs'.out
        simp only [siz] at h2
        omega
      by_cases hkl : k < l.length
      · obtain ⟨b, o, c, he, hbl, hlc, hcm, ns', ls', hrg, hrd⟩ := hr.out.at k hkl
        have he' := Value.slice.inj he
        obtain ⟨rfl, _, rfl⟩ := he'
        clear he
        have hki : (k : Int) < (l.length : Int) := by omega
        have hk63 : (k : Int) < 9223372036854775807 := by omega
        obtain ⟨c0, c1, c2, c3, c4, c5, c6, c7, c8⟩ := range9 (rangeAt_below hrg hb.out hbl)
        have hrd' := hide (hrd.below hb.out)
        obtain ⟨a1, m1, d1, a2, m2, d2, rfl, rfl⟩ := hrd.shape
        clear hrg hrd
        have hsk : siz n l[k] ≤ 200000 := by have h1 := siz_mem (x := (h, l)) hkl; have h2 := hs'.out; simp only at h1; omega
        obtain ⟨D, hD⟩ : ∃ D, siz n l[k] = D := ⟨_, rfl⟩
        have hmx := suml_take (l.map (siz n)) k (by simpa using hkl)
        rw [List.getElem_map, hD] at hmx
        have hcall := hide (ih'.out l[k] (.slice a1 m1 d1) (.slice a2 m2 d2) wr hrd'.out hsk)
        rw [hD] at hcall hsk
        have hmx : 1 + suml ((l.map (siz n)).take (k + 1)) = M + D := by omega
        rw [hM]
        have hmx' := hide hmx
        have hD1 : (D : Int) ≤ 200000 := by omega
        have hM1 : (M : Int) ≤ 200000 := by omega
        clear hD hM hsk hmx hMle
        go_wp2_with (go_at_call 74; refine hcall.out.mono ?_; rintro e w1 ⟨rfl, hb1⟩)
        exact ⟨⟨k + 1, by rw [hmx'.out]; first | rfl | (congr 1), by go_num, by omega, hB.out.below hb1, below_then hb.out hb1⟩, by simp [intOf]; omega⟩
      · have hki : ¬ ((k : Int) < (l.length : Int)) := by omega
        have hD : siz (n + 1) (h, l) = M := by
          rw [← hM]
          simp only [siz]
          rw [List.take_of_length_le (by simp; omega)]
        rw [hM]
        have hD' := hide hD
        clear hD hM hMle
        go_wp2_with fail
        go_ret
        exact ⟨by rw [hD'.out]; rfl, hb.out⟩
end Go.Proofs.YtlfnnecpinmjjaaDoor
/- calamusref04.own, Formed, Within, Check: walked, given what calamusref03.Valid answers. -/
namespace Go.Proofs.YtlfnnecpinmjjaaDoor
open Go.RowKit
set_option linter.unusedSimpArgs false
set_option linter.unusedVariables false
/-- What the reference's Valid answers. -/
def RVal : Prop := ∀ (s : ByteArray) (w : World), s.size ≤ 281474976710656 → Calls Tryd.prog 75 #[.string s] w fun e w' => e = .returned (.bool (okT s)) ∧ Below w.heap.size w w'
set_option maxHeartbeats 2000000 in
set_option maxRecDepth 100000 in
theorem own_any (rv : RVal) (n : Nat) (h : Hd) (l : List (VT n)) (ns ls : Value) (w : World) (hr : RD (n + 1) w (h, l) ns ls) (hz : Sz (n + 1) (h, l)) :
    Calls Tryd.prog 71 #[.agg (vals h ns ls)] w fun e w' => TB (Filled h l.length) w e w' := by
  obtain ⟨al, cl, rfl, hc1, hc2⟩ := hr.len
  obtain ⟨an, cn, rfl, hn1, hn2⟩ := hr.1.len
  have ml : maxLen = 9223372036854775807 := rfl
  simp only at hc1 hc2 hn1 hn2
  obtain ⟨z1, z2, z3, z4, z5⟩ := hz
  simp only at z1 z2 z3 z4
  have hB0 := hide (bx_new w h (.slice an h.names.length cn) (.slice al l.length cl))
  have hb0 : Hid (∀ o, Below w.heap.size w (w.alloc o)) := fun o => below_al (Below.refl _ _)
  have hV := hide (fun W => rv h.text W (by omega))
  have z4 := hide z4
  replace hr := hide hr
  replace rv := hide rv
  clear z5
  show Calls _ _ #[.agg #[.int .i64 h.kind, .bool h.flag, .bool h.neg, .string h.dig, .int .i64 h.exp, .int .u64 h.bits, .string h.text, .slice an h.names.length cn, .slice al l.length cl]] _ _
  by_cases k3 : h.kind = 3
  · have hx := hide (show Filled h l.length ↔ isN h.neg h.dig h.exp = true by simp [Filled, k3])
    have hC := hide (fun W => ris_any h.neg h.dig h.exp W (by omega))
    obtain ⟨b, hb⟩ : ∃ b, isN h.neg h.dig h.exp = b := ⟨_, rfl⟩
    rw [hb] at hC hx
    rw [k3]
    clear hb
    go_enter Tryd.func71, Tryd.ntmps71
    go_wp2_with (go_at_call 84; refine (hC.out _).mono ?_; rintro e w1 ⟨rfl, hb1⟩)
    go_ret
    exact ⟨b, rfl, (show Hid _ from hx.out.symm), below_then (hb0.out _) hb1⟩
  by_cases k5 : h.kind = 5
  · have hx := hide (show Filled h l.length ↔ okT h.text = true by simp [Filled, k5])
    obtain ⟨b, hb⟩ : ∃ b, okT h.text = b := ⟨_, rfl⟩
    rw [hb] at hV hx
    rw [k5]
    clear hb
    go_enter Tryd.func71, Tryd.ntmps71
    go_wp2_with (go_at_call 75; refine (hV.out _).mono ?_; rintro e w1 ⟨rfl, hb1⟩)
    go_ret
    exact ⟨b, rfl, (show Hid _ from hx.out.symm), below_then (hb0.out _) hb1⟩
  by_cases k9 : h.kind = 9
  · obtain ⟨b, hb⟩ : ∃ b, okT h.text = b := ⟨_, rfl⟩
    have hx := hide (show Filled h l.length ↔ (b = true ∧ l.length = 1) by simp [Filled, k9, hb])
    rw [hb] at hV
    rw [k9]
    clear hb
    cases b
    · go_enter Tryd.func71, Tryd.ntmps71
      go_wp2_with (go_at_call 75; refine (hV.out _).mono ?_; rintro e w1 ⟨rfl, hb1⟩; have c8 := one_cell hb1 8)
      go_ret
      exact TB.no (fun q => by have := (hx.out.1 q).1; cases this) (below_then (hb0.out _) hb1)
    · by_cases h1 : l.length = 1
      · rw [h1] at hx hB0 ⊢
        go_enter Tryd.func71, Tryd.ntmps71
        go_wp2_with (go_at_call 75; refine (hV.out _).mono ?_; rintro e w1 ⟨rfl, hb1⟩; have c8 := one_cell hb1 8)
        go_ret
        exact TB.yes (hx.out.2 (by simp)) (below_then (hb0.out _) hb1)
      · have h1i : ¬ (l.length : Int) = 1 := by omega
        have h1d := hide (show decide ((l.length : Int) = 1) = false from decide_eq_false h1i)
        have hx2 : Hid (¬ Filled h l.length) := fun q => h1 (hx.out.1 q).2
        clear h1 hx
        go_enter Tryd.func71, Tryd.ntmps71
        go_wp2_with (go_at_call 75; refine (hV.out _).mono ?_; rintro e w1 ⟨rfl, hb1⟩; have c8 := one_cell hb1 8)
        go_ret
        first | exact TB.no hx2.out (below_then (hb0.out _) hb1) | (show TB _ _ (.returned (.bool (decide ((l.length : Int) = 1)))) _; rw [h1d.out]; exact TB.no hx2.out (below_then (hb0.out _) hb1))
  by_cases k8 : h.kind = 8
  · have hx := hide (show Filled h l.length ↔ (h.names.length = l.length ∧ Nms h.names) by simp [Filled, k8])
    have hB8 : Hid (Bx (w.alloc (.cells #[.int .i64 8, .bool h.flag, .bool h.neg, .string h.dig, .int .i64 h.exp, .int .u64 h.bits, .string h.text, .slice an h.names.length cn, .slice al l.length cl] 33)) w.heap.size h (.slice an h.names.length cn) (.slice al l.length cl)) := by have := hB0.out; unfold vals at this; rw [k8] at this; exact this
    rw [k8]
    go_enter Tryd.func71, Tryd.ntmps71
    go_wp2_with fail
    go_loopw [3] (fun i w' => ∃ k : Nat, i = .int .i64 k ∧ k ≤ h.names.length ∧ Hid ((∀ s ∈ h.names.take k, okT s = true) ∧ Below w.heap.size w w') ∧ Hid (Bx w' w.heap.size h (.slice an h.names.length cn) (.slice al l.length cl))) (fun i _ => h.names.length - (intOf i).toNat)
    case atStart => exact ⟨0, rfl, Nat.zero_le _, ⟨(fun y hy => by simp at hy), hb0.out _⟩, hB8.out⟩
    case round =>
      obtain ⟨k, rfl, hk, H, hB⟩ := hrel
      have c7 := hB.out.cells.2.2.2.2.2.2.2.1
      have c8 := hB.out.cells.2.2.2.2.2.2.2.2
      by_cases hkl : k < h.names.length
      · have hki : (k : Int) < (h.names.length : Int) := by omega
        have hk63 : (k : Int) < 9223372036854775807 := by omega
        obtain ⟨b, o, c, he, hbl, hlc, hcm, hcell⟩ := hr.out.1.at k hkl
        have he' := Value.slice.inj he
        obtain ⟨rfl, _, rfl⟩ := he'
        clear he
        have hcell := (H.out.2.cell (p := ⟨b, o + k, none⟩) hbl).trans hcell
        obtain ⟨s, hs⟩ : ∃ s, h.names[k] = s := ⟨_, rfl⟩
        simp only at hcell
        rw [hs] at hcell
        have hsz : s.size ≤ 281474976710656 := by rw [← hs]; exact z4.out _ (List.getElem_mem _)
        have hVs := hide (rv.out s wr hsz)
        obtain ⟨q, hq⟩ : ∃ q, okT s = q := ⟨_, rfl⟩
        rw [hq] at hVs
        have hq' := hide hq
        have hs' := hide hs
        clear hs hq hsz
        cases q
        · have hno := hide (show ¬ Filled h l.length from fun p => by
            have := (hx.out.1 p).2.1 h.names[k] (List.getElem_mem _)
            rw [hs'.out, hq'.out] at this; cases this)
          go_wp2_with (go_at_call 75; refine hVs.out.mono ?_; rintro e w3 ⟨rfl, hb3⟩)
          go_ret
          exact TB.no hno.out (below_then H.out.2 hb3)
        · have hmo := hide (mem_take_more (p := fun s => okT s = true) hkl H.out.1 (by rw [hs'.out, hq'.out]))
          go_wp2_with (go_at_call 75; refine hVs.out.mono ?_; rintro e w3 ⟨rfl, hb3⟩)
          exact ⟨⟨k + 1, by go_num, by omega, ⟨hmo.out, below_then H.out.2 hb3⟩, hB.out.below hb3⟩, by simp [intOf]; omega⟩
      · have hki : ¬ ((k : Int) < (h.names.length : Int)) := by omega
        have hE := H.out.1
        rw [List.take_of_length_le (by omega)] at hE
        have hE' := hide hE
        clear hE
        by_cases hlen : (h.names.length : Int) = (l.length : Int)
        · obtain ⟨q, hq⟩ := tells h.names.Nodup
          have hU := hide (Calls.tb (unlike_any (.slice an h.names.length cn) h.names wr (hr.out.1.below H.out.2)) hq)
          have hfin := hide (show q = true ↔ Filled h l.length by
            rw [hx.out, hq]
            exact ⟨fun p => ⟨by omega, hE'.out, p⟩, fun p => p.2.2⟩)
          clear hq
          go_wp2_with (go_at_call 85; refine hU.out.mono ?_; rintro e w3 ⟨rfl, hb3⟩)
          go_ret
          exact ⟨q, rfl, (show Hid _ from hfin.out), below_then H.out.2 hb3⟩
        · have hno := hide (show ¬ Filled h l.length from fun p => by have := (hx.out.1 p).1; omega)
          go_wp2_with fail
          go_ret
          exact TB.no hno.out H.out.2
  · have hx := hide (show Filled h l.length by simp [Filled, k3, k5, k8, k9])
    go_enter Tryd.func71, Tryd.ntmps71
    go_wp2_with fail
    go_ret
    exact TB.yes hx.out (hb0.out _)
end Go.Proofs.YtlfnnecpinmjjaaDoor
/- calamusref04.Formed, Within, Check: walked, given what calamusref03.Valid answers. -/
namespace Go.Proofs.YtlfnnecpinmjjaaDoor
open Go.RowKit
set_option linter.unusedSimpArgs false
set_option linter.unusedVariables false
set_option maxHeartbeats 2000000 in
set_option maxRecDepth 100000 in
theorem formed_any (rv : RVal) : ∀ (n : Nat) (x : VT n) (ns ls : Value) (w : World), RD n w x ns ls → Sz n x →
    Calls Tryd.prog 55 #[.agg (vals (vhd n x) ns ls)] w fun e w' => TB (IsV n x) w e w' := by
  intro n
  induction n with
  | zero => intro x; exact Empty.elim x
  | succ n ih =>
    intro x ns ls w hr hz
    obtain ⟨h, l⟩ := x
    obtain ⟨b1, hb1⟩ := tells (Bare h l)
    obtain ⟨b2, hb2⟩ := tells (Filled h l.length)
    have hP := hide (fun W (hb : Below w.heap.size w W) => Calls.tb (rplain_any n h l ns ls W (hr.below hb)) hb1)
    have hO := hide (fun W (hb : Below w.heap.size w W) => Calls.tb (own_any rv n h l ns ls W (hr.below hb) hz) hb2)
    obtain ⟨al, cl, rfl, hc1, hc2⟩ := hr.len
    obtain ⟨an, mn, cn, _, _, _, rfl, _⟩ := hr.shape
    have ml : maxLen = 9223372036854775807 := rfl
    simp only at hc1 hc2
    have hb0 : Hid (∀ o, Below w.heap.size w (w.alloc o)) := fun o => below_al (Below.refl _ _)
    have hB0 := hide (bx_new w h (.slice an mn cn) (.slice al l.length cl))
    replace hr := hide hr
    replace hz := hide hz
    replace hb1 := hide hb1
    replace hb2 := hide hb2
    have ih' := hide ih
    clear ih rv
    show Calls _ _ #[.agg #[.int .i64 h.kind, .bool h.flag, .bool h.neg, .string h.dig, .int .i64 h.exp, .int .u64 h.bits, .string h.text, .slice an mn cn, .slice al l.length cl]] _ _
    cases b1
    · have hno := hide (show ¬ IsV (n + 1) (h, l) from fun q => by have := hb1.out.2 q.1; cases this)
      go_enter Tryd.func55, Tryd.ntmps55
      go_wp2_with (go_at_call 70; refine (hP.out _ (hb0.out _)).mono ?_; rintro e w1 ⟨rfl, hb3⟩)
      go_ret
      exact TB.no hno.out (below_then (hb0.out _) hb3)
    · go_enter Tryd.func55, Tryd.ntmps55
      go_wp2_with fail
      refine (hP.out _ (hb0.out _)).mono ?_
      rintro e w1 ⟨rfl, hb3⟩
      have hw1 := hide (below_then (hb0.out _) hb3)
      have hB1 := hide (hB0.out.below hb3)
      clear hB0 hb3
      obtain ⟨c0, c1, c2, c3, c4, c5, c6, c7, c8⟩ := hB1.out.cells
      have hO1 := hide (hO.out w1 hw1.out)
      cases b2
      · have hno := hide (show ¬ IsV (n + 1) (h, l) from fun q => by have := hb2.out.2 q.2.1; cases this)
        go_wp2_with (go_at_call 71; refine hO1.out.mono ?_; rintro e w2 ⟨rfl, hb4⟩)
        go_ret
        exact TB.no hno.out (below_then hw1.out hb4)
      · go_wp2_with fail
        refine hO1.out.mono ?_
        rintro e w2 ⟨rfl, hb4⟩
        have hw2 := hide (below_then hw1.out hb4)
        have hB2 := hide (hB1.out.below hb4)
        clear hB1 hb4 hO1 c0 c1 c2 c3 c4 c5 c6 c7 c8
        go_wp2_with fail
        go_loopw [3] (fun i w' => ∃ k : Nat, i = .int .i64 k ∧ k ≤ l.length ∧ Hid ((∀ y ∈ l.take k, IsV n y) ∧ Below w.heap.size w w') ∧ Hid (Bx w' w.heap.size h (.slice an mn cn) (.slice al l.length cl))) (fun i _ => l.length - (intOf i).toNat)
        case atStart => exact ⟨0, rfl, Nat.zero_le _, ⟨(fun y hy => by simp at hy), hw2.out⟩, hB2.out⟩
        case round =>
          obtain ⟨k, rfl, hk, H, hB⟩ := hrel
          have c8 := hB.out.cells.2.2.2.2.2.2.2.2
          by_cases hkl : k < l.length
          · have hki : (k : Int) < (l.length : Int) := by omega
            have hk63 : (k : Int) < 9223372036854775807 := by omega
            obtain ⟨b, o, c, he, hbl, hlc, hcm, ns', ls', hrg, hrd⟩ := hr.out.at k hkl
            have he' := Value.slice.inj he
            obtain ⟨rfl, _, rfl⟩ := he'
            clear he
            obtain ⟨q0, q1, q2, q3, q4, q5, q6, q7, q8⟩ := range9 (rangeAt_below hrg H.out.2 hbl)
            have hrd' := hide (hrd.below H.out.2)
            obtain ⟨a1, m1, d1, a2, m2, d2, rfl, rfl⟩ := hrd.shape
            clear hrg hrd
            obtain ⟨bk, hbk⟩ := tells (IsV n l[k])
            have hcall := hide (Calls.tb (ih'.out l[k] (.slice a1 m1 d1) (.slice a2 m2 d2) wr hrd'.out (hz.out.2.2.2.2 _ (List.getElem_mem _))) hbk)
            have hbk' := hide hbk
            clear hbk
            cases bk
            · go_wp2_with (go_at_call 55; refine hcall.out.mono ?_; rintro e w3 ⟨rfl, hb3⟩)
              go_ret
              exact TB.no (fun q => by have := hbk'.out.2 (q.2.2 _ (List.getElem_mem _)); cases this) (below_then H.out.2 hb3)
            · go_wp2_with (go_at_call 55; refine hcall.out.mono ?_; rintro e w3 ⟨rfl, hb3⟩)
              exact ⟨⟨k + 1, by go_num, by omega, ⟨mem_take_more hkl H.out.1 (hbk'.out.1 (by simp)), below_then H.out.2 hb3⟩, hB.out.below hb3⟩, by simp [intOf]; omega⟩
          · have hki : ¬ ((k : Int) < (l.length : Int)) := by omega
            have hE2 := H.out.1
            rw [List.take_of_length_le (by omega)] at hE2
            have hyes := hide (show IsV (n + 1) (h, l) from ⟨hb1.out.1 (by simp), hb2.out.1 (by simp), hE2⟩)
            clear hE2
            go_wp2_with fail
            go_ret
            exact TB.yes hyes.out H.out.2
set_option maxHeartbeats 2000000 in
set_option maxRecDepth 100000 in
theorem within_any (n : Nat) (x : VT n) (ns ls : Value) (w : World) (hr : Rdy n w x ns ls) :
    Calls Tryd.prog 56 #[.agg (vals (vhd n x) ns ls)] w fun e w' => TB (Win n x) w e w' := by
  obtain ⟨a1, m1, d1, a2, m2, d2, rfl, rfl⟩ := hr.rd.shape
  obtain ⟨h, hh⟩ : ∃ h, vhd n x = h := ⟨_, rfl⟩
  obtain ⟨b2, hb2⟩ := tells (Sht n x)
  have hS := hide (fun o => Calls.tb (rshort_any n x (.slice a1 m1 d1) (.slice a2 m2 d2) (w.alloc o) (hr.rd.below (below_al (Below.refl _ _))) hr.sz) hb2)
  have hD := hide (fun W (hb : Below w.heap.size w W) => rdepth_any n x (.slice a1 m1 d1) (.slice a2 m2 d2) W (hr.rd.below hb) hr.le)
  have hZ := hide (fun W (hb : Below w.heap.size w W) => rsize_any n x (.slice a1 m1 d1) (.slice a2 m2 d2) W (hr.rd.below hb) hr.le)
  have hb0 : Hid (∀ o, Below w.heap.size w (w.alloc o)) := fun o => below_al (Below.refl _ _)
  obtain ⟨D, hDD⟩ : ∃ D, dep n x = D := ⟨_, rfl⟩
  obtain ⟨Z, hZZ⟩ : ∃ Z, siz n x = Z := ⟨_, rfl⟩
  have hE' := hide (show Win n x ↔ (b2 = true ∧ D ≤ 16 ∧ Z ≤ 4096) by
    unfold Win
    rw [hDD, hZZ, ← hb2])
  rw [hh] at hS hD hZ ⊢
  rw [hDD] at hD
  rw [hZZ] at hZ
  have hB0 := hide (bx_new w h (.slice a1 m1 d1) (.slice a2 m2 d2))
  clear hr hh hDD hZZ hb2
  show Calls _ _ #[.agg #[.int .i64 h.kind, .bool h.flag, .bool h.neg, .string h.dig, .int .i64 h.exp, .int .u64 h.bits, .string h.text, .slice a1 m1 d1, .slice a2 m2 d2]] _ _
  cases b2
  · go_enter Tryd.func56, Tryd.ntmps56
    go_wp2_with (go_at_call 72; refine (hS.out _).mono ?_; rintro e w2 ⟨rfl, hb2⟩)
    go_ret
    exact TB.no (fun q => by have := (hE'.out.1 q).1; cases this) (below_then (hb0.out _) hb2)
  · go_enter Tryd.func56, Tryd.ntmps56
    go_wp2_with fail
    refine (hS.out _).mono ?_
    rintro e w2 ⟨rfl, hb2⟩
    have hw2 := hide (below_then (hb0.out _) hb2)
    have hB2 := hide (hB0.out.below hb2)
    obtain ⟨c0, c1, c2, c3, c4, c5, c6, c7, c8⟩ := hB2.out.cells
    have hD1 := hide (hD.out w2 hw2.out)
    by_cases hd : (16 : Int) < (D : Int)
    · have hdn : ¬ (D : Int) ≤ 16 := by omega
      go_wp2_with (go_at_call 73; refine hD1.out.mono ?_; rintro e w3 ⟨rfl, hb3⟩)
      go_ret
      exact TB.no (fun q => by have := (hE'.out.1 q).2.1; omega) (below_then hw2.out hb3)
    · have hdn : (D : Int) ≤ 16 := by omega
      go_wp2_with fail
      refine hD1.out.mono ?_
      rintro e w3 ⟨rfl, hb3⟩
      have hw3 := hide (below_then hw2.out hb3)
      have hB3 := hide (hB2.out.below hb3)
      clear c0 c1 c2 c3 c4 c5 c6 c7 c8
      obtain ⟨c0, c1, c2, c3, c4, c5, c6, c7, c8⟩ := hB3.out.cells
      have hZ1 := hide (hZ.out w3 hw3.out)
      have hfin := hide (show decide ((Z : Int) ≤ 4096) = true ↔ Win n x by rw [hE'.out, decide_eq_true_iff]; simp; omega)
      go_wp2_with (go_at_call 74; refine hZ1.out.mono ?_; rintro e w4 ⟨rfl, hb4⟩)
      go_ret
      exact ⟨decide ((Z : Int) ≤ 4096), rfl, (show Hid _ from hfin.out), below_then hw3.out hb4⟩
set_option maxHeartbeats 2000000 in
set_option maxRecDepth 100000 in
theorem rcheck_any (rv : RVal) (n : Nat) (x : VT n) (ns ls : Value) (w : World) (hr : Rdy n w x ns ls) (E : Int) (hE : Chk n x E) :
    Calls Tryd.prog 33 #[.agg (vals (vhd n x) ns ls)] w fun e w' => e = .returned (.int .i64 E) ∧ Below w.heap.size w w' := by
  obtain ⟨a1, m1, d1, a2, m2, d2, rfl, rfl⟩ := hr.rd.shape
  obtain ⟨h, hh⟩ : ∃ h, vhd n x = h := ⟨_, rfl⟩
  obtain ⟨b1, hb1⟩ := tells (IsV n x)
  obtain ⟨b2, hb2⟩ := tells (Win n x)
  have hF := hide (fun o => Calls.tb (formed_any rv n x (.slice a1 m1 d1) (.slice a2 m2 d2) (w.alloc o) (hr.rd.below (below_al (Below.refl _ _))) hr.sz) hb1)
  have hW := hide (fun W (hb : Below w.heap.size w W) => Calls.tb (within_any n x (.slice a1 m1 d1) (.slice a2 m2 d2) W (hr.below hb)) hb2)
  have hb0 : Hid (∀ o, Below w.heap.size w (w.alloc o)) := fun o => below_al (Below.refl _ _)
  have hE' := hide (show (E = 40 ∧ b1 = false) ∨ (E = 2 ∧ b1 = true ∧ b2 = false) ∨ (E = 0 ∧ b1 = true ∧ b2 = true) by
    unfold Chk at hE
    rw [← hb1, ← hb2] at hE
    simpa using hE)
  rw [hh] at hF hW ⊢
  have hB0 := hide (bx_new w h (.slice a1 m1 d1) (.slice a2 m2 d2))
  clear hr hh hb1 hb2 hE rv
  show Calls _ _ #[.agg #[.int .i64 h.kind, .bool h.flag, .bool h.neg, .string h.dig, .int .i64 h.exp, .int .u64 h.bits, .string h.text, .slice a1 m1 d1, .slice a2 m2 d2]] _ _
  rcases hE'.out with ⟨rfl, rfl⟩ | ⟨rfl, rfl, rfl⟩ | ⟨rfl, rfl, rfl⟩
  · go_enter Tryd.func33, Tryd.ntmps33
    go_wp2_with (go_at_call 55; refine (hF.out _).mono ?_; rintro e w1 ⟨rfl, hb1⟩)
    go_ret
    exact ⟨rfl, below_then (hb0.out _) hb1⟩
  · go_enter Tryd.func33, Tryd.ntmps33
    go_wp2_with fail
    refine (hF.out _).mono ?_
    rintro e w1 ⟨rfl, hb1⟩
    have hw1 := hide (below_then (hb0.out _) hb1)
    have hB1 := hide (hB0.out.below hb1)
    obtain ⟨c0, c1, c2, c3, c4, c5, c6, c7, c8⟩ := hB1.out.cells
    have hW1 := hide (hW.out w1 hw1.out)
    go_wp2_with (go_at_call 56; refine hW1.out.mono ?_; rintro e w2 ⟨rfl, hb2⟩)
    go_ret
    exact ⟨rfl, below_then hw1.out hb2⟩
  · go_enter Tryd.func33, Tryd.ntmps33
    go_wp2_with fail
    refine (hF.out _).mono ?_
    rintro e w1 ⟨rfl, hb1⟩
    have hw1 := hide (below_then (hb0.out _) hb1)
    have hB1 := hide (hB0.out.below hb1)
    obtain ⟨c0, c1, c2, c3, c4, c5, c6, c7, c8⟩ := hB1.out.cells
    have hW1 := hide (hW.out w1 hw1.out)
    go_wp2_with (go_at_call 56; refine hW1.out.mono ?_; rintro e w2 ⟨rfl, hb2⟩)
    go_ret
    exact ⟨rfl, below_then hw1.out hb2⟩
end Go.Proofs.YtlfnnecpinmjjaaDoor
