/- Merged by program: NmMath, NeArr, NfTrim, NhForm, NnSem, NpFormF, NtText, NoOrd, NgMerge, NqAdd, NrSum. -/
import Derived.Test.YtolmbjeinilhlaaDoorZtE
import Derived.WalkKit
import Derived.WalkSpells
import Derived.WalkLawsBesides
import Derived.Test.YtolmbjeinilhlaaDoorRows
import Derived.Deep.RegionWith
import Derived.Outline
import Derived.Lib.Strings
/- Digits and what they are worth: no program in sight. -/
namespace Go.Proofs.YtolmbjeinilhlaaDoor
set_option linter.unusedSimpArgs false
set_option linter.unusedVariables false
/-- What a row of digits, the highest first, is worth. -/
def val : List Nat → Nat
  | [] => 0
  | d :: l => d * 10 ^ l.length + val l
theorem val_append (a b : List Nat) : val (a ++ b) = val a * 10 ^ b.length + val b := by
  induction a with
  | nil => simp [val]
  | cons d a ih =>
    simp only [List.cons_append, val, ih, List.length_append, Nat.add_mul, Nat.pow_add, Nat.mul_assoc]
    omega
/-- All are digits. -/
def Dgs (l : List Nat) : Prop := ∀ d ∈ l, d ≤ 9
theorem Dgs.cons {d : Nat} {l : List Nat} (h : Dgs (d :: l)) : d ≤ 9 ∧ Dgs l := ⟨h d (by simp), fun x hx => h x (by simp [hx])⟩
theorem Dgs.app {a b : List Nat} (h : Dgs (a ++ b)) : Dgs a ∧ Dgs b := ⟨fun x hx => h x (by simp [hx]), fun x hx => h x (by simp [hx])⟩
theorem val_lt (l : List Nat) (h : Dgs l) : val l < 10 ^ l.length := by
  induction l with
  | nil => simp [val]
  | cons d l ih =>
    obtain ⟨h1, h2⟩ := h.cons
    have := ih h2
    simp only [val, List.length_cons, Nat.pow_succ]
    have h3 : d * 10 ^ l.length ≤ 9 * 10 ^ l.length := Nat.mul_le_mul_right _ h1
    omega
theorem val_zeros (n : Nat) : val (List.replicate n 0) = 0 := by
  induction n with
  | zero => rfl
  | succ n ih => simp [List.replicate_succ, val, ih]
theorem val_zero_left (n : Nat) (l : List Nat) : val (List.replicate n 0 ++ l) = val l := by rw [val_append, val_zeros]; simp
theorem val_zero_right (n : Nat) (l : List Nat) : val (l ++ List.replicate n 0) = val l * 10 ^ n := by rw [val_append, val_zeros]; simp
/-- The lowest i digits, one more. -/
theorem val_drop_succ (p : List Nat) (n i : Nat) (hn : p.length = n) (hi : i < n) : val (p.drop (n - (i + 1))) = p[n - 1 - i]'(by omega) * 10 ^ i + val (p.drop (n - i)) := by
  have h1 : n - (i + 1) < p.length := by omega
  rw [List.drop_eq_getElem_cons h1]
  simp only [val]
  rw [show n - (i + 1) + 1 = n - i by omega, List.length_drop, show p.length - (n - i) = i by omega]
  congr 2
  congr 1
  omega
/-- The bytes of a text of digits, as digits. -/
def dg (s : ByteArray) : List Nat := (bl s).map fun c => c.toNat - 48
theorem dg_length (s : ByteArray) : (dg s).length = s.size := by simp [dg, bl_length]
theorem dg_get (s : ByteArray) (k : Nat) (h : k < s.size) : (dg s)[k]'(by rw [dg_length]; exact h) = s[k].toNat - 48 := by
  simp only [dg, List.getElem_map]
  rw [bl_get s k h]
theorem dg_dgs (s : ByteArray) (h : allD (bl s) = true) : Dgs (dg s) := by
  intro d hd
  simp only [dg, List.mem_map] at hd
  obtain ⟨c, hc, rfl⟩ := hd
  have := (isDig_iff c).1 ((List.all_eq_true.1 h) c hc)
  omega
theorem allD_get (s : ByteArray) (h : allD (bl s) = true) (k : Nat) (hk : k < s.size) : 48 ≤ s[k].toNat ∧ s[k].toNat ≤ 57 := by
  have h1 : s[k] ∈ bl s := by rw [← bl_get s k hk]; exact List.getElem_mem _
  have := (isDig_iff s[k]).1 ((List.all_eq_true.1 h) _ h1)
  omega
theorem take_get {P Q : List Nat} {m j : Nat} (h : P.take m = Q.take m) (hj : j < m) (hP : j < P.length) (hQ : j < Q.length) : P[j] = Q[j] := by
  have h1 : (P.take m)[j]? = (Q.take m)[j]? := by rw [h]
  rw [List.getElem?_take_of_lt hj, List.getElem?_take_of_lt hj, List.getElem?_eq_getElem hP, List.getElem?_eq_getElem hQ] at h1
  exact Option.some.inj h1
theorem take_less {P Q : List Nat} {m j : Nat} (h : P.take m = Q.take m) (hj : j ≤ m) : P.take j = Q.take j := by
  have := congrArg (List.take j) h
  rwa [List.take_take, List.take_take, Nat.min_eq_left hj] at this
/-- What holds ahead of round i of merge: P of what was P0, sd the digits that are merged, c what is carried. -/
def MInv (P0 sd : List Nat) (at_ : Nat) (less : Bool) (P : List Nat) (c i : Nat) : Prop :=
  P.length = 42 ∧ Dgs P ∧ c ≤ 1 ∧ P.take (42 - i) = P0.take (42 - i) ∧
  (less = false → val (P.drop (42 - i)) + c * 10 ^ i = val (P0.drop (42 - i)) + val (sd.drop (sd.length - (i - at_))) * 10 ^ at_) ∧
  (less = true → val (P.drop (42 - i)) + val (sd.drop (sd.length - (i - at_))) * 10 ^ at_ = val (P0.drop (42 - i)) + c * 10 ^ i)
/-- The digit that round i merges. -/
def mdig (sd : List Nat) (k : Nat) : Nat := if h : k < sd.length then sd[sd.length - 1 - k]'(by omega) else 0
theorem val_mdig (sd : List Nat) (k : Nat) : val (sd.drop (sd.length - (k + 1))) = mdig sd k * 10 ^ k + val (sd.drop (sd.length - k)) := by
  unfold mdig
  by_cases h : k < sd.length
  · rw [dif_pos h]; exact val_drop_succ sd sd.length k rfl h
  · rw [dif_neg h, show sd.length - (k + 1) = sd.length - k by omega]; simp
theorem MInv.start {P0 : List Nat} (sd : List Nat) (at_ : Nat) (less : Bool) (h : P0.length = 42) (hd : Dgs P0) : MInv P0 sd at_ less P0 0 at_ := by
  refine ⟨h, hd, by omega, rfl, fun _ => ?_, fun _ => ?_⟩ <;> simp [val]
theorem MInv.step {P0 sd P : List Nat} {at_ c i v c' : Nat} {less : Bool} (h0 : P0.length = 42) (h : MInv P0 sd at_ less P c i) (ha : at_ ≤ i) (hi : i < 42) (hv : v ≤ 9) (hc : c' ≤ 1)
    (e1 : less = false → v + 10 * c' = P[41 - i]'(by have := h.1; omega) + (c + mdig sd (i - at_))) (e2 : less = true → v + (c + mdig sd (i - at_)) = P[41 - i]'(by have := h.1; omega) + 10 * c') :
    MInv P0 sd at_ less (P.set (41 - i) v) c' (i + 1) := by
  obtain ⟨h1, h2, h3, h4, h5, h6⟩ := h
  have hq : P[41 - i]'(by omega) = P0[41 - i]'(by omega) := take_get h4 (by omega) (by omega) (by omega)
  have hdrop : (P.set (41 - i) v).drop (42 - (i + 1)) = v :: P.drop (42 - i) := by
    rw [show 42 - (i + 1) = 41 - i by omega, List.drop_eq_getElem_cons (by simp; omega), List.getElem_set_self, List.drop_set_of_lt (by omega), show 41 - i + 1 = 42 - i by omega]
  have hl : (P.drop (42 - i)).length = i := by rw [List.length_drop]; omega
  have hP0 : val (P0.drop (42 - (i + 1))) = P0[41 - i]'(by omega) * 10 ^ i + val (P0.drop (42 - i)) := val_drop_succ P0 42 i h0 hi
  have hS := val_mdig sd (i - at_)
  have hk : i + 1 - at_ = i - at_ + 1 := by omega
  have hpow : 10 ^ (i - at_) * 10 ^ at_ = 10 ^ i := by rw [← Nat.pow_add]; congr 1; omega
  refine ⟨by simpa using h1, ?_, hc, ?_, fun hl0 => ?_, fun hl0 => ?_⟩
  · intro d hd
    rcases List.mem_or_eq_of_mem_set hd with h | h
    · exact h2 d h
    · omega
  · rw [show 42 - (i + 1) = 41 - i by omega, List.take_set_of_le (by omega)]
    exact take_less h4 (by omega)
  · have e := e1 hl0
    have g := h5 hl0
    rw [hdrop, val, hl, hP0, hk, hS, Nat.add_mul, Nat.mul_assoc, hpow, Nat.pow_succ]
    have e' := congrArg (· * 10 ^ i) e
    simp only [Nat.add_mul, Nat.mul_assoc] at e'
    rw [hq] at e'
    rw [show c' * (10 ^ i * 10) = 10 * (c' * 10 ^ i) by rw [← Nat.mul_assoc, Nat.mul_comm]]
    omega
  · have e := e2 hl0
    have g := h6 hl0
    rw [hdrop, val, hl, hP0, hk, hS, Nat.add_mul, Nat.mul_assoc, hpow, Nat.pow_succ]
    have e' := congrArg (· * 10 ^ i) e
    simp only [Nat.add_mul, Nat.mul_assoc] at e'
    rw [hq] at e'
    rw [show c' * (10 ^ i * 10) = 10 * (c' * 10 ^ i) by rw [← Nat.mul_assoc, Nat.mul_comm]]
    omega
theorem val_split (P : List Nat) (m : Nat) : val P = val (P.take m) * 10 ^ (P.length - m) + val (P.drop m) := by
  have := val_append (P.take m) (P.drop m)
  rw [List.take_append_drop, List.length_drop] at this
  exact this
/-- When merge ends. -/
theorem MInv.done {P0 sd P : List Nat} {at_ i c : Nat} {less : Bool} (h0 : P0.length = 42) (hd0 : Dgs P0) (h : MInv P0 sd at_ less P c i) (hk : sd.length ≤ i - at_) (hi : i ≤ 42) (hc : c = 0 ∨ i = 42)
    (b1 : less = false → val P0 + val sd * 10 ^ at_ < 10 ^ 42) (b2 : less = true → val sd * 10 ^ at_ ≤ val P0) :
    P.length = 42 ∧ Dgs P ∧ (less = false → val P = val P0 + val sd * 10 ^ at_) ∧ (less = true → val P + val sd * 10 ^ at_ = val P0) := by
  obtain ⟨h1, h2, h3, h4, h5, h6⟩ := h
  have hs : sd.drop (sd.length - (i - at_)) = sd := by rw [show sd.length - (i - at_) = 0 by omega]; rfl
  rw [hs] at h5 h6
  have q := val_split P (42 - i)
  have q0 := val_split P0 (42 - i)
  rw [h1, show 42 - (42 - i) = i by omega] at q
  rw [h0, show 42 - (42 - i) = i by omega, ← h4] at q0
  have hlt := val_lt P h2
  rw [h1] at hlt
  have hc0 : c = 0 := by
    rcases hc with h | h
    · exact h
    · subst h
      rcases Nat.lt_or_ge 0 c with hp | hp
      · have hc1 : c = 1 := by omega
        subst hc1
        have z : P.take (42 - 42) = [] := rfl
        rw [z] at q q0
        simp only [val, Nat.zero_mul, Nat.zero_add] at q q0
        rw [← q, ← q0] at h5 h6
        cases less
        · have g1 := h5 rfl; have g2 := b1 rfl; omega
        · have g1 := h6 rfl; have g2 := b2 rfl; omega
      · omega
  subst hc0
  refine ⟨h1, h2, fun e => ?_, fun e => ?_⟩
  · have := h5 e; omega
  · have := h6 e; omega
end Go.Proofs.YtolmbjeinilhlaaDoor
/- A block that holds a row of bytes; a call that turns one block alone. -/
namespace Go.Proofs.YtolmbjeinilhlaaDoor
open Go.RowKit
set_option linter.unusedSimpArgs false
set_option linter.unusedVariables false
/-- Block b is a row of bytes p. -/
def Arr (w : World) (b : Nat) (T : TypeId) (p : List Nat) : Prop := w.heap[b]? = some (.cells (p.map fun v : Nat => Value.int .u8 (v : Int)).toArray T (0, 0))
theorem Arr.cell {w : World} {b : Nat} {T : TypeId} {p : List Nat} (h : Arr w b T p) (i : Nat) (hi : i < p.length) : w.cell? ⟨b, i, none⟩ = some (.int .u8 (p[i] : Nat)) := by
  unfold Arr at h
  simp [World.cell?, h, List.getElem?_map, hi]
theorem Arr.frozen {w : World} {b : Nat} {T : TypeId} {p : List Nat} (h : Arr w b T p) (i : Nat) : w.frozen? ⟨b, i, none⟩ = false := by
  unfold Arr at h
  simp [World.frozen?, h]
theorem Arr.lt {w : World} {b : Nat} {T : TypeId} {p : List Nat} (h : Arr w b T p) : b < w.heap.size := by
  unfold Arr at h
  by_cases hlt : b < w.heap.size
  · exact hlt
  · have hn : w.heap[b]? = none := by simp; omega
    rw [hn] at h; cases h
theorem Arr.drew {w : World} {b : Nat} {T : TypeId} {p : List Nat} (h : Arr w b T p) : Arr w.drew b T p := h
theorem Arr.set {w : World} {b : Nat} {T : TypeId} {p : List Nat} (h : Arr w b T p) (i : Nat) (v : Nat) : Arr (w.setCell ⟨b, i, none⟩ (.int .u8 (v : Int))) b T (p.set i v) := by
  unfold Arr at h ⊢
  simp only [World.setCell, Array.getElem?_modify, if_true, h, Option.map_some]
  simp [List.map_set]
/-- Nothing but block b has turned. -/
structure Only (b : Nat) (w w' : World) : Prop where
  os : w'.os = w.os
  tape : w'.tape = w.tape
  output : w'.output = w.output
  size : w'.heap.size = w.heap.size
  block : ∀ k, k ≠ b → w'.heap[k]? = w.heap[k]?
theorem Only.refl (b : Nat) (w : World) : Only b w w := ⟨rfl, rfl, rfl, rfl, fun _ _ => rfl⟩
theorem Only.trans {b : Nat} {w w1 w2 : World} (h : Only b w w1) (k : Only b w1 w2) : Only b w w2 :=
  ⟨k.os.trans h.os, k.tape.trans h.tape, k.output.trans h.output, k.size.trans h.size, fun i hi => (k.block i hi).trans (h.block i hi)⟩
theorem Only.drew {b : Nat} {w w1 : World} (h : Only b w w1) : Only b w w1.drew := ⟨h.os, h.tape, h.output, h.size, h.block⟩
theorem Only.set {b : Nat} {w w1 : World} (h : Only b w w1) (i : Nat) (v : Value) : Only b w (w1.setCell ⟨b, i, none⟩ v) :=
  h.trans ⟨rfl, rfl, rfl, by simp, fun k hk => Below.heap_setCell _ _ _ _ hk⟩
theorem Only.below {b B : Nat} {w w1 : World} (h : Only b w w1) (hb : B ≤ b) : Below B w w1 :=
  ⟨h.os, h.tape, h.output, by rw [h.size]; exact Nat.le_refl _, fun k hk => h.block k (by omega)⟩
theorem Only.cell {b : Nat} {w w1 : World} (h : Only b w w1) {k o : Nat} (hk : k ≠ b) : w1.cell? ⟨k, o, none⟩ = w.cell? ⟨k, o, none⟩ := World.cell?_of_block (w := w) (h.block k hk)
theorem Only.frozen {b : Nat} {w w1 : World} (h : Only b w w1) {k o : Nat} (hk : k ≠ b) : w1.frozen? ⟨k, o, none⟩ = w.frozen? ⟨k, o, none⟩ := World.frozen?_of_block (w := w) (h.block k hk)
theorem Arr.below {w w1 : World} {b B : Nat} {T : TypeId} {p : List Nat} (h : Arr w b T p) (hb : Below B w w1) (hB : b < B) : Arr w1 b T p := by
  unfold Arr at h ⊢; rw [hb.block b hB]; exact h
theorem Arr.only {w w1 : World} {b c : Nat} {T : TypeId} {p : List Nat} (h : Arr w b T p) (hb : Only c w w1) (hB : b ≠ c) : Arr w1 b T p := by
  unfold Arr at h ⊢; rw [hb.block b hB]; exact h
/-- A row of n noughts, newly laid. -/
theorem arr_new (w : World) (T : TypeId) (n : Nat) (c : Array Value) (hc : c = ((List.replicate n 0).map fun v : Nat => Value.int .u8 (v : Int)).toArray) : Arr (w.alloc (.cells c T)) w.heap.size T (List.replicate n 0) := by
  unfold Arr
  rw [hc]
  show (w.heap.push _)[w.heap.size]? = _
  simp
end Go.Proofs.YtolmbjeinilhlaaDoor
/- bytes.TrimLeft at the cutset of one nought: walked. -/
namespace Go.Proofs.YtolmbjeinilhlaaDoor
open Go.RowKit
set_option linter.unusedSimpArgs false
set_option linter.unusedVariables false
/-- How many noughts a row begins with. -/
def lz (d : List Nat) : Nat := (d.takeWhile (· == 0)).length
theorem lz_of (d : List Nat) (k : Nat) (hk : k ≤ d.length) (h1 : ∀ i (h : i < d.length), i < k → d[i] = 0) (h2 : ∀ h : k < d.length, d[k] ≠ 0) : lz d = k :=
  takeWhile_of _ d k hk (fun j h hj => by simp [h1 j h hj]) (fun h => by simpa using h2 h)
def lenOf : Value → Nat | .slice _ m _ => m | _ => 0
end Go.Proofs.YtolmbjeinilhlaaDoor
/- num.form: walked. -/
namespace Go.Proofs.YtolmbjeinilhlaaDoor
open Go.RowKit
set_option linter.unusedSimpArgs false
set_option linter.unusedVariables false
/-- The text of a row of digits. -/
def mkS (l : List Nat) : ByteArray := strOfNums (l.map fun v : Nat => ((v : Int) + 48))
/-- What form answers: the number, or that it is none. -/
def formE (ok neg : Bool) (s : ByteArray) (x : Int) : Ending :=
  if ok then .returned (.tuple #[.agg #[.bool neg, .string s, .int .i64 x], .int .i64 0]) else .returned (.tuple #[.agg #[.bool false, .string ⟨#[]⟩, .int .i64 0], .int .i64 2])
/-- The noughts that a row ends with. -/
def tz (d : List Nat) : Nat := lz d.reverse
theorem tz_of (d : List Nat) (m k : Nat) (hm : d.length = m) (hk : k < m) (h1 : ∀ i (h : i < d.length), m - k ≤ i → d[i] = 0) (h2 : d[m - k - 1]'(by omega) ≠ 0) : tz d = k := by
  refine lz_of d.reverse k (by simp; omega) (fun i h hi => ?_) (fun h => ?_)
  · rw [List.getElem_reverse]
    exact h1 _ _ (by simp at h; omega)
  · rw [List.getElem_reverse]
    have e : d.length - 1 - k = m - k - 1 := by omega
    simp only [e]; exact h2
theorem lz_ne (d : List Nat) (h : lz d < d.length) : d[lz d] ≠ 0 := by
  intro h0
  have key : ∀ (l : List Nat) (h : (l.takeWhile (· == 0)).length < l.length), l[(l.takeWhile (· == 0)).length] ≠ 0 := by
    intro l
    induction l with
    | nil => intro h; simp at h
    | cons a l ih =>
      intro h
      by_cases ha : a = 0
      · subst ha
        simp only [List.takeWhile_cons, beq_self_eq_true, if_true, List.length_cons, List.getElem_cons_succ]
        exact ih (by simpa using h)
      · simp [ha]
  exact key d h h0
end Go.Proofs.YtolmbjeinilhlaaDoor
/- What numbers are worth, and that each stands in one way: no program in sight. -/
namespace Go.Proofs.YtolmbjeinilhlaaDoor
open Go.RowKit
set_option linter.unusedSimpArgs false
set_option linter.unusedVariables false
/-- A number's size, in units of ten to the power of -400. -/
def mag (s : ByteArray) (x : Int) : Nat := val (dg s) * 10 ^ (x + 400).toNat
/-- What a number is worth, in these units. -/
def Zv (n : Bool) (s : ByteArray) (x : Int) : Int := if n then -(mag s x : Int) else mag s x
/-- Digits of which neither the first nor the last is a nought. -/
structure Can (l : List Nat) : Prop where
  dgs : Dgs l
  first : ∀ c, l.head? = some c → c ≠ 0
  last : ∀ c, l.getLast? = some c → c ≠ 0
theorem val_pos_of_last : ∀ (l : List Nat), l ≠ [] → (∀ c, l.getLast? = some c → c ≠ 0) → 0 < val l
  | [], h, _ => absurd rfl h
  | [a], _, h => by have := h a rfl; simp [val]; omega
  | a :: b :: l, _, h => by
    have := val_pos_of_last (b :: l) (by simp) (fun c hc => h c (by simpa using hc))
    simp only [val] at this ⊢
    omega
theorem val_mod (l : List Nat) (h : Dgs l) : ∀ c, l.getLast? = some c → val l % 10 = c := by
  intro c hc
  obtain ⟨l', rfl⟩ : ∃ l', l = l' ++ [c] := ⟨l.dropLast, by
    have hne : l ≠ [] := by intro e; rw [e] at hc; cases hc
    rw [List.getLast?_eq_some_getLast hne] at hc
    rw [← Option.some.inj hc]; exact (List.dropLast_concat_getLast hne).symm⟩
  have := h c (by simp)
  rw [val_append]
  simp [val]
  omega
theorem val_ge (l : List Nat) (hne : l ≠ []) (h : ∀ c, l.head? = some c → c ≠ 0) : 10 ^ (l.length - 1) ≤ val l := by
  cases l with
  | nil => exact absurd rfl hne
  | cons a l =>
    have := h a rfl
    simp only [val, List.length_cons, Nat.add_sub_cancel]
    have h1 : 1 * 10 ^ l.length ≤ a * 10 ^ l.length := Nat.mul_le_mul_right _ (by omega)
    omega
theorem val_inj : ∀ (a b : List Nat), Dgs a → Dgs b → a.length = b.length → val a = val b → a = b
  | [], [], _, _, _, _ => rfl
  | [], _ :: _, _, _, h, _ => by simp at h
  | _ :: _, [], _, _, h, _ => by simp at h
  | d :: a, e :: b, ha, hb, hl, hv => by
    obtain ⟨h1, h2⟩ := ha.cons
    obtain ⟨h3, h4⟩ := hb.cons
    have hl' : a.length = b.length := by simpa using hl
    simp only [val] at hv
    have la := val_lt a h2
    have lb := val_lt b h4
    rw [hl'] at hv la
    have hp : 0 < 10 ^ b.length := Nat.pow_pos (by decide)
    have e1 := Nat.div_eq_of_lt_le (k := d) (m := d * 10 ^ b.length + val a) (n := 10 ^ b.length) (by omega) (by rw [Nat.add_mul]; omega)
    have e2 := Nat.div_eq_of_lt_le (k := e) (m := e * 10 ^ b.length + val b) (n := 10 ^ b.length) (by omega) (by rw [Nat.add_mul]; omega)
    have hde : d = e := by rw [← e1, ← e2, hv]
    subst hde
    rw [val_inj a b h2 h4 hl' (by omega)]
theorem pow_lt_of {a b n : Nat} (h : n < 10 ^ b) (h' : 10 ^ a ≤ n) : a < b := (Nat.pow_lt_pow_iff_right (by decide : 1 < 10)).1 (Nat.lt_of_le_of_lt h' h)
/-- Two rows of digits without noughts at the ends that are worth the same are the same, and stand at the same place. -/
theorem can_inj {a b : List Nat} (ha : Can a) (hb : Can b) (hna : a ≠ []) (hnb : b ≠ []) {p q : Nat} (h : val a * 10 ^ p = val b * 10 ^ q) : a = b ∧ p = q := by
  have key : ∀ {a b : List Nat} {p q : Nat}, Can a → Can b → a ≠ [] → b ≠ [] → val a * 10 ^ p = val b * 10 ^ q → ¬ p < q := by
    intro a b p q ha hb hna hnb h hlt
    have e : val a = val b * 10 ^ (q - p) := by
      have hp : 0 < 10 ^ p := Nat.pow_pos (by decide)
      apply Nat.eq_of_mul_eq_mul_right hp
      rw [h, Nat.mul_assoc, ← Nat.pow_add]; congr 2; omega
    have hl := val_mod a ha.dgs (a.getLast hna) (List.getLast?_eq_some_getLast hna)
    have hc := ha.last _ (List.getLast?_eq_some_getLast hna)
    rw [e, show q - p = (q - p - 1) + 1 by omega, Nat.pow_succ, ← Nat.mul_assoc, Nat.mul_mod_left] at hl
    omega
  have hpq : p = q := by
    have h1 := key ha hb hna hnb h
    have h2 := key hb ha hnb hna h.symm
    omega
  subst hpq
  have hv : val a = val b := Nat.eq_of_mul_eq_mul_right (Nat.pow_pos (by decide)) h
  have a1 := val_ge a hna ha.first
  have b1 := val_ge b hnb hb.first
  have a2 := val_lt a ha.dgs
  have b2 := val_lt b hb.dgs
  have hla : 0 < a.length := List.length_pos_iff.2 hna
  have hlb : 0 < b.length := List.length_pos_iff.2 hnb
  have h1 : a.length - 1 < b.length := pow_lt_of b2 (by omega)
  have h2 : b.length - 1 < a.length := pow_lt_of a2 (by omega)
  exact ⟨val_inj a b ha.dgs hb.dgs (by omega) hv, rfl⟩
/-- What 'a number other than 0' comes to. -/
theorem isO_facts {s : ByteArray} {x : Int} (h : isO (bl s) x = true) : 1 ≤ s.size ∧ s.size ≤ 40 ∧ -400 ≤ x ∧ x ≤ 400 ∧ allD (bl s) = true ∧ Can (dg s) ∧ dg s ≠ [] := by
  simp only [isO, Bool.and_eq_true, decide_eq_true_eq, bne_iff_ne, ne_eq, bl_length] at h
  obtain ⟨⟨⟨⟨⟨h1, h2⟩, h3, h4⟩, h5⟩, h6⟩, h7⟩ := h
  refine ⟨h1, h2, h3, h4, h5, ⟨dg_dgs s h5, ?_, ?_⟩, ?_⟩
  · intro c hc
    have : (dg s).head? = (bl s).head?.map fun c => c.toNat - 48 := by simp [dg]
    rw [this, head_bl s h1] at hc
    rw [head_bl s h1] at h6
    simp at hc
    have hd := allD_get s h5 0 h1
    have : s[0].toNat ≠ 48 := fun e => h6 (by congr 1; exact UInt8.toNat_inj.1 e)
    omega
  · intro c hc
    have : (dg s).getLast? = (bl s).getLast?.map fun c => c.toNat - 48 := by simp [dg]
    rw [this, last_bl s h1] at hc
    rw [last_bl s h1] at h7
    simp at hc
    have hd := allD_get s h5 (s.size - 1) (by omega)
    have : (s[s.size - 1]'(by omega)).toNat ≠ 48 := fun e => h7 (by congr 1; exact UInt8.toNat_inj.1 e)
    omega
  · intro e
    have := dg_length s
    rw [e] at this; simp at this; omega
theorem isZ_facts {n : Bool} {s : ByteArray} {x : Int} (h : isZ n s x = true) : n = false ∧ bl s = [48] ∧ x = 0 := by
  simp [isZ] at h; exact ⟨h.1.1, h.1.2, h.2⟩
theorem isZ_mag {n : Bool} {s : ByteArray} {x : Int} (h : isZ n s x = true) : dg s = [0] ∧ s.size = 1 ∧ mag s x = 0 ∧ Zv n s x = 0 := by
  obtain ⟨rfl, h2, rfl⟩ := isZ_facts h
  have h3 : dg s = [0] := by simp [dg, h2]
  have h4 : s.size = 1 := by rw [← bl_length, h2]; rfl
  have h5 : mag s 0 = 0 := by unfold mag; rw [h3, show val [0] = 0 from rfl, Nat.zero_mul]
  exact ⟨h3, h4, h5, by simp [Zv, h5]⟩
theorem isO_pos {s : ByteArray} {x : Int} (h : isO (bl s) x = true) : 0 < mag s x := by
  obtain ⟨_, _, _, _, _, h6, h7⟩ := isO_facts h
  exact Nat.mul_pos (val_pos_of_last _ h7 h6.last) (Nat.pow_pos (by decide))
theorem bl_inj {s t : ByteArray} (h : bl s = bl t) : s = t := by
  cases s with | mk a => cases t with | mk b => simp [bl] at h; rw [h]
theorem dg_inj {s t : ByteArray} (hs : allD (bl s) = true) (ht : allD (bl t) = true) (h : dg s = dg t) : s = t := by
  apply bl_inj
  have hl : s.size = t.size := by rw [← dg_length, ← dg_length, h]
  apply List.ext_getElem
  · rw [bl_length, bl_length, hl]
  · intro i h1 h2
    rw [bl_length] at h1 h2
    have e : (dg s)[i]'(by rw [dg_length]; exact h1) = (dg t)[i]'(by rw [dg_length]; exact h2) := by simp only [h]
    rw [dg_get s i h1, dg_get t i h2] at e
    rw [bl_get s i h1, bl_get t i h2]
    have := allD_get s hs i h1
    have := allD_get t ht i h2
    exact UInt8.toNat_inj.1 (by omega)
/-- Each number stands in one way. -/
theorem num_inj {n m : Bool} {s t : ByteArray} {x y : Int} (h1 : isN n s x = true) (h2 : isN m t y = true) (h : Zv n s x = Zv m t y) : n = m ∧ s = t ∧ x = y := by
  simp only [isN, Bool.or_eq_true] at h1 h2
  rcases h1 with h1 | h1 <;> rcases h2 with h2 | h2
  · obtain ⟨rfl, a2, rfl⟩ := isZ_facts h1
    obtain ⟨rfl, b2, rfl⟩ := isZ_facts h2
    exact ⟨rfl, bl_inj (a2.trans b2.symm), rfl⟩
  · have := (isZ_mag h1).2.2.2
    have := isO_pos h2
    simp only [Zv] at *
    split at h <;> split at h <;> omega
  · have := (isZ_mag h2).2.2.2
    have := isO_pos h1
    simp only [Zv] at *
    split at h <;> split at h <;> omega
  · have p1 := isO_pos h1
    have p2 := isO_pos h2
    obtain ⟨a1, a2, a3, a4, a5, a6, a7⟩ := isO_facts h1
    obtain ⟨b1, b2, b3, b4, b5, b6, b7⟩ := isO_facts h2
    have hm : mag s x = mag t y ∧ n = m := by
      cases n <;> cases m <;> simp [Zv] at h <;> first | exact ⟨by omega, rfl⟩ | (exfalso; omega)
    obtain ⟨e1, e2⟩ := can_inj a6 b6 a7 b7 hm.1
    exact ⟨hm.2, dg_inj a5 b5 e1, by omega⟩
end Go.Proofs.YtolmbjeinilhlaaDoor
/- form as a function on digits, and what it is worth: no program in sight, but for form's own contract at the end. -/
namespace Go.Proofs.YtolmbjeinilhlaaDoor
open Go.RowKit
set_option linter.unusedSimpArgs false
set_option linter.unusedVariables false
/-- Without the noughts in front. -/
def dz (d : List Nat) : List Nat := d.drop (lz d)
/-- Without the noughts in front and behind. -/
def core (d : List Nat) : List Nat := (dz d).take ((dz d).length - tz (dz d))
/-- What form makes of digits: a number (or 0, 0, 0) and an error. -/
def formF (neg : Bool) (d : List Nat) (x : Int) : Bool × ByteArray × Int × Int :=
  if lz d = d.length then (false, ⟨#[48]⟩, 0, 0)
  else if (core d).length ≤ 40 ∧ -400 ≤ x + tz (dz d) ∧ x + tz (dz d) ≤ 400 then (neg, mkS (core d), x + tz (dz d), 0) else (false, ⟨#[]⟩, 0, 2)
/-- An answer of a number and an error. -/
def retF (r : Bool × ByteArray × Int × Int) : Ending := .returned (.tuple #[.agg #[.bool r.1, .string r.2.1, .int .i64 r.2.2.1], .int .i64 r.2.2.2])
theorem lz_le (d : List Nat) : lz d ≤ d.length := (List.takeWhile_prefix _).length_le
theorem tz_le (d : List Nat) : tz d ≤ d.length := by have := lz_le d.reverse; simpa [tz] using this
theorem take_lz (d : List Nat) : d.take (lz d) = List.replicate (lz d) 0 := by
  induction d with
  | nil => rfl
  | cons a d ih =>
    by_cases h : a = 0
    · subst h
      have : lz (0 :: d) = lz d + 1 := by simp [lz]
      rw [this, List.take_succ_cons, ih, List.replicate_succ]
    · have : lz (a :: d) = 0 := by simp [lz, h]
      rw [this]; rfl
theorem lz_split (d : List Nat) : d = List.replicate (lz d) 0 ++ dz d := by
  rw [← take_lz, dz, List.take_append_drop]
theorem tz_split (d : List Nat) : d = d.take (d.length - tz d) ++ List.replicate (tz d) 0 := by
  have h := take_lz d.reverse
  have := congrArg List.reverse h
  rw [List.reverse_take, List.reverse_reverse, List.length_reverse, List.reverse_replicate] at this
  conv => lhs; rw [← List.take_append_drop (d.length - tz d) d]
  rw [show d.drop (d.length - tz d) = List.replicate (tz d) 0 from this]
theorem core_split (d : List Nat) : d = List.replicate (lz d) 0 ++ (core d ++ List.replicate (tz (dz d)) 0) := by
  conv => lhs; rw [lz_split d]
  congr 1
  exact tz_split (dz d)
theorem core_val (d : List Nat) : val d = val (core d) * 10 ^ tz (dz d) := by
  conv => lhs; rw [core_split d]
  rw [val_zero_left, val_zero_right]
theorem lz_head (d : List Nat) (h : lz d < d.length) : ∀ c, (dz d).head? = some c → c ≠ 0 := by
  intro c hc
  have := lz_ne d h
  rw [dz, List.head?_drop, List.getElem?_eq_getElem h] at hc
  rw [← Option.some.inj hc]; exact this
theorem tz_lt (d : List Nat) (h : lz d < d.length) : tz (dz d) < (dz d).length := by
  have h1 := tz_le (dz d)
  have hl : 0 < (dz d).length := by rw [dz, List.length_drop]; omega
  by_cases e : tz (dz d) < (dz d).length
  · exact e
  · have h2 := tz_split (dz d)
    rw [show (dz d).length - tz (dz d) = 0 by omega, List.take_zero, List.nil_append] at h2
    have h3 : (dz d).head? = some 0 := by
      rw [h2, List.head?_replicate, if_neg (by omega)]
    exact absurd rfl (lz_head d h 0 h3)
theorem core_len (d : List Nat) : (core d).length = (dz d).length - tz (dz d) := by rw [core, List.length_take]; omega
theorem core_can (d : List Nat) (h : lz d < d.length) (hd : Dgs d) : Can (core d) ∧ core d ≠ [] := by
  have h1 := tz_lt d h
  have hl := core_len d
  have hne : core d ≠ [] := by intro e; rw [e] at hl; simp at hl; omega
  refine ⟨⟨?_, ?_, ?_⟩, hne⟩
  · intro x hx
    exact hd x (List.mem_of_mem_drop (List.mem_of_mem_take hx))
  · intro c hc
    refine lz_head d h c ?_
    rw [core, List.head?_take, if_neg (by omega)] at hc
    exact hc
  · intro c hc
    have h2 := lz_ne (dz d).reverse (by simpa [tz] using h1)
    rw [List.getElem_reverse] at h2
    rw [core, List.getLast?_take, if_neg (by omega)] at hc
    rw [List.getElem?_eq_getElem (by omega)] at hc
    simp only [Option.some_or] at hc
    have e : (dz d).length - tz (dz d) - 1 = (dz d).length - 1 - lz (dz d).reverse := by unfold tz; omega
    simp only [e] at hc
    rw [← Option.some.inj hc]; exact h2
theorem mkS_size (l : List Nat) : (mkS l).size = l.length := by simp [mkS, strOfNums_size]
theorem mkS_bl (l : List Nat) : bl (mkS l) = l.map fun v => UInt8.ofNat (v + 48) := by
  unfold bl mkS
  rw [strOfNums_data, List.map_map]
  apply List.map_congr_left
  intro v _
  show UInt8.ofNat ((v : Int) + 48).toNat = _
  congr 1
theorem ofNat_toNat (v : Nat) (h : v ≤ 9) : (UInt8.ofNat (v + 48)).toNat = v + 48 := by
  rw [UInt8.toNat_ofNat']; omega
theorem mkS_dg (l : List Nat) (h : Dgs l) : dg (mkS l) = l := by
  unfold dg
  rw [mkS_bl, List.map_map]
  conv => rhs; rw [← List.map_id l]
  apply List.map_congr_left
  intro v hv
  show (UInt8.ofNat (v + 48)).toNat - 48 = v
  rw [ofNat_toNat v (h v hv)]; omega
theorem mkS_all (l : List Nat) (h : Dgs l) : allD (bl (mkS l)) = true := by
  rw [mkS_bl]
  unfold allD
  rw [List.all_eq_true]
  intro c hc
  rw [List.mem_map] at hc
  obtain ⟨v, hv, rfl⟩ := hc
  rw [isDig_iff, ofNat_toNat v (h v hv)]
  have := h v hv
  omega
theorem mkS_isO (l : List Nat) (x : Int) (h : Can l) (hne : l ≠ []) (h40 : l.length ≤ 40) (hx : -400 ≤ x) (hx' : x ≤ 400) : isO (bl (mkS l)) x = true := by
  have hl : 1 ≤ l.length := List.length_pos_iff.2 hne
  simp only [isO, Bool.and_eq_true, decide_eq_true_eq, bne_iff_ne, ne_eq]
  refine ⟨⟨⟨⟨⟨?_, ?_⟩, hx, hx'⟩, mkS_all l h.dgs⟩, ?_⟩, ?_⟩
  · rw [bl_length, mkS_size]; exact hl
  · rw [bl_length, mkS_size]; exact h40
  · rw [mkS_bl, List.head?_map]
    intro e
    cases hh : l.head? with
    | none => rw [hh] at e; cases e
    | some v =>
      rw [hh] at e
      have e1 := Option.some.inj e
      have e2 := congrArg UInt8.toNat e1
      have hm : v ∈ l := List.mem_of_head? hh
      have h9 := h.dgs v hm
      rw [ofNat_toNat v h9] at e2
      have := h.first v hh
      have : (48 : UInt8).toNat = 48 := rfl
      omega
  · rw [mkS_bl, List.getLast?_map]
    intro e
    cases hh : l.getLast? with
    | none => rw [hh] at e; cases e
    | some v =>
      rw [hh] at e
      have e1 := Option.some.inj e
      have e2 := congrArg UInt8.toNat e1
      have hm : v ∈ l := List.mem_of_getLast? hh
      have h9 := h.dgs v hm
      rw [ofNat_toNat v h9] at e2
      have := h.last v hh
      have : (48 : UInt8).toNat = 48 := rfl
      omega
/-- r is the number that is worth Z, or there is none. -/
def IsSum (Z : Int) (r : Bool × ByteArray × Int × Int) : Prop :=
  (r.2.2.2 = 0 ∧ isN r.1 r.2.1 r.2.2.1 = true ∧ Zv r.1 r.2.1 r.2.2.1 = Z) ∨ (r = (false, ⟨#[]⟩, 0, 2) ∧ ∀ n s x, isN n s x = true → Zv n s x ≠ Z)
theorem isN_zero : isN false ⟨#[48]⟩ 0 = true := rfl
/-- What form makes is the number, or there is none. -/
theorem formF_sum (neg : Bool) (d : List Nat) (x : Int) (hd : Dgs d) (hx : -400 ≤ x) : IsSum (if neg then -((val d * 10 ^ (x + 400).toNat : Nat) : Int) else (val d * 10 ^ (x + 400).toNat : Nat)) (formF neg d x) := by
  unfold formF
  by_cases hz : lz d = d.length
  · rw [if_pos hz]
    left
    refine ⟨rfl, rfl, ?_⟩
    have h0 : val d = 0 := by
      rw [lz_split d, dz, hz, List.drop_length, List.append_nil, val_zeros]
    rw [h0]
    have := (isZ_mag (n := false) (s := ⟨#[48]⟩) (x := 0) rfl).2.2.2
    rw [this]
    simp
  · have hlt : lz d < d.length := by have := lz_le d; omega
    rw [if_neg hz]
    obtain ⟨hc, hne⟩ := core_can d hlt hd
    have hv := core_val d
    have hmag : val d * 10 ^ (x + 400).toNat = val (core d) * 10 ^ (x + tz (dz d) + 400).toNat := by
      rw [hv, Nat.mul_assoc, ← Nat.pow_add]
      congr 2
      omega
    by_cases hf : (core d).length ≤ 40 ∧ -400 ≤ x + tz (dz d) ∧ x + tz (dz d) ≤ 400
    · rw [if_pos hf]
      left
      have ho := mkS_isO (core d) (x + tz (dz d)) hc hne hf.1 hf.2.1 hf.2.2
      refine ⟨rfl, by simp [isN, ho], ?_⟩
      show Zv neg (mkS (core d)) (x + tz (dz d)) = _
      rw [hmag]
      unfold Zv mag
      rw [mkS_dg _ hc.dgs]
    · rw [if_neg hf]
      right
      refine ⟨rfl, fun n s y h e => hf ?_⟩
      have hp : 0 < val d * 10 ^ (x + 400).toNat := by
        rw [hmag]
        exact Nat.mul_pos (val_pos_of_last _ hne hc.last) (Nat.pow_pos (by decide))
      simp only [isN, Bool.or_eq_true] at h
      rcases h with h | h
      · have := (isZ_mag h).2.2.2
        rw [this] at e
        split at e <;> omega
      · obtain ⟨b1, b2, b3, b4, b5, b6, b7⟩ := isO_facts h
        have hm : mag s y = val d * 10 ^ (x + 400).toNat := by
          have := isO_pos h
          unfold Zv at e
          split at e <;> split at e <;> omega
        rw [hmag] at hm
        obtain ⟨e1, e2⟩ := can_inj b6 hc b7 hne hm
        rw [← e1, dg_length]
        refine ⟨b2, ?_⟩
        omega
theorem isSum_unique {Z : Int} {r r' : Bool × ByteArray × Int × Int} (h : IsSum Z r) (h' : IsSum Z r') : r = r' := by
  obtain ⟨n, s, x, e⟩ := r
  obtain ⟨n', s', x', e'⟩ := r'
  rcases h with ⟨h1, h2, h3⟩ | ⟨h1, h2⟩ <;> rcases h' with ⟨g1, g2, g3⟩ | ⟨g1, g2⟩
  · obtain ⟨r1, r2, r3⟩ := num_inj h2 g2 (h3.trans g3.symm)
    simp only at h1 g1 r1 r2 r3
    subst h1 g1 r1 r2 r3
    rfl
  · exact absurd h3 (g2 _ _ _ h2)
  · exact absurd g3 (h2 _ _ _ g2)
  · rw [h1, g1]
end Go.Proofs.YtolmbjeinilhlaaDoor
/- num's cutByte and cutDigits: walked; the plain words for a number's text. -/
namespace Go.Proofs.YtolmbjeinilhlaaDoor
open Go.RowKit
set_option linter.unusedSimpArgs false
set_option linter.unusedVariables false
/-- A text of bytes. -/
def mkB (l : List UInt8) : ByteArray := ⟨l.toArray⟩
theorem bl_mkB (l : List UInt8) : bl (mkB l) = l := by simp [bl, mkB]
theorem mkB_size (l : List UInt8) : (mkB l).size = l.length := by rw [← bl_length, bl_mkB]
theorem mkB_bl (s : ByteArray) : mkB (bl s) = s := by cases s; simp [bl, mkB]
theorem mkB_nil (l : List UInt8) : (mkB l).toList.isEmpty = l.isEmpty := by rw [bl_toList, bl_mkB]
theorem extract_mkB (s : ByteArray) (a b : Nat) : s.extract a b = mkB (((bl s).drop a).take (b - a)) := Lib.extract_eq s a b
theorem drop_mkB (s : ByteArray) (a : Nat) : s.extract a s.size = mkB ((bl s).drop a) := by
  rw [extract_mkB, List.take_of_length_le (by rw [List.length_drop, bl_length]; omega)]
/-- Does a row begin with c? -/
def hdB (c : UInt8) (l : List UInt8) : Bool := l.head? == some c
/-- What is behind c then. -/
def tlB (c : UInt8) (l : List UInt8) : List UInt8 := if hdB c l then l.drop 1 else l
theorem hdB_size (c : UInt8) (s : ByteArray) (h : 0 < s.size) : hdB c (bl s) = (s[0] == c) := by
  unfold hdB; rw [head_bl s h]; rfl
theorem tlB_length (c : UInt8) (l : List UInt8) : (tlB c l).length ≤ l.length := by
  unfold tlB; split <;> simp
theorem take_tw (p : UInt8 → Bool) (l : List UInt8) : l.take (l.takeWhile p).length = l.takeWhile p := by
  induction l with
  | nil => rfl
  | cons a l ih => by_cases h : p a = true <;> simp [h, ih]
theorem drop_tw (p : UInt8 → Bool) (l : List UInt8) : l.drop (l.takeWhile p).length = l.dropWhile p := by
  induction l with
  | nil => rfl
  | cons a l ih => by_cases h : p a = true <;> simp [h, ih]
end Go.Proofs.YtolmbjeinilhlaaDoor
/- The order of numbers: no program in sight. -/
namespace Go.Proofs.YtolmbjeinilhlaaDoor
open Go.RowKit
set_option linter.unusedSimpArgs false
set_option linter.unusedVariables false
/-- Bytes of digits, as digits. -/
def dl (l : List UInt8) : List Nat := l.map fun c => c.toNat - 48
theorem dl_dgs (l : List UInt8) (h : allD l = true) : Dgs (dl l) := by
  intro d hd
  simp only [dl, List.mem_map] at hd
  obtain ⟨c, hc, rfl⟩ := hd
  have := (isDig_iff c).1 ((List.all_eq_true.1 h) c hc)
  omega
/-- A row of digits as a part of n places. -/
def fv (n : Nat) (l : List Nat) : Nat := val l * 10 ^ (n - l.length)
theorem fv_cons (n d : Nat) (l : List Nat) (h : l.length ≤ n) : fv (n + 1) (d :: l) = d * 10 ^ n + fv n l := by
  unfold fv
  simp only [val, List.length_cons, Nat.add_sub_add_right, Nat.add_mul, Nat.mul_assoc, ← Nat.pow_add]
  rw [show l.length + (n - l.length) = n by omega]
theorem fv_lt (n : Nat) (l : List Nat) (h : l.length ≤ n) (hd : Dgs l) : fv n l < 10 ^ n := by
  unfold fv
  have := val_lt l hd
  calc val l * 10 ^ (n - l.length) < 10 ^ l.length * 10 ^ (n - l.length) := Nat.mul_lt_mul_of_pos_right this (Nat.pow_pos (by decide))
    _ = 10 ^ n := by rw [← Nat.pow_add]; congr 1; omega
/-- No last byte is a nought. -/
def noEnd (l : List UInt8) : Prop := ∀ c, l.getLast? = some c → c ≠ 48
theorem noEnd.tail {a : UInt8} {l : List UInt8} (h : noEnd (a :: l)) : noEnd l := by
  intro c hc
  apply h c
  cases l with
  | nil => cases hc
  | cons b l => simpa using hc
theorem dl_pos (l : List UInt8) (hne : l ≠ []) (ha : allD l = true) (h : noEnd l) : 0 < val (dl l) := by
  refine val_pos_of_last _ (by simpa [dl] using hne) (fun c hc => ?_)
  simp only [dl, List.getLast?_map] at hc
  rw [List.getLast?_eq_some_getLast hne] at hc
  simp at hc
  have h1 := h _ (List.getLast?_eq_some_getLast hne)
  have h2 := (isDig_iff (l.getLast hne)).1 ((List.all_eq_true.1 ha) _ (List.getLast_mem hne))
  have : (l.getLast hne).toNat ≠ 48 := fun e => h1 (UInt8.toNat_inj.1 e)
  omega
theorem less_fv : ∀ (x y : List UInt8) (n : Nat), x.length ≤ n → y.length ≤ n → allD x = true → allD y = true → noEnd x → noEnd y → Op.bytesLess x y = decide (fv n (dl x) < fv n (dl y))
  | x, [], n, _, _, _, _, _, _ => by cases x <;> simp [Op.bytesLess, dl, fv, val]
  | [], b :: y, n, _, _, _, hy, _, ey => by
    have := dl_pos (b :: y) (by simp) hy ey
    have h2 : 0 < fv n (dl (b :: y)) := Nat.mul_pos this (Nat.pow_pos (by decide))
    have h3 : fv n (dl []) = 0 := by simp [dl, fv, val]
    simp only [Op.bytesLess, h3]
    exact (decide_eq_true h2).symm
  | a :: x, b :: y, n, hx, hy, dx, dy, ex, ey => by
    obtain ⟨m, rfl⟩ : ∃ m, n = m + 1 := ⟨n - 1, by simp at hx; omega⟩
    simp only [allD, List.all_cons, Bool.and_eq_true] at dx dy
    have ih := less_fv x y m (by simpa using hx) (by simpa using hy) dx.2 dy.2 ex.tail ey.tail
    have lx := fv_lt m (dl x) (by simpa [dl] using hx) (dl_dgs x dx.2)
    have ly := fv_lt m (dl y) (by simpa [dl] using hy) (dl_dgs y dy.2)
    have ea : dl (a :: x) = (a.toNat - 48) :: dl x := rfl
    have eb : dl (b :: y) = (b.toNat - 48) :: dl y := rfl
    have ra := (isDig_iff a).1 dx.1
    have rb := (isDig_iff b).1 dy.1
    rw [ea, eb, fv_cons m _ _ (by simpa [dl] using hx), fv_cons m _ _ (by simpa [dl] using hy)]
    simp only [Op.bytesLess]
    rcases Nat.lt_trichotomy a.toNat b.toNat with h | h | h
    · have h1 : (a < b) := UInt8.lt_iff_toNat_lt.2 h
      have h2 : (a.toNat - 48 + 1) * 10 ^ m ≤ (b.toNat - 48) * 10 ^ m := Nat.mul_le_mul_right _ (by omega)
      rw [Nat.add_mul] at h2
      rw [decide_eq_true h1, decide_eq_true (by omega)]; rfl
    · have h1 : a = b := UInt8.toNat_inj.1 h
      subst h1
      rw [ih]
      simp
    · have h1 : ¬ a < b := fun e => by have := UInt8.lt_iff_toNat_lt.1 e; omega
      have h1' : (a == b) = false := by
        rw [beq_eq_false_iff_ne]; intro e; subst e; omega
      have h2 : (b.toNat - 48 + 1) * 10 ^ m ≤ (a.toNat - 48) * 10 ^ m := Nat.mul_le_mul_right _ (by omega)
      rw [Nat.add_mul] at h2
      rw [decide_eq_false h1, h1', decide_eq_false (by omega)]; rfl
theorem less_total : ∀ (x y : List UInt8), Op.bytesLess x y = false → x ≠ y → Op.bytesLess y x = true
  | [], [], _, h => absurd rfl h
  | [], _ :: _, h, _ => by simp [Op.bytesLess] at h
  | _ :: _, [], _, _ => by simp [Op.bytesLess]
  | a :: x, b :: y, h, hne => by
    simp only [Op.bytesLess, Bool.or_eq_false_iff, decide_eq_false_iff_not] at h ⊢
    by_cases e : a = b
    · subst e
      simp at h
      have := less_total x y h (fun e => hne (by rw [e]))
      simp [this]
    · have : b < a := by
        have h1 := h.1
        have h2 : ¬ a.toNat < b.toNat := fun q => h1 (UInt8.lt_iff_toNat_lt.2 q)
        have h3 : a.toNat ≠ b.toNat := fun q => e (UInt8.toNat_inj.1 q)
        exact UInt8.lt_iff_toNat_lt.2 (by omega)
      simp [this]
theorem cmpI_scale (a b : Nat) (k : Nat) (hk : 0 < k) : cmpI (a : Int) b = cmpI ((a * k : Nat) : Int) ((b * k : Nat) : Int) := by
  unfold cmpI
  have h1 : (a * k < b * k) ↔ a < b := Nat.mul_lt_mul_right hk
  have h2 : (b * k < a * k) ↔ b < a := Nat.mul_lt_mul_right hk
  simp only [Int.ofNat_lt, h1, h2]
theorem mag_bounds {s : ByteArray} {x : Int} (h : isO (bl s) x = true) : 10 ^ ((x + 400).toNat + s.size - 1) ≤ mag s x ∧ mag s x < 10 ^ ((x + 400).toNat + s.size) := by
  obtain ⟨a1, a2, a3, a4, a5, a6, a7⟩ := isO_facts h
  have h1 := val_ge _ a7 a6.first
  have h2 := val_lt _ a6.dgs
  rw [dg_length] at h1 h2
  unfold mag
  constructor
  · rw [show (x + 400).toNat + s.size - 1 = (s.size - 1) + (x + 400).toNat by omega, Nat.pow_add]
    exact Nat.mul_le_mul_right _ h1
  · rw [Nat.add_comm, Nat.pow_add]
    exact Nat.mul_lt_mul_of_pos_right h2 (Nat.pow_pos (by decide))
theorem noEnd_of {s : ByteArray} {x : Int} (h : isO (bl s) x = true) : noEnd (bl s) := by
  simp only [isO, Bool.and_eq_true, bne_iff_ne, ne_eq] at h
  intro c hc e
  exact h.2 (by rw [hc, e])
/-- compareSizes tells the order of the sizes. -/
theorem cmpSz_spec {na nb : Bool} {a b : ByteArray} {xa xb : Int} (h1 : isN na a xa = true) (h2 : isN nb b xb = true) : cmpSz na a xa nb b xb = cmpI (mag a xa : Int) (mag b xb : Int) := by
  unfold cmpSz
  cases za : isZ na a xa <;> cases zb : isZ nb b xb
  · have oa : isO (bl a) xa = true := by simpa [isN, za] using h1
    have ob : isO (bl b) xb = true := by simpa [isN, zb] using h2
    obtain ⟨a1, a2, a3, a4, a5, a6, a7⟩ := isO_facts oa
    obtain ⟨b1, b2, b3, b4, b5, b6, b7⟩ := isO_facts ob
    have ma := mag_bounds oa
    have mb := mag_bounds ob
    have ta : topN na a xa = xa + a.size := by simp [topN, za]
    have tb : topN nb b xb = xb + b.size := by simp [topN, zb]
    rw [ta, tb]
    rcases Int.lt_trichotomy (xa + a.size) (xb + b.size) with h | h | h
    · have e1 : cmpI (xa + a.size) (xb + b.size) = -1 := by unfold cmpI; rw [if_pos h]
      have h3 : 10 ^ ((xa + 400).toNat + a.size) ≤ 10 ^ ((xb + 400).toNat + b.size - 1) := Nat.pow_le_pow_right (by decide) (by omega)
      have e2 : cmpI (mag a xa : Int) (mag b xb : Int) = -1 := by unfold cmpI; rw [if_pos (by omega)]
      rw [e1, e2]; rfl
    · have e1 : cmpI (xa + a.size) (xb + b.size) = 0 := by unfold cmpI; rw [if_neg (by omega), if_neg (by omega)]
      rw [e1]
      simp only [beq_self_eq_true, if_true]
      have hN : ∃ N, a.size ≤ N ∧ b.size ≤ N := ⟨max a.size b.size, by omega, by omega⟩
      obtain ⟨N, n1, n2⟩ := hN
      have sc : ∀ (s : ByteArray) (x : Int), isO (bl s) x = true → s.size ≤ N → x + s.size = xb + b.size → mag s x * 10 ^ N = fv N (dl (bl s)) * 10 ^ (xb + b.size + 400).toNat := by
        intro s x o hs he
        obtain ⟨c1, c2, c3, c4, _, _, _⟩ := isO_facts o
        unfold mag fv
        rw [show dl (bl s) = dg s from rfl, dg_length, Nat.mul_assoc, Nat.mul_assoc, ← Nat.pow_add, ← Nat.pow_add]
        congr 2
        omega
      have sa := sc a xa oa n1 h
      have sb := sc b xb ob n2 rfl
      have lt1 := less_fv (bl a) (bl b) N (by rw [bl_length]; exact n1) (by rw [bl_length]; exact n2) a5 b5 (noEnd_of oa) (noEnd_of ob)
      have lt2 := less_fv (bl b) (bl a) N (by rw [bl_length]; exact n2) (by rw [bl_length]; exact n1) b5 a5 (noEnd_of ob) (noEnd_of oa)
      rw [cmpI_scale (mag a xa) (mag b xb) (10 ^ N) (Nat.pow_pos (by decide)), sa, sb, ← cmpI_scale _ _ _ (Nat.pow_pos (by decide))]
      unfold cmpB cmpI
      rw [bl_toList, bl_toList, lt1]
      by_cases g : fv N (dl (bl a)) < fv N (dl (bl b))
      · have g' : (fv N (dl (bl a)) : Int) < fv N (dl (bl b)) := by omega
        simp [g, g']
      · have g' : ¬ (fv N (dl (bl a)) : Int) < fv N (dl (bl b)) := by omega
        by_cases e : bl a = bl b
        · rw [e]; simp
        · have := less_total (bl a) (bl b) (by rw [lt1]; simpa using g) e
          rw [lt2] at this
          have g2 := of_decide_eq_true this
          have g3 : (fv N (dl (bl b)) : Int) < fv N (dl (bl a)) := by omega
          simp [g, g', e, g3]
    · have e1 : cmpI (xa + a.size) (xb + b.size) = 1 := by unfold cmpI; rw [if_neg (by omega), if_pos h]
      have h3 : 10 ^ ((xb + 400).toNat + b.size) ≤ 10 ^ ((xa + 400).toNat + a.size - 1) := Nat.pow_le_pow_right (by decide) (by omega)
      have e2 : cmpI (mag a xa : Int) (mag b xb : Int) = 1 := by unfold cmpI; rw [if_neg (by omega), if_pos (by omega)]
      rw [e1, e2]; rfl
  · have oa : isO (bl a) xa = true := by simpa [isN, za] using h1
    obtain ⟨a1, a2, a3, a4, a5, a6, a7⟩ := isO_facts oa
    have p := isO_pos oa
    have q := (isZ_mag zb).2.2.1
    have e1 : cmpI (topN na a xa) (topN nb b xb) = 1 := by
      unfold cmpI topN; rw [za, zb]; simp only [if_true, Bool.false_eq_true, if_false]; rw [if_neg (by omega), if_pos (by omega)]
    have e2 : cmpI (mag a xa : Int) (mag b xb : Int) = 1 := by unfold cmpI; rw [if_neg (by omega), if_pos (by omega)]
    rw [e1, e2]; rfl
  · have ob : isO (bl b) xb = true := by simpa [isN, zb] using h2
    obtain ⟨b1, b2, b3, b4, b5, b6, b7⟩ := isO_facts ob
    have p := isO_pos ob
    have q := (isZ_mag za).2.2.1
    have e1 : cmpI (topN na a xa) (topN nb b xb) = -1 := by
      unfold cmpI topN; rw [za, zb]; simp only [if_true, Bool.false_eq_true, if_false]; rw [if_pos (by omega)]
    have e2 : cmpI (mag a xa : Int) (mag b xb : Int) = -1 := by unfold cmpI; rw [if_pos (by omega)]
    rw [e1, e2]; rfl
  · have p := (isZ_mag za).2.2.1
    have q := (isZ_mag zb).2.2.1
    have e1 : cmpI (topN na a xa) (topN nb b xb) = 0 := by
      unfold cmpI topN; rw [za, zb]; rfl
    have e2 : cmpI (mag a xa : Int) (mag b xb : Int) = 0 := by rw [p, q]; rfl
    have e3 : bl a = bl b := (isZ_facts za).2.1.trans (isZ_facts zb).2.1.symm
    have e4 : bl b = [48] := (isZ_facts zb).2.1
    rw [e1, e2]
    simp only [beq_self_eq_true, if_true]
    unfold cmpB
    rw [bl_toList, bl_toList, e3, e4]
    rfl
/-- Cmp tells the order of numbers. -/
theorem cmpN_spec {na nb : Bool} {a b : ByteArray} {xa xb : Int} (h1 : isN na a xa = true) (h2 : isN nb b xb = true) : cmpN na a xa nb b xb = cmpI (Zv na a xa) (Zv nb b xb) := by
  have s1 := cmpSz_spec h1 h2
  have s2 := cmpSz_spec h2 h1
  unfold cmpN
  by_cases e : na = nb ∧ bl a = bl b ∧ xa = xb
  · obtain ⟨rfl, e2, rfl⟩ := e
    have := bl_inj e2
    subst this
    simp [cmpI]
  · have hne : Zv na a xa ≠ Zv nb b xb := fun h => by
      obtain ⟨r1, r2, r3⟩ := num_inj h1 h2 h
      exact e ⟨r1, by rw [r2], r3⟩
    rw [if_neg (by simpa [and_assoc] using e)]
    have nz : ∀ {s : ByteArray} {x : Int}, isN true s x = true → 0 < mag s x := by
      intro s x h
      simp only [isN, isZ, Bool.not_true, Bool.false_and, Bool.false_or] at h
      exact isO_pos h
    cases na <;> cases nb
    · simp only [Bool.false_and, Bool.false_eq_true, if_false, s1, Zv]
    · have := nz h2
      simp only [Bool.false_and, Bool.false_eq_true, if_false, if_true, Zv, cmpI]
      rw [if_neg (by omega), if_pos (by omega)]
    · have := nz h1
      simp only [Bool.and_false, Bool.false_eq_true, if_false, if_true, Zv, cmpI]
      rw [if_pos (by omega)]
    · simp only [Bool.and_self, if_true, s2, Zv, cmpI]
      simp only [Zv, if_true] at hne
      repeat' split
      all_goals omega
end Go.Proofs.YtolmbjeinilhlaaDoor
/- num's (*places).merge: walked. -/
namespace Go.Proofs.YtolmbjeinilhlaaDoor
open Go.RowKit
set_option linter.unusedSimpArgs false
set_option linter.unusedVariables false
end Go.Proofs.YtolmbjeinilhlaaDoor
/- num.Add: walked. -/
namespace Go.Proofs.YtolmbjeinilhlaaDoor
open Go.RowKit
set_option linter.unusedSimpArgs false
set_option linter.unusedVariables false
/-- Block i holds a number's struct. -/
def Box (W : World) (i : Nat) (n : Bool) (s : ByteArray) (x : Int) : Prop := W.heap[i]? = some (.cells #[.bool n, .string s, .int .i64 x] 29 (0, 0))
theorem Box.cells {W : World} {i : Nat} {n : Bool} {s : ByteArray} {x : Int} (h : Box W i n s x) :
    W.cell? ⟨i, 0, none⟩ = some (.bool n) ∧ W.cell? ⟨i, 1, none⟩ = some (.string s) ∧ W.cell? ⟨i, 2, none⟩ = some (.int .i64 x) ∧ W.frozen? ⟨i, 0, none⟩ = false ∧ W.frozen? ⟨i, 1, none⟩ = false ∧ W.frozen? ⟨i, 2, none⟩ = false := by
  unfold Box at h
  simp [World.cell?, World.frozen?, h]
theorem Box.lt {W : World} {i : Nat} {n : Bool} {s : ByteArray} {x : Int} (h : Box W i n s x) : i < W.heap.size := by
  unfold Box at h
  by_cases hlt : i < W.heap.size
  · exact hlt
  · have hn : W.heap[i]? = none := by simp; omega
    rw [hn] at h; cases h
theorem Box.below {W W1 : World} {i B : Nat} {n : Bool} {s : ByteArray} {x : Int} (h : Box W i n s x) (hb : Below B W W1) (hi : i < B) : Box W1 i n s x := by
  unfold Box at h ⊢; rw [hb.block i hi]; exact h
theorem Box.only {W W1 : World} {i b : Nat} {n : Bool} {s : ByteArray} {x : Int} (h : Box W i n s x) (hb : Only b W W1) (hi : i ≠ b) : Box W1 i n s x := by
  unfold Box at h ⊢; rw [hb.block i hi]; exact h
theorem Box.other {W : World} {i j o : Nat} {n : Bool} {s : ByteArray} {x : Int} {v : Value} (h : Box W i n s x) (hij : i ≠ j) : Box (W.setCell ⟨j, o, none⟩ v) i n s x := by
  unfold Box at h ⊢; rw [Below.heap_setCell _ _ _ _ hij]; exact h
theorem Box.set {W : World} {i : Nat} {n n' : Bool} {s s' : ByteArray} {x x' : Int} (h : Box W i n s x) :
    Box (((W.setCell ⟨i, 0, none⟩ (.bool n')).setCell ⟨i, 1, none⟩ (.string s')).setCell ⟨i, 2, none⟩ (.int .i64 x')) i n' s' x' := by
  unfold Box at h ⊢
  simp only [World.setCell, Array.getElem?_modify, if_true, h, Option.map_some]
  simp
theorem Box.set2 {W : World} {i : Nat} {n : Bool} {s : ByteArray} {x x' : Int} (h : Box W i n s x) : Box (W.setCell ⟨i, 2, none⟩ (.int .i64 x')) i n s x' := by
  unfold Box at h ⊢
  simp only [World.setCell, Array.getElem?_modify, if_true, h, Option.map_some]
  simp
theorem box_new (w : World) (n : Bool) (s : ByteArray) (x : Int) : Box (w.alloc (.cells #[.bool n, .string s, .int .i64 x] 29)) w.heap.size n s x := by
  unfold Box
  show (w.heap.push _)[w.heap.size]? = _
  simp
theorem Box.alloc {W : World} {i : Nat} {n : Bool} {s : ByteArray} {x : Int} (h : Box W i n s x) (o : Obj) : Box (W.alloc o) i n s x := by
  have hl := h.lt
  unfold Box at h ⊢
  rw [← h]
  exact Below.heap_alloc W o i hl
/-- Three boxes: two numbers and a struct of noughts. -/
structure Boxes (w W : World) (na : Bool) (a : ByteArray) (xa : Int) (nb : Bool) (b : ByteArray) (xb : Int) : Prop where
  below : Below w.heap.size w W
  b0 : Box W w.heap.size na a xa
  b1 : Box W (w.heap.size + 1) nb b xb
  b2 : Box W (w.heap.size + 1 + 1) false ⟨#[]⟩ 0
theorem Boxes.then {w W W1 : World} {na nb : Bool} {a b : ByteArray} {xa xb : Int} (h : Boxes w W na a xa nb b xb) (hb : Below W.heap.size W W1) : Boxes w W1 na a xa nb b xb :=
  ⟨below_then h.below hb, h.b0.below hb h.b0.lt, h.b1.below hb h.b1.lt, h.b2.below hb h.b2.lt⟩
theorem boxes_new (w : World) (na : Bool) (a : ByteArray) (xa : Int) (nb : Bool) (b : ByteArray) (xb : Int) :
    Boxes w (((w.alloc (.cells #[.bool na, .string a, .int .i64 xa] 29)).alloc (.cells #[.bool nb, .string b, .int .i64 xb] 29)).alloc (.cells #[.bool false, .string ⟨#[]⟩, .int .i64 0] 29)) na a xa nb b xb := by
  refine ⟨below_al (below_al (below_al (Below.refl _ _))), ((box_new w na a xa).alloc _).alloc _, ?_, ?_⟩
  · have := (box_new (w.alloc (.cells #[.bool na, .string a, .int .i64 xa] 29)) nb b xb).alloc (.cells #[.bool false, .string ⟨#[]⟩, .int .i64 0] 29)
    simpa using this
  · have := box_new ((w.alloc (.cells #[.bool na, .string a, .int .i64 xa] 29)).alloc (.cells #[.bool nb, .string b, .int .i64 xb] 29)) false ⟨#[]⟩ 0
    simpa using this
theorem Boxes.swap {w W : World} {na nb : Bool} {a b : ByteArray} {xa xb : Int} (h : Boxes w W na a xa nb b xb) :
    Boxes w ((((((W.setCell ⟨w.heap.size, 0, none⟩ (.bool nb)).setCell ⟨w.heap.size, 1, none⟩ (.string b)).setCell ⟨w.heap.size, 2, none⟩ (.int .i64 xb)).setCell ⟨w.heap.size + 1, 0, none⟩ (.bool na)).setCell ⟨w.heap.size + 1, 1, none⟩ (.string a)).setCell ⟨w.heap.size + 1, 2, none⟩ (.int .i64 xa)) nb b xb na a xa := by
  refine ⟨?_, ?_, ?_, ?_⟩
  · exact (((((h.below.setCell (Nat.le_refl _) _).setCell (Nat.le_refl _) _).setCell (Nat.le_refl _) _).setCell (Nat.le_succ _) _).setCell (Nat.le_succ _) _).setCell (Nat.le_succ _) _
  · exact ((h.b0.set.other (by omega)).other (by omega)).other (by omega)
  · exact (((h.b1.other (by omega)).other (by omega)).other (by omega)).set
  · exact (((((h.b2.other (by omega)).other (by omega)).other (by omega)).other (by omega)).other (by omega)).other (by omega)
theorem Boxes.exp {w W : World} {na nb : Bool} {a b : ByteArray} {xa xb y : Int} (h : Boxes w W na a xa nb b xb) : Boxes w (W.setCell ⟨w.heap.size + 1, 2, none⟩ (.int .i64 y)) na a xa nb b y :=
  ⟨h.below.setCell (Nat.le_succ _) _, h.b0.other (by omega), h.b1.set2, h.b2.other (by omega)⟩
theorem Boxes.thenB {w W W1 : World} {na nb : Bool} {a b : ByteArray} {xa xb : Int} {B : Nat} (h : Boxes w W na a xa nb b xb) (hb : Below B W W1) (hB : w.heap.size + 2 < B) : Boxes w W1 na a xa nb b xb :=
  ⟨h.below.trans (hb.mono (by omega)), h.b0.below hb (by omega), h.b1.below hb (by omega), h.b2.below hb (by omega)⟩
theorem topN_bounds {n : Bool} {s : ByteArray} {x : Int} (h : isN n s x = true) : -400 ≤ topN n s x ∧ topN n s x ≤ 440 := by
  have := isN_len h
  unfold topN
  split <;> omega
theorem Boxes.drew {w W : World} {na nb : Bool} {a b : ByteArray} {xa xb : Int} (h : Boxes w W na a xa nb b xb) : Boxes w W.drew na a xa nb b xb := ⟨h.below.drew, h.b0, h.b1, h.b2⟩
theorem arr42 (w : World) (T : TypeId) : Arr (w.alloc (.cells #[Value.int IntKind.u8 0, Value.int IntKind.u8 0, Value.int IntKind.u8 0, Value.int IntKind.u8 0, Value.int IntKind.u8 0, Value.int IntKind.u8 0, Value.int IntKind.u8 0, Value.int IntKind.u8 0, Value.int IntKind.u8 0, Value.int IntKind.u8 0, Value.int IntKind.u8 0, Value.int IntKind.u8 0, Value.int IntKind.u8 0, Value.int IntKind.u8 0, Value.int IntKind.u8 0, Value.int IntKind.u8 0, Value.int IntKind.u8 0, Value.int IntKind.u8 0, Value.int IntKind.u8 0, Value.int IntKind.u8 0, Value.int IntKind.u8 0, Value.int IntKind.u8 0, Value.int IntKind.u8 0, Value.int IntKind.u8 0, Value.int IntKind.u8 0, Value.int IntKind.u8 0, Value.int IntKind.u8 0, Value.int IntKind.u8 0, Value.int IntKind.u8 0, Value.int IntKind.u8 0, Value.int IntKind.u8 0, Value.int IntKind.u8 0, Value.int IntKind.u8 0, Value.int IntKind.u8 0, Value.int IntKind.u8 0, Value.int IntKind.u8 0, Value.int IntKind.u8 0, Value.int IntKind.u8 0, Value.int IntKind.u8 0, Value.int IntKind.u8 0, Value.int IntKind.u8 0, Value.int IntKind.u8 0] T)) w.heap.size T (List.replicate 42 0) := arr_new w T 42 _ rfl
theorem cmpI_neg (a b : Int) : decide (cmpI a b < 0) = decide (a < b) := by
  unfold cmpI
  by_cases h : a < b
  · simp [h]
  · by_cases h' : b < a <;> simp [h, h']
end Go.Proofs.YtolmbjeinilhlaaDoor
/- What Add's steps are worth: no program in sight. -/
namespace Go.Proofs.YtolmbjeinilhlaaDoor
open Go.RowKit
set_option linter.unusedSimpArgs false
set_option linter.unusedVariables false
theorem isN_all {n : Bool} {s : ByteArray} {x : Int} (h : isN n s x = true) : allD (bl s) = true ∧ 1 ≤ s.size ∧ s.size ≤ 40 ∧ -400 ≤ x ∧ x ≤ 400 ∧ Dgs (dg s) := by
  cases hz : isZ n s x
  · have ho : isO (bl s) x = true := by simpa [isN, hz] using h
    obtain ⟨a1, a2, a3, a4, a5, a6, a7⟩ := isO_facts ho
    exact ⟨a5, a1, a2, a3, a4, a6.dgs⟩
  · obtain ⟨_, h2, h3⟩ := isZ_facts hz
    have h4 := (isZ_mag hz).2.1
    have h5 : allD (bl s) = true := by rw [h2]; rfl
    exact ⟨h5, by omega, by omega, by omega, by omega, dg_dgs s h5⟩
/-- Two numbers, the second not greater in size; y the second's power (the first's, if the second is 0), low the lower one of both. -/
structure Two (na : Bool) (a : ByteArray) (xa : Int) (nb : Bool) (b : ByteArray) (xb y low : Int) : Prop where
  n1 : isN na a xa = true
  n2 : isN nb b xb = true
  le : mag b xb ≤ mag a xa
  y0 : isZ nb b xb = true → y = xa
  y1 : isZ nb b xb = false → y = xb
  l0 : low = min xa y
theorem mag_at (s : ByteArray) (x low : Int) (h : low ≤ x) (hl : -400 ≤ low) : mag s x = val (dg s) * 10 ^ (x - low).toNat * 10 ^ (low + 400).toNat := by
  unfold mag
  rw [Nat.mul_assoc, ← Nat.pow_add]
  congr 2
  omega
theorem Two.low_bounds {na nb : Bool} {a b : ByteArray} {xa xb y low : Int} (h : Two na a xa nb b xb y low) : -400 ≤ low ∧ low ≤ 400 ∧ low ≤ xa ∧ low ≤ y := by
  obtain ⟨_, _, _, a4, a5, _⟩ := isN_all h.n1
  obtain ⟨_, _, _, b4, b5, _⟩ := isN_all h.n2
  have := h.l0
  cases hz : isZ nb b xb
  · have := h.y1 hz; omega
  · have := h.y0 hz; omega
theorem Two.magb {na nb : Bool} {a b : ByteArray} {xa xb y low : Int} (h : Two na a xa nb b xb y low) : mag b xb = val (dg b) * 10 ^ (y - low).toNat * 10 ^ (low + 400).toNat := by
  obtain ⟨l1, l2, l3, l4⟩ := h.low_bounds
  cases hz : isZ nb b xb
  · rw [← h.y1 hz]; exact mag_at b y low l4 l1
  · rw [(isZ_mag hz).2.2.1, (isZ_mag hz).1, show val [0] = 0 from rfl, Nat.zero_mul, Nat.zero_mul]
theorem Two.le_at {na nb : Bool} {a b : ByteArray} {xa xb y low : Int} (h : Two na a xa nb b xb y low) : val (dg b) * 10 ^ (y - low).toNat ≤ val (dg a) * 10 ^ (xa - low).toNat := by
  obtain ⟨l1, l2, l3, l4⟩ := h.low_bounds
  have := h.le
  rw [h.magb, mag_at a xa low l3 l1] at this
  exact Nat.le_of_mul_le_mul_right this (Nat.pow_pos (by decide))
/-- Within maxSpan both fit. -/
theorem Two.fits {na nb : Bool} {a b : ByteArray} {xa xb y low : Int} (h : Two na a xa nb b xb y low) (hs : topN na a xa - low ≤ 41) : (xa - low).toNat + a.size ≤ 41 ∧ (y - low).toNat + b.size ≤ 41 := by
  obtain ⟨l1, l2, l3, l4⟩ := h.low_bounds
  obtain ⟨a1, a2, a3, a4, a5, a6⟩ := isN_all h.n1
  obtain ⟨b1, b2, b3, b4, b5, b6⟩ := isN_all h.n2
  have h0 := h.l0
  cases za : isZ na a xa
  · have oa : isO (bl a) xa = true := by have := h.n1; simpa [isN, za] using this
    have ta : topN na a xa = xa + a.size := by simp [topN, za]
    rw [ta] at hs
    cases zb : isZ nb b xb
    · have ob : isO (bl b) xb = true := by have := h.n2; simpa [isN, zb] using this
      have hy := h.y1 zb
      have ma := mag_bounds oa
      have mb := mag_bounds ob
      have hlt : (xb + 400).toNat + b.size - 1 < (xa + 400).toNat + a.size := pow_lt_of ma.2 (Nat.le_trans mb.1 h.le)
      constructor <;> omega
    · have hy := h.y0 zb
      have := (isZ_mag zb).2.1
      constructor <;> omega
  · have hm := (isZ_mag za).2.2.1
    have hx := (isZ_facts za).2.2
    have hs1 := (isZ_mag za).2.1
    cases zb : isZ nb b xb
    · have ob : isO (bl b) xb = true := by have := h.n2; simpa [isN, zb] using this
      have := isO_pos ob
      have := h.le
      omega
    · have hy := h.y0 zb
      have := (isZ_mag zb).2.1
      constructor <;> omega
theorem lt_pow {l : List Nat} (h : Dgs l) {t m : Nat} (hl : t + l.length ≤ m) : val l * 10 ^ t < 10 ^ m := by
  have h1 := val_lt l h
  have h2 : val l * 10 ^ t < 10 ^ l.length * 10 ^ t := Nat.mul_lt_mul_of_pos_right h1 (Nat.pow_pos (by decide))
  rw [← Nat.pow_add] at h2
  exact Nat.lt_of_lt_of_le h2 (Nat.pow_le_pow_right (by decide) (by omega))
theorem Two.bounds {na nb : Bool} {a b : ByteArray} {xa xb y low : Int} (h : Two na a xa nb b xb y low) (hs : topN na a xa - low ≤ 41) :
    val (List.replicate 42 0) + val (dg a) * 10 ^ (xa - low).toNat < 10 ^ 42 ∧ val (dg a) * 10 ^ (xa - low).toNat + val (dg b) * 10 ^ (y - low).toNat < 10 ^ 42 := by
  obtain ⟨f1, f2⟩ := h.fits hs
  obtain ⟨a1, a2, a3, a4, a5, a6⟩ := isN_all h.n1
  obtain ⟨b1, b2, b3, b4, b5, b6⟩ := isN_all h.n2
  have e1 := lt_pow a6 (t := (xa - low).toNat) (m := 41) (by rw [dg_length]; exact f1)
  have e2 := lt_pow b6 (t := (y - low).toNat) (m := 41) (by rw [dg_length]; exact f2)
  have e3 : (10 : Nat) ^ 42 = 10 * 10 ^ 41 := by rw [Nat.pow_succ, Nat.mul_comm]
  rw [val_zeros]
  omega
/-- The sum, of like signs or not. -/
theorem Two.sum {na nb : Bool} {a b : ByteArray} {xa xb y low : Int} (h : Two na a xa nb b xb y low) (P : List Nat) (hP : Dgs P)
    (e1 : (na != nb) = false → val P = val (dg a) * 10 ^ (xa - low).toNat + val (dg b) * 10 ^ (y - low).toNat)
    (e2 : (na != nb) = true → val P + val (dg b) * 10 ^ (y - low).toNat = val (dg a) * 10 ^ (xa - low).toNat) :
    IsSum (Zv na a xa + Zv nb b xb) (formF na P low) := by
  obtain ⟨l1, l2, l3, l4⟩ := h.low_bounds
  have hf := formF_sum na P low hP l1
  have ma := mag_at a xa low l3 l1
  have mb := h.magb
  have key : (if na then -((val P * 10 ^ (low + 400).toNat : Nat) : Int) else (val P * 10 ^ (low + 400).toNat : Nat)) = Zv na a xa + Zv nb b xb := by
    unfold Zv
    rw [ma, mb]
    cases hn : (na != nb)
    · have e := congrArg (· * 10 ^ (low + 400).toNat) (e1 hn)
      simp only [Nat.add_mul] at e
      cases na <;> cases nb <;> simp at hn <;> simp only [if_true, Bool.false_eq_true, if_false] <;> omega
    · have e := congrArg (· * 10 ^ (low + 400).toNat) (e2 hn)
      simp only [Nat.add_mul] at e
      cases na <;> cases nb <;> simp at hn <;> simp only [if_true, Bool.false_eq_true, if_false] <;> omega
  rw [key] at hf
  exact hf
/-- Beyond maxSpan there is no sum. -/
theorem Two.none {na nb : Bool} {a b : ByteArray} {xa xb y low : Int} (h : Two na a xa nb b xb y low) (hs : 41 < topN na a xa - low) : IsSum (Zv na a xa + Zv nb b xb) (false, ⟨#[]⟩, 0, 2) := by
  right
  refine ⟨rfl, ?_⟩
  obtain ⟨l1, l2, l3, l4⟩ := h.low_bounds
  obtain ⟨a1, a2, a3, a4, a5, a6⟩ := isN_all h.n1
  have h0 := h.l0
  cases za : isZ na a xa
  · have oa : isO (bl a) xa = true := by have := h.n1; simpa [isN, za] using this
    have ta : topN na a xa = xa + a.size := by simp [topN, za]
    rw [ta] at hs
    cases zb : isZ nb b xb
    · have ob : isO (bl b) xb = true := by have := h.n2; simpa [isN, zb] using this
      have hy := h.y1 zb
      obtain ⟨b1, b2, b3, b4, b5, b6, b7⟩ := isO_facts ob
      have hlow : low = xb := by omega
      have ma := mag_at a xa low l3 l1
      have mb := h.magb
      have ba := mag_bounds oa
      have bb := mag_bounds ob
      rw [hy, hlow, Int.sub_self] at mb
      rw [hlow] at ma
      simp only [Int.toNat_zero, Nat.pow_zero, Nat.mul_one] at mb
      -- the sum's last digit stands at b's place
      intro n s x hn e
      have hmod := val_mod (dg b) b6.dgs ((dg b).getLast b7) (List.getLast?_eq_some_getLast b7)
      have hlast := b6.last _ (List.getLast?_eq_some_getLast b7)
      have h9 := b6.dgs _ (List.getLast_mem b7)
      obtain ⟨p, hp⟩ : ∃ p, (xa - xb).toNat = p + 1 := ⟨(xa - xb).toNat - 1, by omega⟩
      obtain ⟨q, hq⟩ : ∃ q, q = (xb + 400).toNat := ⟨_, rfl⟩
      rw [hp, Nat.pow_succ, ← hq] at ma
      rw [← hq] at mb
      -- S: the sum's size in units of b's place
      obtain ⟨S, hS, hS1⟩ : ∃ S : Nat, mag s x = S * 10 ^ q ∧ (S = val (dg a) * 10 ^ p * 10 + val (dg b) ∨ S + val (dg b) = val (dg a) * 10 ^ p * 10) := by
        have hle := h.le
        rw [mb, ma, show val (dg a) * (10 ^ p * 10) = val (dg a) * 10 ^ p * 10 by rw [Nat.mul_assoc]] at hle
        have hle' := Nat.le_of_mul_le_mul_right hle (Nat.pow_pos (by decide))
        rw [show val (dg a) * (10 ^ p * 10) = val (dg a) * 10 ^ p * 10 by rw [Nat.mul_assoc]] at ma
        have pz := Nat.zero_le (mag s x)
        have hpos1 := isO_pos oa
        have hpos2 := isO_pos ob
        cases hnn : (na != nb)
        · refine ⟨val (dg a) * 10 ^ p * 10 + val (dg b), ?_, Or.inl rfl⟩
          rw [Nat.add_mul, ← ma, ← mb]
          unfold Zv at e
          cases na <;> cases nb <;> simp at hnn <;> cases n <;> simp only [if_true, Bool.false_eq_true, if_false] at e <;> omega
        · refine ⟨val (dg a) * 10 ^ p * 10 - val (dg b), ?_, Or.inr (by omega)⟩
          rw [Nat.sub_mul, ← ma, ← mb]
          unfold Zv at e
          have := h.le
          cases na <;> cases nb <;> simp at hnn <;> cases n <;> simp only [if_true, Bool.false_eq_true, if_false] at e <;> omega
      have hSm : S % 10 ≠ 0 := by
        rcases hS1 with h | h <;> omega
      -- S is at least 10 to the power of 40
      have hSg : 10 ^ 40 ≤ S := by
        have va := val_ge (dg a) (isO_facts oa).2.2.2.2.2.2 (isO_facts oa).2.2.2.2.2.1.first
        rw [dg_length] at va
        have v1 : 10 ^ 41 ≤ val (dg a) * 10 ^ p * 10 := by
          rw [Nat.mul_assoc, ← Nat.pow_succ]
          refine Nat.le_trans ?_ (Nat.mul_le_mul_right _ va)
          rw [← Nat.pow_add]
          exact Nat.pow_le_pow_right (by decide) (by omega)
        have v2 := val_lt (dg b) b6.dgs
        rw [dg_length] at v2
        have v3 : 10 ^ b.size ≤ 10 ^ 40 := Nat.pow_le_pow_right (by decide) b2
        have v4 : (10 : Nat) ^ 41 = 10 * 10 ^ 40 := by rw [Nat.pow_succ, Nat.mul_comm]
        rcases hS1 with h | h <;> omega
      have hno : isZ n s x = false := by
        cases hz : isZ n s x
        · rfl
        · have := (isZ_mag hz).2.2.1
          rw [this] at hS
          have : 0 < S * 10 ^ q := Nat.mul_pos (by omega) (Nat.pow_pos (by decide))
          omega
      have os : isO (bl s) x = true := by simpa [isN, hno] using hn
      obtain ⟨c1, c2, c3, c4, c5, c6, c7⟩ := isO_facts os
      have hx : (x + 400).toNat ≤ q := by
        rcases Nat.lt_or_ge q (x + 400).toNat with hlt | hge
        · exfalso
          unfold mag at hS
          have e1 : S = val (dg s) * 10 ^ ((x + 400).toNat - q) := by
            apply Nat.eq_of_mul_eq_mul_right (Nat.pow_pos (by decide) : 0 < 10 ^ q)
            rw [← hS, Nat.mul_assoc, ← Nat.pow_add]; congr 2; omega
          rw [show (x + 400).toNat - q = ((x + 400).toNat - q - 1) + 1 by omega, Nat.pow_succ, ← Nat.mul_assoc] at e1
          omega
        · exact hge
      have hv := val_lt (dg s) c6.dgs
      rw [dg_length] at hv
      have hv2 : 10 ^ s.size ≤ 10 ^ 40 := Nat.pow_le_pow_right (by decide) c2
      have hv3 : val (dg s) * 10 ^ (x + 400).toNat ≤ val (dg s) * 10 ^ q := Nat.mul_le_mul_left _ (Nat.pow_le_pow_right (by decide) hx)
      unfold mag at hS
      rw [hS] at hv3
      have := Nat.le_of_mul_le_mul_right hv3 (Nat.pow_pos (by decide))
      omega
    · have hy := h.y0 zb
      omega
  · have hx := (isZ_facts za).2.2
    have : topN na a xa = -400 := by simp [topN, za]
    omega
end Go.Proofs.YtolmbjeinilhlaaDoor
