/- Merged by program: RpOf, RqOf, RrBytes, RsRound. -/
import Derived.Test.YtjpdlibncmldlaaDoorOfBytes
import Derived.Test.YtjpdlibncmldlaaDoorRoRound
import Derived.Test.YtjpdlibncmldlaaDoorOjAdds
import Derived.Test.YtjpdlibncmldlaaDoorOiAwake
/- num.scaleUp, num.Of: walked. -/
namespace Go.Proofs.YtjpdlibncmldlaaDoor
open Go.RowKit
set_option linter.unusedSimpArgs false
set_option linter.unusedVariables false
/-- Ahead of round k of scaleUp's first loop: the last k digits are done. -/
def UInv (P0 : List Nat) (c0 : Nat) (P : List Nat) (c k : Nat) : Prop :=
  P.length = 441 ∧ Dgs P ∧ c ≤ 255 ∧ P.take (441 - k) = P0.take (441 - k) ∧ val (P.drop (441 - k)) + c * 10 ^ k = val (P0.drop (441 - k)) * 256 + c0
theorem UInv.start {P0 : List Nat} (c0 : Nat) (h : P0.length = 441) (hb : Dgs P0) (hc : c0 ≤ 255) : UInv P0 c0 P0 c0 0 := by
  refine ⟨h, hb, hc, rfl, ?_⟩
  rw [Nat.sub_zero, List.drop_of_length_le (by omega)]; simp [val]
theorem UInv.step {P0 P : List Nat} {c0 c k : Nat} (h0 : P0.length = 441) (h : UInv P0 c0 P c k) (hk : k < 441) (q : Nat) (hq : P[440 - k]'(by have := h.1; omega) = q) :
    UInv P0 c0 (P.set (440 - k) ((c + q * 256) % 10)) ((c + q * 256) / 10) (k + 1) := by
  obtain ⟨h1, h2, h3, h4, h5⟩ := h
  have hq9 : q ≤ 9 := by rw [← hq]; exact h2 _ (List.getElem_mem _)
  have hq0 : P0[440 - k]'(by omega) = q := by rw [← hq]; exact (take_get h4 (by omega) (by omega) (by omega)).symm
  have hdrop : (P.set (440 - k) ((c + q * 256) % 10)).drop (441 - (k + 1)) = (c + q * 256) % 10 :: P.drop (441 - k) := by
    rw [show 441 - (k + 1) = 440 - k by omega, List.drop_eq_getElem_cons (by simp; omega), List.getElem_set_self, List.drop_set_of_lt (by omega), show 440 - k + 1 = 441 - k by omega]
  have hl : (P.drop (441 - k)).length = k := by rw [List.length_drop]; omega
  have hP0 : val (P0.drop (441 - (k + 1))) = P0[440 - k]'(by omega) * 10 ^ k + val (P0.drop (441 - k)) := val_drop_succ P0 441 k h0 hk
  refine ⟨by simpa using h1, ?_, by omega, ?_, ?_⟩
  · intro d hd
    rcases List.mem_or_eq_of_mem_set hd with h | h
    · exact h2 d h
    · omega
  · rw [show 441 - (k + 1) = 440 - k by omega, List.take_set_of_le (by omega)]
    exact take_less h4 (by omega)
  · rw [hdrop, val, hl, hP0, hq0, Nat.pow_succ]
    have e : (c + q * 256) % 10 + 10 * ((c + q * 256) / 10) = c + q * 256 := Nat.mod_add_div _ _
    have e' := congrArg (· * 10 ^ k) e
    simp only [Nat.add_mul, Nat.mul_assoc] at e'
    rw [show (c + q * 256) / 10 * (10 ^ k * 10) = 10 * ((c + q * 256) / 10 * 10 ^ k) by rw [← Nat.mul_assoc, Nat.mul_comm]]
    rw [show q * (256 * 10 ^ k) = 256 * (q * 10 ^ k) by rw [← Nat.mul_assoc, Nat.mul_comm q 256, Nat.mul_assoc]] at e'
    rw [Nat.add_mul]
    rw [show q * 10 ^ k * 256 = 256 * (q * 10 ^ k) by rw [Nat.mul_comm]]
    omega
/-- Ahead of a round of scaleUp's second loop. -/
def WInv (P0 : List Nat) (V : Nat) (P : List Nat) (c f : Nat) : Prop :=
  P.length = 441 ∧ Dgs P ∧ c ≤ 255 ∧ f ≤ 441 ∧ P.take f = P0.take f ∧ val (P.drop f) + c * 10 ^ (441 - f) = V
theorem WInv.step {P0 P : List Nat} {V c f : Nat} (h : WInv P0 V P c f) (hf : 0 < f) : WInv P0 V (P.set (f - 1) (c % 10)) (c / 10) (f - 1) := by
  obtain ⟨h1, h2, h3, h4, h5, h6⟩ := h
  have hdrop : (P.set (f - 1) (c % 10)).drop (f - 1) = c % 10 :: P.drop f := by
    rw [List.drop_eq_getElem_cons (by simp; omega), List.getElem_set_self, List.drop_set_of_lt (by omega), show f - 1 + 1 = f by omega]
  have hl : (P.drop f).length = 441 - f := by rw [List.length_drop]; omega
  refine ⟨by simpa using h1, ?_, by omega, by omega, ?_, ?_⟩
  · intro d hd
    rcases List.mem_or_eq_of_mem_set hd with h | h
    · exact h2 d h
    · omega
  · rw [List.take_set_of_le (by omega)]
    exact take_less h5 (by omega)
  · rw [hdrop, val, hl, show 441 - (f - 1) = (441 - f) + 1 by omega, Nat.pow_succ, ← h6]
    have e : c % 10 + 10 * (c / 10) = c := Nat.mod_add_div _ _
    have e' := congrArg (· * 10 ^ (441 - f)) e
    simp only [Nat.add_mul, Nat.mul_assoc] at e'
    rw [show c / 10 * (10 ^ (441 - f) * 10) = 10 * (c / 10 * 10 ^ (441 - f)) by rw [← Nat.mul_assoc, Nat.mul_comm]]
    omega
/-- A number of at most 441 digits. -/
def Fits (V : Nat) : Prop := ∀ m, m = 441 → V < 10 ^ m
theorem Fits.le {V U : Nat} (h : Fits V) (hU : U ≤ V) : Fits U := fun m hm => Nat.lt_of_le_of_lt hU (h m hm)
theorem fits_aux (x y z : Nat) (hx : x = 61) (hy : y = 147) (hz : z = 3) : 256 ^ (x * z) < 10 ^ (y * z) := by
  rw [Nat.pow_mul, Nat.pow_mul]
  exact Nat.pow_lt_pow_left (by subst hx hy; decide) (by omega)
theorem fits_bytes {V k : Nat} (hk : k ≤ 183) (h : V < 256 ^ k) : Fits V := by
  intro m hm
  obtain ⟨x, hx⟩ : ∃ x, x = 61 := ⟨_, rfl⟩
  obtain ⟨y, hy⟩ : ∃ y, y = 147 := ⟨_, rfl⟩
  obtain ⟨z, hz⟩ : ∃ z, z = 3 := ⟨_, rfl⟩
  have h2 := fits_aux x y z hx hy hz
  have h1 : (256 : Nat) ^ k ≤ 256 ^ (x * z) := Nat.pow_le_pow_right (by decide) (by subst hx hz; omega)
  have hmy : m = y * z := by subst hy hz; exact hm
  rw [hmy]
  exact Nat.lt_of_lt_of_le h (Nat.le_trans h1 (Nat.le_of_lt h2))
theorem WInv.more {P0 P : List Nat} {V c f : Nat} (h : WInv P0 V P c f) (hV : Fits V) (hc : 0 < c) : 0 < f := by
  obtain ⟨h1, h2, h3, h4, h5, h6⟩ := h
  rcases Nat.eq_zero_or_pos f with e | e
  · subst e
    obtain ⟨m, hm⟩ : ∃ m, m = 441 := ⟨_, rfl⟩
    have hV := hV m hm
    rw [show 441 - 0 = m by omega] at h6
    have : 1 * 10 ^ m ≤ c * 10 ^ m := Nat.mul_le_mul_right _ hc
    omega
  · exact e
theorem UInv.done {P0 P : List Nat} {c0 c f : Nat} (h : UInv P0 c0 P c (441 - f)) (hf : f ≤ 441) : WInv P0 (val (P0.drop f) * 256 + c0) P c f := by
  obtain ⟨h1, h2, h3, h4, h5⟩ := h
  rw [show 441 - (441 - f) = f by omega] at h4 h5
  exact ⟨h1, h2, h3, hf, h4, h5⟩
set_option maxHeartbeats 1000000 in
set_option maxRecDepth 100000 in
theorem scaleUp_any (b : Nat) (T : TypeId) (P0 : List Nat) (f0 c0 : Nat) (w : World) (hA : Arr w b T P0) (h0 : P0.length = 441) (hb0 : Dgs P0) (hf0 : f0 ≤ 441) (hc0 : c0 ≤ 255) (hV : Fits (val (P0.drop f0) * 256 + c0)) :
    Calls Tryd.prog 52 #[.slice (some ⟨b, 0, none⟩) 441 441, .int .i64 f0, .int .i64 c0] w fun e w' => ∃ (P : List Nat) (f : Nat), e = .returned (.int .i64 f) ∧ Hid (WInv P0 (val (P0.drop f0) * 256 + c0) P 0 f) ∧ Hid (Arr w' b T P) ∧ Hid (Only b w w') := by
  have hA := hide hA
  have hb0 := hide hb0
  have hV := hide hV
  have h0 := hide h0
  go_enter Tryd.func52, Tryd.ntmps52
  go_wp2
  go_loopw [2, 7] (fun c i w' => ∃ (P : List Nat) (ci k : Nat), c = .int .i64 ci ∧ i = .int .i64 (440 - (k : Int)) ∧ k ≤ 441 - f0 ∧ Hid (UInv P0 c0 P ci k) ∧ Hid (Arr w' b T P) ∧ Hid (Only b w w')) (fun _ i _ => (intOf i + 1).toNat)
  case atStart => exact ⟨P0, c0, 0, rfl, rfl, by omega, UInv.start c0 h0.out hb0.out hc0, hA.out, Only.refl _ _⟩
  case round =>
    obtain ⟨P, ci, k, rfl, rfl, hk, hM, hAr, hO⟩ := hrel
    have hPl := hide hM.out.1
    have hc1 := hM.out.2.2.1
    by_cases hk7 : k < 441 - f0
    · have hcell := hAr.out.cell (440 - k) (by have := hPl.out; omega)
      have hfz := hAr.out.frozen (440 - k)
      have hq9 : P[440 - k]'(by have := hPl.out; omega) ≤ 9 := hM.out.2.1 _ (List.getElem_mem _)
      obtain ⟨q, hq⟩ : ∃ q, P[440 - k]'(by have := hPl.out; omega) = q := ⟨_, rfl⟩
      rw [hq] at hcell hq9
      have hst := hide (UInv.step h0.out hM.out (by omega) q hq)
      clear hq
      have ei : (440 - (k : Int)).toNat = 440 - k := by omega
      have hi0 : (f0 : Int) ≤ 440 - (k : Int) := by omega
      go_wp2
      refine ⟨⟨P.set (440 - k) ((ci + q * 256) % 10), (ci + q * 256) / 10, k + 1, ?_, ?_, by omega, hst.out, ?_, ?_⟩, by simp [intOf]; omega⟩
      · show Value.int _ _ = Value.int _ _
        first | (congr 1; done) | (congr 1; omega)
      · show Value.int _ _ = Value.int _ _
        first | (congr 1; done) | (congr 1; omega)
      · show Arr _ _ _ _
        first
          | exact hAr.out.set _ _
          | (rw [show ((ci : Int) + (q : Int) * 256) % 10 = (((ci + q * 256) % 10 : Nat) : Int) by omega]; exact hAr.out.set _ _)
      · exact hO.out.set _ _
    · have hkf : k = 441 - f0 := by omega
      subst hkf
      have hW := hide (UInv.done hM.out hf0)
      have hno : ¬ ((f0 : Int) ≤ 440 - ((441 - f0 : Nat) : Int)) := by omega
      clear hM
      go_wp2
      go_loopw [1, 2] (fun f c w' => ∃ (P : List Nat) (fi ci : Nat), f = .int .i64 fi ∧ c = .int .i64 ci ∧ fi ≤ 441 ∧ ci ≤ 255 ∧ Hid (WInv P0 (val (P0.drop f0) * 256 + c0) P ci fi) ∧ Hid (Arr w' b T P) ∧ Hid (Only b w w')) (fun f _ _ => (intOf f).toNat)
      case atStart => exact ⟨P, f0, ci, rfl, rfl, hf0, hc1, hW.out, hAr.out, hO.out⟩
      case round =>
        obtain ⟨P, fi, ci, rfl, rfl, hf1, hc2, hM, hAr, hO⟩ := hrel
        by_cases hcp : 0 < ci
        · have hfp := WInv.more hM.out hV.out hcp
          have hst := hide (WInv.step hM.out hfp)
          have hPl := hide hM.out.1
          have hcell := hAr.out.cell (fi - 1) (by have := hPl.out; omega)
          have hfz := hAr.out.frozen (fi - 1)
          have ei : ((fi : Int) - 1).toNat = fi - 1 := by omega
          go_wp2
          refine ⟨⟨P.set (fi - 1) (ci % 10), fi - 1, ci / 10, ?_, ?_, by omega, by omega, hst.out, ?_, ?_⟩, by simp [intOf]; omega⟩
          · show Value.int _ _ = Value.int _ _
            congr 1; omega
          · show Value.int _ _ = Value.int _ _
            first | (congr 1; done) | (congr 1; omega)
          · show Arr _ _ _ _
            first
              | exact hAr.out.set _ _
              | (rw [show (ci : Int) % 10 = ((ci % 10 : Nat) : Int) by omega]; exact hAr.out.set _ _)
          · exact hO.out.set _ _
        · have hc0' : ci = 0 := by omega
          subst hc0'
          go_wp2
          go_ret
          exact ⟨P, fi, rfl, hM.out, hAr.out, hO.out⟩
end Go.Proofs.YtjpdlibncmldlaaDoor
/- num.Of: walked at any bytes. -/
namespace Go.Proofs.YtjpdlibncmldlaaDoor
open Go.RowKit
set_option linter.unusedSimpArgs false
set_option linter.unusedVariables false
theorem v256_app (a b : List Nat) : v256 (a ++ b) = v256 a * 256 ^ b.length + v256 b := by
  induction a with
  | nil => simp [v256]
  | cons d a ih =>
    simp only [List.cons_append, v256, List.length_append, ih, Nat.pow_add, Nat.add_mul, Nat.mul_assoc]
    omega
theorem v256_take_succ (l : List Nat) (k : Nat) (h : k < l.length) : v256 (l.take (k + 1)) = v256 (l.take k) * 256 + l[k] := by
  rw [List.take_succ_eq_append_getElem h, v256_app]; simp [v256]
theorem v256_lz (l : List Nat) : v256 l = v256 (l.drop (lz l)) := by
  have := v256_app (l.take (lz l)) (l.drop (lz l))
  rw [List.take_append_drop, take_lz, v256_zeros] at this
  simpa using this
/-- A row whose first byte is not nought is no less than its power. -/
theorem v256_ge {d : Nat} {l : List Nat} (h : d ≠ 0) : 256 ^ l.length ≤ v256 (d :: l) := by
  simp only [v256]
  have : 1 * 256 ^ l.length ≤ d * 256 ^ l.length := Nat.mul_le_mul_right _ (by omega)
  omega
theorem big_aux (x y z k : Nat) (hx : x = 40) (hy : y = 133) (hz : z = 11) (hk : 183 ≤ k) : 10 ^ (x * z) ≤ 256 ^ k := by
  have h1 : (10 : Nat) ^ x ≤ 2 ^ y := by subst hx hy; decide
  have h2 : ((10 : Nat) ^ x) ^ z ≤ (2 ^ y) ^ z := Nat.pow_le_pow_left h1 z
  rw [← Nat.pow_mul, ← Nat.pow_mul] at h2
  have h3 : (256 : Nat) ^ k = 2 ^ (8 * k) := by rw [show (256 : Nat) = 2 ^ 8 from rfl, ← Nat.pow_mul]
  rw [h3]
  exact Nat.le_trans h2 (Nat.pow_le_pow_right (by decide) (by subst hy hz; omega))
/-- So much, with a sign, in the units of numbers. -/
def Zof (neg : Bool) (V m : Nat) : Int := if neg then -((V * 10 ^ m : Nat) : Int) else ((V * 10 ^ m : Nat) : Int)
theorem Zv_abs (n : Bool) (s : ByteArray) (y : Int) : (Zv n s y).natAbs = mag s y := by unfold Zv; cases n <;> simp
theorem Zof_abs (neg : Bool) (V m : Nat) : (Zof neg V m).natAbs = V * 10 ^ m := by
  unfold Zof
  cases neg
  · exact Int.natAbs_natCast _
  · exact (Int.natAbs_neg _).trans (Int.natAbs_natCast _)
/-- What is worth so much is no number. -/
theorem far_none (neg : Bool) (V k m : Nat) (hm : m = 400) (hk : 183 ≤ k) (h : 256 ^ k ≤ V) : IsSum (Zof neg V m) (false, ⟨#[]⟩, 0, 2) := by
  right
  refine ⟨rfl, fun n s y hN e => ?_⟩
  obtain ⟨_, _, h40, hy1, hy2, hdg⟩ := isN_all hN
  have e1 : mag s y = V * 10 ^ m := by rw [← Zv_abs n s y, e, Zof_abs]
  have h1 : mag s y < 10 ^ (40 + m + m) := lt_pow hdg (by rw [dg_length]; omega)
  obtain ⟨x, hx⟩ : ∃ x, x = 40 := ⟨_, rfl⟩
  obtain ⟨z, hz⟩ : ∃ z, z = 11 := ⟨_, rfl⟩
  have h2 := big_aux x 133 z k hx rfl hz hk
  have h3 : 10 ^ (x * z) * 10 ^ m ≤ V * 10 ^ m := Nat.mul_le_mul_right _ (Nat.le_trans h2 h)
  rw [← Nat.pow_add, show x * z + m = 40 + m + m by subst hx hz; omega] at h3
  rw [e1] at h1
  exact Nat.lt_irrefl _ (Nat.lt_of_lt_of_le h1 h3)
theorem formF_of (neg : Bool) (d : List Nat) (hd : Dgs d) (m : Nat) (hm : m = 400) : IsSum (Zof neg (val d) m) (formF neg d 0) := by
  have := formF_sum neg d 0 hd (by omega)
  rw [show ((0 : Int) + 400).toNat = m by omega] at this
  exact this
/-- Bytes that lie somewhere. -/
def SB8 (w : World) (v : Value) (l : List Nat) : Prop :=
  (∃ a c, v = .slice a 0 c ∧ l = []) ∨ ∃ b o c, v = .slice (some ⟨b, o, none⟩) l.length c ∧ 0 < l.length ∧ l.length ≤ c ∧ c ≤ maxLen ∧ b < w.heap.size ∧ ∀ i (h : i < l.length), w.cell? ⟨b, o + i, none⟩ = some (.int .u8 (l[i] : Nat))
set_option maxHeartbeats 400000 in
theorem trimByteG (b o n c : Nat) (d : List Nat) (w : World) (hd : d.length = n) (hn0 : 0 < n) (hc : n ≤ c) (hc' : c ≤ 9223372036854775807)
    (hcell : ∀ i (h : i < d.length), w.cell? ⟨b, o + i, none⟩ = some (.int .u8 (d[i] : Nat))) :
    Calls Tryd.prog 65 #[.slice (some ⟨b, o, none⟩) n c, .int .u8 0] w fun e w' => (lz d < n → e = .returned (.slice (some ⟨b, o + lz d, none⟩) (n - lz d) (c - lz d))) ∧ (lz d = n → e = .returned (.slice none 0 0)) ∧ w' = w := by
  go_enter Tryd.func65, Tryd.ntmps65
  go_wp2
  go_loop [0] (fun s => ∃ k : Nat, k ≤ n ∧ (∀ i (h : i < d.length), i < k → d[i] = 0) ∧ ((k < n ∧ s = .slice (some ⟨b, o + k, none⟩) (n - k) (c - k)) ∨ (k = n ∧ ∃ a cc, s = .slice a 0 cc))) (fun s => lenOf s)
  case atStart => exact ⟨0, Nat.zero_le _, fun i h hi => by omega, Or.inl ⟨hn0, rfl⟩⟩
  case round =>
    obtain ⟨k, hk, hz, hs⟩ := hrel
    rcases hs with ⟨hlt, rfl⟩ | ⟨rfl, a, cc, rfl⟩
    · have hck := hcell k (by omega)
      by_cases h0 : d[k]'(by omega) = 0
      · rw [h0] at hck
        have hz' : ∀ i (h : i < d.length), i < k + 1 → d[i] = 0 := fun i h hi => by
          by_cases e : i = k
          · subst e; exact h0
          · exact hz i h (by omega)
        have hz' := hide hz'
        go_wp2
        refine ⟨⟨k + 1, by omega, hz'.out, ?_⟩, by simp [lenOf]; omega⟩
        by_cases hl : k + 1 < n
        · exact Or.inl ⟨hl, by rw [if_neg (by omega)]; simp [Nat.sub_sub, Nat.add_assoc]⟩
        · exact Or.inr ⟨by omega, _, _, by rw [show n - k - 1 = 0 by omega]⟩
      · have h1 : ((d[k]'(by omega) : Int) == 0) = false := by simp; exact h0
        have h2 : (((n - k : Nat) : Int) == 0) = false := by simp; omega
        have hl := hide (lz_of d k (by omega) hz (fun _ => h0))
        clear h0
        go_wp2
        go_ret
        exact ⟨fun _ => by rw [hl.out]; rfl, fun h => by rw [hl.out] at h; omega, rfl⟩
    · have hl := hide (lz_of d k (by omega) hz (fun h => by omega))
      go_wp2
      go_ret
      exact ⟨fun h => by rw [hl.out] at h; omega, fun h => rfl, rfl⟩
set_option maxRecDepth 100000 in
theorem trimLeftG (b o n c : Nat) (d : List Nat) (w : World) (hd : d.length = n) (hn0 : 0 < n) (hc : n ≤ c) (hc' : c ≤ 9223372036854775807)
    (hcell : ∀ i (h : i < d.length), w.cell? ⟨b, o + i, none⟩ = some (.int .u8 (d[i] : Nat))) :
    Calls Tryd.prog 51 #[.slice (some ⟨b, o, none⟩) n c, .string ⟨#[0]⟩] w fun e w' => (lz d < n → e = .returned (.slice (some ⟨b, o + lz d, none⟩) (n - lz d) (c - lz d))) ∧ (lz d = n → e = .returned (.slice none 0 0)) ∧ w' = w := by
  have h2 : ((n : Int) == 0) = false := by simp; omega
  have hcell := hide hcell
  by_cases hl : lz d < n
  · go_enter Tryd.func51, Tryd.ntmps51
    go_wp2_with (go_at_call 65; refine (trimByteG b o n c d _ hd hn0 hc hc' hcell.out).mono ?_; rintro e w' ⟨h1, _, rfl⟩; obtain rfl := h1 hl)
    go_ret
    exact ⟨fun _ => rfl, fun h => by omega, rfl⟩
  · have hl' : Hid (lz d = n) := by
      have : lz d ≤ n := by
        unfold lz; rw [← hd]; exact (List.takeWhile_prefix _).length_le
      show lz d = n
      omega
    go_enter Tryd.func51, Tryd.ntmps51
    go_wp2_with (go_at_call 65; refine (trimByteG b o n c d _ hd hn0 hc hc' hcell.out).mono ?_; rintro e w' ⟨_, h1, rfl⟩; obtain rfl := h1 hl'.out)
    go_ret
    exact ⟨fun h => by omega, fun _ => rfl, rfl⟩
theorem zero441 : Tryd.zeroCells72 = ((List.replicate 441 0).map fun v : Nat => Value.int .u8 (v : Int)).toArray := by kernel_rfl
/-- Where Of stands: the struct of the answer, and the digits. -/
structure OSt (w : World) (V : Nat) (f : Nat) (W : World) : Prop where
  below : Below w.heap.size w W
  hb : Box W w.heap.size false ⟨#[]⟩ 0
  row : ∃ P, P.length = 441 ∧ Dgs P ∧ f ≤ 441 ∧ val (P.drop f) = V ∧ Arr W (w.heap.size + 1) 72 P
theorem ost_new (w : World) : OSt w 0 441 ((w.alloc (.cells #[.bool false, .string ⟨#[]⟩, .int .i64 0] 23)).alloc (.cells Tryd.zeroCells72 72)) := by
  refine ⟨below_al (below_al (Below.refl _ _)), (box_new w false ⟨#[]⟩ 0).alloc _, List.replicate 441 0, List.length_replicate, fun d hd => by rw [List.eq_of_mem_replicate hd]; omega, Nat.le_refl _, ?_, ?_⟩
  · rw [List.drop_of_length_le (Nat.le_of_eq List.length_replicate)]; rfl
  · have := arr_new (w.alloc (.cells #[.bool false, .string ⟨#[]⟩, .int .i64 0] 23)) 72 441 _ zero441
    rw [show (w.alloc (.cells #[.bool false, .string ⟨#[]⟩, .int .i64 0] 23)).heap.size = w.heap.size + 1 by simp] at this
    exact this
/-- The digits behind place f, and form's answer. -/
theorem of_form (neg : Bool) (f : Nat) (P : List Nat) (b : Nat) (T : TypeId) (w : World) (hP : P.length = 441) (hD : Dgs P) (hf : f < 441) (hA : Arr w b T P) :
    Calls Tryd.prog 30 #[.bool neg, .slice (some ⟨b, f, none⟩) (441 - f) (441 - f), .int .i64 0] w fun e w' => e = retF (formF neg (P.drop f) 0) ∧ Below w.heap.size w w' :=
  form_any neg b f (441 - f) (441 - f) (P.drop f) 0 w (by rw [List.length_drop]; omega) (by omega) (by omega) (Nat.le_refl _) (by omega) hA.lt (fun i hi => by
    rw [List.length_drop] at hi
    rw [hA.cell (f + i) (by omega)]
    simp) (by omega) (by omega) (fun d hd => hD d (List.mem_of_mem_drop hd))
set_option maxHeartbeats 1000000 in
set_option maxRecDepth 100000 in
theorem of_nil (neg : Bool) (v : Value) (w : World) (hT : ∀ o, Calls Tryd.prog 51 #[v, .string ⟨#[0]⟩] (w.alloc o) fun e w' => e = .returned (.slice none 0 0) ∧ w' = w.alloc o) :
    Calls Tryd.prog 21 #[.bool neg, v] w fun e w' => e = retF (false, ⟨#[48]⟩, 0, 0) ∧ Below w.heap.size w w' := by
  have hT := hide hT
  have S0 := hide (ost_new w)
  obtain ⟨W0, hW0⟩ : ∃ W0, (w.alloc (.cells #[.bool false, .string ⟨#[]⟩, .int .i64 0] 23)).alloc (.cells Tryd.zeroCells72 72) = W0 := ⟨_, rfl⟩
  rw [hW0] at S0
  obtain ⟨c0, c1, c2, f0, f1, f2⟩ := S0.out.hb.cells
  go_enter Tryd.func21, Tryd.ntmps21
  go_wp2_with (first | (go_at_call 51; refine (hT.out _).mono ?_; rintro e w1 ⟨rfl, rfl⟩))
  go_loopw [7, 18] (fun f i w' => f = .int .i64 441 ∧ i = .int .i64 0 ∧ w' = W0) (fun _ _ _ => 0)
  case atStart => exact ⟨rfl, rfl, rfl⟩
  case round =>
    obtain ⟨rfl, rfl, rfl⟩ := hrel
    clear hW0
    go_wp2_with (first | (go_at_call 30; refine (form_none neg _ _ _ _).mono ?_; rintro e w1 ⟨rfl, hb1⟩; obtain ⟨k0, k1, k2, m0, m1, m2⟩ := (S0.out.hb.below hb1 S0.out.hb.lt).cells))
    exact bodyPost_ret (v := .tuple #[.agg #[.bool false, .string ⟨#[48]⟩, .int .i64 0], .int .i64 0]) (by simp [results, Tryd.results21, go_sem, k0, k1, k2]) rfl ⟨rfl, (((below_then S0.out.below hb1).setCell (Nat.le_refl _) _).setCell (Nat.le_refl _) _).setCell (Nat.le_refl _) _⟩
set_option maxHeartbeats 2000000 in
set_option maxRecDepth 100000 in
theorem of_some (neg : Bool) (v : Value) (b o c : Nat) (m : List Nat) (w : World) (hm0 : 0 < m.length) (hmc : m.length ≤ c) (hc : c ≤ 9223372036854775807) (hb : b < w.heap.size) (hB : Bts m)
    (hcell : ∀ i (h : i < m.length), w.cell? ⟨b, o + i, none⟩ = some (.int .u8 (m[i] : Nat))) (h183 : m.length ≤ 183)
    (hT : ∀ ob, Calls Tryd.prog 51 #[v, .string ⟨#[0]⟩] (w.alloc ob) fun e w' => e = .returned (.slice (some ⟨b, o, none⟩) m.length c) ∧ w' = w.alloc ob) :
    Calls Tryd.prog 21 #[.bool neg, v] w fun e w' => ∃ r, e = retF r ∧ Hid (∀ n, n = 400 → IsSum (Zof neg (v256 m) n) r) ∧ Below w.heap.size w w' := by
  have hT := hide hT
  have hB := hide hB
  have hcell := hide hcell
  have S0 := hide (ost_new w)
  obtain ⟨W0, hW0⟩ : ∃ W0, (w.alloc (.cells #[.bool false, .string ⟨#[]⟩, .int .i64 0] 23)).alloc (.cells Tryd.zeroCells72 72) = W0 := ⟨_, rfl⟩
  rw [hW0] at S0
  go_enter Tryd.func21, Tryd.ntmps21
  go_wp2_with (first | (go_at_call 51; refine (hT.out _).mono ?_; rintro e w1 ⟨rfl, rfl⟩))
  go_loopw [7, 18] (fun f i w' => ∃ (fi k : Nat), f = .int .i64 fi ∧ i = .int .i64 k ∧ k ≤ m.length ∧ fi ≤ 441 ∧ Hid (OSt w (v256 (m.take k)) fi w')) (fun _ i _ => m.length - (intOf i).toNat)
  case atStart => exact ⟨441, 0, rfl, rfl, Nat.zero_le _, Nat.le_refl _, S0.out⟩
  case round =>
    obtain ⟨fi, k, rfl, rfl, hk, hf, S⟩ := hrel
    clear hW0
    by_cases hlt : k < m.length
    · obtain ⟨P, hP1, hP2, _, hP3, hP4⟩ := S.out.row
      have hck : wr.cell? ⟨b, o + k, none⟩ = some (.int .u8 (m[k] : Nat)) := (S.out.below.cell (p := ⟨b, o + k, none⟩) hb).trans (hcell.out k hlt)
      have hmk : m[k] ≤ 255 := hB.out _ (List.getElem_mem _)
      have hvs := v256_take_succ m k hlt
      have hfit : Fits (val (P.drop fi) * 256 + m[k]) := by
        rw [hP3, ← hvs]
        refine fits_bytes (k := k + 1) (by omega) ?_
        have := v256_lt (m.take (k + 1)) (fun d hd => hB.out d (List.mem_of_mem_take hd))
        rw [List.length_take, Nat.min_eq_left (by omega)] at this
        exact this
      obtain ⟨mk, hmkE⟩ : ∃ mk, m[k] = mk := ⟨_, rfl⟩
      rw [hmkE] at hck hmk hvs hfit
      have hsc := hide (scaleUp_any (w.heap.size + 1) 72 P fi mk wr hP4 hP1 hP2 hf hmk hfit)
      have hP3 := hide hP3
      have hvs := hide hvs
      clear hfit hmkE hP4 hP1 hP2
      go_wp2_with (first | (go_at_call 52; refine hsc.out.mono ?_; rintro e w1 ⟨P', f', rfl, hWI, hA', hO⟩))
      refine ⟨⟨f', k + 1, rfl, by go_num, by omega, hWI.out.2.2.2.1, ?_⟩, by simp [intOf]; omega⟩
      refine ⟨S.out.below.trans (hO.out.below (by omega)), S.out.hb.only hO.out (by omega), P', hWI.out.1, hWI.out.2.1, hWI.out.2.2.2.1, ?_, hA'.out⟩
      have := hWI.out.2.2.2.2.2
      rw [Nat.zero_mul, Nat.add_zero] at this
      rw [this, hP3.out, ← hvs.out]
    · have htk : m.take k = m := List.take_of_length_le (by omega)
      rw [htk] at S
      obtain ⟨P, hP1, hP2, _, hP3, hP4⟩ := S.out.row
      obtain ⟨rb, rs, rx, re, hre⟩ : ∃ rb rs rx re, formF neg (P.drop fi) 0 = (rb, rs, rx, re) := ⟨_, _, _, _, rfl⟩
      have hsum := hide (show ∀ n, n = 400 → IsSum (Zof neg (v256 m) n) (rb, rs, rx, re) from fun n hn => by
        have := formF_of neg (P.drop fi) (fun d hd => hP2 d (List.mem_of_mem_drop hd)) n hn
        rw [hP3, hre] at this
        exact this)
      have hlt' := S.out.hb.lt
      by_cases hfe : fi = 441
      · have hd0 : P.drop fi = [] := List.drop_of_length_le (by omega)
        rw [hd0] at hre
        have hr0 : (rb, rs, rx, re) = (false, ⟨#[48]⟩, (0 : Int), (0 : Int)) := by rw [← hre]; rfl
        simp only [Prod.mk.injEq] at hr0
        obtain ⟨rfl, rfl, rfl, rfl⟩ := hr0
        subst hfe
        clear hd0 hre hP3 hP4 hP1 hP2
        go_wp2_with (first | (go_at_call 30; refine (form_none neg _ _ _ _).mono ?_; rintro e w1 ⟨rfl, hb1⟩; obtain ⟨k0, k1, k2, m0, m1, m2⟩ := (S.out.hb.below hb1 hlt').cells))
        exact bodyPost_ret (v := .tuple #[.agg #[.bool false, .string ⟨#[48]⟩, .int .i64 0], .int .i64 0]) (by simp [results, Tryd.results21, go_sem, k0, k1, k2]) rfl ⟨_, rfl, hsum.out, (((below_then S.out.below hb1).setCell (Nat.le_refl _) _).setCell (Nat.le_refl _) _).setCell (Nat.le_refl _) _⟩
      · have hfm := hide (of_form neg fi P (w.heap.size + 1) 72 wr hP1 hP2 (by omega) hP4)
        rw [hre] at hfm
        simp only [retF] at hfm
        have hfl : (fi : Int) ≤ 441 := by omega
        clear hre hP3 hP4 hP1 hP2
        go_wp2_with (first | (go_at_call 30; refine hfm.out.mono ?_; rintro e w1 ⟨rfl, hb1⟩; obtain ⟨k0, k1, k2, m0, m1, m2⟩ := (S.out.hb.below hb1 hlt').cells))
        exact bodyPost_ret (v := .tuple #[.agg #[.bool rb, .string rs, .int .i64 rx], .int .i64 re]) (by simp [results, Tryd.results21, go_sem, k0, k1, k2]) rfl ⟨_, rfl, hsum.out, (((below_then S.out.below hb1).setCell (Nat.le_refl _) _).setCell (Nat.le_refl _) _).setCell (Nat.le_refl _) _⟩
set_option maxHeartbeats 1000000 in
set_option maxRecDepth 100000 in
theorem of_far (neg : Bool) (v : Value) (a : Option Addr) (n c : Nat) (w : World) (h183 : 183 < n) (hn : n ≤ 9223372036854775807)
    (hT : ∀ ob, Calls Tryd.prog 51 #[v, .string ⟨#[0]⟩] (w.alloc ob) fun e w' => e = .returned (.slice a n c) ∧ w' = w.alloc ob) :
    Calls Tryd.prog 21 #[.bool neg, v] w fun e w' => e = retF (false, ⟨#[]⟩, 0, 2) ∧ Below w.heap.size w w' := by
  have hT := hide hT
  have h1 : (183 : Int) < (n : Int) := by omega
  obtain ⟨c0, c1, c2, f0, f1, f2⟩ := (box_new w false ⟨#[]⟩ 0).cells
  go_enter Tryd.func21, Tryd.ntmps21
  go_wp2_with (first | (go_at_call 51; refine (hT.out _).mono ?_; rintro e w1 ⟨rfl, rfl⟩))
  exact bodyPost_ret (v := .tuple #[.agg #[.bool false, .string ⟨#[]⟩, .int .i64 0], .int .i64 2]) (by simp [results, Tryd.results21, go_sem]) rfl ⟨rfl, by first | exact below_al (Below.refl _ _) | exact (((below_al (Below.refl w.heap.size w)).setCell (Nat.le_refl _) _).setCell (Nat.le_refl _) _).setCell (Nat.le_refl _) _⟩
theorem sum_zero (neg : Bool) (n : Nat) : IsSum (Zof neg 0 n) (false, ⟨#[48]⟩, 0, 0) := by
  left
  refine ⟨rfl, rfl, ?_⟩
  have := (isZ_mag (n := false) (s := ⟨#[48]⟩) (x := 0) rfl).2.2.2
  rw [this]
  unfold Zof
  cases neg <;> simp
theorem SB8.alloc {w : World} {v : Value} {l : List Nat} (h : SB8 w v l) (o : Obj) : SB8 (w.alloc o) v l := by
  rcases h with ⟨a, c, rfl, rfl⟩ | ⟨b, f, c, rfl, h0, h1, h2, h3, hc⟩
  · exact Or.inl ⟨a, c, rfl, rfl⟩
  · exact Or.inr ⟨b, f, c, rfl, h0, h1, h2, by simp; omega, fun i hi => ((below_al (o := o) (Below.refl w.heap.size w)).cell (p := ⟨b, f + i, none⟩) h3).trans (hc i hi)⟩
theorem lz_drop_head (l : List Nat) (h : lz l < l.length) : ∃ d t, l.drop (lz l) = d :: t ∧ d ≠ 0 := by
  refine ⟨l[lz l], l.drop (lz l + 1), List.drop_eq_getElem_cons h, lz_ne l h⟩
/-- num.Of at any bytes: the number that they are worth, or there is none. -/
theorem of_any (neg : Bool) (v : Value) (l : List Nat) (w : World) (hv : SB8 w v l) (hB : Bts l) :
    Calls Tryd.prog 21 #[.bool neg, v] w fun e w' => ∃ r, e = retF r ∧ Hid (∀ n, n = 400 → IsSum (Zof neg (v256 l) n) r) ∧ Below w.heap.size w w' := by
  have ml : maxLen = 9223372036854775807 := rfl
  rcases hv with ⟨a, c, rfl, rfl⟩ | ⟨b, o, c, rfl, h0, h1, h2, h3, hc⟩
  · refine (of_nil neg _ w (fun ob => trimLeft_none a c _)).mono ?_
    rintro e w' ⟨rfl, hb⟩
    exact ⟨_, rfl, fun n _ => sum_zero neg n, hb⟩
  · have hc' : ∀ (ob : Obj) (i : Nat) (h : i < l.length), (w.alloc ob).cell? ⟨b, o + i, none⟩ = some (.int .u8 (l[i] : Nat)) := fun ob i hi => ((below_al (o := ob) (Below.refl w.heap.size w)).cell (p := ⟨b, o + i, none⟩) h3).trans (hc i hi)
    have hT := fun ob => trimLeftG b o l.length c l (w.alloc ob) rfl h0 h1 (by omega) (hc' ob)
    by_cases hz : lz l = l.length
    · refine (of_nil neg _ w (fun ob => (hT ob).mono fun e w' ⟨_, h, hw⟩ => ⟨h hz, hw⟩)).mono ?_
      rintro e w' ⟨rfl, hb⟩
      have hv0 : v256 l = 0 := by rw [v256_lz, hz, List.drop_length]; rfl
      exact ⟨_, rfl, fun n _ => by rw [hv0]; exact sum_zero neg n, hb⟩
    · have hlz : lz l < l.length := by have := lz_le l; omega
      have hld : (l.drop (lz l)).length = l.length - lz l := List.length_drop
      by_cases h183 : l.length - lz l ≤ 183
      · have := of_some neg (.slice (some ⟨b, o, none⟩) l.length c) b (o + lz l) (c - lz l) (l.drop (lz l)) w (by omega) (by omega) (by omega) h3 (fun d hd => hB d (List.mem_of_mem_drop hd)) (fun i hi => by
          rw [hld] at hi
          rw [Nat.add_assoc, hc (lz l + i) (by omega)]
          simp) (by omega) (fun ob => (hT ob).mono fun e w' ⟨h, _, hw⟩ => ⟨by rw [hld]; exact h hlz, hw⟩)
        rw [← v256_lz] at this
        exact this
      · refine (of_far neg _ (some ⟨b, o + lz l, none⟩) (l.length - lz l) (c - lz l) w (by omega) (by omega) (fun ob => (hT ob).mono fun e w' ⟨h, _, hw⟩ => ⟨h hlz, hw⟩)).mono ?_
        rintro e w' ⟨rfl, hb⟩
        obtain ⟨d, t, hdt, hd0⟩ := lz_drop_head l hlz
        have htl : t.length = l.length - lz l - 1 := by
          have := congrArg List.length hdt
          rw [hld] at this
          simp at this
          omega
        refine ⟨_, rfl, fun n hn => far_none neg (v256 l) t.length n hn (by omega) ?_, hb⟩
        rw [v256_lz, hdt]
        exact v256_ge hd0
end Go.Proofs.YtjpdlibncmldlaaDoor
/- num.Bytes where it refuses; what is parsed is a number. -/
namespace Go.Proofs.YtjpdlibncmldlaaDoor
open Go.RowKit
set_option linter.unusedSimpArgs false
set_option linter.unusedVariables false
theorem formF_isN {neg : Bool} {d : List Nat} {x : Int} (hd : Dgs d) {b : Bool} {s : ByteArray} {y : Int} (h : formF neg d x = (b, s, y, 0)) : isN b s y = true := by
  unfold formF at h
  by_cases hz : lz d = d.length
  · rw [if_pos hz] at h
    simp only [Prod.mk.injEq] at h
    obtain ⟨rfl, rfl, rfl, _⟩ := h
    rfl
  · rw [if_neg hz] at h
    have hlt : lz d < d.length := by have := lz_le d; omega
    obtain ⟨hc, hne⟩ := core_can d hlt hd
    by_cases hf : (core d).length ≤ 40 ∧ -400 ≤ x + tz (dz d) ∧ x + tz (dz d) ≤ 400
    · rw [if_pos hf] at h
      simp only [Prod.mk.injEq] at h
      obtain ⟨rfl, rfl, rfl, _⟩ := h
      have ho := mkS_isO (core d) (x + tz (dz d)) hc hne hf.1 hf.2.1 hf.2.2
      simp [isN, ho]
    · rw [if_neg hf] at h
      simp only [Prod.mk.injEq] at h
      exact absurd h.2.2.2 (by decide)
theorem parseF_isN {l : List UInt8} {b : Bool} {s : ByteArray} {y : Int} (h : parseF l = (b, s, y, 0)) : isN b s y = true := by
  unfold parseF at h
  cases hs : splitL l with
  | none =>
    rw [hs] at h
    simp only [Prod.mk.injEq] at h
    exact absurd h.2.2.2 (by decide)
  | some r =>
    obtain ⟨n, wh, fr, pn, pw⟩ := r
    rw [hs] at h
    simp only at h
    obtain ⟨f1, f2, _⟩ := splitL_facts hs
    split at h
    · simp only [Prod.mk.injEq] at h
      exact absurd h.2.2.2 (by decide)
    · refine formF_isN (fun d hd => ?_) h
      rcases List.mem_append.1 hd with q | q
      · exact dlu_dgs wh f1 d q
      · exact dlu_dgs fr f2 d q
theorem parseF_err (l : List UInt8) : (parseF l).2.2.2 = 0 ∨ (parseF l).2.2.2 = 10 ∨ (parseF l).2.2.2 = 2 := by
  unfold parseF
  cases splitL l with
  | none => exact Or.inr (Or.inl rfl)
  | some r =>
    obtain ⟨n, wh, fr, pn, pw⟩ := r
    simp only
    split
    · exact Or.inr (Or.inr rfl)
    · unfold formF
      split
      · exact Or.inl rfl
      · split
        · exact Or.inl rfl
        · exact Or.inr (Or.inr rfl)
theorem parseF_size {l : List UInt8} (h : (parseF l).2.2.2 ≠ 0) : parseF l = (false, ⟨#[]⟩, 0, (parseF l).2.2.2) := by
  revert h
  unfold parseF
  cases splitL l with
  | none => intro _; rfl
  | some r =>
    obtain ⟨n, wh, fr, pn, pw⟩ := r
    simp only
    split
    · intro _; rfl
    · unfold formF
      split
      · intro h; exact absurd rfl h
      · split
        · intro h; exact absurd rfl h
        · intro _; rfl
set_option maxHeartbeats 1000000 in
theorem bytes_form (n : Bool) (s : ByteArray) (x : Int) (w : World) (hs : s.size ≤ 100000) (h : isN n s x = false) :
    Calls Tryd.prog 24 #[.agg #[.bool n, .string s, .int .i64 x]] w fun e w' => e = .returned (.tuple #[.slice none 0 0, .int .i64 10]) ∧ Below w.heap.size w w' := by
  have ml : maxLen = 2 ^ 63 - 1 := rfl
  have hB := hide (box_new w n s x)
  go_enter Tryd.func24, Tryd.ntmps24
  go_wp2_with fail
  refine (check_no n s x _ (by omega) h).mono ?_
  rintro e w1 ⟨rfl, hb1⟩
  go_wp2
  go_ret2
  exact ⟨rfl, below_alloc hb1⟩
set_option maxHeartbeats 1000000 in
theorem bytes_whole (n : Bool) (s : ByteArray) (x : Int) (w : World) (h : isN n s x = true) (hx : x < 0) :
    Calls Tryd.prog 24 #[.agg #[.bool n, .string s, .int .i64 x]] w fun e w' => e = .returned (.tuple #[.slice none 0 0, .int .i64 11]) ∧ Below w.heap.size w w' := by
  have ml : maxLen = 2 ^ 63 - 1 := rfl
  obtain ⟨had, hl1, hl40, hx1, hx2, hdg⟩ := isN_all h
  clear had hdg
  have hx0 : decide (x < 0) = true := decide_eq_true hx
  have hB := hide (box_new w n s x)
  go_enter Tryd.func24, Tryd.ntmps24
  go_wp2_with fail
  refine (check_ok n s x _ (by omega) h).mono ?_
  rintro e w1 ⟨rfl, hb1⟩
  have hB1 := hide (hB.out.below hb1 (by simp))
  obtain ⟨c0, c1, c2, f0, f1, f2⟩ := hB1.out.cells
  go_wp2
  go_ret2
  exact ⟨rfl, below_alloc hb1⟩
set_option maxHeartbeats 1000000 in
theorem bytes_limit (n : Bool) (s : ByteArray) (x : Int) (w : World) (h : isN n s x = true) (hx : 0 ≤ x) (hsx : 40 < (s.size : Int) + x) :
    Calls Tryd.prog 24 #[.agg #[.bool n, .string s, .int .i64 x]] w fun e w' => e = .returned (.tuple #[.slice none 0 0, .int .i64 2]) ∧ Below w.heap.size w w' := by
  have ml : maxLen = 2 ^ 63 - 1 := rfl
  obtain ⟨had, hl1, hl40, hx1, hx2, hdg⟩ := isN_all h
  clear had hdg
  have hx0 : decide (x < 0) = false := decide_eq_false (by omega)
  have hx40 : decide (40 < (s.size : Int) + x) = true := decide_eq_true hsx
  have hB := hide (box_new w n s x)
  go_enter Tryd.func24, Tryd.ntmps24
  go_wp2_with fail
  refine (check_ok n s x _ (by omega) h).mono ?_
  rintro e w1 ⟨rfl, hb1⟩
  have hB1 := hide (hB.out.below hb1 (by simp))
  obtain ⟨c0, c1, c2, f0, f1, f2⟩ := hB1.out.cells
  go_wp2
  go_ret2
  exact ⟨rfl, below_alloc hb1⟩
/-- What Bytes refuses with. -/
def bytesE (n : Bool) (s : ByteArray) (x : Int) : Int := if isN n s x then (if x < 0 then 11 else if 40 < (s.size : Int) + x then 2 else 0) else 10
theorem bytes_no (n : Bool) (s : ByteArray) (x : Int) (w : World) (hs : s.size ≤ 100000) (h : bytesE n s x ≠ 0) :
    Calls Tryd.prog 24 #[.agg #[.bool n, .string s, .int .i64 x]] w fun e w' => e = .returned (.tuple #[.slice none 0 0, .int .i64 (bytesE n s x)]) ∧ Below w.heap.size w w' := by
  unfold bytesE at h ⊢
  cases hN : isN n s x
  · exact bytes_form n s x w hs hN
  · rw [hN] at h
    simp only [if_true] at h ⊢
    by_cases hx : x < 0
    · rw [if_pos hx]; exact bytes_whole n s x w hN hx
    · rw [if_neg hx] at h ⊢
      by_cases h40 : 40 < (s.size : Int) + x
      · rw [if_pos h40]; exact bytes_limit n s x w hN (by omega) h40
      · rw [if_neg h40] at h; exact absurd rfl h
theorem bytes_yes {n : Bool} {s : ByteArray} {x : Int} (h : bytesE n s x = 0) : isN n s x = true ∧ 0 ≤ x ∧ (s.size : Int) + x ≤ 40 := by
  unfold bytesE at h
  cases hN : isN n s x
  · rw [hN] at h; simp at h
  · rw [hN] at h
    simp only [if_true] at h
    split at h
    · exact absurd h (by decide)
    · split at h
      · exact absurd h (by decide)
      · exact ⟨rfl, by omega, by omega⟩
end Go.Proofs.YtjpdlibncmldlaaDoor
/- calamuslaw01.NumRound: walked. -/
namespace Go.Proofs.YtjpdlibncmldlaaDoor
open Go.RowKit
set_option linter.unusedSimpArgs false
set_option linter.unusedVariables false
/-- The struct of the call's own. -/
structure Un1 (w : World) (n : Bool) (s : ByteArray) (x : Int) (W : World) : Prop where
  below : Below w.heap.size w W
  box : Box W w.heap.size n s x
theorem Un1.then {w : World} {n : Bool} {s : ByteArray} {x : Int} {W W1 : World} (h : Un1 w n s x W) (hb : Below W.heap.size W W1) : Un1 w n s x W1 := ⟨below_then h.below hb, h.box.below hb h.box.lt⟩
theorem un1_new (w : World) (n : Bool) (s : ByteArray) (x : Int) : Un1 w n s x (w.alloc (.cells #[.bool n, .string s, .int .i64 x] 23)) := ⟨below_al (Below.refl _ _), box_new w n s x⟩
/-- Bytes of the call's own, as Of wants them. -/
theorem Own.sb8 {W : World} {B : Nat} {v : Value} {P : List Nat} (h : Own W B v (trimB P)) (hP : Bts P) : SB8 W v (P.drop (lz P)) := by
  have htl : (trimB P).length = (P.drop (lz P)).length := by unfold trimB; rw [List.length_map]
  have hc := h
  obtain ⟨h0, h⟩ := h
  rcases h with ⟨rfl, hn⟩ | ⟨g, cap, cur, rfl, hg, hh, h1, h2, h3, h4⟩
  · exact Or.inl ⟨none, 0, rfl, List.eq_nil_of_length_eq_zero (by rw [← htl]; exact hn)⟩
  · rcases Nat.eq_zero_or_pos (P.drop (lz P)).length with e | e
    · exact Or.inl ⟨some ⟨g, 0, none⟩, cap, by rw [htl, e], List.eq_nil_of_length_eq_zero e⟩
    · have hgl : g < W.heap.size := (Array.getElem?_eq_some_iff.1 hh).1
      have hcells : ∀ j u, (bcs (trimB P))[j]? = some u → W.cell? ((⟨g, 0, none⟩ : Addr).add j) = some u := World.ownsRow.cells hc (g := g) rfl
      refine Or.inr ⟨g, 0, cap, by rw [htl], e, by omega, h2, hgl, fun i hi => ?_⟩
      have e1 : (⟨g, 0, none⟩ : Addr).add i = ⟨g, 0 + i, none⟩ := by unfold Addr.add; split <;> simp_all
      have := hcells i (.int .u8 ((trimB P)[i]'(by rw [htl]; exact hi)).toNat) (by simp [bcs, List.getElem?_eq_getElem (show i < (trimB P).length by rw [htl]; exact hi)])
      rw [e1] at this
      rw [this]
      congr 2
      have h255 := hP _ (List.mem_of_mem_drop (List.getElem_mem hi))
      simp only [trimB, List.getElem_map]
      rw [UInt8.toNat_ofNat']
      omega
theorem Bts.drop {P : List Nat} (h : Bts P) (k : Nat) : Bts (P.drop k) := fun d hd => h d (List.mem_of_mem_drop hd)
/-- What the bytes of a number are worth is that number alone. -/
theorem back_is {n : Bool} {s : ByteArray} {x : Int} (h : isN n s x = true) (hx : 0 ≤ x) {V : Nat} (hV : V = val (dg s) * 10 ^ x.toNat) {r : Bool × ByteArray × Int × Int} (hr : ∀ m, m = 400 → IsSum (Zof n V m) r) : r = (n, s, x, 0) := by
  obtain ⟨m, hm⟩ : ∃ m, m = 400 := ⟨_, rfl⟩
  refine isSum_unique (hr m hm) (Or.inl ⟨rfl, h, ?_⟩)
  show Zv n s x = Zof n V m
  have e : mag s x = V * 10 ^ m := by
    unfold mag
    rw [hV, Nat.mul_assoc, ← Nat.pow_add]
    congr 2
    omega
  unfold Zv Zof
  rw [e]
theorem trimB_head (P : List Nat) (hB : Bts P) (hl : 0 < (trimB P).length) : ((trimB P)[0]).toNat ≠ 0 := by
  have htl : (trimB P).length = (P.drop (lz P)).length := by unfold trimB; rw [List.length_map]
  have hlz : lz P < P.length := by rw [htl, List.length_drop] at hl; omega
  have := lz_ne P hlz
  have h255 := hB _ (List.getElem_mem hlz)
  simp only [trimB, List.getElem_map, List.getElem_drop, Nat.add_zero]
  rw [UInt8.toNat_ofNat']
  omega
theorem parse_len (n : Bool) (s : ByteArray) (x : Int) (h : isN n s x = true) : (printL n (bl s) x).length ≤ 512 := by
  rcases Nat.lt_or_ge 512 (printL n (bl s) x).length with hl | hl
  · have e := parse_print n s x h
    unfold parseF at e
    cases hs : splitL (printL n (bl s) x) with
    | none => rw [hs] at e; simp only [Prod.mk.injEq] at e; exact absurd e.2.2.2 (by decide)
    | some r =>
      obtain ⟨a, b, c, d, f⟩ := r
      rw [hs] at e
      simp only at e
      rw [if_pos hl] at e
      simp only [Prod.mk.injEq] at e
      exact absurd e.2.2.2 (by decide)
  · exact hl
set_option maxHeartbeats 2000000 in
set_option maxRecDepth 100000 in
theorem round_aok (t : ByteArray) (n : Bool) (s : ByteArray) (x : Int) (w : World) (hT : Tab w.heap.size w) (hA : decide (4096 < s.size) = false) (hs : s.size ≤ maxLen) (st : t.size ≤ 4096) (pb : Bool) (ps : ByteArray) (px pe : Int) (hPt : parseF (bl t) = (pb, ps, px, pe)) (hN : isN n s x = false) (hbe : bytesE n s x ≠ 0) (hpe : pe = 0) :
    Calls Tryd.prog 6 #[.agg #[.bool n, .string s, .int .i64 x], .string t] w fun e w' => e = .returned (.bool true) ∧ Below w.heap.size w w' := by
  have ml : maxLen = 2 ^ 63 - 1 := rfl
  have hT := hide hT
  have hPt := hide hPt
  have sa : s.size ≤ 4096 := by have := of_decide_eq_false hA; omega
  have U0 := hide (un1_new w n s x)
  subst hpe
  have hpN := hide (parseF_isN hPt.out)
  go_enter Tryd.func6, Tryd.ntmps6
  go_wp2_with fail
  refine (big_any n s x _ _ hA hs).mono ?_
  rintro e w1 ⟨rfl, hb1⟩
  have U1 := hide (U0.out.then hb1)
  clear hb1
  obtain ⟨c0, c1, c2, f0, f1, f2⟩ := U1.out.box.cells
  have hT1 : Hid (Tab _ _) := Tab.up (Lib.TabBelow.on hT.out U1.out.below) U1.out.below.size
  go_wp2_with fail
  refine (print_no n s x _ (by omega) hN).mono ?_
  rintro e w2 ⟨rfl, hb2⟩
  have U2 := hide (U1.out.then hb2)
  clear hb2 c0 c1 c2 f0 f1 f2
  obtain ⟨c0, c1, c2, f0, f1, f2⟩ := U2.out.box.cells
  go_wp2_with fail
  refine (bytes_no n s x _ (by omega) hbe).mono ?_
  rintro e w5 ⟨rfl, hb5⟩
  have U5 := hide (U2.out.then hb5)
  clear hb5 c0 c1 c2 f0 f1 f2
  have hbe' : decide (bytesE n s x = 0) = false := decide_eq_false hbe
  have hbe2 : (bytesE n s x == 0) = false := by rw [beq_eq_false_iff_ne]; exact hbe
  obtain ⟨bE, hbE⟩ : ∃ bE, bytesE n s x = bE := ⟨_, rfl⟩
  rw [hbE] at hbe' hbe2 ⊢
  clear hbE hbe
  go_wp2_with fail
  refine (parse_any t _ (by omega)).mono ?_
  rintro e w8 ⟨rfl, hb8⟩
  rw [hPt.out]
  simp only [retF]
  have U8 := hide (U5.out.then hb8)
  clear hb8
  have U9 := hide (U8.out.then (below_al (o := .cells #[.bool pb, .string ps, .int .i64 px] 23) (Below.refl w8.heap.size w8)))
  have X9 := hide (box_new w8 pb ps px)
  go_wp2_with fail
  refine (awake_any _).mono ?_
  rintro e v0 ⟨rfl, hb0⟩
  have U10 := hide (U9.out.then hb0)
  have X10 := hide (X9.out.below hb0 X9.out.lt)
  clear hb0
  obtain ⟨k0, k1, k2, _, _, _⟩ := X10.out.cells
  go_wp2_with fail
  refine (check_ok pb ps px _ (by have := (isN_all hpN.out).2.2.1; omega) hpN.out).mono ?_
  rintro e v1 ⟨rfl, hb11⟩
  have U11 := hide (U10.out.then hb11)
  clear hb11
  go_wp2
  go_ret
  exact ⟨rfl, U11.out.below⟩
set_option maxHeartbeats 2000000 in
set_option maxRecDepth 100000 in
theorem round_bok (t : ByteArray) (n : Bool) (s : ByteArray) (x : Int) (w : World) (hT : Tab w.heap.size w) (hA : decide (4096 < s.size) = false) (hs : s.size ≤ maxLen) (st : t.size ≤ 4096) (pb : Bool) (ps : ByteArray) (px pe : Int) (hPt : parseF (bl t) = (pb, ps, px, pe)) (hN : isN n s x = true) (hbe : bytesE n s x ≠ 0) (hpe : pe = 0) :
    Calls Tryd.prog 6 #[.agg #[.bool n, .string s, .int .i64 x], .string t] w fun e w' => e = .returned (.bool true) ∧ Below w.heap.size w w' := by
  have ml : maxLen = 2 ^ 63 - 1 := rfl
  have hT := hide hT
  have hPt := hide hPt
  have sa : s.size ≤ 4096 := by have := of_decide_eq_false hA; omega
  have U0 := hide (un1_new w n s x)
  subst hpe
  have hpN := hide (parseF_isN hPt.out)
  have hPP := hide (parse_print n s x hN)
  have hpl : (printL n (bl s) x).length ≤ 100000 := by
    obtain ⟨_, h1, h2, h3, h4, _⟩ := isN_all hN
    have := parse_len n s x hN
    omega
  go_enter Tryd.func6, Tryd.ntmps6
  go_wp2_with fail
  refine (big_any n s x _ _ hA hs).mono ?_
  rintro e w1 ⟨rfl, hb1⟩
  have U1 := hide (U0.out.then hb1)
  clear hb1
  obtain ⟨c0, c1, c2, f0, f1, f2⟩ := U1.out.box.cells
  have hT1 : Hid (Tab _ _) := Tab.up (Lib.TabBelow.on hT.out U1.out.below) U1.out.below.size
  go_wp2_with fail
  refine (print_any n s x _ hN hT1.out).mono ?_
  rintro e w2 ⟨rfl, hb2⟩
  have U2a := hide (U1.out.then hb2)
  clear hb2 c0 c1 c2 f0 f1 f2
  go_wp2_with fail
  refine (parse_any _ _ (by rw [mkB_size]; exact hpl)).mono ?_
  rintro e w3 ⟨rfl, hb3⟩
  rw [bl_mkB, hPP.out]
  have U3 := hide (U2a.out.then hb3)
  clear hb3
  simp only [retF]
  have U4 := hide (U3.out.then (below_al (o := .cells #[.bool n, .string s, .int .i64 x] 23) (Below.refl w3.heap.size w3)))
  have X4 := hide (box_new w3 n s x)
  obtain ⟨c0, c1, c2, f0, f1, f2⟩ := U4.out.box.cells
  obtain ⟨q0, q1, q2, _, _, _⟩ := X4.out.cells
  go_wp2_with fail
  refine (bytes_no n s x _ (by omega) hbe).mono ?_
  rintro e w5 ⟨rfl, hb5⟩
  have U5 := hide (U4.out.then hb5)
  clear hb5 c0 c1 c2 f0 f1 f2
  have hbe' : decide (bytesE n s x = 0) = false := decide_eq_false hbe
  have hbe2 : (bytesE n s x == 0) = false := by rw [beq_eq_false_iff_ne]; exact hbe
  obtain ⟨bE, hbE⟩ : ∃ bE, bytesE n s x = bE := ⟨_, rfl⟩
  rw [hbE] at hbe' hbe2 ⊢
  clear hbE hbe
  go_wp2_with fail
  refine (parse_any t _ (by omega)).mono ?_
  rintro e w8 ⟨rfl, hb8⟩
  rw [hPt.out]
  simp only [retF]
  have U8 := hide (U5.out.then hb8)
  clear hb8
  have U9 := hide (U8.out.then (below_al (o := .cells #[.bool pb, .string ps, .int .i64 px] 23) (Below.refl w8.heap.size w8)))
  have X9 := hide (box_new w8 pb ps px)
  go_wp2_with fail
  refine (awake_any _).mono ?_
  rintro e v0 ⟨rfl, hb0⟩
  have U10 := hide (U9.out.then hb0)
  have X10 := hide (X9.out.below hb0 X9.out.lt)
  clear hb0
  obtain ⟨k0, k1, k2, _, _, _⟩ := X10.out.cells
  go_wp2_with fail
  refine (check_ok pb ps px _ (by have := (isN_all hpN.out).2.2.1; omega) hpN.out).mono ?_
  rintro e v1 ⟨rfl, hb11⟩
  have U11 := hide (U10.out.then hb11)
  clear hb11
  go_wp2
  go_ret
  exact ⟨rfl, U11.out.below⟩
set_option maxHeartbeats 2000000 in
set_option maxRecDepth 100000 in
theorem round_cok (t : ByteArray) (n : Bool) (s : ByteArray) (x : Int) (w : World) (hT : Tab w.heap.size w) (hA : decide (4096 < s.size) = false) (hs : s.size ≤ maxLen) (st : t.size ≤ 4096) (pb : Bool) (ps : ByteArray) (px pe : Int) (hPt : parseF (bl t) = (pb, ps, px, pe)) (hN : isN n s x = true) (hx0 : 0 ≤ x) (hsx : (s.size : Int) + x ≤ 40) (hpe : pe = 0) :
    Calls Tryd.prog 6 #[.agg #[.bool n, .string s, .int .i64 x], .string t] w fun e w' => e = .returned (.bool true) ∧ Below w.heap.size w w' := by
  have ml : maxLen = 2 ^ 63 - 1 := rfl
  have hT := hide hT
  have hPt := hide hPt
  have sa : s.size ≤ 4096 := by have := of_decide_eq_false hA; omega
  have U0 := hide (un1_new w n s x)
  subst hpe
  have hpN := hide (parseF_isN hPt.out)
  have hPP := hide (parse_print n s x hN)
  have hpl : (printL n (bl s) x).length ≤ 100000 := by
    obtain ⟨_, h1, h2, h3, h4, _⟩ := isN_all hN
    have := parse_len n s x hN
    omega
  go_enter Tryd.func6, Tryd.ntmps6
  go_wp2_with fail
  refine (big_any n s x _ _ hA hs).mono ?_
  rintro e w1 ⟨rfl, hb1⟩
  have U1 := hide (U0.out.then hb1)
  clear hb1
  obtain ⟨c0, c1, c2, f0, f1, f2⟩ := U1.out.box.cells
  have hT1 : Hid (Tab _ _) := Tab.up (Lib.TabBelow.on hT.out U1.out.below) U1.out.below.size
  go_wp2_with fail
  refine (print_any n s x _ hN hT1.out).mono ?_
  rintro e w2 ⟨rfl, hb2⟩
  have U2a := hide (U1.out.then hb2)
  clear hb2 c0 c1 c2 f0 f1 f2
  go_wp2_with fail
  refine (parse_any _ _ (by rw [mkB_size]; exact hpl)).mono ?_
  rintro e w3 ⟨rfl, hb3⟩
  rw [bl_mkB, hPP.out]
  have U3 := hide (U2a.out.then hb3)
  clear hb3
  simp only [retF]
  have U4 := hide (U3.out.then (below_al (o := .cells #[.bool n, .string s, .int .i64 x] 23) (Below.refl w3.heap.size w3)))
  have X4 := hide (box_new w3 n s x)
  obtain ⟨c0, c1, c2, f0, f1, f2⟩ := U4.out.box.cells
  obtain ⟨q0, q1, q2, _, _, _⟩ := X4.out.cells
  go_wp2_with fail
  refine (bytes_ok n s x _ hN hx0 (by omega)).mono ?_
  rintro e w5 ⟨v5, P, rfl, hP, hO5, hb5⟩
  have U5a := hide (U4.out.then hb5.out)
  clear hb5 c0 c1 c2 f0 f1 f2
  have S5 := hide (hO5.out.sb8 hP.out.2.1)
  obtain ⟨c0, c1, c2, f0, f1, f2⟩ := U5a.out.box.cells
  have hlen : ∃ aa cc, v5 = .slice aa (trimB P).length cc := by
    obtain ⟨_, h⟩ := hO5.out
    rcases h with ⟨rfl, hn⟩ | ⟨g, cap, cur, rfl, _⟩
    · exact ⟨none, 0, by rw [hn]⟩
    · exact ⟨some ⟨g, 0, none⟩, cap, rfl⟩
  go_wp2_with fail
  refine (of_any n v5 (P.drop (lz P)) _ S5.out (hP.out.2.1.drop _)).mono ?_
  rintro e w6 ⟨r, rfl, hr, hb6⟩
  obtain rfl := back_is hN hx0 (by rw [← v256_lz]; exact hP.out.2.2) hr.out
  clear hr
  simp only [retF]
  have U6 := hide (U5a.out.then hb6)
  have O6 := hide (hO5.out.sb8 hP.out.2.1)
  have hcell0 : ∀ h : 0 < (trimB P).length, ∃ g cc, v5 = .slice (some ⟨g, 0, none⟩) (trimB P).length cc ∧ g < w5.heap.size ∧ w5.cell? ⟨g, 0, none⟩ = some (.int .u8 ((trimB P)[0]).toNat) := by
    intro h
    have hc := hO5.out
    obtain ⟨_, h'⟩ := hO5.out
    rcases h' with ⟨rfl, hn⟩ | ⟨g, cap, cur, rfl, hg, hh, h1, h2, h3, h4⟩
    · omega
    · refine ⟨g, cap, rfl, (Array.getElem?_eq_some_iff.1 hh).1, ?_⟩
      have hcells : ∀ j u, (bcs (trimB P))[j]? = some u → w5.cell? ((⟨g, 0, none⟩ : Addr).add j) = some u := World.ownsRow.cells hc (g := g) rfl
      have := hcells 0 (.int .u8 ((trimB P)[0]).toNat) (by simp [bcs, List.getElem?_eq_getElem h])
      simpa [Addr.add] using this
  have hhd : ∀ h : 0 < (trimB P).length, ((trimB P)[0]).toNat ≠ 0 := trimB_head P hP.out.2.1
  have U7 := hide (U6.out.then (below_al (o := .cells #[.bool n, .string s, .int .i64 x] 23) (Below.refl w6.heap.size w6)))
  have X7 := hide (box_new w6 n s x)
  clear c0 c1 c2 f0 f1 f2
  obtain ⟨c0, c1, c2, f0, f1, f2⟩ := U7.out.box.cells
  obtain ⟨q0, q1, q2, _, _, _⟩ := X7.out.cells
  have U5 := hide U7.out
  rcases Nat.eq_zero_or_pos (trimB P).length with hz | hz
  · obtain ⟨aa, cc, rfl⟩ := hlen
    rw [hz]
    clear hcell0 hhd S5 O6 hO5 hP
    go_wp2_with fail
    refine (parse_any t _ (by omega)).mono ?_
    rintro e w8 ⟨rfl, hb8⟩
    rw [hPt.out]
    simp only [retF]
    have U8 := hide (U5.out.then hb8)
    clear hb8
    have U9 := hide (U8.out.then (below_al (o := .cells #[.bool pb, .string ps, .int .i64 px] 23) (Below.refl w8.heap.size w8)))
    have X9 := hide (box_new w8 pb ps px)
    go_wp2_with fail
    refine (awake_any _).mono ?_
    rintro e v0 ⟨rfl, hb0⟩
    have U10 := hide (U9.out.then hb0)
    have X10 := hide (X9.out.below hb0 X9.out.lt)
    clear hb0
    obtain ⟨k0, k1, k2, _, _, _⟩ := X10.out.cells
    go_wp2_with fail
    refine (check_ok pb ps px _ (by have := (isN_all hpN.out).2.2.1; omega) hpN.out).mono ?_
    rintro e v1 ⟨rfl, hb11⟩
    have U11 := hide (U10.out.then hb11)
    clear hb11
    go_wp2
    go_ret
    exact ⟨rfl, U11.out.below⟩
  · obtain ⟨g, cc, hv5, hgl, hcg⟩ := hcell0 hz
    have hh0 := hhd hz
    subst hv5
    obtain ⟨c00, hc00⟩ : ∃ c00, ((trimB P)[0]).toNat = c00 := ⟨_, rfl⟩
    obtain ⟨L, hL⟩ : ∃ L, (trimB P).length = L := ⟨_, rfl⟩
    rw [hc00] at hcg hh0
    rw [hL] at hz ⊢
    have hcg7 : ∀ o, (w6.alloc o).cell? ⟨g, 0, none⟩ = some (.int .u8 c00) := fun o => ((below_al (o := o) (Below.refl w6.heap.size w6)).cell (p := ⟨g, 0, none⟩) (Nat.lt_of_lt_of_le hgl hb6.size)).trans ((hb6.cell (p := ⟨g, 0, none⟩) hgl).trans hcg)
    have hc0 : ((c00 : Int) == 0) = false := by rw [beq_eq_false_iff_ne]; omega
    have hc0' : decide ((c00 : Int) = 0) = false := decide_eq_false (by omega)
    have hzi : (0 : Int) < (L : Int) := by omega
    clear hcell0 hhd S5 O6 hO5 hP hlen hc00
    go_wp2_with fail
    refine (parse_any t _ (by omega)).mono ?_
    rintro e w8 ⟨rfl, hb8⟩
    rw [hPt.out]
    simp only [retF]
    have U8 := hide (U5.out.then hb8)
    clear hb8
    have U9 := hide (U8.out.then (below_al (o := .cells #[.bool pb, .string ps, .int .i64 px] 23) (Below.refl w8.heap.size w8)))
    have X9 := hide (box_new w8 pb ps px)
    go_wp2_with fail
    refine (awake_any _).mono ?_
    rintro e v0 ⟨rfl, hb0⟩
    have U10 := hide (U9.out.then hb0)
    have X10 := hide (X9.out.below hb0 X9.out.lt)
    clear hb0
    obtain ⟨k0, k1, k2, _, _, _⟩ := X10.out.cells
    go_wp2_with fail
    refine (check_ok pb ps px _ (by have := (isN_all hpN.out).2.2.1; omega) hpN.out).mono ?_
    rintro e v1 ⟨rfl, hb11⟩
    have U11 := hide (U10.out.then hb11)
    clear hb11
    go_wp2
    go_ret
    exact ⟨rfl, U11.out.below⟩
set_option maxHeartbeats 2000000 in
set_option maxRecDepth 100000 in
theorem round_ano (t : ByteArray) (n : Bool) (s : ByteArray) (x : Int) (w : World) (hT : Tab w.heap.size w) (hA : decide (4096 < s.size) = false) (hs : s.size ≤ maxLen) (st : t.size ≤ 4096) (pb : Bool) (ps : ByteArray) (px pe : Int) (hPt : parseF (bl t) = (pb, ps, px, pe)) (hN : isN n s x = false) (hbe : bytesE n s x ≠ 0) (hpe : pe ≠ 0) :
    Calls Tryd.prog 6 #[.agg #[.bool n, .string s, .int .i64 x], .string t] w fun e w' => e = .returned (.bool true) ∧ Below w.heap.size w w' := by
  have ml : maxLen = 2 ^ 63 - 1 := rfl
  have hT := hide hT
  have hPt := hide hPt
  have sa : s.size ≤ 4096 := by have := of_decide_eq_false hA; omega
  have U0 := hide (un1_new w n s x)
  have hpe1 : (pe == 0) = false := by rw [beq_eq_false_iff_ne]; exact hpe
  have hpe2 : decide (pe = 0) = false := decide_eq_false hpe
  go_enter Tryd.func6, Tryd.ntmps6
  go_wp2_with fail
  refine (big_any n s x _ _ hA hs).mono ?_
  rintro e w1 ⟨rfl, hb1⟩
  have U1 := hide (U0.out.then hb1)
  clear hb1
  obtain ⟨c0, c1, c2, f0, f1, f2⟩ := U1.out.box.cells
  have hT1 : Hid (Tab _ _) := Tab.up (Lib.TabBelow.on hT.out U1.out.below) U1.out.below.size
  go_wp2_with fail
  refine (print_no n s x _ (by omega) hN).mono ?_
  rintro e w2 ⟨rfl, hb2⟩
  have U2 := hide (U1.out.then hb2)
  clear hb2 c0 c1 c2 f0 f1 f2
  obtain ⟨c0, c1, c2, f0, f1, f2⟩ := U2.out.box.cells
  go_wp2_with fail
  refine (bytes_no n s x _ (by omega) hbe).mono ?_
  rintro e w5 ⟨rfl, hb5⟩
  have U5 := hide (U2.out.then hb5)
  clear hb5 c0 c1 c2 f0 f1 f2
  have hbe' : decide (bytesE n s x = 0) = false := decide_eq_false hbe
  have hbe2 : (bytesE n s x == 0) = false := by rw [beq_eq_false_iff_ne]; exact hbe
  obtain ⟨bE, hbE⟩ : ∃ bE, bytesE n s x = bE := ⟨_, rfl⟩
  rw [hbE] at hbe' hbe2 ⊢
  clear hbE hbe
  go_wp2_with fail
  refine (parse_any t _ (by omega)).mono ?_
  rintro e w8 ⟨rfl, hb8⟩
  rw [hPt.out]
  simp only [retF]
  have U8 := hide (U5.out.then hb8)
  clear hb8
  have U9 := hide (U8.out.then (below_al (o := .cells #[.bool pb, .string ps, .int .i64 px] 23) (Below.refl w8.heap.size w8)))
  have X9 := hide (box_new w8 pb ps px)
  go_wp2_with fail
  refine (awake_any _).mono ?_
  rintro e v0 ⟨rfl, hb0⟩
  have U10 := hide (U9.out.then hb0)
  have X10 := hide (X9.out.below hb0 X9.out.lt)
  clear hb0
  obtain ⟨k0, k1, k2, _, _, _⟩ := X10.out.cells
  go_wp2
  go_ret
  exact ⟨rfl, U10.out.below⟩
set_option maxHeartbeats 2000000 in
set_option maxRecDepth 100000 in
theorem round_bno (t : ByteArray) (n : Bool) (s : ByteArray) (x : Int) (w : World) (hT : Tab w.heap.size w) (hA : decide (4096 < s.size) = false) (hs : s.size ≤ maxLen) (st : t.size ≤ 4096) (pb : Bool) (ps : ByteArray) (px pe : Int) (hPt : parseF (bl t) = (pb, ps, px, pe)) (hN : isN n s x = true) (hbe : bytesE n s x ≠ 0) (hpe : pe ≠ 0) :
    Calls Tryd.prog 6 #[.agg #[.bool n, .string s, .int .i64 x], .string t] w fun e w' => e = .returned (.bool true) ∧ Below w.heap.size w w' := by
  have ml : maxLen = 2 ^ 63 - 1 := rfl
  have hT := hide hT
  have hPt := hide hPt
  have sa : s.size ≤ 4096 := by have := of_decide_eq_false hA; omega
  have U0 := hide (un1_new w n s x)
  have hpe1 : (pe == 0) = false := by rw [beq_eq_false_iff_ne]; exact hpe
  have hpe2 : decide (pe = 0) = false := decide_eq_false hpe
  have hPP := hide (parse_print n s x hN)
  have hpl : (printL n (bl s) x).length ≤ 100000 := by
    obtain ⟨_, h1, h2, h3, h4, _⟩ := isN_all hN
    have := parse_len n s x hN
    omega
  go_enter Tryd.func6, Tryd.ntmps6
  go_wp2_with fail
  refine (big_any n s x _ _ hA hs).mono ?_
  rintro e w1 ⟨rfl, hb1⟩
  have U1 := hide (U0.out.then hb1)
  clear hb1
  obtain ⟨c0, c1, c2, f0, f1, f2⟩ := U1.out.box.cells
  have hT1 : Hid (Tab _ _) := Tab.up (Lib.TabBelow.on hT.out U1.out.below) U1.out.below.size
  go_wp2_with fail
  refine (print_any n s x _ hN hT1.out).mono ?_
  rintro e w2 ⟨rfl, hb2⟩
  have U2a := hide (U1.out.then hb2)
  clear hb2 c0 c1 c2 f0 f1 f2
  go_wp2_with fail
  refine (parse_any _ _ (by rw [mkB_size]; exact hpl)).mono ?_
  rintro e w3 ⟨rfl, hb3⟩
  rw [bl_mkB, hPP.out]
  have U3 := hide (U2a.out.then hb3)
  clear hb3
  simp only [retF]
  have U4 := hide (U3.out.then (below_al (o := .cells #[.bool n, .string s, .int .i64 x] 23) (Below.refl w3.heap.size w3)))
  have X4 := hide (box_new w3 n s x)
  obtain ⟨c0, c1, c2, f0, f1, f2⟩ := U4.out.box.cells
  obtain ⟨q0, q1, q2, _, _, _⟩ := X4.out.cells
  go_wp2_with fail
  refine (bytes_no n s x _ (by omega) hbe).mono ?_
  rintro e w5 ⟨rfl, hb5⟩
  have U5 := hide (U4.out.then hb5)
  clear hb5 c0 c1 c2 f0 f1 f2
  have hbe' : decide (bytesE n s x = 0) = false := decide_eq_false hbe
  have hbe2 : (bytesE n s x == 0) = false := by rw [beq_eq_false_iff_ne]; exact hbe
  obtain ⟨bE, hbE⟩ : ∃ bE, bytesE n s x = bE := ⟨_, rfl⟩
  rw [hbE] at hbe' hbe2 ⊢
  clear hbE hbe
  go_wp2_with fail
  refine (parse_any t _ (by omega)).mono ?_
  rintro e w8 ⟨rfl, hb8⟩
  rw [hPt.out]
  simp only [retF]
  have U8 := hide (U5.out.then hb8)
  clear hb8
  have U9 := hide (U8.out.then (below_al (o := .cells #[.bool pb, .string ps, .int .i64 px] 23) (Below.refl w8.heap.size w8)))
  have X9 := hide (box_new w8 pb ps px)
  go_wp2_with fail
  refine (awake_any _).mono ?_
  rintro e v0 ⟨rfl, hb0⟩
  have U10 := hide (U9.out.then hb0)
  have X10 := hide (X9.out.below hb0 X9.out.lt)
  clear hb0
  obtain ⟨k0, k1, k2, _, _, _⟩ := X10.out.cells
  go_wp2
  go_ret
  exact ⟨rfl, U10.out.below⟩
set_option maxHeartbeats 2000000 in
set_option maxRecDepth 100000 in
theorem round_cno (t : ByteArray) (n : Bool) (s : ByteArray) (x : Int) (w : World) (hT : Tab w.heap.size w) (hA : decide (4096 < s.size) = false) (hs : s.size ≤ maxLen) (st : t.size ≤ 4096) (pb : Bool) (ps : ByteArray) (px pe : Int) (hPt : parseF (bl t) = (pb, ps, px, pe)) (hN : isN n s x = true) (hx0 : 0 ≤ x) (hsx : (s.size : Int) + x ≤ 40) (hpe : pe ≠ 0) :
    Calls Tryd.prog 6 #[.agg #[.bool n, .string s, .int .i64 x], .string t] w fun e w' => e = .returned (.bool true) ∧ Below w.heap.size w w' := by
  have ml : maxLen = 2 ^ 63 - 1 := rfl
  have hT := hide hT
  have hPt := hide hPt
  have sa : s.size ≤ 4096 := by have := of_decide_eq_false hA; omega
  have U0 := hide (un1_new w n s x)
  have hpe1 : (pe == 0) = false := by rw [beq_eq_false_iff_ne]; exact hpe
  have hpe2 : decide (pe = 0) = false := decide_eq_false hpe
  have hPP := hide (parse_print n s x hN)
  have hpl : (printL n (bl s) x).length ≤ 100000 := by
    obtain ⟨_, h1, h2, h3, h4, _⟩ := isN_all hN
    have := parse_len n s x hN
    omega
  go_enter Tryd.func6, Tryd.ntmps6
  go_wp2_with fail
  refine (big_any n s x _ _ hA hs).mono ?_
  rintro e w1 ⟨rfl, hb1⟩
  have U1 := hide (U0.out.then hb1)
  clear hb1
  obtain ⟨c0, c1, c2, f0, f1, f2⟩ := U1.out.box.cells
  have hT1 : Hid (Tab _ _) := Tab.up (Lib.TabBelow.on hT.out U1.out.below) U1.out.below.size
  go_wp2_with fail
  refine (print_any n s x _ hN hT1.out).mono ?_
  rintro e w2 ⟨rfl, hb2⟩
  have U2a := hide (U1.out.then hb2)
  clear hb2 c0 c1 c2 f0 f1 f2
  go_wp2_with fail
  refine (parse_any _ _ (by rw [mkB_size]; exact hpl)).mono ?_
  rintro e w3 ⟨rfl, hb3⟩
  rw [bl_mkB, hPP.out]
  have U3 := hide (U2a.out.then hb3)
  clear hb3
  simp only [retF]
  have U4 := hide (U3.out.then (below_al (o := .cells #[.bool n, .string s, .int .i64 x] 23) (Below.refl w3.heap.size w3)))
  have X4 := hide (box_new w3 n s x)
  obtain ⟨c0, c1, c2, f0, f1, f2⟩ := U4.out.box.cells
  obtain ⟨q0, q1, q2, _, _, _⟩ := X4.out.cells
  go_wp2_with fail
  refine (bytes_ok n s x _ hN hx0 (by omega)).mono ?_
  rintro e w5 ⟨v5, P, rfl, hP, hO5, hb5⟩
  have U5a := hide (U4.out.then hb5.out)
  clear hb5 c0 c1 c2 f0 f1 f2
  have S5 := hide (hO5.out.sb8 hP.out.2.1)
  obtain ⟨c0, c1, c2, f0, f1, f2⟩ := U5a.out.box.cells
  have hlen : ∃ aa cc, v5 = .slice aa (trimB P).length cc := by
    obtain ⟨_, h⟩ := hO5.out
    rcases h with ⟨rfl, hn⟩ | ⟨g, cap, cur, rfl, _⟩
    · exact ⟨none, 0, by rw [hn]⟩
    · exact ⟨some ⟨g, 0, none⟩, cap, rfl⟩
  go_wp2_with fail
  refine (of_any n v5 (P.drop (lz P)) _ S5.out (hP.out.2.1.drop _)).mono ?_
  rintro e w6 ⟨r, rfl, hr, hb6⟩
  obtain rfl := back_is hN hx0 (by rw [← v256_lz]; exact hP.out.2.2) hr.out
  clear hr
  simp only [retF]
  have U6 := hide (U5a.out.then hb6)
  have O6 := hide (hO5.out.sb8 hP.out.2.1)
  have hcell0 : ∀ h : 0 < (trimB P).length, ∃ g cc, v5 = .slice (some ⟨g, 0, none⟩) (trimB P).length cc ∧ g < w5.heap.size ∧ w5.cell? ⟨g, 0, none⟩ = some (.int .u8 ((trimB P)[0]).toNat) := by
    intro h
    have hc := hO5.out
    obtain ⟨_, h'⟩ := hO5.out
    rcases h' with ⟨rfl, hn⟩ | ⟨g, cap, cur, rfl, hg, hh, h1, h2, h3, h4⟩
    · omega
    · refine ⟨g, cap, rfl, (Array.getElem?_eq_some_iff.1 hh).1, ?_⟩
      have hcells : ∀ j u, (bcs (trimB P))[j]? = some u → w5.cell? ((⟨g, 0, none⟩ : Addr).add j) = some u := World.ownsRow.cells hc (g := g) rfl
      have := hcells 0 (.int .u8 ((trimB P)[0]).toNat) (by simp [bcs, List.getElem?_eq_getElem h])
      simpa [Addr.add] using this
  have hhd : ∀ h : 0 < (trimB P).length, ((trimB P)[0]).toNat ≠ 0 := trimB_head P hP.out.2.1
  have U7 := hide (U6.out.then (below_al (o := .cells #[.bool n, .string s, .int .i64 x] 23) (Below.refl w6.heap.size w6)))
  have X7 := hide (box_new w6 n s x)
  clear c0 c1 c2 f0 f1 f2
  obtain ⟨c0, c1, c2, f0, f1, f2⟩ := U7.out.box.cells
  obtain ⟨q0, q1, q2, _, _, _⟩ := X7.out.cells
  have U5 := hide U7.out
  rcases Nat.eq_zero_or_pos (trimB P).length with hz | hz
  · obtain ⟨aa, cc, rfl⟩ := hlen
    rw [hz]
    clear hcell0 hhd S5 O6 hO5 hP
    go_wp2_with fail
    refine (parse_any t _ (by omega)).mono ?_
    rintro e w8 ⟨rfl, hb8⟩
    rw [hPt.out]
    simp only [retF]
    have U8 := hide (U5.out.then hb8)
    clear hb8
    have U9 := hide (U8.out.then (below_al (o := .cells #[.bool pb, .string ps, .int .i64 px] 23) (Below.refl w8.heap.size w8)))
    have X9 := hide (box_new w8 pb ps px)
    go_wp2_with fail
    refine (awake_any _).mono ?_
    rintro e v0 ⟨rfl, hb0⟩
    have U10 := hide (U9.out.then hb0)
    have X10 := hide (X9.out.below hb0 X9.out.lt)
    clear hb0
    obtain ⟨k0, k1, k2, _, _, _⟩ := X10.out.cells
    go_wp2
    go_ret
    exact ⟨rfl, U10.out.below⟩
  · obtain ⟨g, cc, hv5, hgl, hcg⟩ := hcell0 hz
    have hh0 := hhd hz
    subst hv5
    obtain ⟨c00, hc00⟩ : ∃ c00, ((trimB P)[0]).toNat = c00 := ⟨_, rfl⟩
    obtain ⟨L, hL⟩ : ∃ L, (trimB P).length = L := ⟨_, rfl⟩
    rw [hc00] at hcg hh0
    rw [hL] at hz ⊢
    have hcg7 : ∀ o, (w6.alloc o).cell? ⟨g, 0, none⟩ = some (.int .u8 c00) := fun o => ((below_al (o := o) (Below.refl w6.heap.size w6)).cell (p := ⟨g, 0, none⟩) (Nat.lt_of_lt_of_le hgl hb6.size)).trans ((hb6.cell (p := ⟨g, 0, none⟩) hgl).trans hcg)
    have hc0 : ((c00 : Int) == 0) = false := by rw [beq_eq_false_iff_ne]; omega
    have hc0' : decide ((c00 : Int) = 0) = false := decide_eq_false (by omega)
    have hzi : (0 : Int) < (L : Int) := by omega
    clear hcell0 hhd S5 O6 hO5 hP hlen hc00
    go_wp2_with fail
    refine (parse_any t _ (by omega)).mono ?_
    rintro e w8 ⟨rfl, hb8⟩
    rw [hPt.out]
    simp only [retF]
    have U8 := hide (U5.out.then hb8)
    clear hb8
    have U9 := hide (U8.out.then (below_al (o := .cells #[.bool pb, .string ps, .int .i64 px] 23) (Below.refl w8.heap.size w8)))
    have X9 := hide (box_new w8 pb ps px)
    go_wp2_with fail
    refine (awake_any _).mono ?_
    rintro e v0 ⟨rfl, hb0⟩
    have U10 := hide (U9.out.then hb0)
    have X10 := hide (X9.out.below hb0 X9.out.lt)
    clear hb0
    obtain ⟨k0, k1, k2, _, _, _⟩ := X10.out.cells
    go_wp2
    go_ret
    exact ⟨rfl, U10.out.below⟩
theorem round_any (n : Bool) (s : ByteArray) (x : Int) (t : ByteArray) (w : World) (hs : s.size ≤ maxLen) (htl : t.size ≤ maxLen) (hT : Tab w.heap.size w) :
    Calls Tryd.prog 6 #[.agg #[.bool n, .string s, .int .i64 x], .string t] w fun e w' => e = .returned (.bool true) ∧ Below w.heap.size w w' := by
  have ml : maxLen = 2 ^ 63 - 1 := rfl
  have U0 := hide (un1_new w n s x)
  cases hA : decide (4096 < s.size)
  · by_cases hlong : (4096 : Int) < (t.size : Int)
    · go_enter Tryd.func6, Tryd.ntmps6
      go_wp2_with fail
      refine (big_any n s x _ _ hA hs).mono ?_
      rintro e w1 ⟨rfl, hb1⟩
      go_wp2
      go_ret
      exact ⟨rfl, (U0.out.then hb1).below⟩
    · obtain ⟨pb, ps, px, pe, hp⟩ : ∃ pb ps px pe, parseF (bl t) = (pb, ps, px, pe) := ⟨_, _, _, _, rfl⟩
      have st : t.size ≤ 4096 := by omega
      by_cases hpe : pe = 0
      · cases hN : isN n s x
        · exact round_aok t n s x w hT hA hs st pb ps px pe hp hN (by unfold bytesE; rw [hN]; simp) hpe
        · by_cases hbe : bytesE n s x = 0
          · obtain ⟨_, h1, h2⟩ := bytes_yes hbe
            exact round_cok t n s x w hT hA hs st pb ps px pe hp hN h1 h2 hpe
          · exact round_bok t n s x w hT hA hs st pb ps px pe hp hN hbe hpe
      · cases hN : isN n s x
        · exact round_ano t n s x w hT hA hs st pb ps px pe hp hN (by unfold bytesE; rw [hN]; simp) hpe
        · by_cases hbe : bytesE n s x = 0
          · obtain ⟨_, h1, h2⟩ := bytes_yes hbe
            exact round_cno t n s x w hT hA hs st pb ps px pe hp hN h1 h2 hpe
          · exact round_bno t n s x w hT hA hs st pb ps px pe hp hN hbe hpe
  · go_enter Tryd.func6, Tryd.ntmps6
    go_wp2_with fail
    refine (big_any n s x _ _ hA hs).mono ?_
    rintro e w1 ⟨rfl, hb1⟩
    go_wp2
    go_ret
    exact ⟨rfl, (U0.out.then hb1).below⟩
end Go.Proofs.YtjpdlibncmldlaaDoor
