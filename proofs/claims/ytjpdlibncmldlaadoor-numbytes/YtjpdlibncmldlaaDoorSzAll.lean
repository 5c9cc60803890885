/- Merged by program: SpOf, SqOf, SrBytes, SaMath, SbBytes, ScSmall, SdOwn, SeMath, SfOf, SgLend, ShBytes, SiLaw. -/
import Derived.Test.YtjpdlibncmldlaaDoorOfBytes
import Derived.Test.YtjpdlibncmldlaaDoorQfMade
import Derived.Test.YtjpdlibncmldlaaDoorQdMath
import Derived.Test.YtjpdlibncmldlaaDoorQaRef
import Derived.Test.YtjpdlibncmldlaaDoorQbZeros
import Derived.Test.YtjpdlibncmldlaaDoorOaAppend
import Derived.Deep.RegionWith
import Derived.BigQuiet
import Derived.Laws.AppendOwnNone
import Derived.Test.YtjpdlibncmldlaaDoorNuSplit
import Derived.Laws.BytesArg
import Derived.Laws.IdiomStrings
import Derived.Deep.OwnRows
import Derived.Laws.CopyOwn
import Derived.Test.YtjpdlibncmldlaaDoorOjAdds
import Derived.Test.YtjpdlibncmldlaaDoorOiAwake
import Derived.Deep.RegionHeld3
/- num.scaleUp, num.Of: walked. -/
namespace Go.Proofs.YtjpdlibncmldlaaDoor
open Go.RowKit
set_option linter.unusedSimpArgs false
set_option linter.unusedVariables false
/-- Ahead of round k of scaleUp's first loop: the last k digits are done. -/
def UInv (P0 : List Nat) (c0 : Nat) (P : List Nat) (c k : Nat) : Prop :=
  P.length = 441 ∧ Dgs P ∧ c ≤ 255 ∧ P.take (441 - k) = P0.take (441 - k) ∧ val (P.drop (441 - k)) + c * 10 ^ k = val (P0.drop (441 - k)) * 256 + c0
theorem UInv.start {P0 : List Nat} (c0 : Nat) (h : P0.length = 441) (hb : Dgs P0) (hc : c0 ≤ 255) : UInv P0 c0 P0 c0 0 := by
  refine ⟨h, hb, hc, rfl, ?_⟩
  rw [Nat.sub_zero, List.drop_of_length_le (by omega)]; simp [val]
theorem UInv.step {P0 P : List Nat} {c0 c k : Nat} (h0 : P0.length = 441) (h : UInv P0 c0 P c k) (hk : k < 441) (q : Nat) (hq : P[440 - k]'(by have := h.1; omega) = q) :
    UInv P0 c0 (P.set (440 - k) ((c + q * 256) % 10)) ((c + q * 256) / 10) (k + 1) := by
  obtain ⟨h1, h2, h3, h4, h5⟩ := h
  have hq9 : q ≤ 9 := by rw [← hq]; exact h2 _ (List.getElem_mem _)
  have hq0 : P0[440 - k]'(by omega) = q := by rw [← hq]; exact (take_get h4 (by omega) (by omega) (by omega)).symm
  have hdrop : (P.set (440 - k) ((c + q * 256) % 10)).drop (441 - (k + 1)) = (c + q * 256) % 10 :: P.drop (441 - k) := by
    rw [show 441 - (k + 1) = 440 - k by omega, List.drop_eq_getElem_cons (by simp; omega), List.getElem_set_self, List.drop_set_of_lt (by omega), show 440 - k + 1 = 441 - k by omega]
  have hl : (P.drop (441 - k)).length = k := by rw [List.length_drop]; omega
  have hP0 : val (P0.drop (441 - (k + 1))) = P0[440 - k]'(by omega) * 10 ^ k + val (P0.drop (441 - k)) := val_drop_succ P0 441 k h0 hk
  refine ⟨by simpa using h1, ?_, by omega, ?_, ?_⟩
  · intro d hd
    rcases List.mem_or_eq_of_mem_set hd with h | h
    · exact h2 d h
    · omega
  · rw [show 441 - (k + 1) = 440 - k by omega, List.take_set_of_le (by omega)]
    exact take_less h4 (by omega)
  · rw [hdrop, val, hl, hP0, hq0, Nat.pow_succ]
    have e : (c + q * 256) % 10 + 10 * ((c + q * 256) / 10) = c + q * 256 := Nat.mod_add_div _ _
    have e' := congrArg (· * 10 ^ k) e
    simp only [Nat.add_mul, Nat.mul_assoc] at e'
    rw [show (c + q * 256) / 10 * (10 ^ k * 10) = 10 * ((c + q * 256) / 10 * 10 ^ k) by rw [← Nat.mul_assoc, Nat.mul_comm]]
    rw [show q * (256 * 10 ^ k) = 256 * (q * 10 ^ k) by rw [← Nat.mul_assoc, Nat.mul_comm q 256, Nat.mul_assoc]] at e'
    rw [Nat.add_mul]
    rw [show q * 10 ^ k * 256 = 256 * (q * 10 ^ k) by rw [Nat.mul_comm]]
    omega
/-- Ahead of a round of scaleUp's second loop. -/
def WInv (P0 : List Nat) (V : Nat) (P : List Nat) (c f : Nat) : Prop :=
  P.length = 441 ∧ Dgs P ∧ c ≤ 255 ∧ f ≤ 441 ∧ P.take f = P0.take f ∧ val (P.drop f) + c * 10 ^ (441 - f) = V
theorem WInv.step {P0 P : List Nat} {V c f : Nat} (h : WInv P0 V P c f) (hf : 0 < f) : WInv P0 V (P.set (f - 1) (c % 10)) (c / 10) (f - 1) := by
  obtain ⟨h1, h2, h3, h4, h5, h6⟩ := h
  have hdrop : (P.set (f - 1) (c % 10)).drop (f - 1) = c % 10 :: P.drop f := by
    rw [List.drop_eq_getElem_cons (by simp; omega), List.getElem_set_self, List.drop_set_of_lt (by omega), show f - 1 + 1 = f by omega]
  have hl : (P.drop f).length = 441 - f := by rw [List.length_drop]; omega
  refine ⟨by simpa using h1, ?_, by omega, by omega, ?_, ?_⟩
  · intro d hd
    rcases List.mem_or_eq_of_mem_set hd with h | h
    · exact h2 d h
    · omega
  · rw [List.take_set_of_le (by omega)]
    exact take_less h5 (by omega)
  · rw [hdrop, val, hl, show 441 - (f - 1) = (441 - f) + 1 by omega, Nat.pow_succ, ← h6]
    have e : c % 10 + 10 * (c / 10) = c := Nat.mod_add_div _ _
    have e' := congrArg (· * 10 ^ (441 - f)) e
    simp only [Nat.add_mul, Nat.mul_assoc] at e'
    rw [show c / 10 * (10 ^ (441 - f) * 10) = 10 * (c / 10 * 10 ^ (441 - f)) by rw [← Nat.mul_assoc, Nat.mul_comm]]
    omega
/-- A number of at most 441 digits. -/
def Fits (V : Nat) : Prop := ∀ m, m = 441 → V < 10 ^ m
theorem Fits.le {V U : Nat} (h : Fits V) (hU : U ≤ V) : Fits U := fun m hm => Nat.lt_of_le_of_lt hU (h m hm)
theorem fits_aux (x y z : Nat) (hx : x = 61) (hy : y = 147) (hz : z = 3) : 256 ^ (x * z) < 10 ^ (y * z) := by
  rw [Nat.pow_mul, Nat.pow_mul]
  exact Nat.pow_lt_pow_left (by subst hx hy; decide) (by omega)
theorem fits_bytes {V k : Nat} (hk : k ≤ 183) (h : V < 256 ^ k) : Fits V := by
  intro m hm
  obtain ⟨x, hx⟩ : ∃ x, x = 61 := ⟨_, rfl⟩
  obtain ⟨y, hy⟩ : ∃ y, y = 147 := ⟨_, rfl⟩
  obtain ⟨z, hz⟩ : ∃ z, z = 3 := ⟨_, rfl⟩
  have h2 := fits_aux x y z hx hy hz
  have h1 : (256 : Nat) ^ k ≤ 256 ^ (x * z) := Nat.pow_le_pow_right (by decide) (by subst hx hz; omega)
  have hmy : m = y * z := by subst hy hz; exact hm
  rw [hmy]
  exact Nat.lt_of_lt_of_le h (Nat.le_trans h1 (Nat.le_of_lt h2))
theorem WInv.more {P0 P : List Nat} {V c f : Nat} (h : WInv P0 V P c f) (hV : Fits V) (hc : 0 < c) : 0 < f := by
  obtain ⟨h1, h2, h3, h4, h5, h6⟩ := h
  rcases Nat.eq_zero_or_pos f with e | e
  · subst e
    obtain ⟨m, hm⟩ : ∃ m, m = 441 := ⟨_, rfl⟩
    have hV := hV m hm
    rw [show 441 - 0 = m by omega] at h6
    have : 1 * 10 ^ m ≤ c * 10 ^ m := Nat.mul_le_mul_right _ hc
    omega
  · exact e
theorem UInv.done {P0 P : List Nat} {c0 c f : Nat} (h : UInv P0 c0 P c (441 - f)) (hf : f ≤ 441) : WInv P0 (val (P0.drop f) * 256 + c0) P c f := by
  obtain ⟨h1, h2, h3, h4, h5⟩ := h
  rw [show 441 - (441 - f) = f by omega] at h4 h5
  exact ⟨h1, h2, h3, hf, h4, h5⟩
set_option maxHeartbeats 1000000 in
set_option maxRecDepth 100000 in
theorem scaleUp_any (b : Nat) (T : TypeId) (P0 : List Nat) (f0 c0 : Nat) (w : World) (hA : Arr w b T P0) (h0 : P0.length = 441) (hb0 : Dgs P0) (hf0 : f0 ≤ 441) (hc0 : c0 ≤ 255) (hV : Fits (val (P0.drop f0) * 256 + c0)) :
    Calls Tryd.prog 52 #[.slice (some ⟨b, 0, none⟩) 441 441, .int .i64 f0, .int .i64 c0] w fun e w' => ∃ (P : List Nat) (f : Nat), e = .returned (.int .i64 f) ∧ Hid (WInv P0 (val (P0.drop f0) * 256 + c0) P 0 f) ∧ Hid (Arr w' b T P) ∧ Hid (Only b w w') := by
  have hA := hide hA
  have hb0 := hide hb0
  have hV := hide hV
  have h0 := hide h0
  go_enter Tryd.func52, Tryd.ntmps52
  go_wp2
  go_loopw [2, 7] (fun c i w' => ∃ (P : List Nat) (ci k : Nat), c = .int .i64 ci ∧ i = .int .i64 (440 - (k : Int)) ∧ k ≤ 441 - f0 ∧ Hid (UInv P0 c0 P ci k) ∧ Hid (Arr w' b T P) ∧ Hid (Only b w w')) (fun _ i _ => (intOf i + 1).toNat)
  case atStart => exact ⟨P0, c0, 0, rfl, rfl, by omega, UInv.start c0 h0.out hb0.out hc0, hA.out, Only.refl _ _⟩
  case round =>
    obtain ⟨P, ci, k, rfl, rfl, hk, hM, hAr, hO⟩ := hrel
    have hPl := hide hM.out.1
    have hc1 := hM.out.2.2.1
    by_cases hk7 : k < 441 - f0
    · have hcell := hAr.out.cell (440 - k) (by have := hPl.out; omega)
      have hfz := hAr.out.frozen (440 - k)
      have hq9 : P[440 - k]'(by have := hPl.out; omega) ≤ 9 := hM.out.2.1 _ (List.getElem_mem _)
      obtain ⟨q, hq⟩ : ∃ q, P[440 - k]'(by have := hPl.out; omega) = q := ⟨_, rfl⟩
      rw [hq] at hcell hq9
      have hst := hide (UInv.step h0.out hM.out (by omega) q hq)
      clear hq
      have ei : (440 - (k : Int)).toNat = 440 - k := by omega
      have hi0 : (f0 : Int) ≤ 440 - (k : Int) := by omega
      go_wp2
      refine ⟨⟨P.set (440 - k) ((ci + q * 256) % 10), (ci + q * 256) / 10, k + 1, ?_, ?_, by omega, hst.out, ?_, ?_⟩, by simp [intOf]; omega⟩
      · show Value.int _ _ = Value.int _ _
        first | (congr 1; done) | (congr 1; omega)
      · show Value.int _ _ = Value.int _ _
        first | (congr 1; done) | (congr 1; omega)
      · show Arr _ _ _ _
        first
          | exact hAr.out.set _ _
          | (rw [show ((ci : Int) + (q : Int) * 256) % 10 = (((ci + q * 256) % 10 : Nat) : Int) by omega]; exact hAr.out.set _ _)
      · exact hO.out.set _ _
    · have hkf : k = 441 - f0 := by omega
      subst hkf
      have hW := hide (UInv.done hM.out hf0)
      have hno : ¬ ((f0 : Int) ≤ 440 - ((441 - f0 : Nat) : Int)) := by omega
      clear hM
      go_wp2
      go_loopw [1, 2] (fun f c w' => ∃ (P : List Nat) (fi ci : Nat), f = .int .i64 fi ∧ c = .int .i64 ci ∧ fi ≤ 441 ∧ ci ≤ 255 ∧ Hid (WInv P0 (val (P0.drop f0) * 256 + c0) P ci fi) ∧ Hid (Arr w' b T P) ∧ Hid (Only b w w')) (fun f _ _ => (intOf f).toNat)
      case atStart => exact ⟨P, f0, ci, rfl, rfl, hf0, hc1, hW.out, hAr.out, hO.out⟩
      case round =>
        obtain ⟨P, fi, ci, rfl, rfl, hf1, hc2, hM, hAr, hO⟩ := hrel
        by_cases hcp : 0 < ci
        · have hfp := WInv.more hM.out hV.out hcp
          have hst := hide (WInv.step hM.out hfp)
          have hPl := hide hM.out.1
          have hcell := hAr.out.cell (fi - 1) (by have := hPl.out; omega)
          have hfz := hAr.out.frozen (fi - 1)
          have ei : ((fi : Int) - 1).toNat = fi - 1 := by omega
          go_wp2
          refine ⟨⟨P.set (fi - 1) (ci % 10), fi - 1, ci / 10, ?_, ?_, by omega, by omega, hst.out, ?_, ?_⟩, by simp [intOf]; omega⟩
          · show Value.int _ _ = Value.int _ _
            congr 1; omega
          · show Value.int _ _ = Value.int _ _
            first | (congr 1; done) | (congr 1; omega)
          · show Arr _ _ _ _
            first
              | exact hAr.out.set _ _
              | (rw [show (ci : Int) % 10 = ((ci % 10 : Nat) : Int) by omega]; exact hAr.out.set _ _)
          · exact hO.out.set _ _
        · have hc0' : ci = 0 := by omega
          subst hc0'
          go_wp2
          go_ret
          exact ⟨P, fi, rfl, hM.out, hAr.out, hO.out⟩
end Go.Proofs.YtjpdlibncmldlaaDoor
/- num.Of: walked at any bytes. -/
namespace Go.Proofs.YtjpdlibncmldlaaDoor
open Go.RowKit
set_option linter.unusedSimpArgs false
set_option linter.unusedVariables false
theorem v256_app (a b : List Nat) : v256 (a ++ b) = v256 a * 256 ^ b.length + v256 b := by
  induction a with
  | nil => simp [v256]
  | cons d a ih =>
    simp only [List.cons_append, v256, List.length_append, ih, Nat.pow_add, Nat.add_mul, Nat.mul_assoc]
    omega
theorem v256_take_succ (l : List Nat) (k : Nat) (h : k < l.length) : v256 (l.take (k + 1)) = v256 (l.take k) * 256 + l[k] := by
  rw [List.take_succ_eq_append_getElem h, v256_app]; simp [v256]
theorem v256_lz (l : List Nat) : v256 l = v256 (l.drop (lz l)) := by
  have := v256_app (l.take (lz l)) (l.drop (lz l))
  rw [List.take_append_drop, take_lz, v256_zeros] at this
  simpa using this
/-- A row whose first byte is not nought is no less than its power. -/
theorem v256_ge {d : Nat} {l : List Nat} (h : d ≠ 0) : 256 ^ l.length ≤ v256 (d :: l) := by
  simp only [v256]
  have : 1 * 256 ^ l.length ≤ d * 256 ^ l.length := Nat.mul_le_mul_right _ (by omega)
  omega
theorem big_aux (x y z k : Nat) (hx : x = 40) (hy : y = 133) (hz : z = 11) (hk : 183 ≤ k) : 10 ^ (x * z) ≤ 256 ^ k := by
  have h1 : (10 : Nat) ^ x ≤ 2 ^ y := by subst hx hy; decide
  have h2 : ((10 : Nat) ^ x) ^ z ≤ (2 ^ y) ^ z := Nat.pow_le_pow_left h1 z
  rw [← Nat.pow_mul, ← Nat.pow_mul] at h2
  have h3 : (256 : Nat) ^ k = 2 ^ (8 * k) := by rw [show (256 : Nat) = 2 ^ 8 from rfl, ← Nat.pow_mul]
  rw [h3]
  exact Nat.le_trans h2 (Nat.pow_le_pow_right (by decide) (by subst hy hz; omega))
/-- So much, with a sign, in the units of numbers. -/
def Zof (neg : Bool) (V m : Nat) : Int := if neg then -((V * 10 ^ m : Nat) : Int) else ((V * 10 ^ m : Nat) : Int)
theorem Zv_abs (n : Bool) (s : ByteArray) (y : Int) : (Zv n s y).natAbs = mag s y := by unfold Zv; cases n <;> simp
theorem Zof_abs (neg : Bool) (V m : Nat) : (Zof neg V m).natAbs = V * 10 ^ m := by
  unfold Zof
  cases neg
  · exact Int.natAbs_natCast _
  · exact (Int.natAbs_neg _).trans (Int.natAbs_natCast _)
/-- What is worth so much is no number. -/
theorem far_none (neg : Bool) (V k m : Nat) (hm : m = 400) (hk : 183 ≤ k) (h : 256 ^ k ≤ V) : IsSum (Zof neg V m) (false, ⟨#[]⟩, 0, 2) := by
  right
  refine ⟨rfl, fun n s y hN e => ?_⟩
  obtain ⟨_, _, h40, hy1, hy2, hdg⟩ := isN_all hN
  have e1 : mag s y = V * 10 ^ m := by rw [← Zv_abs n s y, e, Zof_abs]
  have h1 : mag s y < 10 ^ (40 + m + m) := lt_pow hdg (by rw [dg_length]; omega)
  obtain ⟨x, hx⟩ : ∃ x, x = 40 := ⟨_, rfl⟩
  obtain ⟨z, hz⟩ : ∃ z, z = 11 := ⟨_, rfl⟩
  have h2 := big_aux x 133 z k hx rfl hz hk
  have h3 : 10 ^ (x * z) * 10 ^ m ≤ V * 10 ^ m := Nat.mul_le_mul_right _ (Nat.le_trans h2 h)
  rw [← Nat.pow_add, show x * z + m = 40 + m + m by subst hx hz; omega] at h3
  rw [e1] at h1
  exact Nat.lt_irrefl _ (Nat.lt_of_lt_of_le h1 h3)
theorem formF_of (neg : Bool) (d : List Nat) (hd : Dgs d) (m : Nat) (hm : m = 400) : IsSum (Zof neg (val d) m) (formF neg d 0) := by
  have := formF_sum neg d 0 hd (by omega)
  rw [show ((0 : Int) + 400).toNat = m by omega] at this
  exact this
/-- Bytes that lie somewhere. -/
def SB8 (w : World) (v : Value) (l : List Nat) : Prop :=
  (∃ a c, v = .slice a 0 c ∧ l = []) ∨ ∃ b o c, v = .slice (some ⟨b, o, none⟩) l.length c ∧ 0 < l.length ∧ l.length ≤ c ∧ c ≤ maxLen ∧ b < w.heap.size ∧ ∀ i (h : i < l.length), w.cell? ⟨b, o + i, none⟩ = some (.int .u8 (l[i] : Nat))
set_option maxHeartbeats 400000 in
theorem trimByteG (b o n c : Nat) (d : List Nat) (w : World) (hd : d.length = n) (hn0 : 0 < n) (hc : n ≤ c) (hc' : c ≤ 9223372036854775807)
    (hcell : ∀ i (h : i < d.length), w.cell? ⟨b, o + i, none⟩ = some (.int .u8 (d[i] : Nat))) :
    Calls Tryd.prog 65 #[.slice (some ⟨b, o, none⟩) n c, .int .u8 0] w fun e w' => (lz d < n → e = .returned (.slice (some ⟨b, o + lz d, none⟩) (n - lz d) (c - lz d))) ∧ (lz d = n → e = .returned (.slice none 0 0)) ∧ w' = w := by
  go_enter Tryd.func65, Tryd.ntmps65
  go_wp2
  go_loop [0] (fun s => ∃ k : Nat, k ≤ n ∧ (∀ i (h : i < d.length), i < k → d[i] = 0) ∧ ((k < n ∧ s = .slice (some ⟨b, o + k, none⟩) (n - k) (c - k)) ∨ (k = n ∧ ∃ a cc, s = .slice a 0 cc))) (fun s => lenOf s)
  case atStart => exact ⟨0, Nat.zero_le _, fun i h hi => by omega, Or.inl ⟨hn0, rfl⟩⟩
  case round =>
    obtain ⟨k, hk, hz, hs⟩ := hrel
    rcases hs with ⟨hlt, rfl⟩ | ⟨rfl, a, cc, rfl⟩
    · have hck := hcell k (by omega)
      by_cases h0 : d[k]'(by omega) = 0
      · rw [h0] at hck
        have hz' : ∀ i (h : i < d.length), i < k + 1 → d[i] = 0 := fun i h hi => by
          by_cases e : i = k
          · subst e; exact h0
          · exact hz i h (by omega)
        have hz' := hide hz'
        go_wp2
        refine ⟨⟨k + 1, by omega, hz'.out, ?_⟩, by simp [lenOf]; omega⟩
        by_cases hl : k + 1 < n
        · exact Or.inl ⟨hl, by rw [if_neg (by omega)]; simp [Nat.sub_sub, Nat.add_assoc]⟩
        · exact Or.inr ⟨by omega, _, _, by rw [show n - k - 1 = 0 by omega]⟩
      · have h1 : ((d[k]'(by omega) : Int) == 0) = false := by simp; exact h0
        have h2 : (((n - k : Nat) : Int) == 0) = false := by simp; omega
        have hl := hide (lz_of d k (by omega) hz (fun _ => h0))
        clear h0
        go_wp2
        go_ret
        exact ⟨fun _ => by rw [hl.out]; rfl, fun h => by rw [hl.out] at h; omega, rfl⟩
    · have hl := hide (lz_of d k (by omega) hz (fun h => by omega))
      go_wp2
      go_ret
      exact ⟨fun h => by rw [hl.out] at h; omega, fun h => rfl, rfl⟩
set_option maxRecDepth 100000 in
theorem trimLeftG (b o n c : Nat) (d : List Nat) (w : World) (hd : d.length = n) (hn0 : 0 < n) (hc : n ≤ c) (hc' : c ≤ 9223372036854775807)
    (hcell : ∀ i (h : i < d.length), w.cell? ⟨b, o + i, none⟩ = some (.int .u8 (d[i] : Nat))) :
    Calls Tryd.prog 51 #[.slice (some ⟨b, o, none⟩) n c, .string ⟨#[0]⟩] w fun e w' => (lz d < n → e = .returned (.slice (some ⟨b, o + lz d, none⟩) (n - lz d) (c - lz d))) ∧ (lz d = n → e = .returned (.slice none 0 0)) ∧ w' = w := by
  have h2 : ((n : Int) == 0) = false := by simp; omega
  have hcell := hide hcell
  by_cases hl : lz d < n
  · go_enter Tryd.func51, Tryd.ntmps51
    go_wp2_with (go_at_call 65; refine (trimByteG b o n c d _ hd hn0 hc hc' hcell.out).mono ?_; rintro e w' ⟨h1, _, rfl⟩; obtain rfl := h1 hl)
    go_ret
    exact ⟨fun _ => rfl, fun h => by omega, rfl⟩
  · have hl' : Hid (lz d = n) := by
      have : lz d ≤ n := by
        unfold lz; rw [← hd]; exact (List.takeWhile_prefix _).length_le
      show lz d = n
      omega
    go_enter Tryd.func51, Tryd.ntmps51
    go_wp2_with (go_at_call 65; refine (trimByteG b o n c d _ hd hn0 hc hc' hcell.out).mono ?_; rintro e w' ⟨_, h1, rfl⟩; obtain rfl := h1 hl'.out)
    go_ret
    exact ⟨fun h => by omega, fun _ => rfl, rfl⟩
theorem zero441 : Tryd.zeroCells72 = ((List.replicate 441 0).map fun v : Nat => Value.int .u8 (v : Int)).toArray := by kernel_rfl
/-- Where Of stands: the struct of the answer, and the digits. -/
structure OSt (w : World) (V : Nat) (f : Nat) (W : World) : Prop where
  below : Below w.heap.size w W
  hb : Box W w.heap.size false ⟨#[]⟩ 0
  row : ∃ P, P.length = 441 ∧ Dgs P ∧ f ≤ 441 ∧ val (P.drop f) = V ∧ Arr W (w.heap.size + 1) 72 P
theorem ost_new (w : World) : OSt w 0 441 ((w.alloc (.cells #[.bool false, .string ⟨#[]⟩, .int .i64 0] 23)).alloc (.cells Tryd.zeroCells72 72)) := by
  refine ⟨below_al (below_al (Below.refl _ _)), (box_new w false ⟨#[]⟩ 0).alloc _, List.replicate 441 0, List.length_replicate, fun d hd => by rw [List.eq_of_mem_replicate hd]; omega, Nat.le_refl _, ?_, ?_⟩
  · rw [List.drop_of_length_le (Nat.le_of_eq List.length_replicate)]; rfl
  · have := arr_new (w.alloc (.cells #[.bool false, .string ⟨#[]⟩, .int .i64 0] 23)) 72 441 _ zero441
    rw [show (w.alloc (.cells #[.bool false, .string ⟨#[]⟩, .int .i64 0] 23)).heap.size = w.heap.size + 1 by simp] at this
    exact this
/-- The digits behind place f, and form's answer. -/
theorem of_form (neg : Bool) (f : Nat) (P : List Nat) (b : Nat) (T : TypeId) (w : World) (hP : P.length = 441) (hD : Dgs P) (hf : f < 441) (hA : Arr w b T P) :
    Calls Tryd.prog 30 #[.bool neg, .slice (some ⟨b, f, none⟩) (441 - f) (441 - f), .int .i64 0] w fun e w' => e = retF (formF neg (P.drop f) 0) ∧ Below w.heap.size w w' :=
  form_any neg b f (441 - f) (441 - f) (P.drop f) 0 w (by rw [List.length_drop]; omega) (by omega) (by omega) (Nat.le_refl _) (by omega) hA.lt (fun i hi => by
    rw [List.length_drop] at hi
    rw [hA.cell (f + i) (by omega)]
    simp) (by omega) (by omega) (fun d hd => hD d (List.mem_of_mem_drop hd))
set_option maxHeartbeats 1000000 in
set_option maxRecDepth 100000 in
theorem of_nil (neg : Bool) (v : Value) (w : World) (hT : ∀ o, Calls Tryd.prog 51 #[v, .string ⟨#[0]⟩] (w.alloc o) fun e w' => e = .returned (.slice none 0 0) ∧ w' = w.alloc o) :
    Calls Tryd.prog 21 #[.bool neg, v] w fun e w' => e = retF (false, ⟨#[48]⟩, 0, 0) ∧ Below w.heap.size w w' := by
  have hT := hide hT
  have S0 := hide (ost_new w)
  obtain ⟨W0, hW0⟩ : ∃ W0, (w.alloc (.cells #[.bool false, .string ⟨#[]⟩, .int .i64 0] 23)).alloc (.cells Tryd.zeroCells72 72) = W0 := ⟨_, rfl⟩
  rw [hW0] at S0
  obtain ⟨c0, c1, c2, f0, f1, f2⟩ := S0.out.hb.cells
  go_enter Tryd.func21, Tryd.ntmps21
  go_wp2_with (first | (go_at_call 51; refine (hT.out _).mono ?_; rintro e w1 ⟨rfl, rfl⟩))
  go_loopw [7, 18] (fun f i w' => f = .int .i64 441 ∧ i = .int .i64 0 ∧ w' = W0) (fun _ _ _ => 0)
  case atStart => exact ⟨rfl, rfl, rfl⟩
  case round =>
    obtain ⟨rfl, rfl, rfl⟩ := hrel
    clear hW0
    go_wp2_with (first | (go_at_call 30; refine (form_none neg _ _ _ _).mono ?_; rintro e w1 ⟨rfl, hb1⟩; obtain ⟨k0, k1, k2, m0, m1, m2⟩ := (S0.out.hb.below hb1 S0.out.hb.lt).cells))
    exact bodyPost_ret (v := .tuple #[.agg #[.bool false, .string ⟨#[48]⟩, .int .i64 0], .int .i64 0]) (by simp [results, Tryd.results21, go_sem, k0, k1, k2]) rfl ⟨rfl, (((below_then S0.out.below hb1).setCell (Nat.le_refl _) _).setCell (Nat.le_refl _) _).setCell (Nat.le_refl _) _⟩
set_option maxHeartbeats 2000000 in
set_option maxRecDepth 100000 in
theorem of_some (neg : Bool) (v : Value) (b o c : Nat) (m : List Nat) (w : World) (hm0 : 0 < m.length) (hmc : m.length ≤ c) (hc : c ≤ 9223372036854775807) (hb : b < w.heap.size) (hB : Bts m)
    (hcell : ∀ i (h : i < m.length), w.cell? ⟨b, o + i, none⟩ = some (.int .u8 (m[i] : Nat))) (h183 : m.length ≤ 183)
    (hT : ∀ ob, Calls Tryd.prog 51 #[v, .string ⟨#[0]⟩] (w.alloc ob) fun e w' => e = .returned (.slice (some ⟨b, o, none⟩) m.length c) ∧ w' = w.alloc ob) :
    Calls Tryd.prog 21 #[.bool neg, v] w fun e w' => ∃ r, e = retF r ∧ Hid (∀ n, n = 400 → IsSum (Zof neg (v256 m) n) r) ∧ Below w.heap.size w w' := by
  have hT := hide hT
  have hB := hide hB
  have hcell := hide hcell
  have S0 := hide (ost_new w)
  obtain ⟨W0, hW0⟩ : ∃ W0, (w.alloc (.cells #[.bool false, .string ⟨#[]⟩, .int .i64 0] 23)).alloc (.cells Tryd.zeroCells72 72) = W0 := ⟨_, rfl⟩
  rw [hW0] at S0
  go_enter Tryd.func21, Tryd.ntmps21
  go_wp2_with (first | (go_at_call 51; refine (hT.out _).mono ?_; rintro e w1 ⟨rfl, rfl⟩))
  go_loopw [7, 18] (fun f i w' => ∃ (fi k : Nat), f = .int .i64 fi ∧ i = .int .i64 k ∧ k ≤ m.length ∧ fi ≤ 441 ∧ Hid (OSt w (v256 (m.take k)) fi w')) (fun _ i _ => m.length - (intOf i).toNat)
  case atStart => exact ⟨441, 0, rfl, rfl, Nat.zero_le _, Nat.le_refl _, S0.out⟩
  case round =>
    obtain ⟨fi, k, rfl, rfl, hk, hf, S⟩ := hrel
    clear hW0
    by_cases hlt : k < m.length
    · obtain ⟨P, hP1, hP2, _, hP3, hP4⟩ := S.out.row
      have hck : wr.cell? ⟨b, o + k, none⟩ = some (.int .u8 (m[k] : Nat)) := (S.out.below.cell (p := ⟨b, o + k, none⟩) hb).trans (hcell.out k hlt)
      have hmk : m[k] ≤ 255 := hB.out _ (List.getElem_mem _)
      have hvs := v256_take_succ m k hlt
      have hfit : Fits (val (P.drop fi) * 256 + m[k]) := by
        rw [hP3, ← hvs]
        refine fits_bytes (k := k + 1) (by omega) ?_
        have := v256_lt (m.take (k + 1)) (fun d hd => hB.out d (List.mem_of_mem_take hd))
        rw [List.length_take, Nat.min_eq_left (by omega)] at this
        exact this
      obtain ⟨mk, hmkE⟩ : ∃ mk, m[k] = mk := ⟨_, rfl⟩
      rw [hmkE] at hck hmk hvs hfit
      have hsc := hide (scaleUp_any (w.heap.size + 1) 72 P fi mk wr hP4 hP1 hP2 hf hmk hfit)
      have hP3 := hide hP3
      have hvs := hide hvs
      clear hfit hmkE hP4 hP1 hP2
      go_wp2_with (first | (go_at_call 52; refine hsc.out.mono ?_; rintro e w1 ⟨P', f', rfl, hWI, hA', hO⟩))
      refine ⟨⟨f', k + 1, rfl, by go_num, by omega, hWI.out.2.2.2.1, ?_⟩, by simp [intOf]; omega⟩
      refine ⟨S.out.below.trans (hO.out.below (by omega)), S.out.hb.only hO.out (by omega), P', hWI.out.1, hWI.out.2.1, hWI.out.2.2.2.1, ?_, hA'.out⟩
      have := hWI.out.2.2.2.2.2
      rw [Nat.zero_mul, Nat.add_zero] at this
      rw [this, hP3.out, ← hvs.out]
    · have htk : m.take k = m := List.take_of_length_le (by omega)
      rw [htk] at S
      obtain ⟨P, hP1, hP2, _, hP3, hP4⟩ := S.out.row
      obtain ⟨rb, rs, rx, re, hre⟩ : ∃ rb rs rx re, formF neg (P.drop fi) 0 = (rb, rs, rx, re) := ⟨_, _, _, _, rfl⟩
      have hsum := hide (show ∀ n, n = 400 → IsSum (Zof neg (v256 m) n) (rb, rs, rx, re) from fun n hn => by
        have := formF_of neg (P.drop fi) (fun d hd => hP2 d (List.mem_of_mem_drop hd)) n hn
        rw [hP3, hre] at this
        exact this)
      have hlt' := S.out.hb.lt
      by_cases hfe : fi = 441
      · have hd0 : P.drop fi = [] := List.drop_of_length_le (by omega)
        rw [hd0] at hre
        have hr0 : (rb, rs, rx, re) = (false, ⟨#[48]⟩, (0 : Int), (0 : Int)) := by rw [← hre]; rfl
        simp only [Prod.mk.injEq] at hr0
        obtain ⟨rfl, rfl, rfl, rfl⟩ := hr0
        subst hfe
        clear hd0 hre hP3 hP4 hP1 hP2
        go_wp2_with (first | (go_at_call 30; refine (form_none neg _ _ _ _).mono ?_; rintro e w1 ⟨rfl, hb1⟩; obtain ⟨k0, k1, k2, m0, m1, m2⟩ := (S.out.hb.below hb1 hlt').cells))
        exact bodyPost_ret (v := .tuple #[.agg #[.bool false, .string ⟨#[48]⟩, .int .i64 0], .int .i64 0]) (by simp [results, Tryd.results21, go_sem, k0, k1, k2]) rfl ⟨_, rfl, hsum.out, (((below_then S.out.below hb1).setCell (Nat.le_refl _) _).setCell (Nat.le_refl _) _).setCell (Nat.le_refl _) _⟩
      · have hfm := hide (of_form neg fi P (w.heap.size + 1) 72 wr hP1 hP2 (by omega) hP4)
        rw [hre] at hfm
        simp only [retF] at hfm
        have hfl : (fi : Int) ≤ 441 := by omega
        clear hre hP3 hP4 hP1 hP2
        go_wp2_with (first | (go_at_call 30; refine hfm.out.mono ?_; rintro e w1 ⟨rfl, hb1⟩; obtain ⟨k0, k1, k2, m0, m1, m2⟩ := (S.out.hb.below hb1 hlt').cells))
        exact bodyPost_ret (v := .tuple #[.agg #[.bool rb, .string rs, .int .i64 rx], .int .i64 re]) (by simp [results, Tryd.results21, go_sem, k0, k1, k2]) rfl ⟨_, rfl, hsum.out, (((below_then S.out.below hb1).setCell (Nat.le_refl _) _).setCell (Nat.le_refl _) _).setCell (Nat.le_refl _) _⟩
set_option maxHeartbeats 1000000 in
set_option maxRecDepth 100000 in
theorem of_far (neg : Bool) (v : Value) (a : Option Addr) (n c : Nat) (w : World) (h183 : 183 < n) (hn : n ≤ 9223372036854775807)
    (hT : ∀ ob, Calls Tryd.prog 51 #[v, .string ⟨#[0]⟩] (w.alloc ob) fun e w' => e = .returned (.slice a n c) ∧ w' = w.alloc ob) :
    Calls Tryd.prog 21 #[.bool neg, v] w fun e w' => e = retF (false, ⟨#[]⟩, 0, 2) ∧ Below w.heap.size w w' := by
  have hT := hide hT
  have h1 : (183 : Int) < (n : Int) := by omega
  obtain ⟨c0, c1, c2, f0, f1, f2⟩ := (box_new w false ⟨#[]⟩ 0).cells
  go_enter Tryd.func21, Tryd.ntmps21
  go_wp2_with (first | (go_at_call 51; refine (hT.out _).mono ?_; rintro e w1 ⟨rfl, rfl⟩))
  exact bodyPost_ret (v := .tuple #[.agg #[.bool false, .string ⟨#[]⟩, .int .i64 0], .int .i64 2]) (by simp [results, Tryd.results21, go_sem]) rfl ⟨rfl, by first | exact below_al (Below.refl _ _) | exact (((below_al (Below.refl w.heap.size w)).setCell (Nat.le_refl _) _).setCell (Nat.le_refl _) _).setCell (Nat.le_refl _) _⟩
theorem sum_zero (neg : Bool) (n : Nat) : IsSum (Zof neg 0 n) (false, ⟨#[48]⟩, 0, 0) := by
  left
  refine ⟨rfl, rfl, ?_⟩
  have := (isZ_mag (n := false) (s := ⟨#[48]⟩) (x := 0) rfl).2.2.2
  rw [this]
  unfold Zof
  cases neg <;> simp
theorem SB8.alloc {w : World} {v : Value} {l : List Nat} (h : SB8 w v l) (o : Obj) : SB8 (w.alloc o) v l := by
  rcases h with ⟨a, c, rfl, rfl⟩ | ⟨b, f, c, rfl, h0, h1, h2, h3, hc⟩
  · exact Or.inl ⟨a, c, rfl, rfl⟩
  · exact Or.inr ⟨b, f, c, rfl, h0, h1, h2, by simp; omega, fun i hi => ((below_al (o := o) (Below.refl w.heap.size w)).cell (p := ⟨b, f + i, none⟩) h3).trans (hc i hi)⟩
theorem lz_drop_head (l : List Nat) (h : lz l < l.length) : ∃ d t, l.drop (lz l) = d :: t ∧ d ≠ 0 := by
  refine ⟨l[lz l], l.drop (lz l + 1), List.drop_eq_getElem_cons h, lz_ne l h⟩
/-- num.Of at any bytes: the number that they are worth, or there is none. -/
theorem of_any (neg : Bool) (v : Value) (l : List Nat) (w : World) (hv : SB8 w v l) (hB : Bts l) :
    Calls Tryd.prog 21 #[.bool neg, v] w fun e w' => ∃ r, e = retF r ∧ Hid (∀ n, n = 400 → IsSum (Zof neg (v256 l) n) r) ∧ Below w.heap.size w w' := by
  have ml : maxLen = 9223372036854775807 := rfl
  rcases hv with ⟨a, c, rfl, rfl⟩ | ⟨b, o, c, rfl, h0, h1, h2, h3, hc⟩
  · refine (of_nil neg _ w (fun ob => trimLeft_none a c _)).mono ?_
    rintro e w' ⟨rfl, hb⟩
    exact ⟨_, rfl, fun n _ => sum_zero neg n, hb⟩
  · have hc' : ∀ (ob : Obj) (i : Nat) (h : i < l.length), (w.alloc ob).cell? ⟨b, o + i, none⟩ = some (.int .u8 (l[i] : Nat)) := fun ob i hi => ((below_al (o := ob) (Below.refl w.heap.size w)).cell (p := ⟨b, o + i, none⟩) h3).trans (hc i hi)
    have hT := fun ob => trimLeftG b o l.length c l (w.alloc ob) rfl h0 h1 (by omega) (hc' ob)
    by_cases hz : lz l = l.length
    · refine (of_nil neg _ w (fun ob => (hT ob).mono fun e w' ⟨_, h, hw⟩ => ⟨h hz, hw⟩)).mono ?_
      rintro e w' ⟨rfl, hb⟩
      have hv0 : v256 l = 0 := by rw [v256_lz, hz, List.drop_length]; rfl
      exact ⟨_, rfl, fun n _ => by rw [hv0]; exact sum_zero neg n, hb⟩
    · have hlz : lz l < l.length := by have := lz_le l; omega
      have hld : (l.drop (lz l)).length = l.length - lz l := List.length_drop
      by_cases h183 : l.length - lz l ≤ 183
      · have := of_some neg (.slice (some ⟨b, o, none⟩) l.length c) b (o + lz l) (c - lz l) (l.drop (lz l)) w (by omega) (by omega) (by omega) h3 (fun d hd => hB d (List.mem_of_mem_drop hd)) (fun i hi => by
          rw [hld] at hi
          rw [Nat.add_assoc, hc (lz l + i) (by omega)]
          simp) (by omega) (fun ob => (hT ob).mono fun e w' ⟨h, _, hw⟩ => ⟨by rw [hld]; exact h hlz, hw⟩)
        rw [← v256_lz] at this
        exact this
      · refine (of_far neg _ (some ⟨b, o + lz l, none⟩) (l.length - lz l) (c - lz l) w (by omega) (by omega) (fun ob => (hT ob).mono fun e w' ⟨h, _, hw⟩ => ⟨h hlz, hw⟩)).mono ?_
        rintro e w' ⟨rfl, hb⟩
        obtain ⟨d, t, hdt, hd0⟩ := lz_drop_head l hlz
        have htl : t.length = l.length - lz l - 1 := by
          have := congrArg List.length hdt
          rw [hld] at this
          simp at this
          omega
        refine ⟨_, rfl, fun n hn => far_none neg (v256 l) t.length n hn (by omega) ?_, hb⟩
        rw [v256_lz, hdt]
        exact v256_ge hd0
end Go.Proofs.YtjpdlibncmldlaaDoor
/- num.Bytes where it refuses; what is parsed is a number. -/
namespace Go.Proofs.YtjpdlibncmldlaaDoor
open Go.RowKit
set_option linter.unusedSimpArgs false
set_option linter.unusedVariables false
set_option maxHeartbeats 1000000 in
theorem bytes_form (n : Bool) (s : ByteArray) (x : Int) (w : World) (hs : s.size ≤ 100000) (h : isN n s x = false) :
    Calls Tryd.prog 24 #[.agg #[.bool n, .string s, .int .i64 x]] w fun e w' => e = .returned (.tuple #[.slice none 0 0, .int .i64 10]) ∧ Below w.heap.size w w' := by
  have ml : maxLen = 2 ^ 63 - 1 := rfl
  have hB := hide (box_new w n s x)
  go_enter Tryd.func24, Tryd.ntmps24
  go_wp2_with fail
  refine (check_no n s x _ (by omega) h).mono ?_
  rintro e w1 ⟨rfl, hb1⟩
  go_wp2
  go_ret2
  exact ⟨rfl, below_alloc hb1⟩
set_option maxHeartbeats 1000000 in
theorem bytes_whole (n : Bool) (s : ByteArray) (x : Int) (w : World) (h : isN n s x = true) (hx : x < 0) :
    Calls Tryd.prog 24 #[.agg #[.bool n, .string s, .int .i64 x]] w fun e w' => e = .returned (.tuple #[.slice none 0 0, .int .i64 11]) ∧ Below w.heap.size w w' := by
  have ml : maxLen = 2 ^ 63 - 1 := rfl
  obtain ⟨had, hl1, hl40, hx1, hx2, hdg⟩ := isN_all h
  clear had hdg
  have hx0 : decide (x < 0) = true := decide_eq_true hx
  have hB := hide (box_new w n s x)
  go_enter Tryd.func24, Tryd.ntmps24
  go_wp2_with fail
  refine (check_ok n s x _ (by omega) h).mono ?_
  rintro e w1 ⟨rfl, hb1⟩
  have hB1 := hide (hB.out.below hb1 (by simp))
  obtain ⟨c0, c1, c2, f0, f1, f2⟩ := hB1.out.cells
  go_wp2
  go_ret2
  exact ⟨rfl, below_alloc hb1⟩
set_option maxHeartbeats 1000000 in
theorem bytes_limit (n : Bool) (s : ByteArray) (x : Int) (w : World) (h : isN n s x = true) (hx : 0 ≤ x) (hsx : 40 < (s.size : Int) + x) :
    Calls Tryd.prog 24 #[.agg #[.bool n, .string s, .int .i64 x]] w fun e w' => e = .returned (.tuple #[.slice none 0 0, .int .i64 2]) ∧ Below w.heap.size w w' := by
  have ml : maxLen = 2 ^ 63 - 1 := rfl
  obtain ⟨had, hl1, hl40, hx1, hx2, hdg⟩ := isN_all h
  clear had hdg
  have hx0 : decide (x < 0) = false := decide_eq_false (by omega)
  have hx40 : decide (40 < (s.size : Int) + x) = true := decide_eq_true hsx
  have hB := hide (box_new w n s x)
  go_enter Tryd.func24, Tryd.ntmps24
  go_wp2_with fail
  refine (check_ok n s x _ (by omega) h).mono ?_
  rintro e w1 ⟨rfl, hb1⟩
  have hB1 := hide (hB.out.below hb1 (by simp))
  obtain ⟨c0, c1, c2, f0, f1, f2⟩ := hB1.out.cells
  go_wp2
  go_ret2
  exact ⟨rfl, below_alloc hb1⟩
/-- What Bytes refuses with. -/
def bytesE (n : Bool) (s : ByteArray) (x : Int) : Int := if isN n s x then (if x < 0 then 11 else if 40 < (s.size : Int) + x then 2 else 0) else 10
theorem bytes_no (n : Bool) (s : ByteArray) (x : Int) (w : World) (hs : s.size ≤ 100000) (h : bytesE n s x ≠ 0) :
    Calls Tryd.prog 24 #[.agg #[.bool n, .string s, .int .i64 x]] w fun e w' => e = .returned (.tuple #[.slice none 0 0, .int .i64 (bytesE n s x)]) ∧ Below w.heap.size w w' := by
  unfold bytesE at h ⊢
  cases hN : isN n s x
  · exact bytes_form n s x w hs hN
  · rw [hN] at h
    simp only [if_true] at h ⊢
    by_cases hx : x < 0
    · rw [if_pos hx]; exact bytes_whole n s x w hN hx
    · rw [if_neg hx] at h ⊢
      by_cases h40 : 40 < (s.size : Int) + x
      · rw [if_pos h40]; exact bytes_limit n s x w hN (by omega) h40
      · rw [if_neg h40] at h; exact absurd rfl h
theorem bytes_yes {n : Bool} {s : ByteArray} {x : Int} (h : bytesE n s x = 0) : isN n s x = true ∧ 0 ≤ x ∧ (s.size : Int) + x ≤ 40 := by
  unfold bytesE at h
  cases hN : isN n s x
  · rw [hN] at h; simp at h
  · rw [hN] at h
    simp only [if_true] at h
    split at h
    · exact absurd h (by decide)
    · split at h
      · exact absurd h (by decide)
      · exact ⟨rfl, by omega, by omega⟩
end Go.Proofs.YtjpdlibncmldlaaDoor
/- Digits by 256, again and again: what calamusref01's Bytes reckons. -/
namespace Go.Proofs.YtjpdlibncmldlaaDoor
open Go.RowKit
set_option linter.unusedVariables false
/-- No nought in front. -/
def Nz (l : List Nat) : Prop := ∀ c, l.head? = some c → c ≠ 0
/-- Where the division stands: i digits are taken. -/
structure DI (S : List Nat) (i : Nat) (nx : List Nat) (r : Nat) : Prop where
  eq : val (S.take i) = val nx * 256 + r
  lt : r < 256
  dg : Dgs nx
  nz : Nz nx
  len : nx.length ≤ i - 1
  zero : i = 0 → r = 0
theorem DI.start (S : List Nat) : DI S 0 [] 0 := ⟨rfl, by omega, fun d hd => (by cases hd), fun c hc => (by cases hc), Nat.zero_le _, fun _ => rfl⟩
theorem DI.q {S : List Nat} {i : Nat} {nx : List Nat} {r : Nat} (h : DI S i nx r) {d v : Nat} (hd : d ≤ 9) (hv : 10 * r + d = v) : v / 256 ≤ 9 := by have := h.lt; omega
theorem DI.more {S : List Nat} {i : Nat} {nx : List Nat} {r : Nat} (h : DI S i nx r) (hi : i < S.length) {d v : Nat} (h9 : d ≤ 9) (hd : S[i] = d) (hv : 10 * r + d = v) (hc : nx ≠ [] ∨ 0 < v / 256) : DI S (i + 1) (nx ++ [v / 256]) (v % 256) := by
  have hq := h.q h9 hv
  have hi0 : 0 < i := by
    rcases Nat.eq_zero_or_pos i with e | e
    · have h0 := h.zero e
      have hl := h.len
      rcases hc with hc | hc
      · exfalso; apply hc; apply List.eq_nil_of_length_eq_zero; omega
      · omega
    · exact e
  refine ⟨?_, by omega, ?_, ?_, ?_, by omega⟩
  · rw [val_take_succ S i hi, h.eq, hd, val_append]
    have e1 : val [v / 256] = v / 256 := by simp [val]
    rw [e1]
    simp only [List.length_cons, List.length_nil]
    omega
  · intro x hx
    rcases List.mem_append.1 hx with hx | hx
    · exact h.dg x hx
    · rw [List.mem_singleton] at hx; omega
  · intro c hcc
    cases hn : nx with
    | nil =>
      rw [hn] at hcc
      simp at hcc
      rcases hc with hc | hc
      · exact absurd hn hc
      · omega
    | cons a t =>
      rw [hn] at hcc
      simp at hcc
      have := h.nz a (by rw [hn]; rfl)
      omega
  · have := h.len
    rw [List.length_append]; simp; omega
theorem DI.less {S : List Nat} {i : Nat} {r : Nat} (h : DI S i [] r) (hi : i < S.length) {d v : Nat} (hd : S[i] = d) (hv : 10 * r + d = v) (hc : v / 256 = 0) : DI S (i + 1) [] (v % 256) := by
  refine ⟨?_, by omega, h.dg, h.nz, Nat.zero_le _, by omega⟩
  rw [val_take_succ S i hi, h.eq, hd]
  simp [val]
  omega
/-- Where Bytes stands: V is what is left, and the bytes behind it. -/
structure BI (V : Nat) (S : List Nat) (out : List UInt8) : Prop where
  eq : V = val S * 256 ^ out.length + v256 (out.map UInt8.toNat)
  dg : Dgs S
  nz : S = [0] ∨ Nz S
  hd : val S = 0 → ∀ c, out.head? = some c → c ≠ 0
  len : out.length + S.length ≤ 41
theorem BI.pos {V : Nat} {S : List Nat} {out : List UInt8} (h : BI V S out) (h0 : S ≠ []) (h1 : S ≠ [0]) : 0 < val S := by
  have hz : Nz S := by rcases h.nz with e | e; exact absurd e h1; exact e
  have := val_ge S h0 hz
  exact Nat.lt_of_lt_of_le (Nat.pow_pos (by omega)) this
theorem BI.step {V : Nat} {S : List Nat} {out : List UInt8} (h : BI V S out) (h0 : S ≠ []) (h1 : S ≠ [0]) {nx : List Nat} {r : Nat} (d : DI S S.length nx r) : BI V nx (UInt8.ofNat r :: out) ∧ nx.length < S.length := by
  have hp := h.pos h0 h1
  have he := d.eq
  rw [List.take_length] at he
  have hS : 0 < S.length := List.length_pos_iff.2 h0
  have hr : (UInt8.ofNat r).toNat = r := by rw [UInt8.toNat_ofNat']; have := d.lt; omega
  have hl := d.len
  refine ⟨⟨?_, d.dg, Or.inr d.nz, ?_, ?_⟩, by omega⟩
  · rw [h.eq, he]
    simp only [List.map_cons, v256, hr, List.length_cons, List.length_map]
    rw [Nat.pow_succ, Nat.add_mul, Nat.mul_comm (256 ^ out.length) 256, ← Nat.mul_assoc]
    omega
  · intro hz c hc
    simp at hc
    subst hc
    intro e
    have := congrArg UInt8.toNat e
    rw [hr] at this
    rw [hz] at he
    simp at this
    omega
  · have := h.len
    simp only [List.length_cons]; omega
theorem BI.done {V : Nat} {S : List Nat} {out : List UInt8} (h : BI V S out) (h0 : S = [] ∨ S = [0]) : v256 (out.map UInt8.toNat) = V ∧ ∀ c, out.head? = some c → c ≠ 0 := by
  have hv : val S = 0 := by rcases h0 with rfl | rfl <;> simp [val]
  refine ⟨?_, h.hd hv⟩
  rw [h.eq, hv]
  simp
end Go.Proofs.YtjpdlibncmldlaaDoor
/- calamusref01's Bytes: walked. -/
namespace Go.Proofs.YtjpdlibncmldlaaDoor
open Go.RowKit
set_option linter.unusedSimpArgs false
set_option linter.unusedVariables false
theorem below_dn' {B : Nat} {w W : World} (h : Below B w W) (n : Nat) : Below B w (W.drewN n) := ⟨h.os, h.tape, h.output, h.size, h.block⟩
theorem mkS_toList (S : List Nat) : (mkS S).toList = S.map fun v => UInt8.ofNat (v + 48) := by rw [Lib.toList_data]; exact mkS_bl S
theorem Own.wider {W : World} {B B1 : Nat} {v : Value} {l : List UInt8} (h : Own W B1 v l) (hB : B ≤ B1) : Own W B v l := by
  obtain ⟨h0, h⟩ := h
  refine ⟨h0, ?_⟩
  rcases h with h | ⟨g, cap, cur, h1, h2, h3⟩
  · exact Or.inl h
  · exact Or.inr ⟨g, cap, cur, h1, by omega, h3⟩
/-- A row of one's own as a source. -/
theorem Own.src {W : World} {B : Nat} {v : Value} {l : List UInt8} (h : Own W B v l) : (v = .slice none 0 0 ∧ l = []) ∨ ∃ g cap, v = .slice (some ⟨g, 0, none⟩) l.length cap ∧ ∀ W1, Below W.heap.size W W1 → ∀ j u, (bcs l)[j]? = some u → W1.cell? ((⟨g, 0, none⟩ : Addr).add j) = some u := by
  have hh := h
  obtain ⟨h0, h⟩ := h
  rcases h with ⟨rfl, hz⟩ | ⟨g, cap, cur, rfl, h2, h3, h4, h5, h6, h7⟩
  · exact Or.inl ⟨rfl, List.eq_nil_of_length_eq_zero hz⟩
  · refine Or.inr ⟨g, cap, rfl, fun W1 hb j u hj => ?_⟩
    have hc := World.ownsRow.cells hh (g := g) rfl j u hj
    have hlt : g < W.heap.size := by
      by_cases hlt : g < W.heap.size
      · exact hlt
      · have hn : W.heap[g]? = none := by simp; omega
        rw [hn] at h3; cases h3
    exact (hb.cell (p := (⟨g, 0, none⟩ : Addr).add j) (by
      have : ((⟨g, 0, none⟩ : Addr).add j).block = g := by unfold Addr.add; split <;> rfl
      rw [this]; exact hlt)).trans hc
theorem inf5 : ∃ i, Tryd.prog.info? 5 = some i := by
  obtain ⟨i0, hi, _⟩ := info_parts info5
  exact ⟨i0, hi⟩
set_option maxHeartbeats 4000000 in
set_option maxRecDepth 100000 in
theorem rbytes_ok (n : Bool) (s : ByteArray) (x : Int) (w : World) (h : isN n s x = true) (hx : 0 ≤ x) (hsx : s.size + x ≤ 40) :
    Calls Tryd.prog 25 #[.agg #[.bool n, .string s, .int .i64 x]] w fun e w' => ∃ v' out, e = .returned (.tuple #[v', .int .i64 0]) ∧ Hid (v256 (out.map UInt8.toNat) = val (dg s) * 10 ^ x.toNat ∧ ∀ c, out.head? = some c → c ≠ 0) ∧ Hid (Own w' w.heap.size v' out) ∧ Hid (Below w.heap.size w w') := by
  obtain ⟨had, hl1, hl40, hx1, hx2, hdg⟩ := isN_all h
  have hIs := hide (fun w => ris_any n s x w (by unfold maxLen; omega))
  rw [h] at hIs
  obtain ⟨k, rfl⟩ := Int.eq_ofNat_of_zero_le hx
  have hze := hide (fun w => zeros_any k w (by omega))
  have hB := hide (box_new w n s (k : Int))
  obtain ⟨S0, hS0⟩ : ∃ S0, S0 = dg s ++ List.replicate k 0 := ⟨_, rfl⟩
  obtain ⟨Z, hZ⟩ : ∃ Z, mkS (List.replicate k 0) = Z := ⟨_, rfl⟩
  obtain ⟨T0, hT0⟩ : ∃ T0, mkS S0 = T0 := ⟨_, rfl⟩
  rw [hZ] at hze
  have hcat : ∀ w, (Op.stringOp .add s Z).run Tryd.prog w = .ok (.string T0) w := fun w => by
    have e : s ++ Z = T0 := by rw [← hT0, hS0, ← mkS_app, mkS_of s had, hZ]
    rw [← e]
    exact run_string_add_sum w s Z (by rw [← hZ, mkS_size, List.length_replicate]; omega)
  have hV : val S0 = val (dg s) * 10 ^ (k : Int).toNat := by rw [hS0, val_zero_right, Int.toNat_natCast]
  have hT0' := hide hT0
  have hV' := hide hV
  have B0 : Hid (BI (val S0) S0 []) := by
    refine ⟨by simp [v256], ?_, ?_, fun _ c hc => (by cases hc), ?_⟩
    · rw [hS0]; intro d hd
      rcases List.mem_append.1 hd with hd | hd
      · exact hdg d hd
      · rw [List.eq_of_mem_replicate hd]; omega
    · cases hz : isZ n s (k : Int)
      · right
        have ho : isO (bl s) (k : Int) = true := by simpa [isN, hz] using h
        obtain ⟨_, _, _, _, _, hcan, hne⟩ := isO_facts ho
        intro c hc
        rw [hS0] at hc
        cases hds : dg s with
        | nil => exact absurd hds hne
        | cons a t =>
          rw [hds] at hc
          simp at hc
          subst hc
          exact hcan.first a (by rw [hds]; rfl)
      · left
        obtain ⟨_, _, h3⟩ := isZ_facts hz
        have hk0 : k = 0 := by omega
        rw [hS0, (isZ_mag hz).1, hk0]
        rfl
    · rw [hS0, List.length_append, List.length_replicate, dg_length]; simp; omega
  have i1 : ¬ ((40 : Int) < (s.size : Int) + (k : Int)) := by omega
  have i2 : ¬ ((k : Int) < 0) := by omega
  clear hS0 hZ hT0 hV had hdg
  go_enter Tryd.func25, Tryd.ntmps25
  go_wp2_with (first | (go_at_call 38; refine (hIs.out _).mono ?_; rintro e w1 ⟨rfl, hb1⟩; obtain ⟨c0, c1, c2, f0, f1, f2⟩ := (hB.out.below hb1 (hB.out.lt)).cells; have hb1 := hide (below_then (below_al (Below.refl _ _)) hb1)))
  go_quiet (first | (go_at_call 39; exact Calls.quiet_of_same (hze.out _)))
  go_wp2_with fail
  go_loopw [4, 5] (fun sv ov wr => ∃ S out, sv = .string (mkS S) ∧ Hid (BI (val S0) S out) ∧ Hid (Own wr w.heap.size ov out) ∧ Hid (Below w.heap.size w wr)) (fun sv _ _ => lenS sv)
  case atStart => exact ⟨S0, [], by rw [hT0'.out], B0.out, own_nil _ _, below_dn' hb1.out _⟩
  case round =>
    obtain ⟨S, out, rfl, I, hO, hBl⟩ := hrel
    have hlS := I.out.len
    have hlB : w.heap.size ≤ wr.heap.size := hBl.out.size
    by_cases hS1 : S = []
    · have D := hide (I.out.done (.inl hS1))
      rw [hV'.out] at D
      subst hS1
      rw [mkS_nil]
      go_wp2
      go_ret2
      exact ⟨_, out, rfl, D.out, hO.out, hBl.out⟩
    · by_cases hS2 : S = [0]
      · have D := hide (I.out.done (.inr hS2))
        rw [hV'.out] at D
        subst hS2
        rw [mkS_0]
        go_wp2
        go_ret2
        exact ⟨_, out, rfl, D.out, hO.out, hBl.out⟩
      · have hSl : 0 < S.length := List.length_pos_iff.2 hS1
        have hsz : (mkS S).size = S.length := mkS_size S
        have hdS := I.out.dg
        have hn1 : ¬ ((mkS S).toList = []) := by rw [mkS_toList]; simpa using hS1
        have hn2 : ¬ ((mkS S).toList = [48]) := by
          rw [mkS_toList]
          intro e
          apply hS2
          have hm := congrArg (List.map fun c : UInt8 => c.toNat - 48) e
          rw [List.map_map] at hm
          have hid : S.map ((fun c : UInt8 => c.toNat - 48) ∘ fun v => UInt8.ofNat (v + 48)) = S := by
            conv => rhs; rw [← List.map_id S]
            apply List.map_congr_left
            intro d hd
            have := hdS d hd
            simp only [Function.comp, id]
            rw [UInt8.toNat_ofNat']; omega
          rw [hid] at hm
          exact hm
        obtain ⟨T, hT⟩ : ∃ T, mkS S = T := ⟨_, rfl⟩
        have gt : Hid (∀ j (h : j < T.size) (h' : j < S.length), T[j].toNat = S[j] + 48) := fun j h h' => by subst hT; exact mkS_get S hdS j h' h
        rw [hT] at hsz hn1 hn2 ⊢
        have hstep := hide (fun (nx : List Nat) (r : Nat) (d : DI S S.length nx r) => I.out.step hS1 hS2 d)
        have hn1 : T.toList.isEmpty = false := by cases h : T.toList with | nil => exact absurd h hn1 | cons a t => rfl
        have hn2 : (T.toList == [48]) = false := by rw [beq_eq_false_iff_ne]; exact hn2
        have hT1 := hide hT
        have hd1 := hide hdS
        clear hT hdS hS1 hS2
        go_wp2_with fail
        go_loopw [6, 7, 8] (fun rv nv iv w' => ∃ (j r : Nat) (nx : List Nat), j ≤ S.length ∧ r < 256 ∧ rv = .int .i64 r ∧ nv = .string (mkS nx) ∧ iv = .int .i64 j ∧ Hid (DI S j nx r) ∧ w' = wr) (fun _ _ i _ => S.length - (intOf i).toNat)
        case atStart => exact ⟨0, 0, [], Nat.zero_le _, by omega, rfl, by rw [mkS_nil], rfl, DI.start S, rfl⟩
        case round =>
          obtain ⟨j, r, nx, hj, hr, rfl, rfl, rfl, D, hwr⟩ := hrel
          have hwrs := hwr.symm
          clear hwr
          subst hwrs
          by_cases hlt : j < S.length
          · obtain ⟨d, hd⟩ : ∃ d, S[j] = d := ⟨_, rfl⟩
            have h9 : d ≤ 9 := by rw [← hd]; exact hd1.out _ (List.getElem_mem _)
            have hjT : j < T.size := by omega
            have hjT' : (j : Int) < (T.size : Int) := by omega
            have hx1 : T[j].toNat = d + 48 := by rw [gt.out j hjT hlt, hd]
            have e1 : IntKind.u8.wrap ((T[j].toNat : Int) - 48) = d := by rw [hx1, IntKind.wrap_u8']; omega
            obtain ⟨v, hv⟩ : ∃ v, 10 * r + d = v := ⟨_, rfl⟩
            have hvi : 10 * (r : Int) + d = v := by omega
            have hv1 : v ≤ 2559 := by omega
            obtain ⟨q, hq⟩ : ∃ q, v / 256 = q := ⟨_, rfl⟩
            obtain ⟨r', hr'⟩ : ∃ r', v % 256 = r' := ⟨_, rfl⟩
            have hq9 : q ≤ 9 := by omega
            have hr2 : r' < 256 := by omega
            have t1 : (v : Int).tdiv 256 = (q : Int) := by rw [Int.tdiv_eq_ediv_of_nonneg (by omega)]; omega
            have t2 : (v : Int).tmod 256 = (r' : Int) := by rw [Int.tmod_eq_emod_of_nonneg (by omega)]; omega
            have hp := hide (dig_piece q hq9)
            have hmore := hide (fun hc => D.out.more hlt h9 hd hv hc)
            have hless := hide (fun (hn : nx = []) (hc : v / 256 = 0) => (show DI S (j + 1) [] (v % 256) from by have D' := D.out; rw [hn] at D'; exact D'.less hlt hd hv hc))
            rw [hq, hr'] at hmore hless
            have hli : (j : Int) < (S.length : Int) := by omega
            clear hd hv hq hr' hx1
            by_cases hnx : nx = []
            · rcases Nat.eq_zero_or_pos q with hq0 | hq0
              · have D2 := hide (hless.out hnx hq0)
                subst hnx hq0
                rw [mkS_nil]
                go_wp2
                refine ⟨⟨j + 1, r', [], by omega, hr2, rfl, by rw [mkS_nil], by go_num, D2.out, (by first | rfl | trivial)⟩, by simp [intOf]; omega⟩
              · have D2 := hide (hmore.out (.inr hq0))
                subst hnx
                rw [mkS_nil]
                have hq1 : (0 : Int) < (q : Int) := by omega
                go_wp2
                refine ⟨⟨j + 1, r', [q], by omega, hr2, rfl, by rw [hp.out]; rfl, by go_num, D2.out, (by first | rfl | trivial)⟩, by simp [intOf]; omega⟩
            · have D2 := hide (hmore.out (.inl hnx))
              have hNl : (mkS nx).size = nx.length := mkS_size nx
              have hdl := D.out.len
              have hN1 : (mkS nx).toList.isEmpty = false := by
                rw [mkS_toList]
                cases nx with
                | nil => exact absurd rfl hnx
                | cons a t => rfl
              have happ := hide (show mkS nx ++ mkS [q] = mkS (nx ++ [q]) from mkS_app nx [q])
              obtain ⟨N, hN⟩ : ∃ N, mkS nx = N := ⟨_, rfl⟩
              rw [hN] at hNl hN1 happ ⊢
              have hNs : N.size ≤ 41 := by omega
              clear hNl hdl hN
              go_wp2
              refine ⟨⟨j + 1, r', nx ++ [q], by omega, hr2, rfl, by rw [hp.out, happ.out], by go_num, D2.out, (by first | rfl | trivial)⟩, by simp [intOf]; omega⟩
          · have hje : j = S.length := by omega
            have D1 := D.out
            rw [hje] at D1
            obtain ⟨I2, hl2⟩ := hstep.out nx r D1
            have I2 := hide I2
            have hl2 := hide hl2
            have hli : ¬ ((j : Int) < (T.size : Int)) := by omega
            have hw8 : IntKind.u8.wrap (r : Int) = (r : Int) := by rw [IntKind.wrap_u8']; omega
            have hu8 : (((UInt8.ofNat r).toNat : Nat) : Int) = (r : Int) := by rw [UInt8.toNat_ofNat']; omega
            have hnw := news_one wr (UInt8.ofNat r) 5
            rw [hu8] at hnw
            have hnw := hide hnw
            clear D1 hje
            have hfin : Hid (∀ v' W, Own W wr.heap.size v' (UInt8.ofNat r :: out) → Below wr.heap.size wr W → (∃ S out, Value.string (mkS nx) = .string (mkS S) ∧ Hid (BI (val S0) S out) ∧ Hid (Own W w.heap.size v' out) ∧ Hid (Below w.heap.size w W)) ∧ lenS (.string (mkS nx)) < lenS (.string T)) := fun v' W h1 h2 => by
              refine ⟨⟨nx, _, rfl, I2.out, h1.wider hlB, below_then hBl.out h2⟩, ?_⟩
              show (mkS nx).size < T.size
              rw [mkS_size, hsz]; exact hl2.out
            have hoc := hO.out.src
            have hol : out.length ≤ 41 := by omega
            rcases hoc with ⟨e, ho⟩ | ⟨g, cap, e, hsrc⟩
            · subst e ho
              go_wp2_with (first | (at_builtin; refine wpList_append_own_none rfl (.tmp 75) (.tmp 76) 37 rfl wr.heap.size 5 inf5.choose 1 Tryd.underlying37 inf5.choose_spec _ 1 (bcs [UInt8.ofNat r]) rfl h1.out rfl ?_) | (at_builtin; refine app_bytes rfl _ _ rfl wr.heap.size _ [] rfl ((own_nil _ _).alloc _) ⟨wr.heap.size, 0, none⟩ 1 1 [UInt8.ofNat r] rfl rfl hnw.out (by simp) (by simp) ?_; intro v1 w1 h1 h2 h3))
              exact hfin.out _ _ h1.out (((Below.refl wr.heap.size wr).alloc (Nat.le_refl _) _).trans h2.out)
            · subst e
              have hsz1 : Hid (∀ W1, Below wr.heap.size (wr.alloc (.cells #[.int .u8 (r : Int)] 5)) W1 → Below wr.heap.size wr W1) := fun W1 h => ((Below.refl wr.heap.size wr).alloc (Nat.le_refl _) _).trans h
              have hsrc := hide hsrc
              go_wp2_with (first | (at_builtin; refine app_bytes rfl (.tmp 75) (.tmp 76) rfl wr.heap.size _ [UInt8.ofNat r] rfl h1.out ⟨g, 0, none⟩ out.length cap out rfl rfl (hsrc.out w1 (hsz1.out _ h2.out)) (by simp; omega) h3' ?_; intro v2 w2 h4 h5 h6) | (at_builtin; refine app_bytes rfl _ _ rfl wr.heap.size _ [] rfl ((own_nil _ _).alloc _) ⟨wr.heap.size, 0, none⟩ 1 1 [UInt8.ofNat r] rfl rfl hnw.out (by simp) (by simp) ?_; intro v1 w1 h1 h2 h3; have h3' : wr.heap.size ≤ w1.heap.size := (hsz1.out _ h2.out).size))
              exact hfin.out _ _ h4.out ((hsz1.out _ h2.out).trans h5.out)
end Go.Proofs.YtjpdlibncmldlaaDoor
/- calamusref01's IsInt and what its Bytes refuses: walked. -/
namespace Go.Proofs.YtjpdlibncmldlaaDoor
open Go.RowKit
set_option linter.unusedSimpArgs false
set_option linter.unusedVariables false
theorem risint_any (n : Bool) (s : ByteArray) (x : Int) (w : World) (hs : s.size ≤ maxLen) :
    Calls Tryd.prog 27 #[.agg #[.bool n, .string s, .int .i64 x]] w fun e w' => e = .returned (.bool (isN n s x && decide (0 ≤ x))) ∧ Below w.heap.size w w' := by
  have hIs := hide (fun w => ris_any n s x w hs)
  have hB := hide (box_new w n s x)
  cases hN : isN n s x
  · rw [hN] at hIs
    go_enter Tryd.func27, Tryd.ntmps27
    go_wp2_with (first | (go_at_call 38; refine (hIs.out _).mono ?_; rintro e w1 ⟨rfl, hb1⟩; obtain ⟨c0, c1, c2, f0, f1, f2⟩ := (hB.out.below hb1 (hB.out.lt)).cells; have hb1 := hide (below_then (below_al (Below.refl _ _)) hb1)))
    go_ret
    exact ⟨by first | rfl | simp, hb1.out⟩
  · rw [hN] at hIs
    go_enter Tryd.func27, Tryd.ntmps27
    go_wp2_with (first | (go_at_call 38; refine (hIs.out _).mono ?_; rintro e w1 ⟨rfl, hb1⟩; obtain ⟨c0, c1, c2, f0, f1, f2⟩ := (hB.out.below hb1 (hB.out.lt)).cells; have hb1 := hide (below_then (below_al (Below.refl _ _)) hb1)))
    go_ret
    exact ⟨by first | rfl | simp, hb1.out⟩
theorem rbytes_no (n : Bool) (s : ByteArray) (x : Int) (w : World) (hs : s.size ≤ 100000) (h : bytesE n s x ≠ 0) :
    Calls Tryd.prog 25 #[.agg #[.bool n, .string s, .int .i64 x]] w fun e w' => e = .returned (.tuple #[.slice none 0 0, .int .i64 (bytesE n s x)]) ∧ Below w.heap.size w w' := by
  have hIs := hide (fun w => ris_any n s x w (by unfold maxLen; omega))
  have hB := hide (box_new w n s x)
  unfold bytesE at h ⊢
  cases hN : isN n s x
  · rw [hN] at hIs
    go_enter Tryd.func25, Tryd.ntmps25
    go_wp2_with (first | (go_at_call 38; refine (hIs.out _).mono ?_; rintro e w1 ⟨rfl, hb1⟩; obtain ⟨c0, c1, c2, f0, f1, f2⟩ := (hB.out.below hb1 (hB.out.lt)).cells; have hb1 := hide (below_then (below_al (Below.refl _ _)) hb1)))
    go_ret2
    exact ⟨rfl, hb1.out⟩
  · rw [hN] at hIs h
    obtain ⟨_, hl1, hl40, hx1, hx2, _⟩ := isN_all hN
    by_cases hx : x < 0
    · rw [if_pos rfl, if_pos hx]
      clear h hN
      go_enter Tryd.func25, Tryd.ntmps25
      go_wp2_with (first | (go_at_call 38; refine (hIs.out _).mono ?_; rintro e w1 ⟨rfl, hb1⟩; obtain ⟨c0, c1, c2, f0, f1, f2⟩ := (hB.out.below hb1 (hB.out.lt)).cells; have hb1 := hide (below_then (below_al (Below.refl _ _)) hb1)))
      go_ret2
      exact ⟨rfl, hb1.out⟩
    · by_cases h4 : 40 < (s.size : Int) + x
      · rw [if_pos rfl, if_neg hx, if_pos h4]
        clear h hN
        go_enter Tryd.func25, Tryd.ntmps25
        go_wp2_with (first | (go_at_call 38; refine (hIs.out _).mono ?_; rintro e w1 ⟨rfl, hb1⟩; obtain ⟨c0, c1, c2, f0, f1, f2⟩ := (hB.out.below hb1 (hB.out.lt)).cells; have hb1 := hide (below_then (below_al (Below.refl _ _)) hb1)))
        go_ret2
        exact ⟨rfl, hb1.out⟩
      · exfalso
        apply h
        rw [if_pos rfl, if_neg hx, if_neg h4]
end Go.Proofs.YtjpdlibncmldlaaDoor
/- Digits that grow in a row of the call's own: what calamusref01's Of leans on. -/
namespace Go.Proofs.YtjpdlibncmldlaaDoor
open Go.RowKit
set_option linter.unusedSimpArgs false
set_option linter.unusedVariables false
/-- Numbers as cells. -/
def ics (l : List Nat) : List Value := l.map fun c : Nat => Value.int .i64 (c : Int)
theorem ics_length (l : List Nat) : (ics l).length = l.length := by simp [ics]
theorem ics_append (a b : List Nat) : ics (a ++ b) = ics a ++ ics b := by simp [ics]
/-- v is a slice of the call's own (from block B on) of the numbers l. -/
def OwnI (W : World) (B : Nat) (v : Value) (l : List Nat) : Prop := W.ownsRow B 3 1 v l.length (ics l)
theorem ownI_nil (W : World) (B : Nat) : OwnI W B (.slice none 0 0) [] := World.ownsRow_nil _ _ _ _
theorem OwnI.alloc {W : World} {B : Nat} {v : Value} {l : List Nat} (h : OwnI W B v l) (o : Obj) : OwnI (W.alloc o) B v l := World.ownsRow.alloc h o
theorem OwnI.row {W : World} {B : Nat} {v : Value} {l : List Nat} (h : OwnI W B v l) : ∀ k, v.ownBlock = some k → B ≤ k := by
  obtain ⟨_, h⟩ := h
  rcases h with ⟨rfl, _⟩ | ⟨g, cap, cur, rfl, hg, _⟩
  · intro k hk; cases hk
  · intro k hk; cases hk; exact hg
theorem info3 : (Tryd.prog.info? 3).map (fun i => (i.zero, i.size, i.bytes)) = some (some (.int .i64 0), 1, 8) := by kernel_rfl
section
variable {w : World} {ops : Array Oper} {rest : List Oper} {o : Oper} {a : Act} {Q : Exit → Act → World → Prop}
theorem app_ints (hgd : o.guard = none) (s x : Operand) (ho : o.op = .call { callee := .builtin .append, args := #[s, x], argTypes := #[74, 74] })
    (B : Nat) (v : Value) (l : List Nat) (hs : a.eval s = v) (hown : OwnI w B v l) (ad : Addr) (m c : Nat) (news : List Nat) (hx : a.eval x = .slice (some ad) m c) (hm : news.length = m)
    (hnews : ∀ j u, (ics news)[j]? = some u → w.cell? (ad.add j) = some u) (hl : l.length + m ≤ 100000) (hB : B ≤ w.heap.size)
    (h : ∀ v' w', Hid (OwnI w' B v' (l ++ news)) → Hid (Below B w w') → w.heap.size ≤ w'.heap.size → wpList Tryd.prog ops Q rest (a.put o.dst v') w') : wpList Tryd.prog ops Q (o :: rest) a w := by
  obtain ⟨i0, hi, hz0, hz1, hz2⟩ := info_parts info3
  refine wpList_append_own w hgd s x 74 ho B 3 i0 (.int .i64 0) 1 8 Tryd.underlying74 hi hz0 hz1 hz2 rfl (by decide) v l.length (ics l) hs hown ad m c (ics news) hx (by rw [ics_length, hm]; simp) hnews ?_ ?_ ?_ hB ?_
  · intro u hu
    simp only [ics, List.mem_map] at hu
    obtain ⟨c, _, rfl⟩ := hu
    rfl
  · unfold maxLen; omega
  · omega
  · intro v' w' h1 h2 _
    refine h v' w' ?_ ?_ h2.size
    · show OwnI _ _ _ _
      unfold OwnI
      rw [ics_append, List.length_append, hm]; exact h1
    · exact (Below.refl B w).grown h2 hB hown.row
end
theorem newsI_one (w : World) (c : Nat) (T : TypeId) : ∀ j u, (ics [c])[j]? = some u → (w.alloc (.cells #[.int .i64 (c : Int)] T)).cell? ((⟨w.heap.size, 0, none⟩ : Addr).add j) = some u := cell_one_new _ _ _
/-- Where the row lies, what its cells hold, and what it is with one of them set. -/
theorem OwnI.at {W : World} {B : Nat} {v : Value} {l : List Nat} (h : OwnI W B v l) (k : Nat) (hk : k < l.length) : ∃ g cap, v = .slice (some ⟨g, 0, none⟩) l.length cap ∧ l.length ≤ cap ∧ cap ≤ maxLen ∧ B ≤ g ∧ W.cell? ⟨g, k, none⟩ = some (.int .i64 (l[k] : Nat)) ∧ W.frozen? ⟨g, k, none⟩ = false ∧
    ∀ x : Nat, OwnI (W.setCell ⟨g, k, none⟩ (.int .i64 (x : Int))) B v (l.set k x) := by
  have hh := h
  obtain ⟨h0, h⟩ := h
  rcases h with ⟨rfl, hz⟩ | ⟨g, cap, cur, rfl, h2, h3, h4, h5, h6, h7⟩
  · omega
  · have hcell : W.cell? ⟨g, k, none⟩ = some (.int .i64 (l[k] : Nat)) := by
      rw [World.ownsRow.cellAt hh k (by omega)]
      simp [ics, hk]
    refine ⟨g, cap, rfl, h4, h5, h2, hcell, by simp [World.frozen?, h3], fun x => ?_⟩
    refine ⟨by rw [ics_length, List.length_set]; omega, Or.inr ⟨g, cap, cur.setIfInBounds k (.int .i64 (x : Int)), by rw [List.length_set], h2, ?_, by rw [List.length_set]; exact h4, h5, by simpa using h6, ?_⟩⟩
    · rw [setCell_eq_setRow W g k cur 3 (0, 0) _ h3]
      exact setRow_heap W g cur _ 3 (0, 0) h3
    · rw [List.length_set, Array.toList_setIfInBounds, List.take_set, h7]
      simp [ics, List.map_set]
end Go.Proofs.YtjpdlibncmldlaaDoor
/- Digits times 256, again and again: what calamusref01's Of reckons. -/
namespace Go.Proofs.YtjpdlibncmldlaaDoor
open Go.RowKit
set_option linter.unusedVariables false
/-- What digits are worth, the least first. -/
def lv : List Nat → Nat
  | [] => 0
  | d :: l => d + 10 * lv l
theorem lv_append (a b : List Nat) : lv (a ++ b) = lv a + 10 ^ a.length * lv b := by
  induction a with
  | nil => simp [lv]
  | cons d t ih =>
    simp only [List.cons_append, lv, ih, List.length_cons, Nat.pow_succ]
    rw [Nat.mul_add, ← Nat.mul_assoc, Nat.mul_comm 10 (10 ^ t.length)]
    omega
theorem lv_rev (l : List Nat) : lv l = val l.reverse := by
  induction l with
  | nil => rfl
  | cons d t ih =>
    rw [List.reverse_cons, val_append, ← ih]
    simp [lv, val]
    omega
/-- Where the row stands: k digits are taken 256 times, with what was carried in. -/
structure MI (E : List Nat) (c0 : Nat) (k : Nat) (F : List Nat) (c : Nat) : Prop where
  len : F.length = E.length
  eq : lv (F.take k) + 10 ^ k * c = 256 * lv (E.take k) + c0
  dg : Dgs F
  rest : F.drop k = E.drop k
  c : c ≤ 255
theorem MI.start {E : List Nat} {c0 : Nat} (hE : Dgs E) (hc : c0 ≤ 255) : MI E c0 0 E c0 := ⟨rfl, by simp [lv], hE, rfl, hc⟩
theorem lv_take_succ (l : List Nat) (k : Nat) (h : k < l.length) : lv (l.take (k + 1)) = lv (l.take k) + 10 ^ k * l[k] := by
  rw [List.take_succ_eq_append_getElem h, lv_append, List.length_take, Nat.min_eq_left (by omega)]
  simp [lv]
theorem MI.get {E F : List Nat} {c0 k c : Nat} (h : MI E c0 k F c) (hk : k < E.length) : F[k]'(by have := h.len; omega) = E[k] := by
  have hF : k < F.length := by have := h.len; omega
  have := h.rest
  rw [List.drop_eq_getElem_cons hF, List.drop_eq_getElem_cons hk] at this
  exact (List.cons.inj this).1
theorem MI.step {E F : List Nat} {c0 k c : Nat} (h : MI E c0 k F c) (hk : k < E.length) {d v : Nat} (hd : E[k] = d) (h9 : d ≤ 9) (hv : 256 * d + c = v) : MI E c0 (k + 1) (F.set k (v % 10)) (v / 10) := by
  have hF : k < F.length := by have := h.len; omega
  have hc := h.c
  refine ⟨by rw [List.length_set]; exact h.len, ?_, ?_, ?_, by omega⟩
  · rw [lv_take_succ _ k (by rw [List.length_set]; exact hF), lv_take_succ E k hk, List.getElem_set_self, List.take_set, List.set_eq_of_length_le (by rw [List.length_take]; omega), hd, Nat.pow_succ]
    have h1 := h.eq
    have h2 : 10 ^ k * (v % 10) + 10 ^ k * 10 * (v / 10) = 10 ^ k * v := by
      rw [Nat.mul_assoc, ← Nat.mul_add]
      congr 1
      omega
    have h3 : 10 ^ k * v = 10 ^ k * (256 * d) + 10 ^ k * c := by rw [← hv, Nat.mul_add]
    have h4 : 10 ^ k * (256 * d) = 256 * (10 ^ k * d) := by rw [← Nat.mul_assoc, ← Nat.mul_assoc, Nat.mul_comm (10 ^ k) 256]
    omega
  · intro x hx
    rcases List.mem_or_eq_of_mem_set hx with hx | hx
    · exact h.dg x hx
    · omega
  · rw [List.drop_set_of_lt (by omega)]
    have := congrArg (List.drop 1) h.rest
    simpa [List.drop_drop, Nat.add_comm] using this
/-- What is carried out is laid on behind. -/
structure CI (V : Nat) (F : List Nat) (c : Nat) : Prop where
  eq : lv F + 10 ^ F.length * c = V
  dg : Dgs F
  c : c ≤ 255
theorem MI.done {E F : List Nat} {c0 c : Nat} (h : MI E c0 E.length F c) : CI (256 * lv E + c0) F c := by
  have h1 := h.eq
  have h2 := h.len
  rw [List.take_of_length_le (by omega), List.take_of_length_le (by omega)] at h1
  exact ⟨by rw [h2]; exact h1, h.dg, h.c⟩
theorem CI.step {V : Nat} {F : List Nat} {c : Nat} (h : CI V F c) : CI V (F ++ [c % 10]) (c / 10) := by
  have hc := h.c
  refine ⟨?_, ?_, by omega⟩
  · rw [lv_append, List.length_append, ← h.eq]
    simp only [lv, List.length_cons, List.length_nil, Nat.pow_succ, Nat.zero_add]
    have : 10 ^ F.length * (c % 10) + 10 ^ F.length * 10 * (c / 10) = 10 ^ F.length * c := by
      rw [Nat.mul_assoc, ← Nat.mul_add]
      congr 1
      omega
    simp
    omega
  · intro x hx
    rcases List.mem_append.1 hx with hx | hx
    · exact h.dg x hx
    · rw [List.mem_singleton] at hx; omega
end Go.Proofs.YtjpdlibncmldlaaDoor
/- calamusref01's Of: walked. -/
namespace Go.Proofs.YtjpdlibncmldlaaDoor
open Go.RowKit
set_option linter.unusedSimpArgs false
set_option linter.unusedVariables false
/-- Where Of stands: i bytes are taken. -/
structure QI (l : List Nat) (i : Nat) (E : List Nat) : Prop where
  eq : lv E = v256 (l.take i)
  dg : Dgs E
  big : E = [] ∨ 10 ^ (E.length - 1) ≤ lv E
  len : E.length ≤ 443
theorem QI.start (l : List Nat) : QI l 0 [] := ⟨rfl, fun d hd => (by cases hd), .inl rfl, by simp⟩
/-- How great what is laid on is. -/
def Bg (V n : Nat) : Prop := n = 0 ∨ 10 ^ (n - 1) ≤ V
theorem QI.bg {l : List Nat} {i : Nat} {E : List Nat} (h : QI l i E) (c : Nat) : Bg (256 * lv E + c) E.length := by
  rcases h.big with e | e
  · left; rw [e]; rfl
  · right; omega
theorem CI.bg {V : Nat} {F : List Nat} {c : Nat} (h : CI V F c) (hc : 0 < c) : Bg V (F ++ [c % 10]).length := by
  right
  rw [List.length_append]
  simp only [List.length_cons, List.length_nil, Nat.add_sub_cancel, Nat.zero_add]
  rw [← h.eq]
  have : 10 ^ F.length * 1 ≤ 10 ^ F.length * c := Nat.mul_le_mul_left _ hc
  omega
theorem CI.next {l : List Nat} {i : Nat} {E F : List Nat} (h : QI l i E) (hi : i < l.length) (c : CI (256 * lv E + l[i]) F 0) (hb : Bg (256 * lv E + l[i]) F.length) : lv F = v256 (l.take (i + 1)) ∧ Dgs F ∧ (F = [] ∨ 10 ^ (F.length - 1) ≤ lv F) := by
  have e := c.eq
  simp only [Nat.mul_zero, Nat.add_zero] at e
  refine ⟨?_, c.dg, ?_⟩
  · rw [e, v256_take_succ l i hi, h.eq, Nat.mul_comm]
  · rcases hb with hb | hb
    · exact .inl (List.eq_nil_of_length_eq_zero hb)
    · right; rw [e]; exact hb
theorem OwnI.shape {W : World} {B : Nat} {v : Value} {l : List Nat} (h : OwnI W B v l) : ∃ ad cap, v = .slice ad l.length cap ∧ l.length ≤ cap ∧ cap ≤ maxLen := by
  obtain ⟨h0, h⟩ := h
  rcases h with ⟨rfl, hz⟩ | ⟨g, cap, cur, rfl, h2, h3, h4, h5, h6, h7⟩
  · exact ⟨none, 0, by rw [hz], by omega, by decide⟩
  · exact ⟨_, cap, rfl, h4, h5⟩
theorem pow_443 (m : Nat) (h : m = 443) : 256 ^ 183 ≤ 10 ^ m := by subst h; decide +kernel
/-- So many digits are too many. -/
theorem far_of (neg : Bool) (l F : List Nat) (i n : Nat) (hn : n = 400) (hbig : 443 < F.length) (n1 : lv F = v256 (l.take (i + 1))) (n3 : F = [] ∨ 10 ^ (F.length - 1) ≤ lv F) : IsSum (Zof neg (v256 l) n) (false, ⟨#[]⟩, 0, 2) := by
  obtain ⟨m, hm⟩ : ∃ m, m = 443 := ⟨_, rfl⟩
  refine far_none neg (v256 l) 183 n hn (Nat.le_refl _) (Nat.le_trans (pow_443 m hm) ?_)
  rcases n3 with e | e
  · rw [e] at hbig; simp at hbig
  · refine Nat.le_trans (Nat.le_trans (Nat.pow_le_pow_right (by omega) (show m ≤ F.length - 1 by omega)) e) ?_
    rw [n1]
    conv => rhs; rw [← List.take_append_drop (i + 1) l, v256_app]
    have : 1 ≤ 256 ^ (l.drop (i + 1)).length := Nat.pow_pos (by omega)
    have h5 := Nat.mul_le_mul_left (v256 (l.take (i + 1))) this
    omega
/-- What Of answers. -/
def ofP (neg : Bool) (l : List Nat) (w : World) (e : Ending) (w' : World) : Prop := ∃ r, e = retF r ∧ Hid (∀ n, n = 400 → IsSum (Zof neg (v256 l) n) r) ∧ Below w.heap.size w w'
/-- Digits that a carry has. -/
def cd (c : Nat) : Nat := if c = 0 then 0 else if c < 10 then 1 else if c < 100 then 2 else 3
theorem cd_step {c : Nat} (h : 0 < c) (h' : c ≤ 255) : cd (c / 10) + 1 ≤ cd c := by
  unfold cd
  repeat' split
  all_goals omega
theorem cd_le (c : Nat) : cd c ≤ 3 := by
  unfold cd
  repeat' split
  all_goals omega
set_option maxHeartbeats 4000000 in
set_option maxRecDepth 100000 in
theorem rof_any (neg : Bool) (v : Value) (l : List Nat) (w : World) (hv : SB8 w v l) (hB : Bts l) :
    Calls Tryd.prog 22 #[.bool neg, v] w fun e w' => ofP neg l w e w' := by
  have hlen : ∃ a c, v = .slice a l.length c := by
    rcases hv with ⟨a, c, rfl, rfl⟩ | ⟨b, o, c, rfl, _⟩
    · exact ⟨a, c, rfl⟩
    · exact ⟨_, c, rfl⟩
  obtain ⟨av, cv, rfl⟩ := hlen
  have hv := hide hv
  obtain ⟨w0, hw0⟩ : ∃ w0, w.alloc (.cells #[.bool false, .string ⟨#[]⟩, .int .i64 0] 23) = w0 := ⟨_, rfl⟩
  have hb0 : Below w.heap.size w w0 := by rw [← hw0]; exact below_al (Below.refl _ _)
  have hbx : Box w0 w.heap.size false ⟨#[]⟩ 0 := by rw [← hw0]; exact box_new w false ⟨#[]⟩ 0
  have hs0 : w0.heap.size = w.heap.size + 1 := by rw [← hw0]; simp
  have hb0 := hide hb0
  have hbx := hide hbx
  have hs1 := hide hs0
  clear hs0
  have hl0 : l.length ≤ 9223372036854775807 := by
    rcases hv.out with ⟨a, c, _, e⟩ | ⟨b, o, c, _, h0, h1, h2, _⟩
    · rw [e]; simp
    · unfold maxLen at h2; omega
  go_enter Tryd.func22, Tryd.ntmps22
  go_wp2
  go_loopw [6, 7] (fun dv iv wr => ∃ (i : Nat) (E : List Nat), iv = .int .i64 i ∧ i ≤ l.length ∧ Hid (QI l i E) ∧ Hid (OwnI wr w0.heap.size dv E) ∧ Hid (Below w0.heap.size w0 wr)) (fun _ i _ => l.length - (intOf i).toNat)
  case atStart => exact ⟨0, [], rfl, Nat.zero_le _, QI.start l, ownI_nil _ _, Below.refl _ _⟩
  case round =>
    obtain ⟨i, E, rfl, hi, I, hO, hBl⟩ := hrel
    by_cases hlt : i < l.length
    · have hli : (i : Int) < (l.length : Int) := by omega
      obtain ⟨b, o, rfl, hcell'⟩ : ∃ b o, av = some ⟨b, o, none⟩ ∧ ∀ W, Below w.heap.size w W → W.cell? ⟨b, o + i, none⟩ = some (.int .u8 (l[i] : Nat)) := by
        rcases hv.out with ⟨a, c, _, e⟩ | ⟨b, o, c, e, h0, h1, h2, h3, hc⟩
        · rw [e] at hlt; simp at hlt
        · simp only [Value.slice.injEq] at e
          exact ⟨b, o, e.1, fun W hW => (hW.cell (p := ⟨b, o + i, none⟩) h3).trans (hc i hlt)⟩
      have hbw : Below w.heap.size w wr := below_then hb0.out hBl.out
      have hc0 := hcell' wr hbw
      clear hcell'
      obtain ⟨c0, hc0e⟩ : ∃ c0, l[i] = c0 := ⟨_, rfl⟩
      have hc255 : c0 ≤ 255 := by rw [← hc0e]; exact hB _ (List.getElem_mem _)
      rw [hc0e] at hc0
      have hbw := hide hbw
      have hc0h := hide hc0e
      clear hc0e
      have hEl := I.out.len
      have hE := hide I.out.dg
      obtain ⟨V, hV⟩ : ∃ V, 256 * lv E + c0 = V := ⟨_, rfl⟩
      have hnext := hide (fun F (c : CI V F 0) (hb : Bg V F.length) => CI.next (F := F) I.out hlt (by rw [hc0h.out, hV]; exact c) (by rw [hc0h.out, hV]; exact hb))
      have hbg := hide (show Bg V E.length by rw [← hV]; exact I.out.bg c0)
      have hM0 := hide (MI.start hE.out hc255)
      go_wp2_with fail
      go_loopw [8, 9] (fun cv kv W => ∃ (k c : Nat) (F : List Nat), kv = .int .i64 k ∧ cv = .int .i64 c ∧ k ≤ E.length ∧ c ≤ 255 ∧ Hid (MI E c0 k F c) ∧ Hid (OwnI W w0.heap.size u6 F) ∧ Hid (Below w0.heap.size w0 W)) (fun _ k _ => E.length - (intOf k).toNat)
      case atStart => exact ⟨0, c0, E, rfl, rfl, Nat.zero_le _, hc255, hM0.out, hO.out, hBl.out⟩
      case round =>
        obtain ⟨k, c, F, rfl, rfl, hk, hc, M, hOF, hBF⟩ := hrel
        have hFl := M.out.len
        by_cases hke : k < E.length
        · obtain ⟨d, hd⟩ : ∃ d, E[k] = d := ⟨_, rfl⟩
          have h9 : d ≤ 9 := by rw [← hd]; exact hE.out _ (List.getElem_mem _)
          obtain ⟨v, hv1⟩ : ∃ v, 256 * d + c = v := ⟨_, rfl⟩
          have hv2 : v ≤ 2559 := by omega
          have hvi : 256 * (d : Int) + c = v := by omega
          have hst := hide (M.out.step hke hd h9 hv1)
          obtain ⟨q, hq⟩ : ∃ q, v / 10 = q := ⟨_, rfl⟩
          obtain ⟨r, hr⟩ : ∃ r, v % 10 = r := ⟨_, rfl⟩
          have hq2 : q ≤ 255 := by omega
          have t1 : (v : Int).tdiv 10 = (q : Int) := by rw [Int.tdiv_eq_ediv_of_nonneg (by omega)]; omega
          have t2 : (v : Int).tmod 10 = (r : Int) := by rw [Int.tmod_eq_emod_of_nonneg (by omega)]; omega
          rw [hq, hr] at hst
          obtain ⟨g, cap, hu, hcap, hcapm, hg, hcl, hfz, hset⟩ := hOF.out.at k (by omega)
          rw [M.out.get hke, hd] at hcl
          rw [hFl] at hu hcap
          have hset := hide (hset r)
          rw [hu]
          have hki : (k : Int) < (E.length : Int) := by omega
          have hu1 := hide hu
          clear hd hv1 hq hr hu
          go_wp2
          refine ⟨⟨k + 1, q, F.set k r, by go_num, rfl, by omega, hq2, hst.out, ?_, below_set hBF.out hg⟩, by simp [intOf]; omega⟩
          show OwnI _ _ _ _
          rw [← hu1.out]
          exact hset.out
        · have hkE : k = E.length := by omega
          have M1 := M.out
          rw [hkE] at M1
          have C1 := M1.done
          rw [hV] at C1
          have C1 := hide C1
          have hbg1 := hide (show Bg V F.length by rw [hFl]; exact hbg.out)
          obtain ⟨ad, cap, hu, hcap, hcapm⟩ := hOF.out.shape
          rw [hFl] at hu hcap
          have hu1 := hide hu
          have hcd := cd_le c
          have hki : ¬ ((k : Int) < (E.length : Int)) := by omega
          have hF0 := hide (show F.length + cd c ≤ 446 by omega)
          clear hkE M1 hV
          rw [hu]
          clear hu
          go_wp2_with fail
          go_loopw [6, 8] (fun dv cv W => ∃ (c : Nat) (F : List Nat), cv = .int .i64 c ∧ c ≤ 255 ∧ Hid (F.length + cd c ≤ 446) ∧ Hid (CI V F c) ∧ Hid (Bg V F.length) ∧ Hid (OwnI W w0.heap.size dv F) ∧ Hid (Below w0.heap.size w0 W)) (fun _ c _ => (intOf c).toNat)
          case atStart => exact ⟨c, F, rfl, hc, hF0.out, C1.out, hbg1.out, by show OwnI _ _ _ _; rw [← hu1.out]; exact hOF.out, hBF.out⟩
          case round =>
            obtain ⟨c, F, rfl, hc, hF, C, hb, hOF, hBF⟩ := hrel
            have hwl : w0.heap.size ≤ wr.heap.size := hBF.out.size
            by_cases hc0 : 0 < c
            · obtain ⟨q, hq⟩ : ∃ q, c / 10 = q := ⟨_, rfl⟩
              obtain ⟨r, hr⟩ : ∃ r, c % 10 = r := ⟨_, rfl⟩
              have t1 : (c : Int).tdiv 10 = (q : Int) := by rw [Int.tdiv_eq_ediv_of_nonneg (by omega)]; omega
              have t2 : (c : Int).tmod 10 = (r : Int) := by rw [Int.tmod_eq_emod_of_nonneg (by omega)]; omega
              have hst := hide C.out.step
              have hb2 := hide (C.out.bg hc0)
              have hcs := cd_step hc0 hc
              rw [hq, hr] at hst
              rw [hr] at hb2
              rw [hq] at hcs
              have hF1 := hF.out
              have hF2 := hide (show (F ++ [r]).length + cd q ≤ 446 by rw [List.length_append]; simp; omega)
              have hFb := hide (show F.length + 1 ≤ 100000 by omega)
              have hqc := hide (show q < c ∧ q ≤ 255 by omega)
              have hnw := hide (newsI_one wr r 3)
              have hci : (0 : Int) < (c : Int) := by omega
              have hq255 : q ≤ 255 := hqc.out.2
              clear hq hr hcs hF1
              go_wp2_with (at_builtin; refine app_ints rfl _ _ rfl w0.heap.size _ F rfl (hOF.out.alloc _) ⟨wr.heap.size, 0, none⟩ 1 1 [r] rfl rfl hnw.out hFb.out (by simp; omega) ?_; intro v1 w1 h1 h2 h3)
              refine ⟨⟨q, F ++ [r], rfl, hqc.out.2, hF2.out, hst.out, hb2.out, h1.out, (hBF.out.alloc hwl _).trans h2.out⟩, ?_⟩
              have := hqc.out.1
              simp [intOf]; omega
            · have hce : c = 0 := by omega
              have C2 := C.out
              rw [hce] at C2
              obtain ⟨n1, n2, n3⟩ := hnext.out F C2 hb.out
              obtain ⟨ad, cap, hu, hcap, hcapm⟩ := hOF.out.shape
              have hF1 := hF.out
              obtain ⟨c0', c1', c2', f0', f1', f2'⟩ := (hbx.out.below hBF.out (by rw [hs1.out]; omega)).cells
              have hbw2 := hide (below_then hb0.out hBF.out)
              have hci : ¬ ((0 : Int) < (c : Int)) := by omega
              subst hu
              have hF446 : F.length ≤ 446 := by omega
              clear hF1 C2 hce
              by_cases hbig : (443 : Int) < (F.length : Int)
              · have hfar := hide (fun n hn => far_of neg l F i n hn (by omega) n1 n3)
                clear n1 n2 n3
                go_wp2
                exact bodyPost_ret (v := .tuple #[.agg #[.bool false, .string ⟨#[]⟩, .int .i64 0], .int .i64 2]) (by simp [results, Tryd.results22, go_sem, c0', c1', c2']) rfl ⟨_, rfl, hfar.out, by first | exact hbw2.out | exact ((hbw2.out.setCell (Nat.le_refl _) _).setCell (Nat.le_refl _) _).setCell (Nat.le_refl _) _⟩
              · have hq := hide (show QI l (i + 1) F from ⟨n1, n2, n3, by omega⟩)
                clear n1 n2 n3
                go_wp2
                refine ⟨⟨i + 1, F, by go_num, by omega, hq.out, hOF.out, hBF.out⟩, by simp [intOf]; omega⟩
    · have hie : i = l.length := by omega
      have hli : ¬ ((i : Int) < (l.length : Int)) := by omega
      obtain ⟨ad, cap, hu, hcap, hcapm⟩ := hO.out.shape
      have hEl := I.out.len
      have hE := hide I.out.dg
      have hval := hide (show lv E = v256 l by have := I.out.eq; rw [hie, List.take_length] at this; exact this)
      subst hu
      clear hie
      go_wp2_with fail
      go_loopw [11, 12] (fun sv kv W => ∃ m : Nat, m ≤ E.length ∧ sv = .string (mkS (0 :: (E.drop (E.length - m)).reverse)) ∧ kv = .int .i64 ((E.length : Int) - 1 - m) ∧ Hid (OwnI W w0.heap.size (.slice ad E.length cap) E) ∧ Hid (Below w0.heap.size w0 W)) (fun _ k _ => (intOf k + 1).toNat)
      case atStart => exact ⟨0, Nat.zero_le _, by rw [Nat.sub_zero, List.drop_length]; rfl, by simp, hO.out, hBl.out⟩
      case round =>
        obtain ⟨m, hm, rfl, rfl, hO2, hB2⟩ := hrel
        by_cases hml : m < E.length
        · obtain ⟨j, hj⟩ : ∃ j : Nat, E.length - 1 - m = j := ⟨_, rfl⟩
          have hji : (E.length : Int) - 1 - m = j := by omega
          have hjl : j < E.length := by omega
          obtain ⟨d, hd⟩ : ∃ d, E[j] = d := ⟨_, rfl⟩
          have h9 : d ≤ 9 := by rw [← hd]; exact hE.out _ (List.getElem_mem _)
          obtain ⟨g, cap', hu, _, _, hg, hcl, hfz, _⟩ := hO2.out.at j hjl
          simp only [Value.slice.injEq] at hu
          obtain ⟨rfl, _, rfl⟩ := hu
          rw [hd] at hcl
          have hpc := hide (dig_piece d h9)
          have hcat := hide (show mkS (0 :: (E.drop (E.length - m)).reverse) ++ mkS [d] = mkS (0 :: (E.drop (E.length - (m + 1))).reverse) by
            rw [mkS_app, show E.length - (m + 1) = j by omega, List.drop_eq_getElem_cons hjl, hd, List.reverse_cons, show j + 1 = E.length - m by omega, List.cons_append])
          obtain ⟨A, hA⟩ : ∃ A, mkS (0 :: (E.drop (E.length - m)).reverse) = A := ⟨_, rfl⟩
          have hAs : A.size ≤ 500 := by rw [← hA, mkS_size]; simp; omega
          rw [hA] at hcat ⊢
          have hjE : (j : Int) < (E.length : Int) := by omega
          have hj0 : (0 : Int) ≤ (j : Int) := by omega
          rw [hji]
          have hj1 := hide hj
          clear hd hA hj hji
          have e1 : IntKind.i64.wrap ((d : Int) + 1) = (d : Int) + 1 := by rw [IntKind.wrap_i64]; omega
          go_wp2_with fail
          go_quiet (fail)
          go_wp2
          refine ⟨⟨m + 1, by omega, by first | (rw [hpc.out, hcat.out]) | (rw [← hcat.out, ← hpc.out]), ?_, hO2.out, below_dn' hB2.out _⟩, by first | (simp [intOf]; done) | (simp [intOf]; omega)⟩
          have := hj1.out
          exact congrArg (Value.int IntKind.i64) (by omega)
        · have hme : m = E.length := by omega
          have hki : ¬ ((0 : Int) ≤ (E.length : Int) - 1 - (m : Int)) := by omega
          have hmd := hide (fun W => made_any neg (0 :: E.reverse) 0 W (by
            intro x hx
            rcases List.mem_cons.1 hx with e | e
            · omega
            · exact hE.out x (List.mem_reverse.1 e)) (by simp; omega) (by omega) (by omega))
          have hfo := hide (fun n hn => formF_of neg (0 :: E.reverse) (by
            intro x hx
            rcases List.mem_cons.1 hx with e | e
            · omega
            · exact hE.out x (List.mem_reverse.1 e)) n hn)
          have hvl : val (0 :: E.reverse) = v256 l := by
            rw [← hval.out, lv_rev]
            simp [val]
          rw [hvl] at hfo
          obtain ⟨r, hr⟩ : ∃ r, formF neg (0 :: E.reverse) 0 = r := ⟨_, rfl⟩
          rw [hr] at hmd hfo
          rw [hme, Nat.sub_self, List.drop_zero]
          have hme1 := hide hme
          obtain ⟨T, hT⟩ : ∃ T, mkS (0 :: E.reverse) = T := ⟨_, rfl⟩
          rw [hT] at hmd ⊢
          obtain ⟨c0', c1', c2', f0', f1', f2'⟩ := (hbx.out.below hB2.out (by rw [hs1.out]; omega)).cells
          have hbw2 := hide (below_then hb0.out hB2.out)
          clear hr hvl hT hme
          obtain ⟨rn, rs, rx, re⟩ := r
          unfold retM at hmd
          have hcase : re = 0 ∨ (rn, rs, rx, re) = (false, (⟨#[]⟩ : ByteArray), (0 : Int), (2 : Int)) := by
            rcases hfo.out 400 rfl with h | h
            · exact .inl h.1
            · exact .inr h.1
          rcases hcase with rfl | hc
          · simp only [beq_self_eq_true] at hmd
            go_wp2_with (first | (go_at_call 34; refine (hmd.out _).mono ?_; rintro e w3 ⟨rfl, hb3⟩; obtain ⟨c0', c1', c2', f0', f1', f2'⟩ := ((hbx.out.below (below_then hB2.out hb3) (by rw [hs1.out]; omega)).alloc (.cells #[.bool rn, .string rs, .int .i64 rx] 23)).cells; have hb3 := hide (below_then hbw2.out hb3)))
            exact bodyPost_ret (v := .tuple #[.agg #[.bool rn, .string rs, .int .i64 rx], .int .i64 0]) (by simp [results, Tryd.results22, go_sem, c0', c1', c2']) rfl ⟨(rn, rs, rx, 0), rfl, hfo.out, by first | exact ((((below_al hb3.out)).setCell (Nat.le_refl _) _).setCell (Nat.le_refl _) _).setCell (Nat.le_refl _) _ | exact below_al hb3.out⟩
          · simp only [Prod.mk.injEq] at hc
            obtain ⟨rfl, rfl, rfl, rfl⟩ := hc
            simp only [show ((2 : Int) == 0) = false from rfl] at hmd
            go_wp2_with (first | (go_at_call 34; refine (hmd.out _).mono ?_; rintro e w3 ⟨rfl, hb3⟩; obtain ⟨c0', c1', c2', f0', f1', f2'⟩ := ((hbx.out.below (below_then hB2.out hb3) (by rw [hs1.out]; omega)).alloc (.cells #[.bool false, .string ⟨#[]⟩, .int .i64 0] 23)).cells; have hb3 := hide (below_then hbw2.out hb3)))
            exact bodyPost_ret (v := .tuple #[.agg #[.bool false, .string ⟨#[]⟩, .int .i64 0], .int .i64 2]) (by simp [results, Tryd.results22, go_sem, c0', c1', c2']) rfl ⟨(false, ⟨#[]⟩, 0, 2), rfl, hfo.out, by first | exact ((((below_al hb3.out)).setCell (Nat.le_refl _) _).setCell (Nat.le_refl _) _).setCell (Nat.le_refl _) _ | exact below_al hb3.out⟩
end Go.Proofs.YtjpdlibncmldlaaDoor
/- A slice of bytes that is handed in, and its copy with a mark behind it. -/
namespace Go.Proofs.YtjpdlibncmldlaaDoor
open Go.RowKit
set_option linter.unusedSimpArgs false
set_option linter.unusedVariables false
/-- A slice of bytes reads as l. -/
def SL (w : World) (v : Value) (l : List UInt8) : Prop :=
  (v = .slice none 0 0 ∧ l = []) ∨ ∃ (a : Addr) (c : Nat), v = .slice (some a) l.length c ∧ l.length ≤ c ∧ c ≤ maxLen ∧ ∀ i (h : i < l.length), a.block < w.heap.size ∧ w.cell? (a.add i) = some (.int .u8 (l[i].toNat : Int))
theorem SL.conv {w : World} {v : Value} {l : List UInt8} (h : SL w v l) : (convert 37 9 v).run Tryd.prog w = .ok (.string (mkB l)) w := by
  rcases h with ⟨rfl, rfl⟩ | ⟨a, c, rfl, _, _, hc⟩
  · exact run_convert_bytes_nil w 37 5 Tryd.underlying37 Tryd.underlying5 0 0 9 Tryd.underlying9
  · exact run_convert_bytes_back w 37 9 5 a c l Tryd.underlying37 Tryd.underlying5 Tryd.underlying9 (fun j hj => (hc j hj).2)
theorem add_block (a : Addr) (i : Nat) : (a.add i).block = a.block := by unfold Addr.add; split <;> rfl
theorem SL.below {w W : World} {v : Value} {l : List UInt8} (h : SL w v l) (hb : Below w.heap.size w W) : SL W v l := by
  rcases h with ⟨rfl, rfl⟩ | ⟨a, c, rfl, h1, h2, hc⟩
  · exact Or.inl ⟨rfl, rfl⟩
  · exact Or.inr ⟨a, c, rfl, h1, h2, fun i hi => ⟨Nat.lt_of_lt_of_le (hc i hi).1 hb.size, (hb.cell (p := a.add i) (by rw [add_block]; exact (hc i hi).1)).trans (hc i hi).2⟩⟩
theorem SL.len {w : World} {v : Value} {l : List UInt8} (h : SL w v l) : ∃ a c, v = .slice a l.length c ∧ l.length ≤ c ∧ c ≤ maxLen := by
  rcases h with ⟨rfl, rfl⟩ | ⟨a, c, rfl, h1, h2, _⟩
  · exact ⟨none, 0, rfl, Nat.le_refl _, by decide⟩
  · exact ⟨some a, c, rfl, h1, h2⟩
theorem size5 : (Tryd.prog.info? 5).map (·.size) = some 1 := by kernel_rfl
theorem cur_len {cur : List Value} {n : Nat} (h : cur.toArray = madeCells #[.int .u8 0] (n + 1)) : cur.length = n + 1 := by
  have := congrArg Array.size h
  simpa [madeCells] using this
theorem copy_facts {wr : World} {ax : Option Addr} {n cx : Nat} {l : List UInt8} {cur cs : List Value} (sx : SL wr (.slice ax l.length cx) l) (hn : l.length = n) (hcur : cur.toArray = madeCells #[.int .u8 0] (n + 1)) (hcells : cs = l.map fun c : UInt8 => Value.int .u8 (c.toNat : Int)) (hc1 : n ≤ cx) :
    (wr.alloc (.cells cur.toArray 5)).heap[wr.heap.size]? = some (.cells cur.toArray 5 (0, 0)) ∧ cs.length = Nat.min n (n + 1) ∧
    (0 < cs.length → (some ⟨wr.heap.size, 0, none⟩ : Option Addr) = some ⟨wr.heap.size, 0, none⟩ ∧ ∃ ad, ax = some ad ∧ ∀ j v, cs[j]? = some v → (wr.alloc (.cells cur.toArray 5)).cell? (ad.add j) = some v) ∧ 0 + cs.length ≤ cur.length ∧ ∀ v ∈ cs, v.oneCell' = true := by
  have hcl : cs.length = n := by rw [hcells, List.length_map, hn]
  refine ⟨show (wr.heap.push _)[wr.heap.size]? = _ by simp, by rw [hcl]; show n = min n (n + 1); omega, fun h => ⟨rfl, ?_⟩, by rw [cur_len hcur]; omega, ?_⟩
  · rcases sx with ⟨e, hl⟩ | ⟨ad, c, e, h1, h2, hc⟩
    · subst hl; simp at hn; omega
    · simp only [Value.slice.injEq] at e
      obtain ⟨rfl, _, _⟩ := e
      refine ⟨ad, rfl, fun j v hj => ?_⟩
      rw [hcells, List.getElem?_map] at hj
      obtain ⟨x, hx, rfl⟩ := Option.map_eq_some_iff.1 hj
      obtain ⟨hjl, rfl⟩ := List.getElem?_eq_some_iff.1 hx
      obtain ⟨k1, k2⟩ := hc j hjl
      exact ((below_al (o := .cells cur.toArray 5) (Below.refl _ _)).cell (p := ad.add j) (by rw [add_block]; exact k1)).trans k2
  · intro v hv
    rw [hcells] at hv
    obtain ⟨c, _, rfl⟩ := List.mem_map.1 hv
    rfl
theorem copy_run {wr : World} {ax : Option Addr} {n cx : Nat} {l : List UInt8} {cur cs : List Value} (sx : SL wr (.slice ax l.length cx) l) (hn : l.length = n) (hcur : cur.toArray = madeCells #[.int .u8 0] (n + 1)) (hcells : cs = l.map fun c : UInt8 => Value.int .u8 (c.toNat : Int)) :
    ∃ W2, (Builtin.copy_ #[37, 37] 3 #[.slice (some ⟨wr.heap.size, 0, none⟩) (n + 1) (n + 1), .slice ax n cx]).run Tryd.prog (wr.alloc (.cells cur.toArray 5)) = .ok (.int .i64 n) W2 ∧ W2.heap[wr.heap.size]? = some (.cells (splice cur 0 cs).toArray 5 (0, 0)) ∧ Below wr.heap.size wr W2 := by
  have hcx : n ≤ cx := by
    rcases sx with ⟨e, hl⟩ | ⟨ad, c, e, h1, h2, hc⟩
    · subst hl; simp at hn; omega
    · simp only [Value.slice.injEq] at e
      obtain ⟨_, _, rfl⟩ := e
      omega
  obtain ⟨f1, f2, f3, f4, f5⟩ := copy_facts sx hn hcur hcells hcx
  have hcl : cs.length = n := by rw [hcells, List.length_map, hn]
  rcases sx with ⟨e, hl⟩ | ⟨ad, c, e, h1, h2, hc⟩
  · simp only [Value.slice.injEq] at e
    obtain ⟨rfl, _, rfl⟩ := e
    have hn0 : n = 0 := by rw [← hn, hl]; rfl
    subst hn0
    obtain rfl : cs = [] := List.eq_nil_of_length_eq_zero hcl
    exact ⟨_, run_copy_nil (P := Tryd.prog) _ _ _ _ 5 _ _ _ Tryd.underlying37 (by rw [size5]; rfl), by simpa [splice] using f1, below_al (Below.refl _ _)⟩
  · simp only [Value.slice.injEq] at e
    obtain ⟨rfl, _, rfl⟩ := e
    have hsrc : ∀ j v, cs[j]? = some v → (wr.alloc (.cells cur.toArray 5)).cell? (ad.add j) = some v := by
      intro j v hj
      obtain ⟨hjl, _⟩ := List.getElem?_eq_some_iff.1 hj
      obtain ⟨_, ad', e', h⟩ := f3 (by omega)
      cases e'
      exact h j v hj
    have hr := run_copy_row (P := Tryd.prog) (wr.alloc (.cells cur.toArray 5)) 37 37 3 5 wr.heap.size 0 (n + 1) (n + 1) ad n cx cur.toArray 5 cs Tryd.underlying37 size5 f1 f2 hsrc (by simpa using f4) f5
    rw [hcl] at hr
    refine ⟨_, hr, ?_, below_setRow (below_al (Below.refl _ _)) (Nat.le_refl _) _⟩
    have := setRow_heap (wr.alloc (.cells cur.toArray 5)) wr.heap.size cur.toArray (cur.toArray.toList.take 0 ++ cs ++ cur.toArray.toList.drop (0 + n)).toArray 5 (0, 0) f1
    rw [this]
    simp [splice, hcl]
theorem last_cell {w : World} {g n : Nat} {cur cs : List Value} {t : TypeId} (h : w.heap[g]? = some (.cells (splice cur 0 cs).toArray t (0, 0))) (hc : cs.length = n) (hn : cur.length = n + 1) :
    (∃ z, w.cell? ⟨g, n, none⟩ = some z) ∧ w.frozen? ⟨g, n, none⟩ = false := by
  have hl : (splice cur 0 cs).length = n + 1 := by rw [length_splice _ _ _ (by omega)]; exact hn
  refine ⟨?_, by simp [World.frozen?, h]⟩
  simp [World.cell?, h]
  exact ⟨_, List.getElem?_eq_getElem (by omega)⟩
theorem own_facts {W2 W3 : World} {g n : Nat} {l : List UInt8} {cur cs : List Value} {t : TypeId} (h : W2.heap[g]? = some (.cells (splice cur 0 cs).toArray t (0, 0))) (hW : W2.setCell ⟨g, n, none⟩ (.int .u8 77) = W3) (hn : l.length = n) (hcells : cs = l.map fun c : UInt8 => Value.int .u8 (c.toNat : Int)) (hc : cur.length = n + 1) (hmx : n + 1 ≤ maxLen) :
    SL W3 (.slice (some ⟨g, 0, none⟩) n (n + 1)) l ∧ W3.cell? ⟨g, n, none⟩ = some (.int .u8 77) := by
  have ml : maxLen = 2 ^ 63 - 1 := rfl
  have hcl : cs.length = n := by rw [hcells, List.length_map, hn]
  have hl : (splice cur 0 cs).length = n + 1 := by rw [length_splice _ _ _ (by omega)]; exact hc
  rw [setCell_eq_setRow W2 g n _ t (0, 0) _ h] at hW
  have hr := setRow_heap W2 g _ ((splice cur 0 cs).toArray.setIfInBounds n (.int .u8 77)) t (0, 0) h
  rw [hW] at hr
  have hcell : ∀ i, W3.cell? ⟨g, i, none⟩ = ((splice cur 0 cs).toArray.setIfInBounds n (.int .u8 77))[i]? := by
    intro i
    simp [World.cell?, hr]
  have hlt : g < W3.heap.size := by
    by_cases hlt : g < W3.heap.size
    · exact hlt
    · have hn : W3.heap[g]? = none := by simp; omega
      rw [hn] at hr; cases hr
  refine ⟨Or.inr ⟨⟨g, 0, none⟩, n + 1, by rw [hn], by omega, hmx, fun i hi => ⟨hlt, ?_⟩⟩, ?_⟩
  · have e1 : (⟨g, 0, none⟩ : Addr).add i = ⟨g, i, none⟩ := by unfold Addr.add; split <;> simp_all
    rw [e1, hcell, Array.getElem?_setIfInBounds, if_neg (by omega)]
    simp only [splice, List.take_zero, List.nil_append, List.getElem?_toArray]
    rw [List.getElem?_append_left (by omega), hcells, List.getElem?_map, List.getElem?_eq_getElem hi]
    rfl
  · rw [hcell, Array.getElem?_setIfInBounds, if_pos rfl, if_pos (by simp; omega)]
theorem slo_lt {W : World} {g n : Nat} {v : Value} (h : W.cell? ⟨g, n, none⟩ = some v) : g < W.heap.size := by
  by_cases hlt : g < W.heap.size
  · exact hlt
  · have hn : W.heap[g]? = none := by simp; omega
    simp [World.cell?, hn] at h
theorem slo_same {W W1 : World} {g n c : Nat} {l : List UInt8} (h : W1.heap[g]? = W.heap[g]?) (hs : W.heap.size ≤ W1.heap.size) (sl : SL W (.slice (some ⟨g, 0, none⟩) n c) l) : SL W1 (.slice (some ⟨g, 0, none⟩) n c) l := by
  rcases sl with ⟨e, _⟩ | ⟨a, c', e, h1, h2, hc⟩
  · cases e
  · simp only [Value.slice.injEq, Option.some.injEq] at e
    obtain ⟨rfl, rfl, rfl⟩ := e
    refine Or.inr ⟨⟨g, 0, none⟩, c, rfl, h1, h2, fun i hi => ⟨Nat.lt_of_lt_of_le (hc i hi).1 hs, ?_⟩⟩
    have := (hc i hi).2
    rw [← this]
    have e1 : (⟨g, 0, none⟩ : Addr).add i = ⟨g, i, none⟩ := by unfold Addr.add; split <;> simp_all
    rw [e1]
    unfold World.cell?
    simp only [h]
theorem SL.sb8 {w : World} {v : Value} {l : List UInt8} (h : SL w v l) : SB8 w v (l.map UInt8.toNat) := by
  rcases h with ⟨rfl, rfl⟩ | ⟨a, c, rfl, h1, h2, hc⟩
  · exact Or.inl ⟨none, 0, rfl, rfl⟩
  · rcases Nat.eq_zero_or_pos l.length with e | e
    · exact Or.inl ⟨some a, c, by rw [e], by rw [List.eq_nil_of_length_eq_zero e]; rfl⟩
    · obtain ⟨b, o, sp⟩ := a
      obtain rfl : sp = none := by
        have h0 := (hc 0 e).2
        have e0 : (⟨b, o, sp⟩ : Addr).add 0 = ⟨b, o, sp⟩ := rfl
        rw [e0] at h0
        cases sp with
        | none => rfl
        | some q => unfold World.cell? at h0; split at h0 <;> simp at h0
      refine Or.inr ⟨b, o, c, by rw [List.length_map], by rw [List.length_map]; exact e, by rw [List.length_map]; exact h1, h2, (hc 0 e).1, fun i hi => ?_⟩
      rw [List.length_map] at hi
      have e1 : (⟨b, o, none⟩ : Addr).add i = ⟨b, o + i, none⟩ := by unfold Addr.add; split <;> simp_all
      have := (hc i hi).2
      rw [e1] at this
      rw [this, List.getElem_map]
theorem bts_map (l : List UInt8) : Bts (l.map UInt8.toNat) := fun d hd => by
  obtain ⟨c, _, rfl⟩ := List.mem_map.1 hd
  have := c.toNat_lt
  omega
end Go.Proofs.YtjpdlibncmldlaaDoor
/- calamuslaw01.NumBytes: what it calls, as it wants it. -/
namespace Go.Proofs.YtjpdlibncmldlaaDoor
open Go.RowKit
set_option linter.unusedSimpArgs false
set_option linter.unusedVariables false
theorem isint_any (n : Bool) (s : ByteArray) (x : Int) (w : World) (hs : s.size ≤ maxLen) :
    Calls Tryd.prog 26 #[.agg #[.bool n, .string s, .int .i64 x]] w fun e w' => e = .returned (.bool (isN n s x && decide (0 ≤ x))) ∧ Below w.heap.size w w' := by
  have hB := hide (box_new w n s x)
  cases hN : isN n s x
  · have hIs := hide (fun w => check_no n s x w hs hN)
    go_enter Tryd.func26, Tryd.ntmps26
    go_wp2_with (first | (go_at_call 15; refine (hIs.out _).mono ?_; rintro e w1 ⟨rfl, hb1⟩; obtain ⟨c0, c1, c2, f0, f1, f2⟩ := (hB.out.below hb1 (hB.out.lt)).cells; have hb1 := hide (below_then (below_al (Below.refl _ _)) hb1)))
    go_ret
    exact ⟨by first | rfl | simp, hb1.out⟩
  · have hIs := hide (fun w => check_ok n s x w hs hN)
    go_enter Tryd.func26, Tryd.ntmps26
    go_wp2_with (first | (go_at_call 15; refine (hIs.out _).mono ?_; rintro e w1 ⟨rfl, hb1⟩; obtain ⟨c0, c1, c2, f0, f1, f2⟩ := (hB.out.below hb1 (hB.out.lt)).cells; have hb1 := hide (below_then (below_al (Below.refl _ _)) hb1)))
    go_ret
    exact ⟨by first | rfl | simp, hb1.out⟩
theorem ba_dec (A B : ByteArray) : (A.toList == B.toList) = decide (A = B) := by
  rw [Bool.eq_iff_iff, beq_iff_eq, decide_eq_true_iff]
  exact ⟨fun e => ByteArray.ext (Array.toList_inj.1 (by rw [ByteArray.toList_eq, ByteArray.toList_eq] at e; exact e)), fun e => by rw [e]⟩
theorem same_any (u v : Value) (l m : List UInt8) (w : World) (hu : SL w u l) (hv : SL w v m) :
    Calls Tryd.prog 23 #[u, v] w fun e w' => e = .returned (.bool (decide (l = m))) ∧ Below w.heap.size w w' := by
  obtain ⟨au, cu, rfl, _, _⟩ := hu.len
  obtain ⟨av, cv, rfl, _, _⟩ := hv.len
  have hcu := hu.conv
  have hcv := hv.conv
  have e : decide (mkB l = mkB m) = decide (l = m) := by
    have : (mkB l = mkB m) ↔ l = m := ⟨fun h => by rw [← bl_mkB l, h, bl_mkB], fun h => by rw [h]⟩
    simp [this]
  obtain ⟨A, hA⟩ : ∃ A, mkB l = A := ⟨_, rfl⟩
  obtain ⟨B, hB⟩ : ∃ B, mkB m = B := ⟨_, rfl⟩
  rw [hA] at hcu e
  rw [hB] at hcv e
  rw [← e]
  clear hA hB e hu hv
  go_enter Tryd.func23, Tryd.ntmps23
  go_wp2
  go_ret
  exact ⟨by rw [← ba_dec]; rfl, Below.refl _ _⟩
theorem Own.sl {W : World} {B : Nat} {v : Value} {l : List UInt8} (h : Own W B v l) : SL W v l := by
  have hc := h
  obtain ⟨h0, h⟩ := h
  rcases h with ⟨rfl, hn⟩ | ⟨g, cap, cur, rfl, hg, hh, h1, h2, h3, h4⟩
  · exact Or.inl ⟨rfl, List.eq_nil_of_length_eq_zero hn⟩
  · have hgl : g < W.heap.size := (Array.getElem?_eq_some_iff.1 hh).1
    have hcells : ∀ j u, (bcs l)[j]? = some u → W.cell? ((⟨g, 0, none⟩ : Addr).add j) = some u := World.ownsRow.cells hc (g := g) rfl
    refine Or.inr ⟨⟨g, 0, none⟩, cap, rfl, by omega, h2, fun i hi => ⟨hgl, ?_⟩⟩
    exact hcells i (.int .u8 (l[i]).toNat) (by simp [bcs, List.getElem?_eq_getElem hi])
/-- Bytes of one worth, without a nought in front, are the same. -/
theorem len_of_v {a : List Nat} (hB : Bts a) (h : ∀ c, a.head? = some c → c ≠ 0) (k : Nat) (hv : v256 a < 256 ^ k) : a.length ≤ k := by
  cases a with
  | nil => exact Nat.zero_le _
  | cons d t =>
    have h1 := v256_ge (l := t) (h d rfl)
    have h2 : 256 ^ t.length < 256 ^ k := by omega
    have := (Nat.pow_lt_pow_iff_right (by omega : 1 < 256)).1 h2
    simp only [List.length_cons]; omega
theorem bytes_same {a b : List UInt8} (h : v256 (a.map UInt8.toNat) = v256 (b.map UInt8.toNat)) (ha : ∀ c, a.head? = some c → c ≠ 0) (hb : ∀ c, b.head? = some c → c ≠ 0) : a = b := by
  have Ba := bts_map a
  have Bb := bts_map b
  have key : ∀ l : List UInt8, (∀ c, l.head? = some c → c ≠ 0) → ∀ c, (l.map UInt8.toNat).head? = some c → c ≠ 0 := by
    intro l hl c hc
    cases l with
    | nil => simp at hc
    | cons d t =>
      simp only [List.map_cons, List.head?_cons, Option.some.injEq] at hc
      have := hl d rfl
      intro h0
      apply this
      rw [h0] at hc
      exact UInt8.toNat_inj.1 (by rw [hc]; rfl)
  have l1 := len_of_v Ba (key a ha) _ (by rw [h]; exact v256_lt _ Bb)
  have l2 := len_of_v Bb (key b hb) _ (by rw [← h]; exact v256_lt _ Ba)
  have e := v256_inj _ _ Ba Bb (by omega) h
  exact (List.map_inj_right (fun x y => UInt8.toNat_inj.1)).1 e
theorem trimB_v (P : List Nat) (hB : Bts P) : v256 ((trimB P).map UInt8.toNat) = v256 P := by
  rw [v256_lz P]
  congr 1
  unfold trimB
  rw [List.map_map]
  conv => rhs; rw [← List.map_id (P.drop (lz P))]
  apply List.map_congr_left
  intro d hd
  have := hB d (List.mem_of_mem_drop hd)
  simp only [Function.comp, UInt8.toNat_ofNat', id]
  omega
theorem trimB_nz (P : List Nat) (hB : Bts P) : ∀ c, (trimB P).head? = some c → c ≠ 0 := by
  intro c hc h0
  subst h0
  have htl : (trimB P).length = (P.drop (lz P)).length := by unfold trimB; rw [List.length_map]
  have hl : 0 < (trimB P).length := by cases h : trimB P with
    | nil => rw [h] at hc; simp at hc
    | cons a t => simp
  have hlz : lz P < P.length := by rw [htl, List.length_drop] at hl; omega
  have h1 := lz_ne P hlz
  have h255 := hB _ (List.getElem_mem hlz)
  have e : (trimB P)[0]'hl = 0 := by
    rw [List.head?_eq_getElem?, List.getElem?_eq_getElem hl] at hc
    exact Option.some.inj hc
  have e2 : ((trimB P)[0]'hl).toNat = P[lz P] := by
    simp only [trimB, List.getElem_map, List.getElem_drop, Nat.add_zero]
    rw [UInt8.toNat_ofNat']
    omega
  rw [e] at e2
  exact h1 e2.symm
/-- These are the bytes that Bytes answers. -/
def isB (n : Bool) (s : ByteArray) (x : Int) (o : List UInt8) : Prop :=
  (bytesE n s x = 0 ∧ v256 (o.map UInt8.toNat) = val (dg s) * 10 ^ x.toNat ∧ ∀ c, o.head? = some c → c ≠ 0) ∨ (bytesE n s x ≠ 0 ∧ o = [])
theorem isB_one {n : Bool} {s : ByteArray} {x : Int} {o p : List UInt8} (h : isB n s x o) (k : isB n s x p) : o = p := by
  rcases h with ⟨h0, h1, h2⟩ | ⟨h0, rfl⟩
  · rcases k with ⟨_, k1, k2⟩ | ⟨k0, _⟩
    · exact bytes_same (by rw [h1, k1]) h2 k2
    · exact absurd h0 k0
  · rcases k with ⟨k0, _⟩ | ⟨_, rfl⟩
    · exact absurd k0 h0
    · rfl
def byP (n : Bool) (s : ByteArray) (x E : Int) (w : World) (e : Ending) (w' : World) : Prop :=
  ∃ v' o, e = .returned (.tuple #[v', .int .i64 E]) ∧ Hid (SL w' v' o ∧ isB n s x o) ∧ Hid (Below w.heap.size w w')
theorem bytesA_any (n : Bool) (s : ByteArray) (x E : Int) (hE : bytesE n s x = E) (hs : s.size ≤ 100000) (w : World) :
    Calls Tryd.prog 24 #[.agg #[.bool n, .string s, .int .i64 x]] w fun e w' => byP n s x E w e w' := by
  subst hE
  by_cases hbe : bytesE n s x = 0
  · obtain ⟨hN, h0, h40⟩ := bytes_yes hbe
    refine (bytes_ok n s x w hN h0 h40).mono ?_
    rintro e w' ⟨v', P, rfl, hP, hO, hb⟩
    rw [hbe]
    exact ⟨v', _, rfl, ⟨hO.out.sl, Or.inl ⟨hbe, by rw [trimB_v P hP.out.2.1]; exact hP.out.2.2, trimB_nz P hP.out.2.1⟩⟩, hb⟩
  · refine (bytes_no n s x w hs hbe).mono ?_
    rintro e w' ⟨rfl, hb⟩
    exact ⟨_, [], rfl, ⟨Or.inl ⟨rfl, rfl⟩, Or.inr ⟨hbe, rfl⟩⟩, hb⟩
theorem rbytesA_any (n : Bool) (s : ByteArray) (x E : Int) (hE : bytesE n s x = E) (hs : s.size ≤ 100000) (w : World) :
    Calls Tryd.prog 25 #[.agg #[.bool n, .string s, .int .i64 x]] w fun e w' => byP n s x E w e w' := by
  subst hE
  by_cases hbe : bytesE n s x = 0
  · obtain ⟨hN, h0, h40⟩ := bytes_yes hbe
    refine (rbytes_ok n s x w hN h0 h40).mono ?_
    rintro e w' ⟨v', out, rfl, hP, hO, hb⟩
    rw [hbe]
    exact ⟨v', out, rfl, ⟨hO.out.sl, Or.inl ⟨hbe, hP.out.1, hP.out.2⟩⟩, hb⟩
  · refine (rbytes_no n s x w hs hbe).mono ?_
    rintro e w' ⟨rfl, hb⟩
    exact ⟨_, [], rfl, ⟨Or.inl ⟨rfl, rfl⟩, Or.inr ⟨hbe, rfl⟩⟩, hb⟩
end Go.Proofs.YtjpdlibncmldlaaDoor
/- calamuslaw01.NumBytes: walked. -/
namespace Go.Proofs.YtjpdlibncmldlaaDoor
open Go.RowKit
set_option linter.unusedSimpArgs false
set_option linter.unusedVariables false
theorem keep9 {W w1 : World} (hB : Below W.heap.size W w1) (b c d : Nat) (hb : b < W.heap.size) (hc : c < W.heap.size) (hd : d < W.heap.size) {x0 x1 x2 y0 y1 y2 z0 z1 z2 : Value}
    (h : W.cell? ⟨b, 0, none⟩ = some x0 ∧ W.cell? ⟨b, 1, none⟩ = some x1 ∧ W.cell? ⟨b, 2, none⟩ = some x2 ∧ W.cell? ⟨c, 0, none⟩ = some y0 ∧ W.cell? ⟨c, 1, none⟩ = some y1 ∧ W.cell? ⟨c, 2, none⟩ = some y2 ∧ W.cell? ⟨d, 0, none⟩ = some z0 ∧ W.cell? ⟨d, 1, none⟩ = some z1 ∧ W.cell? ⟨d, 2, none⟩ = some z2) :
    w1.cell? ⟨b, 0, none⟩ = some x0 ∧ w1.cell? ⟨b, 1, none⟩ = some x1 ∧ w1.cell? ⟨b, 2, none⟩ = some x2 ∧ w1.cell? ⟨c, 0, none⟩ = some y0 ∧ w1.cell? ⟨c, 1, none⟩ = some y1 ∧ w1.cell? ⟨c, 2, none⟩ = some y2 ∧ w1.cell? ⟨d, 0, none⟩ = some z0 ∧ w1.cell? ⟨d, 1, none⟩ = some z1 ∧ w1.cell? ⟨d, 2, none⟩ = some z2 := by
  obtain ⟨h1, h2, h3, h4, h5, h6, h7, h8, h9⟩ := h
  have k : ∀ (g o : Nat) (v : Value), g < W.heap.size → W.cell? ⟨g, o, none⟩ = some v → w1.cell? ⟨g, o, none⟩ = some v := fun g o v hg hv => (hB.cell (p := ⟨g, o, none⟩) hg).trans hv
  exact ⟨k _ _ _ hb h1, k _ _ _ hb h2, k _ _ _ hb h3, k _ _ _ hc h4, k _ _ _ hc h5, k _ _ _ hc h6, k _ _ _ hd h7, k _ _ _ hd h8, k _ _ _ hd h9⟩
/-- The struct of the call's own. -/
structure Un2 (w : World) (n : Bool) (s : ByteArray) (x : Int) (W : World) : Prop where
  below : Below w.heap.size w W
  box : Box W w.heap.size n s x
theorem Un2.then {w : World} {n : Bool} {s : ByteArray} {x : Int} {W W1 : World} (h : Un2 w n s x W) (hb : Below W.heap.size W W1) : Un2 w n s x W1 := ⟨below_then h.below hb, h.box.below hb h.box.lt⟩
theorem un2_new (w : World) (n : Bool) (s : ByteArray) (x : Int) : Un2 w n s x (w.alloc (.cells #[.bool n, .string s, .int .i64 x] 23)) := ⟨below_al (Below.refl _ _), box_new w n s x⟩
/-- What the law holds: its struct, the bytes that came in, its own copy, and the mark behind it. -/
structure BL (w : World) (n : Bool) (s : ByteArray) (x : Int) (ax : Option Addr) (k cx g : Nat) (l : List UInt8) (W : World) : Prop where
  un : Un2 w n s x W
  sb : SL W (.slice ax k cx) l
  so : SL W (.slice (some ⟨g, 0, none⟩) k (k + 1)) l
  mark : W.cell? ⟨g, k, none⟩ = some (.int .u8 77)
theorem BL.then {w : World} {n : Bool} {s : ByteArray} {x : Int} {ax : Option Addr} {k cx g : Nat} {l : List UInt8} {W W1 : World} (h : BL w n s x ax k cx g l W) (hb : Below W.heap.size W W1) : BL w n s x ax k cx g l W1 :=
  ⟨h.un.then hb, h.sb.below hb, h.so.below hb, (hb.cell (p := ⟨g, k, none⟩) (slo_lt h.mark)).trans h.mark⟩
set_option maxHeartbeats 2000000 in
set_option maxRecDepth 100000 in
theorem bytes_law (neg : Bool) (v : Value) (l : List UInt8) (n : Bool) (s : ByteArray) (x : Int) (w : World) (sl : SL w v l) (hs : s.size ≤ maxLen) :
    Calls Tryd.prog 5 #[.bool neg, v, .agg #[.bool n, .string s, .int .i64 x]] w fun e w' => e = .returned (.bool true) ∧ Below w.heap.size w w' := by
  have ml : maxLen = 2 ^ 63 - 1 := rfl
  have U0 := hide (un2_new w n s x)
  obtain ⟨ax, cx, rfl, hc1, hc2⟩ := sl.len
  have sl0 := hide sl
  clear sl
  by_cases hlong : (4096 : Int) < (l.length : Int)
  · go_enter Tryd.func5, Tryd.ntmps5
    go_wp2_with fail
    go_ret
    exact ⟨rfl, U0.out.below⟩
  · cases hA : decide (4096 < s.size)
    · have hs4 : s.size ≤ 4096 := by have := of_decide_eq_false hA; omega
      go_enter Tryd.func5, Tryd.ntmps5
      go_wp2_with fail
      refine (big_any n s x _ _ hA hs).mono ?_
      rintro e w1 ⟨rfl, hb1⟩
      have U1 := hide (U0.out.then hb1)
      have sx := hide (sl0.out.below U1.out.below)
      clear hb1
      obtain ⟨k, hk⟩ : ∃ k, l.length = k := ⟨_, rfl⟩
      rw [hk]
      rw [hk] at hc1 hlong
      have hmk := fun w => run_make_row' (P := Tryd.prog) 37 5 (.int .u8 0) 1 Tryd.underlying37 info5 rfl .i64 .i64 (k + 1) (by omega) (by omega) w
      have ec : ((k + 1 : Nat) : Int) = (k : Int) + 1 := by omega
      rw [ec] at hmk
      clear ec
      obtain ⟨cur, hcur⟩ : ∃ cur : List Value, cur.toArray = madeCells #[.int .u8 0] (k + 1) := ⟨_, Array.toArray_toList⟩
      rw [← hcur] at hmk
      obtain ⟨cs, hcells⟩ : ∃ cs : List Value, cs = l.map fun c : UInt8 => Value.int .u8 (c.toNat : Int) := ⟨_, rfl⟩
      have hcl : cs.length = k := by rw [hcells, List.length_map, hk]
      have hsx := sx.out
      obtain ⟨W2, hcp, HG2, hB2⟩ := copy_run hsx hk hcur hcells
      obtain ⟨⟨z, hz⟩, hfz⟩ := last_cell HG2 hcl (cur_len hcur)
      obtain ⟨W3, hW3⟩ : ∃ W3, W2.setCell ⟨w1.heap.size, k, none⟩ (.int .u8 77) = W3 := ⟨_, rfl⟩
      have hB3 : Below w1.heap.size w1 W3 := by rw [← hW3]; exact below_set hB2 (Nat.le_refl _)
      obtain ⟨slo, h77⟩ := own_facts HG2 hW3 hk hcells (cur_len hcur) (by omega)
      have slo := hide slo
      have h77 := hide h77
      have U3 := hide (U1.out.then hB3)
      have sx3 := hide (hsx.below hB3)
      clear hsx hcells hcl hcur HG2 hB2
      have hk' := hide hk
      clear hk
      go_wp2_with fail
      have S3 : Hid (BL w n s x ax k cx w1.heap.size l W3) := ⟨U3.out, by rw [← hk'.out]; exact sx3.out, slo.out, h77.out⟩
      refine (of_any neg _ (l.map UInt8.toNat) _ S3.out.so.sb8 (bts_map l)).mono ?_
      rintro e w4 ⟨⟨rb, rs, rx, re⟩, rfl, hr, hb4⟩
      simp only [retF]
      have S4 := hide (S3.out.then hb4)
      have X4 := hide (box_new w4 rb rs rx)
      have S5 := hide (S4.out.then (below_al (o := .cells #[.bool rb, .string rs, .int .i64 rx] 23) (Below.refl w4.heap.size w4)))
      clear hb4 slo h77 U3 sx3 hz hcp hmk hfz
      go_wp2_with fail
      refine (rof_any neg _ (l.map UInt8.toNat) _ S5.out.sb.sb8 (bts_map l)).mono ?_
      rintro e w6 ⟨r2, rfl, hr2, hb6⟩
      obtain rfl : (rb, rs, rx, re) = r2 := isSum_unique (hr.out 400 rfl) (hr2.out 400 rfl)
      simp only [retF]
      have S6 := hide (S5.out.then hb6)
      have X6 := hide (X4.out.below hb6 X4.out.lt)
      have X7 := hide (box_new w6 rb rs rx)
      have S7 := hide (S6.out.then (below_al (o := .cells #[.bool rb, .string rs, .int .i64 rx] 23) (Below.refl w6.heap.size w6)))
      have X67 := hide (X6.out.below (below_al (o := .cells #[.bool rb, .string rs, .int .i64 rx] 23) (Below.refl w6.heap.size w6)) X6.out.lt)
      clear hb6 X4 X6
      go_wp2_with fail
      refine (same_any _ _ l l _ S7.out.so S7.out.sb).mono ?_
      rintro e w8 ⟨rfl, hb8⟩
      rw [decide_eq_true rfl]
      have S8 := hide (S7.out.then hb8)
      have XA := hide (X67.out.below hb8 X67.out.lt)
      have XB := hide (X7.out.below hb8 X7.out.lt)
      have h77 := S8.out.mark
      obtain ⟨c0, c1, c2, f0, f1, f2⟩ := S8.out.un.box.cells
      clear hb8 S7 X67 X7
      obtain ⟨E, hE⟩ : ∃ E, bytesE n s x = E := ⟨_, rfl⟩
      have hBy := hide (fun W => bytesA_any n s x E hE (by omega) W)
      have hRy := hide (fun W => rbytesA_any n s x E hE (by omega) W)
      clear hE
      go_wp2_with fail
      refine (hBy.out _).mono ?_
      rintro e w9 ⟨v9, o9, rfl, hS9, hb9⟩
      have S9 := hide (S8.out.then hb9.out)
      have XA9 := hide (XA.out.below hb9.out XA.out.lt)
      have XB9 := hide (XB.out.below hb9.out XB.out.lt)
      obtain ⟨a9, c9, rfl, _, _⟩ := hS9.out.1.len
      clear hb9 S8 XA XB c0 c1 c2 f0 f1 f2 h77
      obtain ⟨c0, c1, c2, f0, f1, f2⟩ := S9.out.un.box.cells
      go_wp2_with fail
      refine (hRy.out _).mono ?_
      rintro e w10 ⟨v10, o10, rfl, hS10, hb10⟩
      obtain rfl : o9 = o10 := isB_one hS9.out.2 hS10.out.2
      have S10 := hide (S9.out.then hb10.out)
      have XA10 := hide (XA9.out.below hb10.out XA9.out.lt)
      have XB10 := hide (XB9.out.below hb10.out XB9.out.lt)
      have Y10 := hide (hS9.out.1.below hb10.out)
      have Z10 := hide hS10.out.1
      obtain ⟨a10, c10, rfl, _, _⟩ := hS10.out.1.len
      clear hb10 S9 XA9 XB9 c0 c1 c2 f0 f1 f2 hS9 hS10
      obtain ⟨L, hL⟩ : ∃ L, o9.length = L := ⟨_, rfl⟩
      rw [hL] at Y10 Z10 ⊢
      have hsm : Hid (∀ W, SL W (.slice a9 L c9) o9 → SL W (.slice a10 L c10) o9 → Calls Tryd.prog 23 #[.slice a9 L c9, .slice a10 L c10] W fun e w' => e = .returned (.bool true) ∧ Below W.heap.size W w') := fun W h1 h2 => by
        have := same_any _ _ o9 o9 W h1 h2
        rw [decide_eq_true rfl] at this
        exact this
      obtain ⟨ib, hib⟩ : ∃ ib, (isN n s x && decide (0 ≤ x)) = ib := ⟨_, rfl⟩
      have hI := hide (fun W => isint_any n s x W hs)
      have hJ := hide (fun W => risint_any n s x W hs)
      rw [hib] at hI hJ
      clear hib hL
      have l1 := S10.out.un.box.lt
      have l2 := XA10.out.lt
      have l3 := XB10.out.lt
      obtain ⟨m0, m1, m2, _, _, _⟩ := S10.out.un.box.cells
      obtain ⟨c0, c1, c2, _, _, _⟩ := XA10.out.cells
      obtain ⟨k0, k1, k2, _, _, _⟩ := XB10.out.cells
      go_wp2_with fail
      go_region_held3 (fun w' => w'.cell? ⟨w.heap.size, 0, none⟩ = some (.bool n) ∧ w'.cell? ⟨w.heap.size, 1, none⟩ = some (.string s) ∧ w'.cell? ⟨w.heap.size, 2, none⟩ = some (.int .i64 x) ∧ w'.cell? ⟨w4.heap.size, 0, none⟩ = some (.bool rb) ∧ w'.cell? ⟨w4.heap.size, 1, none⟩ = some (.string rs) ∧ w'.cell? ⟨w4.heap.size, 2, none⟩ = some (.int .i64 rx) ∧ w'.cell? ⟨w6.heap.size, 0, none⟩ = some (.bool rb) ∧ w'.cell? ⟨w6.heap.size, 1, none⟩ = some (.string rs) ∧ w'.cell? ⟨w6.heap.size, 2, none⟩ = some (.int .i64 rx)) (first | (simp [go_sem]; done) | go_keep) (first | (go_at_call 14; refine (awake_any _).mono ?_; rintro e v1 ⟨rfl, hB1⟩; obtain ⟨k1, k2, k3, k4, k5, k6, k7, k8, k9⟩ := keep9 hB1 w.heap.size w4.heap.size w6.heap.size (by first | assumption | (simp <;> omega)) (by first | assumption | (simp <;> omega)) (by first | assumption | (simp <;> omega)) (by first | assumption | simp [go_sem, *]); have l1 := Nat.lt_of_lt_of_le (show w.heap.size < _ by first | assumption | (simp <;> omega)) hB1.size; have l2 := Nat.lt_of_lt_of_le (show w4.heap.size < _ by first | assumption | (simp <;> omega)) hB1.size; have l3 := Nat.lt_of_lt_of_le (show w6.heap.size < _ by first | assumption | (simp <;> omega)) hB1.size) | (go_at_call 23; refine (hsm.out _ (SL.below (SL.below Y10.out (Below.refl _ _).drew) hB1) (SL.below (SL.below Z10.out (Below.refl _ _).drew) hB1)).mono ?_; rintro e v2 ⟨rfl, hB2⟩; obtain ⟨k1, k2, k3, k4, k5, k6, k7, k8, k9⟩ := keep9 hB2 w.heap.size w4.heap.size w6.heap.size (by first | assumption | (simp <;> omega)) (by first | assumption | (simp <;> omega)) (by first | assumption | (simp <;> omega)) (by first | assumption | simp [go_sem, *]); have l1 := Nat.lt_of_lt_of_le (show w.heap.size < _ by first | assumption | (simp <;> omega)) hB2.size; have l2 := Nat.lt_of_lt_of_le (show w4.heap.size < _ by first | assumption | (simp <;> omega)) hB2.size; have l3 := Nat.lt_of_lt_of_le (show w6.heap.size < _ by first | assumption | (simp <;> omega)) hB2.size) | (go_at_call 26; refine (hI.out _).mono ?_; rintro e v3 ⟨rfl, hB3⟩; obtain ⟨k1, k2, k3, k4, k5, k6, k7, k8, k9⟩ := keep9 hB3 w.heap.size w4.heap.size w6.heap.size (by first | assumption | (simp <;> omega)) (by first | assumption | (simp <;> omega)) (by first | assumption | (simp <;> omega)) (by first | assumption | simp [go_sem, *]); have l1 := Nat.lt_of_lt_of_le (show w.heap.size < _ by first | assumption | (simp <;> omega)) hB3.size; have l2 := Nat.lt_of_lt_of_le (show w4.heap.size < _ by first | assumption | (simp <;> omega)) hB3.size; have l3 := Nat.lt_of_lt_of_le (show w6.heap.size < _ by first | assumption | (simp <;> omega)) hB3.size) | (go_at_call 27; refine (hJ.out _).mono ?_; rintro e v4 ⟨rfl, hB4⟩; obtain ⟨k1, k2, k3, k4, k5, k6, k7, k8, k9⟩ := keep9 hB4 w.heap.size w4.heap.size w6.heap.size (by first | assumption | (simp <;> omega)) (by first | assumption | (simp <;> omega)) (by first | assumption | (simp <;> omega)) (by first | assumption | simp [go_sem, *]); have l1 := Nat.lt_of_lt_of_le (show w.heap.size < _ by first | assumption | (simp <;> omega)) hB4.size; have l2 := Nat.lt_of_lt_of_le (show w4.heap.size < _ by first | assumption | (simp <;> omega)) hB4.size; have l3 := Nat.lt_of_lt_of_le (show w6.heap.size < _ by first | assumption | (simp <;> omega)) hB4.size))
      have hF := hide (below_then (below_then (below_then (below_then S10.out.un.below.drew hB1) hB2) hB3) hB4)
      go_wp2_with fail
      go_ret
      exact ⟨by first | rfl | (cases ib <;> rfl), hF.out⟩
    · go_enter Tryd.func5, Tryd.ntmps5
      go_wp2_with fail
      refine (big_any n s x _ _ hA hs).mono ?_
      rintro e w1 ⟨rfl, hb1⟩
      go_wp2_with fail
      go_ret
      exact ⟨rfl, (U0.out.then hb1).below⟩
end Go.Proofs.YtjpdlibncmldlaaDoor
