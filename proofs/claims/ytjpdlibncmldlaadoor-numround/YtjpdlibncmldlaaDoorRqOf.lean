/- num.Of: walked at any bytes. -/
import Derived.Test.YtjpdlibncmldlaaDoorRpOf
namespace Go.Proofs.YtjpdlibncmldlaaDoor
open Go.RowKit
set_option linter.unusedSimpArgs false
set_option linter.unusedVariables false
theorem v256_app (a b : List Nat) : v256 (a ++ b) = v256 a * 256 ^ b.length + v256 b := by
  induction a with
  | nil => simp [v256]
  | cons d a ih =>
    simp only [List.cons_append, v256, List.length_append, ih, Nat.pow_add, Nat.add_mul, Nat.mul_assoc]
    omega
theorem v256_take_succ (l : List Nat) (k : Nat) (h : k < l.length) : v256 (l.take (k + 1)) = v256 (l.take k) * 256 + l[k] := by
  rw [List.take_succ_eq_append_getElem h, v256_app]; simp [v256]
theorem v256_lz (l : List Nat) : v256 l = v256 (l.drop (lz l)) := by
  have := v256_app (l.take (lz l)) (l.drop (lz l))
  rw [List.take_append_drop, take_lz, v256_zeros] at this
  simpa using this
/-- A row whose first byte is not nought is no less than its power. -/
theorem v256_ge {d : Nat} {l : List Nat} (h : d ≠ 0) : 256 ^ l.length ≤ v256 (d :: l) := by
  simp only [v256]
  have : 1 * 256 ^ l.length ≤ d * 256 ^ l.length := Nat.mul_le_mul_right _ (by omega)
  omega
theorem big_aux (x y z k : Nat) (hx : x = 40) (hy : y = 133) (hz : z = 11) (hk : 183 ≤ k) : 10 ^ (x * z) ≤ 256 ^ k := by
  have h1 : (10 : Nat) ^ x ≤ 2 ^ y := by subst hx hy; decide
  have h2 : ((10 : Nat) ^ x) ^ z ≤ (2 ^ y) ^ z := Nat.pow_le_pow_left h1 z
  rw [← Nat.pow_mul, ← Nat.pow_mul] at h2
  have h3 : (256 : Nat) ^ k = 2 ^ (8 * k) := by rw [show (256 : Nat) = 2 ^ 8 from rfl, ← Nat.pow_mul]
  rw [h3]
  exact Nat.le_trans h2 (Nat.pow_le_pow_right (by decide) (by subst hy hz; omega))
/-- So much, with a sign, in the units of numbers. -/
def Zof (neg : Bool) (V m : Nat) : Int := if neg then -((V * 10 ^ m : Nat) : Int) else ((V * 10 ^ m : Nat) : Int)
theorem Zv_abs (n : Bool) (s : ByteArray) (y : Int) : (Zv n s y).natAbs = mag s y := by unfold Zv; cases n <;> simp
theorem Zof_abs (neg : Bool) (V m : Nat) : (Zof neg V m).natAbs = V * 10 ^ m := by
  unfold Zof
  cases neg
  · exact Int.natAbs_natCast _
  · exact (Int.natAbs_neg _).trans (Int.natAbs_natCast _)
/-- What is worth so much is no number. -/
theorem far_none (neg : Bool) (V k m : Nat) (hm : m = 400) (hk : 183 ≤ k) (h : 256 ^ k ≤ V) : IsSum (Zof neg V m) (false, ⟨#[]⟩, 0, 2) := by
  right
  refine ⟨rfl, fun n s y hN e => ?_⟩
  obtain ⟨_, _, h40, hy1, hy2, hdg⟩ := isN_all hN
  have e1 : mag s y = V * 10 ^ m := by rw [← Zv_abs n s y, e, Zof_abs]
  have h1 : mag s y < 10 ^ (40 + m + m) := lt_pow hdg (by rw [dg_length]; omega)
  obtain ⟨x, hx⟩ : ∃ x, x = 40 := ⟨_, rfl⟩
  obtain ⟨z, hz⟩ : ∃ z, z = 11 := ⟨_, rfl⟩
  have h2 := big_aux x 133 z k hx rfl hz hk
  have h3 : 10 ^ (x * z) * 10 ^ m ≤ V * 10 ^ m := Nat.mul_le_mul_right _ (Nat.le_trans h2 h)
  rw [← Nat.pow_add, show x * z + m = 40 + m + m by subst hx hz; omega] at h3
  rw [e1] at h1
  exact Nat.lt_irrefl _ (Nat.lt_of_lt_of_le h1 h3)
theorem formF_of (neg : Bool) (d : List Nat) (hd : Dgs d) (m : Nat) (hm : m = 400) : IsSum (Zof neg (val d) m) (formF neg d 0) := by
  have := formF_sum neg d 0 hd (by omega)
  rw [show ((0 : Int) + 400).toNat = m by omega] at this
  exact this
/-- Bytes that lie somewhere. -/
def SB8 (w : World) (v : Value) (l : List Nat) : Prop :=
  (∃ a c, v = .slice a 0 c ∧ l = []) ∨ ∃ b o c, v = .slice (some ⟨b, o, none⟩) l.length c ∧ 0 < l.length ∧ l.length ≤ c ∧ c ≤ maxLen ∧ b < w.heap.size ∧ ∀ i (h : i < l.length), w.cell? ⟨b, o + i, none⟩ = some (.int .u8 (l[i] : Nat))
set_option maxHeartbeats 400000 in
theorem trimByteG (b o n c : Nat) (d : List Nat) (w : World) (hd : d.length = n) (hn0 : 0 < n) (hc : n ≤ c) (hc' : c ≤ 9223372036854775807)
    (hcell : ∀ i (h : i < d.length), w.cell? ⟨b, o + i, none⟩ = some (.int .u8 (d[i] : Nat))) :
    Calls Tryd.prog 65 #[.slice (some ⟨b, o, none⟩) n c, .int .u8 0] w fun e w' => (lz d < n → e = .returned (.slice (some ⟨b, o + lz d, none⟩) (n - lz d) (c - lz d))) ∧ (lz d = n → e = .returned (.slice none 0 0)) ∧ w' = w := by
  go_enter Tryd.func65, Tryd.ntmps65
  go_wp2
  go_loop [0] (fun s => ∃ k : Nat, k ≤ n ∧ (∀ i (h : i < d.length), i < k → d[i] = 0) ∧ ((k < n ∧ s = .slice (some ⟨b, o + k, none⟩) (n - k) (c - k)) ∨ (k = n ∧ ∃ a cc, s = .slice a 0 cc))) (fun s => lenOf s)
  case atStart => exact ⟨0, Nat.zero_le _, fun i h hi => by omega, Or.inl ⟨hn0, rfl⟩⟩
  case round =>
    obtain ⟨k, hk, hz, hs⟩ := hrel
    rcases hs with ⟨hlt, rfl⟩ | ⟨rfl, a, cc, rfl⟩
    · have hck := hcell k (by omega)
      by_cases h0 : d[k]'(by omega) = 0
      · rw [h0] at hck
        have hz' : ∀ i (h : i < d.length), i < k + 1 → d[i] = 0 := fun i h hi => by
          by_cases e : i = k
          · subst e; exact h0
          · exact hz i h (by omega)
        have hz' := hide hz'
        go_wp2
        refine ⟨⟨k + 1, by omega, hz'.out, ?_⟩, by simp [lenOf]; omega⟩
        by_cases hl : k + 1 < n
        · exact Or.inl ⟨hl, by rw [if_neg (by omega)]; simp [Nat.sub_sub, Nat.add_assoc]⟩
        · exact Or.inr ⟨by omega, _, _, by rw [show n - k - 1 = 0 by omega]⟩
      · have h1 : ((d[k]'(by omega) : Int) == 0) = false := by simp; exact h0
        have h2 : (((n - k : Nat) : Int) == 0) = false := by simp; omega
        have hl := hide (lz_of d k (by omega) hz (fun _ => h0))
        clear h0
        go_wp2
        go_ret
        exact ⟨fun _ => by rw [hl.out]; rfl, fun h => by rw [hl.out] at h; omega, rfl⟩
    · have hl := hide (lz_of d k (by omega) hz (fun h => by omega))
      go_wp2
      go_ret
      exact ⟨fun h => by rw [hl.out] at h; omega, fun h => rfl, rfl⟩
set_option maxRecDepth 100000 in
theorem trimLeftG (b o n c : Nat) (d : List Nat) (w : World) (hd : d.length = n) (hn0 : 0 < n) (hc : n ≤ c) (hc' : c ≤ 9223372036854775807)
    (hcell : ∀ i (h : i < d.length), w.cell? ⟨b, o + i, none⟩ = some (.int .u8 (d[i] : Nat))) :
    Calls Tryd.prog 51 #[.slice (some ⟨b, o, none⟩) n c, .string ⟨#[0]⟩] w fun e w' => (lz d < n → e = .returned (.slice (some ⟨b, o + lz d, none⟩) (n - lz d) (c - lz d))) ∧ (lz d = n → e = .returned (.slice none 0 0)) ∧ w' = w := by
  have h2 : ((n : Int) == 0) = false := by simp; omega
  have hcell := hide hcell
  by_cases hl : lz d < n
  · go_enter Tryd.func51, Tryd.ntmps51
    go_wp2_with (go_at_call 65; refine (trimByteG b o n c d _ hd hn0 hc hc' hcell.out).mono ?_; rintro e w' ⟨h1, _, rfl⟩; obtain rfl := h1 hl)
    go_ret
    exact ⟨fun _ => rfl, fun h => by omega, rfl⟩
  · have hl' : Hid (lz d = n) := by
      have : lz d ≤ n := by
        unfold lz; rw [← hd]; exact (List.takeWhile_prefix _).length_le
      show lz d = n
      omega
    go_enter Tryd.func51, Tryd.ntmps51
    go_wp2_with (go_at_call 65; refine (trimByteG b o n c d _ hd hn0 hc hc' hcell.out).mono ?_; rintro e w' ⟨_, h1, rfl⟩; obtain rfl := h1 hl'.out)
    go_ret
    exact ⟨fun h => by omega, fun _ => rfl, rfl⟩
theorem zero441 : Tryd.zeroCells72 = ((List.replicate 441 0).map fun v : Nat => Value.int .u8 (v : Int)).toArray := by kernel_rfl
/-- Where Of stands: the struct of the answer, and the digits. -/
structure OSt (w : World) (V : Nat) (f : Nat) (W : World) : Prop where
  below : Below w.heap.size w W
  hb : Box W w.heap.size false ⟨#[]⟩ 0
  row : ∃ P, P.length = 441 ∧ Dgs P ∧ f ≤ 441 ∧ val (P.drop f) = V ∧ Arr W (w.heap.size + 1) 72 P
theorem ost_new (w : World) : OSt w 0 441 ((w.alloc (.cells #[.bool false, .string ⟨#[]⟩, .int .i64 0] 23)).alloc (.cells Tryd.zeroCells72 72)) := by
  refine ⟨below_al (below_al (Below.refl _ _)), (box_new w false ⟨#[]⟩ 0).alloc _, List.replicate 441 0, List.length_replicate, fun d hd => by rw [List.eq_of_mem_replicate hd]; omega, Nat.le_refl _, ?_, ?_⟩
  · rw [List.drop_of_length_le (Nat.le_of_eq List.length_replicate)]; rfl
  · have := arr_new (w.alloc (.cells #[.bool false, .string ⟨#[]⟩, .int .i64 0] 23)) 72 441 _ zero441
    rw [show (w.alloc (.cells #[.bool false, .string ⟨#[]⟩, .int .i64 0] 23)).heap.size = w.heap.size + 1 by simp] at this
    exact this
/-- The digits behind place f, and form's answer. -/
theorem of_form (neg : Bool) (f : Nat) (P : List Nat) (b : Nat) (T : TypeId) (w : World) (hP : P.length = 441) (hD : Dgs P) (hf : f < 441) (hA : Arr w b T P) :
    Calls Tryd.prog 30 #[.bool neg, .slice (some ⟨b, f, none⟩) (441 - f) (441 - f), .int .i64 0] w fun e w' => e = retF (formF neg (P.drop f) 0) ∧ Below w.heap.size w w' :=
  form_any neg b f (441 - f) (441 - f) (P.drop f) 0 w (by rw [List.length_drop]; omega) (by omega) (by omega) (Nat.le_refl _) (by omega) hA.lt (fun i hi => by
    rw [List.length_drop] at hi
    rw [hA.cell (f + i) (by omega)]
    simp) (by omega) (by omega) (fun d hd => hD d (List.mem_of_mem_drop hd))
set_option maxHeartbeats 1000000 in
set_option maxRecDepth 100000 in
theorem of_nil (neg : Bool) (v : Value) (w : World) (hT : ∀ o, Calls Tryd.prog 51 #[v, .string ⟨#[0]⟩] (w.alloc o) fun e w' => e = .returned (.slice none 0 0) ∧ w' = w.alloc o) :
    Calls Tryd.prog 21 #[.bool neg, v] w fun e w' => e = retF (false, ⟨#[48]⟩, 0, 0) ∧ Below w.heap.size w w' := by
  have hT := hide hT
  have S0 := hide (ost_new w)
  obtain ⟨W0, hW0⟩ : ∃ W0, (w.alloc (.cells #[.bool false, .string ⟨#[]⟩, .int .i64 0] 23)).alloc (.cells Tryd.zeroCells72 72) = W0 := ⟨_, rfl⟩
  rw [hW0] at S0
  obtain ⟨c0, c1, c2, f0, f1, f2⟩ := S0.out.hb.cells
  go_enter Tryd.func21, Tryd.ntmps21
  go_wp2_with (first | (go_at_call 51; refine (hT.out _).mono ?_; rintro e w1 ⟨rfl, rfl⟩))
  go_loopw [7, 18] (fun f i w' => f = .int .i64 441 ∧ i = .int .i64 0 ∧ w' = W0) (fun _ _ _ => 0)
  case atStart => exact ⟨rfl, rfl, rfl⟩
  case round =>
    obtain ⟨rfl, rfl, rfl⟩ := hrel
    clear hW0
    go_wp2_with (first | (go_at_call 30; refine (form_none neg _ _ _ _).mono ?_; rintro e w1 ⟨rfl, hb1⟩; obtain ⟨k0, k1, k2, m0, m1, m2⟩ := (S0.out.hb.below hb1 S0.out.hb.lt).cells))
    exact bodyPost_ret (v := .tuple #[.agg #[.bool false, .string ⟨#[48]⟩, .int .i64 0], .int .i64 0]) (by simp [results, Tryd.results21, go_sem, k0, k1, k2]) rfl ⟨rfl, (((below_then S0.out.below hb1).setCell (Nat.le_refl _) _).setCell (Nat.le_refl _) _).setCell (Nat.le_refl _) _⟩
set_option maxHeartbeats 2000000 in
set_option maxRecDepth 100000 in
theorem of_some (neg : Bool) (v : Value) (b o c : Nat) (m : List Nat) (w : World) (hm0 : 0 < m.length) (hmc : m.length ≤ c) (hc : c ≤ 9223372036854775807) (hb : b < w.heap.size) (hB : Bts m)
    (hcell : ∀ i (h : i < m.length), w.cell? ⟨b, o + i, none⟩ = some (.int .u8 (m[i] : Nat))) (h183 : m.length ≤ 183)
    (hT : ∀ ob, Calls Tryd.prog 51 #[v, .string ⟨#[0]⟩] (w.alloc ob) fun e w' => e = .returned (.slice (some ⟨b, o, none⟩) m.length c) ∧ w' = w.alloc ob) :
    Calls Tryd.prog 21 #[.bool neg, v] w fun e w' => ∃ r, e = retF r ∧ Hid (∀ n, n = 400 → IsSum (Zof neg (v256 m) n) r) ∧ Below w.heap.size w w' := by
  have hT := hide hT
  have hB := hide hB
  have hcell := hide hcell
  have S0 := hide (ost_new w)
  obtain ⟨W0, hW0⟩ : ∃ W0, (w.alloc (.cells #[.bool false, .string ⟨#[]⟩, .int .i64 0] 23)).alloc (.cells Tryd.zeroCells72 72) = W0 := ⟨_, rfl⟩
  rw [hW0] at S0
  go_enter Tryd.func21, Tryd.ntmps21
  go_wp2_with (first | (go_at_call 51; refine (hT.out _).mono ?_; rintro e w1 ⟨rfl, rfl⟩))
  go_loopw [7, 18] (fun f i w' => ∃ (fi k : Nat), f = .int .i64 fi ∧ i = .int .i64 k ∧ k ≤ m.length ∧ fi ≤ 441 ∧ Hid (OSt w (v256 (m.take k)) fi w')) (fun _ i _ => m.length - (intOf i).toNat)
  case atStart => exact ⟨441, 0, rfl, rfl, Nat.zero_le _, Nat.le_refl _, S0.out⟩
  case round =>
    obtain ⟨fi, k, rfl, rfl, hk, hf, S⟩ := hrel
    clear hW0
    by_cases hlt : k < m.length
    · obtain ⟨P, hP1, hP2, _, hP3, hP4⟩ := S.out.row
      have hck : wr.cell? ⟨b, o + k, none⟩ = some (.int .u8 (m[k] : Nat)) := (S.out.below.cell (p := ⟨b, o + k, none⟩) hb).trans (hcell.out k hlt)
      have hmk : m[k] ≤ 255 := hB.out _ (List.getElem_mem _)
      have hvs := v256_take_succ m k hlt
      have hfit : Fits (val (P.drop fi) * 256 + m[k]) := by
        rw [hP3, ← hvs]
        refine fits_bytes (k := k + 1) (by omega) ?_
        have := v256_lt (m.take (k + 1)) (fun d hd => hB.out d (List.mem_of_mem_take hd))
        rw [List.length_take, Nat.min_eq_left (by omega)] at this
        exact this
      obtain ⟨mk, hmkE⟩ : ∃ mk, m[k] = mk := ⟨_, rfl⟩
      rw [hmkE] at hck hmk hvs hfit
      have hsc := hide (scaleUp_any (w.heap.size + 1) 72 P fi mk wr hP4 hP1 hP2 hf hmk hfit)
      have hP3 := hide hP3
      have hvs := hide hvs
      clear hfit hmkE hP4 hP1 hP2
      go_wp2_with (first | (go_at_call 52; refine hsc.out.mono ?_; rintro e w1 ⟨P', f', rfl, hWI, hA', hO⟩))
      refine ⟨⟨f', k + 1, rfl, by go_num, by omega, hWI.out.2.2.2.1, ?_⟩, by simp [intOf]; omega⟩
      refine ⟨S.out.below.trans (hO.out.below (by omega)), S.out.hb.only hO.out (by omega), P', hWI.out.1, hWI.out.2.1, hWI.out.2.2.2.1, ?_, hA'.out⟩
      have := hWI.out.2.2.2.2.2
      rw [Nat.zero_mul, Nat.add_zero] at this
      rw [this, hP3.out, ← hvs.out]
    · have htk : m.take k = m := List.take_of_length_le (by omega)
      rw [htk] at S
      obtain ⟨P, hP1, hP2, _, hP3, hP4⟩ := S.out.row
      obtain ⟨rb, rs, rx, re, hre⟩ : ∃ rb rs rx re, formF neg (P.drop fi) 0 = (rb, rs, rx, re) := ⟨_, _, _, _, rfl⟩
      have hsum := hide (show ∀ n, n = 400 → IsSum (Zof neg (v256 m) n) (rb, rs, rx, re) from fun n hn => by
        have := formF_of neg (P.drop fi) (fun d hd => hP2 d (List.mem_of_mem_drop hd)) n hn
        rw [hP3, hre] at this
        exact this)
      have hlt' := S.out.hb.lt
      by_cases hfe : fi = 441
      · have hd0 : P.drop fi = [] := List.drop_of_length_le (by omega)
        rw [hd0] at hre
        have hr0 : (rb, rs, rx, re) = (false, ⟨#[48]⟩, (0 : Int), (0 : Int)) := by rw [← hre]; rfl
        simp only [Prod.mk.injEq] at hr0
        obtain ⟨rfl, rfl, rfl, rfl⟩ := hr0
        subst hfe
        clear hd0 hre hP3 hP4 hP1 hP2
        go_wp2_with (first | (go_at_call 30; refine (form_none neg _ _ _ _).mono ?_; rintro e w1 ⟨rfl, hb1⟩; obtain ⟨k0, k1, k2, m0, m1, m2⟩ := (S.out.hb.below hb1 hlt').cells))
        exact bodyPost_ret (v := .tuple #[.agg #[.bool false, .string ⟨#[48]⟩, .int .i64 0], .int .i64 0]) (by simp [results, Tryd.results21, go_sem, k0, k1, k2]) rfl ⟨_, rfl, hsum.out, (((below_then S.out.below hb1).setCell (Nat.le_refl _) _).setCell (Nat.le_refl _) _).setCell (Nat.le_refl _) _⟩
      · have hfm := hide (of_form neg fi P (w.heap.size + 1) 72 wr hP1 hP2 (by omega) hP4)
        rw [hre] at hfm
        simp only [retF] at hfm
        have hfl : (fi : Int) ≤ 441 := by omega
        clear hre hP3 hP4 hP1 hP2
        go_wp2_with (first | (go_at_call 30; refine hfm.out.mono ?_; rintro e w1 ⟨rfl, hb1⟩; obtain ⟨k0, k1, k2, m0, m1, m2⟩ := (S.out.hb.below hb1 hlt').cells))
        exact bodyPost_ret (v := .tuple #[.agg #[.bool rb, .string rs, .int .i64 rx], .int .i64 re]) (by simp [results, Tryd.results21, go_sem, k0, k1, k2]) rfl ⟨_, rfl, hsum.out, (((below_then S.out.below hb1).setCell (Nat.le_refl _) _).setCell (Nat.le_refl _) _).setCell (Nat.le_refl _) _⟩
set_option maxHeartbeats 1000000 in
set_option maxRecDepth 100000 in
theorem of_far (neg : Bool) (v : Value) (a : Option Addr) (n c : Nat) (w : World) (h183 : 183 < n) (hn : n ≤ 9223372036854775807)
    (hT : ∀ ob, Calls Tryd.prog 51 #[v, .string ⟨#[0]⟩] (w.alloc ob) fun e w' => e = .returned (.slice a n c) ∧ w' = w.alloc ob) :
    Calls Tryd.prog 21 #[.bool neg, v] w fun e w' => e = retF (false, ⟨#[]⟩, 0, 2) ∧ Below w.heap.size w w' := by
  have hT := hide hT
  have h1 : (183 : Int) < (n : Int) := by omega
  obtain ⟨c0, c1, c2, f0, f1, f2⟩ := (box_new w false ⟨#[]⟩ 0).cells
  go_enter Tryd.func21, Tryd.ntmps21
  go_wp2_with (first | (go_at_call 51; refine (hT.out _).mono ?_; rintro e w1 ⟨rfl, rfl⟩))
  exact bodyPost_ret (v := .tuple #[.agg #[.bool false, .string ⟨#[]⟩, .int .i64 0], .int .i64 2]) (by simp [results, Tryd.results21, go_sem]) rfl ⟨rfl, by first | exact below_al (Below.refl _ _) | exact (((below_al (Below.refl w.heap.size w)).setCell (Nat.le_refl _) _).setCell (Nat.le_refl _) _).setCell (Nat.le_refl _) _⟩
theorem sum_zero (neg : Bool) (n : Nat) : IsSum (Zof neg 0 n) (false, ⟨#[48]⟩, 0, 0) := by
  left
  refine ⟨rfl, rfl, ?_⟩
  have := (isZ_mag (n := false) (s := ⟨#[48]⟩) (x := 0) rfl).2.2.2
  rw [this]
  unfold Zof
  cases neg <;> simp
theorem SB8.alloc {w : World} {v : Value} {l : List Nat} (h : SB8 w v l) (o : Obj) : SB8 (w.alloc o) v l := by
  rcases h with ⟨a, c, rfl, rfl⟩ | ⟨b, f, c, rfl, h0, h1, h2, h3, hc⟩
  · exact Or.inl ⟨a, c, rfl, rfl⟩
  · exact Or.inr ⟨b, f, c, rfl, h0, h1, h2, by simp; omega, fun i hi => ((below_al (o := o) (Below.refl w.heap.size w)).cell (p := ⟨b, f + i, none⟩) h3).trans (hc i hi)⟩
theorem lz_drop_head (l : List Nat) (h : lz l < l.length) : ∃ d t, l.drop (lz l) = d :: t ∧ d ≠ 0 := by
  refine ⟨l[lz l], l.drop (lz l + 1), List.drop_eq_getElem_cons h, lz_ne l h⟩
/-- num.Of at any bytes: the number that they are worth, or there is none. -/
theorem of_any (neg : Bool) (v : Value) (l : List Nat) (w : World) (hv : SB8 w v l) (hB : Bts l) :
    Calls Tryd.prog 21 #[.bool neg, v] w fun e w' => ∃ r, e = retF r ∧ Hid (∀ n, n = 400 → IsSum (Zof neg (v256 l) n) r) ∧ Below w.heap.size w w' := by
  have ml : maxLen = 9223372036854775807 := rfl
  rcases hv with ⟨a, c, rfl, rfl⟩ | ⟨b, o, c, rfl, h0, h1, h2, h3, hc⟩
  · refine (of_nil neg _ w (fun ob => trimLeft_none a c _)).mono ?_
    rintro e w' ⟨rfl, hb⟩
    exact ⟨_, rfl, fun n _ => sum_zero neg n, hb⟩
  · have hc' : ∀ (ob : Obj) (i : Nat) (h : i < l.length), (w.alloc ob).cell? ⟨b, o + i, none⟩ = some (.int .u8 (l[i] : Nat)) := fun ob i hi => ((below_al (o := ob) (Below.refl w.heap.size w)).cell (p := ⟨b, o + i, none⟩) h3).trans (hc i hi)
    have hT := fun ob => trimLeftG b o l.length c l (w.alloc ob) rfl h0 h1 (by omega) (hc' ob)
    by_cases hz : lz l = l.length
    · refine (of_nil neg _ w (fun ob => (hT ob).mono fun e w' ⟨_, h, hw⟩ => ⟨h hz, hw⟩)).mono ?_
      rintro e w' ⟨rfl, hb⟩
      have hv0 : v256 l = 0 := by rw [v256_lz, hz, List.drop_length]; rfl
      exact ⟨_, rfl, fun n _ => by rw [hv0]; exact sum_zero neg n, hb⟩
    · have hlz : lz l < l.length := by have := lz_le l; omega
      have hld : (l.drop (lz l)).length = l.length - lz l := List.length_drop
      by_cases h183 : l.length - lz l ≤ 183
      · have := of_some neg (.slice (some ⟨b, o, none⟩) l.length c) b (o + lz l) (c - lz l) (l.drop (lz l)) w (by omega) (by omega) (by omega) h3 (fun d hd => hB d (List.mem_of_mem_drop hd)) (fun i hi => by
          rw [hld] at hi
          rw [Nat.add_assoc, hc (lz l + i) (by omega)]
          simp) (by omega) (fun ob => (hT ob).mono fun e w' ⟨h, _, hw⟩ => ⟨by rw [hld]; exact h hlz, hw⟩)
        rw [← v256_lz] at this
        exact this
      · refine (of_far neg _ (some ⟨b, o + lz l, none⟩) (l.length - lz l) (c - lz l) w (by omega) (by omega) (fun ob => (hT ob).mono fun e w' ⟨h, _, hw⟩ => ⟨h hlz, hw⟩)).mono ?_
        rintro e w' ⟨rfl, hb⟩
        obtain ⟨d, t, hdt, hd0⟩ := lz_drop_head l hlz
        have htl : t.length = l.length - lz l - 1 := by
          have := congrArg List.length hdt
          rw [hld] at this
          simp at this
          omega
        refine ⟨_, rfl, fun n hn => far_none neg (v256 l) t.length n hn (by omega) ?_, hb⟩
        rw [v256_lz, hdt]
        exact v256_ge hd0
end Go.Proofs.YtjpdlibncmldlaaDoor
