/- Merged by program: NhForm, NnSem, NoOrd, NpFormF, NgMerge. -/
import Derived.Test.YtoaacfhjejmbnaaGreatDoorZm01
import Derived.Test.YtoaacfhjejmbnaaGreatDoorZm02
import Derived.Test.YtoaacfhjejmbnaaGreatDoorZm03
import Derived.WalkKit
import Derived.WalkSpells
import Derived.WalkLawsBesides
import Derived.Deep.RegionWith
import Derived.Outline
/- num.form: walked. -/
namespace Go.Proofs.YtoaacfhjejmbnaaGreatDoor
open Go.RowKit
set_option linter.unusedSimpArgs false
set_option linter.unusedVariables false
/-- The text of a row of digits. -/
def mkS (l : List Nat) : ByteArray := strOfNums (l.map fun v : Nat => ((v : Int) + 48))
/-- What form answers: the number, or that it is none. -/
def formE (ok neg : Bool) (s : ByteArray) (x : Int) : Ending :=
  if ok then .returned (.tuple #[.agg #[.bool neg, .string s, .int .i64 x], .int .i64 0]) else .returned (.tuple #[.agg #[.bool false, .string ⟨#[]⟩, .int .i64 0], .int .i64 2])
/-- The noughts that a row ends with. -/
def tz (d : List Nat) : Nat := lz d.reverse
theorem tz_of (d : List Nat) (m k : Nat) (hm : d.length = m) (hk : k < m) (h1 : ∀ i (h : i < d.length), m - k ≤ i → d[i] = 0) (h2 : d[m - k - 1]'(by omega) ≠ 0) : tz d = k := by
  refine lz_of d.reverse k (by simp; omega) (fun i h hi => ?_) (fun h => ?_)
  · rw [List.getElem_reverse]
    exact h1 _ _ (by simp at h; omega)
  · rw [List.getElem_reverse]
    have e : d.length - 1 - k = m - k - 1 := by omega
    simp only [e]; exact h2
theorem lz_ne (d : List Nat) (h : lz d < d.length) : d[lz d] ≠ 0 := by
  intro h0
  have key : ∀ (l : List Nat) (h : (l.takeWhile (· == 0)).length < l.length), l[(l.takeWhile (· == 0)).length] ≠ 0 := by
    intro l
    induction l with
    | nil => intro h; simp at h
    | cons a l ih =>
      intro h
      by_cases ha : a = 0
      · subst ha
        simp only [List.takeWhile_cons, beq_self_eq_true, if_true, List.length_cons, List.getElem_cons_succ]
        exact ih (by simpa using h)
      · simp [ha]
  exact key d h h0
set_option maxHeartbeats 1000000 in
set_option maxRecDepth 100000 in
theorem form_zero (neg : Bool) (b o n c : Nat) (d : List Nat) (x : Int) (w : World) (hd : d.length = n) (hn0 : 0 < n) (hn : n ≤ 100000) (hc : n ≤ c) (hc' : c ≤ 100000) (hb : b < w.heap.size)
    (hcell : ∀ i (h : i < d.length), w.cell? ⟨b, o + i, none⟩ = some (.int .u8 (d[i] : Nat))) (hz : lz d = n) :
    Calls Tryz.prog 189 #[.bool neg, .slice (some ⟨b, o, none⟩) n c, .int .i64 x] w fun e w' => e = .returned (.tuple #[.agg #[.bool false, .string ⟨#[48]⟩, .int .i64 0], .int .i64 0]) ∧ Below w.heap.size w w' := by
  have hcell' : ∀ cs T, ∀ i (h : i < d.length), (w.alloc (.cells cs T)).cell? ⟨b, o + i, none⟩ = some (.int .u8 (d[i] : Nat)) := fun cs T i h => by
    rw [← hcell i h]; exact ((Below.refl w.heap.size w).alloc (Nat.le_refl _) _).cell (p := ⟨b, o + i, none⟩) hb
  have hcell' := hide hcell'
  have hz := hide hz
  clear hcell
  go_enter Tryz.func189, Tryz.ntmps189
  go_wp2_with (go_at_call 198; refine (trimLeft_any b o n c d _ hd hn0 hn hc hc' (hcell'.out _ _)).mono ?_; rintro e w' ⟨_, h1, rfl⟩; obtain rfl := h1 hz.out)
  exact bodyPost_ret (v := .tuple #[.agg #[.bool false, .string ⟨#[48]⟩, .int .i64 0], .int .i64 0]) (by simp [results, Tryz.results189, go_sem]) rfl ⟨rfl, (Below.refl _ _).alloc (Nat.le_refl _) _⟩
set_option maxHeartbeats 2000000 in
set_option maxRecDepth 100000 in
theorem form_some (neg : Bool) (b o n c : Nat) (d d1 d2 : List Nat) (m k1 : Nat) (x : Int) (w : World) (hd : d.length = n) (hn : n ≤ 100000) (hc : n ≤ c) (hc' : c ≤ 100000) (hb : b < w.heap.size)
    (hcell : ∀ i (h : i < d.length), w.cell? ⟨b, o + i, none⟩ = some (.int .u8 (d[i] : Nat))) (hz : lz d < n) (hx : -1000000 ≤ x) (hx' : x ≤ 1000000)
    (hd1 : d1 = d.drop (lz d)) (hm : m = n - lz d) (hk1 : k1 = tz d1) (hd2 : d2 = d1.take (m - k1)) (hdg : Dgs d) (fit : Bool) (hfit : fit = decide (d2.length ≤ 40 ∧ -400 ≤ x + k1 ∧ x + k1 ≤ 400)) :
    Calls Tryz.prog 189 #[.bool neg, .slice (some ⟨b, o, none⟩) n c, .int .i64 x] w fun e w' => 
      e = formE fit neg (mkS d2) (x + k1) ∧ Below w.heap.size w w' := by
  have hcell' : ∀ cs T, ∀ i (h : i < d.length), (w.alloc (.cells cs T)).cell? ⟨b, o + i, none⟩ = some (.int .u8 (d[i] : Nat)) := fun cs T i h => by
    rw [← hcell i h]; exact ((Below.refl w.heap.size w).alloc (Nat.le_refl _) _).cell (p := ⟨b, o + i, none⟩) hb
  have hcell' := hide hcell'
  clear hcell
  have hne : Hid (d1[0]? ≠ some 0) := by
    show d1[0]? ≠ some 0
    rw [hd1, List.getElem?_drop, List.getElem?_eq_getElem (by omega)]
    have := lz_ne d (by omega)
    simpa using this
  have hg1 : Hid (∀ i (h : i < d1.length) (h' : lz d + i < d.length), d1[i] = d[lz d + i]) := by
    show ∀ i (h : i < d1.length) (h' : lz d + i < d.length), d1[i] = d[lz d + i]
    intro i h h'
    simp only [hd1, List.getElem_drop]
  have hdd1 := hide hd1
  have hmm := hide hm
  have hmn : m ≤ n := by omega
  have hm0 : 0 < m := by omega
  have hnc : m + lz d = n := by omega
  have hz' := hide hz
  have hd1l : d1.length = m := by rw [hd1, List.length_drop]; omega
  obtain ⟨z, hzz⟩ : ∃ z, lz d = z := ⟨_, rfl⟩
  have hhk := hide hk1
  have hhd2 := hide hd2
  have hhfit := hide hfit
  have hdg := hide hdg
  clear hd1 hk1 hd2 hfit
  have ec : Hid (n - lz d = m ∧ c - lz d = c - z) := by constructor <;> omega
  rw [hzz] at hnc
  have hzz := hide hzz
  clear hm hz
  go_enter Tryz.func189, Tryz.ntmps189
  go_wp2_with (go_at_call 198; refine (trimLeft_any b o n c d _ hd (by omega) hn hc hc' (hcell'.out _ _)).mono ?_; rintro e w' ⟨h1, _, rfl⟩; have h1 := h1 hz'.out; rw [ec.out.1, ec.out.2, hzz.out] at h1; obtain rfl := h1)
  have hmz : ((m : Int) == 0) = false := by simp; omega
  go_loop [1, 2] (fun s e => ∃ k : Nat, k < m ∧ s = .slice (some ⟨b, o + z, none⟩) (m - k) (c - z) ∧ e = .int .i64 (x + k) ∧ Hid (∀ i (h : i < d1.length), m - k ≤ i → d1[i] = 0)) (fun s _ => lenOf s)
  case atStart => exact ⟨0, hm0, rfl, by simp, fun i h hi => by omega⟩
  case round =>
    obtain ⟨k, hk, rfl, rfl, hzr⟩ := hrel
    obtain ⟨q, hq⟩ : ∃ q, d1[m - k - 1]'(by omega) = q := ⟨_, rfl⟩
    have hcl := hcell'.out #[Value.bool false, Value.string { data := #[] }, Value.int IntKind.i64 0] 24 (z + (m - k - 1)) (by omega)
    have hq' : d[z + (m - k - 1)]'(by omega) = q := by
      rw [← hq, hg1.out (m - k - 1) (by omega) (by rw [hzz.out]; omega)]
      simp only [hzz.out]
    rw [hq', ← Nat.add_assoc] at hcl
    have hq := hide hq
    clear hq'
    by_cases h0 : q = 0
    · subst h0
      have hzr' : Hid (∀ i (h : i < d1.length), m - (k + 1) ≤ i → d1[i] = 0) := by
        show ∀ i (h : i < d1.length), m - (k + 1) ≤ i → d1[i] = 0
        intro i h hi
        by_cases e : i = m - k - 1
        · subst e; exact hq.out
        · exact hzr.out i h (by omega)
      have hk' : k + 1 < m := by
        by_cases e : k + 1 < m
        · exact e
        · have h1 := hzr'.out 0 (by omega) (by omega)
          exact absurd (by rw [List.getElem?_eq_getElem (by omega), h1]) hne.out
      go_wp2
      refine ⟨⟨k + 1, hk', by rw [Nat.sub_sub], ?_, hzr'.out⟩, by simp [lenOf]; omega⟩
      show Value.int _ _ = Value.int _ _
      congr 1
      omega
    · have h0' : ((q : Int) == 0) = false := by simp; exact h0
      have hkk : k1 = k := by rw [hhk.out]; exact tz_of d1 m k hd1l hk hzr.out (by rw [hq.out]; exact h0)
      have hl2 : d2.length = m - k := by rw [hhd2.out, List.length_take, hkk]; omega
      subst hkk
      have hl2' := hide hl2
      clear h0
      by_cases h40 : 40 < m - k1
      · go_wp2
        exact bodyPost_ret (v := .tuple #[.agg #[.bool false, .string ⟨#[]⟩, .int .i64 0], .int .i64 2]) (by simp [results, Tryz.results189, go_sem]) rfl ⟨by
          have : fit = false := by rw [hhfit.out]; exact decide_eq_false (by omega)
          rw [this]; rfl, (Below.refl _ _).alloc (Nat.le_refl _) _⟩
      by_cases he : -400 ≤ x + k1 ∧ x + k1 ≤ 400
      · have e3 : decide (-400 ≤ x + k1 ∧ x + k1 ≤ 400) = true := decide_eq_true he
        have hft : Hid (fit = true) := by
          show fit = true
          rw [hhfit.out]; exact decide_eq_true ⟨by omega, he⟩
        go_wp2_with (go_at_call 162; refine (expFits_any _ _).mono ?_; rintro e w' ⟨rfl, rfl⟩; rw [e3])
        have hg2 : Hid (∀ i (h : i < d2.length) (h' : z + i < d.length), d2[i] = d[z + i]) := by
          show ∀ i (h : i < d2.length) (h' : z + i < d.length), d2[i] = d[z + i]
          intro i h h'
          simp only [hhd2.out, List.getElem_take]
          rw [hg1.out i (by omega) (by rw [hzz.out]; exact h')]
          simp only [hzz.out]
        go_loopw [42] (fun i wr => ∃ k : Nat, k ≤ m - k1 ∧ i = .int .i64 k ∧ Hid (Arr wr (w.heap.size + 1) 202 ((d2.take k).map (fun v => 48 + v) ++ List.replicate (40 - k) 0)) ∧ Hid (Below (w.heap.size + 1) (w.alloc (.cells #[Value.bool false, Value.string { data := #[] }, Value.int IntKind.i64 0] 24)) wr)) (fun i _ => m - k1 - (intOf i).toNat)
        case atStart =>
          refine ⟨0, Nat.zero_le _, rfl, ?_, ?_⟩
          · show Arr _ _ _ _
            rw [show w.heap.size + 1 = (w.alloc (.cells #[Value.bool false, Value.string { data := #[] }, Value.int IntKind.i64 0] 24)).heap.size from by simp]
            exact arr_new _ _ 40 _ rfl
          · exact (Below.refl _ _).alloc (by simp) _
        case round =>
          obtain ⟨k, hk, rfl, hAr, hB⟩ := hrel
          by_cases hlt : k < m - k1
          · have hcl := hcell'.out #[Value.bool false, Value.string { data := #[] }, Value.int IntKind.i64 0] 24 (z + k) (by omega)
            rw [← hB.out.cell (p := ⟨b, o + (z + k), none⟩) (by show b < _; omega), ← hg2.out k (by omega) (by omega), ← Nat.add_assoc] at hcl
            have hv9 : d2[k]'(by omega) ≤ 9 := by rw [hg2.out k (by omega) (by omega)]; exact hdg.out _ (List.getElem_mem _)
            obtain ⟨v, hv⟩ : ∃ v, d2[k]'(by omega) = v := ⟨_, rfl⟩
            rw [hv] at hcl hv9
            have hcs := hAr.out.cell k (by simp; omega)
            have hfz := hAr.out.frozen k
            have hv := hide hv
            have hset : Hid (((d2.take k).map (fun v => 48 + v) ++ List.replicate (40 - k) 0).set k (48 + v) = (d2.take (k + 1)).map (fun v => 48 + v) ++ List.replicate (40 - (k + 1)) 0) := by
              show _ = _
              have hlen : ((d2.take k).map (fun v => 48 + v)).length = k := by simp; omega
              rw [List.set_append_right _ _ (by omega), hlen, Nat.sub_self, show 40 - k = (40 - (k + 1)) + 1 by omega, List.replicate_succ, List.set_cons_zero, List.take_succ_eq_append_getElem (by omega), List.map_append, hv.out]
              simp
            go_wp2
            refine ⟨⟨k + 1, by omega, by go_num, ?_, ?_⟩, by simp [intOf]; omega⟩
            · show Arr _ _ _ _
              rw [← hset.out]
              exact hAr.out.set k (48 + v)
            · exact hB.out.setCell (Nat.le_refl _) _
          · have hke : k = m - k1 := by omega
            subst hke
            have htk : d2.take (m - k1) = d2 := List.take_of_length_le (by omega)
            rw [htk] at hAr
            have hconv : (convert 32 9 (.slice (some ⟨w.heap.size + 1, 0, none⟩) (m - k1) 40)).run Tryz.prog wr = .ok (.string (mkS d2)) wr := by
              refine run_convert_bytes_arg (P := Tryz.prog) wr 32 5 Tryz.underlying32 Tryz.underlying5 (w.heap.size + 1) 0 (m - k1) 40 (d2.map fun v : Nat => ((v : Int) + 48)) (by simp; omega) (fun i hi => ?_) 9 Tryz.underlying9
              rw [Nat.zero_add, hAr.out.cell i (by simp; omega)]
              congr 2
              rw [List.getElem_append_left (by simp; omega), List.getElem_map, List.getD_eq_getElem?_getD, List.getElem?_map, List.getElem?_eq_getElem (by omega)]
              simp; omega
            have hr0 := hB.out.cell (p := ⟨w.heap.size, 0, none⟩) (Nat.lt_succ_self _)
            have hr1 := hB.out.cell (p := ⟨w.heap.size, 1, none⟩) (Nat.lt_succ_self _)
            have hr2 := hB.out.cell (p := ⟨w.heap.size, 2, none⟩) (Nat.lt_succ_self _)
            have hf0 := hB.out.frozen (p := ⟨w.heap.size, 0, none⟩) (Nat.lt_succ_self _)
            have hf1 := hB.out.frozen (p := ⟨w.heap.size, 1, none⟩) (Nat.lt_succ_self _)
            have hf2 := hB.out.frozen (p := ⟨w.heap.size, 2, none⟩) (Nat.lt_succ_self _)
            simp [go_sem] at hr0 hr1 hr2 hf0 hf1 hf2
            clear htk
            go_wp2
            refine bodyPost_ret (v := .tuple #[.agg #[.bool neg, .string (mkS d2), .int .i64 (x + k1)], .int .i64 0]) (by simp [results, Tryz.results189, go_sem, hr0, hr1, hr2]) rfl ⟨by rw [hft.out]; rfl, ?_⟩
            exact ((((((Below.refl _ w).alloc (Nat.le_refl _) _).trans (hB.out.mono (Nat.le_succ _))).setCell (Nat.le_refl _) _).setCell (Nat.le_refl _) _).setCell (Nat.le_refl _) _)
      · have e3 : decide (-400 ≤ x + k1 ∧ x + k1 ≤ 400) = false := decide_eq_false he
        have hft : Hid (fit = false) := by
          show fit = false
          rw [hhfit.out]; exact decide_eq_false (fun h => he h.2)
        go_wp2_with (go_at_call 162; refine (expFits_any _ _).mono ?_; rintro e w' ⟨rfl, rfl⟩; rw [e3])
        exact bodyPost_ret (v := .tuple #[.agg #[.bool false, .string ⟨#[]⟩, .int .i64 0], .int .i64 2]) (by simp [results, Tryz.results189, go_sem]) rfl ⟨by
          rw [hft.out]; rfl, (Below.refl _ _).alloc (Nat.le_refl _) _⟩
end Go.Proofs.YtoaacfhjejmbnaaGreatDoor
/- What numbers are worth, and that each stands in one way: no program in sight. -/
namespace Go.Proofs.YtoaacfhjejmbnaaGreatDoor
open Go.RowKit
set_option linter.unusedSimpArgs false
set_option linter.unusedVariables false
/-- A number's size, in units of ten to the power of -400. -/
def mag (s : ByteArray) (x : Int) : Nat := val (dg s) * 10 ^ (x + 400).toNat
/-- What a number is worth, in these units. -/
def Zv (n : Bool) (s : ByteArray) (x : Int) : Int := if n then -(mag s x : Int) else mag s x
/-- Digits of which neither the first nor the last is a nought. -/
structure Can (l : List Nat) : Prop where
  dgs : Dgs l
  first : ∀ c, l.head? = some c → c ≠ 0
  last : ∀ c, l.getLast? = some c → c ≠ 0
theorem val_pos_of_last : ∀ (l : List Nat), l ≠ [] → (∀ c, l.getLast? = some c → c ≠ 0) → 0 < val l
  | [], h, _ => absurd rfl h
  | [a], _, h => by have := h a rfl; simp [val]; omega
  | a :: b :: l, _, h => by
    have := val_pos_of_last (b :: l) (by simp) (fun c hc => h c (by simpa using hc))
    simp only [val] at this ⊢
    omega
theorem val_mod (l : List Nat) (h : Dgs l) : ∀ c, l.getLast? = some c → val l % 10 = c := by
  intro c hc
  obtain ⟨l', rfl⟩ : ∃ l', l = l' ++ [c] := ⟨l.dropLast, by
    have hne : l ≠ [] := by intro e; rw [e] at hc; cases hc
    rw [List.getLast?_eq_some_getLast hne] at hc
    rw [← Option.some.inj hc]; exact (List.dropLast_concat_getLast hne).symm⟩
  have := h c (by simp)
  rw [val_append]
  simp [val]
  omega
theorem val_ge (l : List Nat) (hne : l ≠ []) (h : ∀ c, l.head? = some c → c ≠ 0) : 10 ^ (l.length - 1) ≤ val l := by
  cases l with
  | nil => exact absurd rfl hne
  | cons a l =>
    have := h a rfl
    simp only [val, List.length_cons, Nat.add_sub_cancel]
    have h1 : 1 * 10 ^ l.length ≤ a * 10 ^ l.length := Nat.mul_le_mul_right _ (by omega)
    omega
theorem val_inj : ∀ (a b : List Nat), Dgs a → Dgs b → a.length = b.length → val a = val b → a = b
  | [], [], _, _, _, _ => rfl
  | [], _ :: _, _, _, h, _ => by simp at h
  | _ :: _, [], _, _, h, _ => by simp at h
  | d :: a, e :: b, ha, hb, hl, hv => by
    obtain ⟨h1, h2⟩ := ha.cons
    obtain ⟨h3, h4⟩ := hb.cons
    have hl' : a.length = b.length := by simpa using hl
    simp only [val] at hv
    have la := val_lt a h2
    have lb := val_lt b h4
    rw [hl'] at hv la
    have hp : 0 < 10 ^ b.length := Nat.pow_pos (by decide)
    have e1 := Nat.div_eq_of_lt_le (k := d) (m := d * 10 ^ b.length + val a) (n := 10 ^ b.length) (by omega) (by rw [Nat.add_mul]; omega)
    have e2 := Nat.div_eq_of_lt_le (k := e) (m := e * 10 ^ b.length + val b) (n := 10 ^ b.length) (by omega) (by rw [Nat.add_mul]; omega)
    have hde : d = e := by rw [← e1, ← e2, hv]
    subst hde
    rw [val_inj a b h2 h4 hl' (by omega)]
theorem pow_lt_of {a b n : Nat} (h : n < 10 ^ b) (h' : 10 ^ a ≤ n) : a < b := (Nat.pow_lt_pow_iff_right (by decide : 1 < 10)).1 (Nat.lt_of_le_of_lt h' h)
/-- Two rows of digits without noughts at the ends that are worth the same are the same, and stand at the same place. -/
theorem can_inj {a b : List Nat} (ha : Can a) (hb : Can b) (hna : a ≠ []) (hnb : b ≠ []) {p q : Nat} (h : val a * 10 ^ p = val b * 10 ^ q) : a = b ∧ p = q := by
  have key : ∀ {a b : List Nat} {p q : Nat}, Can a → Can b → a ≠ [] → b ≠ [] → val a * 10 ^ p = val b * 10 ^ q → ¬ p < q := by
    intro a b p q ha hb hna hnb h hlt
    have e : val a = val b * 10 ^ (q - p) := by
      have hp : 0 < 10 ^ p := Nat.pow_pos (by decide)
      apply Nat.eq_of_mul_eq_mul_right hp
      rw [h, Nat.mul_assoc, ← Nat.pow_add]; congr 2; omega
    have hl := val_mod a ha.dgs (a.getLast hna) (List.getLast?_eq_some_getLast hna)
    have hc := ha.last _ (List.getLast?_eq_some_getLast hna)
    rw [e, show q - p = (q - p - 1) + 1 by omega, Nat.pow_succ, ← Nat.mul_assoc, Nat.mul_mod_left] at hl
    omega
  have hpq : p = q := by
    have h1 := key ha hb hna hnb h
    have h2 := key hb ha hnb hna h.symm
    omega
  subst hpq
  have hv : val a = val b := Nat.eq_of_mul_eq_mul_right (Nat.pow_pos (by decide)) h
  have a1 := val_ge a hna ha.first
  have b1 := val_ge b hnb hb.first
  have a2 := val_lt a ha.dgs
  have b2 := val_lt b hb.dgs
  have hla : 0 < a.length := List.length_pos_iff.2 hna
  have hlb : 0 < b.length := List.length_pos_iff.2 hnb
  have h1 : a.length - 1 < b.length := pow_lt_of b2 (by omega)
  have h2 : b.length - 1 < a.length := pow_lt_of a2 (by omega)
  exact ⟨val_inj a b ha.dgs hb.dgs (by omega) hv, rfl⟩
/-- What 'a number other than 0' comes to. -/
theorem isO_facts {s : ByteArray} {x : Int} (h : isO (bl s) x = true) : 1 ≤ s.size ∧ s.size ≤ 40 ∧ -400 ≤ x ∧ x ≤ 400 ∧ allD (bl s) = true ∧ Can (dg s) ∧ dg s ≠ [] := by
  simp only [isO, Bool.and_eq_true, decide_eq_true_eq, bne_iff_ne, ne_eq, bl_length] at h
  obtain ⟨⟨⟨⟨⟨h1, h2⟩, h3, h4⟩, h5⟩, h6⟩, h7⟩ := h
  refine ⟨h1, h2, h3, h4, h5, ⟨dg_dgs s h5, ?_, ?_⟩, ?_⟩
  · intro c hc
    have : (dg s).head? = (bl s).head?.map fun c => c.toNat - 48 := by simp [dg]
    rw [this, head_bl s h1] at hc
    rw [head_bl s h1] at h6
    simp at hc
    have hd := allD_get s h5 0 h1
    have : s[0].toNat ≠ 48 := fun e => h6 (by congr 1; exact UInt8.toNat_inj.1 e)
    omega
  · intro c hc
    have : (dg s).getLast? = (bl s).getLast?.map fun c => c.toNat - 48 := by simp [dg]
    rw [this, last_bl s h1] at hc
    rw [last_bl s h1] at h7
    simp at hc
    have hd := allD_get s h5 (s.size - 1) (by omega)
    have : (s[s.size - 1]'(by omega)).toNat ≠ 48 := fun e => h7 (by congr 1; exact UInt8.toNat_inj.1 e)
    omega
  · intro e
    have := dg_length s
    rw [e] at this; simp at this; omega
theorem isZ_facts {n : Bool} {s : ByteArray} {x : Int} (h : isZ n s x = true) : n = false ∧ bl s = [48] ∧ x = 0 := by
  simp [isZ] at h; exact ⟨h.1.1, h.1.2, h.2⟩
theorem isZ_mag {n : Bool} {s : ByteArray} {x : Int} (h : isZ n s x = true) : dg s = [0] ∧ s.size = 1 ∧ mag s x = 0 ∧ Zv n s x = 0 := by
  obtain ⟨rfl, h2, rfl⟩ := isZ_facts h
  have h3 : dg s = [0] := by simp [dg, h2]
  have h4 : s.size = 1 := by rw [← bl_length, h2]; rfl
  have h5 : mag s 0 = 0 := by unfold mag; rw [h3, show val [0] = 0 from rfl, Nat.zero_mul]
  exact ⟨h3, h4, h5, by simp [Zv, h5]⟩
theorem isO_pos {s : ByteArray} {x : Int} (h : isO (bl s) x = true) : 0 < mag s x := by
  obtain ⟨_, _, _, _, _, h6, h7⟩ := isO_facts h
  exact Nat.mul_pos (val_pos_of_last _ h7 h6.last) (Nat.pow_pos (by decide))
end Go.Proofs.YtoaacfhjejmbnaaGreatDoor
/- The order of numbers: no program in sight. -/
namespace Go.Proofs.YtoaacfhjejmbnaaGreatDoor
open Go.RowKit
set_option linter.unusedSimpArgs false
set_option linter.unusedVariables false
/-- Bytes of digits, as digits. -/
def dl (l : List UInt8) : List Nat := l.map fun c => c.toNat - 48
/-- No last byte is a nought. -/
def noEnd (l : List UInt8) : Prop := ∀ c, l.getLast? = some c → c ≠ 48
theorem noEnd.tail {a : UInt8} {l : List UInt8} (h : noEnd (a :: l)) : noEnd l := by
  intro c hc
  apply h c
  cases l with
  | nil => cases hc
  | cons b l => simpa using hc
theorem mag_bounds {s : ByteArray} {x : Int} (h : isO (bl s) x = true) : 10 ^ ((x + 400).toNat + s.size - 1) ≤ mag s x ∧ mag s x < 10 ^ ((x + 400).toNat + s.size) := by
  obtain ⟨a1, a2, a3, a4, a5, a6, a7⟩ := isO_facts h
  have h1 := val_ge _ a7 a6.first
  have h2 := val_lt _ a6.dgs
  rw [dg_length] at h1 h2
  unfold mag
  constructor
  · rw [show (x + 400).toNat + s.size - 1 = (s.size - 1) + (x + 400).toNat by omega, Nat.pow_add]
    exact Nat.mul_le_mul_right _ h1
  · rw [Nat.add_comm, Nat.pow_add]
    exact Nat.mul_lt_mul_of_pos_right h2 (Nat.pow_pos (by decide))
end Go.Proofs.YtoaacfhjejmbnaaGreatDoor
/- form as a function on digits, and what it is worth: no program in sight, but for form's own contract at the end. -/
namespace Go.Proofs.YtoaacfhjejmbnaaGreatDoor
open Go.RowKit
set_option linter.unusedSimpArgs false
set_option linter.unusedVariables false
/-- Without the noughts in front. -/
def dz (d : List Nat) : List Nat := d.drop (lz d)
/-- Without the noughts in front and behind. -/
def core (d : List Nat) : List Nat := (dz d).take ((dz d).length - tz (dz d))
/-- What form makes of digits: a number (or 0, 0, 0) and an error. -/
def formF (neg : Bool) (d : List Nat) (x : Int) : Bool × ByteArray × Int × Int :=
  if lz d = d.length then (false, ⟨#[48]⟩, 0, 0)
  else if (core d).length ≤ 40 ∧ -400 ≤ x + tz (dz d) ∧ x + tz (dz d) ≤ 400 then (neg, mkS (core d), x + tz (dz d), 0) else (false, ⟨#[]⟩, 0, 2)
/-- An answer of a number and an error. -/
def retF (r : Bool × ByteArray × Int × Int) : Ending := .returned (.tuple #[.agg #[.bool r.1, .string r.2.1, .int .i64 r.2.2.1], .int .i64 r.2.2.2])
theorem lz_le (d : List Nat) : lz d ≤ d.length := (List.takeWhile_prefix _).length_le
theorem tz_le (d : List Nat) : tz d ≤ d.length := by have := lz_le d.reverse; simpa [tz] using this
theorem form_any (neg : Bool) (b o n c : Nat) (d : List Nat) (x : Int) (w : World) (hd : d.length = n) (hn0 : 0 < n) (hn : n ≤ 100000) (hc : n ≤ c) (hc' : c ≤ 100000) (hb : b < w.heap.size)
    (hcell : ∀ i (h : i < d.length), w.cell? ⟨b, o + i, none⟩ = some (.int .u8 (d[i] : Nat))) (hx : -1000000 ≤ x) (hx' : x ≤ 1000000) (hdg : Dgs d) :
    Calls Tryz.prog 189 #[.bool neg, .slice (some ⟨b, o, none⟩) n c, .int .i64 x] w fun e w' => e = retF (formF neg d x) ∧ Below w.heap.size w w' := by
  by_cases hz : lz d = n
  · refine (form_zero neg b o n c d x w hd hn0 hn hc hc' hb hcell hz).mono ?_
    rintro e w' ⟨rfl, hB⟩
    refine ⟨?_, hB⟩
    unfold formF; rw [if_pos (by rw [hd]; exact hz)]; rfl
  · have := lz_le d
    have hl : (dz d).length = n - lz d := by rw [dz, List.length_drop, hd]
    refine (form_some neg b o n c d (dz d) (core d) (n - lz d) (tz (dz d)) x w hd hn hc hc' hb hcell (by omega) hx hx' rfl rfl rfl (by rw [core, hl]) hdg _ rfl).mono ?_
    rintro e w' ⟨rfl, hB⟩
    refine ⟨?_, hB⟩
    have e1 : formF neg d x = if (core d).length ≤ 40 ∧ -400 ≤ x + tz (dz d) ∧ x + tz (dz d) ≤ 400 then (neg, mkS (core d), x + tz (dz d), 0) else (false, ⟨#[]⟩, 0, 2) := by
      unfold formF; rw [if_neg (by rw [hd]; exact hz)]
    rw [e1]
    by_cases h : (core d).length ≤ 40 ∧ -400 ≤ x + tz (dz d) ∧ x + tz (dz d) ≤ 400
    · rw [if_pos h, decide_eq_true h]; rfl
    · rw [if_neg h, decide_eq_false h]; rfl
theorem take_lz (d : List Nat) : d.take (lz d) = List.replicate (lz d) 0 := by
  induction d with
  | nil => rfl
  | cons a d ih =>
    by_cases h : a = 0
    · subst h
      have : lz (0 :: d) = lz d + 1 := by simp [lz]
      rw [this, List.take_succ_cons, ih, List.replicate_succ]
    · have : lz (a :: d) = 0 := by simp [lz, h]
      rw [this]; rfl
theorem lz_split (d : List Nat) : d = List.replicate (lz d) 0 ++ dz d := by
  rw [← take_lz, dz, List.take_append_drop]
theorem tz_split (d : List Nat) : d = d.take (d.length - tz d) ++ List.replicate (tz d) 0 := by
  have h := take_lz d.reverse
  have := congrArg List.reverse h
  rw [List.reverse_take, List.reverse_reverse, List.length_reverse, List.reverse_replicate] at this
  conv => lhs; rw [← List.take_append_drop (d.length - tz d) d]
  rw [show d.drop (d.length - tz d) = List.replicate (tz d) 0 from this]
theorem core_split (d : List Nat) : d = List.replicate (lz d) 0 ++ (core d ++ List.replicate (tz (dz d)) 0) := by
  conv => lhs; rw [lz_split d]
  congr 1
  exact tz_split (dz d)
theorem core_val (d : List Nat) : val d = val (core d) * 10 ^ tz (dz d) := by
  conv => lhs; rw [core_split d]
  rw [val_zero_left, val_zero_right]
theorem lz_head (d : List Nat) (h : lz d < d.length) : ∀ c, (dz d).head? = some c → c ≠ 0 := by
  intro c hc
  have := lz_ne d h
  rw [dz, List.head?_drop, List.getElem?_eq_getElem h] at hc
  rw [← Option.some.inj hc]; exact this
theorem tz_lt (d : List Nat) (h : lz d < d.length) : tz (dz d) < (dz d).length := by
  have h1 := tz_le (dz d)
  have hl : 0 < (dz d).length := by rw [dz, List.length_drop]; omega
  by_cases e : tz (dz d) < (dz d).length
  · exact e
  · have h2 := tz_split (dz d)
    rw [show (dz d).length - tz (dz d) = 0 by omega, List.take_zero, List.nil_append] at h2
    have h3 : (dz d).head? = some 0 := by
      rw [h2, List.head?_replicate, if_neg (by omega)]
    exact absurd rfl (lz_head d h 0 h3)
theorem core_len (d : List Nat) : (core d).length = (dz d).length - tz (dz d) := by rw [core, List.length_take]; omega
theorem core_can (d : List Nat) (h : lz d < d.length) (hd : Dgs d) : Can (core d) ∧ core d ≠ [] := by
  have h1 := tz_lt d h
  have hl := core_len d
  have hne : core d ≠ [] := by intro e; rw [e] at hl; simp at hl; omega
  refine ⟨⟨?_, ?_, ?_⟩, hne⟩
  · intro x hx
    exact hd x (List.mem_of_mem_drop (List.mem_of_mem_take hx))
  · intro c hc
    refine lz_head d h c ?_
    rw [core, List.head?_take, if_neg (by omega)] at hc
    exact hc
  · intro c hc
    have h2 := lz_ne (dz d).reverse (by simpa [tz] using h1)
    rw [List.getElem_reverse] at h2
    rw [core, List.getLast?_take, if_neg (by omega)] at hc
    rw [List.getElem?_eq_getElem (by omega)] at hc
    simp only [Option.some_or] at hc
    have e : (dz d).length - tz (dz d) - 1 = (dz d).length - 1 - lz (dz d).reverse := by unfold tz; omega
    simp only [e] at hc
    rw [← Option.some.inj hc]; exact h2
theorem mkS_size (l : List Nat) : (mkS l).size = l.length := by simp [mkS, strOfNums_size]
theorem mkS_bl (l : List Nat) : bl (mkS l) = l.map fun v => UInt8.ofNat (v + 48) := by
  unfold bl mkS
  rw [strOfNums_data, List.map_map]
  apply List.map_congr_left
  intro v _
  show UInt8.ofNat ((v : Int) + 48).toNat = _
  congr 1
theorem ofNat_toNat (v : Nat) (h : v ≤ 9) : (UInt8.ofNat (v + 48)).toNat = v + 48 := by
  rw [UInt8.toNat_ofNat']; omega
theorem mkS_dg (l : List Nat) (h : Dgs l) : dg (mkS l) = l := by
  unfold dg
  rw [mkS_bl, List.map_map]
  conv => rhs; rw [← List.map_id l]
  apply List.map_congr_left
  intro v hv
  show (UInt8.ofNat (v + 48)).toNat - 48 = v
  rw [ofNat_toNat v (h v hv)]; omega
theorem mkS_all (l : List Nat) (h : Dgs l) : allD (bl (mkS l)) = true := by
  rw [mkS_bl]
  unfold allD
  rw [List.all_eq_true]
  intro c hc
  rw [List.mem_map] at hc
  obtain ⟨v, hv, rfl⟩ := hc
  rw [isDig_iff, ofNat_toNat v (h v hv)]
  have := h v hv
  omega
theorem mkS_isO (l : List Nat) (x : Int) (h : Can l) (hne : l ≠ []) (h40 : l.length ≤ 40) (hx : -400 ≤ x) (hx' : x ≤ 400) : isO (bl (mkS l)) x = true := by
  have hl : 1 ≤ l.length := List.length_pos_iff.2 hne
  simp only [isO, Bool.and_eq_true, decide_eq_true_eq, bne_iff_ne, ne_eq]
  refine ⟨⟨⟨⟨⟨?_, ?_⟩, hx, hx'⟩, mkS_all l h.dgs⟩, ?_⟩, ?_⟩
  · rw [bl_length, mkS_size]; exact hl
  · rw [bl_length, mkS_size]; exact h40
  · rw [mkS_bl, List.head?_map]
    intro e
    cases hh : l.head? with
    | none => rw [hh] at e; cases e
    | some v =>
      rw [hh] at e
      have e1 := Option.some.inj e
      have e2 := congrArg UInt8.toNat e1
      have hm : v ∈ l := List.mem_of_head? hh
      have h9 := h.dgs v hm
      rw [ofNat_toNat v h9] at e2
      have := h.first v hh
      have : (48 : UInt8).toNat = 48 := rfl
      omega
  · rw [mkS_bl, List.getLast?_map]
    intro e
    cases hh : l.getLast? with
    | none => rw [hh] at e; cases e
    | some v =>
      rw [hh] at e
      have e1 := Option.some.inj e
      have e2 := congrArg UInt8.toNat e1
      have hm : v ∈ l := List.mem_of_getLast? hh
      have h9 := h.dgs v hm
      rw [ofNat_toNat v h9] at e2
      have := h.last v hh
      have : (48 : UInt8).toNat = 48 := rfl
      omega
/-- r is the number that is worth Z, or there is none. -/
def IsSum (Z : Int) (r : Bool × ByteArray × Int × Int) : Prop :=
  (r.2.2.2 = 0 ∧ isN r.1 r.2.1 r.2.2.1 = true ∧ Zv r.1 r.2.1 r.2.2.1 = Z) ∨ (r = (false, ⟨#[]⟩, 0, 2) ∧ ∀ n s x, isN n s x = true → Zv n s x ≠ Z)
/-- What form makes is the number, or there is none. -/
theorem formF_sum (neg : Bool) (d : List Nat) (x : Int) (hd : Dgs d) (hx : -400 ≤ x) : IsSum (if neg then -((val d * 10 ^ (x + 400).toNat : Nat) : Int) else (val d * 10 ^ (x + 400).toNat : Nat)) (formF neg d x) := by
  unfold formF
  by_cases hz : lz d = d.length
  · rw [if_pos hz]
    left
    refine ⟨rfl, rfl, ?_⟩
    have h0 : val d = 0 := by
      rw [lz_split d, dz, hz, List.drop_length, List.append_nil, val_zeros]
    rw [h0]
    have := (isZ_mag (n := false) (s := ⟨#[48]⟩) (x := 0) rfl).2.2.2
    rw [this]
    simp
  · have hlt : lz d < d.length := by have := lz_le d; omega
    rw [if_neg hz]
    obtain ⟨hc, hne⟩ := core_can d hlt hd
    have hv := core_val d
    have hmag : val d * 10 ^ (x + 400).toNat = val (core d) * 10 ^ (x + tz (dz d) + 400).toNat := by
      rw [hv, Nat.mul_assoc, ← Nat.pow_add]
      congr 2
      omega
    by_cases hf : (core d).length ≤ 40 ∧ -400 ≤ x + tz (dz d) ∧ x + tz (dz d) ≤ 400
    · rw [if_pos hf]
      left
      have ho := mkS_isO (core d) (x + tz (dz d)) hc hne hf.1 hf.2.1 hf.2.2
      refine ⟨rfl, by simp [isN, ho], ?_⟩
      show Zv neg (mkS (core d)) (x + tz (dz d)) = _
      rw [hmag]
      unfold Zv mag
      rw [mkS_dg _ hc.dgs]
    · rw [if_neg hf]
      right
      refine ⟨rfl, fun n s y h e => hf ?_⟩
      have hp : 0 < val d * 10 ^ (x + 400).toNat := by
        rw [hmag]
        exact Nat.mul_pos (val_pos_of_last _ hne hc.last) (Nat.pow_pos (by decide))
      simp only [isN, Bool.or_eq_true] at h
      rcases h with h | h
      · have := (isZ_mag h).2.2.2
        rw [this] at e
        split at e <;> omega
      · obtain ⟨b1, b2, b3, b4, b5, b6, b7⟩ := isO_facts h
        have hm : mag s y = val d * 10 ^ (x + 400).toNat := by
          have := isO_pos h
          unfold Zv at e
          split at e <;> split at e <;> omega
        rw [hmag] at hm
        obtain ⟨e1, e2⟩ := can_inj b6 hc b7 hne hm
        rw [← e1, dg_length]
        refine ⟨b2, ?_⟩
        omega
end Go.Proofs.YtoaacfhjejmbnaaGreatDoor
/- num's (*places).merge: walked. -/
namespace Go.Proofs.YtoaacfhjejmbnaaGreatDoor
open Go.RowKit
set_option linter.unusedSimpArgs false
set_option linter.unusedVariables false
end Go.Proofs.YtoaacfhjejmbnaaGreatDoor
