/- num.form: walked. -/
import Derived.Test.YtjidnceccpmheaaDoorNbCount
import Derived.Test.YtjidnceccpmheaaDoorNeArr
import Derived.Test.YtjidnceccpmheaaDoorNfTrim
import Derived.Test.YtjidnceccpmheaaDoorNmMath
import Derived.WalkKit
import Derived.WalkSpells
import Derived.WalkLawsBesides
import Derived.Deep.RegionWith
import Derived.Outline
namespace Go.Proofs.YtjidnceccpmheaaDoor
open Go.RowKit
set_option linter.unusedSimpArgs false
set_option linter.unusedVariables false
/-- The text of a row of digits. -/
def mkS (l : List Nat) : ByteArray := strOfNums (l.map fun v : Nat => ((v : Int) + 48))
/-- What form answers: the number, or that it is none. -/
def formE (ok neg : Bool) (s : ByteArray) (x : Int) : Ending :=
  if ok then .returned (.tuple #[.agg #[.bool neg, .string s, .int .i64 x], .int .i64 0]) else .returned (.tuple #[.agg #[.bool false, .string ⟨#[]⟩, .int .i64 0], .int .i64 2])
/-- The noughts that a row ends with. -/
def tz (d : List Nat) : Nat := lz d.reverse
theorem tz_of (d : List Nat) (m k : Nat) (hm : d.length = m) (hk : k < m) (h1 : ∀ i (h : i < d.length), m - k ≤ i → d[i] = 0) (h2 : d[m - k - 1]'(by omega) ≠ 0) : tz d = k := by
  refine lz_of d.reverse k (by simp; omega) (fun i h hi => ?_) (fun h => ?_)
  · rw [List.getElem_reverse]
    exact h1 _ _ (by simp at h; omega)
  · rw [List.getElem_reverse]
    have e : d.length - 1 - k = m - k - 1 := by omega
    simp only [e]; exact h2
theorem lz_ne (d : List Nat) (h : lz d < d.length) : d[lz d] ≠ 0 := by
  intro h0
  have key : ∀ (l : List Nat) (h : (l.takeWhile (· == 0)).length < l.length), l[(l.takeWhile (· == 0)).length] ≠ 0 := by
    intro l
    induction l with
    | nil => intro h; simp at h
    | cons a l ih =>
      intro h
      by_cases ha : a = 0
      · subst ha
        simp only [List.takeWhile_cons, beq_self_eq_true, if_true, List.length_cons, List.getElem_cons_succ]
        exact ih (by simpa using h)
      · simp [ha]
  exact key d h h0
set_option maxHeartbeats 1000000 in
set_option maxRecDepth 100000 in
theorem form_zero (neg : Bool) (b o n c : Nat) (d : List Nat) (x : Int) (w : World) (hd : d.length = n) (hn0 : 0 < n) (hn : n ≤ 100000) (hc : n ≤ c) (hc' : c ≤ 100000) (hb : b < w.heap.size)
    (hcell : ∀ i (h : i < d.length), w.cell? ⟨b, o + i, none⟩ = some (.int .u8 (d[i] : Nat))) (hz : lz d = n) :
    Calls Tryd.prog 41 #[.bool neg, .slice (some ⟨b, o, none⟩) n c, .int .i64 x] w fun e w' => e = .returned (.tuple #[.agg #[.bool false, .string ⟨#[48]⟩, .int .i64 0], .int .i64 0]) ∧ Below w.heap.size w w' := by
  have hcell' : ∀ cs T, ∀ i (h : i < d.length), (w.alloc (.cells cs T)).cell? ⟨b, o + i, none⟩ = some (.int .u8 (d[i] : Nat)) := fun cs T i h => by
    rw [← hcell i h]; exact ((Below.refl w.heap.size w).alloc (Nat.le_refl _) _).cell (p := ⟨b, o + i, none⟩) hb
  have hcell' := hide hcell'
  have hz := hide hz
  clear hcell
  go_enter Tryd.func41, Tryd.ntmps41
  go_wp2_with (go_at_call 51; refine (trimLeft_any b o n c d _ hd hn0 hn hc hc' (hcell'.out _ _)).mono ?_; rintro e w' ⟨_, h1, rfl⟩; obtain rfl := h1 hz.out)
  exact bodyPost_ret (v := .tuple #[.agg #[.bool false, .string ⟨#[48]⟩, .int .i64 0], .int .i64 0]) (by simp [results, Tryd.results41, go_sem]) rfl ⟨rfl, (Below.refl _ _).alloc (Nat.le_refl _) _⟩
set_option maxHeartbeats 1000000 in
set_option maxRecDepth 100000 in
theorem form_none (neg : Bool) (a : Option Addr) (c : Nat) (x : Int) (w : World) :
    Calls Tryd.prog 41 #[.bool neg, .slice a 0 c, .int .i64 x] w fun e w' => e = .returned (.tuple #[.agg #[.bool false, .string ⟨#[48]⟩, .int .i64 0], .int .i64 0]) ∧ Below w.heap.size w w' := by
  go_enter Tryd.func41, Tryd.ntmps41
  go_wp2_with (go_at_call 51; refine (trimLeft_none a c _).mono ?_; rintro e w' ⟨rfl, rfl⟩)
  exact bodyPost_ret (v := .tuple #[.agg #[.bool false, .string ⟨#[48]⟩, .int .i64 0], .int .i64 0]) (by simp [results, Tryd.results41, go_sem]) rfl ⟨rfl, (Below.refl _ _).alloc (Nat.le_refl _) _⟩
set_option maxHeartbeats 2000000 in
set_option maxRecDepth 100000 in
theorem form_some (neg : Bool) (b o n c : Nat) (d d1 d2 : List Nat) (m k1 : Nat) (x : Int) (w : World) (hd : d.length = n) (hn : n ≤ 100000) (hc : n ≤ c) (hc' : c ≤ 100000) (hb : b < w.heap.size)
    (hcell : ∀ i (h : i < d.length), w.cell? ⟨b, o + i, none⟩ = some (.int .u8 (d[i] : Nat))) (hz : lz d < n) (hx : -1000000 ≤ x) (hx' : x ≤ 1000000)
    (hd1 : d1 = d.drop (lz d)) (hm : m = n - lz d) (hk1 : k1 = tz d1) (hd2 : d2 = d1.take (m - k1)) (hdg : Dgs d) (fit : Bool) (hfit : fit = decide (d2.length ≤ 40 ∧ -400 ≤ x + k1 ∧ x + k1 ≤ 400)) :
    Calls Tryd.prog 41 #[.bool neg, .slice (some ⟨b, o, none⟩) n c, .int .i64 x] w fun e w' => 
      e = formE fit neg (mkS d2) (x + k1) ∧ Below w.heap.size w w' := by
  have hcell' : ∀ cs T, ∀ i (h : i < d.length), (w.alloc (.cells cs T)).cell? ⟨b, o + i, none⟩ = some (.int .u8 (d[i] : Nat)) := fun cs T i h => by
    rw [← hcell i h]; exact ((Below.refl w.heap.size w).alloc (Nat.le_refl _) _).cell (p := ⟨b, o + i, none⟩) hb
  have hcell' := hide hcell'
  clear hcell
  have hne : Hid (d1[0]? ≠ some 0) := by
    show d1[0]? ≠ some 0
    rw [hd1, List.getElem?_drop, List.getElem?_eq_getElem (by omega)]
    have := lz_ne d (by omega)
    simpa using this
  have hg1 : Hid (∀ i (h : i < d1.length) (h' : lz d + i < d.length), d1[i] = d[lz d + i]) := by
    show ∀ i (h : i < d1.length) (h' : lz d + i < d.length), d1[i] = d[lz d + i]
    intro i h h'
    simp only [hd1, List.getElem_drop]
  have hdd1 := hide hd1
  have hmm := hide hm
  have hmn : m ≤ n := by omega
  have hm0 : 0 < m := by omega
  have hnc : m + lz d = n := by omega
  have hz' := hide hz
  have hd1l : d1.length = m := by rw [hd1, List.length_drop]; omega
  obtain ⟨z, hzz⟩ : ∃ z, lz d = z := ⟨_, rfl⟩
  have hhk := hide hk1
  have hhd2 := hide hd2
  have hhfit := hide hfit
  have hdg := hide hdg
  clear hd1 hk1 hd2 hfit
  have ec : Hid (n - lz d = m ∧ c - lz d = c - z) := by constructor <;> omega
  rw [hzz] at hnc
  have hzz := hide hzz
  clear hm hz
  go_enter Tryd.func41, Tryd.ntmps41
  go_wp2_with (go_at_call 51; refine (trimLeft_any b o n c d _ hd (by omega) hn hc hc' (hcell'.out _ _)).mono ?_; rintro e w' ⟨h1, _, rfl⟩; have h1 := h1 hz'.out; rw [ec.out.1, ec.out.2, hzz.out] at h1; obtain rfl := h1)
  have hmz : ((m : Int) == 0) = false := by simp; omega
  go_loop [1, 2] (fun s e => ∃ k : Nat, k < m ∧ s = .slice (some ⟨b, o + z, none⟩) (m - k) (c - z) ∧ e = .int .i64 (x + k) ∧ Hid (∀ i (h : i < d1.length), m - k ≤ i → d1[i] = 0)) (fun s _ => lenOf s)
  case atStart => exact ⟨0, hm0, rfl, by simp, fun i h hi => by omega⟩
  case round =>
    obtain ⟨k, hk, rfl, rfl, hzr⟩ := hrel
    obtain ⟨q, hq⟩ : ∃ q, d1[m - k - 1]'(by omega) = q := ⟨_, rfl⟩
    have hcl := hcell'.out #[Value.bool false, Value.string { data := #[] }, Value.int IntKind.i64 0] 60 (z + (m - k - 1)) (by omega)
    have hq' : d[z + (m - k - 1)]'(by omega) = q := by
      rw [← hq, hg1.out (m - k - 1) (by omega) (by rw [hzz.out]; omega)]
      simp only [hzz.out]
    rw [hq', ← Nat.add_assoc] at hcl
    have hq := hide hq
    clear hq'
    by_cases h0 : q = 0
    · subst h0
      have hzr' : Hid (∀ i (h : i < d1.length), m - (k + 1) ≤ i → d1[i] = 0) := by
        show ∀ i (h : i < d1.length), m - (k + 1) ≤ i → d1[i] = 0
        intro i h hi
        by_cases e : i = m - k - 1
        · subst e; exact hq.out
        · exact hzr.out i h (by omega)
      have hk' : k + 1 < m := by
        by_cases e : k + 1 < m
        · exact e
        · have h1 := hzr'.out 0 (by omega) (by omega)
          exact absurd (by rw [List.getElem?_eq_getElem (by omega), h1]) hne.out
      go_wp2
      refine ⟨⟨k + 1, hk', by rw [Nat.sub_sub], ?_, hzr'.out⟩, by simp [lenOf]; omega⟩
      show Value.int _ _ = Value.int _ _
      congr 1
      omega
    · have h0' : ((q : Int) == 0) = false := by simp; exact h0
      have hkk : k1 = k := by rw [hhk.out]; exact tz_of d1 m k hd1l hk hzr.out (by rw [hq.out]; exact h0)
      have hl2 : d2.length = m - k := by rw [hhd2.out, List.length_take, hkk]; omega
      subst hkk
      have hl2' := hide hl2
      clear h0
      by_cases h40 : 40 < m - k1
      · go_wp2
        exact bodyPost_ret (v := .tuple #[.agg #[.bool false, .string ⟨#[]⟩, .int .i64 0], .int .i64 2]) (by simp [results, Tryd.results41, go_sem]) rfl ⟨by
          have : fit = false := by rw [hhfit.out]; exact decide_eq_false (by omega)
          rw [this]; rfl, (Below.refl _ _).alloc (Nat.le_refl _) _⟩
      by_cases he : -400 ≤ x + k1 ∧ x + k1 ≤ 400
      · have e3 : decide (-400 ≤ x + k1 ∧ x + k1 ≤ 400) = true := decide_eq_true he
        have hft : Hid (fit = true) := by
          show fit = true
          rw [hhfit.out]; exact decide_eq_true ⟨by omega, he⟩
        go_wp2_with (go_at_call 52; refine (expFits_any _ _).mono ?_; rintro e w' ⟨rfl, rfl⟩; rw [e3])
        have hg2 : Hid (∀ i (h : i < d2.length) (h' : z + i < d.length), d2[i] = d[z + i]) := by
          show ∀ i (h : i < d2.length) (h' : z + i < d.length), d2[i] = d[z + i]
          intro i h h'
          simp only [hhd2.out, List.getElem_take]
          rw [hg1.out i (by omega) (by rw [hzz.out]; exact h')]
          simp only [hzz.out]
        go_loopw [42] (fun i wr => ∃ k : Nat, k ≤ m - k1 ∧ i = .int .i64 k ∧ Hid (Arr wr (w.heap.size + 1) 86 ((d2.take k).map (fun v => 48 + v) ++ List.replicate (40 - k) 0)) ∧ Hid (Below (w.heap.size + 1) (w.alloc (.cells #[Value.bool false, Value.string { data := #[] }, Value.int IntKind.i64 0] 60)) wr)) (fun i _ => m - k1 - (intOf i).toNat)
        case atStart =>
          refine ⟨0, Nat.zero_le _, rfl, ?_, ?_⟩
          · show Arr _ _ _ _
            rw [show w.heap.size + 1 = (w.alloc (.cells #[Value.bool false, Value.string { data := #[] }, Value.int IntKind.i64 0] 60)).heap.size from by simp]
            exact arr_new _ _ 40 _ rfl
          · exact (Below.refl _ _).alloc (by simp) _
        case round =>
          obtain ⟨k, hk, rfl, hAr, hB⟩ := hrel
          by_cases hlt : k < m - k1
          · have hcl := hcell'.out #[Value.bool false, Value.string { data := #[] }, Value.int IntKind.i64 0] 60 (z + k) (by omega)
            rw [← hB.out.cell (p := ⟨b, o + (z + k), none⟩) (by show b < _; omega), ← hg2.out k (by omega) (by omega), ← Nat.add_assoc] at hcl
            have hv9 : d2[k]'(by omega) ≤ 9 := by rw [hg2.out k (by omega) (by omega)]; exact hdg.out _ (List.getElem_mem _)
            obtain ⟨v, hv⟩ : ∃ v, d2[k]'(by omega) = v := ⟨_, rfl⟩
            rw [hv] at hcl hv9
            have hcs := hAr.out.cell k (by simp; omega)
            have hfz := hAr.out.frozen k
            have hv := hide hv
            have hset : Hid (((d2.take k).map (fun v => 48 + v) ++ List.replicate (40 - k) 0).set k (48 + v) = (d2.take (k + 1)).map (fun v => 48 + v) ++ List.replicate (40 - (k + 1)) 0) := by
              show _ = _
              have hlen : ((d2.take k).map (fun v => 48 + v)).length = k := by simp; omega
              rw [List.set_append_right _ _ (by omega), hlen, Nat.sub_self, show 40 - k = (40 - (k + 1)) + 1 by omega, List.replicate_succ, List.set_cons_zero, List.take_succ_eq_append_getElem (by omega), List.map_append, hv.out]
              simp
            go_wp2
            refine ⟨⟨k + 1, by omega, by go_num, ?_, ?_⟩, by simp [intOf]; omega⟩
            · show Arr _ _ _ _
              rw [← hset.out]
              exact hAr.out.set k (48 + v)
            · exact hB.out.setCell (Nat.le_refl _) _
          · have hke : k = m - k1 := by omega
            subst hke
            have htk : d2.take (m - k1) = d2 := List.take_of_length_le (by omega)
            rw [htk] at hAr
            have hconv : (convert 39 9 (.slice (some ⟨w.heap.size + 1, 0, none⟩) (m - k1) 40)).run Tryd.prog wr = .ok (.string (mkS d2)) wr := by
              refine run_convert_bytes_arg (P := Tryd.prog) wr 39 5 Tryd.underlying39 Tryd.underlying5 (w.heap.size + 1) 0 (m - k1) 40 (d2.map fun v : Nat => ((v : Int) + 48)) (by simp; omega) (fun i hi => ?_) 9 Tryd.underlying9
              rw [Nat.zero_add, hAr.out.cell i (by simp; omega)]
              congr 2
              rw [List.getElem_append_left (by simp; omega), List.getElem_map, List.getD_eq_getElem?_getD, List.getElem?_map, List.getElem?_eq_getElem (by omega)]
              simp; omega
            have hr0 := hB.out.cell (p := ⟨w.heap.size, 0, none⟩) (Nat.lt_succ_self _)
            have hr1 := hB.out.cell (p := ⟨w.heap.size, 1, none⟩) (Nat.lt_succ_self _)
            have hr2 := hB.out.cell (p := ⟨w.heap.size, 2, none⟩) (Nat.lt_succ_self _)
            have hf0 := hB.out.frozen (p := ⟨w.heap.size, 0, none⟩) (Nat.lt_succ_self _)
            have hf1 := hB.out.frozen (p := ⟨w.heap.size, 1, none⟩) (Nat.lt_succ_self _)
            have hf2 := hB.out.frozen (p := ⟨w.heap.size, 2, none⟩) (Nat.lt_succ_self _)
            simp [go_sem] at hr0 hr1 hr2 hf0 hf1 hf2
            clear htk
            go_wp2
            refine bodyPost_ret (v := .tuple #[.agg #[.bool neg, .string (mkS d2), .int .i64 (x + k1)], .int .i64 0]) (by simp [results, Tryd.results41, go_sem, hr0, hr1, hr2]) rfl ⟨by rw [hft.out]; rfl, ?_⟩
            exact ((((((Below.refl _ w).alloc (Nat.le_refl _) _).trans (hB.out.mono (Nat.le_succ _))).setCell (Nat.le_refl _) _).setCell (Nat.le_refl _) _).setCell (Nat.le_refl _) _)
      · have e3 : decide (-400 ≤ x + k1 ∧ x + k1 ≤ 400) = false := decide_eq_false he
        have hft : Hid (fit = false) := by
          show fit = false
          rw [hhfit.out]; exact decide_eq_false (fun h => he h.2)
        go_wp2_with (go_at_call 52; refine (expFits_any _ _).mono ?_; rintro e w' ⟨rfl, rfl⟩; rw [e3])
        exact bodyPost_ret (v := .tuple #[.agg #[.bool false, .string ⟨#[]⟩, .int .i64 0], .int .i64 2]) (by simp [results, Tryd.results41, go_sem]) rfl ⟨by
          rw [hft.out]; rfl, (Below.refl _ _).alloc (Nat.le_refl _) _⟩
end Go.Proofs.YtjidnceccpmheaaDoor
