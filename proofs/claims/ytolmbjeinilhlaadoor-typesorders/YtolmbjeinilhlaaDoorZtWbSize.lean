/- value.Depth, Size: walked. -/
import Derived.Test.YtolmbjeinilhlaaDoorZtWaTree
namespace Go.Proofs.YtolmbjeinilhlaaDoor
open Go.RowKit
set_option linter.unusedSimpArgs false
set_option linter.unusedVariables false
/-- The greatest of some numbers. -/
def mxl : List Nat → Nat
  | [] => 0
  | a :: l => max a (mxl l)
theorem mxl_app (a b : List Nat) : mxl (a ++ b) = max (mxl a) (mxl b) := by
  induction a with
  | nil => simp [mxl]
  | cons x a ih => simp only [List.cons_append, mxl, ih]; omega
def suml : List Nat → Nat
  | [] => 0
  | a :: l => a + suml l
theorem suml_app (a b : List Nat) : suml (a ++ b) = suml a + suml b := by
  induction a with
  | nil => simp [suml]
  | cons x a ih => simp only [List.cons_append, suml, ih]; omega
theorem mxl_take (l : List Nat) (i : Nat) (h : i < l.length) : mxl (l.take (i + 1)) = max (mxl (l.take i)) l[i] := by
  rw [List.take_succ_eq_append_getElem h, mxl_app]; simp [mxl]
theorem suml_take (l : List Nat) (i : Nat) (h : i < l.length) : suml (l.take (i + 1)) = suml (l.take i) + l[i] := by
  rw [List.take_succ_eq_append_getElem h, suml_app]; simp [suml]
theorem suml_take_le (l : List Nat) (i : Nat) : suml (l.take i) ≤ suml l := by
  have := suml_app (l.take i) (l.drop i)
  rw [List.take_append_drop] at this
  omega
theorem mxl_le {l m : List Nat} (h : ∀ i (h1 : i < l.length) (h2 : i < m.length), l[i] ≤ m[i]) (hl : l.length = m.length) : mxl l ≤ suml m := by
  induction l generalizing m with
  | nil => exact Nat.zero_le _
  | cons a l ih =>
    cases m with
    | nil => simp at hl
    | cons b m =>
      have h0 := h 0 (by simp) (by simp)
      have := ih (m := m) (fun i h1 h2 => h (i + 1) (by simp; omega) (by simp; omega)) (by simpa using hl)
      simp only [List.getElem_cons_zero] at h0
      simp only [mxl, suml]; omega
/-- Depth and Size. -/
def dep : (n : Nat) → VT n → Nat
  | 0, _ => 0
  | n + 1, x => 1 + mxl (x.2.map (dep n))
def siz : (n : Nat) → VT n → Nat
  | 0, _ => 0
  | n + 1, x => 1 + suml (x.2.map (siz n))
theorem dep_le : ∀ (n : Nat) (x : VT n), dep n x ≤ siz n x
  | 0, x => Empty.elim x
  | n + 1, x => by
    simp only [dep, siz]
    have := mxl_le (l := x.2.map (dep n)) (m := x.2.map (siz n)) (fun i h1 h2 => by simp only [List.getElem_map]; exact dep_le n _) (by simp)
    omega
theorem suml_mem {l : List Nat} {i : Nat} (h : i < l.length) : l[i] ≤ suml l := by
  have h1 := suml_take l i h
  have h2 := suml_take_le l (i + 1)
  omega
theorem siz_mem {n : Nat} {x : VT (n + 1)} {i : Nat} (h : i < x.2.length) : siz n x.2[i] < siz (n + 1) x := by
  have := suml_mem (l := x.2.map (siz n)) (i := i) (by simpa using h)
  simp only [List.getElem_map] at this
  simp only [siz]; omega
set_option maxHeartbeats 1000000 in
set_option maxRecDepth 100000 in
theorem depth_any : ∀ (n : Nat) (x : VT n) (ns ls : Value) (w : World), RD n w x ns ls → siz n x ≤ 200000 →
    Calls Tryd.prog 49 #[.agg (vals (vhd n x) ns ls)] w fun e w' => e = .returned (.int .i64 (dep n x)) ∧ Below w.heap.size w w' := by
  intro n
  induction n with
  | zero => intro x; exact Empty.elim x
  | succ n ih =>
    intro x ns ls w hr hs
    obtain ⟨h, l⟩ := x
    obtain ⟨al, cl, rfl, hc1, hc2⟩ := hr.len
    have hr := hide hr
    have ih' := hide ih
    have hs' := hide hs
    clear ih hs
    show Calls _ _ #[.agg #[.int .i64 h.kind, .bool h.flag, .bool h.neg, .string h.dig, .int .i64 h.exp, .int .u64 h.bits, .string h.text, ns, .slice al l.length cl]] _ _
    go_enter Tryd.func49, Tryd.ntmps49
    go_wp2_with fail
    go_loopw [3, 9] (fun m i w' => ∃ k : Nat, m = .int .i64 (mxl ((l.map (dep n)).take k) : Nat) ∧ i = .int .i64 k ∧ k ≤ l.length ∧ Hid (Below w.heap.size w w')) (fun _ i _ => l.length - (intOf i).toNat)
    case atStart => exact ⟨0, rfl, rfl, Nat.zero_le _, below_al (Below.refl _ _)⟩
    case round =>
      obtain ⟨k, rfl, rfl, hk, hb⟩ := hrel
      have ml : maxLen = 9223372036854775807 := rfl
      have hk63 : (k : Int) ≤ 9223372036854775807 := by omega
      by_cases hkl : k < l.length
      · obtain ⟨b, o, c, he, hbl, hlc, hcm, ns', ls', hrg, hrd⟩ := hr.out.at k hkl
        have he' := Value.slice.inj he
        obtain ⟨rfl, _, rfl⟩ := he'
        clear he
        have hki : (k : Int) < (l.length : Int) := by omega
        have hk63 : (k : Int) < 9223372036854775807 := by omega
        obtain ⟨c0, c1, c2, c3, c4, c5, c6, c7, c8⟩ := range9 (rangeAt_below hrg hb.out hbl)
        have hrd' := hide (hrd.below hb.out)
        obtain ⟨a1, m1, d1, a2, m2, d2, rfl, rfl⟩ := hrd.shape
        clear hrg hrd
        have hsk : siz n l[k] ≤ 200000 := by have h1 := siz_mem (x := (h, l)) hkl; have h2 := hs'.out; simp only at h1; omega
        obtain ⟨D, hD⟩ : ∃ D, dep n l[k] = D := ⟨_, rfl⟩
        have hmx := mxl_take (l.map (dep n)) k (by simpa using hkl)
        rw [List.getElem_map, hD] at hmx
        have hcall := hide (fun o => ih'.out l[k] (.slice a1 m1 d1) (.slice a2 m2 d2) (wr.alloc o) (hrd'.out.below (below_al (Below.refl _ _))) hsk)
        rw [hD] at hcall
        obtain ⟨M, hM⟩ : ∃ M, mxl ((l.map (dep n)).take k) = M := ⟨_, rfl⟩
        rw [hM] at hmx ⊢
        have hmx' := hide hmx
        have hD' := hide hD
        have hM' := hide hM
        clear hD hM hsk hmx
        rcases Nat.lt_trichotomy M D with hlt | hlt | hlt
        · have hdi : (M : Int) < (D : Int) := by omega
          have hdj : ¬ ((D : Int) < (M : Int)) := by omega
          go_wp2_with (go_at_call 49; refine (hcall.out _).mono ?_; rintro e w1 ⟨rfl, hb1⟩)
          exact ⟨⟨k + 1, by rw [hmx'.out]; congr 2; omega, by go_num, by omega, below_then (below_al hb.out) hb1⟩, by simp [intOf]; omega⟩
        · subst hlt
          have hdi : ¬ ((M : Int) < (M : Int)) := by omega
          go_wp2_with (go_at_call 49; refine (hcall.out _).mono ?_; rintro e w1 ⟨rfl, hb1⟩)
          exact ⟨⟨k + 1, by rw [hmx'.out]; congr 2; omega, by go_num, by omega, below_then (below_al hb.out) hb1⟩, by simp [intOf]; omega⟩
        · have hdi : (D : Int) < (M : Int) := by omega
          have hdj : ¬ ((M : Int) < (D : Int)) := by omega
          go_wp2_with (go_at_call 49; refine (hcall.out _).mono ?_; rintro e w1 ⟨rfl, hb1⟩)
          exact ⟨⟨k + 1, by rw [hmx'.out]; congr 2; omega, by go_num, by omega, below_then (below_al hb.out) hb1⟩, by simp [intOf]; omega⟩
      · have hki : ¬ ((k : Int) < (l.length : Int)) := by omega
        have hkl2 : k = l.length := by omega
        have hD : dep (n + 1) (h, l) = 1 + mxl ((l.map (dep n)).take k) := by
          simp only [dep]
          rw [List.take_of_length_le (by simp; omega)]
        have hsz : 1 + mxl ((l.map (dep n)).take k) ≤ 200000 := by
          rw [← hD]; exact Nat.le_trans (dep_le _ _) hs'.out
        obtain ⟨M, hM⟩ : ∃ M, mxl ((l.map (dep n)).take k) = M := ⟨_, rfl⟩
        rw [hM] at hsz hD ⊢
        have hD' := hide hD
        clear hD hM hkl2
        have hM2 : (M : Int) < 200000 := by omega
        clear hsz
        go_wp2_with fail
        go_ret
        exact ⟨by rw [hD'.out]; exact ret_int (by omega), hb.out⟩
set_option maxHeartbeats 1000000 in
set_option maxRecDepth 100000 in
theorem size_any : ∀ (n : Nat) (x : VT n) (ns ls : Value) (w : World), RD n w x ns ls → siz n x ≤ 200000 →
    Calls Tryd.prog 50 #[.agg (vals (vhd n x) ns ls)] w fun e w' => e = .returned (.int .i64 (siz n x)) ∧ Below w.heap.size w w' := by
  intro n
  induction n with
  | zero => intro x; exact Empty.elim x
  | succ n ih =>
    intro x ns ls w hr hs
    obtain ⟨h, l⟩ := x
    obtain ⟨al, cl, rfl, hc1, hc2⟩ := hr.len
    have hr := hide hr
    have ih' := hide ih
    have hs' := hide hs
    clear ih hs
    show Calls _ _ #[.agg #[.int .i64 h.kind, .bool h.flag, .bool h.neg, .string h.dig, .int .i64 h.exp, .int .u64 h.bits, .string h.text, ns, .slice al l.length cl]] _ _
    go_enter Tryd.func50, Tryd.ntmps50
    go_wp2_with fail
    go_loopw [3, 9] (fun m i w' => ∃ k : Nat, m = .int .i64 (1 + suml ((l.map (siz n)).take k) : Nat) ∧ i = .int .i64 k ∧ k ≤ l.length ∧ Hid (Below w.heap.size w w')) (fun _ i _ => l.length - (intOf i).toNat)
    case atStart => exact ⟨0, rfl, rfl, Nat.zero_le _, below_al (Below.refl _ _)⟩
    case round =>
      obtain ⟨k, rfl, rfl, hk, hb⟩ := hrel
      have ml : maxLen = 9223372036854775807 := rfl
      have hk63 : (k : Int) ≤ 9223372036854775807 := by omega
      obtain ⟨M, hM⟩ : ∃ M, 1 + suml ((l.map (siz n)).take k) = M := ⟨_, rfl⟩
      have hMle : M ≤ 200000 := by
        have h1 := suml_take_le (l.map (siz n)) k
        have h2 := hs'.out
        simp only [siz] at h2
        omega
      by_cases hkl : k < l.length
      · obtain ⟨b, o, c, he, hbl, hlc, hcm, ns', ls', hrg, hrd⟩ := hr.out.at k hkl
        have he' := Value.slice.inj he
        obtain ⟨rfl, _, rfl⟩ := he'
        clear he
        have hki : (k : Int) < (l.length : Int) := by omega
        have hk63 : (k : Int) < 9223372036854775807 := by omega
        obtain ⟨c0, c1, c2, c3, c4, c5, c6, c7, c8⟩ := range9 (rangeAt_below hrg hb.out hbl)
        have hrd' := hide (hrd.below hb.out)
        obtain ⟨a1, m1, d1, a2, m2, d2, rfl, rfl⟩ := hrd.shape
        clear hrg hrd
        have hsk : siz n l[k] ≤ 200000 := by have h1 := siz_mem (x := (h, l)) hkl; have h2 := hs'.out; simp only at h1; omega
        obtain ⟨D, hD⟩ : ∃ D, siz n l[k] = D := ⟨_, rfl⟩
        have hmx := suml_take (l.map (siz n)) k (by simpa using hkl)
        rw [List.getElem_map, hD] at hmx
        have hcall := hide (fun o => ih'.out l[k] (.slice a1 m1 d1) (.slice a2 m2 d2) (wr.alloc o) (hrd'.out.below (below_al (Below.refl _ _))) hsk)
        rw [hD] at hcall hsk
        have hmx : 1 + suml ((l.map (siz n)).take (k + 1)) = M + D := by omega
        rw [hM]
        have hmx' := hide hmx
        have hD1 : (D : Int) ≤ 200000 := by omega
        have hM1 : (M : Int) ≤ 200000 := by omega
        clear hD hM hsk hmx hMle
        go_wp2_with (go_at_call 50; refine (hcall.out _).mono ?_; rintro e w1 ⟨rfl, hb1⟩)
        exact ⟨⟨k + 1, by rw [hmx'.out]; first | rfl | (congr 1), by go_num, by omega, below_then (below_al hb.out) hb1⟩, by simp [intOf]; omega⟩
      · have hki : ¬ ((k : Int) < (l.length : Int)) := by omega
        have hD : siz (n + 1) (h, l) = M := by
          rw [← hM]
          simp only [siz]
          rw [List.take_of_length_le (by simp; omega)]
        rw [hM]
        have hD' := hide hD
        clear hD hM hMle
        go_wp2_with fail
        go_ret
        exact ⟨by rw [hD'.out]; rfl, hb.out⟩
end Go.Proofs.YtolmbjeinilhlaaDoor
