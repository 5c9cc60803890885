/- Types as trees: what a struct api.Type reads as, and how it lies in memory. -/
import Derived.Test.YtolmbjeinilhlaaDoorZtWbSize
import Derived.Test.YtolmbjeinilhlaaDoorZtWdEqual
namespace Go.Proofs.YtolmbjeinilhlaaDoor
open Go.RowKit
set_option linter.unusedSimpArgs false
set_option linter.unusedVariables false
/-- A type but for its List. -/
structure Th where
  kind : Int
  names : List ByteArray
/-- Types that are nested less than n deep. -/
def TT : Nat → Type
  | 0 => Empty
  | n + 1 => Th × List (TT n)
def thd : (n : Nat) → TT n → Th
  | 0, x => Empty.elim x
  | _ + 1, x => x.1
/-- A type's cells. -/
def tvs (h : Th) (ns ls : Value) : Array Value := #[.int .i64 h.kind, ns, ls]
/-- A slice whose elements have three cells, the element number i being as R says. -/
def TLp {α : Type} (hd : α → Th) (R : α → Value → Value → Prop) (w : World) (v : Value) (l : List α) : Prop :=
  (v = .slice none 0 0 ∧ l = []) ∨ ∃ (b o c : Nat) (sp : Option Nat), v = .slice (some ⟨b, o, sp⟩) l.length c ∧ l.length ≤ c ∧ c ≤ maxLen ∧ (0 < l.length → sp = none ∧ b < w.heap.size) ∧
      ∀ i (h : i < l.length), ∃ ns' ls', w.rangeAt b (o + i * 3) (tvs (hd l[i]) ns' ls').toList ∧ R l[i] ns' ls'
/-- A type reads as x: its Names and its List. -/
def RT : (n : Nat) → World → TT n → Value → Value → Prop
  | 0, _, _, _, _ => False
  | n + 1, w, x, ns, ls => NL w ns x.1.names ∧ TLp (thd n) (fun y ns' ls' => RT n w y ns' ls') w ls x.2
/-- A slice of types reads as l. -/
def TL (n : Nat) (w : World) (v : Value) (l : List (TT n)) : Prop := TLp (thd n) (fun y ns' ls' => RT n w y ns' ls') w v l
theorem RT.below : ∀ {n : Nat} {w W : World} {x : TT n} {ns ls : Value}, RT n w x ns ls → Below w.heap.size w W → RT n W x ns ls
  | 0, _, _, x, _, _, _, _ => Empty.elim x
  | n + 1, w, W, x, ns, ls, h, hb => by
    obtain ⟨h1, h2⟩ := h
    refine ⟨h1.below hb, ?_⟩
    rcases h2 with h2 | ⟨b, o, c, sp, e, k1, k2, k3, hc⟩
    · exact Or.inl h2
    · refine Or.inr ⟨b, o, c, sp, e, k1, k2, fun h => ⟨(k3 h).1, Nat.lt_of_lt_of_le (k3 h).2 hb.size⟩, fun i hi => ?_⟩
      obtain ⟨ns', ls', r1, r2⟩ := hc i hi
      exact ⟨ns', ls', rangeAt_below r1 hb (k3 (by omega)).2, RT.below r2 hb⟩
theorem TL.below {n : Nat} {w W : World} {v : Value} {l : List (TT n)} (h : TL n w v l) (hb : Below w.heap.size w W) : TL n W v l := by
  rcases h with h2 | ⟨b, o, c, sp, e, k1, k2, k3, hc⟩
  · exact Or.inl h2
  · refine Or.inr ⟨b, o, c, sp, e, k1, k2, fun h => ⟨(k3 h).1, Nat.lt_of_lt_of_le (k3 h).2 hb.size⟩, fun i hi => ?_⟩
    obtain ⟨ns', ls', r1, r2⟩ := hc i hi
    exact ⟨ns', ls', rangeAt_below r1 hb (k3 (by omega)).2, RT.below r2 hb⟩
theorem RT.tl {n : Nat} {w : World} {x : TT (n + 1)} {ns ls : Value} (h : RT (n + 1) w x ns ls) : TL n w ls x.2 := h.2
theorem TL.len {n : Nat} {w : World} {v : Value} {l : List (TT n)} (h : TL n w v l) : ∃ a c, v = .slice a l.length c ∧ l.length ≤ c ∧ c ≤ maxLen := by
  rcases h with ⟨rfl, rfl⟩ | ⟨b, o, c, sp, rfl, h1, h2, _⟩
  · exact ⟨none, 0, rfl, Nat.le_refl _, by decide⟩
  · exact ⟨_, c, rfl, h1, h2⟩
theorem RT.len {n : Nat} {w : World} {x : TT (n + 1)} {ns ls : Value} (h : RT (n + 1) w x ns ls) : ∃ a c, ls = .slice a x.2.length c ∧ x.2.length ≤ c ∧ c ≤ maxLen := h.tl.len
/-- The element number i: where it lies, and what it reads as. -/
theorem TL.at {n : Nat} {w : World} {v : Value} {l : List (TT n)} (h : TL n w v l) (i : Nat) (hi : i < l.length) :
    ∃ b o c, v = .slice (some ⟨b, o, none⟩) l.length c ∧ b < w.heap.size ∧ l.length ≤ c ∧ c ≤ maxLen ∧ ∃ ns' ls', w.rangeAt b (o + i * 3) (tvs (thd n l[i]) ns' ls').toList ∧ RT n w l[i] ns' ls' := by
  rcases h with ⟨rfl, e⟩ | ⟨b, o, c, sp, rfl, h1, h2, h3, hc⟩
  · rw [e] at hi; simp at hi
  · obtain ⟨rfl, hb⟩ := h3 (by omega)
    exact ⟨b, o, c, rfl, hb, h1, h2, hc i hi⟩
theorem RT.at {n : Nat} {w : World} {x : TT (n + 1)} {ns ls : Value} (h : RT (n + 1) w x ns ls) (i : Nat) (hi : i < x.2.length) :
    ∃ b o c, ls = .slice (some ⟨b, o, none⟩) x.2.length c ∧ b < w.heap.size ∧ x.2.length ≤ c ∧ c ≤ maxLen ∧ ∃ ns' ls', w.rangeAt b (o + i * 3) (tvs (thd n x.2[i]) ns' ls').toList ∧ RT n w x.2[i] ns' ls' := h.tl.at i hi
theorem range3 {w : World} {b o : Nat} {h : Th} {ns ls : Value} (k : w.rangeAt b o (tvs h ns ls).toList) : w.cell? ⟨b, o, none⟩ = some (.int .i64 h.kind) ∧ w.cell? ⟨b, o + 1, none⟩ = some ns ∧ w.cell? ⟨b, o + 2, none⟩ = some ls :=
  ⟨k 0 _ rfl, k 1 _ rfl, k 2 _ rfl⟩
theorem RT.shape : ∀ {n : Nat} {w : World} {x : TT n} {ns ls : Value}, RT n w x ns ls → ∃ a m c a' m' c', ns = .slice a m c ∧ ls = .slice a' m' c'
  | 0, _, x, _, _, _ => Empty.elim x
  | n + 1, w, x, ns, ls, h => by
    obtain ⟨a, c, e, _⟩ := h.1.len
    obtain ⟨a', c', e', _⟩ := h.len
    exact ⟨_, _, _, _, _, _, e, e'⟩
/-- A type in a block of its own. -/
structure Tx (W : World) (i : Nat) (h : Th) (ns ls : Value) : Prop where
  at_ : W.heap[i]? = some (.cells (tvs h ns ls) 26 (0, 0))
theorem tx_new (w : World) (h : Th) (ns ls : Value) : Tx (w.alloc (.cells (tvs h ns ls) 26)) w.heap.size h ns ls := ⟨heap_alloc_last w _⟩
theorem Tx.lt {W : World} {i : Nat} {h : Th} {ns ls : Value} (k : Tx W i h ns ls) : i < W.heap.size := by
  have := k.at_
  by_cases hlt : i < W.heap.size
  · exact hlt
  · have hn : W.heap[i]? = none := by simp; omega
    rw [hn] at this; cases this
theorem Tx.below {W W1 : World} {i : Nat} {h : Th} {ns ls : Value} (k : Tx W i h ns ls) (hb : Below W.heap.size W W1) : Tx W1 i h ns ls := ⟨(hb.block _ k.lt).trans k.at_⟩
theorem Tx.cell {W : World} {i : Nat} {h : Th} {ns ls : Value} (k : Tx W i h ns ls) (j : Nat) : W.cell? ⟨i, j, none⟩ = (tvs h ns ls)[j]? := by
  unfold World.cell?
  rw [k.at_]
  rfl
theorem Tx.cells {W : World} {i : Nat} {h : Th} {ns ls : Value} (k : Tx W i h ns ls) : W.cell? ⟨i, 0, none⟩ = some (.int .i64 h.kind) ∧ W.cell? ⟨i, 1, none⟩ = some ns ∧ W.cell? ⟨i, 2, none⟩ = some ls :=
  ⟨k.cell 0, k.cell 1, k.cell 2⟩
theorem infoT3 : (Tryd.prog.info? 26).map (·.size) = some 3 := by kernel_rfl
theorem Tx.range {W : World} {i : Nat} {h : Th} {ns ls : Value} (k : Tx W i h ns ls) : W.rangeAt i 0 (tvs h ns ls).toList := by
  intro j v hj
  rw [Nat.zero_add, k.cell j, ← hj, Array.getElem?_toList]
/-- Depth and size. -/
def tdep : (n : Nat) → TT n → Nat
  | 0, _ => 0
  | n + 1, x => 1 + mxl (x.2.map (tdep n))
def tsiz : (n : Nat) → TT n → Nat
  | 0, _ => 0
  | n + 1, x => 1 + suml (x.2.map (tsiz n))
theorem tdep_le : ∀ (n : Nat) (x : TT n), tdep n x ≤ tsiz n x
  | 0, x => Empty.elim x
  | n + 1, x => by
    simp only [tdep, tsiz]
    have := mxl_le (l := x.2.map (tdep n)) (m := x.2.map (tsiz n)) (fun i h1 h2 => by simp only [List.getElem_map]; exact tdep_le n _) (by simp)
    omega
theorem tsiz_mem {n : Nat} {x : TT (n + 1)} {i : Nat} (h : i < x.2.length) : tsiz n x.2[i] < tsiz (n + 1) x := by
  have := suml_mem (l := x.2.map (tsiz n)) (i := i) (by simpa using h)
  simp only [List.getElem_map] at this
  simp only [tsiz]; omega
set_option maxHeartbeats 1000000 in
set_option maxRecDepth 100000 in
theorem tdepth_any : ∀ (n : Nat) (x : TT n) (ns ls : Value) (w : World), RT n w x ns ls → tsiz n x ≤ 200000 →
    Calls Tryd.prog 29 #[.agg (tvs (thd n x) ns ls)] w fun e w' => e = .returned (.int .i64 (tdep n x)) ∧ Below w.heap.size w w' := by
  intro n
  induction n with
  | zero => intro x; exact Empty.elim x
  | succ n ih =>
    intro x ns ls w hr hs
    obtain ⟨h, l⟩ := x
    obtain ⟨al, cl, rfl, hc1, hc2⟩ := hr.len
    have hr := hide hr
    have ih' := hide ih
    have hs' := hide hs
    clear ih hs
    show Calls _ _ #[.agg #[.int .i64 h.kind, ns, .slice al l.length cl]] _ _
    go_enter Tryd.func29, Tryd.ntmps29
    go_wp2_with fail
    go_loopw [3, 9] (fun m i w' => ∃ k : Nat, m = .int .i64 (mxl ((l.map (tdep n)).take k) : Nat) ∧ i = .int .i64 k ∧ k ≤ l.length ∧ Hid (Below w.heap.size w w')) (fun _ i _ => l.length - (intOf i).toNat)
    case atStart => exact ⟨0, rfl, rfl, Nat.zero_le _, below_al (Below.refl _ _)⟩
    case round =>
      obtain ⟨k, rfl, rfl, hk, hb⟩ := hrel
      have ml : maxLen = 9223372036854775807 := rfl
      have hk63 : (k : Int) ≤ 9223372036854775807 := by omega
      by_cases hkl : k < l.length
      · obtain ⟨b, o, c, he, hbl, hlc, hcm, ns', ls', hrg, hrd⟩ := hr.out.at k hkl
        have he' := Value.slice.inj he
        obtain ⟨rfl, _, rfl⟩ := he'
        clear he
        have hki : (k : Int) < (l.length : Int) := by omega
        have hk63 : (k : Int) < 9223372036854775807 := by omega
        obtain ⟨c0, c1, c2⟩ := range3 (rangeAt_below hrg hb.out hbl)
        have hrd' := hide (hrd.below hb.out)
        obtain ⟨a1, m1, d1, a2, m2, d2, rfl, rfl⟩ := hrd.shape
        clear hrg hrd
        have hsk : tsiz n l[k] ≤ 200000 := by have h1 := tsiz_mem (x := (h, l)) hkl; have h2 := hs'.out; simp only at h1; omega
        obtain ⟨D, hD⟩ : ∃ D, tdep n l[k] = D := ⟨_, rfl⟩
        have hmx := mxl_take (l.map (tdep n)) k (by simpa using hkl)
        rw [List.getElem_map, hD] at hmx
        have hcall := hide (fun o => ih'.out l[k] (.slice a1 m1 d1) (.slice a2 m2 d2) (wr.alloc o) (hrd'.out.below (below_al (Below.refl _ _))) hsk)
        rw [hD] at hcall
        obtain ⟨M, hM⟩ : ∃ M, mxl ((l.map (tdep n)).take k) = M := ⟨_, rfl⟩
        rw [hM] at hmx ⊢
        have hmx' := hide hmx
        have hD' := hide hD
        have hM' := hide hM
        clear hD hM hsk hmx
        rcases Nat.lt_trichotomy M D with hlt | hlt | hlt
        · have hdi : (M : Int) < (D : Int) := by omega
          have hdj : ¬ ((D : Int) < (M : Int)) := by omega
          go_wp2_with (go_at_call 29; refine (hcall.out _).mono ?_; rintro e w1 ⟨rfl, hb1⟩)
          exact ⟨⟨k + 1, by rw [hmx'.out]; congr 2; omega, by go_num, by omega, below_then (below_al hb.out) hb1⟩, by simp [intOf]; omega⟩
        · subst hlt
          have hdi : ¬ ((M : Int) < (M : Int)) := by omega
          go_wp2_with (go_at_call 29; refine (hcall.out _).mono ?_; rintro e w1 ⟨rfl, hb1⟩)
          exact ⟨⟨k + 1, by rw [hmx'.out]; congr 2; omega, by go_num, by omega, below_then (below_al hb.out) hb1⟩, by simp [intOf]; omega⟩
        · have hdi : (D : Int) < (M : Int) := by omega
          have hdj : ¬ ((M : Int) < (D : Int)) := by omega
          go_wp2_with (go_at_call 29; refine (hcall.out _).mono ?_; rintro e w1 ⟨rfl, hb1⟩)
          exact ⟨⟨k + 1, by rw [hmx'.out]; congr 2; omega, by go_num, by omega, below_then (below_al hb.out) hb1⟩, by simp [intOf]; omega⟩
      · have hki : ¬ ((k : Int) < (l.length : Int)) := by omega
        have hkl2 : k = l.length := by omega
        have hD : tdep (n + 1) (h, l) = 1 + mxl ((l.map (tdep n)).take k) := by
          simp only [tdep]
          rw [List.take_of_length_le (by simp; omega)]
        have hsz : 1 + mxl ((l.map (tdep n)).take k) ≤ 200000 := by
          rw [← hD]; exact Nat.le_trans (tdep_le _ _) hs'.out
        obtain ⟨M, hM⟩ : ∃ M, mxl ((l.map (tdep n)).take k) = M := ⟨_, rfl⟩
        rw [hM] at hsz hD ⊢
        have hD' := hide hD
        clear hD hM hkl2
        have hM2 : (M : Int) < 200000 := by omega
        clear hsz
        go_wp2_with fail
        go_ret
        exact ⟨by rw [hD'.out]; exact ret_int (by omega), hb.out⟩
set_option maxHeartbeats 1000000 in
set_option maxRecDepth 100000 in
theorem tsize_any : ∀ (n : Nat) (x : TT n) (ns ls : Value) (w : World), RT n w x ns ls → tsiz n x ≤ 200000 →
    Calls Tryd.prog 30 #[.agg (tvs (thd n x) ns ls)] w fun e w' => e = .returned (.int .i64 (tsiz n x)) ∧ Below w.heap.size w w' := by
  intro n
  induction n with
  | zero => intro x; exact Empty.elim x
  | succ n ih =>
    intro x ns ls w hr hs
    obtain ⟨h, l⟩ := x
    obtain ⟨al, cl, rfl, hc1, hc2⟩ := hr.len
    have hr := hide hr
    have ih' := hide ih
    have hs' := hide hs
    clear ih hs
    show Calls _ _ #[.agg #[.int .i64 h.kind, ns, .slice al l.length cl]] _ _
    go_enter Tryd.func30, Tryd.ntmps30
    go_wp2_with fail
    go_loopw [3, 9] (fun m i w' => ∃ k : Nat, m = .int .i64 (1 + suml ((l.map (tsiz n)).take k) : Nat) ∧ i = .int .i64 k ∧ k ≤ l.length ∧ Hid (Below w.heap.size w w')) (fun _ i _ => l.length - (intOf i).toNat)
    case atStart => exact ⟨0, rfl, rfl, Nat.zero_le _, below_al (Below.refl _ _)⟩
    case round =>
      obtain ⟨k, rfl, rfl, hk, hb⟩ := hrel
      have ml : maxLen = 9223372036854775807 := rfl
      have hk63 : (k : Int) ≤ 9223372036854775807 := by omega
      obtain ⟨M, hM⟩ : ∃ M, 1 + suml ((l.map (tsiz n)).take k) = M := ⟨_, rfl⟩
      have hMle : M ≤ 200000 := by
        have h1 := suml_take_le (l.map (tsiz n)) k
        have h2 := hs'.out
        simp only [tsiz] at h2
        omega
      by_cases hkl : k < l.length
      · obtain ⟨b, o, c, he, hbl, hlc, hcm, ns', ls', hrg, hrd⟩ := hr.out.at k hkl
        have he' := Value.slice.inj he
        obtain ⟨rfl, _, rfl⟩ := he'
        clear he
        have hki : (k : Int) < (l.length : Int) := by omega
        have hk63 : (k : Int) < 9223372036854775807 := by omega
        obtain ⟨c0, c1, c2⟩ := range3 (rangeAt_below hrg hb.out hbl)
        have hrd' := hide (hrd.below hb.out)
        obtain ⟨a1, m1, d1, a2, m2, d2, rfl, rfl⟩ := hrd.shape
        clear hrg hrd
        have hsk : tsiz n l[k] ≤ 200000 := by have h1 := tsiz_mem (x := (h, l)) hkl; have h2 := hs'.out; simp only at h1; omega
        obtain ⟨D, hD⟩ : ∃ D, tsiz n l[k] = D := ⟨_, rfl⟩
        have hmx := suml_take (l.map (tsiz n)) k (by simpa using hkl)
        rw [List.getElem_map, hD] at hmx
        have hcall := hide (fun o => ih'.out l[k] (.slice a1 m1 d1) (.slice a2 m2 d2) (wr.alloc o) (hrd'.out.below (below_al (Below.refl _ _))) hsk)
        rw [hD] at hcall hsk
        have hmx : 1 + suml ((l.map (tsiz n)).take (k + 1)) = M + D := by omega
        rw [hM]
        have hmx' := hide hmx
        have hD1 : (D : Int) ≤ 200000 := by omega
        have hM1 : (M : Int) ≤ 200000 := by omega
        clear hD hM hsk hmx hMle
        go_wp2_with (go_at_call 30; refine (hcall.out _).mono ?_; rintro e w1 ⟨rfl, hb1⟩)
        exact ⟨⟨k + 1, by rw [hmx'.out]; first | rfl | (congr 1), by go_num, by omega, below_then (below_al hb.out) hb1⟩, by simp [intOf]; omega⟩
      · have hki : ¬ ((k : Int) < (l.length : Int)) := by omega
        have hD : tsiz (n + 1) (h, l) = M := by
          rw [← hM]
          simp only [tsiz]
          rw [List.take_of_length_le (by simp; omega)]
        rw [hM]
        have hD' := hide hD
        clear hD hM hMle
        go_wp2_with fail
        go_ret
        exact ⟨by rw [hD'.out]; rfl, hb.out⟩
end Go.Proofs.YtolmbjeinilhlaaDoor
