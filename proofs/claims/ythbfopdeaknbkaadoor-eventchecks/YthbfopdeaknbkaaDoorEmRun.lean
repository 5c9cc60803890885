/- What a checker makes of a tree's events (no program in sight). -/
import Derived.Test.YthbfopdeaknbkaaDoorEkBuild
import Derived.Test.YthbfopdeaknbkaaDoorEgFeed
namespace Go.Proofs.YthbfopdeaknbkaaDoor
open Go.RowKit
set_option linter.unusedSimpArgs false
set_option linter.unusedVariables false
/-- May an event be, as a bool. -/
def sB (h : Hd) : Bool := decide (1 ≤ h.kind) && (decide (h.kind ≤ 9) && (!(strip h).flag && (!(strip h).neg && (decide ((strip h).dig.size = 0) && (decide ((strip h).exp = 0) && (decide ((strip h).bits = 0) && (decide ((strip h).text.size = 0) && (h.names.isEmpty && ((h.kind != 3 || isN h.neg h.dig h.exp) && ((h.kind != 5 || okT h.text) && (h.kind != 9 || okT h.text)))))))))))
def mayB (h : Hd) : Bool := sB (if h.kind = 9 ∨ h.kind = 10 then { h with kind := 9 } else if h.kind = 11 then { h with kind := 1 } else h)
theorem ba_empty (b : ByteArray) : b.size = 0 ↔ b = ⟨#[]⟩ := by
  constructor
  · intro h
    obtain ⟨d⟩ := b
    have : d.size = 0 := h
    rw [Array.eq_empty_of_size_eq_zero this]
  · rintro rfl; rfl
theorem sB_iff (h : Hd) : sB h = true ↔ 1 ≤ h.kind ∧ h.kind ≤ 9 ∧ strip h = zr h.kind ∧ h.names = [] ∧ (h.kind = 3 → isN h.neg h.dig h.exp = true) ∧ (h.kind = 5 → okT h.text = true) ∧ (h.kind = 9 → okT h.text = true) := by
  have hs : strip h = zr h.kind ↔ (strip h).flag = false ∧ (strip h).neg = false ∧ (strip h).dig = ⟨#[]⟩ ∧ (strip h).exp = 0 ∧ (strip h).bits = 0 ∧ (strip h).text = ⟨#[]⟩ ∧ (strip h).names = [] := by
    have : strip h = ⟨h.kind, (strip h).flag, (strip h).neg, (strip h).dig, (strip h).exp, (strip h).bits, (strip h).text, (strip h).names⟩ := rfl
    constructor
    · intro e; rw [e]; exact ⟨rfl, rfl, rfl, rfl, rfl, rfl, rfl⟩
    · rintro ⟨e1, e2, e3, e4, e5, e6, e7⟩
      rw [this, e1, e2, e3, e4, e5, e6, e7]; rfl
  have hnm : h.names = [] → (strip h).names = [] := by
    intro e
    show (bif h.kind == 8 then [] else h.names) = []
    rw [e]; cases (h.kind == 8) <;> rfl
  have im : ∀ (k : Int) (b : Bool), ((h.kind != k || b) = true) ↔ (h.kind = k → b = true) := by
    intro k b
    by_cases e : h.kind = k
    · simp [e]
    · simp [e]
  unfold sB
  simp only [Bool.and_eq_true, decide_eq_true_eq, Bool.not_eq_true', List.isEmpty_iff, im, ba_empty, hs]
  constructor
  · rintro ⟨h1, h2, h3, h4, h5, h6, h7, h8, h9, h10, h11, h12⟩
    exact ⟨h1, h2, ⟨h3, h4, h5, h6, h7, h8, hnm h9⟩, h9, h10, h11, h12⟩
  · rintro ⟨h1, h2, ⟨h3, h4, h5, h6, h7, h8, _⟩, h9, h10, h11, h12⟩
    exact ⟨h1, h2, h3, h4, h5, h6, h7, h8, h9, h10, h11, h12⟩
theorem isv_null1 : IsV 1 null1 := ⟨⟨by decide, by decide, rfl, Or.inr rfl⟩, ⟨fun h => (by cases h), fun h => (by cases h), fun h => (by cases h), fun h => (by cases h)⟩, fun y hy => by simp [null1] at hy⟩
theorem strip_names (h : Hd) (k : strip h = zr h.kind) (h8 : h.kind ≠ 8) : h.names = [] := by
  have := congrArg Hd.names k
  have k' : (h.kind == 8) = false := by simpa using h8
  simpa [strip, zr, k'] using this
theorem mayB_iff (h : Hd) : mayB h = true ↔ May h := by
  unfold mayB May
  by_cases h9 : h.kind = 9 ∨ h.kind = 10
  · rw [if_pos h9, mayV_9 h h9, sB_iff]
    constructor
    · rintro ⟨h1, h2, h3, h4, h5, h6, h7⟩
      refine ⟨⟨h1, h2, h3, Or.inl (show (7 : Int) ≤ 9 by decide)⟩, ⟨h5, h6, fun e => (by cases e), fun _ => ⟨h7 rfl, rfl⟩⟩, ?_⟩
      intro y hy
      have : y = null1 := by simpa [tv] using hy
      rw [this]; exact isv_null1
    · rintro ⟨⟨b1, b2, b3, b4⟩, ⟨f1, f2, f3, f4⟩, _⟩
      exact ⟨b1, b2, b3, strip_names _ b3 (show (9 : Int) ≠ 8 by decide), f1, f2, fun e => (f4 e).1⟩
  · rw [if_neg h9]
    have n9 : h.kind ≠ 9 := fun e => h9 (Or.inl e)
    have n10 : h.kind ≠ 10 := fun e => h9 (Or.inr e)
    by_cases h11 : h.kind = 11
    · rw [if_pos h11, mayV_11 h h11, sB_iff]
      constructor
      · rintro ⟨h1, h2, h3, h4, h5, h6, h7⟩
        exact ⟨⟨h1, h2, h3, Or.inr rfl⟩, ⟨h5, h6, fun e => (by cases e), fun e => (by cases e)⟩, fun y hy => (by simp [tv] at hy)⟩
      · rintro ⟨⟨b1, b2, b3, b4⟩, ⟨f1, f2, f3, f4⟩, _⟩
        exact ⟨b1, b2, b3, strip_names _ b3 (show (1 : Int) ≠ 8 by decide), f1, f2, fun e => (by cases e)⟩
    · rw [if_neg h11, mayV_o h n9 n10 h11, sB_iff]
      constructor
      · rintro ⟨h1, h2, h3, h4, h5, h6, h7⟩
        exact ⟨⟨h1, h2, h3, Or.inr rfl⟩, ⟨h5, h6, fun e => ⟨by show h.names.length = 0; rw [h4]; rfl, by show Nms h.names; rw [h4]; exact ⟨fun s hs => (by cases hs), List.nodup_nil⟩⟩, fun e => absurd e n9⟩, fun y hy => (by simp [tv] at hy)⟩
      · rintro ⟨⟨b1, b2, b3, b4⟩, ⟨f1, f2, f3, f4⟩, _⟩
        have f3 : h.kind = 8 → h.names.length = 0 ∧ Nms h.names := f3
        refine ⟨b1, b2, b3, ?_, f1, f2, fun e => absurd e n9⟩
        show h.names = []
        by_cases h8 : h.kind = 8
        · exact List.eq_nil_of_length_eq_zero (f3 h8).1
        · exact strip_names h b3 h8
/-- Where a checker stands behind events. -/
def runS (s : Option (List Pa × Bool)) (es : List Hd) : Option (List Pa × Bool) := es.foldl (fun s h => feedE s (mayB h) h) s
def runE (es : List Hd) : Option (List Pa × Bool) := runS (some ([], false)) es
theorem runS_app (s : Option (List Pa × Bool)) (a b : List Hd) : runS s (a ++ b) = runS (runS s a) b := by simp [runS]
theorem runS_cons (s : Option (List Pa × Bool)) (h : Hd) (es : List Hd) : runS s (h :: es) = runS (feedE s (mayB h) h) es := rfl
theorem runS_nil (s : Option (List Pa × Bool)) : runS s [] = s := rfl
theorem feedE_none (q : Bool) (h : Hd) : feedE none q h = none := by unfold feedE; cases q <;> rfl
theorem runS_none (es : List Hd) : runS none es = none := by
  induction es with
  | nil => rfl
  | cons h es ih => rw [runS_cons, feedE_none]; exact ih
theorem feedE_ok {st : List Pa} {bg : Bool} {h : Hd} (hm : May h) : feedE (some (st, bg)) (mayB h) h = stepE st bg h := by
  rw [(mayB_iff h).2 hm]; rfl
theorem strip_hd0 (h : Hd) (k : strip h = zr h.kind) : strip (hd0 h) = zr (hd0 h).kind := by
  unfold strip zr at k ⊢
  simp only [Hd.mk.injEq, hd0] at k ⊢
  simp_all
theorem may_head {n : Nat} {h : Hd} {l : List (VT n)} (hv : IsV (n + 1) (h, l)) : May (hd0 h) := by
  obtain ⟨⟨b1, b2, b3, b4⟩, ⟨f1, f2, f3, f4⟩, _⟩ := hv
  have hs := strip_hd0 h b3
  have b1 : 1 ≤ h.kind := b1
  have b2 : h.kind ≤ 9 := b2
  unfold May
  by_cases h9 : h.kind = 9
  · rw [mayV_9 (hd0 h) (Or.inl h9)]
    have he : ({ hd0 h with kind := 9 } : Hd) = hd0 h := by unfold hd0; simp [h9]
    rw [he]
    refine ⟨⟨b1, b2, hs, Or.inl (by show 7 ≤ h.kind; omega)⟩, ⟨f1, f2, fun k => ?_, fun k => ⟨(f4 k).1, rfl⟩⟩, ?_⟩
    · have : h.kind = 8 := k; omega
    · intro y hy
      have : y = null1 := by simpa [tv] using hy
      rw [this]; exact isv_null1
  · rw [mayV_o (hd0 h) h9 (by show h.kind ≠ 10; omega) (by show h.kind ≠ 11; omega)]
    exact ⟨⟨b1, b2, hs, Or.inr rfl⟩, ⟨f1, f2, fun k => ⟨rfl, fun s hs => (by cases hs), List.nodup_nil⟩, fun k => absurd k h9⟩, fun y hy => by simp [tv] at hy⟩
theorem may_name {s : ByteArray} (hs : okT s = true) : May (evN s) := by
  unfold May
  rw [mayV_9 (evN s) (Or.inr rfl)]
  refine ⟨⟨(show (1 : Int) ≤ 9 by decide), (show (9 : Int) ≤ 9 by decide), rfl, Or.inl (show (7 : Int) ≤ 9 by decide)⟩, ⟨fun h => (by cases h), fun h => (by cases h), fun h => (by cases h), fun _ => ⟨hs, rfl⟩⟩, ?_⟩
  intro y hy
  have : y = null1 := by simpa [tv] using hy
  rw [this]; exact isv_null1
theorem may_end : May evE := by
  unfold May
  rw [mayV_11 evE rfl]
  exact ⟨⟨(show (1 : Int) ≤ 1 by decide), (show (1 : Int) ≤ 9 by decide), rfl, Or.inr rfl⟩, ⟨fun h => (by cases h), fun h => (by cases h), fun h => (by cases h), fun h => (by cases h)⟩, fun y hy => by simp [tv] at hy⟩
theorem isv_nf : ∀ (n : Nat) (x : VT n), IsV n x → NF n x
  | 0, _, _ => trivial
  | n + 1, (h, l), hv => by
    obtain ⟨⟨b1, b2, b3, b4⟩, ⟨f1, f2, f3, f4⟩, hc⟩ := hv
    refine ⟨b1, b2, fun k => ?_, fun k => (f3 k).1, fun k => ?_, fun y hy => isv_nf n y (hc y hy)⟩
    · rcases b4 with h1 | h1
      · have : h.kind < 7 := k; omega
      · exact h1
    · have := congrArg Hd.names b3
      have k' : (h.kind == 8) = false := by have : h.kind ≠ 8 := k; simpa using this
      simpa [strip, zr, k'] using this
theorem step_val {st st' : List Pa} {bg bg' : Bool} {h : Hd} (h10 : h.kind ≠ 10) (h11 : h.kind ≠ 11) (hv : valE st bg = some (st', bg')) : stepE st bg h = some (newE h.kind ++ st', bg') := by
  unfold stepE
  rw [if_neg h10, if_neg h11, hv]
  rfl
theorem step_end (k : Int) (ns : List ByteArray) (r : List Pa) (bg : Bool) : stepE ((k, false, ns) :: r) bg evE = some (r, bg) := rfl
/-- A checker takes a value's events. -/
theorem run_fl : ∀ (n : Nat) (x : VT n), IsV n x → ∀ (st st' : List Pa) (bg bg' : Bool), valE st bg = some (st', bg') → runS (some (st, bg)) (fl n x) = some (st', bg')
  | 0, x, _ => Empty.elim x
  | n + 1, (h, l), hv => by
    intro st st' bg bg' hst
    have hm := may_head hv
    obtain ⟨⟨b1, b2, b3, b4⟩, ⟨f1, f2, f3, f4⟩, hc⟩ := hv
    have b1 : 1 ≤ h.kind := b1
    have b2 : h.kind ≤ 9 := b2
    have hc : ∀ y ∈ l, IsV n y := hc
    rw [fl_succ, runS_cons, feedE_ok hm, step_val (by show h.kind ≠ 10; omega) (by show h.kind ≠ 11; omega) hst]
    by_cases h7 : h.kind < 7
    · rw [if_pos h7, runS_nil]
      have : newE (hd0 h).kind = [] := by
        show newE h.kind = []
        unfold newE
        rw [if_neg (by omega), if_neg (by omega), if_neg (by omega)]
      rw [this]; rfl
    · rw [if_neg h7, runS_app]
      -- the children
      have key : ∀ k, k ≤ l.length → runS (some (newE h.kind ++ st', bg')) (kids n h l k) = some ((h.kind, decide (h.kind = 9 ∧ k = 0), if h.kind = 8 then h.names.take k else []) :: st', bg') := by
        intro k
        induction k with
        | zero =>
          intro _
          rw [kids_zero, runS_nil]
          have : h.kind = 7 ∨ h.kind = 8 ∨ h.kind = 9 := by omega
          rcases this with e | e | e <;> rw [e] <;> rfl
        | succ k ih =>
          intro hk
          have hk' : k < l.length := by omega
          rw [kids_succ n h l k hk', runS_app, runS_app, ih (by omega)]
          have hy := run_fl n l[k] (hc _ (List.getElem_mem hk'))
          by_cases h8 : h.kind = 8
          · obtain ⟨hn1, hn2, hn3⟩ := f3 h8
            have hn1 : h.names.length = l.length := hn1
            have hkn : k < h.names.length := by omega
            have hp0 : preN h k = [evN h.names[k]] := by unfold preN; rw [if_pos h8]; simp [hkn]
            have hnot : inN (h.names.take k) h.names[k] = false := by
              rw [Bool.eq_false_iff]
              intro hin
              have hmem := (inN_iff _ _).1 hin
              obtain ⟨j, hj, hje⟩ := List.getElem_of_mem hmem
              rw [List.getElem_take] at hje
              have hj' : j < k := by rw [List.length_take] at hj; omega
              have := (List.getElem_inj hn3 (h₀ := by omega) (h₁ := hkn)).1 hje
              omega
            rw [hp0, runS_cons, runS_nil, feedE_ok (may_name (hn2 _ (List.getElem_mem hkn)))]
            have hs : stepE ((h.kind, decide (h.kind = 9 ∧ k = 0), if h.kind = 8 then h.names.take k else []) :: st') bg' (evN h.names[k]) = some ((8, true, h.names.take k ++ [h.names[k]]) :: st', bg') := by
              rw [if_pos h8, h8]
              show (if (8 : Int) = 8 ∧ decide ((8 : Int) = 9 ∧ k = 0) = false ∧ inN (h.names.take k) h.names[k] = false then _ else _) = _
              rw [if_pos ⟨rfl, by simp, hnot⟩]
              rfl
            rw [hs, hy _ ((8, false, h.names.take k ++ [h.names[k]]) :: st') bg' bg' rfl, if_pos h8, List.take_succ_eq_append_getElem hkn, h8]
            simp
          · have hp0 : preN h k = [] := if_neg h8
            rw [hp0, runS_nil, if_neg h8, if_neg h8]
            by_cases h9 : h.kind = 9
            · have hk0 : k = 0 := by have := (f4 h9).2; simp only at this; omega
              subst hk0
              rw [hy _ ((h.kind, false, []) :: st') bg' bg' (by rw [h9]; rfl)]
              simp
            · have h77 : h.kind = 7 := by omega
              rw [hy _ ((h.kind, false, []) :: st') bg' bg' (by rw [h77]; rfl)]
              simp [h9]
      have hlast := key l.length (Nat.le_refl _)
      show runS (runS (some (newE h.kind ++ st', bg')) (kids n h l l.length)) [evE] = _
      rw [hlast, runS_cons, runS_nil, feedE_ok may_end]
      have hw : decide (h.kind = 9 ∧ l.length = 0) = false := by
        rw [decide_eq_false_iff_not]
        rintro ⟨h9, h0⟩
        have := (f4 h9).2
        simp only at this
        omega
      rw [hw, step_end]
theorem runE_fl (n : Nat) (x : VT n) (hv : IsV n x) : runE (fl n x) = some ([], true) := run_fl n x hv [] [] false true rfl
end Go.Proofs.YthbfopdeaknbkaaDoor
