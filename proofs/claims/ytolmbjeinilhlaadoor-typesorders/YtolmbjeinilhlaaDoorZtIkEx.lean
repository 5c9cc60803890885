/- The document's examples of layer 11: types and values; plain, union. -/
import Derived.Test.YtolmbjeinilhlaaDoorZtIhM
namespace Go.Proofs.YtolmbjeinilhlaaDoor
open Go.RowKit Go.Maps
set_option linter.unusedSimpArgs false
set_option linter.unusedVariables false
/-- A type without parts. -/
def plT (n : Nat) (k : Int) : TT (n + 1) := (⟨k, []⟩, [])
theorem plT_rt (n : Nat) (k : Int) (w : World) : RT (n + 1) w (plT n k) (.slice none 0 0) (.slice none 0 0) := ⟨Or.inl ⟨rfl, rfl⟩, Or.inl ⟨rfl, rfl⟩⟩
theorem plT_isT (n : Nat) (k : Int) (h : 1 ≤ k ∧ k ≤ 8) : IsT (n + 1) (plT n k) := ⟨Or.inr (Or.inr ⟨h.1, h.2, rfl, rfl⟩), fun y hy => by simp [plT] at hy⟩
theorem plT_sht (n : Nat) (k : Int) : TSht (n + 1) (plT n k) := ⟨by simp [plT], fun s hs => by simp [plT] at hs, fun y hy => by simp [plT] at hy⟩
theorem plT_chk (n : Nat) (k : Int) (h : 1 ≤ k ∧ k ≤ 8) : TChk (n + 1) (plT n k) 0 :=
  Or.inr (Or.inr ⟨rfl, plT_isT n k h, plT_sht n k, by simp [tdep, plT, mxl], by simp [tsiz, plT, suml]⟩)
theorem plT_rd (n : Nat) (k : Int) (w : World) : TRd (n + 1) w (plT n k) (.slice none 0 0) (.slice none 0 0) := ⟨plT_rt n k w, tsz_of _ _ (plT_sht n k), by simp [tsiz, plT, suml]⟩
theorem plT_bad (n : Nat) (k : Int) (h : ¬ (1 ≤ k ∧ k ≤ 8)) (h2 : k ≠ 10 ∧ k ≠ 11) : TChk (n + 1) (plT n k) 110 := by
  refine Or.inl ⟨rfl, fun q => ?_⟩
  rcases q.1 with ⟨_, _, e⟩ | ⟨e, _⟩ | ⟨e, e', _⟩
  · simp [plT] at e
  · rcases e with e | e
    · exact h2.1 e
    · exact h2.2 e
  · exact h ⟨e, e'⟩
/-- A union of one name. -/
def unT (s : ByteArray) (k : Int) : TT 2 := (⟨11, [s]⟩, [plT 0 k])
/-- The union of two. -/
def unT2 : TT 2 := (⟨11, [⟨#[97]⟩, ⟨#[98]⟩]⟩, [plT 0 5, plT 0 7])
theorem unT_isT (s : ByteArray) (k : Int) (hs : okT s = true) (h : 1 ≤ k ∧ k ≤ 8) : IsT 2 (unT s k) := by
  refine ⟨Or.inr (Or.inl ⟨Or.inr rfl, rfl, fun t ht => ?_, by simp [unT]⟩), fun y hy => ?_⟩
  · have : t = s := by simpa [unT] using ht
    rw [this]; exact hs
  · have : y = plT 0 k := by simpa [unT] using hy
    rw [this]; exact plT_isT 0 k h
theorem unT_chk (s : ByteArray) (k : Int) (hs : okT s = true) (hz : s.size ≤ 64) (h : 1 ≤ k ∧ k ≤ 8) : TChk 2 (unT s k) 0 := by
  refine Or.inr (Or.inr ⟨rfl, unT_isT s k hs h, ⟨by simp [unT], fun t ht => ?_, fun y hy => ?_⟩, (show 2 ≤ 16 by decide), (show 2 ≤ 4096 by decide)⟩)
  · have : t = s := by simpa [unT] using ht
    rw [this]; exact hz
  · have : y = plT 0 k := by simpa [unT] using hy
    rw [this]; exact plT_sht 0 k
theorem unT2_chk : TChk 2 unT2 0 := by
  refine Or.inr (Or.inr ⟨rfl, ⟨Or.inr (Or.inl ⟨Or.inr rfl, rfl, fun t ht => ?_, by simp [unT2]⟩), fun y hy => ?_⟩, ⟨by simp [unT2], fun t ht => ?_, fun y hy => ?_⟩, (show 2 ≤ 16 by decide), (show 3 ≤ 4096 by decide)⟩)
  · have : t = ⟨#[97]⟩ ∨ t = ⟨#[98]⟩ := by simpa [unT2] using ht
    rcases this with rfl | rfl <;> decide
  · have : y = plT 0 5 ∨ y = plT 0 7 := by simpa [unT2] using hy
    rcases this with rfl | rfl
    · exact plT_isT 0 5 (by decide)
    · exact plT_isT 0 7 (by decide)
  · have : t = ⟨#[97]⟩ ∨ t = ⟨#[98]⟩ := by simpa [unT2] using ht
    rcases this with rfl | rfl <;> decide
  · have : y = plT 0 5 ∨ y = plT 0 7 := by simpa [unT2] using hy
    rcases this with rfl | rfl
    · exact plT_sht 0 5
    · exact plT_sht 0 7
theorem unT_np (s t : ByteArray) (k k' : Int) (h : s ≠ t) : ¬ Prt 2 (unT s k) (unT t k') := by
  rintro (q | ⟨q, _⟩ | ⟨_, q⟩)
  · simp [unT] at q
  · simp [unT] at q
  · rcases q with ⟨_, q⟩ | ⟨q, _⟩
    · obtain ⟨i, h3, h4, e, _⟩ := q 0 (by simp [unT]) (by simp [unT])
      have hi : i = 0 := by have : i < 1 := h3; omega
      subst hi
      exact h e.symm
    · exact q rfl
theorem us_ab {nm : List ByteArray} {ts : List (TT 1)} (h : US 1 (unT ⟨#[97]⟩ 5) (unT ⟨#[98]⟩ 7) 1 nm ts) : nm = unT2.1.names ∧ ts = unT2.2 := by
  obtain ⟨nm0, ts0, ⟨rfl, rfl⟩, k⟩ := h
  rcases k with ⟨s, y, e1, e2, _, rfl, rfl⟩ | ⟨j, s, x, y, e1, e2, e3, _⟩
  · have e1 : (some ⟨#[98]⟩ : Option ByteArray) = some s := e1
    have e2 : some (plT 0 7) = some y := e2
    cases e1
    cases e2
    exact ⟨rfl, rfl⟩
  · exfalso
    have e1 : (some ⟨#[98]⟩ : Option ByteArray) = some s := e1
    cases e1
    obtain ⟨g, e⟩ := List.getElem?_eq_some_iff.1 e3
    have hj : j = 0 := by have : j < 1 := g; omega
    subst hj
    have e : (⟨#[97]⟩ : ByteArray) = ⟨#[98]⟩ := e
    exact absurd e (by decide)
theorem jn_ab {j : TT 2} (h : Jn 1 (unT ⟨#[97]⟩ 5) (unT ⟨#[98]⟩ 7) j) : j = unT2 := by
  rcases h with ⟨q, _⟩ | ⟨_, q, _⟩ | ⟨_, _, _, _, nm, ts, hu, _, rfl⟩ | ⟨_, _, q, _⟩
  · exact absurd q (unT_np _ _ _ _ (by decide))
  · exact absurd q (unT_np _ _ _ _ (by decide))
  · obtain ⟨rfl, rfl⟩ := us_ab hu
    rfl
  · exfalso
    rcases q with q | ⟨i, j', s, x, y, e1, _, e3, _⟩ | ⟨nm, ts, hu, hc⟩
    · exact q ⟨rfl, rfl⟩
    · obtain ⟨g, e⟩ := List.getElem?_eq_some_iff.1 e3
      obtain ⟨g', e'⟩ := List.getElem?_eq_some_iff.1 e1
      have hj : j' = 0 := by have : j' < 1 := g; omega
      have hi : i = 0 := by have : i < 1 := g'; omega
      subst hj hi
      have e : (⟨#[97]⟩ : ByteArray) = s := e
      have e' : (⟨#[98]⟩ : ByteArray) = s := e'
      exact absurd (e.trans e'.symm) (by decide)
    · obtain ⟨rfl, rfl⟩ := us_ab hu
      exact hc unT2_chk
/-- The numbers five and a half. -/
def nuT (x : Int) : VT 1 := (⟨3, false, false, ⟨#[53]⟩, x, 0, ⟨#[]⟩, []⟩, [])
theorem five_chk : Chk 1 (nuT 0) 0 := Or.inr (Or.inr ⟨rfl, ⟨⟨(show (1 : Int) ≤ 3 by decide), (show (3 : Int) ≤ 9 by decide), rfl, Or.inr rfl⟩, ⟨fun _ => by decide, fun h => (by cases h), fun h => (by cases h), fun h => (by cases h)⟩, fun y hy => (by cases hy)⟩, ⟨⟨(show (0 : Int) ≤ 4096 by decide), (show 0 ≤ 256 by decide), fun s hs => (by cases hs), fun y hy => (by cases hy)⟩, (show 1 ≤ 16 by decide), (show 1 ≤ 4096 by decide)⟩⟩)
theorem half_chk : Chk 1 (nuT (-1)) 0 := Or.inr (Or.inr ⟨rfl, ⟨⟨(show (1 : Int) ≤ 3 by decide), (show (3 : Int) ≤ 9 by decide), rfl, Or.inr rfl⟩, ⟨fun _ => by decide, fun h => (by cases h), fun h => (by cases h), fun h => (by cases h)⟩, fun y hy => (by cases hy)⟩, ⟨⟨(show (0 : Int) ≤ 4096 by decide), (show 0 ≤ 256 by decide), fun s hs => (by cases hs), fun y hy => (by cases hy)⟩, (show 1 ≤ 16 by decide), (show 1 ≤ 4096 by decide)⟩⟩)
theorem nuT_rd (x : Int) (w : World) : Rdy 1 w (nuT x) (.slice none 0 0) (.slice none 0 0) := ⟨⟨Or.inl ⟨rfl, rfl⟩, Or.inl ⟨rfl, rfl⟩⟩, ⟨(show 0 ≤ 281474976710656 by decide), (show 1 ≤ 281474976710656 by decide), (show 0 ≤ 281474976710656 by decide), fun s hs => (by cases hs), fun y hy => (by cases hy)⟩, (show 1 ≤ 200000 by decide)⟩
theorem five_in : InT 1 (plT 0 5) 1 (nuT 0) := Or.inl ⟨(show (5 : Int) ≤ 8 by decide), Or.inr (Or.inl ⟨rfl, rfl, (show (0 : Int) ≤ 0 by decide)⟩)⟩
theorem half_in : ¬ InT 1 (plT 0 5) 1 (nuT (-1)) := by
  rintro (⟨_, q⟩ | ⟨q, _⟩ | ⟨q, _⟩ | ⟨q, _⟩)
  · rcases q with q | ⟨_, _, q⟩ | ⟨_, q, _⟩
    · exact absurd (show (5 : Int) = 1 from q) (by decide)
    · exact absurd (show (0 : Int) ≤ -1 from q) (by decide)
    · exact q rfl
  · exact absurd (show (5 : Int) = 9 from q) (by decide)
  · exact absurd (show (5 : Int) = 10 from q) (by decide)
  · exact absurd (show (5 : Int) = 11 from q) (by decide)
theorem prt_54 : Prt 1 (plT 0 5) (plT 0 4) := Or.inr (Or.inl ⟨rfl, rfl⟩)
theorem prt_45 : ¬ Prt 1 (plT 0 4) (plT 0 5) := by
  rintro (q | ⟨q, _⟩ | ⟨q, _⟩)
  · exact absurd (show (5 : Int) = 1 from q) (by decide)
  · exact absurd (show (4 : Int) = 5 from q) (by decide)
  · exact absurd (show (4 : Int) = 5 from q) (by decide)
set_option maxHeartbeats 1000000 in
theorem lplain_any (k : Int) (w : World) : Calls Tryd.prog 22 #[.int .i64 k] w fun e w' => e = .returned (.agg #[.int .i64 k, .slice none 0 0, .slice none 0 0]) ∧ Below w.heap.size w w' := by
  go_enter Tryd.func22, Tryd.ntmps22
  go_wp2_with fail
  refine bodyPost_ret (v := .agg #[.int .i64 k, .slice none 0 0, .slice none 0 0]) (by simp [results, Tryd.results22, go_sem, *]) rfl ⟨rfl, ?_⟩
  exact below_al (Below.refl _ _)
set_option maxHeartbeats 1000000 in
theorem lunion_any (s : ByteArray) (k : Int) (w : World) : Calls Tryd.prog 35 #[.string s, .agg #[.int .i64 k, .slice none 0 0, .slice none 0 0]] w fun e w' => ∃ a b, e = .returned (.agg #[.int .i64 11, .slice (some ⟨a, 0, none⟩) 1 1, .slice (some ⟨b, 0, none⟩) 1 1]) ∧ Hid (RT 2 w' (unT s k) (.slice (some ⟨a, 0, none⟩) 1 1) (.slice (some ⟨b, 0, none⟩) 1 1)) ∧ Below w.heap.size w w' := by
  go_enter Tryd.func35, Tryd.ntmps35
  go_wp2_with fail
  refine bodyPost_ret (v := .agg #[.int .i64 11, .slice (some ⟨w.heap.size + 1 + 1, 0, none⟩) 1 1, .slice (some ⟨w.heap.size + 1 + 1 + 1, 0, none⟩) 1 1]) (by simp [results, Tryd.results35, go_sem, *]) rfl ⟨w.heap.size + 1 + 1, w.heap.size + 1 + 1 + 1, rfl, ?_, below_al (below_al (below_al (below_al (Below.refl _ _))))⟩
  obtain ⟨W1, hW1⟩ : ∃ W1, (w.alloc (.cells #[.int .i64 k, .slice none 0 0, .slice none 0 0] 26)).alloc (.cells #[.int .i64 11, .slice (some ⟨w.heap.size + 1 + 1, 0, none⟩) 1 1, .slice (some ⟨w.heap.size + 1 + 1 + 1, 0, none⟩) 1 1] 26) = W1 := ⟨_, rfl⟩
  have hs : W1.heap.size = w.heap.size + 1 + 1 := by rw [← hW1]; simp
  rw [hW1, ← hs]
  have h2 : ((W1.alloc (.cells #[.string s] 9)).alloc (.cells #[.int .i64 k, .slice none 0 0, .slice none 0 0] 26)).heap[W1.heap.size]? = some (.cells #[.string s] 9 (0, 0)) := by
    rw [Below.heap_alloc _ _ _ (by simp)]
    exact heap_alloc_last W1 _
  have h3 := tx_new (W1.alloc (.cells #[.string s] 9)) ⟨k, []⟩ (.slice none 0 0) (.slice none 0 0)
  rw [World.size_alloc] at h3
  refine ⟨Or.inr ⟨W1.heap.size, 0, 1, none, rfl, Nat.le_refl _, by decide, fun _ => ⟨rfl, by simp; omega⟩, fun i hi => ?_⟩, Or.inr ⟨W1.heap.size + 1, 0, 1, none, rfl, Nat.le_refl _, by decide, fun _ => ⟨rfl, h3.lt⟩, fun i hi => ?_⟩⟩
  · have hi0 : i = 0 := by have : i < 1 := hi; omega
    subst hi0
    unfold World.cell?
    rw [h2]
    rfl
  · have hi0 : i = 0 := by have : i < 1 := hi; omega
    subst hi0
    exact ⟨.slice none 0 0, .slice none 0 0, h3.range, plT_rt 0 k _⟩
end Go.Proofs.YtolmbjeinilhlaaDoor
