/- num's splitPower and split: walked. -/
import Derived.Test.YtjidnceccpmheaaGreatDoorZlN
namespace Go.Proofs.YtjidnceccpmheaaGreatDoor
open Go.RowKit
set_option linter.unusedSimpArgs false
set_option linter.unusedVariables false
/-- Block i holds the pieces of a number's text. -/
def PBox (W : World) (i : Nat) (n : Bool) (wh fr : ByteArray) (pn : Bool) (pw : ByteArray) : Prop := W.heap[i]? = some (.cells #[.bool n, .string wh, .string fr, .bool pn, .string pw] 68 (0, 0))
section
variable {W W1 : World} {i j o B b : Nat} {n n' pn pn' : Bool} {wh wh' fr fr' pw pw' : ByteArray} {v : Value}
theorem PBox.cells (h : PBox W i n wh fr pn pw) :
    W.cell? ⟨i, 0, none⟩ = some (.bool n) ∧ W.cell? ⟨i, 1, none⟩ = some (.string wh) ∧ W.cell? ⟨i, 2, none⟩ = some (.string fr) ∧ W.cell? ⟨i, 3, none⟩ = some (.bool pn) ∧ W.cell? ⟨i, 4, none⟩ = some (.string pw) ∧
    W.frozen? ⟨i, 0, none⟩ = false ∧ W.frozen? ⟨i, 1, none⟩ = false ∧ W.frozen? ⟨i, 2, none⟩ = false ∧ W.frozen? ⟨i, 3, none⟩ = false ∧ W.frozen? ⟨i, 4, none⟩ = false := by
  unfold PBox at h
  simp [World.cell?, World.frozen?, h]
theorem PBox.lt (h : PBox W i n wh fr pn pw) : i < W.heap.size := by
  unfold PBox at h
  by_cases hlt : i < W.heap.size
  · exact hlt
  · have hn : W.heap[i]? = none := by simp; omega
    rw [hn] at h; cases h
theorem PBox.below (h : PBox W i n wh fr pn pw) (hb : Below B W W1) (hi : i < B) : PBox W1 i n wh fr pn pw := by
  unfold PBox at h ⊢; rw [hb.block i hi]; exact h
theorem PBox.only (h : PBox W i n wh fr pn pw) (hb : Only b W W1) (hi : i ≠ b) : PBox W1 i n wh fr pn pw := by
  unfold PBox at h ⊢; rw [hb.block i hi]; exact h
theorem PBox.other (h : PBox W i n wh fr pn pw) (hij : i ≠ j) : PBox (W.setCell ⟨j, o, none⟩ v) i n wh fr pn pw := by
  unfold PBox at h ⊢; rw [Below.heap_setCell _ _ _ _ hij]; exact h
theorem PBox.drew (h : PBox W i n wh fr pn pw) : PBox W.drew i n wh fr pn pw := h
theorem PBox.set0 (h : PBox W i n wh fr pn pw) : PBox (W.setCell ⟨i, 0, none⟩ (.bool n')) i n' wh fr pn pw := by
  unfold PBox at h ⊢
  simp only [World.setCell, Array.getElem?_modify, if_true, h, Option.map_some]
  simp
theorem PBox.set1 (h : PBox W i n wh fr pn pw) : PBox (W.setCell ⟨i, 1, none⟩ (.string wh')) i n wh' fr pn pw := by
  unfold PBox at h ⊢
  simp only [World.setCell, Array.getElem?_modify, if_true, h, Option.map_some]
  simp
theorem PBox.set2 (h : PBox W i n wh fr pn pw) : PBox (W.setCell ⟨i, 2, none⟩ (.string fr')) i n wh fr' pn pw := by
  unfold PBox at h ⊢
  simp only [World.setCell, Array.getElem?_modify, if_true, h, Option.map_some]
  simp
theorem PBox.set3 (h : PBox W i n wh fr pn pw) : PBox (W.setCell ⟨i, 3, none⟩ (.bool pn')) i n wh fr pn' pw := by
  unfold PBox at h ⊢
  simp only [World.setCell, Array.getElem?_modify, if_true, h, Option.map_some]
  simp
theorem PBox.set4 (h : PBox W i n wh fr pn pw) : PBox (W.setCell ⟨i, 4, none⟩ (.string pw')) i n wh fr pn pw' := by
  unfold PBox at h ⊢
  simp only [World.setCell, Array.getElem?_modify, if_true, h, Option.map_some]
  simp
theorem PBox.alloc (h : PBox W i n wh fr pn pw) (o : Obj) : PBox (W.alloc o) i n wh fr pn pw := by
  have hl := h.lt
  unfold PBox at h ⊢
  rw [← h]
  exact Below.heap_alloc W o i hl
end
theorem pbox_new (w : World) (n : Bool) (wh fr : ByteArray) (pn : Bool) (pw : ByteArray) : PBox (w.alloc (.cells #[.bool n, .string wh, .string fr, .bool pn, .string pw] 68)) w.heap.size n wh fr pn pw := by
  unfold PBox
  show (w.heap.push _)[w.heap.size]? = _
  simp
/-- Two such boxes. -/
structure Two5 (w W : World) (n : Bool) (wh fr : ByteArray) (pn : Bool) (pw : ByteArray) (n' : Bool) (wh' fr' : ByteArray) (pn' : Bool) (pw' : ByteArray) : Prop where
  below : Below w.heap.size w W
  b0 : PBox W w.heap.size n wh fr pn pw
  b1 : PBox W (w.heap.size + 1) n' wh' fr' pn' pw'
section
variable {w W W1 : World} {n n' pn pn' : Bool} {wh wh' fr fr' pw pw' : ByteArray}
theorem Two5.then (h : Two5 w W n wh fr pn pw n' wh' fr' pn' pw') (hb : Below W.heap.size W W1) : Two5 w W1 n wh fr pn pw n' wh' fr' pn' pw' :=
  ⟨below_then h.below hb, h.b0.below hb h.b0.lt, h.b1.below hb h.b1.lt⟩
theorem Two5.drew (h : Two5 w W n wh fr pn pw n' wh' fr' pn' pw') : Two5 w W.drew n wh fr pn pw n' wh' fr' pn' pw' := ⟨h.below.drew, h.b0, h.b1⟩
end
theorem two5_new (w : World) (n : Bool) (wh fr : ByteArray) (pn : Bool) (pw : ByteArray) (n' : Bool) (wh' fr' : ByteArray) (pn' : Bool) (pw' : ByteArray) :
    Two5 w ((w.alloc (.cells #[.bool n, .string wh, .string fr, .bool pn, .string pw] 68)).alloc (.cells #[.bool n', .string wh', .string fr', .bool pn', .string pw'] 68)) n wh fr pn pw n' wh' fr' pn' pw' := by
  refine ⟨below_al (below_al (Below.refl _ _)), (pbox_new w n wh fr pn pw).alloc _, ?_⟩
  have := pbox_new (w.alloc (.cells #[.bool n, .string wh, .string fr, .bool pn, .string pw] 68)) n' wh' fr' pn' pw'
  simpa using this
theorem below_set {w W : World} {i o : Nat} {v : Value} (h : Below w.heap.size w W) (hi : w.heap.size ≤ i) : Below w.heap.size w (W.setCell ⟨i, o, none⟩ v) := h.setCell hi v
/-- The sign of a power of ten. -/
def spPn (l : List UInt8) : Bool := if hdB 43 l then false else hdB 45 l
/-- Its digits. -/
def spL (l : List UInt8) : List UInt8 := if hdB 43 l then tlB 43 l else tlB 45 l
/-- Are there digits, and no others? -/
def spOk (l : List UInt8) : Bool := !(spL l).isEmpty && allD (spL l)
theorem tlB_no {c : UInt8} {l : List UInt8} (h : hdB c l = false) : tlB c l = l := by unfold tlB; rw [h]; rfl
/-- The pieces, or nothing. -/
def partsE (ok : Bool) (n : Bool) (wh fr : ByteArray) (pn : Bool) (pw : ByteArray) : Ending :=
  if ok then .returned (.tuple #[.agg #[.bool n, .string wh, .string fr, .bool pn, .string pw], .bool true]) else .returned (.tuple #[.agg #[.bool false, .string ⟨#[]⟩, .string ⟨#[]⟩, .bool false, .string ⟨#[]⟩], .bool false])
set_option maxHeartbeats 1000000 in
theorem splitPower_any (n : Bool) (wh fr pw : ByteArray) (s : ByteArray) (w : World) (hs : s.size ≤ 100000) (ok : Bool) (hok : spOk (bl s) = ok) :
    Calls Tryz.prog 70 #[.agg #[.bool n, .string wh, .string fr, .bool false, .string pw], .string s] w fun e w' =>
      e = partsE ok n wh fr (spPn (bl s)) (mkB (spL (bl s))) ∧ Below w.heap.size w w' := by
  have ml : maxLen = 2 ^ 63 - 1 := rfl
  have HT := hide (two5_new w n wh fr false pw false ⟨#[]⟩ ⟨#[]⟩ false ⟨#[]⟩)
  cases hp : hdB 43 (bl s)
  · have hL : spL (bl s) = tlB 45 (bl s) := by unfold spL; rw [hp]; rfl
    have hP : spPn (bl s) = hdB 45 (bl s) := by unfold spPn; rw [hp]; rfl
    have hok' : Hid ((!(tlB 45 (bl s)).isEmpty && allD (tlB 45 (bl s))) = ok) := by rw [← hok, spOk, hL]; exact rfl
    rw [hL, hP]
    have hlen := tlB_length 45 (bl s)
    rw [bl_length] at hlen
    have hsz := mkB_size (tlB 45 (bl s))
    have hnil := mkB_nil (tlB 45 (bl s))
    have t43 := hide (tlB_no hp)
    clear hok hL hP
    obtain ⟨l, hl⟩ : ∃ l, tlB 45 (bl s) = l := ⟨_, rfl⟩
    rw [hl] at hok' hlen hsz hnil ⊢
    have hl := hide hl
    cases hem : l.isEmpty
    · rw [hem] at hnil
      cases had : allD l
      · have hf : ok = false := by rw [← hok'.out, hem, had]; rfl
        subst hf
        clear hok'
        go_enter Tryz.func70, Tryz.ntmps70
        go_wp2_with fail
        refine (cutByte_any s 43 _ _ rfl hs).mono ?_
        rw [hp, t43.out, mkB_bl]
        rintro e w1 ⟨rfl, hb1⟩
        have H1 := hide (HT.out.then hb1)
        clear HT hb1
        obtain ⟨c0, c1, c2, c3, c4, f0, f1, f2, f3, f4⟩ := H1.out.b0.cells
        obtain ⟨d0, d1, d2, d3, d4, g0, g1, g2, g3, g4⟩ := H1.out.b1.cells
        go_wp2_with fail
        refine (cutByte_any s 45 _ _ rfl hs).mono ?_
        rw [hl.out]
        rintro e w2 ⟨rfl, hb2⟩
        have H2 := hide (H1.out.then hb2)
        clear c0 c1 c2 c3 c4 f0 f1 f2 f3 f4 d0 d1 d2 d3 d4 g0 g1 g2 g3 g4 H1 hb2
        obtain ⟨c0, c1, c2, c3, c4, f0, f1, f2, f3, f4⟩ := H2.out.b0.cells
        obtain ⟨d0, d1, d2, d3, d4, g0, g1, g2, g3, g4⟩ := H2.out.b1.cells
        have hadb := hide had
        go_wp2_with (go_at_call 85; refine (areDigits_any _ _ (by omega)).mono ?_; rw [bl_mkB, hadb.out]; rintro e w3 ⟨rfl, rfl⟩)
        refine bodyPost_ret (v := .tuple #[.agg #[.bool false, .string ⟨#[]⟩, .string ⟨#[]⟩, .bool false, .string ⟨#[]⟩], .bool false]) (by simp [results, Tryz.results70, go_sem, d0, d1, d2, d3, d4]) rfl ⟨rfl, ?_⟩
        iterate 6 refine below_set ?_ (by omega)
        exact H2.out.below
      · have hf : ok = true := by rw [← hok'.out, hem, had]; rfl
        subst hf
        clear hok'
        go_enter Tryz.func70, Tryz.ntmps70
        go_wp2_with fail
        refine (cutByte_any s 43 _ _ rfl hs).mono ?_
        rw [hp, t43.out, mkB_bl]
        rintro e w1 ⟨rfl, hb1⟩
        have H1 := hide (HT.out.then hb1)
        clear HT hb1
        obtain ⟨c0, c1, c2, c3, c4, f0, f1, f2, f3, f4⟩ := H1.out.b0.cells
        obtain ⟨d0, d1, d2, d3, d4, g0, g1, g2, g3, g4⟩ := H1.out.b1.cells
        go_wp2_with fail
        refine (cutByte_any s 45 _ _ rfl hs).mono ?_
        rw [hl.out]
        rintro e w2 ⟨rfl, hb2⟩
        have H2 := hide (H1.out.then hb2)
        clear c0 c1 c2 c3 c4 f0 f1 f2 f3 f4 d0 d1 d2 d3 d4 g0 g1 g2 g3 g4 H1 hb2
        obtain ⟨c0, c1, c2, c3, c4, f0, f1, f2, f3, f4⟩ := H2.out.b0.cells
        obtain ⟨d0, d1, d2, d3, d4, g0, g1, g2, g3, g4⟩ := H2.out.b1.cells
        have hadb := hide had
        go_wp2_with (go_at_call 85; refine (areDigits_any _ _ (by omega)).mono ?_; rw [bl_mkB, hadb.out]; rintro e w3 ⟨rfl, rfl⟩)
        refine bodyPost_ret (v := .tuple #[.agg #[.bool n, .string wh, .string fr, .bool (hdB 45 (bl s)), .string (mkB l)], .bool true]) (by simp [results, Tryz.results70, go_sem, d0, d1, d2, d3, d4]) rfl ⟨rfl, ?_⟩
        iterate 7 refine below_set ?_ (by omega)
        exact H2.out.below
    · rw [hem] at hnil
      have hf : ok = false := by rw [← hok'.out, hem]; rfl
      subst hf
      clear hok'
      go_enter Tryz.func70, Tryz.ntmps70
      go_wp2_with fail
      refine (cutByte_any s 43 _ _ rfl hs).mono ?_
      rw [hp, t43.out, mkB_bl]
      rintro e w1 ⟨rfl, hb1⟩
      have H1 := hide (HT.out.then hb1)
      clear HT hb1
      obtain ⟨c0, c1, c2, c3, c4, f0, f1, f2, f3, f4⟩ := H1.out.b0.cells
      obtain ⟨d0, d1, d2, d3, d4, g0, g1, g2, g3, g4⟩ := H1.out.b1.cells
      go_wp2_with fail
      refine (cutByte_any s 45 _ _ rfl hs).mono ?_
      rw [hl.out]
      rintro e w2 ⟨rfl, hb2⟩
      have H2 := hide (H1.out.then hb2)
      clear c0 c1 c2 c3 c4 f0 f1 f2 f3 f4 d0 d1 d2 d3 d4 g0 g1 g2 g3 g4 H1 hb2
      obtain ⟨c0, c1, c2, c3, c4, f0, f1, f2, f3, f4⟩ := H2.out.b0.cells
      obtain ⟨d0, d1, d2, d3, d4, g0, g1, g2, g3, g4⟩ := H2.out.b1.cells
      go_wp2
      refine bodyPost_ret (v := .tuple #[.agg #[.bool false, .string ⟨#[]⟩, .string ⟨#[]⟩, .bool false, .string ⟨#[]⟩], .bool false]) (by simp [results, Tryz.results70, go_sem, d0, d1, d2, d3, d4]) rfl ⟨rfl, ?_⟩
      iterate 6 refine below_set ?_ (by omega)
      exact H2.out.below
  · have hL : spL (bl s) = tlB 43 (bl s) := by unfold spL; rw [hp]; rfl
    have hP : spPn (bl s) = false := by unfold spPn; rw [hp]; rfl
    have hok' : Hid ((!(tlB 43 (bl s)).isEmpty && allD (tlB 43 (bl s))) = ok) := by rw [← hok, spOk, hL]; exact rfl
    rw [hL, hP]
    have hlen := tlB_length 43 (bl s)
    rw [bl_length] at hlen
    have hsz := mkB_size (tlB 43 (bl s))
    have hnil := mkB_nil (tlB 43 (bl s))
    clear hok hL hP
    obtain ⟨l, hl⟩ : ∃ l, tlB 43 (bl s) = l := ⟨_, rfl⟩
    rw [hl] at hok' hlen hsz hnil ⊢
    have hl := hide hl
    cases hem : l.isEmpty
    · rw [hem] at hnil
      cases had : allD l
      · have hf : ok = false := by rw [← hok'.out, hem, had]; rfl
        subst hf
        clear hok'
        go_enter Tryz.func70, Tryz.ntmps70
        go_wp2_with fail
        refine (cutByte_any s 43 _ _ rfl hs).mono ?_
        rw [hp, hl.out]
        rintro e w1 ⟨rfl, hb1⟩
        have H1 := hide (HT.out.then hb1)
        clear HT hb1
        obtain ⟨c0, c1, c2, c3, c4, f0, f1, f2, f3, f4⟩ := H1.out.b0.cells
        obtain ⟨d0, d1, d2, d3, d4, g0, g1, g2, g3, g4⟩ := H1.out.b1.cells
        have hadb := hide had
        go_wp2_with (go_at_call 85; refine (areDigits_any _ _ (by omega)).mono ?_; rw [bl_mkB, hadb.out]; rintro e w3 ⟨rfl, rfl⟩)
        refine bodyPost_ret (v := .tuple #[.agg #[.bool false, .string ⟨#[]⟩, .string ⟨#[]⟩, .bool false, .string ⟨#[]⟩], .bool false]) (by simp [results, Tryz.results70, go_sem, d0, d1, d2, d3, d4]) rfl ⟨rfl, ?_⟩
        iterate 5 refine below_set ?_ (by omega)
        exact H1.out.below
      · have hf : ok = true := by rw [← hok'.out, hem, had]; rfl
        subst hf
        clear hok'
        go_enter Tryz.func70, Tryz.ntmps70
        go_wp2_with fail
        refine (cutByte_any s 43 _ _ rfl hs).mono ?_
        rw [hp, hl.out]
        rintro e w1 ⟨rfl, hb1⟩
        have H1 := hide (HT.out.then hb1)
        clear HT hb1
        obtain ⟨c0, c1, c2, c3, c4, f0, f1, f2, f3, f4⟩ := H1.out.b0.cells
        obtain ⟨d0, d1, d2, d3, d4, g0, g1, g2, g3, g4⟩ := H1.out.b1.cells
        have hadb := hide had
        go_wp2_with (go_at_call 85; refine (areDigits_any _ _ (by omega)).mono ?_; rw [bl_mkB, hadb.out]; rintro e w3 ⟨rfl, rfl⟩)
        refine bodyPost_ret (v := .tuple #[.agg #[.bool n, .string wh, .string fr, .bool false, .string (mkB l)], .bool true]) (by simp [results, Tryz.results70, go_sem, d0, d1, d2, d3, d4]) rfl ⟨rfl, ?_⟩
        iterate 6 refine below_set ?_ (by omega)
        exact H1.out.below
    · rw [hem] at hnil
      have hf : ok = false := by rw [← hok'.out, hem]; rfl
      subst hf
      clear hok'
      go_enter Tryz.func70, Tryz.ntmps70
      go_wp2_with fail
      refine (cutByte_any s 43 _ _ rfl hs).mono ?_
      rw [hp, hl.out]
      rintro e w1 ⟨rfl, hb1⟩
      have H1 := hide (HT.out.then hb1)
      clear HT hb1
      obtain ⟨c0, c1, c2, c3, c4, f0, f1, f2, f3, f4⟩ := H1.out.b0.cells
      obtain ⟨d0, d1, d2, d3, d4, g0, g1, g2, g3, g4⟩ := H1.out.b1.cells
      go_wp2
      refine bodyPost_ret (v := .tuple #[.agg #[.bool false, .string ⟨#[]⟩, .string ⟨#[]⟩, .bool false, .string ⟨#[]⟩], .bool false]) (by simp [results, Tryz.results70, go_sem, d0, d1, d2, d3, d4]) rfl ⟨rfl, ?_⟩
      iterate 5 refine below_set ?_ (by omega)
      exact H1.out.below
end Go.Proofs.YtjidnceccpmheaaGreatDoor
