/- event.build: walked. -/
import Derived.Test.YthbfopdeaknbkaaDoorEjFlat
import Derived.Deep.RegionLaw
import Derived.Test.YthbfopdeaknbkaaDoorXqCopy
namespace Go.Proofs.YthbfopdeaknbkaaDoor
open Go.RowKit
set_option linter.unusedSimpArgs false
set_option linter.unusedVariables false
/-- Events in a row of memory. -/
def EL (W : World) (b o : Nat) (es : List Hd) : Prop := ∀ i (h : i < es.length), W.rangeAt b (o + i * 7) (evs es[i]).toList
theorem EL.below {w W : World} {b o : Nat} {es : List Hd} (h : EL w b o es) (hb : Below w.heap.size w W) (hlt : b < w.heap.size) : EL W b o es := fun i hi => rangeAt_below (h i hi) hb hlt
theorem EL.tail {w : World} {b o : Nat} {e : Hd} {es : List Hd} (h : EL w b o (e :: es)) : EL w b (o + 7) es := fun i hi => by
  have := h (i + 1) (by simp; omega)
  rw [show o + 7 + i * 7 = o + (i + 1) * 7 by omega]
  exact this
theorem EL.drop {w : World} {b o : Nat} {ps es : List Hd} (h : EL w b o (ps ++ es)) : EL w b (o + ps.length * 7) es := by
  induction ps generalizing o with
  | nil => simpa using h
  | cons a ps ih =>
    have := ih (EL.tail h)
    rw [show o + (a :: ps).length * 7 = o + 7 + ps.length * 7 by simp; omega]
    exact this
theorem range7 {w : World} {b o : Nat} {h : Hd} (k : w.rangeAt b o (evs h).toList) : w.cell? ⟨b, o, none⟩ = some (.int .i64 h.kind) ∧ w.cell? ⟨b, o + 1, none⟩ = some (.bool h.flag) ∧ w.cell? ⟨b, o + 2, none⟩ = some (.bool h.neg) ∧ w.cell? ⟨b, o + 3, none⟩ = some (.string h.dig) ∧ w.cell? ⟨b, o + 4, none⟩ = some (.int .i64 h.exp) ∧ w.cell? ⟨b, o + 5, none⟩ = some (.int .u64 h.bits) ∧ w.cell? ⟨b, o + 6, none⟩ = some (.string h.text) :=
  ⟨k 0 _ rfl, k 1 _ rfl, k 2 _ rfl, k 3 _ rfl, k 4 _ rfl, k 5 _ rfl, k 6 _ rfl⟩
theorem EL.head {w : World} {b o : Nat} {e : Hd} {es : List Hd} (h : EL w b o (e :: es)) : w.rangeAt b o (evs e).toList := by
  have := h 0 (by simp)
  simpa using this
theorem head_ex (h : Hd) (w : World) : Calls Tryd.prog 45 #[.agg (evs h)] w fun e w' => e = .returned (.agg (vals h (.slice none 0 0) (.slice none 0 0))) ∧ w' = (w.alloc (.cells (evs h) 42)).alloc (.cells (vals h (.slice none 0 0) (.slice none 0 0)) 29) := by
  unfold evs
  go_enter Tryd.func45, Tryd.ntmps45
  go_wp2
  exact bodyPost_ret (v := .agg #[.int .i64 h.kind, .bool h.flag, .bool h.neg, .string h.dig, .int .i64 h.exp, .int .u64 h.bits, .string h.text, .slice none 0 0, .slice none 0 0]) (by simp [results, Tryd.results45, go_sem]) rfl ⟨rfl, rfl⟩
/-- Trees that events tell. -/
def NF : (n : Nat) → VT n → Prop
  | 0, _ => True
  | n + 1, x => 1 ≤ x.1.kind ∧ x.1.kind ≤ 9 ∧ (x.1.kind < 7 → x.2 = []) ∧ (x.1.kind = 8 → x.1.names.length = x.2.length) ∧ (x.1.kind ≠ 8 → x.1.names = []) ∧ ∀ y ∈ x.2, NF n y
/-- What is still to be told of a tree, k of its children told, and what stands behind it. -/
def post (n : Nat) (h : Hd) (l : List (VT n)) (rest : List Hd) (k : Nat) : List Hd := ((List.range' k (l.length - k)).map (kid n h l)).flatten ++ evE :: rest
theorem post_end (n : Nat) (h : Hd) (l : List (VT n)) (rest : List Hd) : post n h l rest l.length = evE :: rest := by simp [post]
theorem post_succ (n : Nat) (h : Hd) (l : List (VT n)) (rest : List Hd) (k : Nat) (hk : k < l.length) : post n h l rest k = preN h k ++ (fl n l[k] ++ post n h l rest (k + 1)) := by
  unfold post
  rw [show l.length - k = (l.length - (k + 1)) + 1 by omega, List.range'_succ]
  simp [kid, hk]
theorem post_zero (n : Nat) (h : Hd) (l : List (VT n)) (rest : List Hd) (h7 : ¬ h.kind < 7) : fl (n + 1) (h, l) ++ rest = hd0 h :: post n h l rest 0 := by
  rw [fl_succ, if_neg h7]
  unfold post kids
  rw [List.range_eq_range']
  simp
theorem post_ne (n : Nat) (h : Hd) (l : List (VT n)) (rest : List Hd) (k : Nat) : post n h l rest k ≠ [] := by simp [post]
theorem post_leaf (n : Nat) (h : Hd) (l : List (VT n)) (rest : List Hd) (h7 : h.kind < 7) : fl (n + 1) (h, l) ++ rest = hd0 h :: rest := by
  rw [fl_succ, if_pos h7]
  rfl
theorem post_len (n : Nat) (h : Hd) (l : List (VT n)) (rest : List Hd) (k : Nat) : l.length - k ≤ (post n h l rest k).length := by
  obtain ⟨d, hd⟩ : ∃ d, d = l.length - k := ⟨_, rfl⟩
  induction d generalizing k with
  | zero => omega
  | succ d ih =>
    have hk : k < l.length := by omega
    have h1 := ih (k + 1) (by omega)
    have h2 := fl_pos n l[k]
    rw [post_succ n h l rest k hk]
    simp only [List.length_append]
    omega
theorem fl_head : ∀ (n : Nat) (x : VT n), ∃ t, fl n x = hd0 (vhd n x) :: t
  | 0, x => Empty.elim x
  | n + 1, (h, l) => ⟨_, fl_succ n h l⟩
theorem NF.kind : ∀ {n : Nat} {x : VT n}, NF n x → 1 ≤ (vhd n x).kind ∧ (vhd n x).kind ≤ 9
  | 0, x, _ => Empty.elim x
  | n + 1, x, h => ⟨h.1, h.2.1⟩
theorem sl_eq {b o1 o2 n c1 c2 : Nat} (h : o1 = o2) (k : c1 = c2) : Value.slice (some ⟨b, o1, none⟩) n c1 = .slice (some ⟨b, o2, none⟩) n c2 := by rw [h, k]
/-- Where build stands: k children are built. -/
structure LJ (n : Nat) (l : List (VT n)) (h : Hd) (w : World) (V k : Nat) (nms : List ByteArray) (nv lv : Value) (W : World) : Prop where
  below : Below w.heap.size w W
  hV : w.heap.size ≤ V
  box : Bx W V h nv lv
  nrow : OwnS W (V + 1) nv nms
  row : ∃ xs, W.ownsRow (V + 1) 29 9 lv k xs ∧ ∀ j (hj : j < l.length), j < k → ∃ ns ls s e, KR n W l[j] ns ls s e ∧ V < s ∧ (∀ g, lv.ownBlock = some g → g < s ∨ e ≤ g) ∧ (∀ g, nv.ownBlock = some g → g < s ∨ e ≤ g) ∧ ∀ r v, (vals (vhd n l[j]) ns ls).toList[r]? = some v → xs[j * 9 + r]? = some v
section
variable {n : Nat} {l : List (VT n)} {h : Hd} {w W : World} {V k : Nat} {nms : List ByteArray} {nv lv : Value}
theorem LJ.then {W1 : World} (H : LJ n l h w V k nms nv lv W) (hb : Below W.heap.size W W1) : LJ n l h w V k nms nv lv W1 := by
  obtain ⟨xs, hx, hall⟩ := H.row
  refine ⟨H.below.trans (hb.mono H.below.size), H.hV, H.box.below hb, ownsRow_of H.nrow fun g _ hg => hb.block g hg, xs, ownsRow_of hx fun g _ hg => hb.block g hg, fun j hj hjk => ?_⟩
  obtain ⟨ns, ls, s, e, k1, k2, k3, k4, k5⟩ := hall j hj hjk
  exact ⟨ns, ls, s, e, k1.move (Nat.le_trans k1.2.1 hb.size) (fun q q1 q2 => hb.block q (Nat.lt_of_lt_of_le q2 k1.2.1)), k2, k3, k4, k5⟩
/-- A row of names is no row of values. -/
theorem rows_ne {B nn m : Nat} {xs ys : List Value} {g : Nat} (h1 : W.ownsRow B 9 1 nv nn xs) (h2 : W.ownsRow B 29 9 lv m ys) (e1 : nv.ownBlock = some g) (e2 : lv.ownBlock = some g) : False := by
  rcases h1.2 with ⟨rfl, _⟩ | ⟨g1, cap, cur, rfl, _, hg1, _⟩
  · cases e1
  · rcases h2.2 with ⟨rfl, _⟩ | ⟨g2, cap, cur, rfl, _, hg2, _⟩
    · cases e2
    · cases e1; cases e2
      rw [hg1] at hg2
      cases hg2
theorem Bx.set7 {ns ls u : Value} {i : Nat} (q : Bx W i h ns ls) : Bx (W.setCell ⟨i, 7, none⟩ u) i h u ls := by
  refine ⟨?_⟩
  rw [setCell_eq_setRow W i 7 _ _ (0, 0) _ q.at_, setRow_heap W i _ _ _ (0, 0) q.at_]
  rfl
theorem Bx.set8 {ns ls u : Value} {i : Nat} (q : Bx W i h ns ls) : Bx (W.setCell ⟨i, 8, none⟩ u) i h ns u := by
  refine ⟨?_⟩
  rw [setCell_eq_setRow W i 8 _ _ (0, 0) _ q.at_, setRow_heap W i _ _ _ (0, 0) q.at_]
  rfl
theorem LJ.name {w3 w4 : World} {nv' : Value} {s : ByteArray} (H : LJ n l h w V k nms nv lv W) (hb : Below W.heap.size W w3) (hg : w3.grownBy w4 nv.ownBlock) (ho : w4.ownsRow (V + 1) 9 1 nv' (nms.length + 1) (scs nms ++ [.string s])) (hat : nv'.ownBlock = nv.ownBlock ∨ nv'.ownBlock = some w3.heap.size) :
    LJ n l h w V k (nms ++ [s]) nv' lv (w4.setCell ⟨V, 7, none⟩ nv') := by
  have hVl := H.box.lt
  have H3 := H.then hb
  obtain ⟨xs, hx, hall⟩ := H3.row
  have hnl := World.ownsRow.lt H3.nrow
  have hll := World.ownsRow.lt hx
  have z3 := hb.size
  have z4 := hg.size
  have hV3 := H3.box.lt
  have bxx : Bx w4 V h nv lv := ⟨(hg.block V hV3 (fun e => by have := (hnl V e.symm).1; omega)).trans H3.box.at_⟩
  have hne : ∀ g, lv.ownBlock = some g → nv.ownBlock ≠ some g := fun g e2 e1 => rows_ne H3.nrow hx e1 e2
  have hol := World.ownsRow.lt ho
  refine ⟨((H3.below.grown hg H3.below.size fun g e => Nat.le_trans H.hV (by have := (hnl g e).1; omega)).setCell H.hV _), H.hV, bxx.set7, ?_, xs, ?_, fun j hj hjk => ?_⟩
  · have ho2 : OwnS w4 (V + 1) nv' (nms ++ [s]) := by unfold OwnS; simpa [scs] using ho
    exact ownsRow_of ho2 fun g e hg' => heap_set_ne (by have := (hol g e).1; omega)
  · refine ownsRow_of hx fun g e hg' => ?_
    rw [heap_set_ne (by have := (hll g e).1; omega), hg.block g hg' (fun e1 => hne g e e1.symm)]
  · obtain ⟨ns, ls, s', e, k1, k2, k3, k4, k5⟩ := hall j hj hjk
    refine ⟨ns, ls, s', e, k1.move (by simp; have := k1.2.1; omega) ?_, k2, k3, ?_, k5⟩
    · intro q q1 q2
      have := k1.2.1
      rw [heap_set_ne (by omega), hg.block q (by omega) (fun e1 => by rcases k4 q e1.symm with h | h <;> omega)]
    · intro g e1
      rcases hat with h | h
      · exact k4 g (h ▸ e1)
      · rw [h] at e1; cases e1; right; exact k1.2.1
theorem LJ.push {w2 w3 w4 : World} {lv' : Value} {ns ls : Value} {xs : List Value} (H : LJ n l h w V k nms nv lv W) (hk : k < l.length)
    (hx : W.ownsRow (V + 1) 29 9 lv k xs)
    (hall : ∀ j (hj : j < l.length), j < k → ∃ ns ls s e, KR n W l[j] ns ls s e ∧ V < s ∧ (∀ g, lv.ownBlock = some g → g < s ∨ e ≤ g) ∧ (∀ g, nv.ownBlock = some g → g < s ∨ e ≤ g) ∧ ∀ r v, (vals (vhd n l[j]) ns ls).toList[r]? = some v → xs[j * 9 + r]? = some v)
    (hc : KR n w2 l[k] ns ls (W.heap.size + 1) w2.heap.size) (z2 : w2.heap.size ≤ w3.heap.size) (a1 : ∀ q, q < W.heap.size → w3.heap[q]? = W.heap[q]?) (a2 : ∀ q, W.heap.size + 1 ≤ q → q < w2.heap.size → w3.heap[q]? = w2.heap[q]?)
    (hbw : Below w.heap.size w w3) (hg : w3.grownBy w4 lv.ownBlock)
    (ho : w4.ownsRow (V + 1) 29 9 lv' (k + 1) (xs ++ (vals (vhd n l[k]) ns ls).toList)) (hat : lv'.ownBlock = lv.ownBlock ∨ lv'.ownBlock = some w3.heap.size) :
    LJ n l h w V (k + 1) nms nv lv' (w4.setCell ⟨V, 8, none⟩ lv') := by
  have hVl := H.box.lt
  have hnl := World.ownsRow.lt H.nrow
  have hll := World.ownsRow.lt hx
  have z1 := hc.1
  have z4 := hg.size
  have hne : ∀ g, nv.ownBlock = some g → lv.ownBlock ≠ some g := fun g e1 e2 => rows_ne H.nrow hx e1 e2
  have hol := World.ownsRow.lt ho
  have old : ∀ q, q < W.heap.size → lv.ownBlock ≠ some q → w4.heap[q]? = W.heap[q]? := fun q q1 q2 => (hg.block q (by omega) (fun e => q2 e.symm)).trans (a1 q q1)
  have bxx : Bx w4 V h nv lv := ⟨(old V hVl (fun e => by have := (hll V e).1; omega)).trans H.box.at_⟩
  refine ⟨((hbw.grown hg hbw.size fun g e => Nat.le_trans H.hV (by have := (hll g e).1; omega)).setCell H.hV _), H.hV, bxx.set8, ?_, _, ownsRow_of ho fun g e hg' => heap_set_ne (by have := (hol g e).1; omega), fun j hj hjk => ?_⟩
  · refine ownsRow_of H.nrow fun g e hg' => ?_
    rw [heap_set_ne (by have := (hnl g e).1; omega)]
    exact old g hg' (hne g e)
  · by_cases hjk' : j < k
    · obtain ⟨ns', ls', s, e, k1, k2, k3, k4, k5⟩ := hall j hj hjk'
      refine ⟨ns', ls', s, e, k1.move (by simp; have := k1.2.1; omega) ?_, k2, ?_, k4, ?_⟩
      · intro q q1 q2
        have := k1.2.1
        rw [heap_set_ne (by omega)]
        exact old q (by omega) (fun e1 => by rcases k3 q e1 with h | h <;> omega)
      · intro g hg'
        rcases hat with h | h
        · exact k3 g (h ▸ hg')
        · rw [h] at hg'; cases hg'; right; have := k1.2.1; omega
      · intro r v hr
        have := k5 r v hr
        rw [List.getElem?_append_left ((List.getElem?_eq_some_iff.1 this).1)]
        exact this
    · obtain rfl : j = k := by omega
      refine ⟨ns, ls, W.heap.size + 1, w2.heap.size, hc.move (by simp; omega) ?_, by omega, ?_, ?_, ?_⟩
      · intro q q1 q2
        rw [heap_set_ne (by omega), hg.block q (by omega) (fun e1 => by have := (hll q e1.symm).2; omega)]
        exact a2 q q1 q2
      · intro g hg'
        rcases hat with h | h
        · left; have := (hll g (h ▸ hg')).2; omega
        · rw [h] at hg'; cases hg'; right; omega
      · intro g hg'
        left; have := (hnl g hg').2; omega
      · intro r v hr
        have hl : xs.length = j * 9 := hx.1
        rw [List.getElem?_append_right (by omega), hl, Nat.add_sub_cancel_left]
        exact hr
theorem LJ.done {W1 : World} (H : LJ n l h w V l.length h.names nv lv W) (hs : W1.heap.size = W.heap.size) (hb : ∀ q, V < q → W1.heap[q]? = W.heap[q]?) : KR (n + 1) W1 (h, l) nv lv w.heap.size W1.heap.size := by
  obtain ⟨xs, hx, hall⟩ := H.row
  have hB := H.below.size
  have hVw := H.hV
  have hVl := H.box.lt
  refine ⟨by omega, Nat.le_refl _, fun W' h' => ⟨?_, ?_⟩⟩
  · have ho := H.nrow
    have hr := World.ownsRow.lt ho
    have ho2 := ho
    obtain ⟨h0, h1⟩ := ho
    rcases h1 with ⟨rfl, e⟩ | ⟨g, cap, cur, rfl, k1, k2, k3, k4, k5, k6⟩
    · exact Or.inl ⟨rfl, List.eq_nil_of_length_eq_zero e⟩
    · have hg := (hr g rfl).2
      have hg2 := (hr g rfl).1
      have hsame : W'.heap[g]? = W.heap[g]? := by rw [h' g (by omega) (by omega), hb g (by omega)]
      refine Or.inr ⟨g, 0, cap, none, rfl, k3, k4, fun _ => ⟨rfl, ?_⟩, fun i hi => ?_⟩
      · by_cases hlt : g < W'.heap.size
        · exact hlt
        · rw [k2, Array.getElem?_eq_none (by omega)] at hsame; cases hsame
      · rw [Nat.zero_add, World.cell?_of_block (a := ⟨g, i, none⟩) hsame, World.ownsRow.cellAt ho2 i (by simpa using hi)]
        simp [scs, hi]
  · have hr := World.ownsRow.lt hx
    have hx2 := hx
    obtain ⟨h0, h1⟩ := hx
    rcases h1 with ⟨rfl, e⟩ | ⟨g, cap, cur, rfl, k1, k2, k3, k4, k5, k6⟩
    · exact Or.inl ⟨rfl, List.eq_nil_of_length_eq_zero e⟩
    · have hg := (hr g rfl).2
      have hg2 := (hr g rfl).1
      have hsame : W'.heap[g]? = W.heap[g]? := by rw [h' g (by omega) (by omega), hb g (by omega)]
      refine Or.inr ⟨g, 0, cap, none, rfl, k3, k4, fun _ => ⟨rfl, ?_⟩, fun i hi => ?_⟩
      · by_cases hlt : g < W'.heap.size
        · exact hlt
        · rw [k2, Array.getElem?_eq_none (by omega)] at hsame; cases hsame
      · obtain ⟨ns', ls', s, e, q1, q2, q3, q3', q4⟩ := hall i hi hi
        refine ⟨ns', ls', ?_, q1.2.2 W' fun q r1 r2 => ?_⟩
        · intro r v hrv
          have hq := q4 r v hrv
          have hlt := (List.getElem?_eq_some_iff.1 hq).1
          rw [Nat.zero_add, World.cell?_of_block (a := ⟨g, i * 9 + r, none⟩) hsame, World.ownsRow.cellAt hx2 _ (by rw [h0] at hlt; exact hlt)]
          exact hq
        · have := q1.2.1
          rw [h' q (by omega) (by omega), hb q (by omega)]
theorem LJ.start (hb : Below w.heap.size w W) (hV : w.heap.size ≤ V) (box : Bx W V h (.slice none 0 0) (.slice none 0 0)) : LJ n l h w V 0 [] (.slice none 0 0) (.slice none 0 0) W :=
  ⟨hb, hV, box, World.ownsRow_nil _ _ _ _, [], World.ownsRow_nil _ _ _ _, fun j _ hj => by omega⟩
theorem range_new_at (w : World) (g : Nat) (h : Hd) (ns ls : Value) (hg : g = w.heap.size) : (w.alloc (.cells (vals h ns ls) 29)).rangeAt g 0 (vals h ns ls).toList := by subst hg; exact range_new w h ns ls
theorem own_shape {W : World} {B : Nat} {T : TypeId} {sz : Nat} {v : Value} {n : Nat} {xs : List Value} (h : W.ownsRow B T sz v n xs) : ∃ a c, v = .slice a n c := by
  rcases h.2 with ⟨rfl, rfl⟩ | ⟨g, cap, cur, rfl, _⟩
  · exact ⟨_, _, rfl⟩
  · exact ⟨_, _, rfl⟩
theorem LJ.name_low {w3 w4 : World} {nv' : Value} (H : LJ n l h w V k nms nv lv W) (hb : Below W.heap.size W w3) (hg : w3.grownBy w4 nv.ownBlock) (q : Nat) (hq : q < V) : (w4.setCell ⟨V, 7, none⟩ nv').heap[q]? = W.heap[q]? := by
  have hVl := H.box.lt
  have hnl := World.ownsRow.lt H.nrow
  rw [heap_set_ne (by omega), hg.block q (by have := hb.size; omega) (fun e => by have := (hnl q e.symm).1; omega), hb.block q (by omega)]
theorem LJ.name_box {w3 w4 : World} (H : LJ n l h w V k nms nv lv W) (hb : Below W.heap.size W w3) (hg : w3.grownBy w4 nv.ownBlock) : Bx w4 V h nv lv := by
  have hVl := H.box.lt
  have hnl := World.ownsRow.lt H.nrow
  refine ⟨?_⟩
  rw [hg.block V (by have := hb.size; omega) (fun e => by have := (hnl V e.symm).1; omega), hb.block V (by omega)]
  exact H.box.at_
theorem LJ.push_low {w3 w4 : World} {lv' : Value} {xs : List Value} (H : LJ n l h w V k nms nv lv W) (hx : W.ownsRow (V + 1) 29 9 lv k xs) (z : W.heap.size ≤ w3.heap.size) (a1 : ∀ q, q < W.heap.size → w3.heap[q]? = W.heap[q]?) (hg : w3.grownBy w4 lv.ownBlock) (q : Nat) (hq : q < V) : (w4.setCell ⟨V, 8, none⟩ lv').heap[q]? = W.heap[q]? := by
  have hVl := H.box.lt
  have hll := World.ownsRow.lt hx
  rw [heap_set_ne (by omega), hg.block q (by omega) (fun e => by have := (hll q e.symm).1; omega), a1 q (by omega)]
theorem LJ.push_box {w3 w4 : World} {xs : List Value} (H : LJ n l h w V k nms nv lv W) (hx : W.ownsRow (V + 1) 29 9 lv k xs) (z : W.heap.size ≤ w3.heap.size) (a1 : ∀ q, q < W.heap.size → w3.heap[q]? = W.heap[q]?) (hg : w3.grownBy w4 lv.ownBlock) : Bx w4 V h nv lv := by
  have hVl := H.box.lt
  have hll := World.ownsRow.lt hx
  refine ⟨?_⟩
  rw [hg.block V (by omega) (fun e => by have := (hll V e.symm).1; omega), a1 V (by omega)]
  exact H.box.at_
end
end Go.Proofs.YthbfopdeaknbkaaDoor
