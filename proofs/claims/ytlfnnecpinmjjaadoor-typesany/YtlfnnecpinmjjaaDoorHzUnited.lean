/- types.united: what its walk leans on. -/
import Derived.Test.YtlfnnecpinmjjaaDoorHyWider
namespace Go.Proofs.YtlfnnecpinmjjaaDoor
open Go.RowKit Go.Maps
set_option linter.unusedSimpArgs false
set_option linter.unusedVariables false
/-- One more of b's names is taken. -/
def Ust (n : Nat) (a b : TT (n + 1)) (i : Nat) (nm0 : List ByteArray) (ts0 : List (TT n)) (nm : List ByteArray) (ts : List (TT n)) : Prop :=
  (∃ (s : ByteArray) (y : TT n), b.1.names[i]? = some s ∧ b.2[i]? = some y ∧ s ∉ a.1.names ∧ nm = nm0 ++ [s] ∧ ts = ts0 ++ [y]) ∨
  (∃ (j : Nat) (s : ByteArray) (x y : TT n), b.1.names[i]? = some s ∧ b.2[i]? = some y ∧ a.1.names[j]? = some s ∧ a.2[j]? = some x ∧ nm = nm0 ∧ ((Prt n y x ∧ ts = ts0.set j x) ∨ (¬ Prt n y x ∧ Prt n x y ∧ ts = ts0.set j y)))
/-- What united holds when i of b's names are taken. -/
def US (n : Nat) (a b : TT (n + 1)) : Nat → List ByteArray → List (TT n) → Prop
  | 0, nm, ts => nm = a.1.names ∧ ts = a.2
  | i + 1, nm, ts => ∃ nm0 ts0, US n a b i nm0 ts0 ∧ Ust n a b i nm0 ts0 nm ts
/-- A name of both whose types are not part of one another. -/
def Ubad (n : Nat) (a b : TT (n + 1)) : Prop := ∃ (i j : Nat) (s : ByteArray) (x y : TT n), b.1.names[i]? = some s ∧ b.2[i]? = some y ∧ a.1.names[j]? = some s ∧ a.2[j]? = some x ∧ ¬ Prt n y x ∧ ¬ Prt n x y
theorem US.len {n : Nat} {a b : TT (n + 1)} : ∀ {i : Nat} {nm : List ByteArray} {ts : List (TT n)}, US n a b i nm ts → a.1.names.length = a.2.length → nm.length = ts.length ∧ a.2.length ≤ ts.length ∧ ts.length ≤ a.2.length + i
  | 0, nm, ts, h, e => by rw [h.1, h.2]; omega
  | i + 1, nm, ts, ⟨nm0, ts0, h, k⟩, e => by
    have ih := US.len h e
    rcases k with ⟨s, y, _, _, _, rfl, rfl⟩ | ⟨j, s, x, y, _, _, _, _, rfl, ⟨_, rfl⟩ | ⟨_, _, rfl⟩⟩
    · simp only [List.length_append, List.length_singleton]; omega
    · simp only [List.length_set]; omega
    · simp only [List.length_set]; omega
/-- Where united stands. -/
structure UI (n : Nat) (w0 w : World) (h g : Th) (an al bn bl' : Value) (V MB : Nat) (nm : List ByteArray) (ts : List (TT n)) (nv lv : Value) (W : World) : Prop where
  below : Below w.heap.size w W
  hV : w.heap.size + 3 ≤ V
  hM : w.heap.size + 3 ≤ MB
  box : Tx W V ⟨11, nm⟩ nv lv
  nrow : OwnS W (w.heap.size + 3) nv nm
  lrow : OT n w0 W (w.heap.size + 3) lv ts
  nne : nv.ownBlock ≠ some V
  lne : lv.ownBlock ≠ some V
  mp : MP W MB h.names
  ba : Tx W w.heap.size h an al
  bb : Tx W (w.heap.size + 1) g bn bl'
  bz : ZT W (w.heap.size + 2)
section
variable {n : Nat} {w0 w W : World} {h g : Th} {an al bn bl' : Value} {V MB : Nat} {nm : List ByteArray} {ts : List (TT n)} {nv lv : Value}
theorem MP.ne {b : Nat} {l : List ByteArray} (k : MP W b l) {c : Array Value} {t : TypeId} {fr : Nat × Nat} {q : Nat} (e : W.heap[q]? = some (.cells c t fr)) : b ≠ q := by
  rintro rfl
  obtain ⟨es, clock, h1, _⟩ := k
  rw [e] at h1
  cases h1
theorem ownBlock_at {B : Nat} {T : TypeId} {sz m : Nat} {v : Value} {xs : List Value} {q : Nat} (k : W.ownsRow B T sz v m xs) (e : v.ownBlock = some q) : ∃ c, W.heap[q]? = some (.cells c T (0, 0)) := by
  rcases k.2 with ⟨rfl, _⟩ | ⟨g1, cap, cur, rfl, _, hg, _⟩
  · cases e
  · cases e; exact ⟨cur, hg⟩
theorem UI.then {W1 : World} (k : UI n w0 w h g an al bn bl' V MB nm ts nv lv W) (hb : Below W.heap.size W W1) : UI n w0 w h g an al bn bl' V MB nm ts nv lv W1 :=
  ⟨below_then k.below hb, k.hV, k.hM, k.box.below hb, ownsRow_of k.nrow fun q _ hq => hb.block q hq, k.lrow.below hb, k.nne, k.lne, k.mp.below hb, k.ba.below hb, k.bb.below hb, k.bz.below hb⟩
/-- A name more. -/
theorem UI.name {w3 w4 : World} {nv' : Value} {s : ByteArray} (k : UI n w0 w h g an al bn bl' V MB nm ts nv lv W) (hb : Below W.heap.size W w3) (hg : w3.grownBy w4 nv.ownBlock) (ho : w4.ownsRow (w.heap.size + 3) 9 1 nv' (nm.length + 1) (scs nm ++ [.string s])) (hat : nv'.ownBlock = nv.ownBlock ∨ nv'.ownBlock = some w3.heap.size) :
    UI n w0 w h g an al bn bl' V MB (nm ++ [s]) ts nv' lv (w4.setCell ⟨V, 1, none⟩ nv') ∧ Tx w4 V ⟨11, nm⟩ nv lv := by
  have hz := hb.size
  have hVl := k.box.lt
  have hVb := k.hV
  have hnl := World.ownsRow.lt k.nrow
  have hol := World.ownsRow.lt ho
  obtain ⟨xs, hxs, hall⟩ := k.lrow
  have hll := World.ownsRow.lt hxs
  have old : ∀ q, q < W.heap.size → nv.ownBlock ≠ some q → w4.heap[q]? = W.heap[q]? := fun q q1 q2 => (hg.block q (by omega) (fun e => q2 e.symm)).trans (hb.block q q1)
  have bx : Tx w4 V ⟨11, nm⟩ nv lv := ⟨(old V hVl k.nne).trans k.box.at_⟩
  have nne' : nv'.ownBlock ≠ some V := by
    rcases hat with q | q
    · rw [q]; exact k.nne
    · rw [q]; intro e; have : w3.heap.size = V := by simpa using e
      omega
  have hMl := k.mp.lt
  have hMV := k.mp.ne k.box.at_
  have hMn : nv.ownBlock ≠ some MB := fun e => by obtain ⟨c, hc⟩ := ownBlock_at k.nrow e; exact k.mp.ne hc rfl
  have low : ∀ q, q < w.heap.size + 3 → nv.ownBlock ≠ some q := fun q hq e => by have := (hnl q e).1; omega
  have hbl := k.below.size
  have keep : ∀ q, q < W.heap.size → nv.ownBlock ≠ some q → q ≠ V → (w4.setCell ⟨V, 1, none⟩ nv').heap[q]? = W.heap[q]? := fun q q1 q2 q3 => by rw [heap_set_ne q3]; exact old q q1 q2
  refine ⟨⟨?_, k.hV, k.hM, ?_, ?_, ?_, nne', k.lne, k.mp.of_block (keep MB hMl hMn hMV), ⟨?_⟩, ⟨?_⟩, ?_⟩, bx⟩
  · exact ((below_then k.below hb).grown hg (by omega) fun q e => by have := (hnl q e).1; omega).setCell (by show w.heap.size ≤ V; omega) _
  · have := bx.set1 (u := nv')
    exact ⟨this.at_⟩
  · unfold OwnS
    rw [List.length_append, show scs (nm ++ [s]) = scs nm ++ [.string s] by simp [scs]]
    exact ownsRow_of ho fun q e _ => heap_set_ne (show q ≠ V from fun e2 => nne' (e2 ▸ e))
  · refine ⟨xs, ownsRow_of hxs fun q e hq => keep q hq (fun e1 => ?_) (fun e2 => k.lne (e2 ▸ e)), hall⟩
    exact rows_neT k.nrow hxs e1 e
  · rw [keep _ k.ba.lt (low _ (by omega)) (by omega)]; exact k.ba.at_
  · rw [keep _ k.bb.lt (low _ (by omega)) (by omega)]; exact k.bb.at_
  · exact (keep _ k.bz.lt (low _ (by omega)) (by omega)).trans k.bz
/-- A type more. -/
theorem UI.push {w3 w4 : World} {lv' : Value} {y : TT n} {ns ls : Value} {xs : List Value} (k : UI n w0 w h g an al bn bl' V MB nm ts nv lv W) (hb : Below W.heap.size W w3) (hx : W.ownsRow (w.heap.size + 3) 26 3 lv ts.length xs)
    (hall : ∀ j (h : j < ts.length), ∃ ns ls, RT n w0 ts[j] ns ls ∧ ∀ r u, (tvs (thd n ts[j]) ns ls).toList[r]? = some u → xs[j * 3 + r]? = some u) (hy : RT n w0 y ns ls)
    (hg : w3.grownBy w4 lv.ownBlock) (ho : w4.ownsRow (w.heap.size + 3) 26 3 lv' (ts.length + 1) (xs ++ (tvs (thd n y) ns ls).toList)) (hat : lv'.ownBlock = lv.ownBlock ∨ lv'.ownBlock = some w3.heap.size) :
    UI n w0 w h g an al bn bl' V MB nm (ts ++ [y]) nv lv' (w4.setCell ⟨V, 2, none⟩ lv') ∧ Tx w4 V ⟨11, nm⟩ nv lv := by
  have hz := hb.size
  have hVl := k.box.lt
  have hVb := k.hV
  have hnl := World.ownsRow.lt k.nrow
  have hll := World.ownsRow.lt hx
  have old : ∀ q, q < W.heap.size → lv.ownBlock ≠ some q → w4.heap[q]? = W.heap[q]? := fun q q1 q2 => (hg.block q (by omega) (fun e => q2 e.symm)).trans (hb.block q q1)
  have bx : Tx w4 V ⟨11, nm⟩ nv lv := ⟨(old V hVl k.lne).trans k.box.at_⟩
  have lne' : lv'.ownBlock ≠ some V := by
    rcases hat with q | q
    · rw [q]; exact k.lne
    · rw [q]; intro e; have : w3.heap.size = V := by simpa using e
      omega
  have hMl := k.mp.lt
  have hMV := k.mp.ne k.box.at_
  have hMn : lv.ownBlock ≠ some MB := fun e => by obtain ⟨c, hc⟩ := ownBlock_at hx e; exact k.mp.ne hc rfl
  have low : ∀ q, q < w.heap.size + 3 → lv.ownBlock ≠ some q := fun q hq e => by have := (hll q e).1; omega
  have hbl := k.below.size
  have keep : ∀ q, q < W.heap.size → lv.ownBlock ≠ some q → q ≠ V → (w4.setCell ⟨V, 2, none⟩ lv').heap[q]? = W.heap[q]? := fun q q1 q2 q3 => by rw [heap_set_ne q3]; exact old q q1 q2
  refine ⟨⟨?_, k.hV, k.hM, bx.set2, ?_, ?_, k.nne, lne', k.mp.of_block (keep MB hMl hMn hMV), ⟨?_⟩, ⟨?_⟩, ?_⟩, bx⟩
  · exact ((below_then k.below hb).grown hg (by omega) fun q e => by have := (hll q e).1; omega).setCell (by show w.heap.size ≤ V; omega) _
  · exact ownsRow_of k.nrow fun q e hq => keep q hq (fun e1 => rows_neT k.nrow hx e e1) (fun e2 => k.nne (e2 ▸ e))
  · have ho' := ownsRow_of ho (W1 := w4.setCell ⟨V, 2, none⟩ lv') fun q e _ => heap_set_ne (show q ≠ V from fun e2 => lne' (e2 ▸ e))
    refine OT.app (l2 := [y]) (by rw [hx.1]) hall (fun j hj => ?_) ho' (by simp)
    have hj0 : j = 0 := by have : j < 1 := hj; omega
    subst hj0
    exact ⟨ns, ls, hy, fun r u hu => by simpa using hu⟩
  · rw [keep _ k.ba.lt (low _ (by omega)) (by omega)]; exact k.ba.at_
  · rw [keep _ k.bb.lt (low _ (by omega)) (by omega)]; exact k.bb.at_
  · exact (keep _ k.bz.lt (low _ (by omega)) (by omega)).trans k.bz
theorem set_three (w : World) (G o : Nat) (T : TypeId) (ar : Array Value) (b0 b1 b2 : Value) (hg : w.heap[G]? = some (.cells ar T (0, 0))) (ho : o + 3 ≤ ar.size) (W : World) (hW : (((w.setCell ⟨G, o, none⟩ b0).setCell ⟨G, o + 1, none⟩ b1).setCell ⟨G, o + 2, none⟩ b2) = W) :
    ∃ ar' : Array Value, W.heap[G]? = some (.cells ar' T (0, 0)) ∧ ar'.size = ar.size ∧ (∀ j, j < o ∨ o + 3 ≤ j → ar'[j]? = ar[j]?) ∧ (∀ (j : Nat) v, (#[b0, b1, b2] : Array Value)[j]? = some v → ar'[o + j]? = some v) ∧ ∀ k, k ≠ G → W.heap[k]? = w.heap[k]? := by
  have h0 := set_heap9 _ G (o) _ T b0 hg
  have h1 := set_heap9 _ G (o + 1) _ T b1 h0.1
  have h2 := set_heap9 _ G (o + 2) _ T b2 h1.1
  rw [hW] at h2
  refine ⟨_, h2.1, by simp, fun j hj => ?_, fun j v hj => ?_, fun k hk => ?_⟩
  · simp only [Array.getElem?_setIfInBounds, Array.size_setIfInBounds]
    iterate 3 rw [if_neg (by omega)]
  · have hj3 : j < 3 := (Array.getElem?_eq_some_iff.1 hj).1
    simp only [Array.getElem?_setIfInBounds, Array.size_setIfInBounds]
    match j, hj3 with
    | 0, _ => rw [if_neg (by omega)]; rw [if_neg (by omega)]; rw [if_pos (by omega), if_pos (by omega)]; exact hj
    | 1, _ => rw [if_neg (by omega)]; rw [if_pos (by omega), if_pos (by omega)]; exact hj
    | 2, _ => rw [if_pos (by omega), if_pos (by omega)]; exact hj
  · rw [h2.2 k hk, h1.2 k hk, h0.2 k hk]
/-- An element's cells. -/
theorem UI.elt (k : UI n w0 w h g an al bn bl' V MB nm ts nv lv W) (j : Nat) (hj : j < ts.length) : ∃ G c, lv = .slice (some ⟨G, 0, none⟩) ts.length c ∧ ts.length ≤ c ∧ c ≤ maxLen ∧ w.heap.size + 3 ≤ G ∧ G < W.heap.size ∧ (∀ r, W.frozen? ⟨G, r, none⟩ = false) ∧ ∃ u0 u1 u2, W.cell? ⟨G, j * 3, none⟩ = some u0 ∧ W.cell? ⟨G, j * 3 + 1, none⟩ = some u1 ∧ W.cell? ⟨G, j * 3 + 2, none⟩ = some u2 := by
  obtain ⟨xs, hxs, hall⟩ := k.lrow
  have hx2 := hxs
  have hll := World.ownsRow.lt hxs
  obtain ⟨h0, h1⟩ := hxs
  rcases h1 with ⟨_, e⟩ | ⟨G, cap, cur, rfl, k1, k2, k3, k4, k5, k6⟩
  · omega
  · have hc : ∀ r, r < 3 → W.cell? ⟨G, j * 3 + r, none⟩ = xs[j * 3 + r]? := fun r hr => World.ownsRow.cellAt hx2 _ (by omega)
    have hs : ∀ r, r < 3 → ∃ u, W.cell? ⟨G, j * 3 + r, none⟩ = some u := fun r hr => ⟨xs[j * 3 + r]'(by omega), by rw [hc r hr]; exact List.getElem?_eq_getElem _⟩
    obtain ⟨u0, e0⟩ := hs 0 (by omega)
    obtain ⟨u1, e1⟩ := hs 1 (by omega)
    obtain ⟨u2, e2⟩ := hs 2 (by omega)
    exact ⟨G, cap, rfl, k3, k4, k1, (hll G rfl).2, fun r => by simp [World.frozen?, k2], u0, u1, u2, e0, e1, e2⟩
/-- An element that is written over. -/
theorem UI.put {W' : World} {x : TT n} {xh : Th} {ns ls : Value} {G N c : Nat} (k : UI n w0 w h g an al bn bl' V MB nm ts nv (.slice (some ⟨G, 0, none⟩) N c) W) (j : Nat) (hj : j < ts.length) (hx : RT n w0 x ns ls) (hxh : thd n x = xh)
    (hW : (((W.setCell ⟨G, j * 3, none⟩ (.int .i64 xh.kind)).setCell ⟨G, j * 3 + 1, none⟩ ns).setCell ⟨G, j * 3 + 2, none⟩ ls) = W') :
    UI n w0 w h g an al bn bl' V MB nm (ts.set j x) nv (.slice (some ⟨G, 0, none⟩) N c) W' := by
  obtain ⟨xs, hxs, hall⟩ := k.lrow
  have hll := World.ownsRow.lt hxs
  have hG := hll G rfl
  have hMn := k.mp
  obtain ⟨h0, h1⟩ := hxs
  have hx0 : W.ownsRow (w.heap.size + 3) 26 3 (.slice (some ⟨G, 0, none⟩) N c) ts.length xs := ⟨h0, h1⟩
  rcases h1 with ⟨q, _⟩ | ⟨G', cap, cur, q, k1, k2, k3, k4, k5, k6⟩
  · cases q
  · simp only [Value.slice.injEq, Option.some.injEq, Addr.mk.injEq, and_true] at q
    obtain ⟨rfl, rfl, rfl⟩ := q
    have hsz : ts.length * 3 ≤ c * 3 := Nat.mul_le_mul_right 3 k3
    obtain ⟨ar', p1, p2, p3, p4, p5⟩ := set_three W G (j * 3) _ cur _ _ _ k2 (by omega) W' hW
    have hGV : G ≠ V := fun e => k.lne (by simp [Value.ownBlock, e])
    have hnG : ∀ q, nv.ownBlock = some q → q ≠ G := fun q e e2 => rows_neT k.nrow hx0 e (by rw [e2]; rfl)
    have hMG := k.mp.ne k2
    have hsz' : W.heap.size = W'.heap.size := by rw [← hW]; simp
    refine ⟨?_, k.hV, k.hM, ⟨(p5 V (fun e => hGV e.symm)).trans k.box.at_⟩, ownsRow_of k.nrow fun q e _ => p5 q (hnG q e), ?_, k.nne, k.lne, k.mp.of_block (p5 MB hMG), ⟨(p5 _ (by omega)).trans k.ba.at_⟩, ⟨(p5 _ (by omega)).trans k.bb.at_⟩, (p5 _ (by omega)).trans k.bz⟩
    · rw [← hW]
      iterate 3 (refine Below.setCell ?_ (by show w.heap.size ≤ G; omega) _)
      exact k.below
    · have hl' : (ar'.toList.take (ts.length * 3)).length = ts.length * 3 := by
        rw [List.length_take, show ar'.toList.length = ar'.size from Array.length_toList, p2, k5]
        exact Nat.min_eq_left hsz
      refine ⟨ar'.toList.take (ts.length * 3), ⟨by rw [hl', List.length_set], Or.inr ⟨G, c, ar', by rw [List.length_set], k1, p1, by rw [List.length_set]; exact k3, k4, by rw [p2, k5], by rw [List.length_set]⟩⟩, fun r hr => ?_⟩
      rw [List.length_set] at hr
      by_cases e : r = j
      · subst e
        refine ⟨ns, ls, by rw [List.getElem_set_self]; exact hx, fun t u hu => ?_⟩
        rw [List.getElem_set_self, hxh] at hu
        have ht3 : t < 3 := (List.getElem?_eq_some_iff.1 hu).1
        rw [List.getElem?_take, if_pos (by omega), Array.getElem?_toList]
        exact p4 t u (by rw [← Array.getElem?_toList]; exact hu)
      · have ej : j ≠ r := fun q => e q.symm
        obtain ⟨ns1, ls1, q1, q2⟩ := hall r hr
        refine ⟨ns1, ls1, by rw [List.getElem_set_ne ej]; exact q1, fun t u hu => ?_⟩
        rw [List.getElem_set_ne ej] at hu
        have ht3 : t < 3 := (List.getElem?_eq_some_iff.1 hu).1
        have hq := q2 t u hu
        rw [← k6, List.getElem?_take, if_pos (by omega), Array.getElem?_toList] at hq
        rw [List.getElem?_take, if_pos (by omega), Array.getElem?_toList, p3 _ (by omega)]
        exact hq
end
end Go.Proofs.YtlfnnecpinmjjaaDoor
