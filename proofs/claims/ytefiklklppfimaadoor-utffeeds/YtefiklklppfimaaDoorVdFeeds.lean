/- calamuslaw03.UtfFeeds: walked. -/
import Derived.Test.YtefiklklppfimaaDoorVcState
import Derived.Test.YtefiklklppfimaaDoorUqParts
import Derived.Deep.OwnRows
import Derived.Laws.CopyOwn
import Derived.Deep.RegionHeld3
import Derived.BigQuiet
namespace Go.Proofs.YtefiklklppfimaaDoor
open Go.RowKit
set_option linter.unusedSimpArgs false
set_option linter.unusedVariables false
/-- A slice of slices of bytes reads as ps. -/
def PL (w : World) (v : Value) (ps : List (List UInt8)) : Prop :=
  (v = .slice none 0 0 ∧ ps = []) ∨ ∃ (a : Addr) (c : Nat), v = .slice (some a) ps.length c ∧ ps.length ≤ c ∧ c ≤ maxLen ∧ ∀ i (h : i < ps.length), a.block < w.heap.size ∧ ∃ x, w.cell? (a.add i) = some x ∧ SL w x ps[i]
theorem PL.below {w W : World} {v : Value} {ps : List (List UInt8)} (h : PL w v ps) (hb : Below w.heap.size w W) : PL W v ps := by
  rcases h with ⟨rfl, rfl⟩ | ⟨a, c, rfl, h1, h2, hc⟩
  · exact Or.inl ⟨rfl, rfl⟩
  · refine Or.inr ⟨a, c, rfl, h1, h2, fun i hi => ⟨Nat.lt_of_lt_of_le (hc i hi).1 hb.size, ?_⟩⟩
    obtain ⟨hlt, x, hx, sx⟩ := hc i hi
    exact ⟨x, (hb.cell (p := a.add i) (by rw [add_block]; exact hlt)).trans hx, sx.below hb⟩
theorem PL.len {w : World} {v : Value} {ps : List (List UInt8)} (h : PL w v ps) : ∃ a c, v = .slice a ps.length c ∧ ps.length ≤ c ∧ c ≤ maxLen := by
  rcases h with ⟨rfl, rfl⟩ | ⟨a, c, rfl, h1, h2, _⟩
  · exact ⟨none, 0, rfl, Nat.le_refl _, by decide⟩
  · exact ⟨some a, c, rfl, h1, h2⟩
/-- The first k parts, one behind the other. -/
def cat (ps : List (List UInt8)) (k : Nat) : List UInt8 := (ps.take k).flatten
theorem cat_succ (ps : List (List UInt8)) (k : Nat) (h : k < ps.length) : cat ps (k + 1) = cat ps k ++ ps[k] := by
  unfold cat
  rw [List.take_succ_eq_append_getElem h, List.flatten_append, List.flatten_cons, List.flatten_nil, List.append_nil]
theorem info5 : (Tryd.prog.info? 5).map (fun i => (i.zero, i.size, i.bytes)) = some (some (.int .u8 0), 1, 1) := by kernel_rfl
theorem size5 : (Tryd.prog.info? 5).map (·.size) = some 1 := by kernel_rfl
theorem cur_len {cur : List Value} {n : Nat} (h : cur.toArray = madeCells #[.int .u8 0] (n + 1)) : cur.length = n + 1 := by
  have := congrArg Array.size h
  simpa [madeCells] using this
theorem copy_facts {wr : World} {ax : Option Addr} {n cx : Nat} {l : List UInt8} {cur cs : List Value} (sx : SL wr (.slice ax l.length cx) l) (hn : l.length = n) (hcur : cur.toArray = madeCells #[.int .u8 0] (n + 1)) (hcells : cs = l.map fun c : UInt8 => Value.int .u8 (c.toNat : Int)) (hc1 : n ≤ cx) :
    (wr.alloc (.cells cur.toArray 5)).heap[wr.heap.size]? = some (.cells cur.toArray 5 (0, 0)) ∧ cs.length = Nat.min n (n + 1) ∧
    (0 < cs.length → (some ⟨wr.heap.size, 0, none⟩ : Option Addr) = some ⟨wr.heap.size, 0, none⟩ ∧ ∃ ad, ax = some ad ∧ ∀ j v, cs[j]? = some v → (wr.alloc (.cells cur.toArray 5)).cell? (ad.add j) = some v) ∧ 0 + cs.length ≤ cur.length ∧ ∀ v ∈ cs, v.oneCell' = true := by
  have hcl : cs.length = n := by rw [hcells, List.length_map, hn]
  refine ⟨show (wr.heap.push _)[wr.heap.size]? = _ by simp, by rw [hcl]; show n = min n (n + 1); omega, fun h => ⟨rfl, ?_⟩, by rw [cur_len hcur]; omega, ?_⟩
  · rcases sx with ⟨e, hl⟩ | ⟨ad, c, e, h1, h2, hc⟩
    · subst hl; simp at hn; omega
    · simp only [Value.slice.injEq] at e
      obtain ⟨rfl, _, _⟩ := e
      refine ⟨ad, rfl, fun j v hj => ?_⟩
      rw [hcells, List.getElem?_map] at hj
      obtain ⟨x, hx, rfl⟩ := Option.map_eq_some_iff.1 hj
      obtain ⟨hjl, rfl⟩ := List.getElem?_eq_some_iff.1 hx
      obtain ⟨k1, k2⟩ := hc j hjl
      exact ((below_al (o := .cells cur.toArray 5) (Below.refl _ _)).cell (p := ad.add j) (by rw [add_block]; exact k1)).trans k2
  · intro v hv
    rw [hcells] at hv
    obtain ⟨c, _, rfl⟩ := List.mem_map.1 hv
    rfl
theorem copy_run {wr : World} {ax : Option Addr} {n cx : Nat} {l : List UInt8} {cur cs : List Value} (sx : SL wr (.slice ax l.length cx) l) (hn : l.length = n) (hcur : cur.toArray = madeCells #[.int .u8 0] (n + 1)) (hcells : cs = l.map fun c : UInt8 => Value.int .u8 (c.toNat : Int)) :
    ∃ W2, (Builtin.copy_ #[35, 35] 3 #[.slice (some ⟨wr.heap.size, 0, none⟩) (n + 1) (n + 1), .slice ax n cx]).run Tryd.prog (wr.alloc (.cells cur.toArray 5)) = .ok (.int .i64 n) W2 ∧ W2.heap[wr.heap.size]? = some (.cells (splice cur 0 cs).toArray 5 (0, 0)) ∧ Below wr.heap.size wr W2 := by
  have hcx : n ≤ cx := by
    rcases sx with ⟨e, hl⟩ | ⟨ad, c, e, h1, h2, hc⟩
    · subst hl; simp at hn; omega
    · simp only [Value.slice.injEq] at e
      obtain ⟨_, _, rfl⟩ := e
      omega
  obtain ⟨f1, f2, f3, f4, f5⟩ := copy_facts sx hn hcur hcells hcx
  have hcl : cs.length = n := by rw [hcells, List.length_map, hn]
  rcases sx with ⟨e, hl⟩ | ⟨ad, c, e, h1, h2, hc⟩
  · simp only [Value.slice.injEq] at e
    obtain ⟨rfl, _, rfl⟩ := e
    have hn0 : n = 0 := by rw [← hn, hl]; rfl
    subst hn0
    obtain rfl : cs = [] := List.eq_nil_of_length_eq_zero hcl
    exact ⟨_, run_copy_nil (P := Tryd.prog) _ _ _ _ 5 _ _ _ Tryd.underlying35 (by rw [size5]; rfl), by simpa [splice] using f1, below_al (Below.refl _ _)⟩
  · simp only [Value.slice.injEq] at e
    obtain ⟨rfl, _, rfl⟩ := e
    have hsrc : ∀ j v, cs[j]? = some v → (wr.alloc (.cells cur.toArray 5)).cell? (ad.add j) = some v := by
      intro j v hj
      obtain ⟨hjl, _⟩ := List.getElem?_eq_some_iff.1 hj
      obtain ⟨_, ad', e', h⟩ := f3 (by omega)
      cases e'
      exact h j v hj
    have hr := run_copy_row (P := Tryd.prog) (wr.alloc (.cells cur.toArray 5)) 35 35 3 5 wr.heap.size 0 (n + 1) (n + 1) ad n cx cur.toArray 5 cs Tryd.underlying35 size5 f1 f2 hsrc (by simpa using f4) f5
    rw [hcl] at hr
    refine ⟨_, hr, ?_, below_setRow (below_al (Below.refl _ _)) (Nat.le_refl _) _⟩
    have := setRow_heap (wr.alloc (.cells cur.toArray 5)) wr.heap.size cur.toArray (cur.toArray.toList.take 0 ++ cs ++ cur.toArray.toList.drop (0 + n)).toArray 5 (0, 0) f1
    rw [this]
    simp [splice, hcl]
theorem last_cell {w : World} {g n : Nat} {cur cs : List Value} {t : TypeId} (h : w.heap[g]? = some (.cells (splice cur 0 cs).toArray t (0, 0))) (hc : cs.length = n) (hn : cur.length = n + 1) :
    (∃ z, w.cell? ⟨g, n, none⟩ = some z) ∧ w.frozen? ⟨g, n, none⟩ = false := by
  have hl : (splice cur 0 cs).length = n + 1 := by rw [length_splice _ _ _ (by omega)]; exact hn
  refine ⟨?_, by simp [World.frozen?, h]⟩
  simp [World.cell?, h]
  exact ⟨_, List.getElem?_eq_getElem (by omega)⟩
theorem own_facts {W2 W3 : World} {g n : Nat} {l : List UInt8} {cur cs : List Value} {t : TypeId} (h : W2.heap[g]? = some (.cells (splice cur 0 cs).toArray t (0, 0))) (hW : W2.setCell ⟨g, n, none⟩ (.int .u8 77) = W3) (hn : l.length = n) (hcells : cs = l.map fun c : UInt8 => Value.int .u8 (c.toNat : Int)) (hc : cur.length = n + 1) (hmx : n + 1 ≤ maxLen) :
    SL W3 (.slice (some ⟨g, 0, none⟩) n (n + 1)) l ∧ W3.cell? ⟨g, n, none⟩ = some (.int .u8 77) := by
  have ml : maxLen = 2 ^ 63 - 1 := rfl
  have hcl : cs.length = n := by rw [hcells, List.length_map, hn]
  have hl : (splice cur 0 cs).length = n + 1 := by rw [length_splice _ _ _ (by omega)]; exact hc
  rw [setCell_eq_setRow W2 g n _ t (0, 0) _ h] at hW
  have hr := setRow_heap W2 g _ ((splice cur 0 cs).toArray.setIfInBounds n (.int .u8 77)) t (0, 0) h
  rw [hW] at hr
  have hcell : ∀ i, W3.cell? ⟨g, i, none⟩ = ((splice cur 0 cs).toArray.setIfInBounds n (.int .u8 77))[i]? := by
    intro i
    simp [World.cell?, hr]
  have hlt : g < W3.heap.size := by
    by_cases hlt : g < W3.heap.size
    · exact hlt
    · have hn : W3.heap[g]? = none := by simp; omega
      rw [hn] at hr; cases hr
  refine ⟨Or.inr ⟨⟨g, 0, none⟩, n + 1, by rw [hn], by omega, hmx, fun i hi => ⟨hlt, ?_⟩⟩, ?_⟩
  · have e1 : (⟨g, 0, none⟩ : Addr).add i = ⟨g, i, none⟩ := by unfold Addr.add; split <;> simp_all
    rw [e1, hcell, Array.getElem?_setIfInBounds, if_neg (by omega)]
    simp only [splice, List.take_zero, List.nil_append, List.getElem?_toArray]
    rw [List.getElem?_append_left (by omega), hcells, List.getElem?_map, List.getElem?_eq_getElem hi]
    rfl
  · rw [hcell, Array.getElem?_setIfInBounds, if_pos rfl, if_pos (by simp; omega)]
theorem slo_lt {W : World} {g n : Nat} {v : Value} (h : W.cell? ⟨g, n, none⟩ = some v) : g < W.heap.size := by
  by_cases hlt : g < W.heap.size
  · exact hlt
  · have hn : W.heap[g]? = none := by simp; omega
    simp [World.cell?, hn] at h
theorem slo_same {W W1 : World} {g n c : Nat} {l : List UInt8} (h : W1.heap[g]? = W.heap[g]?) (hs : W.heap.size ≤ W1.heap.size) (sl : SL W (.slice (some ⟨g, 0, none⟩) n c) l) : SL W1 (.slice (some ⟨g, 0, none⟩) n c) l := by
  rcases sl with ⟨e, _⟩ | ⟨a, c', e, h1, h2, hc⟩
  · cases e
  · simp only [Value.slice.injEq, Option.some.injEq] at e
    obtain ⟨rfl, rfl, rfl⟩ := e
    refine Or.inr ⟨⟨g, 0, none⟩, c, rfl, h1, h2, fun i hi => ⟨Nat.lt_of_lt_of_le (hc i hi).1 hs, ?_⟩⟩
    have := (hc i hi).2
    rw [← this]
    have e1 : (⟨g, 0, none⟩ : Addr).add i = ⟨g, i, none⟩ := by unfold Addr.add; split <;> simp_all
    rw [e1]
    unfold World.cell?
    simp only [h]
/-- Where UtfFeeds stands: a checker that was fed the first k parts. -/
structure Fd (w : World) (i : Nat) (ps : List (List UInt8)) (k : Nat) (W : World) : Prop where
  ck : Ck w i (run .i8 (cat ps k)) W
  le : k ≤ ps.length
  sz : (cat ps k).length ≤ 16384
set_option maxHeartbeats 2000000 in
set_option maxRecDepth 100000 in
theorem feeds_law (v : Value) (ps : List (List UInt8)) (w : World) (g : Gx w) (pl : PL w v ps) (hsm : ∀ i (h : i < ps.length), ps[i].length ≤ 281474976710656) :
    Calls Tryd.prog 5 #[v] w fun r w' => r = .returned (.bool true) ∧ Below w.heap.size w w' := by
  have ml : maxLen = 2 ^ 63 - 1 := rfl
  have g0 := hide g
  have hsz := g.sz
  clear g
  obtain ⟨ac, cc, rfl, hz1, hz2⟩ := pl.len
  have pl := hide pl
  by_cases hl2 : (200 : Int) < (ps.length : Int)
  · go_enter Tryd.func5, Tryd.ntmps5
    go_wp2
    go_ret
    exact ⟨rfl, Below.refl _ _⟩
  · have h00 : mkB (cat ps 0) = ⟨#[]⟩ := rfl
    go_enter Tryd.func5, Tryd.ntmps5
    go_wp2_with (go_at_call 17; refine (new_any _).mono ?_; rintro e w1 ⟨rfl, hk1, hb1⟩; have P0 : Hid (Fd w w.heap.size ps 0 w1) := ⟨⟨hb1, hk1, Nat.le_refl _, g0.out.below hb1⟩, Nat.zero_le _, Nat.zero_le _⟩; clear hk1 hb1)
    go_loopw [4, 5] (fun al i w' => ∃ k : Nat, al = .string (mkB (cat ps k)) ∧ i = .int .i64 k ∧ Hid (Fd w w.heap.size ps k w')) (fun _ i _ => ps.length - (intOf i).toNat)
    case atStart => exact ⟨0, by rw [h00], rfl, P0.out⟩
    case round =>
      obtain ⟨k, rfl, rfl, F⟩ := hrel
      have hkl := F.out.le
      have pl1 := hide (pl.out.below F.out.ck.below)
      have hS := F.out.sz
      by_cases hk : k < ps.length
      · obtain ⟨l, hl⟩ : ∃ l, ps[k] = l := ⟨_, rfl⟩
        have hcs := cat_succ ps k hk
        rw [hl] at hcs
        obtain ⟨A, hA⟩ : ∃ A, mkB (cat ps k) = A := ⟨_, rfl⟩
        have hAs : A.size = (cat ps k).length := by rw [← hA, mkB_size]
        rcases pl.out with ⟨_, hz⟩ | ⟨a, c0, he, _, _, hc⟩
        · subst hz; simp at hk
        simp only [Value.slice.injEq] at he
        obtain ⟨rfl, _, rfl⟩ := he
        obtain ⟨halt, x, hx0, sx0⟩ := hc k hk
        rw [hl] at sx0
        clear hc
        obtain ⟨ax, cx, rfl, hc1, hc2⟩ := sx0.len
        have hall : Hid (∀ W, Below w.heap.size w W → W.cell? (a.add k) = some (.slice ax l.length cx) ∧ SL W (.slice ax l.length cx) l) := fun W hW => ⟨(hW.cell (p := a.add k) (by rw [add_block]; exact halt)).trans hx0, sx0.below hW⟩
        have hx := (hall.out wr F.out.ck.below).1
        have sx := (hall.out wr F.out.ck.below).2
        have hix : w.heap.size < wr.heap.size := F.out.ck.kb.lt
        clear hx0 sx0
        have sx := hide sx
        obtain ⟨n, hn⟩ : ∃ n, l.length = n := ⟨_, rfl⟩
        rw [hn] at hx hc1
        have hnb := hsm k hk
        rw [hl, hn] at hnb
        have hS' : A.size ≤ 16384 := by omega
        have hAs1 := hide hAs
        clear hAs hS hc2
        have hki : (k : Int) < (ps.length : Int) := by omega
        rw [hA]
        have hcs1 := hide hcs
        have hA1 := hide hA
        have hn1 := hide hn
        have hl1 := hide hl
        by_cases hbig : (16384 : Int) < (A.size : Int) + (n : Int)
        · clear hcs hA hn hl
          go_wp2
          go_ret
          exact ⟨rfl, F.out.ck.below⟩
        · have hmk := fun w => run_make_row' (P := Tryd.prog) 35 5 (.int .u8 0) 1 Tryd.underlying35 info5 rfl .i64 .i64 (n + 1) (by omega) (by omega) w
          have ec : ((n + 1 : Nat) : Int) = (n : Int) + 1 := by omega
          rw [ec] at hmk
          clear ec
          obtain ⟨cur, hcur⟩ : ∃ cur : List Value, cur.toArray = madeCells #[.int .u8 0] (n + 1) := ⟨_, Array.toArray_toList⟩
          rw [← hcur] at hmk
          have hcur1 := hide hcur
          obtain ⟨cs, hcells⟩ : ∃ cs : List Value, cs = l.map fun c : UInt8 => Value.int .u8 (c.toNat : Int) := ⟨_, rfl⟩
          have hcl : cs.length = n := by rw [hcells, List.length_map, hn]
          have hcells1 := hide hcells
          have hcl1 := hide hcl
          have hxa : ∀ o, (wr.alloc o).cell? (a.add k) = some (Value.slice ax n cx) := fun o => by
            have := (hall.out _ (below_al (o := o) F.out.ck.below)).1
            rw [hn] at this
            exact this
          obtain ⟨W2, hcp, HG2, hB2⟩ := copy_run sx.out hn hcur hcells
          have hx2 := (hall.out _ (below_then F.out.ck.below hB2)).1
          rw [hn] at hx2
          obtain ⟨⟨z, hz⟩, hfz⟩ := last_cell HG2 hcl (cur_len hcur)
          obtain ⟨W3, hW3⟩ : ∃ W3, W2.setCell ⟨wr.heap.size, n, none⟩ (.int .u8 77) = W3 := ⟨_, rfl⟩
          have hB3 : Below wr.heap.size wr W3 := by rw [← hW3]; exact below_set hB2 (Nat.le_refl _)
          have C3 := hide (F.out.ck.then hB3)
          have hx3 := (hall.out _ C3.out.below).1
          rw [hn] at hx3
          obtain ⟨slo, h77⟩ := own_facts HG2 hW3 hn hcells (cur_len hcur) (by omega)
          have slo := hide slo
          have h77 := hide h77
          obtain ⟨o', ho'⟩ : ∃ o', run .i8 (cat ps (k + 1)) = o' := ⟨_, rfl⟩
          obtain ⟨f, hf⟩ : ∃ f, feedE o' = f := ⟨_, rfl⟩
          obtain ⟨ee, he⟩ : ∃ ee, endE o' = ee := ⟨_, rfl⟩
          have hbind : ((run .i8 (cat ps k)).bind fun q => run q l) = o' := by
            rw [← ho', hcs]
            cases hr : run .i8 (cat ps k) with
            | none => rw [run_app_no hr]; rfl
            | some q => rw [run_app hr]; rfl
          have hfeed : Hid (∀ P : Ending → World → Prop, (∀ w4, Ck w w.heap.size o' w4 → SL w4 (.slice (some ⟨wr.heap.size, 0, none⟩) n (n + 1)) l → w4.cell? ⟨wr.heap.size, n, none⟩ = some (.int .u8 77) → P (.returned (.int .i64 f)) w4) → Calls Tryd.prog 18 #[.pointer (some ⟨w.heap.size, 0, none⟩), .slice (some ⟨wr.heap.size, 0, none⟩) n (n + 1)] W3 P) := by
            intro P hP
            refine (feed_any w.heap.size _ _ l W3 C3.out.gx.gu C3.out.kb slo.out (by omega)).mono ?_
            rintro e w4 ⟨rfl, hk4, hb4⟩
            rw [hbind] at hk4 ⊢
            have hblk : w4.heap[wr.heap.size]? = W3.heap[wr.heap.size]? := hb4.block _ (Nat.lt_of_lt_of_le (slo_lt h77.out) (Nat.le_refl _)) (by omega)
            have h1 := hP w4 (C3.out.fed hsz hb4 hk4) (slo_same hblk hb4.size slo.out) (by rw [← h77.out]; unfold World.cell?; rw [hblk])
            have hfe : (if o'.isSome = true then (0 : Int) else 30) = (f : Int) := by rw [← hf]; unfold feedE; split <;> rfl
            rw [hfe]
            exact h1
          clear hcs hA hn hl hcur hcells hcl HG2 hbind
          go_wp2_with (go_at_call 18; refine hfeed.out _ ?_; intro w4 C4 sl4 h4)
          have hx4 := (hall.out _ C4.below).1
          rw [hn1.out] at hx4
          have hcv := fun d => (sl4.below (below_dn (Below.refl _ _) d)).conv
          have hcw := fun d => ((hall.out _ C4.below).2.below (below_dn (Below.refl _ _) d)).conv
          rw [hn1.out] at hcw
          have C4 := hide C4
          have sl4 := hide sl4
          obtain ⟨B, hB⟩ : ∃ B, mkB l = B := ⟨_, rfl⟩
          rw [hB] at hcv hcw
          have hB1 := hide hB
          clear hB
          obtain ⟨A', hA'⟩ : ∃ A', mkB (cat ps (k + 1)) = A' := ⟨_, rfl⟩
          have hbA' : bl A' = cat ps (k + 1) := by rw [← hA', bl_mkB]
          have hlen' : (cat ps (k + 1)).length ≤ 16384 := by
            rw [hcs1.out, List.length_append, ← hAs1.out, hn1.out]; omega
          have hcat : ∀ w, (Op.stringOp .add A B).run Tryd.prog w = .ok (.string A') w := fun w => cat_run' _ _ _ w (by
            rw [← hA', ← hA1.out, ← hB1.out, hcs1.out, append_mkB']) (by rw [← hB1.out, mkB_size, hn1.out]; omega)
          have hst : Hid (∀ W, Calls Tryd.prog 19 #[.string A'] W fun x w' => x = .returned (.tuple #[.int .i64 f, .int .i64 ee]) ∧ Below W.heap.size W w') := fun W => by
            refine (state_any A' W (by rw [← hA', mkB_size]; exact hlen')).mono ?_
            rintro x w' ⟨⟨f1, e1, hfe, rfl⟩, hb⟩
            obtain ⟨rfl, rfl⟩ := hfe.out
            rw [hbA', ho', hf, he]
            exact ⟨rfl, hb⟩
          have hend : Hid (∀ W, Ck w w.heap.size o' W → Calls Tryd.prog 20 #[.pointer (some ⟨w.heap.size, 0, none⟩)] W fun r w' => r = .returned (.int .i64 ee) ∧ Below W.heap.size W w') := fun W c => by
            rw [← he]
            exact end_any w.heap.size o' W c.gx.gu c.kb
          have C4n := hide (fun d => C4.out.then (below_dn (Below.refl _ _) d))
          have hA1' := hide hA'
          have hlen1 := hide hlen'
          have ho1 := hide ho'
          clear hA' hbA' hlen' hf he ho'
          go_quiet (fail)
          go_wp2_with (first | (go_at_call 19; refine (hst.out _).mono ?_; rintro e w5 ⟨rfl, hb5⟩; have C5 := hide ((C4n.out _).then hb5); clear hb5) | (go_at_call 20; first | (refine (hend.out w6 C6.out).mono ?_; rintro e w7 ⟨rfl, hb7⟩; have C7 := hide (C6.out.then hb7); clear hb7) | (refine (hend.out w5 C5.out).mono ?_; rintro e w6 ⟨rfl, hb6⟩; have C6 := hide (C5.out.then hb6); clear hb6)))
          refine ⟨⟨k + 1, by rw [hA1'.out], by go_num, ⟨by rw [ho1.out]; exact C7.out, by omega, hlen1.out⟩⟩, by simp [intOf]; omega⟩
      · have hki : ¬ ((k : Int) < (ps.length : Int)) := by omega
        go_wp2_with (go_at_call 11; refine (awake_any _ F.out.ck.gx).mono ?_; rintro e w3 ⟨rfl, hb3⟩)
        go_ret
        exact ⟨rfl, below_then F.out.ck.below hb3⟩
end Go.Proofs.YtefiklklppfimaaDoor
