/- lex.Print: walked. -/
import Derived.Test.YtjidnceccpmheaaDoorApTok
import Derived.Test.YtjidnceccpmheaaDoorAqTok
namespace Go.Proofs.YtjidnceccpmheaaDoor
namespace Lx
open Go.RowKit
set_option linter.unusedSimpArgs false
set_option linter.unusedVariables false
section
variable {w : World} {ops : Array Oper} {rest : List Oper} {o : Oper} {a : Act} {Q : Exit → Act → World → Prop}
theorem app_bytes2 (hgd : o.guard = none) (s x : Operand) (ho : o.op = .call { callee := .builtin .append, args := #[s, x], argTypes := #[39, 39] })
    (B : Nat) (v : Value) (l : List UInt8) (hs : a.eval s = v) (hown : Own w B v l) (ad : Addr) (m c : Nat) (news : List UInt8) (hx : a.eval x = .slice (some ad) m c) (hm : news.length = m)
    (hnews : ∀ j u, (bcs news)[j]? = some u → w.cell? (ad.add j) = some u) (hl : l.length + m ≤ 100000) (hB : B ≤ w.heap.size)
    (h : ∀ v' w', Hid (Own w' B v' (l ++ news)) → Hid (w.grownBy w' v.ownBlock) → wpList Tryd.prog ops Q rest (a.put o.dst v') w') : wpList Tryd.prog ops Q (o :: rest) a w := by
  obtain ⟨i0, hi, hz0, hz1, hz2⟩ := info_parts info5
  refine wpList_append_own w hgd s x 39 ho B 5 i0 (.int .u8 0) 1 1 Tryd.underlying39 hi hz0 hz1 hz2 rfl (by decide) v l.length (bcs l) hs hown ad m c (bcs news) hx (by rw [bcs_length, hm]; simp) hnews ?_ ?_ ?_ hB ?_
  · intro u hu
    simp only [bcs, List.mem_map] at hu
    obtain ⟨c, _, rfl⟩ := hu
    rfl
  · unfold maxLen; omega
  · omega
  · intro v' w' h1 h2 _
    refine h v' w' ?_ h2
    show Own _ _ _ _
    unfold Own
    rw [bcs_append, List.length_append, hm]; exact h1
end
/-- Is one too long? -/
def lon (t : Tk) : Bool := decide (lgK (kdW t.w) < t.s.length)
/-- What Print answers: an error, or a text. -/
def prR (l : List Tk) : Nat × List UInt8 := if ¬ (∀ t ∈ l, isT nok t.w t.s = true) then (1, []) else if 1024 < l.length ∨ (∃ t ∈ l, lon t = true) ∨ 4096 < (jn (l.map splT)).length then (2, []) else (0, jn (l.map splT))
def prE (x : Nat × List UInt8) : Ending := .returned (.tuple #[.string (mkB x.2), .int .i64 (x.1 : Nat)])
theorem mem_sum : ∀ {l : List Nat} {a : Nat}, a ∈ l → a ≤ l.sum
  | b :: l, a, h => by
    rw [List.sum_cons]
    rcases List.mem_cons.1 h with rfl | h
    · omega
    · have := mem_sum h; omega
theorem jn_snoc : ∀ (l : List (List UInt8)) (a : List UInt8), jn (l ++ [a]) = (if l = [] then a else jn l ++ 32 :: a)
  | [], a => rfl
  | [b], a => by simp [jn]
  | b :: c :: l, a => by
    have := jn_snoc (c :: l) a
    rw [if_neg (by simp)] at this ⊢
    simp only [List.cons_append] at this ⊢
    simp only [jn]
    rw [this]
    simp
theorem jn_take (l : List (List UInt8)) : ∀ k, (jn (l.take k)).length ≤ (jn l).length := by
  intro k
  induction l generalizing k with
  | nil => simp
  | cons a l ih =>
    cases k with
    | zero => simp [jn]
    | succ k =>
      rw [List.take_succ_cons]
      cases l with
      | nil => simp
      | cons b l =>
        cases k with
        | zero => simp [jn]
        | succ k =>
          have := ih (k + 1)
          rw [List.take_succ_cons] at this ⊢
          simp only [jn, List.length_append, List.length_cons]
          omega
set_option maxHeartbeats 4000000 in
set_option maxRecDepth 100000 in
theorem print_any (hP : ParseOk) (u : Value) (l : List Tk) (w : World) (hu : TS w u l) (g : Gg w) (hz : tot l ≤ 70000) : Calls Tryd.prog 7 #[u] w fun e w' => e = prE (prR l) ∧ Below w.heap.size w w' := by
  obtain ⟨au, cu, rfl, hu1, hu2⟩ := hu.shape
  have hu := hide hu
  have g0 := hide g
  have hP0 := hide hP
  have ml : maxLen = 9223372036854775807 := rfl
  have hzt : Hid (∀ t ∈ l, t.s.length ≤ 70000) := fun t ht => by
    have : t.s.length ≤ (l.map fun t => t.s.length).sum := mem_sum (List.mem_map.2 ⟨t, ht, rfl⟩)
    unfold tot at hz
    omega
  have hl7 : l.length ≤ 70000 := by unfold tot at hz; omega
  obtain ⟨U, hU⟩ : ∃ U, prR l = U := ⟨_, rfl⟩
  rw [hU]
  have HU := hide hU
  clear hU g hP hz
  go_enter Tryd.func7, Tryd.ntmps7
  go_wp2
  go_loopw [11] (fun i W => ∃ k : Nat, i = .int .i64 k ∧ k ≤ l.length ∧ Hid ((∀ j (h : j < l.length), j < k → isT nok l[j].w l[j].s = true) ∧ Below w.heap.size w W)) (fun i _ => l.length - (intOf i).toNat)
  case atStart => exact ⟨0, rfl, Nat.zero_le _, fun j h1 h2 => by omega, Below.refl _ _⟩
  case round =>
    obtain ⟨k, rfl, hk, H⟩ := hrel
    by_cases hkl : k < l.length
    · have hki : (k : Int) < (l.length : Int) := by omega
      obtain ⟨hA, hB⟩ := H.out
      have A1 := hide hA
      have B1 := hide hB
      have gr := hide (g0.out.below hB g0.out.sz)
      obtain ⟨b, o, rfl, hb, p1, p2, p3⟩ := (hu.out.below hB).at k hkl
      have hti : Hid (∀ W, Below wr.heap.size wr W → Calls Tryd.prog 12 #[.agg #[.int .i64 l[k].w, .string (mkB l[k].s), .int .i64 l[k].p]] W fun e w' => e = .returned (.bool (isT nok l[k].w l[k].s)) ∧ Below W.heap.size W w') := (fun W hb => isTok_any hP0.out l[k] W (gr.out.below hb gr.out.sz) (hzt.out _ (List.getElem_mem _)))
      clear H hA hB
      obtain ⟨x, hx⟩ : ∃ x, l[k].w = x := ⟨_, rfl⟩
      obtain ⟨y, hy⟩ : ∃ y, mkB l[k].s = y := ⟨_, rfl⟩
      obtain ⟨z, hz⟩ : ∃ z, l[k].p = z := ⟨_, rfl⟩
      obtain ⟨q, hq⟩ : ∃ q, isT nok l[k].w l[k].s = q := ⟨_, rfl⟩
      rw [hq] at hti
      rw [hx] at p1 hti
      rw [hy] at p2 hti
      rw [hz] at p3 hti
      have hq := hide hq
      clear hx hy hz
      rename_i hqq
      clear hqq
      go_wp2_with fail
      refine (hti.out _ (below_al (Below.refl _ _))).mono ?_
      rintro e w1 ⟨rfl, hb1⟩
      have B2 := hide (below_then (below_al B1.out) hb1)
      clear hb1
      cases q
      · have U2 : Hid (U = (1, [])) := by
          show _ = _
          rw [← HU.out]
          unfold prR
          rw [if_pos (fun h => by have := h _ (List.getElem_mem hkl); rw [hq.out] at this; cases this)]
        go_wp2
        go_ret2
        exact ⟨by rw [U2.out]; rfl, B2.out⟩
      · have A2 : Hid (∀ j (h : j < l.length), j < k + 1 → isT nok l[j].w l[j].s = true) := fun j h1 h2 => by
          by_cases hjk : j = k
          · subst hjk; exact hq.out
          · exact A1.out j h1 (by omega)
        clear A1 hq
        go_wp2
        go_roundw
        case rel => exact ⟨k + 1, by go_num, by omega, A2.out, B2.out⟩
        case measure => simp [intOf]; omega
    · have hki : ¬ (k : Int) < (l.length : Int) := by omega
      have hall : Hid (∀ t ∈ l, isT nok t.w t.s = true) := fun t ht => by
        obtain ⟨j, hj, rfl⟩ := List.mem_iff_getElem.1 ht
        exact H.out.1 j hj (by omega)
      have B0 := hide H.out.2
      have U1 : Hid (U = if 1024 < l.length ∨ (∃ t ∈ l, lon t = true) ∨ 4096 < (jn (l.map splT)).length then (2, []) else (0, jn (l.map splT))) := by
        show _ = _
        rw [← HU.out]
        unfold prR
        rw [if_neg (fun h => h hall.out)]
      clear H HU
      by_cases hbig : 1024 < l.length
      · have ib : (1024 : Int) < (l.length : Int) := by omega
        have U2 : Hid (U = (2, [])) := by show _ = _; rw [U1.out, if_pos (Or.inl hbig)]
        go_wp2
        go_ret2
        exact ⟨by rw [U2.out]; rfl, B0.out⟩
      · have ib : ¬ (1024 : Int) < (l.length : Int) := by omega
        go_wp2
        clear hkl hki hk
        go_loopw [6, 24] (fun v i W => ∃ k : Nat, i = .int .i64 k ∧ k ≤ l.length ∧ Hid (Own W w.heap.size v (jn ((l.take k).map splT)) ∧ (∀ j (h : j < l.length), j < k → lon l[j] = false) ∧ (jn ((l.take k).map splT)).length ≤ 4096 ∧ Below w.heap.size w W)) (fun _ i _ => l.length - (intOf i).toNat)
        case atStart => exact ⟨0, rfl, Nat.zero_le _, own_nil _ _, fun j h1 h2 => by omega, by simp [jn], B0.out⟩
        case round =>
          obtain ⟨k, rfl, hk, H⟩ := hrel
          obtain ⟨hO, hA, hL, hB⟩ := H.out
          have O1 := hide hO
          have A1 := hide hA
          have L1 := hide hL
          have B1 := hide hB
          clear H hO hA hL hB
          by_cases hkl : k < l.length
          · have hki : (k : Int) < (l.length : Int) := by omega
            have gr := hide (g0.out.below B1.out g0.out.sz)
            obtain ⟨b, o, rfl, hb, p1, p2, p3⟩ := (hu.out.below B1.out).at k hkl
            obtain ⟨T, hT⟩ : ∃ T, l[k] = T := ⟨_, rfl⟩
            have hTm : Hid (T ∈ l) := by rw [← hT]; exact List.getElem_mem _
            have hTk := hide hT
            have hjt : Hid ((l.take (k + 1)).map splT = (l.take k).map splT ++ [splT T]) := by
              show _ = _
              rw [List.take_succ_eq_append_getElem hkl, List.map_append, hT]
              rfl
            have hTis : Hid (isT nok T.w T.s = true) := hall.out T hTm.out
            rw [hT] at p1 p2 p3
            obtain ⟨x, ys, z⟩ := T
            simp only at p1 p2 p3
            have hys : Hid ((mkB ys).size = ys.length) := mkB_size ys
            have hko : Hid (∀ o n, Calls Tryd.prog 13 #[.int .i64 x] ((wr.alloc o).drewN n) fun e w' => e = .returned (.int .i64 (kdW x : Nat)) ∧ w' = (wr.alloc o).drewN n) := fun o n => kindOf_any x _ (gr.out.below (below_then (below_al (Below.refl _ _)) (below_drewN _ _ _)) gr.out.sz)
            have hk5 : kdW x < 5 := by unfold kdW; (repeat' split) <;> omega
            have hlo : ∀ o, (wr.alloc o).cell? ⟨0, kdW x, none⟩ = some (.int .i64 (lgK (kdW x) : Nat)) := fun o => (gr.out.below (below_al (Below.refl _ _)) gr.out.sz).lo _ hk5
            have hlon : Hid (lon ⟨x, ys, z⟩ = decide (lgK (kdW x) < ys.length)) := rfl
            have hlg : lgK (kdW x) ≤ 4096 := by unfold lgK; (repeat' split) <;> omega
            have hsp : Hid (ys.length ≤ 4096 → ∀ W, Calls Tryd.prog 14 #[.agg #[.int .i64 x, .string (mkB ys), .int .i64 z]] W fun e w' => e = .returned (.string (mkB (splT ⟨x, ys, z⟩))) ∧ Below W.heap.size W w') := fun h W => spell_any ⟨x, ys, z⟩ W (by simp only; omega)
            obtain ⟨q, hq⟩ : ∃ q, kdW x = q := ⟨_, rfl⟩
            obtain ⟨m, hm⟩ : ∃ m, lgK q = m := ⟨_, rfl⟩
            rw [hq] at hko hk5 hlo hlon hlg
            rw [hm] at hlo hlon hlg
            have hq0 : (0 : Int) ≤ (q : Int) := by omega
            have hq5 : (q : Int) < 5 := by omega
            obtain ⟨y, hy⟩ : ∃ y, mkB ys = y := ⟨_, rfl⟩
            rw [hy] at p2 hys hsp
            have hspl : Hid ((splT ⟨x, ys, z⟩).length ≤ 6 * ys.length + 2) := by
              show _ ≤ _
              unfold splT spl
              simp only
              split
              · have := esc_len ys; simp only [quo, List.length_cons, List.length_append, List.length_nil]; omega
              · omega
            clear hT hm hq hy
            by_cases hlg2 : m < ys.length
            · have U2 : Hid (U = (2, [])) := by
                show _ = _
                rw [U1.out, if_pos (Or.inr (Or.inl ⟨_, hTm.out, by rw [hlon.out]; exact decide_eq_true hlg2⟩))]
              have i1 : ((m : Nat) : Int) < ((y.size : Nat) : Int) := by rw [hys.out]; omega
              clear hlg2 hlg hk5 hspl hsp
              go_wp2_with fail
              go_quiet (first | (go_at_call 13; exact Calls.quiet_of_same (hko.out _ _)))
              go_wp2
              go_ret2
              exact ⟨by rw [U2.out]; rfl, below_then (below_al B1.out) (below_drewN _ _ _)⟩
            · have i1 : ¬ ((m : Nat) : Int) < ((y.size : Nat) : Int) := by rw [hys.out]; omega
              have hsp2 := hide (hsp.out (by omega))
              have A2 : Hid (∀ j (h : j < l.length), j < k + 1 → lon l[j] = false) := fun j h1 h2 => by
                by_cases hjk : j = k
                · subst hjk; rw [hTk.out, hlon.out]; exact decide_eq_false hlg2
                · exact A1.out j h1 (by omega)
              have hS : Hid (mkB (splT ⟨x, ys, z⟩) = mkB (splT ⟨x, ys, z⟩)) := rfl
              have hyl : Hid (ys.length ≤ 4096) := by show _ ≤ _; omega
              obtain ⟨S, hSd⟩ : ∃ S, splT ⟨x, ys, z⟩ = S := ⟨_, rfl⟩
              rw [hSd] at hjt hspl hsp2
              have hSb := hide (bl_mkB S)
              have hSz : Hid ((mkB S).size = S.length) := mkB_size S
              obtain ⟨Sb, hSbd⟩ : ∃ Sb, mkB S = Sb := ⟨_, rfl⟩
              rw [hSbd] at hSb hSz hsp2
              obtain ⟨J, hJ⟩ : ∃ J, jn ((l.take k).map splT) = J := ⟨_, rfl⟩
              rw [hJ] at O1 L1
              have hJn : Hid (jn ((l.take (k + 1)).map splT) = if k = 0 then S else J ++ 32 :: S) := by
                show _ = _
                rw [hjt.out, jn_snoc, hJ]
                by_cases hk0 : k = 0
                · subst hk0; simp
                · rw [if_neg hk0, if_neg]
                  intro e
                  have := congrArg List.length e
                  rw [List.length_map, List.length_take, List.length_nil] at this
                  omega
              have hJe0 : Hid (k = 0 → J = []) := fun e => by rw [← hJ, e]; rfl
              have i1n : ¬ m < y.size := by rw [hys.out]; exact hlg2
              have hJle : Hid ((jn ((l.take (k + 1)).map splT)).length ≤ (jn (l.map splT)).length) := by
                show _ ≤ _
                rw [List.map_take]
                exact jn_take _ _
              obtain ⟨J2, hJ2⟩ : ∃ J2, jn ((l.take (k + 1)).map splT) = J2 := ⟨_, rfl⟩
              rw [hJ2] at hJn hJle
              have hJ2 := hide hJ2
              clear hlg2 hlg hk5 A1 hsp hS hSd hSbd hjt hJ
              rename_i hJ2q
              clear hJ2q
              have hk0' : k = 0 ∨ 0 < k := by omega
              rcases hk0' with hk0 | hk0
              · have ik : ¬ (0 : Int) < (k : Int) := by omega
                have hJ0 : Hid (J2 = S) := by have := hJn.out; rw [if_pos hk0] at this; exact this
                have hJe : Hid (J = []) := hJe0.out hk0
                clear hJn hk0 hJe0
                go_wp2_with fail
                go_quiet (first | (go_at_call 13; exact Calls.quiet_of_same (hko.out _ _)))
                have BW : Hid (Below wr.heap.size wr ((wr.alloc (Obj.cells #[Value.int IntKind.i64 x, Value.string y, Value.int IntKind.i64 z] 36)).drewN nq)) := below_then (below_al (Below.refl _ _)) (below_drewN _ _ _)
                go_wp2_with (first | (go_at_call 14; refine (hsp2.out _).mono ?_; rintro e w2 ⟨rfl, hb2⟩; have B2' := hide (below_then BW.out hb2); clear hb2) | (at_builtin; refine Sto.out ?_))
                refine Sto.mk ?_
                have O2 := hide (own_keep O1.out B2'.out)
                have B2 := hide (below_then B1.out B2'.out)
                refine app_str rfl (.tmp 43) (.tmp 45) rfl w.heap.size u6 J rfl O2.out Sb rfl (by have := L1.out; have := hSz.out; have := hspl.out; have := hyl.out; omega) B2.out.size ?_
                intro v3 w3 ho3 hb3 hz3
                have O3 : Hid (Own w3 w.heap.size v3 J2) := by have := ho3.out; rw [hSb.out, hJe.out, List.nil_append, ← hJ0.out] at this; exact this
                have B3 : Hid (Below w.heap.size w w3) := B2.out.trans hb3.out
                obtain ⟨a3, c3, rfl⟩ := own_shape O3.out
                clear ho3 hb3 hz3 hlo
                by_cases h4096 : 4096 < J2.length
                · have j4 : (4096 : Int) < (J2.length : Int) := by omega
                  have U2 : Hid (U = (2, [])) := by show _ = _; rw [U1.out, if_pos (Or.inr (Or.inr (by have := hJle.out; omega)))]
                  go_wp2
                  go_ret2
                  exact ⟨by rw [U2.out]; rfl, B3.out⟩
                · have j4 : ¬ (4096 : Int) < (J2.length : Int) := by omega
                  go_wp2
                  go_roundw
                  case rel => exact ⟨k + 1, by go_num, by omega, by rw [hJ2.out]; exact O3.out, A2.out, by rw [hJ2.out]; omega, B3.out⟩
                  case measure => simp [intOf]; omega
              · have ik : (0 : Int) < (k : Int) := by omega
                have hJ0 : Hid (J2 = J ++ 32 :: S) := by have := hJn.out; rw [if_neg (by omega)] at this; exact this
                clear hJn hk0 hJe0
                go_wp2_with fail
                go_quiet (first | (go_at_call 13; exact Calls.quiet_of_same (hko.out _ _)))
                have BW : Hid (Below wr.heap.size wr ((wr.alloc (Obj.cells #[Value.int IntKind.i64 x, Value.string y, Value.int IntKind.i64 z] 36)).drewN nq)) := below_then (below_al (Below.refl _ _)) (below_drewN _ _ _)
                obtain ⟨W1, hW1⟩ : ∃ W1, W1 = ((wr.alloc (Obj.cells #[Value.int IntKind.i64 x, Value.string y, Value.int IntKind.i64 z] 36)).drewN nq) := ⟨_, rfl⟩
                have c0 : Hid (W1.heap[wr.heap.size]? = some (Obj.cells #[Value.int IntKind.i64 x, Value.string y, Value.int IntKind.i64 z] 36)) := by
                  show _ = _
                  rw [hW1]
                  exact Array.getElem?_push_size
                have z1 : Hid (W1.heap.size = wr.heap.size + 1) := by show _ = _; rw [hW1]; simp
                rw [← hW1] at BW ⊢
                clear hW1
                have hn := hide (news_one W1 32 5)
                have OW := hide (own_keep O1.out BW.out)
                have hll := hide (World.ownsRow.lt O1.out)
                go_wp2_with (at_builtin; refine Sto.out ?_)
                refine Sto.mk ?_
                refine app_bytes2 rfl (.tmp 40) (.tmp 41) rfl w.heap.size u6 J rfl (OW.out.alloc _) ⟨W1.heap.size, 0, none⟩ 1 1 [32] rfl rfl hn.out (by have := L1.out; omega) (by have := B1.out.size; have := z1.out; simp; omega) ?_
                intro v2 w2 ho2 hg2
                have cB : Hid (w2.heap[wr.heap.size]? = some (Obj.cells #[Value.int IntKind.i64 x, Value.string y, Value.int IntKind.i64 z] 36)) := by
                  show _ = _
                  rw [hg2.out.block wr.heap.size (by have := z1.out; simp; omega) (fun q => by have := (hll.out _ q.symm).2; omega), Below.heap_alloc _ _ _ (by have := z1.out; omega)]
                  exact c0.out
                have d0 : w2.cell? ⟨wr.heap.size, 0, none⟩ = some (.int .i64 x) := by simp [World.cell?, cB.out]
                have d1 : w2.cell? ⟨wr.heap.size, 1, none⟩ = some (.string y) := by simp [World.cell?, cB.out]
                have d2 : w2.cell? ⟨wr.heap.size, 2, none⟩ = some (.int .i64 z) := by simp [World.cell?, cB.out]
                have B2 : Hid (Below w.heap.size w w2) := (below_al (below_then B1.out BW.out)).grown hg2.out (by have := B1.out.size; have := z1.out; simp; omega) (fun q hq => (hll.out q hq).1)
                have O2 : Hid (Own w2 w.heap.size v2 (J ++ [32])) := ho2.out
                clear ho2 hg2 hn OW hlo
                go_wp2_with (first | (go_at_call 14; refine (hsp2.out _).mono ?_; rintro e w4 ⟨rfl, hb4⟩; have B4' := hide hb4; clear hb4) | (at_builtin; refine Sto.out ?_))
                refine Sto.mk ?_
                have O4 := hide (own_keep O2.out B4'.out)
                have B4 := hide (below_then B2.out B4'.out)
                refine app_str rfl (.tmp 43) (.tmp 45) rfl w.heap.size v2 (J ++ [32]) rfl O4.out Sb rfl (by have := L1.out; have := hSz.out; have := hspl.out; have := hyl.out; simp; omega) B4.out.size ?_
                intro v3 w3 ho3 hb3 hz3
                have O3 : Hid (Own w3 w.heap.size v3 J2) := by have := ho3.out; rw [hSb.out, List.append_assoc, List.singleton_append, ← hJ0.out] at this; exact this
                have B3 : Hid (Below w.heap.size w w3) := B4.out.trans hb3.out
                obtain ⟨a3, c3, rfl⟩ := own_shape O3.out
                clear ho3 hb3 hz3 d0 d1 d2
                by_cases h4096 : 4096 < J2.length
                · have j4 : (4096 : Int) < (J2.length : Int) := by omega
                  have U2 : Hid (U = (2, [])) := by show _ = _; rw [U1.out, if_pos (Or.inr (Or.inr (by have := hJle.out; omega)))]
                  go_wp2
                  go_ret2
                  exact ⟨by rw [U2.out]; rfl, B3.out⟩
                · have j4 : ¬ (4096 : Int) < (J2.length : Int) := by omega
                  go_wp2
                  go_roundw
                  case rel => exact ⟨k + 1, by go_num, by omega, by rw [hJ2.out]; exact O3.out, A2.out, by rw [hJ2.out]; omega, B3.out⟩
                  case measure => simp [intOf]; omega
          · have hki : ¬ (k : Int) < (l.length : Int) := by omega
            have hcv := own_conv O1.out
            obtain ⟨J, hJ⟩ : ∃ J, jn ((l.take k).map splT) = J := ⟨_, rfl⟩
            rw [hJ] at hcv
            have htk : l.take k = l := List.take_of_length_le (by omega)
            have U2 : Hid (U = (0, J)) := by
              show _ = _
              rw [U1.out, ← hJ, htk, if_neg]
              intro h
              rcases h with h | ⟨t, ht, h⟩ | h
              · omega
              · obtain ⟨j, hj, rfl⟩ := List.mem_iff_getElem.1 ht
                have := A1.out j hj (by omega)
                rw [h] at this; cases this
              · have := L1.out
                rw [htk] at this
                omega
            clear htk hJ
            go_wp2
            go_ret2
            exact ⟨by rw [U2.out]; rfl, B1.out⟩
end Lx
end Go.Proofs.YtjidnceccpmheaaDoor
