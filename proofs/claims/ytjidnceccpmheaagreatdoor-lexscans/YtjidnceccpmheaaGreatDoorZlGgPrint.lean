/- The reference of layer 13: Print: walked. -/
import Derived.Test.YtjidnceccpmheaaGreatDoorZlGfIs
namespace Go.Proofs.YtjidnceccpmheaaGreatDoor
namespace Lx
open Go.RowKit
set_option linter.unusedSimpArgs false
set_option linter.unusedVariables false
theorem app_str3 {w : World} {ops : Array Oper} {rest : List Oper} {o : Oper} {a : Act} {Q : Exit → Act → World → Prop} (hgd : o.guard = none) (sl x : Operand) (ho : o.op = .call { callee := .builtin .append, args := #[sl, x], argTypes := #[44, 9] })
    (B : Nat) (v : Value) (l : List UInt8) (hs : a.eval sl = v) (hown : Own w B v l) (s : ByteArray) (hx : a.eval x = .string s) (hl : l.length + s.size ≤ 1000000000) (hB : B ≤ w.heap.size)
    (h : ∀ v' w', Hid (Own w' B v' (l ++ bl s)) → Hid (Below B w w') → wpList Tryz.prog ops Q rest (a.put o.dst v') w') : wpList Tryz.prog ops Q (o :: rest) a w := by
  obtain ⟨i0, hi, hz0, hz1, hz2⟩ := info_parts info5
  refine Lib.wpList_append_own_string w hgd sl x 44 9 ho B 5 i0 Tryz.underlying44 Tryz.underlying9 hi hz0 hz1 hz2 v l.length (bcs l) hs hown s hx (by unfold maxLen; omega) (by omega) hB ?_
  intro v' w' h1 h2 _
  refine h v' w' ?_ ?_
  · show Own _ _ _ _
    unfold Own
    rw [bcs_append, List.length_append, bl_length, ← strCells_bcs]; exact h1
  · exact (Below.refl B w).grown h2 hB hown.row
theorem jn_len : ∀ (l : List Tk), (∀ t ∈ l, t.s.length ≤ 4096) → (jn (l.map splT)).length ≤ l.length * 24579
  | [], _ => by simp [jn]
  | [t], h => by
    have h1 : (splT t).length ≤ 6 * t.s.length + 2 := by
      unfold splT spl
      split
      · have := esc_len t.s; simp only [quo, List.length_cons, List.length_append, List.length_nil]; omega
      · omega
    have := h t (by simp)
    simp only [List.map_cons, List.map_nil, jn, List.length_cons, List.length_nil]
    omega
  | t :: u :: l, h => by
    have h1 : (splT t).length ≤ 6 * t.s.length + 2 := by
      unfold splT spl
      split
      · have := esc_len t.s; simp only [quo, List.length_cons, List.length_append, List.length_nil]; omega
      · omega
    have h2 := h t (by simp)
    have h3 := jn_len (u :: l) (fun x hx => h x (by simp only [List.mem_cons] at hx ⊢; exact Or.inr hx))
    simp only [List.map_cons, jn, List.length_append, List.length_cons] at h3 ⊢
    omega
set_option maxHeartbeats 4000000 in
set_option maxRecDepth 100000 in
theorem rprint_any (u : Value) (l : List Tk) (w : World) (hu : TS w u l) (hz : tot l ≤ 70000) : Calls Tryz.prog 11 #[u] w fun e w' => e = prE (prR l) ∧ Below w.heap.size w w' := by
  obtain ⟨au, cu, rfl, hu1, hu2⟩ := hu.shape
  have hu := hide hu
  have ml : maxLen = 9223372036854775807 := rfl
  have hzt : Hid (∀ t ∈ l, t.s.length ≤ 70000) := fun t ht => by
    have : t.s.length ≤ (l.map fun t => t.s.length).sum := mem_sum (List.mem_map.2 ⟨t, ht, rfl⟩)
    unfold tot at hz
    omega
  have hl7 : l.length ≤ 70000 := by unfold tot at hz; omega
  obtain ⟨U, hU⟩ : ∃ U, prR l = U := ⟨_, rfl⟩
  rw [hU]
  have HU := hide hU
  clear hU hz
  go_enter Tryz.func11, Tryz.ntmps11
  go_wp2
  go_loopw [4] (fun i W => ∃ k : Nat, i = .int .i64 k ∧ k ≤ l.length ∧ Hid ((∀ j (h : j < l.length), j < k → isT nok l[j].w l[j].s = true) ∧ Below w.heap.size w W)) (fun i _ => l.length - (intOf i).toNat)
  case atStart => exact ⟨0, rfl, Nat.zero_le _, fun j h1 h2 => by omega, Below.refl _ _⟩
  case round =>
    obtain ⟨k, rfl, hk, H⟩ := hrel
    by_cases hkl : k < l.length
    · have hki : (k : Int) < (l.length : Int) := by omega
      obtain ⟨hA, hB⟩ := H.out
      have A1 := hide hA
      have B1 := hide hB
      obtain ⟨b, o, rfl, hb, p1, p2, p3⟩ := (hu.out.below hB).at k hkl
      have hti : Hid (Calls Tryz.prog 20 #[.agg #[.int .i64 l[k].w, .string (mkB l[k].s), .int .i64 l[k].p]] wr fun e w' => e = .returned (.bool (isT nok l[k].w l[k].s)) ∧ Below wr.heap.size wr w') := ris_any l[k] wr (hzt.out _ (List.getElem_mem _))
      clear H hA hB
      obtain ⟨x, hx⟩ : ∃ x, l[k].w = x := ⟨_, rfl⟩
      obtain ⟨y, hy⟩ : ∃ y, mkB l[k].s = y := ⟨_, rfl⟩
      obtain ⟨z, hz⟩ : ∃ z, l[k].p = z := ⟨_, rfl⟩
      obtain ⟨q, hq0⟩ : ∃ q, isT nok l[k].w l[k].s = q := ⟨_, rfl⟩
      rw [hq0] at hti
      rw [hx] at p1 hti
      rw [hy] at p2 hti
      rw [hz] at p3 hti
      have hq := hide hq0
      clear hx hy hz hq0
      go_wp2_with (go_at_call 20; refine hti.out.mono ?_; rintro e w1 ⟨rfl, hb1⟩; have B2 := hide (below_then B1.out hb1); clear hb1; refine Sto.out ?_)
      refine Sto.mk ?_
      cases q
      · have U2 : Hid (U = (1, [])) := by
          show _ = _
          rw [← HU.out]
          unfold prR
          rw [if_pos (fun h => by have := h _ (List.getElem_mem hkl); rw [hq.out] at this; cases this)]
        go_wp2
        go_ret2
        exact ⟨by rw [U2.out]; rfl, B2.out⟩
      · have A2 : Hid (∀ j (h : j < l.length), j < k + 1 → isT nok l[j].w l[j].s = true) := fun j h1 h2 => by
          by_cases hjk : j = k
          · subst hjk; exact hq.out
          · exact A1.out j h1 (by omega)
        clear A1 hq
        go_wp2
        go_roundw
        case rel => exact ⟨k + 1, by go_num, by omega, A2.out, B2.out⟩
        case measure => simp [intOf]; omega
    · have hki : ¬ (k : Int) < (l.length : Int) := by omega
      have hall : Hid (∀ t ∈ l, isT nok t.w t.s = true) := fun t ht => by
        obtain ⟨j, hj, rfl⟩ := List.mem_iff_getElem.1 ht
        exact H.out.1 j hj (by omega)
      have B0 := hide H.out.2
      have U1 : Hid (U = if 1024 < l.length ∨ (∃ t ∈ l, lon t = true) ∨ 4096 < (jn (l.map splT)).length then (2, []) else (0, jn (l.map splT))) := by
        show _ = _
        rw [← HU.out]
        unfold prR
        rw [if_neg (fun h => h hall.out)]
      clear H HU
      go_wp2
      clear hkl hki hk
      go_loopw [5] (fun i W => ∃ k : Nat, i = .int .i64 k ∧ k ≤ l.length ∧ k ≤ 1024 ∧ Hid ((∀ j (h : j < l.length), j < k → lon l[j] = false) ∧ Below w.heap.size w W)) (fun i _ => l.length - (intOf i).toNat)
      case atStart => exact ⟨0, rfl, Nat.zero_le _, by omega, fun j h1 h2 => by omega, B0.out⟩
      case round =>
        obtain ⟨k, rfl, hk, hk1, H⟩ := hrel
        by_cases hkl : k < l.length
        · have hki : (k : Int) < (l.length : Int) := by omega
          obtain ⟨hA, hB⟩ := H.out
          have A1 := hide hA
          have B1 := hide hB
          obtain ⟨b, o, rfl, hb, p1, p2, p3⟩ := (hu.out.below hB).at k hkl
          have hti : Hid (Calls Tryz.prog 15 #[.agg #[.int .i64 l[k].w, .string (mkB l[k].s), .int .i64 l[k].p]] wr fun e w' => e = .returned (.bool (lon l[k])) ∧ Below wr.heap.size wr w') := by
            have := rlong_any l[k] wr (hzt.out _ (List.getElem_mem _))
            rw [lon_eq _ (hall.out _ (List.getElem_mem _))] at this
            exact this
          have hmem : Hid (l[k] ∈ l) := List.getElem_mem _
          clear H hA hB
          obtain ⟨x, hx⟩ : ∃ x, l[k].w = x := ⟨_, rfl⟩
          obtain ⟨y, hy⟩ : ∃ y, mkB l[k].s = y := ⟨_, rfl⟩
          obtain ⟨z, hz⟩ : ∃ z, l[k].p = z := ⟨_, rfl⟩
          obtain ⟨q, hq0⟩ : ∃ q, lon l[k] = q := ⟨_, rfl⟩
          rw [hq0] at hti
          rw [hx] at p1 hti
          rw [hy] at p2 hti
          rw [hz] at p3 hti
          have hq := hide hq0
          clear hx hy hz hq0
          cases q
          · by_cases hk2 : k < 1024
            · have hki2 : ¬ (1024 : Int) ≤ (k : Int) := by omega
              have A2 : Hid (∀ j (h : j < l.length), j < k + 1 → lon l[j] = false) := fun j h1 h2 => by
                by_cases hjk : j = k
                · subst hjk; exact hq.out
                · exact A1.out j h1 (by omega)
              clear A1 hq
              go_wp2_with (go_at_call 15; refine hti.out.mono ?_; rintro e w1 ⟨rfl, hb1⟩; have B2 := hide (below_then B1.out hb1); clear hb1)
              go_roundw
              case rel => exact ⟨k + 1, by go_num, by omega, by omega, A2.out, B2.out⟩
              case measure => simp [intOf]; omega
            · have hki2 : (1024 : Int) ≤ (k : Int) := by omega
              have U2 : Hid (U = (2, [])) := by show _ = _; rw [U1.out, if_pos (Or.inl (by omega))]
              go_wp2_with (go_at_call 15; refine hti.out.mono ?_; rintro e w1 ⟨rfl, hb1⟩; have B2 := hide (below_then B1.out hb1); clear hb1)
              go_ret2
              exact ⟨by rw [U2.out]; rfl, B2.out⟩
          · have U2 : Hid (U = (2, [])) := by show _ = _; rw [U1.out, if_pos (Or.inr (Or.inl ⟨_, hmem.out, hq.out⟩))]
            go_wp2_with (go_at_call 15; refine hti.out.mono ?_; rintro e w1 ⟨rfl, hb1⟩; have B2 := hide (below_then B1.out hb1); clear hb1)
            go_ret2
            exact ⟨by rw [U2.out]; rfl, B2.out⟩
        · have hki : ¬ (k : Int) < (l.length : Int) := by omega
          have hl10 : l.length ≤ 1024 := by omega
          have hlon : Hid (∀ t ∈ l, lon t = false) := fun t ht => by
            obtain ⟨j, hj, rfl⟩ := List.mem_iff_getElem.1 ht
            exact H.out.1 j hj (by omega)
          have hls : Hid (∀ t ∈ l, t.s.length ≤ 4096) := fun t ht => by
            have h1 := hlon.out t ht
            unfold lon at h1
            have h2 : ¬ lgK (kdW t.w) < t.s.length := of_decide_eq_false h1
            have h3 : lgK (kdW t.w) ≤ 4096 := by unfold lgK; (repeat' split) <;> omega
            omega
          have B3 := hide H.out.2
          have U3 : Hid (U = if 4096 < (jn (l.map splT)).length then (2, []) else (0, jn (l.map splT))) := by
            show _ = _
            rw [U1.out]
            by_cases h4 : 4096 < (jn (l.map splT)).length
            · rw [if_pos h4, if_pos (Or.inr (Or.inr h4))]
            · rw [if_neg h4, if_neg]
              rintro (h | ⟨t, ht, h⟩ | h)
              · omega
              · rw [hlon.out t ht] at h; cases h
              · exact h4 h
          clear H U1
          go_wp2
          clear hkl hki hk
          go_loopw [6, 7] (fun v i W => ∃ k : Nat, i = .int .i64 k ∧ k ≤ l.length ∧ Hid (Own W w.heap.size v (jn ((l.take k).map splT)) ∧ Below w.heap.size w W)) (fun _ i _ => l.length - (intOf i).toNat)
          case atStart => exact ⟨0, rfl, Nat.zero_le _, own_nil _ _, B3.out⟩
          case round =>
            obtain ⟨k, rfl, hk, H⟩ := hrel
            obtain ⟨hO, hB⟩ := H.out
            have O1 := hide hO
            have B1 := hide hB
            clear H hO hB
            by_cases hkl : k < l.length
            · have hki : (k : Int) < (l.length : Int) := by omega
              obtain ⟨b, o, rfl, hb, p1, p2, p3⟩ := (hu.out.below B1.out).at k hkl
              obtain ⟨T, hT⟩ : ∃ T, l[k] = T := ⟨_, rfl⟩
              have hTm : Hid (T ∈ l) := by rw [← hT]; exact List.getElem_mem _
              have hjt : Hid ((l.take (k + 1)).map splT = (l.take k).map splT ++ [splT T]) := by
                show _ = _
                rw [List.take_succ_eq_append_getElem hkl, List.map_append, hT]
                rfl
              have hjl : Hid ((jn ((l.take k).map splT)).length ≤ 25168896) := by
                show _ ≤ _
                have := jn_len (l.take k) (fun t ht => hls.out t (List.mem_of_mem_take ht))
                rw [List.length_take] at this
                have h2 : min k l.length * 24579 ≤ 1024 * 24579 := Nat.mul_le_mul_right _ (by omega)
                omega
              have hTl := hide (hls.out T hTm.out)
              have hTk := hide hT
              rw [hT] at p1 p2 p3
              obtain ⟨x, ys, z⟩ := T
              simp only at p1 p2 p3 hTl
              have hys : Hid ((mkB ys).size = ys.length) := mkB_size ys
              have hyb : Hid (bl (mkB ys) = ys) := bl_mkB ys
              have hq : Hid (∀ W, Calls Tryz.prog 21 #[.string (mkB ys)] W fun e w' => e = .returned (.string (mkB (quo ys))) ∧ Below W.heap.size W w') := fun W => by
                have := rquoted_any (mkB ys) W (by rw [mkB_size]; have := hTl.out; omega)
                rw [bl_mkB] at this
                exact this
              have hqs : Hid ((mkB (quo ys)).size ≤ 24578) := by
                show _ ≤ _
                rw [mkB_size]
                have := esc_len ys
                have := hTl.out
                simp only [quo, List.length_cons, List.length_append, List.length_nil]
                omega
              have hqb : Hid (bl (mkB (quo ys)) = quo ys) := bl_mkB _
              obtain ⟨J, hJ⟩ : ∃ J, jn ((l.take k).map splT) = J := ⟨_, rfl⟩
              rw [hJ] at O1 hjl
              have hJn : Hid (jn ((l.take (k + 1)).map splT) = if k = 0 then splT ⟨x, ys, z⟩ else J ++ 32 :: splT ⟨x, ys, z⟩) := by
                show _ = _
                rw [hjt.out, jn_snoc, hJ]
                by_cases hk0 : k = 0
                · subst hk0; simp
                · rw [if_neg hk0, if_neg]
                  intro e
                  have := congrArg List.length e
                  rw [List.length_map, List.length_take, List.length_nil] at this
                  omega
              have hJe0 : Hid (k = 0 → J = []) := fun e => by rw [← hJ, e]; rfl
              have hsp : Hid (splT ⟨x, ys, z⟩ = if x = 2 then quo ys else ys) := rfl
              obtain ⟨S, hSd⟩ : ∃ S, splT ⟨x, ys, z⟩ = S := ⟨_, rfl⟩
              rw [hSd] at hJn hsp
              obtain ⟨J2, hJ2d⟩ : ∃ J2, jn ((l.take (k + 1)).map splT) = J2 := ⟨_, rfl⟩
              rw [hJ2d] at hJn
              have hJ2 := hide hJ2d
              obtain ⟨y, hy⟩ : ∃ y, mkB ys = y := ⟨_, rfl⟩
              have hyd := hide hy
              obtain ⟨qy, hqy⟩ : ∃ qy, mkB (quo ys) = qy := ⟨_, rfl⟩
              rw [hy] at p2 hys hyb hq
              rw [hqy] at hq hqs hqb
              clear hT hSd hjt hJ hy hqy hJ2d
              have hk0' : k = 0 ∨ 0 < k := by omega
              have hx2 : x = 2 ∨ ¬ x = 2 := by omega
              rcases hk0' with hk0 | hk0
              · have ik : ¬ (0 : Int) < (k : Int) := by omega
                have hJ0 : Hid (J2 = S) := by have := hJn.out; rw [if_pos hk0] at this; exact this
                have hJe : Hid (J = []) := hJe0.out hk0
                clear hJn hk0 hJe0
                rcases hx2 with rfl | hx2
                · have hS : Hid (S = quo ys) := by have := hsp.out; rw [if_pos rfl] at this; exact this
                  go_wp2_with (first | (go_at_call 21; refine (hq.out _).mono ?_; rintro e w2 ⟨rfl, hb2⟩; have O2 := hide (own_keep O1.out hb2); have B2 := hide (below_then B1.out hb2); clear hb2) | (at_builtin; refine Sto.out ?_))
                  refine Sto.mk ?_
                  refine app_str3 rfl (.tmp 52) (.tmp 58) rfl w.heap.size u6 J rfl O2.out qy rfl (by have := hjl.out; have := hqs.out; omega) B2.out.size ?_
                  intro v3 w3 ho3 hb3
                  have O3 : Hid (Own w3 w.heap.size v3 J2) := by have := ho3.out; rw [hqb.out, hJe.out, List.nil_append, ← hS.out, ← hJ0.out] at this; exact this
                  have B3' : Hid (Below w.heap.size w w3) := B2.out.trans hb3.out
                  clear ho3 hb3
                  go_wp2
                  go_roundw
                  case rel => exact ⟨k + 1, by go_num, by omega, by rw [hJ2.out]; exact O3.out, B3'.out⟩
                  case measure => simp [intOf]; omega
                · have hS : Hid (S = ys) := by have := hsp.out; rw [if_neg hx2] at this; exact this
                  have ex : (x == 2) = false := by simpa using hx2
                  go_wp2_with (at_builtin; refine Sto.out ?_)
                  refine Sto.mk ?_
                  refine app_str3 rfl (.tmp 60) (.tmp 65) rfl w.heap.size u6 J rfl O1.out y rfl (by have := hjl.out; have := hys.out; have := hTl.out; omega) B1.out.size ?_
                  intro v3 w3 ho3 hb3
                  have O3 : Hid (Own w3 w.heap.size v3 J2) := by have := ho3.out; rw [hyb.out, hJe.out, List.nil_append, ← hS.out, ← hJ0.out] at this; exact this
                  have B3' : Hid (Below w.heap.size w w3) := B1.out.trans hb3.out
                  clear ho3 hb3
                  go_wp2
                  go_roundw
                  case rel => exact ⟨k + 1, by go_num, by omega, by rw [hJ2.out]; exact O3.out, B3'.out⟩
                  case measure => simp [intOf]; omega
              · have ik : (0 : Int) < (k : Int) := by omega
                have hJ0 : Hid (J2 = J ++ 32 :: S) := by have := hJn.out; rw [if_neg (by omega)] at this; exact this
                clear hJn hk0 hJe0
                have hn := hide (news_any wr _ [32] 5 rfl)
                go_wp2_with (at_builtin; refine Sto.out ?_)
                refine Sto.mk ?_
                refine app_bs rfl (.tmp 43) (.tmp 44) rfl w.heap.size u6 J rfl (O1.out.alloc _) ⟨wr.heap.size, 0, none⟩ 1 1 [32] rfl rfl hn.out (by have := hjl.out; omega) (by have := B1.out.size; simp; omega) (by omega) ?_
                intro av c' w2 ho2 hb2
                have B2 : Hid (Below w.heap.size w w2) := (below_al B1.out).trans hb2.out
                obtain ⟨b', o', e', hb', f1, f2, f3⟩ := (hu.out.below B2.out).at k hkl
                cases e'
                rw [hTk.out] at f1 f2 f3
                simp only at f1 f2 f3
                rw [hyd.out] at f2
                have O2 : Hid (Own w2 w.heap.size (.slice av (J.length + 1) c') (J ++ [32])) := ho2.out
                clear ho2 hb2 hn p1 p2 p3
                rcases hx2 with rfl | hx2
                · have hS : Hid (S = quo ys) := by have := hsp.out; rw [if_pos rfl] at this; exact this
                  go_wp2_with (first | (go_at_call 21; refine (hq.out _).mono ?_; rintro e w4 ⟨rfl, hb4⟩; have O4 := hide (own_keep O2.out hb4); have B4 := hide (below_then B2.out hb4); clear hb4) | (at_builtin; refine Sto.out ?_))
                  refine Sto.mk ?_
                  refine app_str3 rfl (.tmp 52) (.tmp 58) rfl w.heap.size _ (J ++ [32]) rfl O4.out qy rfl (by have := hjl.out; have := hqs.out; simp; omega) B4.out.size ?_
                  intro v3 w3 ho3 hb3
                  have O3 : Hid (Own w3 w.heap.size v3 J2) := by have := ho3.out; rw [hqb.out, List.append_assoc, List.singleton_append, ← hS.out, ← hJ0.out] at this; exact this
                  have B3' : Hid (Below w.heap.size w w3) := B4.out.trans hb3.out
                  clear ho3 hb3
                  go_wp2
                  go_roundw
                  case rel => exact ⟨k + 1, by go_num, by omega, by rw [hJ2.out]; exact O3.out, B3'.out⟩
                  case measure => simp [intOf]; omega
                · have hS : Hid (S = ys) := by have := hsp.out; rw [if_neg hx2] at this; exact this
                  have ex : (x == 2) = false := by simpa using hx2
                  go_wp2_with (at_builtin; refine Sto.out ?_)
                  refine Sto.mk ?_
                  refine app_str3 rfl (.tmp 60) (.tmp 65) rfl w.heap.size _ (J ++ [32]) rfl O2.out y rfl (by have := hjl.out; have := hys.out; have := hTl.out; simp; omega) B2.out.size ?_
                  intro v3 w3 ho3 hb3
                  have O3 : Hid (Own w3 w.heap.size v3 J2) := by have := ho3.out; rw [hyb.out, List.append_assoc, List.singleton_append, ← hS.out, ← hJ0.out] at this; exact this
                  have B3' : Hid (Below w.heap.size w w3) := B2.out.trans hb3.out
                  clear ho3 hb3
                  go_wp2
                  go_roundw
                  case rel => exact ⟨k + 1, by go_num, by omega, by rw [hJ2.out]; exact O3.out, B3'.out⟩
                  case measure => simp [intOf]; omega
            · have hki : ¬ (k : Int) < (l.length : Int) := by omega
              have htk : l.take k = l := List.take_of_length_le (by omega)
              rw [htk] at O1
              have hcv := own_conv O1.out
              obtain ⟨J, hJ⟩ : ∃ J, jn (l.map splT) = J := ⟨_, rfl⟩
              rw [hJ] at O1 hcv U3
              obtain ⟨a6, c6, hv6⟩ := own_shape O1.out
              subst hv6
              clear htk hJ
              by_cases h4 : 4096 < J.length
              · have j4 : (4096 : Int) < (J.length : Int) := by omega
                have U2 : Hid (U = (2, [])) := by show _ = _; rw [U3.out, if_pos h4]
                go_wp2
                go_ret2
                exact ⟨by rw [U2.out]; rfl, B1.out⟩
              · have j4 : ¬ (4096 : Int) < (J.length : Int) := by omega
                have U2 : Hid (U = (0, J)) := by show _ = _; rw [U3.out, if_neg h4]
                go_wp2
                go_ret2
                exact ⟨by rw [U2.out]; rfl, B1.out⟩
end Lx
end Go.Proofs.YtjidnceccpmheaaGreatDoor
