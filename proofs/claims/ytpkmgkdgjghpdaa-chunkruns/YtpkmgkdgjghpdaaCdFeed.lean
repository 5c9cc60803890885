/- chunk's clearFront and Feed: walked. -/
import Derived.Test.YtpkmgkdgjghpdaaCcPeek
import Derived.Deep.RegionLaw
namespace Go.Proofs.Ytpkmgkdgjghpdaa
open Go.RowKit
set_option linter.unusedSimpArgs false
set_option linter.unusedVariables false
/-- A copy into a row of one's own, as one step of a region that draws: nothing but that row turns. -/
theorem step_copy_fr {P : Program} {ops : Array Oper} {o : Oper} {a : Act} {w : World} {K : Act → World → Prop} {Q : Exit → Act → World → Prop} {E : Prop} (hgd : o.guard = none) (d s : Operand) (dT sT : TypeId)
    (ho : o.op = .call { callee := .builtin .copy, args := #[d, s], argTypes := #[dT, sT] }) (elem : TypeId) (hu : P.underlying dT = some (.slice elem)) (hsz : (P.info? elem).map (·.size) = some 1)
    (g off dLen dCap : Nat) (ad : Addr) (sLen sCap : Nat) (hd : a.eval d = .slice (some ⟨g, off, none⟩) dLen dCap) (hs : a.eval s = .slice (some ad) sLen sCap)
    (cur : List Value) (t : TypeId) (hg : w.heap[g]? = some (.cells cur.toArray t (0, 0))) (cs : List Value) (hn : cs.length = Nat.min sLen dLen)
    (hsrc : ∀ j v, cs[j]? = some v → w.cell? (ad.add j) = some v) (hfit : off + cs.length ≤ cur.length) (h1 : ∀ v ∈ cs, v.oneCell' = true)
    (h : ∀ w', Hid (w'.heap[g]? = some (.cells (splice cur off cs).toArray t (0, 0))) → Hid (Fr g (.slice none 0 0) w w') → K (a.put o.dst (goInt cs.length)) w') :
    if Region.wanted o (yielded ops a.tmps) = true then Oper.wp P o a w K Q else E := by
  have hw : Region.wanted o (yielded ops a.tmps) = true := by simp [Region.wanted, hgd]
  rw [if_pos hw]
  have hrun := run_copy_row (P := P) w dT sT o.type elem g off dLen dCap ad sLen sCap cur.toArray t cs hu hsz hg hn hsrc (by simpa using hfit) h1
  unfold Oper.wp
  simp [execOp, ho, resolve, invoke, builtin, hd, hs, hrun, Result.andThen]
  refine h _ (show _ = _ by simpa [splice] using setRow_heap w g _ _ t _ hg) ⟨rfl, rfl, rfl, by simp [World.setRow], fun k hk hi _ => setRow_other w g k _ hi⟩
section
variable {W : World} {i B gone lim taken once : Nat} {v : Value} {all : List UInt8}
set_option maxHeartbeats 2000000 in
set_option maxRecDepth 100000 in
theorem clear_no (c : Ch W i B v gone lim all taken once) (h : (once : Int) - 16 - gone < (all.length : Int) - gone - ((once : Int) - 16 - gone)) : Calls Try.prog 25 #[.pointer (some ⟨i, 0, none⟩)] W fun r w' => r = .returned (.tuple #[]) ∧ ∃ m, w' = W.drewN m := by
  obtain ⟨a, cp, rfl, h1, h2⟩ := c.len
  obtain ⟨c0, c1, c2, c3, c4, f0, f1, f2, f3, f4⟩ := c.cb.cells
  have hl := c.l1
  have hl2 := c.l2
  have hg := c.g1
  have ht := c.t3
  clear c
  obtain ⟨L, hL⟩ : ∃ L, all.length - gone = L := ⟨_, rfl⟩
  rw [hL] at c1 h1
  obtain ⟨X, hX⟩ : ∃ X, (once : Int) - 16 = X := ⟨_, rfl⟩
  obtain ⟨F, hF⟩ : ∃ F, X - (gone : Int) = F := ⟨_, rfl⟩
  obtain ⟨G, hG⟩ : ∃ G, (L : Int) - F = G := ⟨_, rfl⟩
  have hw1 : IntKind.i64.wrap ((once : Int) - 16) = X := by rw [IntKind.wrap_i64] <;> omega
  have hw2 : IntKind.i64.wrap (X - (gone : Int)) = F := by rw [IntKind.wrap_i64] <;> omega
  have hw3 : IntKind.i64.wrap ((L : Int) - F) = G := by rw [IntKind.wrap_i64] <;> omega
  have hFG : F < G := by omega
  clear h hL hX hF hG
  go_enter Try.func25, Try.ntmps25
  go_wp2
  go_quiet (fail)
  go_wp2
  exact bodyPost_ret (results_none Try.results25 _ _ _) rfl ⟨rfl, _, rfl⟩
/-- The room, used from its front on again. -/
theorem Ch.front {g cp : Nat} {cur : List Value} (c : Ch W i B (.slice (some ⟨g, 0, none⟩) (all.length - gone) cp) gone lim all taken once) (hcur : W.heap[g]? = some (.cells cur.toArray 5 (0, 0))) (hc : cur.length = cp) (F : Nat) (hF : gone + F + 16 = once) {W1 : World}
    (h1 : W1.heap[g]? = some (.cells (splice cur 0 (bcs (all.drop (gone + F)))).toArray 5 (0, 0))) (hfr : Fr i (.slice (some ⟨g, 0, none⟩) (all.length - gone) cp) W W1) (hcb : CB W1 i lim (.slice (some ⟨g, 0, none⟩) (all.length - gone - F) cp) (gone + F) taken once) :
    Ch W1 i B (.slice (some ⟨g, 0, none⟩) (all.length - gone - F) cp) (gone + F) lim all taken once := by
  have hl : (all.drop (gone + F)).length = all.length - gone - F := by rw [List.length_drop]; omega
  have ht3 := c.t3
  obtain ⟨g0, cap, cur', e, k1, k2, k3, k4, k5, k6, k7⟩ : ∃ g0 cap cur', (Value.slice (some ⟨g, 0, none⟩) (all.length - gone) cp) = .slice (some ⟨g0, 0, none⟩) (all.drop gone).length cap ∧ B ≤ g0 ∧ g0 < W.heap.size ∧ W.heap[g0]? = some (.cells cur' 5 (0, 0)) ∧ (all.drop gone).length ≤ cap ∧ cap ≤ maxLen ∧ cur'.size = cap ∧ cur'.toList.take (all.drop gone).length = bcs (all.drop gone) := by
    rcases c.own.at with ⟨e, _⟩ | h
    · cases e
    · exact h
  simp only [Value.slice.injEq, Option.some.injEq, Addr.mk.injEq] at e
  obtain ⟨⟨rfl, _, _⟩, _, rfl⟩ := e
  rw [List.length_drop] at k4
  have hsl : (splice cur 0 (bcs (all.drop (gone + F)))).length = cp := by
    rw [length_splice _ _ _ (by rw [bcs_length, hl]; omega)]; exact hc
  refine { c with cb := hcb, own := ?_, hB := Nat.le_trans c.hB hfr.size, g1 := by omega, g2 := Or.inr (by omega) }
  refine ⟨by rw [bcs_length]; simp, Or.inr ⟨g, cp, _, by rw [hl], k1, h1, by rw [hl]; omega, k5, by rw [List.size_toArray, hsl]; simp, ?_⟩⟩
  simp only [splice, List.take_zero, List.nil_append]
  rw [List.take_append_of_le_length (by rw [bcs_length]; omega), List.take_of_length_le (by rw [bcs_length]; omega)]
set_option maxHeartbeats 4000000 in
set_option maxRecDepth 100000 in
theorem clear_yes (g cp : Nat) (c : Ch W i B (.slice (some ⟨g, 0, none⟩) (all.length - gone) cp) gone lim all taken once) (F : Nat) (hF : gone + F + 16 = once) (h : all.length - gone ≤ 2 * F) : Calls Try.prog 25 #[.pointer (some ⟨i, 0, none⟩)] W fun r w' => r = .returned (.tuple #[]) ∧ Ch w' i B (.slice (some ⟨g, 0, none⟩) (all.length - gone - F) cp) (gone + F) lim all taken once ∧ Fr i (.slice (some ⟨g, 0, none⟩) (all.length - gone) cp) W w' := by
  obtain ⟨c0, c1, c2, c3, c4, f0, f1, f2, f3, f4⟩ := c.cb.cells
  have hl := c.l1
  have hl2 := c.l2
  have hg := c.g1
  have ht := c.t3
  have hiB := c.iB
  obtain ⟨cur, hB, hgs, hcur, hcp, hcpm, hcs, hct⟩ : ∃ cur : List Value, B ≤ g ∧ g < W.heap.size ∧ W.heap[g]? = some (.cells cur.toArray 5 (0, 0)) ∧ all.length - gone ≤ cp ∧ cp ≤ maxLen ∧ cur.length = cp ∧ cur.take (all.length - gone) = bcs (all.drop gone) := by
    rcases c.own.at with ⟨e, _⟩ | ⟨g0, cap, cur', e, k1, k2, k3, k4, k5, k6, k7⟩
    · cases e
    · simp only [Value.slice.injEq, Option.some.injEq, Addr.mk.injEq] at e
      obtain ⟨⟨rfl, _, _⟩, _, rfl⟩ := e
      rw [List.length_drop] at k4 k7
      exact ⟨cur'.toList, k1, k2, by simpa using k3, k4, k5, by simpa using k6, k7⟩
  have C := hide c
  have hsl := hide c.own.sl
  clear c
  have ml : maxLen = 2 ^ 63 - 1 := rfl
  obtain ⟨L, hL⟩ : ∃ L, all.length - gone = L := ⟨_, rfl⟩
  have hnews : Hid (∀ d j u, (bcs (all.drop (gone + F)))[j]? = some u → (W.drewN d).cell? ((⟨g, F, none⟩ : Addr).add j) = some u) := by
    intro d j u hj
    have e1 := hsl.out.news (j := F + j) (u := u) ?_
    · rw [add_z] at e1
      rw [show (⟨g, F, none⟩ : Addr).add j = ⟨g, F + j, none⟩ by unfold Addr.add; split <;> simp_all]
      exact e1
    · rw [bcs_drop, List.getElem?_drop] at hj ⊢
      rw [← hj]; congr 1; omega
  have hcsl : Hid ((bcs (all.drop (gone + F))).length = L - F) := by show _ = _; rw [bcs_length, List.length_drop]; omega
  have hfin : Hid (∀ W1 : World, W1.heap[g]? = some (.cells (splice cur 0 (bcs (all.drop (gone + F)))).toArray 5 (0, 0)) → Fr i (.slice (some ⟨g, 0, none⟩) L cp) W W1 → CB W1 i lim (.slice (some ⟨g, 0, none⟩) (L - F) cp) (gone + F) taken once → Ch W1 i B (.slice (some ⟨g, 0, none⟩) (L - F) cp) (gone + F) lim all taken once) := by
    intro W1 k1 k2 k3
    rw [← hL] at k2 k3 ⊢
    exact C.out.front hcur hcs F hF k1 k2 k3
  have hcb := hide C.out.cb
  rw [hL] at c1 hcp h hct hcb
  rw [hL]
  obtain ⟨X, hX⟩ : ∃ X, (once : Int) - 16 = X := ⟨_, rfl⟩
  have hw1 : IntKind.i64.wrap ((once : Int) - 16) = X := by rw [IntKind.wrap_i64] <;> omega
  have hw2 : IntKind.i64.wrap (X - (gone : Int)) = F := by rw [IntKind.wrap_i64] <;> omega
  have hw3 : IntKind.i64.wrap ((L : Int) - F) = ((L - F : Nat) : Int) := by rw [IntKind.wrap_i64] <;> omega
  have hFG : ¬ (((F : Nat) : Int) < ((L - F : Nat) : Int)) := by omega
  have hFG' : ¬ (F < L - F) := by omega
  have hFL : F ≤ L := by omega
  have hF1 := hide hF
  have hwg := hide (show wrap64 ((gone : Int) + (F : Int)) = ((gone + F : Nat) : Int) by unfold wrap64; omega)
  have hdc1 : ¬ (cp - F = 0) := by omega
  have hdc3 : ¬ (cp = F) := by omega
  have hdc4 : ¬ ((cp : Int) - (F : Int) = 0) := by omega
  have hcur' := hide hcur
  have hcs' := hide hcs
  clear hL hX C hsl hF hct hcur hcs
  have hgi : i ≠ g := by omega
  go_enter Try.func25, Try.ntmps25
  go_wp2
  go_quiet (fail)
  go_wp2
  go_region_law (refine step_copy_fr rfl (.tmp 26) (.tmp 32) 33 33 rfl 5 Try.underlying33 size5 g 0 L cp ⟨g, F, none⟩ (L - F) (cp - F) rfl rfl cur 5 hcur'.out (bcs (all.drop (gone + F))) (by rw [hcsl.out]; exact (Nat.min_eq_left (by omega)).symm) (hnews.out _) (by rw [hcsl.out, hcs'.out]; omega) (bcs_one _) ?_; intro w4 hg4 hb4; rw [hcsl.out]; have hcb4 := hide (hcb.out.same (W1 := w4) (hb4.out.block i (by show i < W.heap.size; omega) hgi (by simp [Value.ownBlock]))); obtain ⟨d0, d1, d2, d3, d4, e0, e1, e2, e3, e4⟩ := hcb4.out.cells)
  all_goals
    go_wp2
    rw [hwg.out]
    have hfr : Fr i (.slice (some ⟨g, 0, none⟩) L cp) W w4 := ⟨hb4.out.os, hb4.out.tape, hb4.out.output, hb4.out.size, fun k hk hi hv => hb4.out.block k hk (fun e => hv (by rw [e]; rfl)) (by simp [Value.ownBlock])⟩
    refine bodyPost_end (results_none Try.results25 _ _ _) rfl ⟨rfl, hfin.out _ ?_ hfr.set.set ((hcb4.out.set1 _).set2 _), hfr.set.set⟩
    rw [Below.heap_setCell _ _ _ _ (show g ≠ i by omega), Below.heap_setCell _ _ _ _ (show g ≠ i by omega)]
    exact hg4.out
theorem clear_any (c : Ch W i B v gone lim all taken once) : Calls Try.prog 25 #[.pointer (some ⟨i, 0, none⟩)] W fun r w' => r = .returned (.tuple #[]) ∧ ∃ v' gone', Ch w' i B v' gone' lim all taken once ∧ Fr i v W w' ∧ v'.ownBlock = v.ownBlock := by
  by_cases h : (once : Int) - 16 - gone < (all.length : Int) - gone - ((once : Int) - 16 - gone)
  · refine (clear_no c h).mono ?_
    rintro r w' ⟨rfl, m, rfl⟩
    exact ⟨rfl, v, gone, c.dn m, Fr.of_below (below_drewN _ _ _), rfl⟩
  · obtain ⟨F, hF⟩ : ∃ F : Nat, gone + F + 16 = once := ⟨once - 16 - gone, by have := c.t3; have := c.g1; omega⟩
    rcases c.own.at with ⟨rfl, e⟩ | ⟨g, cap, cur, e, _⟩
    · have := congrArg List.length e
      rw [List.length_drop] at this
      have := c.t3
      simp at *; omega
    · rw [List.length_drop] at e
      subst e
      refine (clear_yes g cap c F hF (by have := c.g1; omega)).mono ?_
      rintro r w' ⟨rfl, h1, h2⟩
      exact ⟨rfl, _, _, h1, h2, rfl⟩
end
end Go.Proofs.Ytpkmgkdgjghpdaa
