/- types.eachHasAll: walked. -/
import Derived.Test.YtlfnnecpinmjjaaDoorHkHas
namespace Go.Proofs.YtlfnnecpinmjjaaDoor
open Go.RowKit Go.Maps
set_option linter.unusedSimpArgs false
set_option linter.unusedVariables false
set_option maxHeartbeats 1000000 in
set_option maxRecDepth 100000 in
theorem eachHas_any (n : Nat) (ih : HasOk n) (l : List (TT n)) (u : Value) (m R L c : Nat) (f : Nat → Value) (cols : Nat → List (VT m)) (w : World) (hl : TL n w u l) (hL : l.length = L) (hLc : L ≤ c) (hcm : c ≤ maxLen) (hR : R < w.heap.size)
    (hf : ∀ i, i < L → w.cell? ⟨R, i, none⟩ = some (f i) ∧ VL m w (f i) (cols i) ∧ (∀ v ∈ cols i, IsV m v ∧ Sz m v) ∧ sizL m (cols i) ≤ 200000) (tl : ∀ y ∈ l, TSB n y ∧ IsT n y) (gt : Gt w) :
    Calls Tryd.prog 67 #[u, .slice (some ⟨R, 0, none⟩) L c] w fun e w' => TB (∀ i (h : i < l.length), ∀ v ∈ cols i, InT n l[i] m v) w e w' := by
  obtain ⟨al, cl, rfl, hl1, hl2⟩ := hl.len
  have hl := hide hl
  have hf := hide hf
  have tl := hide tl
  have gt := hide gt
  have ih := hide ih
  have hL' := hide hL
  generalize hP : (∀ i (h : i < l.length), ∀ v ∈ cols i, InT n l[i] m v) = P
  rw [hL] at hl1 ⊢
  have hP := hide hP
  clear hL
  have ml : maxLen = 9223372036854775807 := rfl
  go_enter Tryd.func67, Tryd.ntmps67
  go_wp2_with fail
  go_loopw [9] (fun i w' => ∃ k : Nat, i = .int .i64 k ∧ k ≤ L ∧ Hid ((∀ i (h : i < l.length), i < k → ∀ v ∈ cols i, InT n l[i] m v) ∧ Below w.heap.size w w')) (fun i _ => L - (intOf i).toNat)
  case atStart => exact ⟨0, rfl, Nat.zero_le _, (fun i h h2 => by omega), Below.refl _ _⟩
  case round =>
    obtain ⟨k, rfl, hk, H⟩ := hrel
    by_cases hkl : k < L
    · have hki : (k : Int) < (L : Int) := by omega
      have hk63 : (k : Int) < 9223372036854775807 := by omega
      have hkl' := hide (show k < l.length by rw [hL'.out]; exact hkl)
      obtain ⟨b, o, c2, he, hbl, hlc, hcm2, ns', ls', hrg, hrd⟩ := hl.out.at k hkl'.out
      have he' := Value.slice.inj he
      obtain ⟨rfl, _, rfl⟩ := he'
      clear he
      obtain ⟨q0, q1, q2⟩ := range3 (rangeAt_below hrg H.out.2 hbl)
      have hrd' := hide hrd
      obtain ⟨a1, m1, d1, a2, m2, d2, rfl, rfl⟩ := hrd.shape
      clear hrg hrd
      obtain ⟨f1, f2, f3, f4⟩ := hf.out k hkl
      obtain ⟨a3, c3, e3, _, _⟩ := f2.len
      have tk := tl.out _ (List.getElem_mem hkl'.out)
      obtain ⟨bk, hbk⟩ := tells (∀ v ∈ cols k, InT n (l[k]'hkl'.out) m v)
      have hcall := hide (fun W (hW : Below w.heap.size w W) => Calls.tb (ih.out (l[k]'hkl'.out) _ _ m (cols k) (f k) W (hrd'.out.below hW) (f2.below hW) tk.2 tk.1 f3 f4 (gt.out.below hW)) hbk)
      have hbk' := hide hbk
      rw [e3] at f1 hcall
      obtain ⟨N, hN⟩ : ∃ N, (cols k).length = N := ⟨_, rfl⟩
      rw [hN] at f1 hcall
      obtain ⟨hp, hhp⟩ : ∃ hp, thd n (l[k]'hkl'.out) = hp := ⟨_, rfl⟩
      rw [hhp] at q0 hcall
      clear hbk e3 f2 f3 f4 tk hN hhp
      have hfR := hide (fun W (hW : Below w.heap.size w W) => (hW.cell (p := ⟨R, k, none⟩) hR).trans f1)
      have hwr := hide H.out.2
      have hTx := hide (tx_new wr hp (.slice a1 m1 d1) (.slice a2 m2 d2))
      obtain ⟨W1, hW1⟩ : ∃ W1, wr.alloc (.cells #[.int .i64 hp.kind, .slice a1 m1 d1, .slice a2 m2 d2] 26) = W1 := ⟨_, rfl⟩
      have hTx : Hid (Tx W1 wr.heap.size hp (.slice a1 m1 d1) (.slice a2 m2 d2)) := by rw [← hW1]; exact hTx.out
      have hbW : Hid (Below w.heap.size w W1) := by rw [← hW1]; exact below_al H.out.2
      have mkS : Hid (∀ W, Below W1.heap.size W1 W → W.cell? ⟨wr.heap.size, 0, none⟩ = some (.int .i64 hp.kind) ∧ W.cell? ⟨wr.heap.size, 1, none⟩ = some (.slice a1 m1 d1) ∧ W.cell? ⟨wr.heap.size, 2, none⟩ = some (.slice a2 m2 d2) ∧ W.cell? ⟨R, k, none⟩ = some (.slice a3 N c3)) := fun W hW => ⟨(hTx.out.below hW).cells.1, (hTx.out.below hW).cells.2.1, (hTx.out.below hW).cells.2.2, hfR.out W (below_then hbW.out hW)⟩
      obtain ⟨s0, s1, s2, s3⟩ := mkS.out W1 (Below.refl _ _)
      clear f1
      cases bk
      · go_wp2_with fail
        go_region_held3 (fun W => W.cell? ⟨wr.heap.size, 0, none⟩ = some (.int .i64 hp.kind) ∧ W.cell? ⟨wr.heap.size, 1, none⟩ = some (.slice a1 m1 d1) ∧ W.cell? ⟨wr.heap.size, 2, none⟩ = some (.slice a2 m2 d2) ∧ W.cell? ⟨R, k, none⟩ = some (.slice a3 N c3)) (first | (exact mkS.out _ T3.out) | (simp [go_sem]; done) | go_keep) (first | (go_at_call 32; refine (hcall.out _ (below_then hbW.out (by repeat (first | exact Below.refl _ _ | refine below_dr ?_ | refine below_dn ?_ _)))).mono ?_; rintro e w3 ⟨rfl, hb3⟩; have T3 : Hid (Below W1.heap.size W1 w3) := below_then (by repeat (first | exact Below.refl _ _ | refine below_dr ?_ | refine below_dn ?_ _)) hb3))
        go_wp2_with fail
        go_ret
        exact TB.no (fun q => by rw [← hP.out] at q; have := hbk'.out.2 (q k hkl'.out); cases this) (below_then hbW.out T3.out)
      · go_wp2_with fail
        go_region_held3 (fun W => W.cell? ⟨wr.heap.size, 0, none⟩ = some (.int .i64 hp.kind) ∧ W.cell? ⟨wr.heap.size, 1, none⟩ = some (.slice a1 m1 d1) ∧ W.cell? ⟨wr.heap.size, 2, none⟩ = some (.slice a2 m2 d2) ∧ W.cell? ⟨R, k, none⟩ = some (.slice a3 N c3)) (first | (exact mkS.out _ T3.out) | (simp [go_sem]; done) | go_keep) (first | (go_at_call 32; refine (hcall.out _ (below_then hbW.out (by repeat (first | exact Below.refl _ _ | refine below_dr ?_ | refine below_dn ?_ _)))).mono ?_; rintro e w3 ⟨rfl, hb3⟩; have T3 : Hid (Below W1.heap.size W1 w3) := below_then (by repeat (first | exact Below.refl _ _ | refine below_dr ?_ | refine below_dn ?_ _)) hb3))
        go_wp2_with fail
        refine ⟨⟨k + 1, by go_num, by omega, (fun i h1 h2 => ?_), below_then hbW.out T3.out⟩, by simp [intOf]; omega⟩
        by_cases e : i = k
        · subst e; exact hbk'.out.1 (by simp)
        · exact H.out.1 i h1 (by omega)
    · have hki : ¬ ((k : Int) < (L : Int)) := by omega
      have hE' := hide (show ∀ i (h : i < l.length), ∀ v ∈ cols i, InT n l[i] m v from fun i h => H.out.1 i h (by have := hL'.out; omega))
      go_wp2_with fail
      go_ret
      exact TB.yes (by rw [← hP.out]; exact hE'.out) H.out.2
end Go.Proofs.YtlfnnecpinmjjaaDoor
