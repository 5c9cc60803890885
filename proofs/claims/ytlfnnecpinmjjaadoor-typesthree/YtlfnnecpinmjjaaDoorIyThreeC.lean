/-
  For any three structs: each type is part of itself, what is part of a part of a third is part of that, and both of two types are part of their Join.
  What it leans on: the package variables of utf and types start as the program's text lays them (the card ties them), and what is handed in fits into memory (the form's own reach); nothing else is asked.
-/
import Derived.Test.YtlfnnecpinmjjaaDoorIxThree
import Derived.Test.YtlfnnecpinmjjaaDoorIwOpenM
import Derived.Test.YtlfnnecpinmjjaaDoorCards
import Derived.Test.YtlfnnecpinmjjaaDoorTie
import Derived.SevenTiedAt
namespace Go.Proofs.YtlfnnecpinmjjaaDoor
open Go.ChangeShapes Go.WideShapes Go.ChangeAt Go.RowKit Go.Joins Go.ChangeMaps
set_option linter.unusedVariables false
set_option maxRecDepth 100000 in
theorem typesThree_lifted (os : Os) (started : os.Started) (H : Type) (enc : TypeId × Value → H) :
    ReturnsInHanded {} Tryd.checked os 6 .any (fun w args => (Rows.typesThreeSpec.pre enc Tryd.prog Tryd.f6 [] false w args ∧ laidMetH Tryd.prog Rows.typesThreeRow.laid w) ∧ sizedMet enc Tryd.prog Tryd.f6 (OpenSpec.ofChange Rows.typesThreeSpec) false w args)
      (Rows.typesThreeSpec.post enc Tryd.prog Tryd.f6 false true false false) := by
  refine returnsInHanded_of_change_and (C := Tryd.checked) (X := fun w _ => laidMetH Tryd.prog Rows.typesThreeRow.laid w) (fun _ _ _ hh h => h.of_heap hh) own started (by kernel_rfl) Tryd.func6
    (ChangeSpec.witness_shaped (enc := enc) (C := Tryd.checked) (os := os) (X := fun w _ => laidMetH Tryd.prog Rows.typesThreeRow.laid w) false (World.laidAll Tryd.prog os Rows.typesThreeRow.laid) #[.agg #[.int .i64 0, .slice none 0 0, .slice none 0 0], .agg #[.int .i64 0, .slice none 0 0, .slice none 0 0], .agg #[.int .i64 0, .slice none 0 0, .slice none 0 0]] 8 (World.laidAll_os _ _ _)
      (World.shaped_of_ZipB (by kernel_rfl) (by kernel_rfl)) (by kernel_rfl) (by kernel_rfl) (by kernel_rfl)
      (by rw [MakeChecks.laidMetH_plain _ _ _ (by kernel_rfl)]; exact laidMet_laidAll _ (by kernel_rfl) (by kernel_rfl))) ?_
  intro W base args ds gs before hval0 hW _ hsz0 hL _
  have hval : ∀ (j : Nat) t v, Tryd.f6.params[j]? = some t → args[j]? = some v → Value.okWide Tryd.prog W .any base t v := hval0
  have hsz : (DataW.weightsEach Tryd.prog (Tryd.f6.params.toList ++ Rows.typesThreeSpec.plain.varTypes Tryd.prog) (ds ++ gs)).all (· ≤ reachBytes) = true := hsz0
  clear hsz0
  have hW' := hW
  have hltB := hW.lt
  obtain ⟨p, q, hA0, hV, rfl, _, _⟩ := hW
  have hA : DataW.TrodAll enc Tryd.prog W 0 (fun _ => true) true Tryd.f6.params.toList args.toList ds p := hA0
  rw [Tryd.params6] at hA hval hsz
  have hltA : ∀ x ∈ p, x.block < W.heap.size := fun x hx => hltB x (by simp [hx])
  obtain ⟨v0, v1, v2, d0, d1, d2, p0, p1, p2, rfl, rfl, rfl, h0, h1, h2⟩ := trodAll_three hA
  obtain ⟨rfl, rfl⟩ := trodVars_none hV
  have hwt : ∀ k ∈ DataW.weightsEach Tryd.prog [26, 26, 26] [d0, d1, d2], k ≤ reachBytes := by
    have hvt : Rows.typesThreeSpec.plain.varTypes Tryd.prog = [] := rfl
    rw [hvt, List.append_nil, List.append_nil] at hsz
    intro k hk
    simpa using List.all_eq_true.1 hsz k hk
  have hlt0 : ∀ x ∈ p0, x.block < W.heap.size := fun x hx => hltA x (by simp [hx])
  obtain ⟨cs0, rfl, hsc0⟩ := okWide_struct Tryd.underlying26 (hval 0 26 v0 rfl rfl)
  obtain ⟨f0, hf0⟩ := h0
  have hlt1 : ∀ x ∈ p1, x.block < W.heap.size := fun x hx => hltA x (by simp [hx])
  obtain ⟨cs1, rfl, hsc1⟩ := okWide_struct Tryd.underlying26 (hval 1 26 v1 rfl rfl)
  obtain ⟨f1, hf1⟩ := h1
  have hlt2 : ∀ x ∈ p2, x.block < W.heap.size := fun x hx => hltA x (by simp [hx])
  obtain ⟨cs2, rfl, hsc2⟩ := okWide_struct Tryd.underlying26 (hval 2 26 v2 rfl rfl)
  obtain ⟨f2, hf2⟩ := h2
  obtain ⟨t0, ns0, ls0, hc0, hr0, hz0⟩ := open_t f0 (f0 + f1 + f2) (by omega) _ _ hf0 hlt0 (fun k hk => hwt k (by simp [DataW.weightsEach, hk]))
  have hq0 : cs0 = tvs (thd _ t0) ns0 ls0 := Array.toList_inj.1 hc0
  subst hq0
  obtain ⟨t1, ns1, ls1, hc1, hr1, hz1⟩ := open_t f1 (f0 + f1 + f2) (by omega) _ _ hf1 hlt1 (fun k hk => hwt k (by simp [DataW.weightsEach, hk]))
  have hq1 : cs1 = tvs (thd _ t1) ns1 ls1 := Array.toList_inj.1 hc1
  subst hq1
  obtain ⟨t2, ns2, ls2, hc2, hr2, hz2⟩ := open_t f2 (f0 + f1 + f2) (by omega) _ _ hf2 hlt2 (fun k hk => hwt k (by simp [DataW.weightsEach, hk]))
  have hq2 : cs2 = tvs (thd _ t2) ns2 ls2 := Array.toList_inj.1 hc2
  subst hq2
  clear hA0 hval0
  simp only [List.append_nil] at hW'
  refine (tthree_law joinOk (f0 + f1 + f2) t0 t1 t2 ns0 ls0 ns1 ls1 ns2 ls2 W hr0 hz0 hr1 hz1 hr2 hz2 (laidMet_two hL).1 (laidMet_two hL).2).mono fun e W' ⟨he, hb⟩ => ?_
  subst he
  exact ⟨_, rfl, _, _, _, [], _, [], hW', trodAll_mk1 (shut_bool Tryd.underlying4 _), trodAll_mk3 (Below.trod laidOut (by kernel_rfl) (of_decide_eq_true (by kernel_rfl)) ⟨f0, hf0⟩ hb hlt0) (Below.trod laidOut (by kernel_rfl) (of_decide_eq_true (by kernel_rfl)) ⟨f1, hf1⟩ hb hlt1) (Below.trod laidOut (by kernel_rfl) (of_decide_eq_true (by kernel_rfl)) ⟨f2, hf2⟩ hb hlt2), rfl, hb.frame _, fun h => by cases h⟩
theorem typesThree_holds : Rows.TypesThreeSaid :=
  OpenClaim.holds_of_wide 6 Tryd.f6 rfl rfl rfl rfl rfl rfl rfl ⟨rfl, rfl, rfl, rfl, rfl⟩ rfl rfl rfl rfl rfl (by kernel_rfl) Tryd.func6 (by kernel_rfl)
    (of_decide_eq_true (by kernel_rfl)) (by unfold Func.isWrapper; first | (rw [if_pos (by decide +kernel)]; kernel_rfl) | (rw [if_neg (by decide +kernel)]; exact ⟨rfl, rfl⟩))
    (fun os started H enc _ => typesThree_lifted os started H enc)
theorem typesThree_card : Rows.TypesThreeCardSaid :=
  Claim7.holds_tied_plain_at .later [] [.wider, .data, .data] true Rows.typesThreeCard.stood.harness false
    typesThree_holds (fun _ h => by cases h) (by kernel_rfl) (fun _ h => by cases h) typesThree_row_tie rfl ⟨rfl, rfl⟩ (by kernel_rfl) rfl
    (fun f fn hf hfn => by
      obtain rfl : f = 6 := Option.some.inj ((show Tryd.prog.funcNamed Rows.typesThreeRow.func = some 6 by kernel_rfl).symm.trans hf) |>.symm
      obtain rfl : fn = Tryd.f6 := (Option.some.inj (Tryd.func6.symm.trans hfn)).symm
      exact ⟨by kernel_rfl, fun j t ht => by
        rw [Tryd.params6] at ht
        have hm : t ∈ [26] := by simpa using Array.mem_of_getElem? ht
        have hall : ([26].all fun u => !Tryd.prog.wantsStandIn u) = true := by kernel_rfl
        exact (show Tryd.prog.wantsStandIn t = false by simpa using List.all_eq_true.1 hall t hm)⟩)
    (by kernel_rfl)
#print axioms typesThree_card
end Go.Proofs.YtlfnnecpinmjjaaDoor
