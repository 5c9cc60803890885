/-
  calamuslaw05.EventFlattens answers true for any struct, and leaves it as it was: Flatten gives just the events that the document gives a value, or refuses it as the document does; and the document's examples answer as they should.
  What it leans on: utf's two package variables start as the program's text lays them (the card ties them), and what is handed in fits into memory (the form's own reach); nothing else is asked.
-/
import Derived.Test.YthbfopdeaknbkaaDoorEwM
import Derived.Test.YthbfopdeaknbkaaDoorWoOpen
import Derived.Test.YthbfopdeaknbkaaDoorUqLaid2
import Derived.Test.YthbfopdeaknbkaaDoorCards
import Derived.Test.YthbfopdeaknbkaaDoorTie
import Derived.SevenTiedAt
namespace Go.Proofs.YthbfopdeaknbkaaDoor
open Go.ChangeShapes Go.WideShapes Go.ChangeAt Go.RowKit Go.Joins Go.ChangeMaps
set_option linter.unusedVariables false
set_option maxRecDepth 100000 in
theorem eventFlattens_lifted (os : Os) (started : os.Started) (H : Type) (enc : TypeId × Value → H) :
    ReturnsInHanded {} Tryd.checked os 3 .any (fun w args => (Rows.eventFlattensSpec.pre enc Tryd.prog Tryd.f3 [] false w args ∧ laidMetH Tryd.prog Rows.eventFlattensRow.laid w) ∧ sizedMet enc Tryd.prog Tryd.f3 (OpenSpec.ofChange Rows.eventFlattensSpec) false w args)
      (Rows.eventFlattensSpec.post enc Tryd.prog Tryd.f3 false true false false) := by
  refine returnsInHanded_of_change_and (C := Tryd.checked) (X := fun w _ => laidMetH Tryd.prog Rows.eventFlattensRow.laid w) (fun _ _ _ hh h => h.of_heap hh) own started (by kernel_rfl) Tryd.func3
    (ChangeSpec.witness_shaped (enc := enc) (C := Tryd.checked) (os := os) (X := fun w _ => laidMetH Tryd.prog Rows.eventFlattensRow.laid w) false (World.laidAll Tryd.prog os Rows.eventFlattensRow.laid) #[.agg #[.int .i64 0, .bool false, .bool false, .string ⟨#[]⟩, .int .i64 0, .int .u64 0, .string ⟨#[]⟩, .slice none 0 0, .slice none 0 0]] 8 (World.laidAll_os _ _ _)
      (World.shaped_of_ZipB (by kernel_rfl) (by kernel_rfl)) (by kernel_rfl) (by kernel_rfl) (by kernel_rfl)
      (by rw [MakeChecks.laidMetH_plain _ _ _ (by kernel_rfl)]; exact laidMet_laidAll _ (by kernel_rfl) (by kernel_rfl))) ?_
  intro W base args ds gs before hval0 hW _ hsz0 hL _
  have hval : ∀ (j : Nat) t v, Tryd.f3.params[j]? = some t → args[j]? = some v → Value.okWide Tryd.prog W .any base t v := hval0
  have hsz : (DataW.weightsEach Tryd.prog (Tryd.f3.params.toList ++ Rows.eventFlattensSpec.plain.varTypes Tryd.prog) (ds ++ gs)).all (· ≤ reachBytes) = true := hsz0
  clear hsz0
  have hW' := hW
  have hltB := hW.lt
  obtain ⟨p, q, hA0, hV, rfl, _, _⟩ := hW
  have hA : DataW.TrodAll enc Tryd.prog W 0 (fun _ => true) true Tryd.f3.params.toList args.toList ds p := hA0
  rw [Tryd.params3] at hA hval hsz
  have hltA : ∀ x ∈ p, x.block < W.heap.size := fun x hx => hltB x (by simp [hx])
  obtain ⟨v0, d0, rfl, rfl, h0⟩ := trodAll_one hA
  obtain ⟨rfl, rfl⟩ := trodVars_none hV
  have hwt : ∀ k ∈ DataW.weightsEach Tryd.prog [29] [d0], k ≤ reachBytes := by
    have hvt : Rows.eventFlattensSpec.plain.varTypes Tryd.prog = [] := rfl
    rw [hvt, List.append_nil, List.append_nil] at hsz
    intro k hk
    simpa using List.all_eq_true.1 hsz k hk
  have hlt0 : ∀ x ∈ p, x.block < W.heap.size := fun x hx => hltA x (by simp [hx])
  obtain ⟨cs0, rfl, hsc0⟩ := okWide_struct Tryd.underlying29 (hval 0 29 v0 rfl rfl)
  obtain ⟨f0, hf0⟩ := h0
  obtain ⟨t0, ns0, ls0, hc0, hr0, hz0⟩ := open_v f0 (f0) (by omega) _ _ hf0 hlt0 (fun k hk => hwt k (by simp [DataW.weightsEach, hk]))
  have hq0 : cs0 = vals (vhd _ t0) ns0 ls0 := Array.toList_inj.1 hc0
  subst hq0
  clear hA0 hval0
  simp only [List.append_nil] at hW'
  refine (flattens_law (f0) t0 ns0 ls0 W hr0 hz0 (Ut.of_laid2 hL)).mono fun e W' ⟨he, hb⟩ => ?_
  subst he
  exact ⟨_, rfl, _, _, _, [], _, [], hW', trodAll_mk1 (shut_bool Tryd.underlying4 _), trodAll_mk1 (Below.trod laidOut (by kernel_rfl) (of_decide_eq_true (by kernel_rfl)) ⟨f0, hf0⟩ hb hlt0), rfl, hb.frame _, fun h => by cases h⟩
theorem eventFlattens_holds : Rows.EventFlattensSaid :=
  OpenClaim.holds_of_wide 3 Tryd.f3 rfl rfl rfl rfl rfl rfl rfl ⟨rfl, rfl, rfl, rfl, rfl⟩ rfl rfl rfl rfl rfl (by kernel_rfl) Tryd.func3 (by kernel_rfl)
    (of_decide_eq_true (by kernel_rfl)) (by unfold Func.isWrapper; first | (rw [if_pos (by decide +kernel)]; kernel_rfl) | (rw [if_neg (by decide +kernel)]; exact ⟨rfl, rfl⟩))
    (fun os started H enc _ => eventFlattens_lifted os started H enc)
theorem eventFlattens_card : Rows.EventFlattensCardSaid :=
  Claim7.holds_tied_plain_at .later [] [.wider, .data] true Rows.eventFlattensCard.stood.harness false
    eventFlattens_holds (fun _ h => by cases h) (by kernel_rfl) (fun _ h => by cases h) eventFlattens_row_tie rfl ⟨rfl, rfl⟩ (by kernel_rfl) rfl
    (fun f fn hf hfn => by
      obtain rfl : f = 3 := Option.some.inj ((show Tryd.prog.funcNamed Rows.eventFlattensRow.func = some 3 by kernel_rfl).symm.trans hf) |>.symm
      obtain rfl : fn = Tryd.f3 := (Option.some.inj (Tryd.func3.symm.trans hfn)).symm
      exact ⟨by kernel_rfl, fun j t ht => by
        rw [Tryd.params3] at ht
        have hm : t ∈ [29] := by simpa using Array.mem_of_getElem? ht
        have hall : ([29].all fun u => !Tryd.prog.wantsStandIn u) = true := by kernel_rfl
        exact (show Tryd.prog.wantsStandIn t = false by simpa using List.all_eq_true.1 hall t hm)⟩)
    (by kernel_rfl)
#print axioms eventFlattens_card
end Go.Proofs.YthbfopdeaknbkaaDoor
