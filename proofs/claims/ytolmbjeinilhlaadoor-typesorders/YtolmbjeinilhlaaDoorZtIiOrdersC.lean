/-
  For any two structs as types: types.Sub and types.Join answer just what the document says of them, error and type alike.
  What it leans on: the package variables of utf and types start as the program's text lays them (the card ties them), and what is handed in fits into memory (the form's own reach); nothing else is asked.
-/
import Derived.Test.YtolmbjeinilhlaaDoorZtIiAll
import Derived.Test.YtolmbjeinilhlaaDoorZtIjJoin
import Derived.Test.YtolmbjeinilhlaaDoorZtWoOpen
import Derived.Test.YtolmbjeinilhlaaDoorZtIfOpenT
import Derived.Test.YtolmbjeinilhlaaDoorZtIgLaid3
import Derived.Test.YtolmbjeinilhlaaDoorCards
import Derived.Test.YtolmbjeinilhlaaDoorTie
import Derived.SevenTiedAt
namespace Go.Proofs.YtolmbjeinilhlaaDoor
open Go.ChangeShapes Go.WideShapes Go.ChangeAt Go.RowKit Go.Joins Go.ChangeMaps
set_option linter.unusedVariables false
set_option maxRecDepth 100000 in
theorem typesOrders_lifted (os : Os) (started : os.Started) (H : Type) (enc : TypeId × Value → H) :
    ReturnsInHanded {} Tryd.checked os 4 .any (fun w args => (Rows.typesOrdersSpec.pre enc Tryd.prog Tryd.f4 [] false w args ∧ laidMetH Tryd.prog Rows.typesOrdersRow.laid w) ∧ sizedMet enc Tryd.prog Tryd.f4 (OpenSpec.ofChange Rows.typesOrdersSpec) false w args)
      (Rows.typesOrdersSpec.post enc Tryd.prog Tryd.f4 false true false false) := by
  refine returnsInHanded_of_change_and (C := Tryd.checked) (X := fun w _ => laidMetH Tryd.prog Rows.typesOrdersRow.laid w) (fun _ _ _ hh h => h.of_heap hh) own started (by kernel_rfl) Tryd.func4
    (ChangeSpec.witness_shaped (enc := enc) (C := Tryd.checked) (os := os) (X := fun w _ => laidMetH Tryd.prog Rows.typesOrdersRow.laid w) false (World.laidAll Tryd.prog os Rows.typesOrdersRow.laid) #[.agg #[.int .i64 0, .slice none 0 0, .slice none 0 0], .agg #[.int .i64 0, .slice none 0 0, .slice none 0 0]] 8 (World.laidAll_os _ _ _)
      (World.shaped_of_ZipB (by kernel_rfl) (by kernel_rfl)) (by kernel_rfl) (by kernel_rfl) (by kernel_rfl)
      (by rw [MakeChecks.laidMetH_plain _ _ _ (by kernel_rfl)]; exact laidMet_laidAll _ (by kernel_rfl) (by kernel_rfl))) ?_
  intro W base args ds gs before hval0 hW _ hsz0 hL _
  have hval : ∀ (j : Nat) t v, Tryd.f4.params[j]? = some t → args[j]? = some v → Value.okWide Tryd.prog W .any base t v := hval0
  have hsz : (DataW.weightsEach Tryd.prog (Tryd.f4.params.toList ++ Rows.typesOrdersSpec.plain.varTypes Tryd.prog) (ds ++ gs)).all (· ≤ reachBytes) = true := hsz0
  clear hsz0
  have hW' := hW
  have hltB := hW.lt
  obtain ⟨p, q, hA0, hV, rfl, _, _⟩ := hW
  have hA : DataW.TrodAll enc Tryd.prog W 0 (fun _ => true) true Tryd.f4.params.toList args.toList ds p := hA0
  rw [Tryd.params4] at hA hval hsz
  have hltA : ∀ x ∈ p, x.block < W.heap.size := fun x hx => hltB x (by simp [hx])
  obtain ⟨v0, v1, d0, d1, p0, p1, rfl, rfl, rfl, h0, h1⟩ := trodAll_two hA
  obtain ⟨rfl, rfl⟩ := trodVars_none hV
  have hwt : ∀ k ∈ DataW.weightsEach Tryd.prog [26, 26] [d0, d1], k ≤ reachBytes := by
    have hvt : Rows.typesOrdersSpec.plain.varTypes Tryd.prog = [] := rfl
    rw [hvt, List.append_nil, List.append_nil] at hsz
    intro k hk
    simpa using List.all_eq_true.1 hsz k hk
  have hlt0 : ∀ x ∈ p0, x.block < W.heap.size := fun x hx => hltA x (by simp [hx])
  obtain ⟨cs0, rfl, hsc0⟩ := okWide_struct Tryd.underlying26 (hval 0 26 v0 rfl rfl)
  obtain ⟨f0, hf0⟩ := h0
  have hlt1 : ∀ x ∈ p1, x.block < W.heap.size := fun x hx => hltA x (by simp [hx])
  obtain ⟨cs1, rfl, hsc1⟩ := okWide_struct Tryd.underlying26 (hval 1 26 v1 rfl rfl)
  obtain ⟨f1, hf1⟩ := h1
  obtain ⟨t0, ns0, ls0, hc0, hr0, hz0⟩ := open_t f0 (f0 + f1) (by omega) _ _ hf0 hlt0 (fun k hk => hwt k (by simp [DataW.weightsEach, hk]))
  have hq0 : cs0 = tvs (thd _ t0) ns0 ls0 := Array.toList_inj.1 hc0
  subst hq0
  obtain ⟨t1, ns1, ls1, hc1, hr1, hz1⟩ := open_t f1 (f0 + f1) (by omega) _ _ hf1 hlt1 (fun k hk => hwt k (by simp [DataW.weightsEach, hk]))
  have hq1 : cs1 = tvs (thd _ t1) ns1 ls1 := Array.toList_inj.1 hc1
  subst hq1
  clear hA0 hval0
  simp only [List.append_nil] at hW'
  refine (torders_j joinOk (f0 + f1) t0 t1 ns0 ls0 ns1 ls1 W hr0 hz0 hr1 hz1 (laidMet_two hL).1 (laidMet_two hL).2).mono fun e W' ⟨he, hb⟩ => ?_
  subst he
  exact ⟨_, rfl, _, _, _, [], _, [], hW', trodAll_mk1 (shut_bool Tryd.underlying4 _), trodAll_mk2 (Below.trod laidOut (by kernel_rfl) (of_decide_eq_true (by kernel_rfl)) ⟨f0, hf0⟩ hb hlt0) (Below.trod laidOut (by kernel_rfl) (of_decide_eq_true (by kernel_rfl)) ⟨f1, hf1⟩ hb hlt1), rfl, hb.frame _, fun h => by cases h⟩
theorem typesOrders_holds : Rows.TypesOrdersSaid :=
  OpenClaim.holds_of_wide 4 Tryd.f4 rfl rfl rfl rfl rfl rfl rfl ⟨rfl, rfl, rfl, rfl, rfl⟩ rfl rfl rfl rfl rfl (by kernel_rfl) Tryd.func4 (by kernel_rfl)
    (of_decide_eq_true (by kernel_rfl)) (by unfold Func.isWrapper; first | (rw [if_pos (by decide +kernel)]; kernel_rfl) | (rw [if_neg (by decide +kernel)]; exact ⟨rfl, rfl⟩))
    (fun os started H enc _ => typesOrders_lifted os started H enc)
theorem typesOrders_card : Rows.TypesOrdersCardSaid :=
  Claim7.holds_tied_plain_at .later [] [.wider, .data, .data] true Rows.typesOrdersCard.stood.harness false
    typesOrders_holds (fun _ h => by cases h) (by kernel_rfl) (fun _ h => by cases h) typesOrders_row_tie rfl ⟨rfl, rfl⟩ (by kernel_rfl) rfl
    (fun f fn hf hfn => by
      obtain rfl : f = 4 := Option.some.inj ((show Tryd.prog.funcNamed Rows.typesOrdersRow.func = some 4 by kernel_rfl).symm.trans hf) |>.symm
      obtain rfl : fn = Tryd.f4 := (Option.some.inj (Tryd.func4.symm.trans hfn)).symm
      exact ⟨by kernel_rfl, fun j t ht => by
        rw [Tryd.params4] at ht
        have hm : t ∈ [26] := by simpa using Array.mem_of_getElem? ht
        have hall : ([26].all fun u => !Tryd.prog.wantsStandIn u) = true := by kernel_rfl
        exact (show Tryd.prog.wantsStandIn t = false by simpa using List.all_eq_true.1 hall t hm)⟩)
    (by kernel_rfl)
#print axioms typesOrders_card
end Go.Proofs.YtolmbjeinilhlaaDoor
