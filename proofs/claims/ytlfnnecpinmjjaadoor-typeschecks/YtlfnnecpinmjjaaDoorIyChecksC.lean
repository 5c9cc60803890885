/-
  For any struct as a type and any struct as a value: types.Check says just what the document says of the type, types.Has just what it says of both, and what is handed in stays.
  What it leans on: the package variables of utf and types start as the program's text lays them (the card ties them), and what is handed in fits into memory (the form's own reach); nothing else is asked.
-/
import Derived.Test.YtlfnnecpinmjjaaDoorIzM
import Derived.Test.YtlfnnecpinmjjaaDoorIwOpenM
import Derived.Test.YtlfnnecpinmjjaaDoorCards
import Derived.Test.YtlfnnecpinmjjaaDoorTie
import Derived.SevenTiedAt
namespace Go.Proofs.YtlfnnecpinmjjaaDoor
open Go.ChangeShapes Go.WideShapes Go.ChangeAt Go.RowKit Go.Joins Go.ChangeMaps
set_option linter.unusedVariables false
set_option maxRecDepth 100000 in
theorem typesChecks_lifted (os : Os) (started : os.Started) (H : Type) (enc : TypeId × Value → H) :
    ReturnsInHanded {} Tryd.checked os 3 .any (fun w args => (Rows.typesChecksSpec.pre enc Tryd.prog Tryd.f3 [] false w args ∧ laidMetH Tryd.prog Rows.typesChecksRow.laid w) ∧ sizedMet enc Tryd.prog Tryd.f3 (OpenSpec.ofChange Rows.typesChecksSpec) false w args)
      (Rows.typesChecksSpec.post enc Tryd.prog Tryd.f3 false true false false) := by
  refine returnsInHanded_of_change_and (C := Tryd.checked) (X := fun w _ => laidMetH Tryd.prog Rows.typesChecksRow.laid w) (fun _ _ _ hh h => h.of_heap hh) own started (by kernel_rfl) Tryd.func3
    (ChangeSpec.witness_shaped (enc := enc) (C := Tryd.checked) (os := os) (X := fun w _ => laidMetH Tryd.prog Rows.typesChecksRow.laid w) false (World.laidAll Tryd.prog os Rows.typesChecksRow.laid) #[.agg #[.int .i64 0, .slice none 0 0, .slice none 0 0], .agg #[.int .i64 0, .bool false, .bool false, .string ⟨#[]⟩, .int .i64 0, .int .u64 0, .string ⟨#[]⟩, .slice none 0 0, .slice none 0 0]] 8 (World.laidAll_os _ _ _)
      (World.shaped_of_ZipB (by kernel_rfl) (by kernel_rfl)) (by kernel_rfl) (by kernel_rfl) (by kernel_rfl)
      (by rw [MakeChecks.laidMetH_plain _ _ _ (by kernel_rfl)]; exact laidMet_laidAll _ (by kernel_rfl) (by kernel_rfl))) ?_
  intro W base args ds gs before hval0 hW _ hsz0 hL _
  have hval : ∀ (j : Nat) t v, Tryd.f3.params[j]? = some t → args[j]? = some v → Value.okWide Tryd.prog W .any base t v := hval0
  have hsz : (DataW.weightsEach Tryd.prog (Tryd.f3.params.toList ++ Rows.typesChecksSpec.plain.varTypes Tryd.prog) (ds ++ gs)).all (· ≤ reachBytes) = true := hsz0
  clear hsz0
  have hW' := hW
  have hltB := hW.lt
  obtain ⟨p, q, hA0, hV, rfl, _, _⟩ := hW
  have hA : DataW.TrodAll enc Tryd.prog W 0 (fun _ => true) true Tryd.f3.params.toList args.toList ds p := hA0
  rw [Tryd.params3] at hA hval hsz
  have hltA : ∀ x ∈ p, x.block < W.heap.size := fun x hx => hltB x (by simp [hx])
  obtain ⟨v0, v1, d0, d1, p0, p1, rfl, rfl, rfl, h0, h1⟩ := trodAll_two hA
  obtain ⟨rfl, rfl⟩ := trodVars_none hV
  have hwt : ∀ k ∈ DataW.weightsEach Tryd.prog [26, 33] [d0, d1], k ≤ reachBytes := by
    have hvt : Rows.typesChecksSpec.plain.varTypes Tryd.prog = [] := rfl
    rw [hvt, List.append_nil, List.append_nil] at hsz
    intro k hk
    simpa using List.all_eq_true.1 hsz k hk
  have hlt0 : ∀ x ∈ p0, x.block < W.heap.size := fun x hx => hltA x (by simp [hx])
  obtain ⟨cs0, rfl, hsc0⟩ := okWide_struct Tryd.underlying26 (hval 0 26 v0 rfl rfl)
  obtain ⟨f0, hf0⟩ := h0
  have hlt1 : ∀ x ∈ p1, x.block < W.heap.size := fun x hx => hltA x (by simp [hx])
  obtain ⟨cs1, rfl, hsc1⟩ := okWide_struct Tryd.underlying33 (hval 1 33 v1 rfl rfl)
  obtain ⟨f1, hf1⟩ := h1
  obtain ⟨t0, ns0, ls0, hc0, hr0, hz0⟩ := open_t f0 (f0) (by omega) _ _ hf0 hlt0 (fun k hk => hwt k (by simp [DataW.weightsEach, hk]))
  have hq0 : cs0 = tvs (thd _ t0) ns0 ls0 := Array.toList_inj.1 hc0
  subst hq0
  obtain ⟨t1, ns1, ls1, hc1, hr1, hz1⟩ := open_v f1 (f1) (by omega) _ _ hf1 hlt1 (fun k hk => hwt k (by simp [DataW.weightsEach, hk]))
  have hq1 : cs1 = vals (vhd _ t1) ns1 ls1 := Array.toList_inj.1 hc1
  subst hq1
  clear hA0 hval0
  simp only [List.append_nil] at hW'
  refine (tchecks_law joinOk (f0) t0 (f1) t1 ns0 ls0 ns1 ls1 W hr0 hz0 hr1 hz1 (laidMet_two hL).1 (laidMet_two hL).2).mono fun e W' ⟨he, hb⟩ => ?_
  subst he
  exact ⟨_, rfl, _, _, _, [], _, [], hW', trodAll_mk1 (shut_bool Tryd.underlying4 _), trodAll_mk2 (Below.trod laidOut (by kernel_rfl) (of_decide_eq_true (by kernel_rfl)) ⟨f0, hf0⟩ hb hlt0) (Below.trod laidOut (by kernel_rfl) (of_decide_eq_true (by kernel_rfl)) ⟨f1, hf1⟩ hb hlt1), rfl, hb.frame _, fun h => by cases h⟩
theorem typesChecks_holds : Rows.TypesChecksSaid :=
  OpenClaim.holds_of_wide 3 Tryd.f3 rfl rfl rfl rfl rfl rfl rfl ⟨rfl, rfl, rfl, rfl, rfl⟩ rfl rfl rfl rfl rfl (by kernel_rfl) Tryd.func3 (by kernel_rfl)
    (of_decide_eq_true (by kernel_rfl)) (by unfold Func.isWrapper; first | (rw [if_pos (by decide +kernel)]; kernel_rfl) | (rw [if_neg (by decide +kernel)]; exact ⟨rfl, rfl⟩))
    (fun os started H enc _ => typesChecks_lifted os started H enc)
theorem typesChecks_card : Rows.TypesChecksCardSaid :=
  Claim7.holds_tied_plain_at .later [] [.wider, .data, .data] true Rows.typesChecksCard.stood.harness false
    typesChecks_holds (fun _ h => by cases h) (by kernel_rfl) (fun _ h => by cases h) typesChecks_row_tie rfl ⟨rfl, rfl⟩ (by kernel_rfl) rfl
    (fun f fn hf hfn => by
      obtain rfl : f = 3 := Option.some.inj ((show Tryd.prog.funcNamed Rows.typesChecksRow.func = some 3 by kernel_rfl).symm.trans hf) |>.symm
      obtain rfl : fn = Tryd.f3 := (Option.some.inj (Tryd.func3.symm.trans hfn)).symm
      exact ⟨by kernel_rfl, fun j t ht => by
        rw [Tryd.params3] at ht
        have hm : t ∈ [26, 33] := by simpa using Array.mem_of_getElem? ht
        have hall : ([26, 33].all fun u => !Tryd.prog.wantsStandIn u) = true := by kernel_rfl
        exact (show Tryd.prog.wantsStandIn t = false by simpa using List.all_eq_true.1 hall t hm)⟩)
    (by kernel_rfl)
#print axioms typesChecks_card
end Go.Proofs.YtlfnnecpinmjjaaDoor
