/-
  calamuslaw10.XmlLists answers true for any two structs, and leaves them as they were: the document of a list of two is made of theirs, one behind the other.
  What it leans on: the listed package variables (utf's two, and those of Go's library) start as the program's text lays them (the card ties them; what is pinned is held against the form's constant), and what is handed in fits into memory (the form's own reach); nothing else is asked.
-/
import Derived.Test.YthodiandebahdaaGreatDoorZy42
import Derived.Test.YthodiandebahdaaGreatDoorZy45
import Derived.Test.YthodiandebahdaaGreatDoorZy48
import Derived.Test.YthodiandebahdaaGreatDoorCards
import Derived.Test.YthodiandebahdaaGreatDoorTie
namespace Go.Proofs.YthodiandebahdaaGreatDoor
open Go.ChangeShapes Go.WideShapes Go.ChangeAt Go.RowKit Go.Joins Go.ChangeMaps
set_option linter.unusedVariables false
set_option maxRecDepth 100000 in
theorem xmlLists_lifted (os : Os) (started : os.Started) (H : Type) (enc : TypeId × Value → H) :
    ReturnsInHanded {} Tryz.checked os 6 .any (fun w args => (Rows.xmlListsSpec.pre enc Tryz.prog Tryz.f6 [] false w args ∧ laidMetH Tryz.prog Rows.xmlListsRow.laid w) ∧ sizedMet enc Tryz.prog Tryz.f6 (OpenSpec.ofChange Rows.xmlListsSpec) false w args)
      (Rows.xmlListsSpec.post enc Tryz.prog Tryz.f6 false true false false) := by
  refine returnsInHanded_of_change_and (C := Tryz.checked) (X := fun w _ => laidMetH Tryz.prog Rows.xmlListsRow.laid w) (fun _ _ _ hh h => h.of_heap hh) own started (by kernel_rfl) Tryz.func6
    (ChangeSpec.witness_shaped (enc := enc) (C := Tryz.checked) (os := os) (X := fun w _ => laidMetH Tryz.prog Rows.xmlListsRow.laid w) false (World.laidAll Tryz.prog os Rows.xmlListsRow.laid) #[.agg #[.int .i64 0, .bool false, .bool false, .string ⟨#[]⟩, .int .i64 0, .int .u64 0, .string ⟨#[]⟩, .slice none 0 0, .slice none 0 0], .agg #[.int .i64 0, .bool false, .bool false, .string ⟨#[]⟩, .int .i64 0, .int .u64 0, .string ⟨#[]⟩, .slice none 0 0, .slice none 0 0]] 8 (World.laidAll_os _ _ _)
      (World.shaped_of_ZipB (by kernel_rfl) (by kernel_rfl)) (by kernel_rfl) (by kernel_rfl) (by kernel_rfl)
      (by rw [MakeChecks.laidMetH_plain _ _ _ (by kernel_rfl)]; exact laidMet_laidAll _ (by kernel_rfl) (by kernel_rfl))) ?_
  intro W base args ds gs before hval0 hW _ hsz0 hL _
  have hval : ∀ (j : Nat) t v, Tryz.f6.params[j]? = some t → args[j]? = some v → Value.okWide Tryz.prog W .any base t v := hval0
  have hsz : (DataW.weightsEach Tryz.prog (Tryz.f6.params.toList ++ Rows.xmlListsSpec.plain.varTypes Tryz.prog) (ds ++ gs)).all (· ≤ reachBytes) = true := hsz0
  clear hsz0
  have hW' := hW
  have hltB := hW.lt
  obtain ⟨p, q, hA0, hV, rfl, _, _⟩ := hW
  have hA : DataW.TrodAll enc Tryz.prog W 0 (fun _ => true) true Tryz.f6.params.toList args.toList ds p := hA0
  rw [Tryz.params6] at hA hval hsz
  have hltA : ∀ x ∈ p, x.block < W.heap.size := fun x hx => hltB x (by simp [hx])
  obtain ⟨v0, v1, d0, d1, p0, p1, rfl, rfl, rfl, h0, h1⟩ := trodAll_two hA
  obtain ⟨rfl, rfl⟩ := trodVars_none hV
  have hwt : ∀ k ∈ DataW.weightsEach Tryz.prog [29, 29] [d0, d1], k ≤ reachBytes := by
    have hvt : Rows.xmlListsSpec.plain.varTypes Tryz.prog = [] := rfl
    rw [hvt, List.append_nil, List.append_nil] at hsz
    intro k hk
    simpa using List.all_eq_true.1 hsz k hk
  have hlt0 : ∀ x ∈ p0, x.block < W.heap.size := fun x hx => hltA x (by simp [hx])
  obtain ⟨cs0, rfl, hsc0⟩ := okWide_struct Tryz.underlying29 (hval 0 29 v0 rfl rfl)
  obtain ⟨f0, hf0⟩ := h0
  have hlt1 : ∀ x ∈ p1, x.block < W.heap.size := fun x hx => hltA x (by simp [hx])
  obtain ⟨cs1, rfl, hsc1⟩ := okWide_struct Tryz.underlying29 (hval 1 29 v1 rfl rfl)
  obtain ⟨f1, hf1⟩ := h1
  obtain ⟨t0, ns0, ls0, hc0, hr0, hz0, hg0⟩ := open_g f0 (f0 + f1) (by omega) _ _ hf0 hlt0 (fun k hk => hwt k (by simp [DataW.weightsEach, hk]))
  have hq0 : cs0 = vals (vhd _ t0) ns0 ls0 := Array.toList_inj.1 hc0
  subst hq0
  obtain ⟨t1, ns1, ls1, hc1, hr1, hz1, hg1⟩ := open_g f1 (f0 + f1) (by omega) _ _ hf1 hlt1 (fun k hk => hwt k (by simp [DataW.weightsEach, hk]))
  have hq1 : cs1 = vals (vhd _ t1) ns1 ls1 := Array.toList_inj.1 hc1
  subst hq1
  clear hA0 hval0
  simp only [List.append_nil] at hW'
  have G := of_laid10s hL
  refine (xlists_full (f0 + f1) t0 t1 ns0 ls0 ns1 ls1 W hr0 hz0 hg0 hr1 hz1 hg1 G.gu G.tab G.gz).mono fun e W' ⟨he, hb⟩ => ?_
  subst he
  exact ⟨_, rfl, _, _, _, [], _, [], hW', trodAll_mk1 (shut_bool Tryz.underlying4 _), trodAll_mk2 (Below.trod laidOut (by kernel_rfl) (of_decide_eq_true (by kernel_rfl)) ⟨f0, hf0⟩ hb hlt0) (Below.trod laidOut (by kernel_rfl) (of_decide_eq_true (by kernel_rfl)) ⟨f1, hf1⟩ hb hlt1), rfl, hb.frame _, fun h => by cases h⟩
theorem xmlLists_holds : Rows.XmlListsSaid :=
  OpenClaim.holds_of_wide 6 Tryz.f6 rfl rfl rfl rfl rfl rfl rfl ⟨rfl, rfl, rfl, rfl, rfl⟩ rfl rfl rfl rfl rfl (by kernel_rfl) Tryz.func6 (by kernel_rfl)
    (of_decide_eq_true (by kernel_rfl)) (by unfold Func.isWrapper; first | (rw [if_pos (by decide +kernel)]; kernel_rfl) | (rw [if_neg (by decide +kernel)]; exact ⟨rfl, rfl⟩))
    (fun os started H enc _ => xmlLists_lifted os started H enc)
theorem xmlLists_card : Rows.XmlListsCardSaid :=
  Claim7.holds_tied_plain_at .later [] [.data, .data, .data, .wider, .data] true Rows.xmlListsCard.stood.harness true
    xmlLists_holds (fun _ h => by cases h) (by kernel_rfl) (fun _ h => by cases h) xmlLists_row_tie rfl ⟨rfl, rfl⟩ (by kernel_rfl) rfl
    (fun f fn hf hfn => by
      obtain rfl : f = 6 := Option.some.inj ((show Tryz.prog.funcNamed Rows.xmlListsRow.func = some 6 by kernel_rfl).symm.trans hf) |>.symm
      obtain rfl : fn = Tryz.f6 := (Option.some.inj (Tryz.func6.symm.trans hfn)).symm
      exact ⟨by kernel_rfl, fun j t ht => by
        rw [Tryz.params6] at ht
        have hm : t ∈ [29] := by simpa using Array.mem_of_getElem? ht
        have hall : ([29].all fun u => !Tryz.prog.wantsStandIn u) = true := by kernel_rfl
        exact (show Tryz.prog.wantsStandIn t = false by simpa using List.all_eq_true.1 hall t hm)⟩)
    (by kernel_rfl)
#print axioms xmlLists_card
end Go.Proofs.YthodiandebahdaaGreatDoor
