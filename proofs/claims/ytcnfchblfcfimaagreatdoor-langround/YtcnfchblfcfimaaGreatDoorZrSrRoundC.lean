/-
  calamuslaw14.LangRound answers true for any arguments, and leaves them as they were: what is printed of a mapping or a type is parsed as the same, and what is parsed, and printed, is parsed as the same once more.
  What it leans on: the listed package variables (lex's, lang's and utf's two each, types' one, and those of Go's own library) start as the program's text lays them (the card ties them; what is pinned is held against the form's constant); nothing else is asked.
-/
import Derived.Test.YtcnfchblfcfimaaGreatDoorZr43
import Derived.Test.YtcnfchblfcfimaaGreatDoorZr38
import Derived.Test.YtcnfchblfcfimaaGreatDoorZr44
import Derived.Test.YtcnfchblfcfimaaGreatDoorZr04
import Derived.Test.YtcnfchblfcfimaaGreatDoorCards
import Derived.Test.YtcnfchblfcfimaaGreatDoorTie
import Derived.SevenTiedAt
set_option linter.unusedSimpArgs false
set_option linter.unusedVariables false
namespace Go.Proofs.YtcnfchblfcfimaaGreatDoor
open Go.ChangeShapes Go.WideShapes Go.ChangeAt Go.RowKit Go.Joins Go.ChangeMaps
set_option maxRecDepth 100000 in
theorem langRound_lifted (os : Os) (started : os.Started) (H : Type) (enc : TypeId × Value → H) :
    ReturnsInHanded {} Tryz.checked os 6 .any (fun w args => (Rows.langRoundSpec.pre enc Tryz.prog Tryz.f6 [] false w args ∧ laidMetH Tryz.prog Rows.langRoundRow.laid w) ∧ sizedMet enc Tryz.prog Tryz.f6 (OpenSpec.ofChange Rows.langRoundSpec) false w args)
      (Rows.langRoundSpec.post enc Tryz.prog Tryz.f6 false true false false) := by
  refine returnsInHanded_of_change_and (C := Tryz.checked) (X := fun w _ => laidMetH Tryz.prog Rows.langRoundRow.laid w) (fun _ _ _ hh h => h.of_heap hh) own started (by kernel_rfl) Tryz.func6
    (ChangeSpec.witness_shaped (enc := enc) (C := Tryz.checked) (os := os) (X := fun w _ => laidMetH Tryz.prog Rows.langRoundRow.laid w) false (World.laidAll Tryz.prog os Rows.langRoundRow.laid) #[.agg #[.int .i64 0, .string ⟨#[]⟩, .slice none 0 0, .slice none 0 0, .int .i64 0, .bool false, .bool false, .string ⟨#[]⟩, .int .i64 0, .int .u64 0, .string ⟨#[]⟩, .slice none 0 0, .slice none 0 0], .agg #[.int .i64 0, .slice none 0 0, .slice none 0 0], .string ⟨#[]⟩] 8 (World.laidAll_os _ _ _)
      (World.shaped_of_ZipB (by kernel_rfl) (by kernel_rfl)) (by kernel_rfl) (by kernel_rfl) (by kernel_rfl)
      (by rw [MakeChecks.laidMetH_plain _ _ _ (by kernel_rfl)]; exact laidMet_laidAll _ (by kernel_rfl) (by kernel_rfl))) ?_
  intro W base args ds gs before hval0 hW _ hsz0 hL _
  have hval : ∀ (j : Nat) t v, Tryz.f6.params[j]? = some t → args[j]? = some v → Value.okWide Tryz.prog W .any base t v := hval0
  have hsz : (DataW.weightsEach Tryz.prog (Tryz.f6.params.toList ++ Rows.langRoundSpec.plain.varTypes Tryz.prog) (ds ++ gs)).all (· ≤ reachBytes) = true := hsz0
  clear hsz0
  have hW' := hW
  have hltB := hW.lt
  obtain ⟨p, q, hA0, hV, rfl, _, _⟩ := hW
  have hA : DataW.TrodAll enc Tryz.prog W 0 (fun _ => true) true Tryz.f6.params.toList args.toList ds p := hA0
  rw [Tryz.params6] at hA hval hsz
  have hltA : ∀ x ∈ p, x.block < W.heap.size := fun x hx => hltB x (by simp [hx])
  obtain ⟨v0, v1, v2, d0, d1, d2, p0, p1, p2, rfl, rfl, rfl, h0, h1, h2⟩ := trodAll_three hA
  obtain ⟨rfl, rfl⟩ := trodVars_none hV
  have hwt : ∀ k ∈ DataW.weightsEach Tryz.prog [33, 48, 9] [d0, d1, d2], k ≤ reachBytes := by
    have hvt : Rows.langRoundSpec.plain.varTypes Tryz.prog = [] := rfl
    rw [hvt, List.append_nil, List.append_nil] at hsz
    intro k hk
    simpa using List.all_eq_true.1 hsz k hk
  have hlt0 : ∀ x ∈ p0, x.block < W.heap.size := fun x hx => hltA x (by simp [hx])
  obtain ⟨cs0, rfl, hsc0⟩ := okWide_struct Tryz.underlying33 (hval 0 33 v0 rfl rfl)
  obtain ⟨f0, hf0⟩ := h0
  obtain ⟨t0, q0, hc0, hr0, hz0⟩ := Lx.open_ex f0 f0 (by omega) _ _ hf0 hlt0 (fun k hk => hwt k (by simp [DataW.weightsEach, hk]))
  have hq0 : cs0 = Lx.ecl (Lx.ehd _ t0) q0 := Array.toList_inj.1 hc0
  subst hq0
  have hlt1 : ∀ x ∈ p1, x.block < W.heap.size := fun x hx => hltA x (by simp [hx])
  obtain ⟨cs1, rfl, hsc1⟩ := okWide_struct Tryz.underlying48 (hval 1 48 v1 rfl rfl)
  obtain ⟨f1, hf1⟩ := h1
  obtain ⟨t1, ns1, ls1, hc1, hr1, hz1⟩ := open_t f1 f1 (by omega) _ _ hf1 hlt1 (fun k hk => hwt k (by simp [DataW.weightsEach, hk]))
  have hq1 : cs1 = Lx.tcl (thd _ t1) ⟨ns1, ls1⟩ := Array.toList_inj.1 hc1
  subst hq1
  obtain ⟨s2, rfl, rfl, rfl, hs2⟩ := open_string Tryz.underlying9 (hval 2 9 v2 rfl rfl) h2
  clear hA0 hval0
  simp only [List.append_nil] at hW'
  refine (Lx.lround_any (fun s w h => parse_any s w h) f0 t0 q0 f1 t1 ⟨ns1, ls1⟩ s2 W (of_laid14 hL) hr0 hz0 hr1 hz1 hs2).mono fun e W' ⟨he, hb⟩ => ?_
  subst he
  exact ⟨_, rfl, _, _, _, [], _, [], hW', trodAll_mk1 (shut_bool Tryz.underlying4 _), trodAll_mk3 (Below.trod laidOut (by kernel_rfl) (of_decide_eq_true (by kernel_rfl)) ⟨f0, hf0⟩ hb hlt0) (Below.trod laidOut (by kernel_rfl) (of_decide_eq_true (by kernel_rfl)) ⟨f1, hf1⟩ hb hlt1) (shut_string Tryz.underlying9 hs2), rfl, hb.frame _, fun h => by cases h⟩
theorem langRound_holds : Rows.LangRoundSaid :=
  OpenClaim.holds_of_wide 6 Tryz.f6 rfl rfl rfl rfl rfl rfl rfl ⟨rfl, rfl, rfl, rfl, rfl⟩ rfl rfl rfl rfl rfl (by kernel_rfl) Tryz.func6 (by kernel_rfl)
    (of_decide_eq_true (by kernel_rfl)) (by unfold Func.isWrapper; first | (rw [if_pos (by decide +kernel)]; kernel_rfl) | (rw [if_neg (by decide +kernel)]; exact ⟨rfl, rfl⟩))
    (fun os started H enc _ => langRound_lifted os started H enc)
theorem langRound_card : Rows.LangRoundCardSaid :=
  Claim7.holds_tied_plain_at .later [] [.data, .data, .data, .data, .sentinel, .sentinel, .wider, .data, .data, .data, .data, .data, .data, .pinned] true Rows.langRoundCard.stood.harness true
    langRound_holds (fun _ h => by cases h) (by kernel_rfl) (fun _ h => by cases h) langRound_row_tie rfl ⟨rfl, rfl⟩ (by kernel_rfl) rfl
    (fun f fn hf hfn => by
      obtain rfl : f = 6 := Option.some.inj ((show Tryz.prog.funcNamed Rows.langRoundRow.func = some 6 by kernel_rfl).symm.trans hf) |>.symm
      obtain rfl : fn = Tryz.f6 := (Option.some.inj (Tryz.func6.symm.trans hfn)).symm
      exact ⟨by kernel_rfl, fun j t ht => by
        rw [Tryz.params6] at ht
        have hm : t ∈ [33, 48, 9] := by simpa using Array.mem_of_getElem? ht
        have hall : ([33, 48, 9].all fun u => !Tryz.prog.wantsStandIn u) = true := by kernel_rfl
        exact (show Tryz.prog.wantsStandIn t = false by simpa using List.all_eq_true.1 hall t hm)⟩)
    (by kernel_rfl)
#print axioms langRound_card
end Go.Proofs.YtcnfchblfcfimaaGreatDoor
