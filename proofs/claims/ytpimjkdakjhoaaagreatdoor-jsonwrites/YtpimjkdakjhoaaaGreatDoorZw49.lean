/- Merged by program: MoWritesC. -/
import Derived.Test.YtpimjkdakjhoaaaGreatDoorZw45
import Derived.Test.YtpimjkdakjhoaaaGreatDoorZw48
import Derived.Test.YtpimjkdakjhoaaaGreatDoorCards
import Derived.Test.YtpimjkdakjhoaaaGreatDoorTie
namespace Go.Proofs.YtpimjkdakjhoaaaGreatDoor
set_option linter.unusedSimpArgs false
set_option linter.unusedVariables false
set_option maxHeartbeats 8000000
section
open Go.ChangeShapes Go.WideShapes Go.ChangeAt Go.RowKit Go.Joins Go.ChangeMaps
set_option maxRecDepth 100000 in
theorem jsonWrites_lifted (rck:RCk) (os:Os) (started:os.Started) (H:Type) (enc:TypeId×Value→H) :
  ReturnsInHanded {} Tryz.checked os 3 .any (fun w args=>(Rows.jsonWritesSpec.pre enc Tryz.prog Tryz.f3 [] false w args∧laidMetH Tryz.prog Rows.jsonWritesRow.laid w)∧sizedMet enc Tryz.prog Tryz.f3 (OpenSpec.ofChange Rows.jsonWritesSpec) false w args)
   (Rows.jsonWritesSpec.post enc Tryz.prog Tryz.f3 false true false false):=by
 refine returnsInHanded_of_change_and (C:=Tryz.checked) (X:=fun w _=>laidMetH Tryz.prog Rows.jsonWritesRow.laid w) (fun _ _ _ hh h=>h.of_heap hh) own started (by kernel_rfl) Tryz.func3
  (ChangeSpec.witness_shaped (enc:=enc) (C:=Tryz.checked) (os:=os) (X:=fun w _=>laidMetH Tryz.prog Rows.jsonWritesRow.laid w) false (World.laidAll Tryz.prog os Rows.jsonWritesRow.laid) #[.agg #[.int .i64 0,.bool false,.bool false,.string ⟨#[]⟩,.int .i64 0,.int .u64 0,.string ⟨#[]⟩,.slice none 0 0,.slice none 0 0]] 8 (World.laidAll_os _ _ _)
   (World.shaped_of_ZipB (by kernel_rfl) (by kernel_rfl)) (by kernel_rfl) (by kernel_rfl) (by kernel_rfl)
   (by rw [MakeChecks.laidMetH_plain _ _ _ (by kernel_rfl)];exact laidMet_laidAll _ (by kernel_rfl) (by kernel_rfl))) ?_
 intro W base args ds gs before hval0 hW _ hsz0 hL _
 have hval:∀ (j:Nat) t v,Tryz.f3.params[j]?=some t→args[j]?=some v→Value.okWide Tryz.prog W .any base t v:=hval0
 have hsz:(DataW.weightsEach Tryz.prog (Tryz.f3.params.toList++Rows.jsonWritesSpec.plain.varTypes Tryz.prog) (ds++gs)).all (·≤reachBytes)=true:=hsz0
 clear hsz0
 have hW':=hW
 have hltB:=hW.lt
 obtain ⟨p,q,hA0,hV,rfl,_,_⟩:=hW
 have hA:DataW.TrodAll enc Tryz.prog W 0 (fun _=>true) true Tryz.f3.params.toList args.toList ds p:=hA0
 rw [Tryz.params3] at hA hval hsz
 have hltA:∀ x∈p,x.block<W.heap.size:=fun x hx=>hltB x (by simp [hx])
 obtain ⟨v0,d0,rfl,rfl,h0⟩:=trodAll_one hA
 obtain ⟨rfl,rfl⟩:=trodVars_none hV
 have hwt:∀ k∈DataW.weightsEach Tryz.prog [29] [d0],k≤reachBytes:=by
  have hvt:Rows.jsonWritesSpec.plain.varTypes Tryz.prog=[]:=rfl
  rw [hvt,List.append_nil,List.append_nil] at hsz
  intro k hk
  simpa using List.all_eq_true.1 hsz k hk
 have hlt0:∀ x∈p,x.block<W.heap.size:=fun x hx=>hltA x (by simp [hx])
 obtain ⟨cs0,rfl,hsc0⟩:=okWide_struct Tryz.underlying29 (hval 0 29 v0 rfl rfl)
 obtain ⟨f0,hf0⟩:=h0
 obtain ⟨t0,ns0,ls0,hc0,hr0,hz0,hg0⟩:=open_g f0 (f0) (by omega) _ _ hf0 hlt0 (fun k hk=>hwt k (by simp [DataW.weightsEach,hk]))
 have hq0:cs0=vals (vhd _ t0) ns0 ls0:=Array.toList_inj.1 hc0
 subst hq0
 clear hA0 hval0
 simp only [List.append_nil] at hW'
 have G:=of_laid7 hL
 refine (writes_law rck (f0) t0 ns0 ls0 W hr0 hz0 hg0 G.gu G.tab G.sz).mono fun e W' ⟨he,hb⟩=>?_
 subst he
 exact ⟨_,rfl,_,_,_,[],_,[],hW',trodAll_mk1 (shut_bool Tryz.underlying4 _),trodAll_mk1 (Below.trod laidOut (by kernel_rfl) (of_decide_eq_true (by kernel_rfl)) ⟨f0,hf0⟩ hb hlt0),rfl,hb.frame _,fun h=>by cases h⟩
theorem jsonWrites_holds (rck:RCk):Rows.JsonWritesSaid :=
 OpenClaim.holds_of_wide 3 Tryz.f3 rfl rfl rfl rfl rfl rfl rfl ⟨rfl,rfl,rfl,rfl,rfl⟩ rfl rfl rfl rfl rfl (by kernel_rfl) Tryz.func3 (by kernel_rfl)
  (of_decide_eq_true (by kernel_rfl)) (by unfold Func.isWrapper;first|(rw [if_pos (by decide +kernel)];kernel_rfl)|(rw [if_neg (by decide +kernel)];exact ⟨rfl,rfl⟩))
  (fun os started H enc _=>jsonWrites_lifted rck os started H enc)
theorem jsonWrites_card0 (rck:RCk):Rows.JsonWritesCardSaid :=
 Claim7.holds_tied_plain_at .later [] [.data,.data,.data,.data,.wider,.data,.pinned] true Rows.jsonWritesCard.stood.harness true
  (jsonWrites_holds rck) (fun _ h=>by cases h) (by kernel_rfl) (fun _ h=>by cases h) jsonWrites_row_tie rfl ⟨rfl,rfl⟩ (by kernel_rfl) rfl
  (fun f fn hf hfn=>by
   obtain rfl:f=3:=Option.some.inj ((show Tryz.prog.funcNamed Rows.jsonWritesRow.func=some 3 by kernel_rfl).symm.trans hf) |>.symm
   obtain rfl:fn=Tryz.f3:=(Option.some.inj (Tryz.func3.symm.trans hfn)).symm
   exact ⟨by kernel_rfl,fun j t ht=>by
    rw [Tryz.params3] at ht
    have hm:t∈[29]:=by simpa using Array.mem_of_getElem? ht
    have hall:([29].all fun u=>!Tryz.prog.wantsStandIn u)=true:=by kernel_rfl
    exact (show Tryz.prog.wantsStandIn t=false by simpa using List.all_eq_true.1 hall t hm)⟩)
  (by kernel_rfl)
end
end Go.Proofs.YtpimjkdakjhoaaaGreatDoor
