import Derived.Test.YtcnfchblfcfimaaGreatDoorZh45
import Derived.Test.YtcnfchblfcfimaaGreatDoorCards
import Derived.Test.YtcnfchblfcfimaaGreatDoorTie
set_option linter.all false
set_option maxRecDepth 100000
namespace Go.Proofs.YtcnfchblfcfimaaGreatDoor
open Go.ChangeShapes Go.WideShapes Go.ChangeAt Go.RowKit Go.Joins Go.ChangeMaps
theorem langPrints_lifted(os:Os)(started:os.Started)(H:Type)(enc:TypeId×Value->H):ReturnsInHanded {} Tryz.checked os 4 .any (fun w args=>(Rows.langPrintsSpec.pre enc Tryz.prog Tryz.f4 [] false w args/\laidMetH Tryz.prog Rows.langPrintsRow.laid w)/\sizedMet enc Tryz.prog Tryz.f4 (OpenSpec.ofChange Rows.langPrintsSpec) false w args)
   (Rows.langPrintsSpec.post enc Tryz.prog Tryz.f4 false true false false):=by
 refine returnsInHanded_of_change_and (C:=Tryz.checked) (X:=fun w _=>laidMetH Tryz.prog Rows.langPrintsRow.laid w) (fun _ _ _ hh h=>h.of_heap hh) Vm started (by kernel_rfl) Tryz.func4
  (ChangeSpec.witness_shaped (enc:=enc) (C:=Tryz.checked) (os:=os) (X:=fun w _=>laidMetH Tryz.prog Rows.langPrintsRow.laid w) false (World.laidAll Tryz.prog os Rows.langPrintsRow.laid) #[.agg #[.int .i64 0,.string ⟨#[]⟩,.slice none 0 0,.slice none 0 0,.int .i64 0,.bool false,.bool false,.string ⟨#[]⟩,.int .i64 0,.int .u64 0,.string ⟨#[]⟩,.slice none 0 0,.slice none 0 0]] 8 (World.laidAll_os _ _ _)
   (World.shaped_of_ZipB (by kernel_rfl) (by kernel_rfl)) (by kernel_rfl) (by kernel_rfl) (by kernel_rfl)
   (by rw[MakeChecks.laidMetH_plain _ _ _ (by kernel_rfl)];exact laidMet_laidAll _ (by kernel_rfl) (by kernel_rfl))) ?_
 intro W base args ds gs before Ju hW _ Pk hL _;have fZ:∀(j:Nat) t v,Tryz.f4.params[j]?=some t->args[j]?=some v->Value.okWide Tryz.prog W .any base t v:=Ju;have cC:(DataW.weightsEach Tryz.prog (Tryz.f4.params.toList++Rows.langPrintsSpec.plain.varTypes Tryz.prog) (ds++gs)).all (·<=reachBytes)=true:=Pk
 clear Pk;have UB:=hW;have SJ:=hW.lt;obtain⟨p,q,ND,hV,rfl,_,_⟩:=hW;have hA:DataW.TrodAll enc Tryz.prog W 0 (fun _=>true) true Tryz.f4.params.toList args.toList ds p:=ND;rw[Tryz.params4]at hA fZ cC;have SK:∀x∈p,x.block<W.heap.size:=fun x hx=>SJ x (by simp[hx]);obtain⟨v0,d0,rfl,rfl,h0⟩:=trodAll_one hA;obtain⟨rfl,rfl⟩:=trodVars_none hV;have sJ:∀k∈DataW.weightsEach Tryz.prog [33] [d0],k<=reachBytes:=by
  have QU:Rows.langPrintsSpec.plain.varTypes Tryz.prog=[]:=rfl;rw[QU,List.append_nil,List.append_nil]at cC;intro k hk
  simpa using List.all_eq_true.1 cC k hk
 have PG:∀x∈p,x.block<W.heap.size:=fun x hx=>SK x (by simp[hx]);obtain⟨cs0,rfl,VK⟩:=okWide_struct Tryz.underlying33 (fZ 0 33 v0 rfl rfl);obtain⟨f0,vj⟩:=h0;obtain⟨t0,q0,iY,QX,fY⟩:=Lx.open_ex f0 f0 (by omega) _ _ vj PG (fun k hk=>sJ k (by simp[DataW.weightsEach,hk]));have kX:cs0=Lx.ecl (Lx.ehd _ t0) q0:=Array.toList_inj.1 iY;subst kX;clear ND Ju;simp only[List.append_nil]at UB;refine(Lx.prints_any (fun s w h=>nO s w h) f0 t0 q0 W (AA hL) QX fY).mono fun e W' ⟨he,hb⟩=>?_;subst he;exact⟨_,rfl,_,_,_,[],_,[],UB,trodAll_mk1 (shut_bool Tryz.underlying4 _),trodAll_mk1 (Below.trod Hm (by kernel_rfl) (of_decide_eq_true (by kernel_rfl)) ⟨f0,vj⟩ hb PG),rfl,hb.frame _,fun h=>by cases h⟩
theorem langPrints_holds:Rows.LangPrintsSaid :=
 OpenClaim.holds_of_wide 4 Tryz.f4 rfl rfl rfl rfl rfl rfl rfl ⟨rfl,rfl,rfl,rfl,rfl⟩ rfl rfl rfl rfl rfl (by kernel_rfl) Tryz.func4 (by kernel_rfl)
  (of_decide_eq_true (by kernel_rfl)) (by unfold Func.isWrapper;first|(rw[if_pos (by decide +kernel)];kernel_rfl)|(rw[if_neg (by decide +kernel)];exact⟨rfl,rfl⟩))
  (fun os started H enc _=>langPrints_lifted os started H enc)
theorem langPrints_card:Rows.LangPrintsCardSaid :=
 Claim7.holds_tied_plain_at .later [] [.data,.data,.data,.data,.sentinel,.sentinel,.wider,.data,.data,.data,.data,.data,.data,.pinned] true Rows.langPrintsCard.stood.harness true
  langPrints_holds (fun _ h=>by cases h) (by kernel_rfl) (fun _ h=>by cases h) langPrints_row_tie rfl ⟨rfl,rfl⟩ (by kernel_rfl) rfl
  (fun f fn hf Wv=>by
   obtain rfl:f=4:=Option.some.inj ((show Tryz.prog.funcNamed Rows.langPrintsRow.func=some 4 by kernel_rfl).symm.trans hf) |>.symm
   obtain rfl:fn=Tryz.f4:=(Option.some.inj (Tryz.func4.symm.trans Wv)).symm;exact⟨by kernel_rfl,fun j t ht=>by
    rw[Tryz.params4]at ht;have hm:t∈[33]:=by simpa using Array.mem_of_getElem? ht
    have dU:([33].all fun u=>!Tryz.prog.wantsStandIn u)=true:=by kernel_rfl
    exact(show Tryz.prog.wantsStandIn t=false by simpa using List.all_eq_true.1 dU t hm)⟩)
  (by kernel_rfl)
#print axioms langPrints_card
end Go.Proofs.YtcnfchblfcfimaaGreatDoor
