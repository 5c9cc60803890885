/- Merged by program: DxLaid, BzLaid, LvWritesC. -/
import Derived.Test.YthodiandebahdaaGreatDoorUZq48
import Derived.Stop.LaidErr
import Derived.PinnedBridge
import Derived.Test.YthodiandebahdaaGreatDoorZq46
import Derived.Test.YthodiandebahdaaGreatDoorZq49
import Derived.Test.YthodiandebahdaaGreatDoorCards
import Derived.Test.YthodiandebahdaaGreatDoorTie
namespace Go.Proofs.YthodiandebahdaaGreatDoor
set_option linter.unusedSimpArgs false
set_option linter.unusedVariables false
set_option maxHeartbeats 8000000
section
open Go.ChangeShapes Go.WideShapes Go.ChangeAt Go.RowKit Go.Joins
set_option maxRecDepth 100000
theorem laidMet_tail {P:Program} {x:String×DataW Unit} {rest:List (String×DataW Unit)} {W:World} (h:laidMet P (x :: rest) W):laidMet P rest W:=by
 obtain ⟨ps,⟨g,t,cs,f,p,q,h1,h2,h3,h4,h5,h6⟩,hn,hall⟩:=h
 subst h6
 exact ⟨q,h5,(List.nodup_append.1 hn).2.1,fun b off hm=>hall b off (List.mem_append_right _ hm)⟩
theorem gP : Tryz.prog.globalNamed "internal/strconv.uint64pow10" = some 2 := by kernel_rfl
theorem gPT:(Tryz.prog.globals[2]?).map (·.type)=some 186:=by kernel_rfl
theorem gZ : Tryz.prog.globalNamed "math/bits.deBruijn64tab" = some 7 := by kernel_rfl
theorem gZT:(Tryz.prog.globals[7]?).map (·.type)=some 224:=by kernel_rfl
def zTab:List Int:=[0,1,56,2,57,49,28,3,61,58,42,50,38,29,17,4,62,47,59,36,45,43,51,22,53,39,33,30,24,18,12,5,63,55,48,27,60,41,37,16,46,35,44,21,52,32,23,11,54,26,40,15,34,20,31,10,25,14,19,9,13,8,7,6]
end
section
open Go.ChangeShapes Go.WideShapes Go.ChangeAt Go.RowKit Go.Joins
set_option maxRecDepth 100000
def laid10s : List (String × DataW Unit) := [("math/bits.deBruijn32tab", Rows.laid_math_bits_deBruijn32tab), ("math/bits.deBruijn64tab", Rows.laid_math_bits_deBruijn64tab), ("internal/strconv.uint64pow10", Rows.laid_internal_strconv_uint64pow10), ("calamus/utf.between", Rows.laid_calamus_utf_between), ("calamus/utf.longer", Rows.laid_calamus_utf_longer)]
structure Gs10 (W:World):Prop where
 gu:Ut.Gu W
 tab:Tab W.heap.size W
 gz:Gz W
theorem of_laid10s {W:World} (h:laidMetH Tryz.prog laid10s W):Gs10 W:=by
 rw [MakeChecks.laidMetH_plain _ _ _ (by kernel_rfl)] at h
 have ht : Lib.TabIs Tryz.prog W "internal/strconv.uint64pow10" .u64 Lib.pow10Tab := Lib.tabIs_of_head gP gPT Tryz.underlying186 Tryz.underlying25 (by kernel_rfl) (by kernel_rfl) (laidMet_tail (laidMet_tail h))
 have hz : Lib.TabIs Tryz.prog W "math/bits.deBruijn64tab" .u8 zTab := Lib.tabIs_of_head gZ gZT Tryz.underlying224 Tryz.underlying5 (by kernel_rfl) (by kernel_rfl) (laidMet_tail h)
 have r1:=Lib.laidMet.reads h (.tail _ (.tail _ (.tail _ (.head _))))
 have r2:=Lib.laidMet.reads h (.tail _ (.tail _ (.tail _ (.tail _ (.head _)))))
 obtain ⟨g1,t1,cs1,f1,p1,hg1,ht1,hv1,hd1⟩:=r1
 obtain ⟨g2,t2,cs2,f2,p2,hg2,ht2,hv2,hd2⟩:=r2
 obtain rfl := Option.some.inj ((show Tryz.prog.globalNamed "calamus/utf.between" = some 1 by kernel_rfl).symm.trans hg1)
 obtain rfl := Option.some.inj ((show Tryz.prog.globalNamed "calamus/utf.longer" = some 5 by kernel_rfl).symm.trans hg2)
 obtain rfl:=Option.some.inj ((show Option.map (fun x=>x.type) Tryz.prog.globals[1]?=some 159 by kernel_rfl).symm.trans ht1)
 obtain rfl:=Option.some.inj ((show Option.map (fun x=>x.type) Tryz.prog.globals[5]?=some 208 by kernel_rfl).symm.trans ht2)
 have e1:=Ut.spans_cells hd1
 have e2:=Ut.longer_cells hd2
 obtain ⟨t,fr,q1⟩:=Ut.heap_of_var hg1 hv1
 obtain ⟨t',fr',q2⟩:=Ut.heap_of_var hg2 hv2
 have hc1:cs1=#[.int .u8 0,.int .u8 0,.int .u8 0,.int .u8 0,.int .u8 0,.int .u8 0,.int .u8 0,.int .u8 0]:=Array.toList_inj.1 e1
 have hc2:cs2=Ut.lgC:=Array.toList_inj.1 e2
 rw [hc1] at q1
 rw [hc2] at q2
 obtain ⟨tz,fz,qz⟩:=Ut.heap_of_var gZ hz
 refine ⟨⟨⟨t,fr,q1⟩,⟨t',fr',q2⟩⟩,fun W' hW=>?_,⟨_,tz,fz,qz,rfl⟩⟩
 exact tab_stays gP ht hW (Nat.le_refl _)
end
section
open Go.ChangeShapes Go.WideShapes Go.ChangeAt Go.RowKit Go.Joins Go.ChangeMaps
set_option maxRecDepth 100000 in
theorem xmlWrites_lifted (rck:RCk)(os:Os)(started:os.Started)(H:Type)(enc:TypeId×Value→H) :
  ReturnsInHanded {} Tryz.checked os 3 .any (fun w args=>(Rows.xmlWritesSpec.pre enc Tryz.prog Tryz.f3 [] false w args∧laidMetH Tryz.prog Rows.xmlWritesRow.laid w)∧sizedMet enc Tryz.prog Tryz.f3 (OpenSpec.ofChange Rows.xmlWritesSpec) false w args)
   (Rows.xmlWritesSpec.post enc Tryz.prog Tryz.f3 false true false false):=by
 refine returnsInHanded_of_change_and (C:=Tryz.checked) (X:=fun w _=>laidMetH Tryz.prog Rows.xmlWritesRow.laid w) (fun _ _ _ hh h=>h.of_heap hh) own started (by kernel_rfl) Tryz.func3
  (ChangeSpec.witness_shaped (enc:=enc) (C:=Tryz.checked) (os:=os) (X:=fun w _=>laidMetH Tryz.prog Rows.xmlWritesRow.laid w) false (World.laidAll Tryz.prog os Rows.xmlWritesRow.laid) #[.agg #[.int .i64 0,.bool false,.bool false,.string ⟨#[]⟩,.int .i64 0,.int .u64 0,.string ⟨#[]⟩,.slice none 0 0,.slice none 0 0]] 8 (World.laidAll_os _ _ _)
   (World.shaped_of_ZipB (by kernel_rfl) (by kernel_rfl)) (by kernel_rfl) (by kernel_rfl) (by kernel_rfl)
   (by rw [MakeChecks.laidMetH_plain _ _ _ (by kernel_rfl)];exact laidMet_laidAll _ (by kernel_rfl) (by kernel_rfl))) ?_
 intro W base args ds gs before hval0 hW _ hsz0 hL _
 have hval:∀ (j:Nat) t v,Tryz.f3.params[j]?=some t→args[j]?=some v→Value.okWide Tryz.prog W .any base t v:=hval0
 have hsz:(DataW.weightsEach Tryz.prog (Tryz.f3.params.toList++Rows.xmlWritesSpec.plain.varTypes Tryz.prog) (ds++gs)).all (·≤reachBytes)=true:=hsz0
 clear hsz0
 have hW':=hW
 have hltB:=hW.lt
 obtain ⟨p,q,hA0,hV,rfl,_,_⟩:=hW
 have hA:DataW.TrodAll enc Tryz.prog W 0 (fun _=>true) true Tryz.f3.params.toList args.toList ds p:=hA0
 rw [Tryz.params3] at hA hval hsz
 have hltA:∀ x∈p,x.block<W.heap.size:=fun x hx=>hltB x (by simp [hx])
 obtain ⟨v0,d0,rfl,rfl,h0⟩:=trodAll_one hA
 obtain ⟨rfl,rfl⟩:=trodVars_none hV
 have hwt:∀ k∈DataW.weightsEach Tryz.prog [29] [d0],k≤reachBytes:=by
  have hvt:Rows.xmlWritesSpec.plain.varTypes Tryz.prog=[]:=rfl
  rw [hvt,List.append_nil,List.append_nil] at hsz
  intro k hk
  simpa using List.all_eq_true.1 hsz k hk
 have hlt0:∀ x∈p,x.block<W.heap.size:=fun x hx=>hltA x (by simp [hx])
 obtain ⟨cs0,rfl,hsc0⟩:=okWide_struct Tryz.underlying29 (hval 0 29 v0 rfl rfl)
 obtain ⟨f0,hf0⟩:=h0
 obtain ⟨t0,ns0,ls0,hc0,hr0,hz0,hg0⟩:=open_g f0 (f0) (by omega) _ _ hf0 hlt0 (fun k hk=>hwt k (by simp [DataW.weightsEach,hk]))
 have hq0:cs0=vals (vhd _ t0) ns0 ls0:=Array.toList_inj.1 hc0
 subst hq0
 clear hA0 hval0
 simp only [List.append_nil] at hW'
 have G:=of_laid10s hL
 refine (writes_law rck (f0) t0 ns0 ls0 W hr0 hz0 hg0 G.gu G.tab G.gz).mono fun e W' ⟨he,hb⟩=>?_
 subst he
 exact ⟨_,rfl,_,_,_,[],_,[],hW',trodAll_mk1 (shut_bool Tryz.underlying4 _),trodAll_mk1 (Below.trod laidOut (by kernel_rfl) (of_decide_eq_true (by kernel_rfl)) ⟨f0,hf0⟩ hb hlt0),rfl,hb.frame _,fun h=>by cases h⟩
theorem xmlWrites_holds (rck:RCk):Rows.XmlWritesSaid :=
 OpenClaim.holds_of_wide 3 Tryz.f3 rfl rfl rfl rfl rfl rfl rfl ⟨rfl,rfl,rfl,rfl,rfl⟩ rfl rfl rfl rfl rfl (by kernel_rfl) Tryz.func3 (by kernel_rfl)
  (of_decide_eq_true (by kernel_rfl)) (by unfold Func.isWrapper;first|(rw [if_pos (by decide +kernel)];kernel_rfl)|(rw [if_neg (by decide +kernel)];exact ⟨rfl,rfl⟩))
  (fun os started H enc _=>xmlWrites_lifted rck os started H enc)
theorem xmlWrites_card0 (rck:RCk):Rows.XmlWritesCardSaid :=
 Claim7.holds_tied_plain_at .later [] [.data,.data,.data,.wider,.data] true Rows.xmlWritesCard.stood.harness true
  (xmlWrites_holds rck) (fun _ h=>by cases h) (by kernel_rfl) (fun _ h=>by cases h) xmlWrites_row_tie rfl ⟨rfl,rfl⟩ (by kernel_rfl) rfl
  (fun f fn hf hfn=>by
   obtain rfl:f=3:=Option.some.inj ((show Tryz.prog.funcNamed Rows.xmlWritesRow.func=some 3 by kernel_rfl).symm.trans hf) |>.symm
   obtain rfl:fn=Tryz.f3:=(Option.some.inj (Tryz.func3.symm.trans hfn)).symm
   exact ⟨by kernel_rfl,fun j t ht=>by
    rw [Tryz.params3] at ht
    have hm:t∈[29]:=by simpa using Array.mem_of_getElem? ht
    have hall:([29].all fun u=>!Tryz.prog.wantsStandIn u)=true:=by kernel_rfl
    exact (show Tryz.prog.wantsStandIn t=false by simpa using List.all_eq_true.1 hall t hm)⟩)
  (by kernel_rfl)
end
end Go.Proofs.YthodiandebahdaaGreatDoor
