import Derived.Test.YtcnfchblfcfimaaGreatDoorZh29
import Derived.Test.YtcnfchblfcfimaaGreatDoorZh34
import Derived.Test.YtcnfchblfcfimaaGreatDoorZh28
set_option linter.all false
set_option maxHeartbeats 4000000
set_option maxRecDepth 100000
namespace Go.Proofs.YtcnfchblfcfimaaGreatDoor
open Proofs.Tryz RowKit
section
open Go.RowKit Go.Maps
def ks(s:ByteArray):Lit:=.string s.data.toList
theorem La{s t:ByteArray}(h:ks s=ks t):s=t:=by
 have:s.data.toList=t.data.toList:=by simpa [ks] using h
 exact ByteArray.ext (Array.toList_inj.1 this)
theorem DY(s:ByteArray):WideAt.IsKeyLit (ks s):=trivial
def Pl(l:List ByteArray):Nat->DataW Unit
 |0=>.map []
 |k+1=>(Pl l k).put (ks (l[k]?.getD ⟨#[]⟩)) (.lit (.int .i64 k))
theorem tM(l:List ByteArray)(k:Nat)(h:k<l.length):Pl l (k+1)=(Pl l k).put (ks l[k]) (.lit (.int .i64 k)):=by simp only[Pl,List.getElem?_eq_getElem h,Option.getD_some]
theorem ph(l:List ByteArray):∀k,Tidy (Pl l k)
 |0=>tidy_empty
 |k+1=>(ph l k).put (DY _) _
theorem xH(l:List ByteArray)(s:ByteArray):∀k,k<=l.length->(Maps.has (Pl l k) (ks s)=true↔s∈l.take k)
 |0,_=>by simp[Pl,Maps.has]
 |k+1,h=>by
  rw[tM l k (by omega),List.take_succ_eq_append_getElem (by omega),List.mem_append,List.mem_singleton,<-xH l s k (by omega)];by_cases e:s=l[k]
  ·subst e
   simp[has_put_same (ph l k).isMap (DY _)]
  rw[has_put_other (fun q=>e (La q))];simp[e]
theorem mj(l:List ByteArray):∀k,Maps.size (Pl l k)<=k
 |0=>by simp[Pl,Maps.size]
 |k+1=>by
  have:=mj l k;simp only[Pl];rw[size_put (ph l k)]
  split<;>omega
theorem zM(l:List ByteArray):∀k,k<=l.length->(Maps.size (Pl l k)=k↔(l.take k).Nodup)
 |0,_=>by simp[Pl,Maps.size]
 |k+1,h=>by
  have h1:=zM l k (by omega);have h2:=mj l k;rw[tM l k (by omega),size_put (ph l k),List.take_succ_eq_append_getElem (by omega),List.nodup_append];by_cases hm:l[k]∈l.take k
  ·rw[if_pos ((xH l _ k (by omega)).2 hm)]
   constructor
   ·intro q;omega
   rintro⟨_,_,q⟩;exact absurd rfl (q _ hm _ (List.mem_singleton.2 rfl))
  rw[if_neg (fun q=>hm ((xH l _ k (by omega)).1 q))];constructor
  ·intro q
   refine⟨h1.1 (by omega),by simp,fun a ha b hb=>?_⟩;rw[List.mem_singleton.1 hb];intro e;rw[e]at ha;exact hm ha
  rintro⟨q,_,_⟩;have:=h1.2 q;omega
theorem nI(w:World)(k:Nat):(Instr.makeMap 194 (some (.int .i64 k))).run prog w=.ok (.map (some w.heap.size)) (w.alloc (.map #[] 0)):=by simp[Instr.makeMap,run_underlying Tryz.underlying194,asInt,asIntOf,Result.andThen]
def MP(W:World)(b:Nat)(l:List ByteArray):Prop:=W.ownsMap prog 9 (plainElem (H:=Unit) prog 3) b l.length (Pl l l.length)
theorem u3:Tryz.prog.underlying 3=some (.int .i64):=Tryz.underlying3
theorem UX(k:Nat)(h:k<=281474976710656):(Lit.int .i64 (k:Int)).wf=true:=by
 simp[Lit.wf];have:IntKind.i64.min=-9223372036854775808:=by decide
 rw[this];omega
theorem wN(v:Value)(l:List ByteArray)(w:World)(hv:NL w v l)(hz:l.length<=281474976710656/\∀s∈l,s.size<=281474976710656):Calls prog 205 #[v] w fun e w'=>e=.returned (.map (some w.heap.size))/\Hid (MP w' w.heap.size l)/\Below w.heap.size w w':=by
 have Ca:=fun(w:World)=>nI w l.length;obtain⟨av,cv,rfl,Hv,Lu⟩:=hv.len;have hv:=aa hv;have hz:=aa hz;have ml:maxLen=9223372036854775807:=rfl;go_enter func205,ntmps205;go_wp2_with fail
 go_loopw [11] (fun i wr=>∃k:Nat,i=.int .i64 k/\k<=l.length/\Hid (wr.ownsMap prog 9 (plainElem (H:=Unit) prog 3) w.heap.size k (Pl l k)/\Below w.heap.size w wr)) (fun i _=>l.length-(intOf i).toNat)
 case atStart=>exact⟨0,rfl,Nat.zero_le _,World.ownsMap_made _ _ _ _,ab af⟩
 case round=>
  obtain⟨k,rfl,hk,H⟩:=hrel;by_cases aE:k<l.length
  ·have bF:(k:Int)<(l.length:Int):=by omega
   have cR:(k:Int)<9223372036854775807:=by omega
   obtain⟨b,o,c,he,cQ,gq,iE,hcell⟩:=hv.out.at k aE;have cy:=Value.slice.inj he;obtain⟨rfl,_,rfl⟩:=cy;clear he;have hcell:=(H.out.2.cell (p:=⟨b,o+k,none⟩) cQ).trans hcell;obtain⟨s,hs⟩:∃s,l[k]=s:=⟨_,rfl⟩
   have Ni:s.size<=281474976710656:=by rw[<-hs];exact hz.out.2 _ (List.getElem_mem _)
   have qL:keyOf prog 9 (.string s)=some (ks s):=WideMaps.keyOf_string_mk Tryz.underlying9 (by omega);have qL:=aa qL;have vM:=aa (tM l k aE);rw[hs]at hcell vM;have Gi:k<maxLen:=by omega
   have Vx:=aa (UX k (by have:=hz.out.1;omega));clear hs Ni;go_wp2_with(at_mapUpdate;refine wpList_mapUpdate_own _ rfl _ _ _ 194 rfl 9 3 DZ Tryz.underlying194 (plainElem (H:=Unit) prog 3) w.heap.size k _ rfl H.out.1 Gi _ _ _ rfl rfl qL.out _ [] (plainElem_int u3 Vx.out) ?_;intro w2 Ev hgrow2)
   refine⟨⟨k+1,by go_num,by omega,by rw[vM.out];exact Ev,?_⟩,by simp[intOf];omega⟩;exact H.out.2.grown hgrow2 H.out.2.size (fun j hj=>by cases hj;exact Nat.le_refl _)
  have bF:¬((k:Int)<(l.length:Int)):=by omega
  have hE:=H.out;have tS:k=l.length:=by omega
  rw[tS]at hE;have iJ:=aa hE;clear hE tS;go_wp2_with fail
  go_ret;exact⟨rfl,iJ.out.1,iJ.out.2⟩
theorem qx(v:Value)(l:List ByteArray)(w:World)(hv:NL w v l)(g:Ut.Gu w)(hz:l.length<=281474976710656/\∀s∈l,s.size<=281474976710656):Calls prog 172 #[v] w fun e w'=>TB (oB l) w e w':=by
 obtain⟨av,cv,rfl,Hv,Lu⟩:=hv.len;have hv:=aa hv;have g:=aa g;have hz:=aa hz;have ml:maxLen=9223372036854775807:=rfl;go_enter func172,ntmps172;go_wp2_with fail
 go_loopw [7] (fun i wr=>∃k:Nat,i=.int .i64 k/\k<=l.length/\Hid ((∀s∈l.take k,okT s=true)/\Below w.heap.size w wr)) (fun i _=>l.length-(intOf i).toNat)
 case atStart=>exact⟨0,rfl,Nat.zero_le _,(fun s hs=>by simp at hs),af⟩
 case round=>
  obtain⟨k,rfl,hk,H⟩:=hrel;by_cases aE:k<l.length
  ·have bF:(k:Int)<(l.length:Int):=by omega
   have cR:(k:Int)<9223372036854775807:=by omega
   obtain⟨b,o,c,he,cQ,gq,iE,hcell⟩:=hv.out.at k aE;have cy:=Value.slice.inj he;obtain⟨rfl,_,rfl⟩:=cy;clear he;have hcell:=(H.out.2.cell (p:=⟨b,o+k,none⟩) cQ).trans hcell;obtain⟨s,hs⟩:∃s,l[k]=s:=⟨_,rfl⟩
   have Ni:s.size<=281474976710656:=by rw[<-hs];exact hz.out.2 _ (List.getElem_mem _)
   have fZ:=aa (Ut.valid_any s wr (g.out.below H.out.2) (by omega));rw[hs]at hcell;have eK:=aa hs;clear hs Ni;cases eS:okT s
   ·have fZ:=aa (show Calls prog 129 #[.string s] wr fun r w'=>r=.returned (.bool false)/\Below wr.heap.size wr w' from by rw[<-eS];exact fZ.out)
    have iH:¬oB l:=fun q=>by have:=q.1 l[k] (List.getElem_mem _);rw[eK.out,eS]at this;cases this
    have xv:=aa iH;clear iH eS;go_wp2_with(go_at_call 129;refine fZ.out.mono ?_;rintro e w1 ⟨rfl,ai⟩)
    go_ret;exact TB.no xv.out (ac H.out.2 ai)
   have fZ:=aa (show Calls prog 129 #[.string s] wr fun r w'=>r=.returned (.bool true)/\Below wr.heap.size wr w' from by rw[<-eS];exact fZ.out);have kC:=aa eS;clear eS;go_wp2_with(go_at_call 129;refine fZ.out.mono ?_;rintro e w1 ⟨rfl,ai⟩)
   refine⟨⟨k+1,by go_num,by omega,?_,ac H.out.2 ai⟩,by simp[intOf];omega⟩;intro u hu;rw[List.take_succ_eq_append_getElem aE]at hu;rcases List.mem_append.1 hu with q|q
   ·exact H.out.1 u q
   rw[List.mem_singleton.1 q,eK.out];exact kC.out
  have bF:¬((k:Int)<(l.length:Int)):=by omega
  have hE:=H.out.1;rw[List.take_of_length_le (by omega)]at hE;have iJ:=aa hE;clear hE;have xq:=aa (wN (.slice av l.length cv) l wr (hv.out.below H.out.2) hz.out);have cC:=zM l l.length (Nat.le_refl _);have BV:=mj l l.length;rw[List.take_of_length_le (Nat.le_refl _)]at cC;obtain⟨Z,hZ⟩:∃Z,Maps.size (Pl l l.length)=Z:=⟨_,rfl⟩
  rw[hZ]at cC BV;have cC:=aa cC;have hZ:=aa hZ;have BV:=aa BV;by_cases hq:Z=l.length
  ·have Sk:(Z:Int)=(l.length:Int):=by omega
   go_wp2_with(first|(go_at_call 205;refine xq.out.mono ?_;rintro e w1 ⟨rfl,pd,ai⟩)|(at_len;refine wpList_len_own _ rfl _ 194 rfl 9 3 Tryz.underlying194 _ wr.heap.size l.length (Pl l l.length) rfl pd.out ?_;rw[hZ.out]))
   go_ret;exact TB.yes ⟨iJ.out,cC.out.1 hq⟩ (ac H.out.2 ai)
  have Sk:¬(Z:Int)=(l.length:Int):=by omega
  go_wp2_with(first|(go_at_call 205;refine xq.out.mono ?_;rintro e w1 ⟨rfl,pd,ai⟩)|(at_len;refine wpList_len_own _ rfl _ 194 rfl 9 3 Tryz.underlying194 _ wr.heap.size l.length (Pl l l.length) rfl pd.out ?_;rw[hZ.out]))
  go_ret;show TB _ _ (.returned (.bool ((Z:Int)==(l.length:Int)))) _;rw[beq_eq_false_iff_ne.2 Sk];exact TB.no (fun(q:oB l)=>hq (cC.out.2 q.2)) (ac H.out.2 ai)
end
section
open Go.RowKit Go.Maps
def yF:Array Value:=#[.int .i64 1,.int .i64 0,.int .i64 2,.int .i64 1,.int .i64 3,.int .i64 2,.int .i64 4,.int .i64 3,.int .i64 5,.int .i64 3,.int .i64 6,.int .i64 4,.int .i64 7,.int .i64 5,.int .i64 8,.int .i64 6]
def Gt(w:World):Prop:=∃t fr,w.heap[5]?=some (.cells yF t fr)
theorem Gt.lt{w:World}(g:Gt w):5<w.heap.size:=by obtain⟨t,fr,h⟩:=g;exact(Array.getElem?_eq_some_iff.1 h).1
theorem Gt.below{w W:World}(g:Gt w)(h:Below w.heap.size w W):Gt W:=by obtain⟨t,fr,hc⟩:=g;exact⟨t,fr,(h.block _ (Array.getElem?_eq_some_iff.1 hc).1).trans hc⟩
def pk(k:Int):Int:=if k=1 then 0 else if k=2 then 1 else if k=3 then 2 else if k=4 then 3 else if k=5 then 3 else if k=6 then 4 else if k=7 then 5 else if k=8 then 6 else 0
def KA(k:Int):Array Value:=if 1<=k/\k<=8 then #[.agg #[.int .i64 k,.int .i64 (pk k)],.bool true] else #[.agg #[.int .i64 0,.int .i64 0],.bool false]
theorem OP(j:Nat)(hj:j<8)(w:World):(Instr.index 196 (.agg yF) (.int .i64 j)).run prog w=.ok (.agg #[.int .i64 ((j:Int)+1),.int .i64 (pk ((j:Int)+1))]) w:=by
 match j,hj with
 |0,_=>exact(show(Instr.index 196 (.agg yF) (.int .i64 0)).run prog w=.ok (.agg #[.int .i64 1,.int .i64 0]) w by kernel_rfl)
 |1,_=>exact(show(Instr.index 196 (.agg yF) (.int .i64 1)).run prog w=.ok (.agg #[.int .i64 2,.int .i64 1]) w by kernel_rfl)
 |2,_=>exact(show(Instr.index 196 (.agg yF) (.int .i64 2)).run prog w=.ok (.agg #[.int .i64 3,.int .i64 2]) w by kernel_rfl)
 |3,_=>exact(show(Instr.index 196 (.agg yF) (.int .i64 3)).run prog w=.ok (.agg #[.int .i64 4,.int .i64 3]) w by kernel_rfl)
 |4,_=>exact(show(Instr.index 196 (.agg yF) (.int .i64 4)).run prog w=.ok (.agg #[.int .i64 5,.int .i64 3]) w by kernel_rfl)
 |5,_=>exact(show(Instr.index 196 (.agg yF) (.int .i64 5)).run prog w=.ok (.agg #[.int .i64 6,.int .i64 4]) w by kernel_rfl)
 |6,_=>exact(show(Instr.index 196 (.agg yF) (.int .i64 6)).run prog w=.ok (.agg #[.int .i64 7,.int .i64 5]) w by kernel_rfl)
 |7,_=>exact(show(Instr.index 196 (.agg yF) (.int .i64 7)).run prog w=.ok (.agg #[.int .i64 8,.int .i64 6]) w by kernel_rfl)
def PZ(W:World)(i:Nat):Prop:=W.heap[i]?=some (.cells #[.int .i64 0,.int .i64 0] 163 (0,0))
theorem PZ.lt{W:World}{i:Nat}(q:PZ W i):i<W.heap.size:=(Array.getElem?_eq_some_iff.1 q).1
theorem PZ.below{W W1:World}{i:Nat}(q:PZ W i)(h:Below W.heap.size W W1):PZ W1 i:=(h.block _ q.lt).trans q
theorem PZ.cells{W:World}{i:Nat}(q:PZ W i):W.cell? ⟨i,0,none⟩=some (.int .i64 0)/\W.cell? ⟨i,1,none⟩=some (.int .i64 0):=by unfold PZ at q;simp[World.cell?,q]
theorem PZ.frz{W:World}{i:Nat}(q:PZ W i)(j:Nat):W.frozen? ⟨i,j,none⟩=false:=by unfold PZ at q;simp[World.frozen?,q]
theorem Av(k:Int)(w:World)(g:Gt w):Calls prog 173 #[.int .i64 k] w fun e w'=>e=.returned (.tuple (KA k))/\Below w.heap.size w w':=by
 have hg:=g.lt;obtain⟨t,fr,hc⟩:=g;have bB:∀o,(w.alloc o).heap[5]?=some (.cells yF t fr):=fun o=>by rw[(ab af).block _ hg];exact hc
 have fY:=aa (show PZ (w.alloc (.cells #[.int .i64 0,.int .i64 0] 163)) w.heap.size from heap_alloc_last w _);clear hg hc;go_enter func173,ntmps173;go_wp2_with(refine wpList_load_row rfl 196 _ rfl 5 rfl t yF fr _ (bB _) Tryz.underlying196 rfl (by kernel_rfl) ?_)
 clear bB;go_loopw [7] (fun i w'=>∃j:Nat,j<=8/\i=.int .i64 j/\Hid ((∀i:Nat,i<j->(i:Int)+1≠k)/\Below w.heap.size w w'/\PZ w' w.heap.size)) (fun i _=>(8-intOf i).toNat)
 case atStart=>exact⟨0,by omega,rfl,(fun i h=>by omega),ab af,fY.out⟩
 case round=>
  clear fY;obtain⟨j,hj,rfl,H⟩:=hrel;obtain⟨z0,z1⟩:=H.out.2.2.cells;have zf:=H.out.2.2.frz;have bm:=H.out.2.2.lt;have zf':∀o j,(wr.alloc o).frozen? ⟨w.heap.size,j,none⟩=false:=fun o j=>(H.out.2.2.below (ab af)).frz j;have z0':∀o,(wr.alloc o).cell? ⟨w.heap.size,0,none⟩=some (.int .i64 0):=fun o=>(H.out.2.2.below (ab af)).cells.1;have z1':∀o,(wr.alloc o).cell? ⟨w.heap.size,1,none⟩=some (.int .i64 0):=fun o=>(H.out.2.2.below (ab af)).cells.2;by_cases Mb:j<8
  ·have Gj:(j:Int)<8:=by omega
   have zt:=OP j Mb;obtain⟨J,hJ⟩:∃J:Int,Hid (J=(j:Int)+1):=⟨_,rfl⟩
   rw[<-hJ.out]at zt;obtain⟨V,hV⟩:∃V:Int,Hid (V=pk J):=⟨_,rfl⟩
   rw[<-hV.out]at zt;by_cases hk:J=k
   ·subst hk
    have hR:=aa (show KA J=#[.agg #[.int .i64 J,.int .i64 V],.bool true]by have:=hJ.out;rw[hV.out];unfold KA;rw[if_pos (by omega)])
    go_wp2_with fail
    refine bodyPost_ret (v:=.tuple #[.agg #[.int .i64 J,.int .i64 V],.bool true]) (by simp[results,Tryz.results173,go_sem, *]) rfl ⟨by rw[hR.out],?_⟩
    repeat (first|exact H.out.2.1|refine ab ?_|refine Below.setCell ?_ (by show _<=_;exact Nat.le_refl _) _)
   have No:(J==k)=false:=beq_eq_false_iff_ne.2 hk;go_wp2_with fail
   refine⟨⟨j+1,by omega,by go_num,?_,ab H.out.2.1,H.out.2.2.below (ab af)⟩,by simp[intOf];omega⟩;intro i hi;by_cases e:i=j
   ·subst e
    rw[<-hJ.out];exact hk
   exact H.out.1 i (by omega)
  have Gj:¬(j:Int)<8:=by omega
  have hR:=aa (show KA k=#[.agg #[.int .i64 0,.int .i64 0],.bool false]by unfold KA;rw[if_neg];rintro⟨h1,h2⟩;exact H.out.1 (k-1).toNat (by omega) (by omega))
  go_wp2_with fail
  refine bodyPost_ret (v:=.tuple #[.agg #[.int .i64 0,.int .i64 0],.bool false]) (by simp[results,Tryz.results173,go_sem, *]) rfl ⟨by rw[hR.out],?_⟩
  repeat (first|exact H.out.2.1|refine ab ?_|refine Below.setCell ?_ (by show _<=_;exact Nat.le_refl _) _)
end
section
open Go.ChangeShapes Go.WideShapes Go.ChangeAt Go.RowKit Go.Joins
theorem UN:Tryz.prog.cellsOf 163=2:=by kernel_rfl
theorem Xl:Tryz.prog.cellsOf 196=16:=by kernel_rfl
theorem TV:Tryz.prog.cellsOf 45=1:=by kernel_rfl
theorem TU:Tryz.prog.cellsOf 25=1:=by kernel_rfl
theorem Dr{W:World}{fuel:Nat}{cs:List Value}{p:List MemPlace}{a b:Int}
  (hd:DataW.trod (fun _=>()) prog W 0 (fun _=>true) false fuel 163 cs=some (.agg [.lit (.int .i64 a),.lit (.int .i64 b)],p)):cs=[.int .i64 a,.int .i64 b]:=by
 obtain⟨xs,n,rfl,hx,aL,xh,qM⟩:=DataW.trod_struct Tryz.underlying163 hd;rw[UN]at aL;obtain⟨a0,a1,rfl⟩:∃a0 a1,cs=[a0,a1]:=by
  match cs,aL with
  | [a0,a1],_=>exact⟨_,_,rfl⟩
 obtain⟨x0,x1,rfl⟩:∃x0 x1,xs=[x0,x1]:=by
  match xs,xh with
  | [x0,x1],_=>exact⟨_,_,rfl⟩
 have e0:=qM 0 _ rfl;have e1:=qM 1 _ rfl
 replace e0:DataW.trod (fun _=>()) prog W 0 (fun _=>true) false n 45 (([a0,a1].drop 0).take (Tryz.prog.cellsOf 45))=some x0:=e0
 rw[TV]at e0
 replace e1:DataW.trod (fun _=>()) prog W 0 (fun _=>true) false n 25 (([a0,a1].drop 1).take (Tryz.prog.cellsOf 25))=some x1:=e1
 rw[TU]at e1
 replace e0:DataW.trod (fun _=>()) prog W 0 (fun _=>true) false n 45 [a0]=some x0:=e0
 replace e1:DataW.trod (fun _=>()) prog W 0 (fun _=>true) false n 25 [a1]=some x1:=e1
 obtain⟨k0,q0,rfl,_⟩:=DataW.trod_int Tryz.underlying45 e0;obtain⟨k1,q1,rfl,_⟩:=DataW.trod_int Tryz.underlying25 e1;simp only[List.cons.injEq,and_true]at q0 q1;subst q0 q1;simp at hx;rw[hx.1.1,hx.1.2]
theorem Ax{W:World}{fuel:Nat}{cs:List Value}{p:List MemPlace}
  (hd:DataW.trod (fun _=>()) prog W 0 (fun _=>true) false fuel 196 cs=some (Rows.laid_calamus_types_plainKinds,p)):cs=yF.toList:=by
 obtain⟨xs,m1,rfl,dx,aL,zn,qM⟩:=DataW.trod_array Tryz.underlying196 hd;rw[Xl]at aL;have key:∀(i:Nat) (x y:Int),i<8->(match (Rows.laid_calamus_types_plainKinds:DataW Unit)with | .agg ds=>ds|_=>[])[i]?=some (.agg [.lit (.int .i64 x),.lit (.int .i64 y)])->(cs.drop (i*2)).take 2=[.int .i64 x,.int .i64 y]:=by intro i x y hi uZ;obtain⟨fuel',d',q,jE,he⟩:=Lib.array_elem Tryz.underlying196 hd i hi;have EN:=jE.symm.trans uZ;obtain rfl:=Option.some.inj EN;rw[UN]at he;exact Dr he
 have k0:=key 0 1 0 (by omega) rfl;have k1:=key 1 2 1 (by omega) rfl;have k2:=key 2 3 2 (by omega) rfl;have k3:=key 3 4 3 (by omega) rfl;have k4:=key 4 5 3 (by omega) rfl;have k5:=key 5 6 4 (by omega) rfl;have k6:=key 6 7 5 (by omega) rfl;have k7:=key 7 8 6 (by omega) rfl;have e0:cs=cs.drop 0:=rfl;rw[e0,Ut.split_at' 0 2 cs,Ut.split_at' (0+2) 2 cs,Ut.split_at' (0+2+2) 2 cs,Ut.split_at' (0+2+2+2) 2 cs,Ut.split_at' (0+2+2+2+2) 2 cs,Ut.split_at' (0+2+2+2+2+2) 2 cs,Ut.split_at' (0+2+2+2+2+2+2) 2 cs,Ut.split_at' (0+2+2+2+2+2+2+2) 2 cs,List.drop_of_length_le (i:=0+2+2+2+2+2+2+2+2) (by omega)];simp only[Nat.reduceMul,Nat.reduceAdd]at k0 k1 k2 k3 k4 k5 k6 k7 ⊢;rw[k0,k1,k2,k3,k4,k5,k6,k7];rfl
end
section
open Go.RowKit Go.Maps
def nz(h:Th)(m:Nat):Prop:=(h.kind=9/\h.names.length=0/\m=1)\/((h.kind=10\/h.kind=11)/\h.names.length=m/\oB h.names)\/(1<=h.kind/\h.kind<=8/\h.names.length=0/\m=0)
def BL:(n:Nat)->TT n->Prop
 |0,_=>False
 |n+1,x=>nz x.1 x.2.length/\∀y∈x.2,BL n y
theorem qv(n:Nat)(h:Th)(l:List (TT n))(ns ls:Value)(w:World)(hr:RT (n+1) w (h,l) ns ls)(hz:NE (n+1) (h,l))(g:Ut.Gu w)(gt:Gt w):Calls prog 146 #[.agg (fR h ns ls)] w fun e w'=>TB (nz h l.length) w e w':=by
 obtain⟨al,cl,rfl,bB,br⟩:=hr.len;obtain⟨an,cn,rfl,cm,df⟩:=hr.1.len;have ml:maxLen=9223372036854775807:=rfl;simp only at bB br cm df;obtain⟨z3,z4,z5⟩:=hz;simp only at z3 z4;have hN:=aa (fun W (hb:Below w.heap.size w W)=>qx (.slice an h.names.length cn) h.names W (hr.1.below hb) (g.below hb) ⟨z3,z4⟩);have hP:=aa (fun W (hb:Below w.heap.size w W)=>Av h.kind W (gt.below hb));have db:Hid (∀o,Below w.heap.size w (w.alloc o)):=fun o=>ab af;have dM:=aa (pq w h (.slice an h.names.length cn) (.slice al l.length cl));clear hr g z4 z5 gt;show Calls _ _ #[.agg #[.int .i64 h.kind,.slice an h.names.length cn,.slice al l.length cl]] _ _;by_cases k9:h.kind=9
 ·rw[k9]
  by_cases lI:(h.names.length:Int)=0
  ·by_cases aJ:(l.length:Int)=1
   ·have hx:Hid (nz h l.length):=Or.inl ⟨k9,by omega,by omega⟩
    go_enter func146,ntmps146;go_wp2_with fail
    go_ret;exact TB.yes hx.out (db.out _)
   have hx:Hid (¬nz h l.length):=by rintro(⟨_,_,q⟩|⟨q,_⟩|⟨_,q,_⟩)<;>omega
   have qe:((l.length:Int)==1)=false:=beq_eq_false_iff_ne.2 aJ;go_enter func146,ntmps146;go_wp2_with fail
   go_ret;exact TB.no hx.out (db.out _)
  have hx:Hid (¬nz h l.length):=by rintro(⟨_,q,_⟩|⟨q,_⟩|⟨_,q,_⟩)<;>omega
  have qe:((h.names.length:Int)==0)=false:=beq_eq_false_iff_ne.2 lI;go_enter func146,ntmps146;go_wp2_with fail
  go_ret;exact TB.no hx.out (db.out _)
 have key:∀kk:Int,(kk=10\/kk=11)->h.kind=kk->Calls prog 146 #[.agg #[.int .i64 kk,.slice an h.names.length cn,.slice al l.length cl]] w fun e w'=>TB (nz h l.length) w e w':=by
  intro kk tS hk;have dM:=aa (pq w {h with kind:=kk} (.slice an h.names.length cn) (.slice al l.length cl));by_cases aL:(h.names.length:Int)=(l.length:Int)
  ·have qJ:h.names.length=l.length:=by omega
   have hx:=aa (show nz h l.length↔oB h.names by
    constructor
    ·rintro(⟨q,_⟩|⟨_,_,q⟩|⟨_,q,_⟩)
     ·omega
     ·exact q
     omega
    exact fun q=>Or.inr (Or.inl ⟨by omega,qJ,q⟩))
   have hN:=aa (fun o=>hN.out (w.alloc o) (db.out o));obtain⟨b,hb⟩:=dX (oB h.names);have hN:=aa (fun o=>Calls.tb (hN.out o) hb);have hb:=aa hb;rw[qJ]at hN ⊢;clear aL qJ hk;rcases tS with rfl|rfl
   all_goals
    cases b
    ·go_enter func146,ntmps146
     go_wp2_with(go_at_call 172;refine(hN.out _).mono ?_;rintro e w1 ⟨rfl,ai⟩)
     go_ret;exact TB.no (fun q=>by have:=hb.out.2 (hx.out.1 q);cases this) (ac (db.out _) ai)
    go_enter func146,ntmps146;go_wp2_with(go_at_call 172;refine(hN.out _).mono ?_;rintro e w1 ⟨rfl,ai⟩)
    go_ret;exact TB.yes (hx.out.2 (hb.out.1 (by simp))) (ac (db.out _) ai)
  have hx:Hid (¬nz h l.length):=by rintro(⟨q,_⟩|⟨_,q,_⟩|⟨_,q,_⟩)<;>omega
  clear hk;rcases tS with rfl|rfl
  all_goals
   go_enter func146,ntmps146;go_wp2_with fail
   go_ret;exact TB.no hx.out (db.out _)
 by_cases k10:h.kind=10
 ·rw[k10];exact key 10 (Or.inl rfl) k10
 by_cases k11:h.kind=11
 ·rw[k11];exact key 11 (Or.inr rfl) k11
 clear key;by_cases hk:1<=h.kind/\h.kind<=8
 ·have hP:Hid (∀o,Calls prog 173 #[.int .i64 h.kind] (w.alloc o) fun e w'=>e=.returned (.tuple #[.agg #[.int .i64 h.kind,.int .i64 (pk h.kind)],.bool true])/\Below (w.alloc o).heap.size (w.alloc o) w'):=fun o=>by
   have:=hP.out (w.alloc o) (db.out o);unfold KA at this;rw[if_pos hk]at this;exact this
  have dM:Hid (∀w1,Below (w.alloc (.cells (fR h (.slice an h.names.length cn) (.slice al l.length cl)) 48)).heap.size (w.alloc (.cells (fR h (.slice an h.names.length cn) (.slice al l.length cl)) 48)) w1->Tx w1 w.heap.size h (.slice an h.names.length cn) (.slice al l.length cl)):=fun w1 hb=>dM.out.below hb;by_cases lI:(h.names.length:Int)=0
  ·by_cases aJ:(l.length:Int)=0
   ·have hx:Hid (nz h l.length):=Or.inr (Or.inr ⟨hk.1,hk.2,by omega,by omega⟩)
    go_enter func146,ntmps146;go_wp2_with(go_at_call 173;refine(hP.out _).mono ?_;rintro e w1 ⟨rfl,ai⟩;have c1:=fun o=>((dM.out w1 ai).below (ab (o:=o) af)).cells.2.1;have c2:=fun o=>((dM.out w1 ai).below (ab (o:=o) af)).cells.2.2)
    go_ret;exact TB.yes hx.out (ab (ac (db.out _) ai))
   have hx:Hid (¬nz h l.length):=by rintro(⟨q,_⟩|⟨q,_⟩|⟨_,_,_,q⟩)<;>omega
   have qe:((l.length:Int)==0)=false:=beq_eq_false_iff_ne.2 aJ;go_enter func146,ntmps146;go_wp2_with(go_at_call 173;refine(hP.out _).mono ?_;rintro e w1 ⟨rfl,ai⟩;have c1:=fun o=>((dM.out w1 ai).below (ab (o:=o) af)).cells.2.1;have c2:=fun o=>((dM.out w1 ai).below (ab (o:=o) af)).cells.2.2)
   go_ret;exact TB.no hx.out (ab (ac (db.out _) ai))
  have hx:Hid (¬nz h l.length):=by rintro(⟨q,_⟩|⟨q,_⟩|⟨_,_,q,_⟩)<;>omega
  have qe:((h.names.length:Int)==0)=false:=beq_eq_false_iff_ne.2 lI;go_enter func146,ntmps146;go_wp2_with(go_at_call 173;refine(hP.out _).mono ?_;rintro e w1 ⟨rfl,ai⟩;have c1:=fun o=>((dM.out w1 ai).below (ab (o:=o) af)).cells.2.1;have c2:=fun o=>((dM.out w1 ai).below (ab (o:=o) af)).cells.2.2)
  go_ret;exact TB.no hx.out (ab (ac (db.out _) ai))
 have hP:Hid (∀o,Calls prog 173 #[.int .i64 h.kind] (w.alloc o) fun e w'=>e=.returned (.tuple #[.agg #[.int .i64 0,.int .i64 0],.bool false])/\Below (w.alloc o).heap.size (w.alloc o) w'):=fun o=>by have:=hP.out (w.alloc o) (db.out o);unfold KA at this;rw[if_neg hk]at this;exact this
 have hx:Hid (¬nz h l.length):=by rintro(⟨q,_⟩|⟨q,_⟩|⟨q1,q2,_⟩)<;>omega
 go_enter func146,ntmps146;go_wp2_with(go_at_call 173;refine(hP.out _).mono ?_;rintro e w1 ⟨rfl,ai⟩)
 go_ret;exact TB.no hx.out (ab (ac (db.out _) ai))
end
section
open Go.RowKit Go.Maps
theorem xf:∀(n:Nat) (x:TT n) (ns ls:Value) (w:World),RT n w x ns ls->NE n x->Ut.Gu w->Gt w ->
  Calls prog 98 #[.agg (fR (gz n x) ns ls)] w fun e w'=>TB (BL n x) w e w':=by
 intro n
 induction n with
 |zero=>intro x;exact Empty.elim x
 |succ n ih=>
  intro x ns ls w hr hz g gt;obtain⟨h,l⟩:=x;obtain⟨al,cl,rfl,bB,br⟩:=hr.len;obtain⟨an,cn,rfl,cm,df⟩:=hr.1.len;obtain⟨b1,ai⟩:=dX (nz h l.length);have hF:=aa (fun o=>Calls.tb (qv n h l (.slice an h.names.length cn) (.slice al l.length cl) (w.alloc o) (hr.below (ab af)) hz (g.below (ab af)) (gt.below (ab af))) ai);have EV:=aa ai;have hr:=aa hr;have hz:=aa hz;have g:=aa g;have gt:=aa gt;have ih':=aa ih;clear ih ai;simp only at cm df bB br;have ml:maxLen=9223372036854775807:=rfl;have db:Hid (∀o,Below w.heap.size w (w.alloc o)):=fun o=>ab af;have dM:=aa (pq w h (.slice an h.names.length cn) (.slice al l.length cl));show Calls _ _ #[.agg #[.int .i64 h.kind,.slice an h.names.length cn,.slice al l.length cl]] _ _;cases b1
  ·go_enter func98,ntmps98
   go_wp2_with(go_at_call 146;refine(hF.out _).mono ?_;rintro e w1 ⟨rfl,ai⟩)
   go_ret;exact TB.no (fun q=>by have:=EV.out.2 q.1;cases this) (ac (db.out _) ai)
  go_enter func98,ntmps98;go_wp2_with fail
  refine(hF.out _).mono ?_;rintro e w1 ⟨rfl,ai⟩;have aT:=aa (ac (db.out _) ai);obtain⟨c0,c1,c2⟩:=(dM.out.below ai).cells;go_wp2_with fail
  go_loopw [11] (fun i w'=>∃k:Nat,i=.int .i64 k/\k<=l.length/\Hid ((∀y∈l.take k,BL n y)/\Below w.heap.size w w')) (fun i _=>l.length-(intOf i).toNat)
  case atStart=>exact⟨0,rfl,Nat.zero_le _,(fun y hy=>by simp at hy),aT.out⟩
  case round=>
   clear c0 c1 c2;obtain⟨k,rfl,hk,H⟩:=hrel;by_cases aE:k<l.length
   ·have bF:(k:Int)<(l.length:Int):=by omega
    have cR:(k:Int)<9223372036854775807:=by omega
    obtain⟨b,o,c,he,cQ,gq,iE,ns',ls',bT,bf⟩:=hr.out.at k aE;have cy:=Value.slice.inj he;obtain⟨rfl,_,rfl⟩:=cy;clear he;obtain⟨q0,q1,q2⟩:=pI (am bT H.out.2 cQ);have cA:=aa (bf.below H.out.2);obtain⟨a1,m1,d1,a2,m2,d2,rfl,rfl⟩:=bf.shape;clear bT bf;obtain⟨bk,kF⟩:=dX (BL n l[k]);have hcall:=aa (fun o=>Calls.tb (ih'.out l[k] (.slice a1 m1 d1) (.slice a2 m2 d2) (wr.alloc o) (cA.out.below (ab af)) (hz.out.2.2 _ (List.getElem_mem _)) (g.out.below (ab H.out.2)) (gt.out.below (ab H.out.2))) kF);have kE:=aa kF;clear kF;cases bk
    ·go_wp2_with(go_at_call 98;refine(hcall.out _).mono ?_;rintro e w3 ⟨rfl,ar⟩)
     go_ret;exact TB.no (fun q=>by have:=kE.out.2 (q.2 _ (List.getElem_mem _));cases this) (ac (ab H.out.2) ar)
    go_wp2_with(go_at_call 98;refine(hcall.out _).mono ?_;rintro e w3 ⟨rfl,ar⟩)
    exact⟨⟨k+1,by go_num,by omega,bS aE H.out.1 (kE.out.1 (by simp)),ac (ab H.out.2) ar⟩,by simp[intOf];omega⟩
   have bF:¬((k:Int)<(l.length:Int)):=by omega
   have hE:=H.out.1;rw[List.take_of_length_le (by omega)]at hE;have iJ:=aa hE;clear hE;go_wp2_with fail
   go_ret;exact TB.yes ⟨EV.out.1 (by simp),iJ.out⟩ H.out.2
def qT:(n:Nat)->TT n->Prop
 |0,_=>False
 |n+1,x=>x.1.names.length<=256/\(∀s∈x.1.names,s.size<=64)/\∀y∈x.2,qT n y
theorem rJ:∀(n:Nat) (x:TT n) (ns ls:Value) (w:World),RT n w x ns ls->NE n x ->
  Calls prog 99 #[.agg (fR (gz n x) ns ls)] w fun e w'=>TB (qT n x) w e w':=by
 intro n
 induction n with
 |zero=>intro x;exact Empty.elim x
 |succ n ih=>
  intro x ns ls w hr hz;obtain⟨h,l⟩:=x;obtain⟨al,cl,rfl,bB,br⟩:=hr.len;obtain⟨an,cn,rfl,cm,df⟩:=hr.1.len;have hr:=aa hr;have hz:=aa hz;have ih':=aa ih;clear ih;simp only at cm df bB br;have ml:maxLen=9223372036854775807:=rfl;have db:Hid (∀o,Below w.heap.size w (w.alloc o)):=fun o=>ab af;have dM:=aa (pq w h (.slice an h.names.length cn) (.slice al l.length cl));show Calls _ _ #[.agg #[.int .i64 h.kind,.slice an h.names.length cn,.slice al l.length cl]] _ _;by_cases h2:(256:Int)<(h.names.length:Int)
  ·have hx:Hid (¬qT (n+1) (h,l)):=fun q=>by have:=q.1;simp only at this;omega
   go_enter func99,ntmps99;go_wp2_with fail
   go_ret;exact TB.no hx.out (db.out _)
  have TJ:=aa h2;go_enter func99,ntmps99;go_wp2_with fail
  clear h2;go_loopw [14] (fun i w'=>∃k:Nat,i=.int .i64 k/\k<=h.names.length/\Hid ((∀y∈h.names.take k,y.size<=64)/\Below w.heap.size w w'/\Tx w' w.heap.size h (.slice an h.names.length cn) (.slice al l.length cl))) (fun i _=>h.names.length-(intOf i).toNat)
  case atStart=>exact⟨0,rfl,Nat.zero_le _,(fun y hy=>by simp at hy),db.out _,dM.out⟩
  case round=>
   obtain⟨k,rfl,hk,H⟩:=hrel;obtain⟨c0,c1,c2⟩:=H.out.2.2.cells;by_cases aE:k<h.names.length
   ·have bF:(k:Int)<(h.names.length:Int):=by omega
    have cR:(k:Int)<9223372036854775807:=by omega
    obtain⟨b,o,c,he,cQ,gq,iE,hcell⟩:=hr.out.1.at k aE;have cy:=Value.slice.inj he;obtain⟨rfl,_,rfl⟩:=cy;clear he;have hcell:=(H.out.2.1.cell (p:=⟨b,o+k,none⟩) cQ).trans hcell;obtain⟨s,hs⟩:∃s,Hid (h.names[k]=s):=⟨_,aa rfl⟩
    simp only at hcell;rw[hs.out]at hcell;by_cases Fe:(64:Int)<(s.size:Int)
    ·have hx:Hid (¬qT (n+1) (h,l)):=fun q=>by have:=q.2.1 _ (List.getElem_mem aE);simp only[hs.out]at this;omega
     go_wp2_with fail
     go_ret;exact TB.no hx.out H.out.2.1
    go_wp2_with fail
    exact⟨⟨k+1,by go_num,by omega,bS aE H.out.1 (by rw[hs.out];omega),H.out.2⟩,by simp[intOf];omega⟩
   have bF:¬((k:Int)<(h.names.length:Int)):=by omega
   have hE:=H.out.1;rw[List.take_of_length_le (by omega)]at hE;have iJ:=aa hE;clear hE;have hH:=aa H.out.2.1;go_wp2_with fail
   go_loopw [25] (fun i w'=>∃k:Nat,i=.int .i64 k/\k<=l.length/\Hid ((∀y∈l.take k,qT n y)/\Below w.heap.size w w')) (fun i _=>l.length-(intOf i).toNat)
   case atStart=>exact⟨0,rfl,Nat.zero_le _,(fun y hy=>by simp at hy),hH.out⟩
   case round=>
    clear c0 c1 c2 H bF hk;obtain⟨k,rfl,hk,H⟩:=hrel;by_cases aE:k<l.length
    ·have bF:(k:Int)<(l.length:Int):=by omega
     have cR:(k:Int)<9223372036854775807:=by omega
     obtain⟨b,o,c,he,cQ,gq,iE,ns',ls',bT,bf⟩:=hr.out.at k aE;have cy:=Value.slice.inj he;obtain⟨rfl,_,rfl⟩:=cy;clear he;obtain⟨q0,q1,q2⟩:=pI (am bT H.out.2 cQ);have cA:=aa (bf.below H.out.2);obtain⟨a1,m1,d1,a2,m2,d2,rfl,rfl⟩:=bf.shape;clear bT bf;obtain⟨bk,kF⟩:=dX (qT n l[k]);have hcall:=aa (fun o=>Calls.tb (ih'.out l[k] (.slice a1 m1 d1) (.slice a2 m2 d2) (wr.alloc o) (cA.out.below (ab af)) (hz.out.2.2 _ (List.getElem_mem _))) kF);have kE:=aa kF;clear kF;cases bk
     ·go_wp2_with(go_at_call 99;refine(hcall.out _).mono ?_;rintro e w3 ⟨rfl,ar⟩)
      go_ret;exact TB.no (fun q=>by have:=kE.out.2 (q.2.2 _ (List.getElem_mem _));cases this) (ac (ab H.out.2) ar)
     go_wp2_with(go_at_call 99;refine(hcall.out _).mono ?_;rintro e w3 ⟨rfl,ar⟩)
     exact⟨⟨k+1,by go_num,by omega,bS aE H.out.1 (kE.out.1 (by simp)),ac (ab H.out.2) ar⟩,by simp[intOf];omega⟩
    have bF:¬((k:Int)<(l.length:Int)):=by omega
    have hF:=H.out.1;rw[List.take_of_length_le (by omega)]at hF;have WZ:=aa hF;clear hF;go_wp2_with fail
    go_ret;exact TB.yes ⟨by have:=TJ.out;simp only;omega,iJ.out,WZ.out⟩ H.out.2
def ye(n:Nat)(x:TT n):Prop:=qT n x/\ka n x<=16/\cW n x<=4096
def IQ(n:Nat)(x:TT n)(e:Int):Prop:=(e=110/\¬BL n x)\/(e=2/\BL n x/\¬ye n x)\/(e=0/\BL n x/\ye n x)
structure Xp(n:Nat)(w:World)(x:TT n)(ns ls:Value):Prop where
 rd:RT n w x ns ls
 sz:NE n x
 le:cW n x<=200000
theorem wl(n:Nat)(x:TT n)(ns ls:Value)(w:World)(hr:Xp n w x ns ls)(g:Ut.Gu w)(gt:Gt w)(E:Int)(hE:IQ n x E):Calls prog 52 #[.agg (fR (gz n x) ns ls)] w fun e w'=>e=.returned (.int .i64 E)/\Below w.heap.size w w':=by
 obtain⟨a1,m1,d1,a2,m2,d2,rfl,rfl⟩:=hr.rd.shape;obtain⟨h,hh⟩:∃h,gz n x=h:=⟨_,rfl⟩
 obtain⟨b1,ai⟩:=dX (BL n x);obtain⟨b2,aq⟩:=dX (qT n x);have hV:=aa (fun o=>Calls.tb (xf n x (.slice a1 m1 d1) (.slice a2 m2 d2) (w.alloc o) (hr.rd.below (ab af)) hr.sz (g.below (ab af)) (gt.below (ab af))) ai);have hS:=aa (fun W (hb:Below w.heap.size w W)=>Calls.tb (rJ n x (.slice a1 m1 d1) (.slice a2 m2 d2) W (hr.rd.below hb) hr.sz) aq);have hD:=aa (fun W (hb:Below w.heap.size w W)=>wk n x (.slice a1 m1 d1) (.slice a2 m2 d2) W (hr.rd.below hb) hr.le);have hZ:=aa (fun W (hb:Below w.heap.size w W)=>Af n x (.slice a1 m1 d1) (.slice a2 m2 d2) W (hr.rd.below hb) hr.le);have db:Hid (∀o,Below w.heap.size w (w.alloc o)):=fun o=>ab af;obtain⟨D,oz⟩:∃D,ka n x=D:=⟨_,rfl⟩
 obtain⟨Z,zx⟩:∃Z,cW n x=Z:=⟨_,rfl⟩
 have iJ:=aa (show(E=110/\b1=false)\/(E=2/\b1=true/\¬(b2=true/\D<=16/\Z<=4096))\/(E=0/\b1=true/\b2=true/\D<=16/\Z<=4096)by
  unfold IQ ye at hE;rw[oz,zx,<-ai,<-aq]at hE
  simpa using hE)
 rw[hh]at hV hS hD hZ ⊢;rw[oz]at hD;rw[zx]at hZ;have dM:=aa (pq w h (.slice a1 m1 d1) (.slice a2 m2 d2));clear hr g gt hh oz zx hE ai aq;show Calls _ _ #[.agg #[.int .i64 h.kind,.slice a1 m1 d1,.slice a2 m2 d2]] _ _;cases b1
 ·have e0:E=110:=by rcases iJ.out with⟨q,_⟩|⟨_,q,_⟩|⟨_,q,_⟩;exact q;cases q;cases q
  subst e0;go_enter func52,ntmps52;go_wp2_with(go_at_call 98;refine(hV.out _).mono ?_;rintro e w1 ⟨rfl,ai⟩)
  go_ret;exact⟨rfl,ac (db.out _) ai⟩
 have th:=aa (show(E=2/\¬(b2=true/\D<=16/\Z<=4096))\/(E=0/\b2=true/\D<=16/\Z<=4096)by
  rcases iJ.out with⟨_,q⟩|⟨q,_,r⟩|⟨q,_,r⟩
  ·cases q
  ·exact Or.inl ⟨q,r⟩
  exact Or.inr ⟨q,r⟩)
 clear iJ;go_enter func52,ntmps52;go_wp2_with fail
 refine(hV.out _).mono ?_;rintro e w1 ⟨rfl,ai⟩;have aT:=aa (ac (db.out _) ai);have bO:=aa (dM.out.below ai);obtain⟨c0,c1,c2⟩:=bO.out.cells;have Ql:=aa (hS.out w1 aT.out);cases b2
 ·have e0:E=2:=by rcases th.out with⟨q,_⟩|⟨_,q,_⟩;exact q;cases q
  subst e0;go_wp2_with(go_at_call 99;refine Ql.out.mono ?_;rintro e w2 ⟨rfl,aq⟩)
  go_ret;exact⟨rfl,ac aT.out aq⟩
 have Mt:=aa (show(E=2/\¬(D<=16/\Z<=4096))\/(E=0/\D<=16/\Z<=4096)by
  rcases th.out with⟨q,r⟩|⟨q,_,r⟩
  ·exact Or.inl ⟨q,fun s=>r ⟨rfl,s⟩⟩
  exact Or.inr ⟨q,r⟩)
 clear th;go_wp2_with fail
 refine Ql.out.mono ?_;rintro e w2 ⟨rfl,aq⟩;have gi:=aa (ac aT.out aq);have jR:=aa (bO.out.below aq);clear c0 c1 c2;obtain⟨c0,c1,c2⟩:=jR.out.cells;have Cg:=aa (hD.out w2 gi.out);by_cases hd:(16:Int)<(D:Int)
 ·have e0:E=2:=by rcases Mt.out with⟨q,_⟩|⟨_,q,_⟩;exact q;omega
  subst e0;go_wp2_with(go_at_call 100;refine Cg.out.mono ?_;rintro e w3 ⟨rfl,ar⟩)
  go_ret;exact⟨rfl,ac gi.out ar⟩
 go_wp2_with fail
 refine Cg.out.mono ?_;rintro e w3 ⟨rfl,ar⟩;have zj:=aa (ac gi.out ar);have iA:=aa (jR.out.below ar);clear c0 c1 c2;obtain⟨c0,c1,c2⟩:=iA.out.cells;have Qf:=aa (hZ.out w3 zj.out);by_cases hz:(4096:Int)<(Z:Int)
 ·have e0:E=2:=by rcases Mt.out with⟨q,_⟩|⟨_,_,q⟩;exact q;omega
  subst e0;go_wp2_with(go_at_call 101;refine Qf.out.mono ?_;rintro e w4 ⟨rfl,aO⟩)
  go_ret;exact⟨rfl,ac zj.out aO⟩
 have e0:E=0:=by
  rcases Mt.out with⟨_,q⟩|⟨q,_⟩
  ·exact absurd ⟨by omega,by omega⟩ q
  exact q
 subst e0;go_wp2_with(go_at_call 101;refine Qf.out.mono ?_;rintro e w4 ⟨rfl,aO⟩)
 go_ret;exact⟨rfl,ac zj.out aO⟩
end
theorem rprint_any(n:Bool)(s:ByteArray)(x:Int)(w:World)(h:eI n s x=true):Calls prog 142 #[.agg #[.bool n,.string s,.int .i64 x]] w fun e w'=>e=.returned (.tuple #[.string (aj (fF n (bl s) x)),.int .i64 0])/\Below w.heap.size w w':=by
 obtain⟨eV,aJ,ie,dx,gT,eU⟩:=bL h;clear eV eU;unfold fF;rw[bl_length];by_cases h1:0<=x/\(s.size:Int)+x<=21
 ·rw[if_pos h1]
  obtain⟨k,rfl⟩:∃k:Nat,x=k:=⟨x.toNat,by omega⟩
  rw[Int.toNat_natCast];cases n
  ·exact lR s k (by omega) w h
  exact mM s k (by omega) w h
 rw[if_neg h1];by_cases h2:x<0/\-21<=x
 ·rw[if_pos h2]
  obtain⟨bh,rfl⟩:∃bh:Nat,x=-(bh:Int):=⟨(-x).toNat,by omega⟩
  rw[show(- -(bh:Int)).toNat=bh by omega];unfold dB;rw[bl_length];by_cases h3:s.size<=bh
  ·rw[if_pos h3]
   cases n
   ·exact oF s bh (bh-s.size) (by omega) (by omega) (by omega) w h
   exact pB s bh (bh-s.size) (by omega) (by omega) (by omega) w h
  rw[if_neg h3];cases n
  ·exact oG s bh (s.size-bh) (by omega) (by omega) (by omega) (by omega) w h
  exact pC s bh (s.size-bh) (by omega) (by omega) (by omega) (by omega) w h
 rw[if_neg h2];unfold dd;rw[bl_length];by_cases h4:1<s.size
 ·rw[if_pos h4]
  by_cases h3:x<0
  ·cases n
   ·exact lT s x h4 h3 (by omega) w h
   exact mO s x h4 h3 (by omega) w h
  cases n
  ·exact nK s x h4 (by omega) (by omega) w h
  exact oE s x h4 (by omega) (by omega) w h
 rw[if_neg h4,List.append_nil];by_cases h3:x<0
 ·cases n
  ·exact lS s x (by omega) h3 (by omega) w h
  exact mN s x (by omega) h3 (by omega) w h
 cases n
 ·exact nJ s x (by omega) (by omega) (by omega) w h
 exact oD s x (by omega) (by omega) (by omega) w h
namespace Lx
theorem Lk:(Tryz.prog.info? 48).map (fun i=>(i.zero,i.size,i.bytes))=some (some (.agg #[.int .i64 0,.slice none 0 0,.slice none 0 0]),3,56):=by kernel_rfl
structure S2 where
 ns:Value
 ls:Value
def cE(h:Th)(s:S2):Array Value:=fR h s.ns s.ls
def lN(n:Nat)(w:World)(x:TT n)(q:S2):Prop:=RT n w x q.ns q.ls
abbrev Na (n:Nat) (w:World) (v:Value) (l:List (TT n)):Prop:=TL n w v l
theorem lN.below{n:Nat}{w W:World}{x:TT n}{s:S2}(h:lN n w x s)(hb:Below w.heap.size w W):lN n W x s:=RT.below h hb
theorem lN.shape{n:Nat}{w:World}{x:TT n}{s:S2}(h:lN n w x s):∃a m c a' m' c',s=⟨.slice a m c,.slice a' m' c'⟩:=by obtain⟨a,m,c,a',m',c',e,e'⟩:=RT.shape h;cases s;simp only at e e';exact⟨a,m,c,a',m',c',by rw[e,e']⟩
def KQ(n:Nat)(W:World)(x:TT n)(q:S2)(s e:Nat):Prop:=s<=e/\e<=W.heap.size/\∀W':World,(∀k,s<=k->k<e->W'.heap[k]?=W.heap[k]?)->lN n W' x q
theorem KQ.move{n:Nat}{W W1:World}{x:TT n}{q:S2}{s e:Nat}(h:KQ n W x q s e)(hs:e<=W1.heap.size)(hb:∀k,s<=k->k<e->W1.heap[k]?=W.heap[k]?):KQ n W1 x q s e :=
 ⟨h.1,hs,fun W' h'=>h.2.2 W' fun k h1 h2=>(h' k h1 h2).trans (hb k h1 h2)⟩
theorem KQ.rd{n:Nat}{W:World}{x:TT n}{q:S2}{s e:Nat}(h:KQ n W x q s e):lN n W x q:=h.2.2 W fun _ _ _=>rfl
theorem KQ.wide{n:Nat}{W:World}{x:TT n}{q:S2}{s e s' e':Nat}(h:KQ n W x q s e)(h1:s'<=s)(h2:e<=e')(h3:e'<=W.heap.size):KQ n W x q s' e':=⟨by have:=h.1;omega,h3,fun W' h'=>h.2.2 W' fun k a b=>h' k (by omega) (by omega)⟩
def FO(n L:Nat)(W:World)(v:Value)(l:List (TT n)):Prop:=∃xs,W.ownsRow L 48 3 v l.length xs/\∀j (h:j<l.length),∃q s e,KQ n W l[j] q s e/\L<=s/\(∀g,v.ownBlock=some g->g<s\/e<=g)/\∀r u,(cE (gz n l[j]) q).toList[r]?=some u->xs[j*3+r]?=some u
theorem FO.shape{n L:Nat}{W:World}{v:Value}{l:List (TT n)}(h:FO n L W v l):∃a c,v=.slice a l.length c:=by
 obtain⟨xs,h,_⟩:=h;rcases h.2 with⟨rfl,e⟩|⟨g,cap,cur,rfl,_⟩
 ·exact⟨none,0,by rw[e]⟩
 exact⟨_,_,rfl⟩
theorem FO.keep{n L:Nat}{W W1:World}{v:Value}{l:List (TT n)}(h:FO n L W v l)(hz:W.heap.size<=W1.heap.size)(hb:∀k,L<=k->k<W.heap.size->W1.heap[k]?=W.heap[k]?):FO n L W1 v l:=by obtain⟨xs,h1,h2⟩:=h;have bm:=World.ownsRow.lt h1;refine⟨xs,aX h1 fun g hg hl=>hb g (bm g hg).1 hl,fun j hj=>?_⟩;obtain⟨q,s,e,k1,k2,k3,k4⟩:=h2 j hj;exact⟨q,s,e,k1.move (by have:=k1.2.1;omega) (fun k a b=>hb k (by omega) (by have:=k1.2.1;omega)),k2,k3,k4⟩
theorem FO.fb{n L B:Nat}{W W1:World}{v:Value}{l:List (TT n)}(h:FO n L W v l)(hb:FB B W W1)(hB:B<L):FO n L W1 v l:=h.keep hb.size fun k a b=>hb.blk k b (by omega)
theorem FO.el{n L:Nat}{W W':World}{v:Value}{l:List (TT n)}(h:FO n L W v l)(hb:∀k,L<=k->k<W.heap.size->W'.heap[k]?=W.heap[k]?):Na n W' v l:=by
 obtain⟨xs,hx,dU⟩:=h;have hr:=World.ownsRow.lt hx;have gT:=hx;obtain⟨h0,h1⟩:=hx;rcases h1 with⟨rfl,e⟩|⟨g,cap,cur,rfl,k1,k2,k3,k4,k5,k6⟩
 ·exact Or.inl ⟨rfl,List.eq_nil_of_length_eq_zero e⟩
 have hg:=(hr g rfl).2;have hsame:W'.heap[g]?=W.heap[g]?:=hb g (hr g rfl).1 hg;refine Or.inr ⟨g,0,cap,none,rfl,k3,k4,fun _=>⟨rfl,?_⟩,fun i hi=>?_⟩
 ·by_cases bm:g<W'.heap.size
  ·exact bm
  rw[k2,Array.getElem?_eq_none (by omega)]at hsame;cases hsame
 obtain⟨q',s,e,q1,q2,q3,q4⟩:=dU i hi;refine⟨q'.ns,q'.ls,?_,q1.2.2 W' fun k r1 r2=>hb k (by omega) (by have:=q1.2.1;omega)⟩;intro r u Ia;have hq:=q4 r u Ia;have bm:=(List.getElem?_eq_some_iff.1 hq).1;rw[Nat.zero_add,World.cell?_of_block (a:=⟨g,i*3+r,none⟩) hsame,World.ownsRow.cellAt gT _ (by rw[h0]at bm;exact bm)];exact hq
section
variable {w : World} {ops : Array Oper} {rest : List Oper} {o : Oper} {a : Act} {Q : Exit → Act → World → Prop}
theorem MZ(hgd:o.guard=none)(s x:Operand)(ho:o.op=.call {callee:=.builtin .append,args:=#[s,x],argTypes:=#[46,46]})
  (B:Nat) (v:Value) (n:Nat) (xs:List Value) (hs:a.eval s=v) (bz:w.ownsRow B 48 3 v n xs) (g c:Nat) (hx:a.eval x=.slice (some ⟨g,0,none⟩) 1 c) (hd:Th) (q:S2) (h1:q.ns.oneCell'=true) (h2:q.ls.oneCell'=true) 
  (hnews:w.rangeAt g 0 (cE hd q).toList) (hm:n<=200000) (hB:B<=w.heap.size)
  (h:∀av c' w',Hid (w'.ownsRow B 48 3 (.slice av (n+1) c') (n+1) (xs++(cE hd q).toList))->Hid (w.grownBy w' v.ownBlock)->Hid ((Value.slice av (n+1) c').ownBlock=v.ownBlock\/(Value.slice av (n+1) c').ownBlock=some w.heap.size)->wpList prog ops Q rest (a.put o.dst (.slice av (n+1) c')) w'):wpList prog ops Q (o::rest) a w:=by
 obtain⟨i0,hi,fY,gD,eR⟩:=info_parts Lk;refine wpList_append_own_at w hgd s x 46 ho B 48 i0 _ 3 56 Tryz.underlying46 hi fY gD eR rfl (by decide) v n xs hs bz ⟨g,0,none⟩ 1 c (cE hd q).toList hx rfl ?_ ?_ ?_ ?_ hB ?_
 ·intro j u hj
  have:=hnews j u hj;rw[show(⟨g,0,none⟩:Addr).add j=⟨g,0+j,none⟩by unfold Addr.add;split<;>simp_all];exact this
 ·intro u hu
  simp only[cE,fR,List.mem_cons,List.not_mem_nil,or_false]at hu;rcases hu with rfl|rfl|rfl
  all_goals first|rfl|exact h1|exact h2
 ·unfold maxLen;omega
 ·omega
 intro v' w' h1 h2 h3 h4;rcases h1.2 with⟨rfl,e⟩|⟨g',cap,cur,rfl,_⟩
 ·omega
 exact h _ _ w' h1 h2 h4
end
structure Ty(W:World)(i:Nat)(h:Th)(q:S2):Prop where
 at_:W.heap[i]?=some (.cells (cE h q) 48 (0,0))
theorem Ty.lt{W:World}{i:Nat}{h:Th}{q:S2}(k:Ty W i h q):i<W.heap.size:=(Array.getElem?_eq_some_iff.1 k.at_).1
theorem Ty.below{W W1:World}{i:Nat}{h:Th}{q:S2}(k:Ty W i h q)(hb:Below W.heap.size W W1):Ty W1 i h q:=⟨(hb.block _ k.lt).trans k.at_⟩
theorem Ty.fb{W W1:World}{i B:Nat}{h:Th}{q:S2}(k:Ty W i h q)(hb:FB B W W1)(hn:i≠B):Ty W1 i h q:=⟨(hb.blk _ k.lt hn).trans k.at_⟩
theorem Ty.cell{W:World}{i:Nat}{h:Th}{q:S2}(k:Ty W i h q)(j:Nat):W.cell? ⟨i,j,none⟩=(cE h q)[j]?:=by unfold World.cell?;rw[k.at_];rfl
theorem Ty.frz{W:World}{i:Nat}{h:Th}{q:S2}(k:Ty W i h q)(j:Nat):W.frozen? ⟨i,j,none⟩=false:=by have:=k.at_;simp[World.frozen?,this]
theorem Ty.cells{W:World}{i:Nat}{h:Th}{q:S2}(k:Ty W i h q):W.cell? ⟨i,0,none⟩=some (.int .i64 h.kind)/\W.cell? ⟨i,1,none⟩=some q.ns/\W.cell? ⟨i,2,none⟩=some q.ls :=
 ⟨k.cell 0,k.cell 1,k.cell 2⟩
theorem Ty.range{W:World}{i:Nat}{h:Th}{q:S2}(k:Ty W i h q):W.rangeAt i 0 (cE h q).toList:=by intro j v hj;rw[Nat.zero_add,k.cell j,<-hj,Array.getElem?_toList]
def tf(k:Int):Th:=⟨k,[]⟩
def tz:Th:=tf 0
def jU:S2:=⟨.slice none 0 0,.slice none 0 0⟩
theorem po(w:World):Ty (w.alloc (.cells #[.int .i64 0,.slice none 0 0,.slice none 0 0] 48)) w.heap.size tz jU:=⟨Array.getElem?_push_size⟩
def PT(n B:Nat)(w:World)(o:Sum Int (TT n×List Tk))(e:Ending)(w':World):Prop:=FB B w w'/\match o with
 | .inl p=>e=.panicked (pw p)
 | .inr x=>∃q,e=.returned (.agg (cE (gz n x.1) q))/\KQ n w' x.1 q w.heap.size w'.heap.size/\TQ w' B x.2
def IN(n F:Nat)(M:List Tk->Sum Int (TT n×List Tk))(f:Nat):Prop:=∀(w:World) (B:Nat) (l:List Tk),Lq w B l->l.length<=f->Calls prog F #[lv B] w fun e w'=>PT n B w (M l) e w'
theorem KQ.fb{n B:Nat}{W W1:World}{x:TT n}{q:S2}{s e:Nat}(h:KQ n W x q s e)(hb:FB B W W1)(hB:B<s):KQ n W1 x q s e:=h.move (by have:=h.2.1;have:=hb.size;omega) fun k a b=>hb.blk k (by have:=h.2.1;omega) (by omega)
theorem KQ.below{n:Nat}{W W1:World}{x:TT n}{q:S2}{s e:Nat}(h:KQ n W x q s e)(hb:Below W.heap.size W W1):KQ n W1 x q s e:=h.move (by have:=h.2.1;have:=hb.size;omega) fun k a b=>hb.block k (by have:=h.2.1;omega)
theorem KQ.set{n i o:Nat}{W:World}{x:TT n}{q:S2}{s e:Nat}{u:Value}(h:KQ n W x q s e)(hi:i<s):KQ n (W.setCell ⟨i,o,none⟩ u) x q s e:=h.move (by simp;exact h.2.1) fun k a b=>Below.heap_setCell _ _ _ _ (by show k≠i;omega)
theorem KQ.al{n:Nat}{W:World}{x:TT n}{q:S2}{s e:Nat}{o:Obj}(h:KQ n W x q s e):KQ n (W.alloc o) x q s e:=h.below (ab af)
theorem KQ.fin{n:Nat}{W:World}{x:TT n}{q:S2}{s e s':Nat}(h:KQ n W x q s e)(hs:s'<=s):KQ n W x q s' W.heap.size:=h.wide hs h.2.1 (Nat.le_refl _)
theorem eu(w:World)(h:Th)(q:S2):Ty (w.alloc (.cells (cE h q) 48)) w.heap.size h q:=⟨Array.getElem?_push_size⟩
theorem PT.bad{n B:Nat}{w w':World}{R:Sum Int (TT n×List Tk)}{p:Int}(e:R=.inl p)(hb:FB B w w'):PT n B w R (.panicked (pw p)) w':=by rw[e];exact⟨hb,rfl⟩
theorem PT.good{n B:Nat}{w w':World}{R:Sum Int (TT n×List Tk)}{x:TT n×List Tk}{q:S2}(e:R=.inr x)(hb:FB B w w')(hk:KQ n w' x.1 q w.heap.size w'.heap.size)(ht:TQ w' B x.2):PT n B w R (.returned (.agg (cE (gz n x.1) q))) w':=by rw[e];exact⟨hb,q,rfl,hk,ht⟩
structure T2(n L:Nat)(W:World)(nv v:Value)(nms:List ByteArray)(l:List (TT n))(xs:List Value):Prop where
 nrow:nA W L nv nms
 row:W.ownsRow L 48 3 v l.length xs
 all:∀j (h:j<l.length),∃q s e,KQ n W l[j] q s e/\L<=s/\(∀g,v.ownBlock=some g\/nv.ownBlock=some g->g<s\/e<=g)/\∀r u,(cE (gz n l[j]) q).toList[r]?=some u->xs[j*3+r]?=some u
theorem T2.er{n L:Nat}{W:World}{nv v:Value}{nms:List ByteArray}{l:List (TT n)}{xs:List Value}(h:T2 n L W nv v nms l xs):FO n L W v l:=⟨xs,h.row,fun j hj=>by obtain⟨q,s,e,a,b,c,d⟩:=h.all j hj;exact⟨q,s,e,a,b,fun g hg=>c g (Or.inl hg),d⟩⟩
theorem T2.nil(n L:Nat)(W:World):T2 n L W (.slice none 0 0) (.slice none 0 0) [] [] []:=⟨World.ownsRow_nil _ _ _ _,World.ownsRow_nil _ _ _ _,fun j h=>by simp at h⟩
theorem T2.keep{n L:Nat}{W W1:World}{nv v:Value}{nms:List ByteArray}{l:List (TT n)}{xs:List Value}(h:T2 n L W nv v nms l xs)(hz:W.heap.size<=W1.heap.size)(hb:∀k,L<=k->k<W.heap.size->W1.heap[k]?=W.heap[k]?):T2 n L W1 nv v nms l xs:=by have bm:=World.ownsRow.lt h.row;have LY:=World.ownsRow.lt h.nrow;refine⟨aX h.nrow fun g hg hl=>hb g (LY g hg).1 hl,aX h.row fun g hg hl=>hb g (bm g hg).1 hl,fun j hj=>?_⟩;obtain⟨q,s,e,k1,k2,k3,k4⟩:=h.all j hj;exact⟨q,s,e,k1.move (by have:=k1.2.1;omega) (fun k a b=>hb k (by omega) (by have:=k1.2.1;omega)),k2,k3,k4⟩
theorem T2.fb{n L B:Nat}{W W1:World}{nv v:Value}{nms:List ByteArray}{l:List (TT n)}{xs:List Value}(h:T2 n L W nv v nms l xs)(hb:FB B W W1)(hB:B<L):T2 n L W1 nv v nms l xs:=h.keep hb.size fun k a b=>hb.blk k b (by omega)
theorem T2.below{n L:Nat}{W W1:World}{nv v:Value}{nms:List ByteArray}{l:List (TT n)}{xs:List Value}(h:T2 n L W nv v nms l xs)(hb:Below W.heap.size W W1):T2 n L W1 nv v nms l xs:=h.keep hb.size fun k a b=>hb.block k b
theorem T2.al{n L:Nat}{W:World}{nv v:Value}{nms:List ByteArray}{l:List (TT n)}{xs:List Value}{o:Obj}(h:T2 n L W nv v nms l xs):T2 n L (W.alloc o) nv v nms l xs:=h.below (ab af)
theorem T2.lt{n L:Nat}{W:World}{nv v:Value}{nms:List ByteArray}{l:List (TT n)}{xs:List Value}(h:T2 n L W nv v nms l xs):∀g,v.ownBlock=some g\/nv.ownBlock=some g->L<=g/\g<W.heap.size:=by
 intro g hg;rcases hg with hg|hg
 ·exact World.ownsRow.lt h.row g hg
 exact World.ownsRow.lt h.nrow g hg
theorem T2.apart{n L:Nat}{W:World}{nv v:Value}{nms:List ByteArray}{l:List (TT n)}{xs:List Value}(h:T2 n L W nv v nms l xs):∀g,v.ownBlock=some g->nv.ownBlock=some g->False:=by
 intro g h1 h2;rcases h.row.2 with⟨rfl,e⟩|⟨g1,cap,cur,rfl,_,k2,_⟩
 ·cases h1
 rcases h.nrow.2 with⟨rfl,e⟩|⟨g2,cap,cur,rfl,_,k3,_⟩
 ·cases h2
 cases h1;cases h2;rw[k2]at k3;have:=Option.some.inj k3;injection this with _ e _
 exact absurd e (by decide)
theorem T2.name{n L N:Nat}{W w':World}{nv nv' v:Value}{nms:List ByteArray}{l:List (TT n)}{xs:List Value}{st:ByteArray}(h:T2 n L W nv v nms l xs)(hN:nms.length=N)(hg:W.grownBy w' nv.ownBlock)(ho:w'.ownsRow L 9 1 nv' (N+1) (tN nms++[.string st]))(sU:nv'.ownBlock=nv.ownBlock\/nv'.ownBlock=some W.heap.size):T2 n L w' nv' v (nms++[st]) l xs:=by
 have hz:=hg.size;refine⟨?_,?_,fun j hj=>?_⟩
 ·unfold nA
  rw[List.length_append,List.length_singleton,hN]
  simpa [tN] using ho
 ·exact aX h.row fun g dG hl=>hg.block g hl (fun e=>h.apart g dG e.symm)
 obtain⟨q,s,e,k1,k2,k3,k4⟩:=h.all j hj;have:=k1.2.1;refine⟨q,s,e,k1.move (by omega) (fun k a b=>hg.block k (by omega) (fun e1=>by rcases k3 k (Or.inr e1.symm)with h|h<;>omega)),k2,?_,k4⟩;intro g dG;rcases dG with dG | dG
 ·exact k3 g (Or.inl dG)
 rcases sU with h1|h1
 ·exact k3 g (Or.inr (h1▸dG))
 rw[h1]at dG;cases dG;right;omega
theorem T2.push{n L N s0 e0:Nat}{W w':World}{nv v v':Value}{nms:List ByteArray}{l:List (TT n)}{xs:List Value}{x:TT n}{q:S2}(h:T2 n L W nv v nms l xs)(hN:l.length=N)(hc:KQ n W x q s0 e0)(ow:L<=s0)(hap:∀g,v.ownBlock=some g\/nv.ownBlock=some g->g<s0)(hg:W.grownBy w' v.ownBlock)(ho:w'.ownsRow L 48 3 v' (N+1) (xs++(cE (gz n x) q).toList))(sU:v'.ownBlock=v.ownBlock\/v'.ownBlock=some W.heap.size):T2 n L w' nv v' nms (l++[x]) (xs++(cE (gz n x) q).toList):=by
 have hz:=hg.size;have WH:=hc.2.1;refine⟨?_,?_,fun j hj=>?_⟩
 ·exact aX h.nrow fun g dG hl=>hg.block g hl (fun e=>h.apart g e.symm dG)
 ·rw[List.length_append,List.length_singleton,hN];exact ho
 rw[List.length_append,List.length_singleton]at hj;by_cases oN:j<l.length
 ·obtain⟨q',s,e,k1,k2,k3,k4⟩:=h.all j oN
  have:=k1.2.1;rw[List.getElem_append_left oN];refine⟨q',s,e,k1.move (by omega) (fun k a b=>hg.block k (by omega) (fun e1=>by rcases k3 k (Or.inl e1.symm)with h|h<;>omega)),k2,?_,?_⟩
  ·intro g dG
   rcases dG with dG | dG
   ·rcases sU with h1|h1
    ·exact k3 g (Or.inl (h1▸dG))
    rw[h1]at dG;cases dG;right;omega
   exact k3 g (Or.inr dG)
  intro r u hr;have:=k4 r u hr;rw[List.getElem?_append_left ((List.getElem?_eq_some_iff.1 this).1)];exact this
 obtain rfl:j=l.length:=by omega
 rw[List.getElem_append_right (Nat.le_refl _)];simp only[Nat.sub_self,List.getElem_cons_zero];refine⟨q,s0,e0,hc.move (by omega) (fun k a b=>hg.block k (by omega) (fun e1=>by have:=hap k (Or.inl e1.symm);omega)),ow,?_,?_⟩
 ·intro g dG
  rcases dG with dG | dG
  ·rcases sU with h1|h1
   ·left;exact hap g (Or.inl (h1▸dG))
   rw[h1]at dG;cases dG;right;omega
  left;exact hap g (Or.inr dG)
 intro r u hr;have hl:xs.length=l.length*3:=h.row.1;rw[List.getElem?_append_right (by omega),hl,Nat.add_sub_cancel_left];exact hr
theorem T2.nl{n L:Nat}{W:World}{nv v:Value}{nms:List ByteArray}{l:List (TT n)}{xs:List Value}(h:T2 n L W nv v nms l xs):NL W nv nms:=wU h.nrow
theorem T2.notB{n L B:Nat}{W:World}{nv v:Value}{nms:List ByteArray}{l:List (TT n)}{xs:List Value}(h:T2 n L W nv v nms l xs)(hB:B<L):IX B nv:=by intro b o sp m c e;have:=(World.ownsRow.lt h.nrow b (by rw[e];rfl)).1;omega
theorem T2.shape{n L:Nat}{W:World}{nv v:Value}{nms:List ByteArray}{l:List (TT n)}{xs:List Value}(h:T2 n L W nv v nms l xs):∃a c a' c',nv=.slice a nms.length c/\v=.slice a' l.length c':=by obtain⟨a,c,e,_⟩:=h.nl.len;obtain⟨a',c',e'⟩:=h.er.shape;exact⟨a,c,a',c',e,e'⟩
def vU(n B:Nat)(w:World)(o:Sum Int (List (List UInt8)×List (TT n)×List Tk))(e:Ending)(w':World):Prop:=FB B w w'/\match o with
 | .inl p=>e=.panicked (pw p)
 | .inr y=>∃nv v xs,e=.returned (.tuple #[nv,v])/\T2 n (w.heap.size+1) w' nv v (y.1.map aj) y.2.1 xs/\TQ w' B y.2.2
theorem vU.bad{n B:Nat}{w w':World}{R:Sum Int (List (List UInt8)×List (TT n)×List Tk)}{p:Int}(e:R=.inl p)(hb:FB B w w'):vU n B w R (.panicked (pw p)) w':=by rw[e];exact⟨hb,rfl⟩
theorem vU.good{n B:Nat}{w w':World}{R:Sum Int (List (List UInt8)×List (TT n)×List Tk)}{y:List (List UInt8)×List (TT n)×List Tk}{nv v:Value}{xs:List Value}(e:R=.inr y)(hb:FB B w w')(hk:T2 n (w.heap.size+1) w' nv v (y.1.map aj) y.2.1 xs)(ht:TQ w' B y.2.2):vU n B w R (.returned (.tuple #[nv,v])) w':=by rw[e];exact⟨hb,nv,v,xs,rfl,hk,ht⟩
structure NJ(n B f:Nat)(k:List UInt8)(M:List Tk->Sum Int (TT n×List Tk))(w:World)(R:Sum Int (List (List UInt8)×List (TT n)×List Tk))(W:World)(nv v:Value)(ns:List (List UInt8))(xs:List (TT n))(l:List Tk):Prop where
 fuel:∃g,l.length<=g/\oi k M g ns xs l=R
 lq:Lq W B l
 fb:FB B w W
 rows:∃us,T2 n (w.heap.size+1) W nv v (ns.map aj) xs us
 lb:LB W w.heap.size B
 few:ns.length+l.length<=100000/\xs.length=ns.length/\l.length<=f
theorem wW{n f:Nat}{M:List Tk->Sum Int (TT n×List Tk)}(hM:IN n 51 M f)(hG:Gd M)(k:List UInt8)(hk:k≠[]){w:World}{B:Nat}{l:List Tk}(h:Lq w B l)(hl:l.length<=f):Calls prog 145 #[lv B,.string (aj k),.func (.func 51) #[] #[]] w fun e w'=>vU n B w (dK k M l) e w':=by
 have jQ:=h.tq.sz;have zo:l.length<=100000:=by obtain⟨a,c,_,_,_,_⟩:=h.tq;omega
 have H:=aa h;have ZL:=aa (gO w B);obtain⟨R,hR⟩:∃R,dK k M l=R:=⟨_,rfl⟩
 rw[hR];have HR:=aa hR;have dS:w.heap.size≠B:=by omega
 have HM:=aa hM;have HK:=aa hk;have HG:=aa hG;have jW:=fI (m:=[125]) h.ok (by simp);have hh:Hid (∀w',Lq w' B l->Calls prog 62 #[lv B,.string ⟨#[125]⟩] w' fun e w''=>e=.returned (.bool (cq [125] l).1)/\TQ w'' B (cq [125] l).2/\FB B w' w''):=fun w' hq=>kI [125] hq;clear hR h hM hG;unfold lv at hh ⊢;rcases hb:(cq [125] l).1 with _|_
 ·rw[hb]at hh
  have e1:=jW.2 hb;rw[e1]at hh;have HR2:Hid (oi k M l.length [] [] l=R):=by show _=_;rw[<-HR.out];simp[dK,hb,e1]
  clear HR hb jW e1;go_enter func145,ntmps145
  go_wp2_with(first|(go_at_call 62;refine(hh.out _ H.out.al).mono ?_;rintro e w3 ⟨rfl,dC,ar⟩;have kL:=(ZL.out.fb ar dS).cells;have kl:=(ZL.out.fb ar dS).lt))
  have start:Hid (NJ n B f k M w R w3 (.slice none 0 0) (.slice none 0 0) [] [] l):=⟨⟨_,Nat.le_refl _,HR2.out⟩,H.out.al.fb ar dC H.out.ok,(FB.of (ab af)).trans ar,⟨[],T2.nil _ _ _⟩,ZL.out.fb ar dS,by simp;omega,rfl,hl⟩
  clear HR2 dC ar kL kl ZL hh H hl;go_loopw [6,7] (fun nv v w'=>∃ns xs l',Hid (NJ n B f k M w R w' nv v ns xs l')) (fun _ _ w'=>lenB w' B)
  case atStart=>exact⟨[],[],l,start.out⟩
  case round=>
   obtain⟨ns,xs,l1,HI⟩:=hrel;clear start;obtain⟨⟨g,hg,JC⟩,xy,JD,⟨us,hE⟩,ic,pU,jD,nk⟩:=HI.out;have ti:B<w.heap.size+1:=by omega
   obtain⟨a,c,a',c',e1,e2⟩:=hE.shape;rw[List.length_map]at e1;rw[jD]at e2;have xu:=hE.notB ti;have AT:=hE.nl;obtain⟨N,hN⟩:∃N,ns.length=N:=⟨_,rfl⟩
   rw[hN]at e1 e2 pU jD;subst e1 e2;have h1:0<l1.length:=by obtain⟨t,r,rfl⟩:=xy.ok.cons;simp
   obtain⟨g,rfl⟩:∃g',g=g'+1:=⟨g-1,by omega⟩
   have aL:=xy.tq.lenB;have HNM:Hid (∀w',Lq w' B l1->NL w' (.slice a N c) (ns.map aj)->Calls prog 117 #[lv B,.slice a N c] w' fun e w''=>NP B w' (go ns l1) e w''):=fun w' p1 p2=>kT ns p1 p2 xu;have LQ:=aa xy;have FBw:=aa JD;have HE:=aa hE;have LBw:=aa ic;have NL0:=aa AT;have iY:=ic.cells;have Bf:(ns.map aj).length=N:=by rw[List.length_map];exact hN
   have HN2:=aa Bf;have El:xs.length=N:=jD;have HX:=aa El;have HF3:=aa nk;have hN200:N<=200000:=by omega
   have Hlen:=aa aL;have FU:=aa JC;have Ms:=aa hg;clear HI JC xy JD hE ic AT xu Bf El nk aL jD hg;unfold lv at HNM;go_wp2_with(go_at_call 117;refine ak.out ?_)
   refine ak.mk ?_;rcases hs:go ns l1 with p|s
   ·rw[hs]at HNM
    have e2:Hid (R=.inl p):=by show _=_;rw[<-FU.out];simp[oi,hs]
    refine(HNM.out _ LQ.out NL0.out).mono ?_;rintro e w1 ⟨ai,rfl⟩;clear FU hs
    first|exact⟨rfl,vU.bad e2.out (FBw.out.trans ai)⟩|(go_wp2_with fail;exact⟨rfl,vU.bad e2.out (FBw.out.trans ai)⟩)
   rw[hs]at HNM;have N1:=aa (jk LQ.out.ok hs);refine(HNM.out _ LQ.out NL0.out).mono ?_;rintro e w1 ⟨ai,rfl,LP⟩;have Q1:=aa (LQ.out.fb ai LP N1.out.1);have E1:=aa (HE.out.fb ai ti);have L1:=aa (LBw.out.fb ai dS);have F1:=aa (FBw.out.trans ai);clear ai LP iY LQ HE LBw FBw NL0 HNM;go_wp2_with(at_builtin;refine ak.out ?_)
   refine ak.mk ?_;refine FM rfl (.tmp 10) (.tmp 14) rfl (w.heap.size+1) (.slice a N c) N (tN (ns.map aj)) rfl (yI E1.out.al.nrow HN2.out) w1.heap.size 1 rfl (aj s.1) (cell_one_new _ _ _ 0 _ rfl) hN200 (by rw[World.size_alloc];have:=F1.out.size;omega) ?_;intro av cv w2 o2 g2 at2;have zl:=E1.out.lt;have E3:=aa (E1.out.al.name HN2.out g2.out o2.out at2.out);have Q2:=aa (Q1.out.al.grown g2.out (fun g hg=>by have:=(zl g (Or.inr hg)).1;omega));have L2:=aa ((L1.out.below (ab af)).grown g2.out (fun g hg=>by have:=(zl g (Or.inr hg)).1;omega));have F2:=aa (F1.out.al.grown g2.out (fun g hg=>by have:=(zl g (Or.inr hg)).1;omega));have kL2:=L2.out.cells;clear o2 g2 at2 zl E1 Q1 L1 F1;have HW:Hid (∀w',Lq w' B s.2->Calls prog 96 #[lv B,.string (aj k)] w' fun e w''=>WP B w' (dc k s.2) e w''):=fun w' p1=>eP k p1;unfold lv at HW;go_wp2_with(go_at_call 96;refine ak.out ?_)
   refine ak.mk ?_;rcases hw:dc k s.2 with p|l2
   ·rw[hw]at HW
    have e2:Hid (R=.inl p):=by show _=_;rw[<-FU.out];simp[oi,hs,hw]
    refine(HW.out _ Q2.out).mono ?_;rintro e w3 ⟨ar,rfl⟩;clear FU hs hw
    first|exact⟨rfl,vU.bad e2.out (F2.out.trans ar)⟩|(go_wp2_with fail;exact⟨rfl,vU.bad e2.out (F2.out.trans ar)⟩)
   rw[hw]at HW;have N2:=aa (bU N1.out.1 HK.out hw);refine(HW.out _ Q2.out).mono ?_;rintro e w3 ⟨ar,rfl,dC⟩;have Q3:=aa (Q2.out.fb ar dC N2.out.1);have E4:=aa (E3.out.fb ar ti);have L3:=aa (L2.out.fb ar dS);have F3:=aa (F2.out.trans ar);have kL3:=L3.out.cells;clear ar dC Q2 E3 L2 F2 kL2 HW;have HI:Hid (∀w',Lq w' B l2->Calls prog 51 #[lv B] w' fun e w''=>PT n B w' (M l2) e w''):=fun w' p1=>HM.out w' B l2 p1 (by have:=N1.out.2;have:=N2.out.2;have:=HF3.out;omega);unfold lv at HI;go_wp2_with(go_at_call 51;refine ak.out ?_)
   refine ak.mk ?_;rcases hm:M l2 with p|x
   ·rw[hm]at HI
    have e2:Hid (R=.inl p):=by show _=_;rw[<-FU.out];simp[oi,hs,hw,hm]
    refine(HI.out _ Q3.out).mono ?_;rintro e w4 ⟨aO,rfl⟩;clear FU hs hw hm
    first|exact⟨rfl,vU.bad e2.out (F3.out.trans aO)⟩|(go_wp2_with fail;exact⟨rfl,vU.bad e2.out (F3.out.trans aO)⟩)
   rw[hm]at HI;have N3:=aa (HG.out _ _ N2.out.1 hm);refine(HI.out _ Q3.out).mono ?_;rintro e w4 ⟨aO,q,rfl,Ii,vd⟩;have K4:=aa Ii;obtain⟨b1,b2,b3,b4,b5,b6,aK⟩:=Ii.rd.shape;subst aK;have Q4:=aa (Q3.out.fb aO vd N3.out.1);have Gc:=aa (E4.out.lt);have E5:=aa (E4.out.fb aO ti);have L4:=aa (L3.out.fb aO dS);have F4:=aa (F3.out.trans aO);have kz4:=aO.size;have kz3:=F3.out.size;have kz5:=L3.out.lt;clear aO vd Ii Q3 E4 L3 kL3 HI;unfold cE fR
   dsimp only
   go_wp2_with(at_builtin;refine ak.out ?_)
   refine ak.mk ?_;refine MZ rfl (.tmp 19) (.tmp 23) rfl (w.heap.size+1) (.slice a' N c') N us rfl (rV E5.out.al.row HX.out) w4.heap.size 1 rfl (gz n x.1) ⟨.slice b1 b2 b3,.slice b4 b5 b6⟩ rfl rfl ((eu _ _ _).range) hN200 (by rw[World.size_alloc];have:=F4.out.size;omega) ?_;intro av2 cv2 w5 o5 g5 at5;have vN:=E5.out.lt;have E6:=aa (E5.out.al.push HX.out K4.out.al (by omega) (fun g hg=>(Gc.out g hg).2) g5.out o5.out at5.out);have Q5:=aa (Q4.out.al.grown g5.out (fun g hg=>by have:=(vN g (Or.inl hg)).1;omega));have L5:=aa ((L4.out.below (ab af)).grown g5.out (fun g hg=>by have:=(vN g (Or.inl hg)).1;omega));have F5:=aa (F4.out.al.grown g5.out (fun g hg=>by have:=(vN g (Or.inl hg)).1;omega));have kL5:=L5.out.cells;clear o5 g5 at5 vN Gc E5 Q4 L4 F4 K4;have AX:=fI (m:=[125]) N3.out.1 (by simp);have HH:Hid (∀w',Lq w' B x.2->Calls prog 62 #[lv B,.string ⟨#[125]⟩] w' fun e w''=>e=.returned (.bool (cq [125] x.2).1)/\TQ w'' B (cq [125] x.2).2/\FB B w' w''):=fun w' hq=>kI [125] hq;unfold lv at HH;go_wp2_with(go_at_call 62;refine ak.out ?_)
   refine ak.mk ?_;rcases hh:(cq [125] x.2).1 with _|_
   rotate_left
   ·rw[hh]at HH
    have N6:=aa (AX.1 hh).1;have e2:Hid (R=.inr (ns++[s.1],xs++[x.1],(cq [125] x.2).2)):=by show _=_;rw[<-FU.out];simp[oi,hs,hw,hm,hh]
    clear FU hs hw hm hh AX;refine(HH.out _ Q5.out).mono ?_;rintro e w6 ⟨rfl,vO,da⟩;have Q6:=aa (Q5.out.fb da vO N6.out);have E7:=aa (E6.out.fb da ti);have F6:=aa (F5.out.trans da);clear da vO Q5 E6 L5 F5 kL5;go_wp2_with fail
    go_ret2;refine vU.good (y:=(ns++[s.1],xs++[x.1],(cq [125] x.2).2)) e2.out F6.out (xs:=us++(cE (gz n x.1) ⟨.slice b1 b2 b3,.slice b4 b5 b6⟩).toList) ?_ Q6.out.tq;show T2 _ _ _ _ _ ((ns++[s.1]).map aj) _ _;rw[List.map_append];exact E7.out
   rw[hh,AX.2 hh]at HH;have N6:=aa N3.out.1;have In:=AX.2 hh;refine(HH.out _ Q5.out).mono ?_;rintro e w6 ⟨rfl,vO,da⟩;have Q6:=aa (Q5.out.fb da vO N6.out);have E7:=aa (E6.out.fb da ti);have L6:=aa (L5.out.fb da dS);have F6:=aa (F5.out.trans da);have kL6:=L6.out.cells;clear da vO Q5 E6 L5 F5 kL5 HH;have HC:Hid (∀w',Lq w' B x.2->Calls prog 96 #[lv B,.string ⟨#[44]⟩] w' fun e w''=>WP B w' (dc [44] x.2) e w''):=fun w' p1=>eP [44] p1;unfold lv at HC;go_wp2_with(go_at_call 96;refine ak.out ?_)
   refine ak.mk ?_;rcases hc:dc [44] x.2 with p|l5
   ·rw[hc]at HC
    have e2:Hid (R=.inl p):=by show _=_;rw[<-FU.out];simp[oi,hs,hw,hm,hh,In,hc]
    refine(HC.out _ Q6.out).mono ?_;rintro e w7 ⟨jO,rfl⟩;clear FU hs hw hm hh AX In hc
    first|exact⟨rfl,vU.bad e2.out (F6.out.trans jO)⟩|(go_wp2_with fail;exact⟨rfl,vU.bad e2.out (F6.out.trans jO)⟩)
   rw[hc]at HC;have N7:=aa (bU N3.out.1 (by simp) hc);have e2:Hid (oi k M g (ns++[s.1]) (xs++[x.1]) l5=R):=by show _=_;rw[<-FU.out];simp[oi,hs,hw,hm,hh,In,hc]
   clear FU hs hw hm hh AX In hc;refine(HC.out _ Q6.out).mono ?_;rintro e w7 ⟨jO,rfl,Ps⟩;go_wp2_with fail
   have z1:=N1.out.2;have z2:=N2.out.2;have z3:=N3.out.2;have z7:=N7.out.2;have zg:=Ms.out;refine⟨⟨ns++[s.1],xs++[x.1],l5,⟨g,by omega,e2.out⟩,Q6.out.fb jO Ps N7.out.1,F6.out.trans jO,⟨us++(cE (gz n x.1) ⟨.slice b1 b2 b3,.slice b4 b5 b6⟩).toList,?_⟩,L6.out.fb jO dS,?_,?_,?_⟩,?_⟩
   ·rw[List.map_append]
    exact E7.out.fb jO ti
   ·rw[List.length_append,List.length_singleton,hN];omega
   ·rw[List.length_append,List.length_append,List.length_singleton,List.length_singleton,hN,HX.out]
   ·have:=HF3.out;omega
   rw[Hlen.out,Ps.lenB];omega
 rw[hb]at hh;have e2:Hid (R=.inr ([],[],(cq [125] l).2)):=by show _=_;rw[<-HR.out];simp[dK,hb]
 clear HR hb jW;go_enter func145,ntmps145
 go_wp2_with(first|(go_at_call 62;refine(hh.out _ H.out.al).mono ?_;rintro e w3 ⟨rfl,dC,ar⟩;have kL:=(ZL.out.fb ar dS).cells;have kl:=(ZL.out.fb ar dS).lt))
 go_ret2;exact vU.good (xs:=[]) e2.out ((FB.of (ab af)).trans ar) (T2.nil _ _ _) dC
end Lx
