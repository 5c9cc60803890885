/- Merged by program: EnBuild, EoEx, EpFacts, EvEvents, FcRound, FdBuild. -/
import Derived.Test.YthodiandebahdaaGreatDoorZq33
import Derived.Test.YthodiandebahdaaGreatDoorZq09
import Derived.Test.YthodiandebahdaaGreatDoorZq32
namespace Go.Proofs.YthodiandebahdaaGreatDoor
open Go.RowKit
set_option linter.unusedSimpArgs false
set_option linter.unusedVariables false
set_option maxHeartbeats 8000000
def doneS:Option (List Pa×Bool)→Bool
 | some ([],b)=>b
 | _=>false
theorem CkS.done {W:World} {i B n:Nat} {s:Option (List Pa×Bool)} (h:CkS W i B n s):Calls Tryz.prog 36 #[.pointer (some ⟨i,0,none⟩)] W fun r w'=>r=.returned (.bool (doneS s))∧∃ m,w'=W.drewN m:=by
 cases s with
 | none =>
  have h':Ck W i B (.slice none 0 0) [] false true:=h
  refine (cdone_any h').mono ?_
  rintro r w' ⟨rfl,m,rfl⟩
  exact ⟨rfl,m,rfl⟩
 | some x =>
  obtain ⟨st,bg⟩:=x
  obtain ⟨v,ps,c,hps,_⟩:=h
  refine (cdone_any c).mono ?_
  rintro r w' ⟨rfl,m,rfl⟩
  refine ⟨?_,m,rfl⟩
  have hps:(ps.map Pt.abs).reverse=st:=hps
  have he:(bg && decide (ps=[]))=doneS (some (st,bg)):=by
   cases st with
   | nil=>rw [nil_ps hps];simp [doneS]
   | cons a r =>
    obtain ⟨qs,p,rfl,_⟩:=split_ps hps
    simp [doneS]
  rw [he]
theorem CkS.new {w:World} {i:Nat} (h:KB w i (.slice none 0 0) false false)(hs:i+1≤w.heap.size):CkS w i (i+1) 0 (some ([],false)) :=
 ⟨.slice none 0 0,[],Ck.new h (by omega) hs,rfl,Nat.le_refl _,fun p hp=>by cases hp⟩
theorem runE_take (es:List Hd)(k:Nat)(hk:k<es.length):runE (es.take (k+1))=feedE (runE (es.take k)) (mayB es[k]) es[k]:=by
 rw [List.take_succ_eq_append_getElem hk]
 unfold runE
 rw [runS_app]
 rfl
theorem runE_cut (es:List Hd)(k:Nat)(h:runE (es.take k)=none):runE es=none:=by
 have:=List.take_append_drop k es
 rw [←this]
 unfold runE at h ⊢
 rw [runS_app,h,runS_none]
structure Bd (w:World)(es:List Hd)(b o c:Nat):Prop where
 el:EL w b o es
 lt:b<w.heap.size
 len:es.length≤c
 max:c≤maxLen
 small:es.length≤199000
 ez:∀ e∈es,EvZ e
theorem Bd.at {w:World} {es:List Hd} {b o c:Nat} (h:Bd w es b o c)(k:Nat)(hk:k<es.length):w.rangeAt b (o+k * 7) (evs es[k]).toList:=h.el k hk
def BR (es:List Hd)(n:Nat)(x:VT n)(E:Int)(w w':World)(e:Ending):Prop :=
 (runE es=none→e=.returned (.tuple #[.agg #[.int .i64 0,.bool false,.bool false,.string ⟨#[]⟩,.int .i64 0,.int .u64 0,.string ⟨#[]⟩,.slice none 0 0,.slice none 0 0],.int .i64 50])) ∧
 (runE es≠none→doneS (runE es)=false→e=.returned (.tuple #[.agg #[.int .i64 0,.bool false,.bool false,.string ⟨#[]⟩,.int .i64 0,.int .u64 0,.string ⟨#[]⟩,.slice none 0 0,.slice none 0 0],.int .i64 51])) ∧
 (doneS (runE es)=true→(E≠0→e=.returned (.tuple #[.agg #[.int .i64 0,.bool false,.bool false,.string ⟨#[]⟩,.int .i64 0,.int .u64 0,.string ⟨#[]⟩,.slice none 0 0,.slice none 0 0],.int .i64 2]))∧(E=0→∃ ns ls s f,e=.returned (.tuple #[.agg (vals (vhd n x) ns ls),.int .i64 0])∧w.heap.size≤s∧Hid (KR n w' x ns ls s f)))
theorem Bx.low {W W1:World} {i q:Nat} {h:Hd} {ns ls:Value} (k:Bx W q h ns ls)(hb:Below i W W1)(hq:q<i):Bx W1 q h ns ls:=⟨(hb.block q hq).trans k.at_⟩
set_option maxRecDepth 100000 in
theorem Build_any (es:List Hd)(b o c:Nat)(w:World)(hB:Bd w es b o c)(hc2:2≤c)(g:Ut.Gu w)(n:Nat)(x:VT n)(tr:doneS (runE es)=true→es=fl n x∧NF n x∧Sz n x∧siz n x≤200000)(E:Int)(hE:Chk n x E) :
  Calls Tryz.prog 20 #[.slice (some ⟨b,o,none⟩) es.length c] w fun e w'=>Below w.heap.size w w'∧BR es n x E w w' e:=by
 have hnew:=hide cnew_any
 have hlen:=hB.len
 have hmax:=hB.max
 have hsm:=hB.small
 have hlt:=hB.lt
 have hB':=hide hB
 have tr':=hide tr
 have hE':=hide hE
 have g':=hide g
 have ml:maxLen=9223372036854775807:=rfl
 clear hB tr hE g
 go_enter Tryz.func20, Tryz.ntmps20
 go_wp2_with (go_at_call 34;refine (hnew.out _).mono ?_;rintro e w1 ⟨rfl,hk1,hb1⟩)
 simp only [World.size_alloc] at hk1
 have z1:w.heap.size+1<w1.heap.size:=hk1.lt
 have HR1:=hide ((bx_new w (zr 0) (.slice none 0 0) (.slice none 0 0)).below hb1)
 have HB1:=hide (below_then (below_al (Below.refl _ _)) hb1)
 have HC1:=hide (CkS.new hk1 (by omega))
 clear hk1 hb1 hnew
 go_loopw [13] (fun u W=>∃ k:Nat,u=.int .i64 k∧k≤es.length∧Hid (CkS W (w.heap.size+1) (w.heap.size+1+1) k (runE (es.take k))∧runE (es.take k)≠none∧Below w.heap.size w W∧Bx W w.heap.size (zr 0) (.slice none 0 0) (.slice none 0 0)∧w.heap.size+1<W.heap.size)) (fun u _=>es.length - (intOf u).toNat)
 case atStart=>exact ⟨0,rfl,Nat.zero_le _,hide ⟨by simpa [runE,runS] using HC1.out,by simp [runE,runS],HB1.out,HR1.out,z1⟩⟩
 case round =>
  obtain ⟨k,rfl,hk,HH⟩:=hrel
  obtain ⟨hC,hne,hbw,hR,hz⟩:=HH.out
  have hbr:b<wr.heap.size:=Nat.lt_of_lt_of_le hlt hbw.size
  have zw:w.heap.size<wr.heap.size:=by omega
  obtain ⟨r0,r1,r2,r3,r4,r5,r6,r7,r8⟩:=hR.cells
  have fR:=hR.frz
  simp only [zr] at r0 r1 r2 r3 r4 r5 r6
  clear HC1 HR1 HB1 HH
  by_cases hkl:k<es.length
  ·have hki:(k:Int)<(es.length:Int):=by omega
   obtain ⟨c0,c1,c2,c3,c4,c5,c6⟩:=range7 (rangeAt_below (hB'.out.at k hkl) hbw hlt)
   have fd:=hide (cfeed_any (W:=wr.alloc (.cells (evs es[k]) 76)) (i:=w.heap.size+1) (B:=w.heap.size+1+1) (n:=k) (runE (es.take k)) es[k] (hB'.out.ez _ (List.getElem_mem hkl)) (hC.then (below_al (Below.refl _ _))) (by simp;omega) (by omega) (by simp;omega) (by omega) (g'.out.below (below_al hbw)) (mayB es[k]) (mayB_iff _))
   rw [←runE_take es k hkl] at fd
   obtain ⟨h,hh⟩:∃ h,es[k]=h:=⟨_,rfl⟩
   rw [hh] at c0 c1 c2 c3 c4 c5 c6 fd
   simp only [evs] at fd
   have hR':=hide hR
   have hbw':=hide hbw
   have hrun:=hide (fun q:runE (es.take (k+1))=none=>runE_cut es (k+1) q)
   obtain ⟨s,hs⟩:∃ s,runE (es.take (k+1))=s:=⟨_,rfl⟩
   rw [hs] at fd hrun
   have hs':=hide hs
   clear hC hne hR hbw hs
   cases s with
   | none =>
    go_wp2_with (go_at_call 35;refine fd.out.mono ?_;rintro e w2 ⟨rfl,hc2',hb2⟩;have R2:=hide ((hR'.out.below (below_al (Below.refl _ _))).low hb2 (Nat.lt_succ_self _));obtain ⟨r0,r1,r2,r3,r4,r5,r6,r7,r8⟩:=R2.out.cells;have fR:=R2.out.frz;simp only [zr] at r0 r1 r2 r3 r4 r5 r6;have B2:=hide ((below_al hbw'.out).trans (hb2.mono (Nat.le_succ _)));clear hc2' hb2)
    refine bodyPost_ret (v:=.tuple #[.agg #[.int .i64 0,.bool false,.bool false,.string ⟨#[]⟩,.int .i64 0,.int .u64 0,.string ⟨#[]⟩,.slice none 0 0,.slice none 0 0],.int .i64 50]) (by simp [results,Tryz.results20,go_sem, *]) rfl ⟨?_,?_⟩
    ·(iterate 9 (refine Below.setCell ?_ (by show _≤_;exact Nat.le_refl _) _))
     exact B2.out
    ·have hn:=hrun.out trivial
     exact ⟨fun _=>rfl,fun h=>absurd hn h,fun h=>by rw [hn] at h;cases h⟩
   | some y =>
    go_wp2_with (go_at_call 35;refine fd.out.mono ?_;rintro e w2 ⟨rfl,hc2',hb2⟩;have R2:=hide ((hR'.out.below (below_al (Below.refl _ _))).low hb2 (Nat.lt_succ_self _));have B2:=hide ((below_al hbw'.out).trans (hb2.mono (Nat.le_succ _)));have C2:=hide hc2';have z2:=hb2.size;simp only [World.size_alloc] at z2;clear hc2' hb2)
    exact ⟨⟨k+1,by go_num,by omega,hide ⟨by rw [hs'.out];exact C2.out,by rw [hs'.out];simp,B2.out,R2.out,by omega⟩⟩,by simp [intOf];omega⟩
  ·have hki:¬ ((k:Int)<(es.length:Int)):=by omega
   have hkeq:k=es.length:=by omega
   subst hkeq
   rw [List.take_length] at hC hne
   have dn:=hide hC.done
   have hne':=hide hne
   have hR':=hide hR
   have hbw':=hide hbw
   clear hC hne hR hbw
   have drewN_below:∀ m,Below wr.heap.size wr (wr.drewN m):=fun m=>⟨rfl,rfl,rfl,Nat.le_refl _,fun _ _=>rfl⟩
   by_cases hd:doneS (runE es)=true
   ·obtain ⟨he,nf,sz,le⟩:=tr'.out hd
    have bl:=hide (fun W (hb:Below w.heap.size w W)=>build_any n x nf [] b o c W (by rw [List.append_nil,←he];exact hB'.out.el.below hb hlt) (Nat.lt_of_lt_of_le hlt hb.size) (by rw [List.append_nil,←he];exact hlen) hmax hc2 (by rw [List.append_nil,←he];omega))
    have ck:=hide (fun W ns ls (hb:Below w.heap.size w W)(hr:RD n W x ns ls)=>check_any n x ns ls W ⟨hr,sz,le⟩ (g'.out.below hb) E hE'.out)
    rw [hd] at dn
    have dd:=hide drewN_below
    have he':=hide he
    have hd':=hide hd
    simp only [List.append_nil] at bl
    rw [←he] at bl
    obtain ⟨hx,hhx⟩:∃ hx,vhd n x=hx:=⟨_,rfl⟩
    rw [hhx] at bl ck
    simp only [vals] at bl ck
    clear drewN_below r0 r1 r2 r3 r4 r5 r6 r7 r8 fR hd he
    go_wp2_with (go_at_call 36;refine dn.out.mono ?_;rintro e w2 ⟨rfl,m2,rfl⟩)
    have B2:=hide (hbw'.out.trans ((dd.out m2).mono hbw'.out.size))
    refine (bl.out _ B2.out).mono ?_
    rintro e w3 ⟨ns3,ls3,sv,rfl,hk3,hb3,_⟩
    obtain ⟨q1,q2,q3,q4,q5,q6,rfl,rfl⟩:=hk3.out.rd.shape
    have B3:=hide (below_then B2.out hb3.out)
    have z3:wr.heap.size≤w3.heap.size:=hb3.out.size
    have R3:=hide ((hR'.out.below (dd.out m2)).below hb3.out)
    by_cases hE0:E=0
    ·subst hE0
     go_wp2_with (go_at_call 38;refine (ck.out _ _ _ (below_al B3.out) (hk3.out.rd.below (below_al (Below.refl _ _)))).mono ?_;rintro e w4 ⟨rfl,hb4⟩;have R4:=hide ((R3.out.below (below_al (Below.refl _ _))).below hb4);obtain ⟨r0,r1,r2,r3,r4,r5,r6,r7,r8⟩:=R4.out.cells;have fR:=R4.out.frz;simp only [zr] at r0 r1 r2 r3 r4 r5 r6;have V4:=hide ((bx_new w3 hx (.slice q1 q2 q3) (.slice q4 q5 q6)).below hb4);obtain ⟨v0,v1,v2,v3,v4,v5,v6,v7,v8⟩:=V4.out.cells;have B4:=hide (below_then (below_al B3.out) hb4);have z4:=hb4.size;simp only [World.size_alloc] at z4;have K4:=hide (hk3.out.move (W1:=w4) (by omega) (fun q p1 p2=>by rw [hb4.block q (by simp;omega),Below.heap_alloc _ _ _ p2]));clear hb4)
     refine bodyPost_ret (v:=.tuple #[.agg #[.int .i64 hx.kind,.bool hx.flag,.bool hx.neg,.string hx.dig,.int .i64 hx.exp,.int .u64 hx.bits,.string hx.text,.slice q1 q2 q3,.slice q4 q5 q6],.int .i64 0]) (by simp [results,Tryz.results20,go_sem, *]) rfl ⟨?_,?_⟩
     ·(iterate 9 (refine Below.setCell ?_ (by show _≤_;exact Nat.le_refl _) _))
      exact B4.out
     ·refine ⟨fun h=>absurd h hne'.out,fun _ h=>(by rw [hd'.out] at h;cases h),fun _=>⟨fun h=>absurd rfl h,fun _=>⟨.slice q1 q2 q3,.slice q4 q5 q6,wr.heap.size,w3.heap.size,by rw [hhx];rfl,by omega,?_⟩⟩⟩
      refine hide (K4.out.move (by simp;omega) ?_)
      intro q p1 p2
      have p1':wr.heap.size≤q:=p1
      simp only [heap_set_ne (show q≠w.heap.size by omega)]
    ·have hE1:(E != 0)=true:=by simpa using hE0
     go_wp2_with (go_at_call 38;refine (ck.out _ _ _ (below_al B3.out) (hk3.out.rd.below (below_al (Below.refl _ _)))).mono ?_;rintro e w4 ⟨rfl,hb4⟩;have R4:=hide ((R3.out.below (below_al (Below.refl _ _))).below hb4);obtain ⟨r0,r1,r2,r3,r4,r5,r6,r7,r8⟩:=R4.out.cells;have fR:=R4.out.frz;simp only [zr] at r0 r1 r2 r3 r4 r5 r6;have V4:=hide ((bx_new w3 hx (.slice q1 q2 q3) (.slice q4 q5 q6)).below hb4);obtain ⟨v0,v1,v2,v3,v4,v5,v6,v7,v8⟩:=V4.out.cells;have B4:=hide (below_then (below_al B3.out) hb4);have z4:=hb4.size;simp only [World.size_alloc] at z4;have K4:=hide (hk3.out.move (W1:=w4) (by omega) (fun q p1 p2=>by rw [hb4.block q (by simp;omega),Below.heap_alloc _ _ _ p2]));clear hb4)
     refine bodyPost_ret (v:=.tuple #[.agg #[.int .i64 0,.bool false,.bool false,.string ⟨#[]⟩,.int .i64 0,.int .u64 0,.string ⟨#[]⟩,.slice none 0 0,.slice none 0 0],.int .i64 2]) (by simp [results,Tryz.results20,go_sem, *]) rfl ⟨?_,?_⟩
     ·(iterate 9 (refine Below.setCell ?_ (by show _≤_;exact Nat.le_refl _) _))
      exact B4.out
     ·exact ⟨fun h=>absurd h hne'.out,fun _ h=>(by rw [hd'.out] at h;cases h),fun _=>⟨fun _=>rfl,fun h=>absurd h hE0⟩⟩
   ·rw [Bool.not_eq_true] at hd
    rw [hd] at dn
    have hd':=hide hd
    have dd:=hide (fun m=>(hR'.out.below (drewN_below m)).cells)
    have df:=hide (fun m=>(hR'.out.below (drewN_below m)).frz)
    have db:=hide drewN_below
    clear drewN_below r0 r1 r2 r3 r4 r5 r6 r7 r8 fR hd
    go_wp2_with (go_at_call 36;refine dn.out.mono ?_;rintro e w2 ⟨rfl,m2,rfl⟩;obtain ⟨r0,r1,r2,r3,r4,r5,r6,r7,r8⟩:=dd.out m2;have fR:=df.out m2;simp only [zr] at r0 r1 r2 r3 r4 r5 r6)
    refine bodyPost_ret (v:=.tuple #[.agg #[.int .i64 0,.bool false,.bool false,.string ⟨#[]⟩,.int .i64 0,.int .u64 0,.string ⟨#[]⟩,.slice none 0 0,.slice none 0 0],.int .i64 51]) (by simp [results,Tryz.results20,go_sem, *]) rfl ⟨?_,?_⟩
    ·(iterate 9 (refine Below.setCell ?_ (by show _≤_;exact Nat.le_refl _) _))
     exact hbw'.out.trans ((db.out m2).mono hbw'.out.size)
    ·exact ⟨fun h=>absurd h hne'.out,fun _ _=>rfl,fun h=>by rw [hd'.out] at h;cases h⟩
theorem ex_mem {α:Type} {a b:α} {p:α→Prop} (h1:p a)(h2:p b):∀ y∈[a,b],p y:=by
 intro y hy
 simp only [List.mem_cons,List.not_mem_nil,or_false] at hy
 rcases hy with rfl|rfl
 ·exact h1
 ·exact h2
theorem ex_one {α:Type} {a:α} {p:α→Prop} (h1:p a):∀ y∈[a],p y:=by
 intro y hy
 rw [List.mem_singleton.1 hy];exact h1
theorem ex_sht1:Sht 1 null1:=⟨(show (0:Int)≤4096 by decide),(show 0≤256 by decide),fun s hs=>(by cases hs),fun y hy=>(by cases hy)⟩
theorem range_block {W:World} {b:Nat} {cs:Array Value} {T:TypeId} {fr:Nat×Nat} (h:W.heap[b]?=some (.cells cs T fr))(pre mid post:List Value)(hc:cs.toList=pre++(mid++post)):W.rangeAt b pre.length mid:=by
 intro j v hj
 have hlt:=(List.getElem?_eq_some_iff.1 hj).1
 unfold World.cell?
 rw [h]
 show cs[pre.length+j]?=some v
 rw [←Array.getElem?_toList,hc,List.getElem?_append_right (by omega),Nat.add_sub_cancel_left,List.getElem?_append_left hlt,hj]
theorem evs_len (h:Hd):(evs h).toList.length=7:=rfl
theorem ecs_len (es:List Hd):(ecs es).length=es.length * 7:=by
 induction es with
 | nil=>rfl
 | cons h es ih=>simp only [ecs,List.flatMap_cons,List.length_append,List.length_cons] at *;rw [ih,evs_len];omega
theorem ecs_at (es:List Hd)(i j:Nat)(hi:i<es.length)(hj:j<7):(ecs es)[i * 7+j]?=(evs es[i]).toList[j]?:=by
 induction es generalizing i with
 | nil=>simp at hi
 | cons h es ih =>
  have e:ecs (h :: es)=(evs h).toList++ecs es:=by simp [ecs]
  rw [e]
  cases i with
  | zero=>rw [List.getElem?_append_left (by rw [evs_len];omega)];simp
  | succ i =>
   rw [List.getElem?_append_right (by rw [evs_len];omega),evs_len,show (i+1) * 7+j - 7=i * 7+j by omega]
   exact ih i (by simpa using hi)
theorem el_row {W:World} {B g n cap:Nat} {es:List Hd} (h:W.ownsRow B 76 7 (.slice (some ⟨g,0,none⟩) n cap) n (ecs es))(hn:n=es.length):EL W g 0 es:=by
 intro i hi j v hj
 have hj7:j<7:=by have:=(List.getElem?_eq_some_iff.1 hj).1;rw [evs_len] at this;exact this
 have hc:=World.ownsRow.cellAt h (i * 7+j) (by subst hn;omega)
 rw [Nat.zero_add,hc,ecs_at es i j hi hj7,hj]
theorem row_news {W:World} {B T sz g n cap:Nat} {xs:List Value} (h:W.ownsRow B T sz (.slice (some ⟨g,0,none⟩) n cap) n xs):∀ j u,xs[j]?=some u→W.cell? ((⟨g,0,none⟩:Addr).add j)=some u:=by
 intro j u hj
 have hlt:=(List.getElem?_eq_some_iff.1 hj).1
 have hc:=World.ownsRow.cellAt h j (by rw [h.1] at hlt;exact hlt)
 rw [show (⟨g,0,none⟩:Addr).add j=⟨g,j,none⟩ by unfold Addr.add;split <;> simp_all]
 rw [hc,hj]
theorem evs_one (h:Hd):∀ u∈(evs h).toList,u.oneCell'=true:=by simp [evs,Value.oneCell']
theorem ecs_cell (es:List Hd):∀ u∈ecs es,u.oneCell'=true:=by
 intro u hu
 unfold ecs at hu
 obtain ⟨h,_,hu⟩:=List.mem_flatMap.1 hu
 exact evs_one h u hu
def tagE:Hd:={zr 9 with text:=⟨#[116]⟩}
theorem may_tag:May tagE:=by
 unfold May
 rw [mayV_9 tagE (Or.inl rfl)]
 exact ⟨⟨(show (1:Int)≤9 by decide),(show (9:Int)≤9 by decide),rfl,Or.inl (show (7:Int)≤9 by decide)⟩,⟨fun h=>(by cases h),fun h=>(by cases h),fun h=>(by cases h),fun _=>⟨by decide,rfl⟩⟩,ex_one isv_null1⟩
theorem st1:feedE (some ([],false)) (mayB tagE) tagE=some ([(9,true,[])],true):=by rw [feedE_ok may_tag];rfl
theorem null_chk:Chk 1 null1 0:=Or.inr (Or.inr ⟨rfl,isv_null1,ex_sht1,by decide,by decide⟩)
def ES (W:World)(v:Value)(es:List Hd):Prop:=∃ a c,v=.slice a es.length c∧es.length≤c∧c≤maxLen∧(0<es.length→∃ b o,a=some ⟨b,o,none⟩∧b<W.heap.size∧EL W b o es)
theorem ES.nil (w:World):ES w (.slice none 0 0) []:=⟨none,0,rfl,Nat.le_refl _,by decide,fun h=>by simp at h⟩
theorem ES.row {W:World} {B g n cap:Nat} {es:List Hd} (h:W.ownsRow B 76 7 (.slice (some ⟨g,0,none⟩) n cap) n (ecs es))(hn:n=es.length):ES W (.slice (some ⟨g,0,none⟩) n cap) es:=by
 have hlt:=(World.ownsRow.lt h g rfl).2
 have hel:=el_row h hn
 rcases h.2 with ⟨h0,_⟩|⟨g',cap',cur,he,_,_,h1,h2,_⟩
 ·cases h0
 ·cases he
  subst hn
  exact ⟨_,_,rfl,h1,h2,fun _=>⟨g,0,rfl,hlt,hel⟩⟩
theorem chk_zero {n:Nat} {x:VT n} {E:Int} (h:Chk n x E):E=0↔IsV n x∧Win n x:=by
 rcases h with ⟨rfl,h⟩|⟨rfl,h,k⟩|⟨rfl,h,k⟩
 ·exact ⟨fun q=>(by cases q),fun q=>absurd q.1 h⟩
 ·exact ⟨fun q=>(by cases q),fun q=>absurd q.2 k⟩
 ·exact ⟨fun _=>⟨h,k⟩,fun _=>rfl⟩
theorem doneS_iff (s:Option (List Pa×Bool)):doneS s=true↔s=some ([],true):=by
 constructor
 ·intro h
  match s,h with
  | some ([],true),_=>rfl
 ·rintro rfl;rfl
theorem fl_siz:∀ (n:Nat)(x:VT n),IsV n x→siz n x≤(fl n x).length
 | 0,x,_=>Empty.elim x
 | n+1,(h,l),hv=>by
  obtain ⟨⟨b1,b2,b3,b4⟩,_,hc⟩:=hv
  have hc:∀ y∈l,IsV n y:=hc
  have hk:∀ k,k≤l.length→suml ((l.take k).map (siz n))≤(kids n h l k).length:=by
   intro k
   induction k with
   | zero=>intro _;simp [suml]
   | succ k ih =>
    intro hk
    have h1:=ih (by omega)
    have h2:=fl_siz n l[k] (hc _ (List.getElem_mem (by omega)))
    rw [kids_succ n h l k (by omega),List.take_succ_eq_append_getElem (by omega),List.map_append,suml_app]
    simp only [List.length_append,List.map_cons,List.map_nil,suml]
    omega
  have h1:=hk l.length (Nat.le_refl _)
  rw [List.take_length] at h1
  rw [fl_succ]
  simp only [siz,List.length_cons]
  by_cases h7:h.kind<7
  ·rw [if_pos h7]
   have hl:l=[]:=by rcases b4 with q|q;exact absurd h7 (by have:7≤h.kind:=q;omega);exact q
   subst hl
   simp [suml]
  ·rw [if_neg h7]
   simp only [List.length_append,List.length_cons,List.length_nil];omega
theorem kids_mem (n:Nat)(h:Hd)(l:List (VT n))(i:Nat)(hi:i<l.length):∀ e,(e∈preN h i∨e∈fl n l[i])→e∈kids n h l l.length:=by
 intro e he
 unfold kids
 refine List.mem_flatten.2 ⟨kid n h l i,List.mem_map.2 ⟨i,List.mem_range.2 hi,rfl⟩,?_⟩
 unfold kid
 rw [List.getElem?_eq_getElem hi]
 exact List.mem_append.2 he
theorem siz_pos:∀ (n:Nat)(x:VT n),1≤siz n x
 | 0,x=>Empty.elim x
 | n+1,x=>by simp only [siz];omega
theorem len_suml (n:Nat)(l:List (VT n)):l.length≤suml (l.map (siz n)):=by
 induction l with
 | nil=>simp
 | cons a l ih =>
  simp only [List.map_cons,suml,List.length_cons]
  have:=siz_pos n a
  omega
theorem fl_sz:∀ (n:Nat)(x:VT n),IsV n x→(fl n x).length≤199000→(∀ e∈fl n x,EvZ e)→Sz n x
 | 0,x,_,_,_=>Empty.elim x
 | n+1,(h,l),hv,hlen,hz=>by
  have hs:=fl_siz (n+1) (h,l) hv
  obtain ⟨⟨b1,b2,b3,b4⟩,⟨f1,f2,f3,f4⟩,hc⟩:=hv
  have hc:∀ y∈l,IsV n y:=hc
  rw [fl_succ] at hz hlen
  obtain ⟨z1,z2,_⟩:=hz (hd0 h) (by simp)
  have hnm:h.kind≠8→h.names=[]:=fun h8=>strip_names h b3 h8
  by_cases h7:h.kind<7
  ·have hl:l=[]:=by rcases b4 with q|q;exact absurd h7 (by have:7≤h.kind:=q;omega);exact q
   subst hl
   have hn:=hnm (by omega)
   exact ⟨z1,z2,by show h.names.length≤_;rw [hn];simp,(by intro s hs';have:s∈h.names:=hs';rw [hn] at this;cases this),fun y hy=>(by cases hy)⟩
  ·rw [if_neg h7] at hz hlen
   have hkz:∀ e∈kids n h l l.length,EvZ e:=fun e he=>hz e (by simp [he])
   have hkl:(kids n h l l.length).length≤199000:=by simp at hlen;omega
   refine ⟨z1,z2,?_,?_,?_⟩
   ·show h.names.length≤_
    by_cases h8:h.kind=8
    ·have h3:h.names.length=l.length:=(f3 h8).1
     have h4:siz (n+1) ((h,l):VT (n+1))=1+suml (l.map (siz n)):=rfl
     have h5:=len_suml n l
     have h6:(fl (n+1) ((h,l):VT (n+1))).length≤199002:=by rw [fl_succ,if_neg h7];simp;omega
     omega
    ·rw [hnm h8];simp
   ·intro s hs'
    have hs':s∈h.names:=hs'
    by_cases h8:h.kind=8
    ·obtain ⟨i,hi,rfl⟩:=List.getElem_of_mem hs'
     have h3:h.names.length=l.length:=(f3 h8).1
     have hp:preN h i=[evN h.names[i]]:=by unfold preN;rw [if_pos h8];simp [hi]
     exact (hkz (evN h.names[i]) (kids_mem n h l i (by omega) _ (Or.inl (by rw [hp];simp)))).1
    ·rw [hnm h8] at hs';cases hs'
   ·intro y hy
    obtain ⟨i,hi,rfl⟩:=List.getElem_of_mem hy
    have hi:i<l.length:=hi
    refine fl_sz n _ (hc _ (List.getElem_mem hi)) ?_ (fun e he=>hkz e (kids_mem n h l i hi e (Or.inr he)))
    have h1:=kids_succ n h l i hi
    have h2:=(kids_le n h l (k:=i+1) (by omega)).length_le
    rw [h1] at h2
    simp only [List.length_append] at h2
    show (fl n l[i]).length≤199000
    omega
set_option maxRecDepth 100000 in
theorem Build_empty (a:Option Addr)(c:Nat)(w:World):Calls Tryz.prog 20 #[.slice a 0 c] w fun e w'=>Below w.heap.size w w'∧e=.returned (.tuple #[.agg #[.int .i64 0,.bool false,.bool false,.string ⟨#[]⟩,.int .i64 0,.int .u64 0,.string ⟨#[]⟩,.slice none 0 0,.slice none 0 0],.int .i64 51]):=by
 have hnew:=hide cnew_any
 go_enter Tryz.func20, Tryz.ntmps20
 go_wp2_with (go_at_call 34;refine Stop.out ?_)
 refine Stop.mk ((hnew.out _).mono ?_)
 rintro e w1 ⟨rfl,hk1,hb1⟩
 simp only [World.size_alloc] at hk1
 have z1:w.heap.size+1<w1.heap.size:=hk1.lt
 have HR1:=hide ((bx_new w (zr 0) (.slice none 0 0) (.slice none 0 0)).below hb1)
 have HB1:=hide (below_then (below_al (Below.refl _ _)) hb1)
 have HC1:=hide (CkS.new hk1 (by omega))
 clear hk1 hb1 hnew
 go_wp2_with fail
 go_loopw [13] (fun u W=>u=.int .i64 0∧W=w1) (fun _ _=>0)
 case atStart=>exact ⟨rfl,rfl⟩
 case round =>
  obtain ⟨rfl,rfl⟩:=hrel
  have dn:=hide HC1.out.done
  simp only [doneS] at dn
  obtain ⟨r0,r1,r2,r3,r4,r5,r6,r7,r8⟩:=HR1.out.cells
  have fR:=HR1.out.frz
  simp only [zr] at r0 r1 r2 r3 r4 r5 r6
  go_wp2_with (go_at_call 36;refine Stop.out ?_)
  refine Stop.mk (dn.out.mono ?_)
  rintro e w2 ⟨rfl,m2,rfl⟩
  go_wp2_with fail
  refine bodyPost_ret (v:=.tuple #[.agg #[.int .i64 0,.bool false,.bool false,.string ⟨#[]⟩,.int .i64 0,.int .u64 0,.string ⟨#[]⟩,.slice none 0 0,.slice none 0 0],.int .i64 51]) (by simp [results,Tryz.results20,go_sem, *]) rfl ⟨?_,rfl⟩
  (iterate 9 (refine Below.setCell ?_ (by show _≤_;exact Nat.le_refl _) _))
  exact HB1.out.trans ⟨rfl,rfl,rfl,Nat.le_refl _,fun _ _=>rfl⟩
theorem build_c1:∀ (n:Nat)(x:VT n),NF n x→(fl n x).length≤1→∀ (b o:Nat)(W:World),EL W b o (fl n x)→b<W.heap.size →
  Calls Tryz.prog 37 #[.slice (some ⟨b,o,none⟩) (fl n x).length 1] W fun e w'=>∃ ns ls sv,e=.returned (.tuple #[.agg (vals (vhd n x) ns ls),sv])∧Hid (KR n w' x ns ls W.heap.size w'.heap.size)∧Hid (Below W.heap.size W w')∧True
 | 0,x,_,_,_,_,_,_,_=>Empty.elim x
 | n+1,(h,l),nf,hl,b,o,W,he,hb=>by
  have h7:h.kind<7:=by
   by_cases h7:h.kind<7
   ·exact h7
   ·rw [fl_succ,if_neg h7] at hl
    simp at hl
  have hl0:l=[]:=nf.2.2.1 h7
  subst hl0
  have hn0:h.names=[]:=nf.2.2.2.2.1 (by show h.kind≠8;omega)
  have hf:fl (n+1) ((h,[]):VT (n+1))=[h]:=by rw [fl_succ,if_pos h7,hd0_id hn0]
  rw [hf] at he ⊢
  refine (build_one n h h7 hn0 b o W he hb).mono ?_
  rintro e w' ⟨ns,ls,sv,rfl,h1,h2⟩
  exact ⟨ns,ls,sv,rfl,h1,h2,trivial⟩
set_option maxRecDepth 100000 in
theorem Build_one (es:List Hd)(b o:Nat)(w:World)(hB:Bd w es b o 1)(g:Ut.Gu w)(n:Nat)(x:VT n)(tr:doneS (runE es)=true→es=fl n x∧NF n x∧Sz n x∧siz n x≤200000)(E:Int)(hE:Chk n x E) :
  Calls Tryz.prog 20 #[.slice (some ⟨b,o,none⟩) es.length 1] w fun e w'=>Below w.heap.size w w'∧BR es n x E w w' e:=by
 have hnew:=hide cnew_any
 have hlen:=hB.len
 have hmax:=hB.max
 have hsm:=hB.small
 have hlt:=hB.lt
 have hB':=hide hB
 have tr':=hide tr
 have hE':=hide hE
 have g':=hide g
 have ml:maxLen=9223372036854775807:=rfl
 clear hB tr hE g
 go_enter Tryz.func20, Tryz.ntmps20
 go_wp2_with (go_at_call 34;refine (hnew.out _).mono ?_;rintro e w1 ⟨rfl,hk1,hb1⟩)
 simp only [World.size_alloc] at hk1
 have z1:w.heap.size+1<w1.heap.size:=hk1.lt
 have HR1:=hide ((bx_new w (zr 0) (.slice none 0 0) (.slice none 0 0)).below hb1)
 have HB1:=hide (below_then (below_al (Below.refl _ _)) hb1)
 have HC1:=hide (CkS.new hk1 (by omega))
 clear hk1 hb1 hnew
 go_loopw [13] (fun u W=>∃ k:Nat,u=.int .i64 k∧k≤es.length∧Hid (CkS W (w.heap.size+1) (w.heap.size+1+1) k (runE (es.take k))∧runE (es.take k)≠none∧Below w.heap.size w W∧Bx W w.heap.size (zr 0) (.slice none 0 0) (.slice none 0 0)∧w.heap.size+1<W.heap.size)) (fun u _=>es.length - (intOf u).toNat)
 case atStart=>exact ⟨0,rfl,Nat.zero_le _,hide ⟨by simpa [runE,runS] using HC1.out,by simp [runE,runS],HB1.out,HR1.out,z1⟩⟩
 case round =>
  obtain ⟨k,rfl,hk,HH⟩:=hrel
  obtain ⟨hC,hne,hbw,hR,hz⟩:=HH.out
  have hbr:b<wr.heap.size:=Nat.lt_of_lt_of_le hlt hbw.size
  have zw:w.heap.size<wr.heap.size:=by omega
  obtain ⟨r0,r1,r2,r3,r4,r5,r6,r7,r8⟩:=hR.cells
  have fR:=hR.frz
  simp only [zr] at r0 r1 r2 r3 r4 r5 r6
  clear HC1 HR1 HB1 HH
  by_cases hkl:k<es.length
  ·have hki:(k:Int)<(es.length:Int):=by omega
   obtain ⟨c0,c1,c2,c3,c4,c5,c6⟩:=range7 (rangeAt_below (hB'.out.at k hkl) hbw hlt)
   have fd:=hide (cfeed_any (W:=wr.alloc (.cells (evs es[k]) 76)) (i:=w.heap.size+1) (B:=w.heap.size+1+1) (n:=k) (runE (es.take k)) es[k] (hB'.out.ez _ (List.getElem_mem hkl)) (hC.then (below_al (Below.refl _ _))) (by simp;omega) (by omega) (by simp;omega) (by omega) (g'.out.below (below_al hbw)) (mayB es[k]) (mayB_iff _))
   rw [←runE_take es k hkl] at fd
   obtain ⟨h,hh⟩:∃ h,es[k]=h:=⟨_,rfl⟩
   rw [hh] at c0 c1 c2 c3 c4 c5 c6 fd
   simp only [evs] at fd
   have hR':=hide hR
   have hbw':=hide hbw
   have hrun:=hide (fun q:runE (es.take (k+1))=none=>runE_cut es (k+1) q)
   obtain ⟨s,hs⟩:∃ s,runE (es.take (k+1))=s:=⟨_,rfl⟩
   rw [hs] at fd hrun
   have hs':=hide hs
   clear hC hne hR hbw hs
   cases s with
   | none =>
    go_wp2_with (go_at_call 35;refine fd.out.mono ?_;rintro e w2 ⟨rfl,hc2',hb2⟩;have R2:=hide ((hR'.out.below (below_al (Below.refl _ _))).low hb2 (Nat.lt_succ_self _));obtain ⟨r0,r1,r2,r3,r4,r5,r6,r7,r8⟩:=R2.out.cells;have fR:=R2.out.frz;simp only [zr] at r0 r1 r2 r3 r4 r5 r6;have B2:=hide ((below_al hbw'.out).trans (hb2.mono (Nat.le_succ _)));clear hc2' hb2)
    refine bodyPost_ret (v:=.tuple #[.agg #[.int .i64 0,.bool false,.bool false,.string ⟨#[]⟩,.int .i64 0,.int .u64 0,.string ⟨#[]⟩,.slice none 0 0,.slice none 0 0],.int .i64 50]) (by simp [results,Tryz.results20,go_sem, *]) rfl ⟨?_,?_⟩
    ·(iterate 9 (refine Below.setCell ?_ (by show _≤_;exact Nat.le_refl _) _))
     exact B2.out
    ·have hn:=hrun.out trivial
     exact ⟨fun _=>rfl,fun h=>absurd hn h,fun h=>by rw [hn] at h;cases h⟩
   | some y =>
    go_wp2_with (go_at_call 35;refine fd.out.mono ?_;rintro e w2 ⟨rfl,hc2',hb2⟩;have R2:=hide ((hR'.out.below (below_al (Below.refl _ _))).low hb2 (Nat.lt_succ_self _));have B2:=hide ((below_al hbw'.out).trans (hb2.mono (Nat.le_succ _)));have C2:=hide hc2';have z2:=hb2.size;simp only [World.size_alloc] at z2;clear hc2' hb2)
    exact ⟨⟨k+1,by go_num,by omega,hide ⟨by rw [hs'.out];exact C2.out,by rw [hs'.out];simp,B2.out,R2.out,by omega⟩⟩,by simp [intOf];omega⟩
  ·have hki:¬ ((k:Int)<(es.length:Int)):=by omega
   have hkeq:k=es.length:=by omega
   subst hkeq
   rw [List.take_length] at hC hne
   have dn:=hide hC.done
   have hne':=hide hne
   have hR':=hide hR
   have hbw':=hide hbw
   clear hC hne hR hbw
   have drewN_below:∀ m,Below wr.heap.size wr (wr.drewN m):=fun m=>⟨rfl,rfl,rfl,Nat.le_refl _,fun _ _=>rfl⟩
   by_cases hd:doneS (runE es)=true
   ·obtain ⟨he,nf,sz,le⟩:=tr'.out hd
    have bl:=hide (fun W (hb:Below w.heap.size w W)=>build_c1 n x nf (by rw [←he];exact hlen) b o W (by rw [←he];exact hB'.out.el.below hb hlt) (Nat.lt_of_lt_of_le hlt hb.size))
    have ck:=hide (fun W ns ls (hb:Below w.heap.size w W)(hr:RD n W x ns ls)=>check_any n x ns ls W ⟨hr,sz,le⟩ (g'.out.below hb) E hE'.out)
    rw [hd] at dn
    have dd:=hide drewN_below
    have he':=hide he
    have hd':=hide hd
    rw [←he] at bl
    obtain ⟨hx,hhx⟩:∃ hx,vhd n x=hx:=⟨_,rfl⟩
    rw [hhx] at bl ck
    simp only [vals] at bl ck
    clear drewN_below r0 r1 r2 r3 r4 r5 r6 r7 r8 fR hd he
    go_wp2_with (go_at_call 36;refine dn.out.mono ?_;rintro e w2 ⟨rfl,m2,rfl⟩)
    have B2:=hide (hbw'.out.trans ((dd.out m2).mono hbw'.out.size))
    refine (bl.out _ B2.out).mono ?_
    rintro e w3 ⟨ns3,ls3,sv,rfl,hk3,hb3,_⟩
    obtain ⟨q1,q2,q3,q4,q5,q6,rfl,rfl⟩:=hk3.out.rd.shape
    have B3:=hide (below_then B2.out hb3.out)
    have z3:wr.heap.size≤w3.heap.size:=hb3.out.size
    have R3:=hide ((hR'.out.below (dd.out m2)).below hb3.out)
    by_cases hE0:E=0
    ·subst hE0
     go_wp2_with (go_at_call 38;refine (ck.out _ _ _ (below_al B3.out) (hk3.out.rd.below (below_al (Below.refl _ _)))).mono ?_;rintro e w4 ⟨rfl,hb4⟩;have R4:=hide ((R3.out.below (below_al (Below.refl _ _))).below hb4);obtain ⟨r0,r1,r2,r3,r4,r5,r6,r7,r8⟩:=R4.out.cells;have fR:=R4.out.frz;simp only [zr] at r0 r1 r2 r3 r4 r5 r6;have V4:=hide ((bx_new w3 hx (.slice q1 q2 q3) (.slice q4 q5 q6)).below hb4);obtain ⟨v0,v1,v2,v3,v4,v5,v6,v7,v8⟩:=V4.out.cells;have B4:=hide (below_then (below_al B3.out) hb4);have z4:=hb4.size;simp only [World.size_alloc] at z4;have K4:=hide (hk3.out.move (W1:=w4) (by omega) (fun q p1 p2=>by rw [hb4.block q (by simp;omega),Below.heap_alloc _ _ _ p2]));clear hb4)
     refine bodyPost_ret (v:=.tuple #[.agg #[.int .i64 hx.kind,.bool hx.flag,.bool hx.neg,.string hx.dig,.int .i64 hx.exp,.int .u64 hx.bits,.string hx.text,.slice q1 q2 q3,.slice q4 q5 q6],.int .i64 0]) (by simp [results,Tryz.results20,go_sem, *]) rfl ⟨?_,?_⟩
     ·(iterate 9 (refine Below.setCell ?_ (by show _≤_;exact Nat.le_refl _) _))
      exact B4.out
     ·refine ⟨fun h=>absurd h hne'.out,fun _ h=>(by rw [hd'.out] at h;cases h),fun _=>⟨fun h=>absurd rfl h,fun _=>⟨.slice q1 q2 q3,.slice q4 q5 q6,wr.heap.size,w3.heap.size,by rw [hhx];rfl,by omega,?_⟩⟩⟩
      refine hide (K4.out.move (by simp;omega) ?_)
      intro q p1 p2
      have p1':wr.heap.size≤q:=p1
      simp only [heap_set_ne (show q≠w.heap.size by omega)]
    ·have hE1:(E != 0)=true:=by simpa using hE0
     go_wp2_with (go_at_call 38;refine (ck.out _ _ _ (below_al B3.out) (hk3.out.rd.below (below_al (Below.refl _ _)))).mono ?_;rintro e w4 ⟨rfl,hb4⟩;have R4:=hide ((R3.out.below (below_al (Below.refl _ _))).below hb4);obtain ⟨r0,r1,r2,r3,r4,r5,r6,r7,r8⟩:=R4.out.cells;have fR:=R4.out.frz;simp only [zr] at r0 r1 r2 r3 r4 r5 r6;have V4:=hide ((bx_new w3 hx (.slice q1 q2 q3) (.slice q4 q5 q6)).below hb4);obtain ⟨v0,v1,v2,v3,v4,v5,v6,v7,v8⟩:=V4.out.cells;have B4:=hide (below_then (below_al B3.out) hb4);have z4:=hb4.size;simp only [World.size_alloc] at z4;have K4:=hide (hk3.out.move (W1:=w4) (by omega) (fun q p1 p2=>by rw [hb4.block q (by simp;omega),Below.heap_alloc _ _ _ p2]));clear hb4)
     refine bodyPost_ret (v:=.tuple #[.agg #[.int .i64 0,.bool false,.bool false,.string ⟨#[]⟩,.int .i64 0,.int .u64 0,.string ⟨#[]⟩,.slice none 0 0,.slice none 0 0],.int .i64 2]) (by simp [results,Tryz.results20,go_sem, *]) rfl ⟨?_,?_⟩
     ·(iterate 9 (refine Below.setCell ?_ (by show _≤_;exact Nat.le_refl _) _))
      exact B4.out
     ·exact ⟨fun h=>absurd h hne'.out,fun _ h=>(by rw [hd'.out] at h;cases h),fun _=>⟨fun _=>rfl,fun h=>absurd h hE0⟩⟩
   ·rw [Bool.not_eq_true] at hd
    rw [hd] at dn
    have hd':=hide hd
    have dd:=hide (fun m=>(hR'.out.below (drewN_below m)).cells)
    have df:=hide (fun m=>(hR'.out.below (drewN_below m)).frz)
    have db:=hide drewN_below
    clear drewN_below r0 r1 r2 r3 r4 r5 r6 r7 r8 fR hd
    go_wp2_with (go_at_call 36;refine dn.out.mono ?_;rintro e w2 ⟨rfl,m2,rfl⟩;obtain ⟨r0,r1,r2,r3,r4,r5,r6,r7,r8⟩:=dd.out m2;have fR:=df.out m2;simp only [zr] at r0 r1 r2 r3 r4 r5 r6)
    refine bodyPost_ret (v:=.tuple #[.agg #[.int .i64 0,.bool false,.bool false,.string ⟨#[]⟩,.int .i64 0,.int .u64 0,.string ⟨#[]⟩,.slice none 0 0,.slice none 0 0],.int .i64 51]) (by simp [results,Tryz.results20,go_sem, *]) rfl ⟨?_,?_⟩
    ·(iterate 9 (refine Below.setCell ?_ (by show _≤_;exact Nat.le_refl _) _))
     exact hbw'.out.trans ((db.out m2).mono hbw'.out.size)
    ·exact ⟨fun h=>absurd h hne'.out,fun _ _=>rfl,fun h=>by rw [hd'.out] at h;cases h⟩
theorem Build_es (v:Value)(es:List Hd)(w:World)(hv:ES w v es)(hs:es.length≤199000)(hz:∀ e∈es,EvZ e)(g:Ut.Gu w) :
  Calls Tryz.prog 20 #[v] w fun e w'=>Below w.heap.size w w'∧∃ y E,e=.returned (.tuple #[.agg y,.int .i64 E])∧(E≠0→y=#[.int .i64 0,.bool false,.bool false,.string ⟨#[]⟩,.int .i64 0,.int .u64 0,.string ⟨#[]⟩,.slice none 0 0,.slice none 0 0])∧(doneS (runE es)=false→E≠0) ∧
   (doneS (runE es)=true→∃ x:VT es.length,es=fl es.length x∧IsV es.length x∧Sz es.length x∧(E=0↔Win es.length x)∧(E=0→∃ ns ls s f,y=vals (vhd es.length x) ns ls∧w.heap.size≤s∧KR es.length w' x ns ls s f)):=by
 obtain ⟨a,c,rfl,h1,h2,h3⟩:=hv
 by_cases h0:es.length=0
 ·have e:es=[]:=List.eq_nil_of_length_eq_zero h0
  subst e
  refine (Build_empty a c w).mono ?_
  rintro e w' ⟨hb,rfl⟩
  exact ⟨hb,_,_,rfl,fun _=>rfl,fun _=>by decide,fun h=>by cases h⟩
 ·obtain ⟨b,o,rfl,hlt,hel⟩:=h3 (by omega)
  have hB:Bd w es b o c:=⟨hel,hlt,h1,h2,hs,hz⟩
  have hc2:c≠1→2≤c:=fun q=>by omega
  by_cases hd:doneS (runE es)=true
  ·obtain ⟨x,hx,hfl⟩:=parse es ((doneS_iff _).1 hd)
   have hsz:Sz es.length x:=fl_sz _ x hx (by rw [←hfl];exact hs) (by rw [←hfl];exact hz)
   have hsi:siz es.length x≤200000:=by have:=fl_siz _ x hx;rw [←hfl] at this;omega
   obtain ⟨E,hE⟩:=chk_ex es.length x
   have hE0:E=0↔Win es.length x:=by
    rw [chk_zero hE];exact ⟨fun q=>q.2,fun q=>⟨hx,q⟩⟩
   have main:∀ e w',Below w.heap.size w w'∧BR es es.length x E w w' e→Below w.heap.size w w'∧∃ y E,e=.returned (.tuple #[.agg y,.int .i64 E])∧(E≠0→y=#[.int .i64 0,.bool false,.bool false,.string ⟨#[]⟩,.int .i64 0,.int .u64 0,.string ⟨#[]⟩,.slice none 0 0,.slice none 0 0])∧(doneS (runE es)=false→E≠0) ∧
     (doneS (runE es)=true→∃ x:VT es.length,es=fl es.length x∧IsV es.length x∧Sz es.length x∧(E=0↔Win es.length x)∧(E=0→∃ ns ls s f,y=vals (vhd es.length x) ns ls∧w.heap.size≤s∧KR es.length w' x ns ls s f)):=by
    rintro e w' ⟨hb,_,_,hbr⟩
    obtain ⟨r1,r2⟩:=hbr hd
    by_cases e0:E=0
    ·obtain ⟨ns,ls,s',f,rfl,hs',hk⟩:=r2 e0
     refine ⟨hb,_,0,rfl,fun q=>absurd rfl q,fun q=>(by rw [hd] at q;cases q),fun _=>⟨x,hfl,hx,hsz,?_,fun _=>⟨ns,ls,s',f,rfl,hs',hk.out⟩⟩⟩
     exact ⟨fun _=>hE0.1 e0,fun _=>rfl⟩
    ·rw [r1 e0]
     exact ⟨hb,_,2,rfl,fun _=>rfl,fun _=>by decide,fun _=>⟨x,hfl,hx,hsz,⟨fun q=>(by cases q),fun q=>absurd (hE0.2 q) e0⟩,fun q=>(by cases q)⟩⟩
   by_cases hc:c=1
   ·subst hc
    exact (Build_one es b o w hB g es.length x (fun _=>⟨hfl,isv_nf _ x hx,hsz,hsi⟩) E hE).mono main
   ·exact (Build_any es b o c w hB (hc2 hc) g es.length x (fun _=>⟨hfl,isv_nf _ x hx,hsz,hsi⟩) E hE).mono main
  ·have hd':doneS (runE es)=false:=by simpa using hd
   have main:∀ e w',Below w.heap.size w w'∧BR es 1 null1 0 w w' e→Below w.heap.size w w'∧∃ y E,e=.returned (.tuple #[.agg y,.int .i64 E])∧(E≠0→y=#[.int .i64 0,.bool false,.bool false,.string ⟨#[]⟩,.int .i64 0,.int .u64 0,.string ⟨#[]⟩,.slice none 0 0,.slice none 0 0])∧(doneS (runE es)=false→E≠0) ∧
     (doneS (runE es)=true→∃ x:VT es.length,es=fl es.length x∧IsV es.length x∧Sz es.length x∧(E=0↔Win es.length x)∧(E=0→∃ ns ls s f,y=vals (vhd es.length x) ns ls∧w.heap.size≤s∧KR es.length w' x ns ls s f)):=by
    rintro e w' ⟨hb,r1,r2,_⟩
    by_cases hn:runE es=none
    ·rw [r1 hn]
     exact ⟨hb,_,50,rfl,fun _=>rfl,fun _=>by decide,fun q=>absurd q hd⟩
    ·rw [r2 hn hd']
     exact ⟨hb,_,51,rfl,fun _=>rfl,fun _=>by decide,fun q=>absurd q hd⟩
   by_cases hc:c=1
   ·subst hc
    exact (Build_one es b o w hB g 1 null1 (fun q=>absurd q hd) 0 null_chk).mono main
   ·exact (Build_any es b o c w hB (hc2 hc) g 1 null1 (fun q=>absurd q hd) 0 null_chk).mono main
end Go.Proofs.YthodiandebahdaaGreatDoor
