/- Merged by program: FdBuild, FlPure. -/
import Derived.Test.YtdgehngffccjaaaGreatDoorZx27
namespace Go.Proofs.YtdgehngffccjaaaGreatDoor
open Go.RowKit
set_option linter.unusedSimpArgs false
set_option linter.unusedVariables false
set_option maxHeartbeats 8000000
theorem build_c1:∀ (n:Nat) (x:VT n),NF n x→(fl n x).length≤1→∀ (b o:Nat) (W:World),EL W b o (fl n x)→b<W.heap.size →
  Calls Tryz.prog 36 #[.slice (some ⟨b,o,none⟩) (fl n x).length 1] W fun e w'=>∃ ns ls sv,e=.returned (.tuple #[.agg (vals (vhd n x) ns ls),sv])∧Hid (KR n w' x ns ls W.heap.size w'.heap.size)∧Hid (Below W.heap.size W w')∧True
 | 0,x,_,_,_,_,_,_,_=>Empty.elim x
 | n + 1,(h,l),nf,hl,b,o,W,he,hb=>by
  have h7:h.kind<7:=by
   by_cases h7:h.kind<7
   ·exact h7
   ·rw [fl_succ,if_neg h7] at hl
    simp at hl
  have hl0:l=[]:=nf.2.2.1 h7
  subst hl0
  have hn0:h.names=[]:=nf.2.2.2.2.1 (by show h.kind≠8;omega)
  have hf:fl (n + 1) ((h,[]):VT (n + 1))=[h]:=by rw [fl_succ,if_pos h7,hd0_id hn0]
  rw [hf] at he ⊢
  refine (build_one n h h7 hn0 b o W he hb).mono ?_
  rintro e w' ⟨ns,ls,sv,rfl,h1,h2⟩
  exact ⟨ns,ls,sv,rfl,h1,h2,trivial⟩
set_option maxRecDepth 100000 in
theorem Build_one (es:List Hd) (b o:Nat) (w:World) (hB:Bd w es b o 1) (g:Ut.Gu w) (n:Nat) (x:VT n) (tr:doneS (runE es)=true→es=fl n x∧NF n x∧Sz n x∧siz n x≤200000) (E:Int) (hE:Chk n x E) :
  Calls Tryz.prog 19 #[.slice (some ⟨b,o,none⟩) es.length 1] w fun e w'=>Below w.heap.size w w'∧BR es n x E w w' e:=by
 have hnew:=hide cnew_any
 have hlen:=hB.len
 have hmax:=hB.max
 have hsm:=hB.small
 have hlt:=hB.lt
 have hB':=hide hB
 have tr':=hide tr
 have hE':=hide hE
 have g':=hide g
 have ml:maxLen=9223372036854775807:=rfl
 clear hB tr hE g
 go_enter Tryz.func19, Tryz.ntmps19
 go_wp2_with (go_at_call 33;refine (hnew.out _).mono ?_;rintro e w1 ⟨rfl,hk1,hb1⟩)
 simp only [World.size_alloc] at hk1
 have z1:w.heap.size + 1<w1.heap.size:=hk1.lt
 have HR1:=hide ((bx_new w (zr 0) (.slice none 0 0) (.slice none 0 0)).below hb1)
 have HB1:=hide (below_then (below_al (Below.refl _ _)) hb1)
 have HC1:=hide (CkS.new hk1 (by omega))
 clear hk1 hb1 hnew
 go_loopw [13] (fun u W=>∃ k:Nat,u=.int .i64 k∧k≤es.length∧Hid (CkS W (w.heap.size + 1) (w.heap.size + 1 + 1) k (runE (es.take k))∧runE (es.take k)≠none∧Below w.heap.size w W∧Bx W w.heap.size (zr 0) (.slice none 0 0) (.slice none 0 0)∧w.heap.size + 1<W.heap.size)) (fun u _=>es.length - (intOf u).toNat)
 case atStart=>exact ⟨0,rfl,Nat.zero_le _,hide ⟨by simpa [runE,runS] using HC1.out,by simp [runE,runS],HB1.out,HR1.out,z1⟩⟩
 case round =>
  obtain ⟨k,rfl,hk,HH⟩:=hrel
  obtain ⟨hC,hne,hbw,hR,hz⟩:=HH.out
  have hbr:b<wr.heap.size:=Nat.lt_of_lt_of_le hlt hbw.size
  have zw:w.heap.size<wr.heap.size:=by omega
  obtain ⟨r0,r1,r2,r3,r4,r5,r6,r7,r8⟩:=hR.cells
  have fR:=hR.frz
  simp only [zr] at r0 r1 r2 r3 r4 r5 r6
  clear HC1 HR1 HB1 HH
  by_cases hkl:k<es.length
  ·have hki:(k:Int)<(es.length:Int):=by omega
   obtain ⟨c0,c1,c2,c3,c4,c5,c6⟩:=range7 (rangeAt_below (hB'.out.at k hkl) hbw hlt)
   have fd:=hide (cfeed_any (W:=wr.alloc (.cells (evs es[k]) 74)) (i:=w.heap.size + 1) (B:=w.heap.size + 1 + 1) (n:=k) (runE (es.take k)) es[k] (hB'.out.ez _ (List.getElem_mem hkl)) (hC.then (below_al (Below.refl _ _))) (by simp;omega) (by omega) (by simp;omega) (by omega) (g'.out.below (below_al hbw)) (mayB es[k]) (mayB_iff _))
   rw [←runE_take es k hkl] at fd
   obtain ⟨h,hh⟩:∃ h,es[k]=h:=⟨_,rfl⟩
   rw [hh] at c0 c1 c2 c3 c4 c5 c6 fd
   simp only [evs] at fd
   have hR':=hide hR
   have hbw':=hide hbw
   have hrun:=hide (fun q:runE (es.take (k + 1))=none=>runE_cut es (k + 1) q)
   obtain ⟨s,hs⟩:∃ s,runE (es.take (k + 1))=s:=⟨_,rfl⟩
   rw [hs] at fd hrun
   have hs':=hide hs
   clear hC hne hR hbw hs
   cases s with
   | none =>
    go_wp2_with (go_at_call 34;refine fd.out.mono ?_;rintro e w2 ⟨rfl,hc2',hb2⟩;have R2:=hide ((hR'.out.below (below_al (Below.refl _ _))).low hb2 (Nat.lt_succ_self _));obtain ⟨r0,r1,r2,r3,r4,r5,r6,r7,r8⟩:=R2.out.cells;have fR:=R2.out.frz;simp only [zr] at r0 r1 r2 r3 r4 r5 r6;have B2:=hide ((below_al hbw'.out).trans (hb2.mono (Nat.le_succ _)));clear hc2' hb2)
    refine bodyPost_ret (v:=.tuple #[.agg #[.int .i64 0,.bool false,.bool false,.string ⟨#[]⟩,.int .i64 0,.int .u64 0,.string ⟨#[]⟩,.slice none 0 0,.slice none 0 0],.int .i64 50]) (by simp [results,Tryz.results19,go_sem, *]) rfl ⟨?_,?_⟩
    ·(iterate 9 (refine Below.setCell ?_ (by show _≤_;exact Nat.le_refl _) _))
     exact B2.out
    ·have hn:=hrun.out trivial
     exact ⟨fun _=>rfl,fun h=>absurd hn h,fun h=>by rw [hn] at h;cases h⟩
   | some y =>
    go_wp2_with (go_at_call 34;refine fd.out.mono ?_;rintro e w2 ⟨rfl,hc2',hb2⟩;have R2:=hide ((hR'.out.below (below_al (Below.refl _ _))).low hb2 (Nat.lt_succ_self _));have B2:=hide ((below_al hbw'.out).trans (hb2.mono (Nat.le_succ _)));have C2:=hide hc2';have z2:=hb2.size;simp only [World.size_alloc] at z2;clear hc2' hb2)
    exact ⟨⟨k + 1,by go_num,by omega,hide ⟨by rw [hs'.out];exact C2.out,by rw [hs'.out];simp,B2.out,R2.out,by omega⟩⟩,by simp [intOf];omega⟩
  ·have hki:¬ ((k:Int)<(es.length:Int)):=by omega
   have hkeq:k=es.length:=by omega
   subst hkeq
   rw [List.take_length] at hC hne
   have dn:=hide hC.done
   have hne':=hide hne
   have hR':=hide hR
   have hbw':=hide hbw
   clear hC hne hR hbw
   have drewN_below:∀ m,Below wr.heap.size wr (wr.drewN m):=fun m=>⟨rfl,rfl,rfl,Nat.le_refl _,fun _ _=>rfl⟩
   by_cases hd:doneS (runE es)=true
   ·obtain ⟨he,nf,sz,le⟩:=tr'.out hd
    have bl:=hide (fun W (hb:Below w.heap.size w W)=>build_c1 n x nf (by rw [←he];exact hlen) b o W (by rw [←he];exact hB'.out.el.below hb hlt) (Nat.lt_of_lt_of_le hlt hb.size))
    have ck:=hide (fun W ns ls (hb:Below w.heap.size w W) (hr:RD n W x ns ls)=>check_any n x ns ls W ⟨hr,sz,le⟩ (g'.out.below hb) E hE'.out)
    rw [hd] at dn
    have dd:=hide drewN_below
    have he':=hide he
    have hd':=hide hd
    rw [←he] at bl
    obtain ⟨hx,hhx⟩:∃ hx,vhd n x=hx:=⟨_,rfl⟩
    rw [hhx] at bl ck
    simp only [vals] at bl ck
    clear drewN_below r0 r1 r2 r3 r4 r5 r6 r7 r8 fR hd he
    go_wp2_with (go_at_call 35;refine dn.out.mono ?_;rintro e w2 ⟨rfl,m2,rfl⟩)
    have B2:=hide (hbw'.out.trans ((dd.out m2).mono hbw'.out.size))
    refine (bl.out _ B2.out).mono ?_
    rintro e w3 ⟨ns3,ls3,sv,rfl,hk3,hb3,_⟩
    obtain ⟨q1,q2,q3,q4,q5,q6,rfl,rfl⟩:=hk3.out.rd.shape
    have B3:=hide (below_then B2.out hb3.out)
    have z3:wr.heap.size≤w3.heap.size:=hb3.out.size
    have R3:=hide ((hR'.out.below (dd.out m2)).below hb3.out)
    by_cases hE0:E=0
    ·subst hE0
     go_wp2_with (go_at_call 37;refine (ck.out _ _ _ (below_al B3.out) (hk3.out.rd.below (below_al (Below.refl _ _)))).mono ?_;rintro e w4 ⟨rfl,hb4⟩;have R4:=hide ((R3.out.below (below_al (Below.refl _ _))).below hb4);obtain ⟨r0,r1,r2,r3,r4,r5,r6,r7,r8⟩:=R4.out.cells;have fR:=R4.out.frz;simp only [zr] at r0 r1 r2 r3 r4 r5 r6;have V4:=hide ((bx_new w3 hx (.slice q1 q2 q3) (.slice q4 q5 q6)).below hb4);obtain ⟨v0,v1,v2,v3,v4,v5,v6,v7,v8⟩:=V4.out.cells;have B4:=hide (below_then (below_al B3.out) hb4);have z4:=hb4.size;simp only [World.size_alloc] at z4;have K4:=hide (hk3.out.move (W1:=w4) (by omega) (fun q p1 p2=>by rw [hb4.block q (by simp;omega),Below.heap_alloc _ _ _ p2]));clear hb4)
     refine bodyPost_ret (v:=.tuple #[.agg #[.int .i64 hx.kind,.bool hx.flag,.bool hx.neg,.string hx.dig,.int .i64 hx.exp,.int .u64 hx.bits,.string hx.text,.slice q1 q2 q3,.slice q4 q5 q6],.int .i64 0]) (by simp [results,Tryz.results19,go_sem, *]) rfl ⟨?_,?_⟩
     ·(iterate 9 (refine Below.setCell ?_ (by show _≤_;exact Nat.le_refl _) _))
      exact B4.out
     ·refine ⟨fun h=>absurd h hne'.out,fun _ h=>(by rw [hd'.out] at h;cases h),fun _=>⟨fun h=>absurd rfl h,fun _=>⟨.slice q1 q2 q3,.slice q4 q5 q6,wr.heap.size,w3.heap.size,by rw [hhx];rfl,by omega,?_⟩⟩⟩
      refine hide (K4.out.move (by simp;omega) ?_)
      intro q p1 p2
      have p1':wr.heap.size≤q:=p1
      simp only [heap_set_ne (show q≠w.heap.size by omega)]
    ·have hE1:(E != 0)=true:=by simpa using hE0
     go_wp2_with (go_at_call 37;refine (ck.out _ _ _ (below_al B3.out) (hk3.out.rd.below (below_al (Below.refl _ _)))).mono ?_;rintro e w4 ⟨rfl,hb4⟩;have R4:=hide ((R3.out.below (below_al (Below.refl _ _))).below hb4);obtain ⟨r0,r1,r2,r3,r4,r5,r6,r7,r8⟩:=R4.out.cells;have fR:=R4.out.frz;simp only [zr] at r0 r1 r2 r3 r4 r5 r6;have V4:=hide ((bx_new w3 hx (.slice q1 q2 q3) (.slice q4 q5 q6)).below hb4);obtain ⟨v0,v1,v2,v3,v4,v5,v6,v7,v8⟩:=V4.out.cells;have B4:=hide (below_then (below_al B3.out) hb4);have z4:=hb4.size;simp only [World.size_alloc] at z4;have K4:=hide (hk3.out.move (W1:=w4) (by omega) (fun q p1 p2=>by rw [hb4.block q (by simp;omega),Below.heap_alloc _ _ _ p2]));clear hb4)
     refine bodyPost_ret (v:=.tuple #[.agg #[.int .i64 0,.bool false,.bool false,.string ⟨#[]⟩,.int .i64 0,.int .u64 0,.string ⟨#[]⟩,.slice none 0 0,.slice none 0 0],.int .i64 2]) (by simp [results,Tryz.results19,go_sem, *]) rfl ⟨?_,?_⟩
     ·(iterate 9 (refine Below.setCell ?_ (by show _≤_;exact Nat.le_refl _) _))
      exact B4.out
     ·exact ⟨fun h=>absurd h hne'.out,fun _ h=>(by rw [hd'.out] at h;cases h),fun _=>⟨fun _=>rfl,fun h=>absurd h hE0⟩⟩
   ·rw [Bool.not_eq_true] at hd
    rw [hd] at dn
    have hd':=hide hd
    have dd:=hide (fun m=>(hR'.out.below (drewN_below m)).cells)
    have df:=hide (fun m=>(hR'.out.below (drewN_below m)).frz)
    have db:=hide drewN_below
    clear drewN_below r0 r1 r2 r3 r4 r5 r6 r7 r8 fR hd
    go_wp2_with (go_at_call 35;refine dn.out.mono ?_;rintro e w2 ⟨rfl,m2,rfl⟩;obtain ⟨r0,r1,r2,r3,r4,r5,r6,r7,r8⟩:=dd.out m2;have fR:=df.out m2;simp only [zr] at r0 r1 r2 r3 r4 r5 r6)
    refine bodyPost_ret (v:=.tuple #[.agg #[.int .i64 0,.bool false,.bool false,.string ⟨#[]⟩,.int .i64 0,.int .u64 0,.string ⟨#[]⟩,.slice none 0 0,.slice none 0 0],.int .i64 51]) (by simp [results,Tryz.results19,go_sem, *]) rfl ⟨?_,?_⟩
    ·(iterate 9 (refine Below.setCell ?_ (by show _≤_;exact Nat.le_refl _) _))
     exact hbw'.out.trans ((db.out m2).mono hbw'.out.size)
    ·exact ⟨fun h=>absurd h hne'.out,fun _ _=>rfl,fun h=>by rw [hd'.out] at h;cases h⟩
theorem Build_es (v:Value) (es:List Hd) (w:World) (hv:ES w v es) (hs:es.length≤199000) (hz:∀ e∈es,EvZ e) (g:Ut.Gu w) :
  Calls Tryz.prog 19 #[v] w fun e w'=>Below w.heap.size w w'∧∃ y E,e=.returned (.tuple #[.agg y,.int .i64 E])∧(E≠0→y=#[.int .i64 0,.bool false,.bool false,.string ⟨#[]⟩,.int .i64 0,.int .u64 0,.string ⟨#[]⟩,.slice none 0 0,.slice none 0 0])∧(doneS (runE es)=false→E≠0) ∧
   (doneS (runE es)=true→∃ x:VT es.length,es=fl es.length x∧IsV es.length x∧Sz es.length x∧(E=0↔Win es.length x)∧(E=0→∃ ns ls s f,y=vals (vhd es.length x) ns ls∧w.heap.size≤s∧KR es.length w' x ns ls s f)):=by
 obtain ⟨a,c,rfl,h1,h2,h3⟩:=hv
 by_cases h0:es.length=0
 ·have e:es=[]:=List.eq_nil_of_length_eq_zero h0
  subst e
  refine (Build_empty a c w).mono ?_
  rintro e w' ⟨hb,rfl⟩
  exact ⟨hb,_,_,rfl,fun _=>rfl,fun _=>by decide,fun h=>by cases h⟩
 ·obtain ⟨b,o,rfl,hlt,hel⟩:=h3 (by omega)
  have hB:Bd w es b o c:=⟨hel,hlt,h1,h2,hs,hz⟩
  have hc2:c≠1→2≤c:=fun q=>by omega
  by_cases hd:doneS (runE es)=true
  ·obtain ⟨x,hx,hfl⟩:=parse es ((doneS_iff _).1 hd)
   have hsz:Sz es.length x:=fl_sz _ x hx (by rw [←hfl];exact hs) (by rw [←hfl];exact hz)
   have hsi:siz es.length x≤200000:=by have:=fl_siz _ x hx;rw [←hfl] at this;omega
   obtain ⟨E,hE⟩:=chk_ex es.length x
   have hE0:E=0↔Win es.length x:=by
    rw [chk_zero hE];exact ⟨fun q=>q.2,fun q=>⟨hx,q⟩⟩
   have main:∀ e w',Below w.heap.size w w'∧BR es es.length x E w w' e→Below w.heap.size w w'∧∃ y E,e=.returned (.tuple #[.agg y,.int .i64 E])∧(E≠0→y=#[.int .i64 0,.bool false,.bool false,.string ⟨#[]⟩,.int .i64 0,.int .u64 0,.string ⟨#[]⟩,.slice none 0 0,.slice none 0 0])∧(doneS (runE es)=false→E≠0) ∧
     (doneS (runE es)=true→∃ x:VT es.length,es=fl es.length x∧IsV es.length x∧Sz es.length x∧(E=0↔Win es.length x)∧(E=0→∃ ns ls s f,y=vals (vhd es.length x) ns ls∧w.heap.size≤s∧KR es.length w' x ns ls s f)):=by
    rintro e w' ⟨hb,_,_,hbr⟩
    obtain ⟨r1,r2⟩:=hbr hd
    by_cases e0:E=0
    ·obtain ⟨ns,ls,s',f,rfl,hs',hk⟩:=r2 e0
     refine ⟨hb,_,0,rfl,fun q=>absurd rfl q,fun q=>(by rw [hd] at q;cases q),fun _=>⟨x,hfl,hx,hsz,?_,fun _=>⟨ns,ls,s',f,rfl,hs',hk.out⟩⟩⟩
     exact ⟨fun _=>hE0.1 e0,fun _=>rfl⟩
    ·rw [r1 e0]
     exact ⟨hb,_,2,rfl,fun _=>rfl,fun _=>by decide,fun _=>⟨x,hfl,hx,hsz,⟨fun q=>(by cases q),fun q=>absurd (hE0.2 q) e0⟩,fun q=>(by cases q)⟩⟩
   by_cases hc:c=1
   ·subst hc
    exact (Build_one es b o w hB g es.length x (fun _=>⟨hfl,isv_nf _ x hx,hsz,hsi⟩) E hE).mono main
   ·exact (Build_any es b o c w hB (hc2 hc) g es.length x (fun _=>⟨hfl,isv_nf _ x hx,hsz,hsi⟩) E hE).mono main
  ·have hd':doneS (runE es)=false:=by simpa using hd
   have main:∀ e w',Below w.heap.size w w'∧BR es 1 null1 0 w w' e→Below w.heap.size w w'∧∃ y E,e=.returned (.tuple #[.agg y,.int .i64 E])∧(E≠0→y=#[.int .i64 0,.bool false,.bool false,.string ⟨#[]⟩,.int .i64 0,.int .u64 0,.string ⟨#[]⟩,.slice none 0 0,.slice none 0 0])∧(doneS (runE es)=false→E≠0) ∧
     (doneS (runE es)=true→∃ x:VT es.length,es=fl es.length x∧IsV es.length x∧Sz es.length x∧(E=0↔Win es.length x)∧(E=0→∃ ns ls s f,y=vals (vhd es.length x) ns ls∧w.heap.size≤s∧KR es.length w' x ns ls s f)):=by
    rintro e w' ⟨hb,r1,r2,_⟩
    by_cases hn:runE es=none
    ·rw [r1 hn]
     exact ⟨hb,_,50,rfl,fun _=>rfl,fun _=>by decide,fun q=>absurd q hd⟩
    ·rw [r2 hn hd']
     exact ⟨hb,_,51,rfl,fun _=>rfl,fun _=>by decide,fun q=>absurd q hd⟩
   by_cases hc:c=1
   ·subst hc
    exact (Build_one es b o w hB g 1 null1 (fun q=>absurd q hd) 0 null_chk).mono main
   ·exact (Build_any es b o c w hB (hc2 hc) g 1 null1 (fun q=>absurd q hd) 0 null_chk).mono main
theorem hd0_eq {h h':Hd} (q:hd0 h=hd0 h'):h'={h with names:=h'.names}:=by
 obtain ⟨a1,a2,a3,a4,a5,a6,a7,a8⟩:=h
 obtain ⟨b1,b2,b3,b4,b5,b6,b7,b8⟩:=h'
 simp only [hd0,Hd.mk.injEq] at q ⊢
 obtain ⟨q1,q2,q3,q4,q5,q6,q7,_⟩:=q
 exact ⟨q1.symm,q2.symm,q3.symm,q4.symm,q5.symm,q6.symm,q7.symm,trivial⟩
theorem fl_first:∀ (n:Nat) (x:VT n),IsV n x→∃ t r,fl n x=t :: r∧1≤t.kind∧t.kind≤9
 | 0,x,_=>Empty.elim x
 | n + 1,(h,l),hv=>⟨_,_,fl_succ n h l,hv.1.1,hv.1.2.1⟩
theorem fl_inj:∀ (n:Nat) (x y:VT n),IsV n x→IsV n y→∀ r r',fl n x++r=fl n y++r'→x=y∧r=r'
 | 0,x,_,_,_,_,_,_=>Empty.elim x
 | n + 1,(h,l),(h',l'),hv,hv',r,r',heq=>by
  have ih:=fl_inj n
  have e0:hd0 h=hd0 h':=by
   rw [fl_succ,fl_succ] at heq
   exact (List.cons.inj heq).1
  have hk:h.kind=h'.kind:=by
   have q:=congrArg Hd.kind e0
   exact q
  have hh:=hd0_eq e0
  by_cases h7:h.kind<7
  ·rw [post_leaf n h l r h7,post_leaf n h' l' r' (by omega)] at heq
   have e1:=(List.cons.inj heq).2
   have l1:l=[]:=by rcases hv.1.2.2.2 with q|q;(have:7≤h.kind:=q;omega);exact q
   have l2:l'=[]:=by rcases hv'.1.2.2.2 with q|q;(have:7≤h'.kind:=q;omega);exact q
   have n1:=strip_names h hv.1.2.2.1 (by omega)
   have n2:=strip_names h' hv'.1.2.2.1 (by omega)
   subst l1 l2
   refine ⟨?_,e1⟩
   rw [n2] at hh
   rw [hh,←n1]
  ·rw [post_zero n h l r h7,post_zero n h' l' r' (by omega)] at heq
   have e1:=(List.cons.inj heq).2
   have key:∀ (d k:Nat),d=l.length - k→k≤l.length→k≤l'.length→l.take k=l'.take k→(h.kind=8→h.names.take k=h'.names.take k)→post n h l r k=post n h' l' r' k→l=l'∧(h.kind=8→h.names=h'.names)∧r=r':=by
    intro d
    induction d with
    | zero =>
     intro k hd k1 k2 t1 t2 hp
     have hkl:k=l.length:=by omega
     by_cases q:k<l'.length
     ·rw [hkl,post_end,←hkl,post_succ n h' l' r' k q] at hp
      have hy:=hv'.2.2 _ (List.getElem_mem q)
      obtain ⟨t,rr,ht,ha,hb⟩:=fl_first n _ hy
      rw [ht] at hp
      by_cases h8:h'.kind=8
      ·unfold preN at hp
       rw [if_pos h8] at hp
       have:=congrArg Hd.kind (List.cons.inj hp).1
       simp [evE,evN,zr] at this
      ·unfold preN at hp
       rw [if_neg h8] at hp
       have:=congrArg Hd.kind (List.cons.inj hp).1
       simp [evE,zr] at this
       omega
     ·have hk2:k=l'.length:=by omega
      rw [hkl,post_end,←hkl,hk2,post_end] at hp
      rw [hkl,List.take_length,←hkl,hk2,List.take_length] at t1
      refine ⟨t1,fun h8=>?_,(List.cons.inj hp).2⟩
      have f1:h.names.length=l.length:=(hv.2.1.2.2.1 h8).1
      have f2:h'.names.length=l'.length:=(hv'.2.1.2.2.1 (hk.symm.trans h8)).1
      have:=t2 h8
      rw [List.take_of_length_le (by omega),List.take_of_length_le (by omega)] at this
      exact this
    | succ d ihd =>
     intro k hd k1 k2 t1 t2 hp
     have q1:k<l.length:=by omega
     rw [post_succ n h l r k q1] at hp
     by_cases q2:k<l'.length
     ·rw [post_succ n h' l' r' k q2] at hp
      have hp2:preN h k=preN h' k∧fl n l[k]++post n h l r (k + 1)=fl n l'[k]++post n h' l' r' (k + 1):=by
       unfold preN at hp ⊢
       by_cases h8:h.kind=8
       ·rw [if_pos h8,if_pos (hk.symm.trans h8)] at hp ⊢
        have:=List.cons.inj hp
        exact ⟨by rw [this.1],this.2⟩
       ·rw [if_neg h8,if_neg (fun e=>h8 (hk.trans e))] at hp ⊢
        exact ⟨rfl,hp⟩
      obtain ⟨p1,p2⟩:=hp2
      obtain ⟨c1,c2⟩:=ih _ _ (hv.2.2 _ (List.getElem_mem q1)) (hv'.2.2 _ (List.getElem_mem q2)) _ _ p2
      refine ihd (k + 1) (by omega) q1 q2 ?_ (fun h8=>?_) c2
      ·rw [List.take_succ_eq_append_getElem q1,List.take_succ_eq_append_getElem q2,t1,c1]
      ·have f1:h.names.length=l.length:=(hv.2.1.2.2.1 h8).1
       have f2:h'.names.length=l'.length:=(hv'.2.1.2.2.1 (hk.symm.trans h8)).1
       unfold preN at p1
       rw [if_pos h8,if_pos (hk.symm.trans h8)] at p1
       have p1':=congrArg Hd.text (List.cons.inj p1).1
       simp only [evN,zr] at p1'
       rw [List.getElem?_eq_getElem (by omega),List.getElem?_eq_getElem (by omega)] at p1'
       have p3:h.names[k]'(by omega)=h'.names[k]'(by omega):=p1'
       rw [List.take_succ_eq_append_getElem (by omega),List.take_succ_eq_append_getElem (by omega),t2 h8,p3]
     ·have hk2:k=l'.length:=by omega
      have hpe:=post_end n h' l' r'
      rw [←hk2] at hpe
      rw [hpe] at hp
      have hy:=hv.2.2 _ (List.getElem_mem q1)
      obtain ⟨t,rr,ht,ha,hb⟩:=fl_first n _ hy
      rw [ht] at hp
      by_cases h8:h.kind=8
      ·unfold preN at hp
       rw [if_pos h8] at hp
       have:=congrArg Hd.kind (List.cons.inj hp).1
       simp [evE,evN,zr] at this
      ·unfold preN at hp
       rw [if_neg h8] at hp
       have:=congrArg Hd.kind (List.cons.inj hp).1
       simp [evE,zr] at this
       omega
   obtain ⟨a1,a2,a3⟩:=key l.length 0 (by simp) (Nat.zero_le _) (Nat.zero_le _) rfl (fun _=>rfl) e1
   refine ⟨?_,a3⟩
   subst a1
   have nn:h.names=h'.names:=by
    by_cases h8:h.kind=8
    ·exact a2 h8
    ·rw [strip_names h hv.1.2.2.1 h8,strip_names h' hv'.1.2.2.1 (fun e=>h8 (hk.trans e))]
   rw [hh,←nn]
end Go.Proofs.YtdgehngffccjaaaGreatDoor
