/- Merged by program: WiCheck, EaHead, EbChk. -/
import Derived.Test.YtdgehngffccjaaaGreatDoorZx12
namespace Go.Proofs.YtdgehngffccjaaaGreatDoor
open Go.RowKit
set_option linter.unusedSimpArgs false
set_option linter.unusedVariables false
set_option maxHeartbeats 8000000
def Win (n:Nat) (x:VT n):Prop:=Sht n x∧dep n x≤16∧siz n x≤4096
def Chk (n:Nat) (x:VT n) (e:Int):Prop:=(e=40∧¬ IsV n x)∨(e=2∧IsV n x∧¬ Win n x)∨(e=0∧IsV n x∧Win n x)
theorem chk_ex (n:Nat) (x:VT n):∃ e,Chk n x e:=by
 by_cases h:IsV n x
 ·by_cases k:Win n x
  ·exact ⟨0,Or.inr (Or.inr ⟨rfl,h,k⟩)⟩
  ·exact ⟨2,Or.inr (Or.inl ⟨rfl,h,k⟩)⟩
 ·exact ⟨40,Or.inl ⟨rfl,h⟩⟩
structure Rdy (n:Nat) (w:World) (x:VT n) (ns ls:Value):Prop where
 rd:RD n w x ns ls
 sz:Sz n x
 le:siz n x≤200000
theorem Rdy.below {n:Nat} {w W:World} {x:VT n} {ns ls:Value} (h:Rdy n w x ns ls) (hb:Below w.heap.size w W):Rdy n W x ns ls:=⟨h.rd.below hb,h.sz,h.le⟩
set_option maxRecDepth 100000 in
theorem check_any (n:Nat) (x:VT n) (ns ls:Value) (w:World) (hr:Rdy n w x ns ls) (g:Ut.Gu w) (E:Int) (hE:Chk n x E) :
  Calls Tryz.prog 37 #[.agg (vals (vhd n x) ns ls)] w fun e w'=>e=.returned (.int .i64 E)∧Below w.heap.size w w':=by
 obtain ⟨a1,m1,d1,a2,m2,d2,rfl,rfl⟩:=hr.rd.shape
 obtain ⟨h,hh⟩:∃ h,vhd n x=h:=⟨_,rfl⟩
 obtain ⟨b1,hb1⟩:=tells (IsV n x)
 obtain ⟨b2,hb2⟩:=tells (Sht n x)
 have hV:=hide (fun o=>Calls.tb (isValue_any n x (.slice a1 m1 d1) (.slice a2 m2 d2) (w.alloc o) (hr.rd.below (below_al (Below.refl _ _))) hr.sz (g.below (below_al (Below.refl _ _)))) hb1)
 have hS:=hide (fun W (hb:Below w.heap.size w W)=>Calls.tb (isShort_any n x (.slice a1 m1 d1) (.slice a2 m2 d2) W (hr.rd.below hb) hr.sz) hb2)
 have hD:=hide (fun W (hb:Below w.heap.size w W)=>depth_any n x (.slice a1 m1 d1) (.slice a2 m2 d2) W (hr.rd.below hb) hr.le)
 have hZ:=hide (fun W (hb:Below w.heap.size w W)=>size_any n x (.slice a1 m1 d1) (.slice a2 m2 d2) W (hr.rd.below hb) hr.le)
 have hb0:Hid (∀ o,Below w.heap.size w (w.alloc o)):=fun o=>below_al (Below.refl _ _)
 obtain ⟨D,hDD⟩:∃ D,dep n x=D:=⟨_,rfl⟩
 obtain ⟨Z,hZZ⟩:∃ Z,siz n x=Z:=⟨_,rfl⟩
 have hE':=hide (show (E=40∧b1=false)∨(E=2∧b1=true∧¬ (b2=true∧D≤16∧Z≤4096))∨(E=0∧b1=true∧b2=true∧D≤16∧Z≤4096) by
  unfold Chk Win at hE
  rw [hDD,hZZ,←hb1,←hb2] at hE
  simpa using hE)
 rw [hh] at hV hS hD hZ ⊢
 rw [hDD] at hD
 rw [hZZ] at hZ
 have hB0:=hide (bx_new w h (.slice a1 m1 d1) (.slice a2 m2 d2))
 clear hr g hh hDD hZZ hE hb1 hb2
 show Calls _ _ #[.agg #[.int .i64 h.kind,.bool h.flag,.bool h.neg,.string h.dig,.int .i64 h.exp,.int .u64 h.bits,.string h.text,.slice a1 m1 d1,.slice a2 m2 d2]] _ _
 cases b1
 ·have e0:E=40:=by rcases hE'.out with ⟨q,_⟩|⟨_,q,_⟩|⟨_,q,_⟩;exact q;cases q;cases q
  subst e0
  go_enter Tryz.func37, Tryz.ntmps37
  go_wp2_with (go_at_call 62;refine (hV.out _).mono ?_;rintro e w1 ⟨rfl,hb1⟩)
  go_ret
  exact ⟨rfl,below_then (hb0.out _) hb1⟩
 ·have hE2:=hide (show (E=2∧¬ (b2=true∧D≤16∧Z≤4096))∨(E=0∧b2=true∧D≤16∧Z≤4096) by
   rcases hE'.out with ⟨_,q⟩|⟨q,_,r⟩|⟨q,_,r⟩
   ·cases q
   ·exact Or.inl ⟨q,r⟩
   ·exact Or.inr ⟨q,r⟩)
  clear hE'
  go_enter Tryz.func37, Tryz.ntmps37
  go_wp2_with fail
  refine (hV.out _).mono ?_
  rintro e w1 ⟨rfl,hb1⟩
  have hw1:=hide (below_then (hb0.out _) hb1)
  have hB1:=hide (hB0.out.below hb1)
  obtain ⟨c0,c1,c2,c3,c4,c5,c6,c7,c8⟩:=hB1.out.cells
  have hS1:=hide (hS.out w1 hw1.out)
  cases b2
  ·have e0:E=2:=by rcases hE2.out with ⟨q,_⟩|⟨_,q,_⟩;exact q;cases q
   subst e0
   go_wp2_with (go_at_call 63;refine hS1.out.mono ?_;rintro e w2 ⟨rfl,hb2⟩)
   go_ret
   exact ⟨rfl,below_then hw1.out hb2⟩
  ·have hE3:=hide (show (E=2∧¬ (D≤16∧Z≤4096))∨(E=0∧D≤16∧Z≤4096) by
    rcases hE2.out with ⟨q,r⟩|⟨q,_,r⟩
    ·exact Or.inl ⟨q,fun s=>r ⟨rfl,s⟩⟩
    ·exact Or.inr ⟨q,r⟩)
   clear hE2
   go_wp2_with fail
   refine hS1.out.mono ?_
   rintro e w2 ⟨rfl,hb2⟩
   have hw2:=hide (below_then hw1.out hb2)
   have hB2:=hide (hB1.out.below hb2)
   clear c0 c1 c2 c3 c4 c5 c6 c7 c8
   obtain ⟨c0,c1,c2,c3,c4,c5,c6,c7,c8⟩:=hB2.out.cells
   have hD1:=hide (hD.out w2 hw2.out)
   by_cases hd:(16:Int)<(D:Int)
   ·have e0:E=2:=by rcases hE3.out with ⟨q,_⟩|⟨_,q,_⟩;exact q;omega
    subst e0
    go_wp2_with (go_at_call 64;refine hD1.out.mono ?_;rintro e w3 ⟨rfl,hb3⟩)
    go_ret
    exact ⟨rfl,below_then hw2.out hb3⟩
   ·go_wp2_with fail
    refine hD1.out.mono ?_
    rintro e w3 ⟨rfl,hb3⟩
    have hw3:=hide (below_then hw2.out hb3)
    have hB3:=hide (hB2.out.below hb3)
    clear c0 c1 c2 c3 c4 c5 c6 c7 c8
    obtain ⟨c0,c1,c2,c3,c4,c5,c6,c7,c8⟩:=hB3.out.cells
    have hZ1:=hide (hZ.out w3 hw3.out)
    by_cases hz:(4096:Int)<(Z:Int)
    ·have e0:E=2:=by rcases hE3.out with ⟨q,_⟩|⟨_,_,q⟩;exact q;omega
     subst e0
     go_wp2_with (go_at_call 65;refine hZ1.out.mono ?_;rintro e w4 ⟨rfl,hb4⟩)
     go_ret
     exact ⟨rfl,below_then hw3.out hb4⟩
    ·have e0:E=0:=by
      rcases hE3.out with ⟨_,q⟩|⟨q,_⟩
      ·exact absurd ⟨by omega,by omega⟩ q
      ·exact q
     subst e0
     go_wp2_with (go_at_call 65;refine hZ1.out.mono ?_;rintro e w4 ⟨rfl,hb4⟩)
     go_ret
     exact ⟨rfl,below_then hw3.out hb4⟩
def evs (h:Hd):Array Value:=#[.int .i64 h.kind,.bool h.flag,.bool h.neg,.string h.dig,.int .i64 h.exp,.int .u64 h.bits,.string h.text]
def EvZ (h:Hd):Prop:=h.text.size≤281474976710656∧h.dig.size≤281474976710656∧h.names=[]
theorem head_any (h:Hd) (w:World):Calls Tryz.prog 61 #[.agg (evs h)] w fun e w'=>e=.returned (.agg (vals h (.slice none 0 0) (.slice none 0 0)))∧Below w.heap.size w w':=by
 unfold evs
 go_enter Tryz.func61, Tryz.ntmps61
 go_wp2
 exact bodyPost_ret (v:=.agg #[.int .i64 h.kind,.bool h.flag,.bool h.neg,.string h.dig,.int .i64 h.exp,.int .u64 h.bits,.string h.text,.slice none 0 0,.slice none 0 0]) (by simp [results,Tryz.results61,go_sem]) rfl ⟨rfl,by repeat (first|exact Below.refl _ _|refine below_al ?_)⟩
def tv (h:Hd) (l:List (VT 1)):VT 2:=(h,l)
def null1:VT 1:=(zr 1,[])
def mayV (h:Hd):VT 2:=if h.kind=9∨h.kind=10 then tv {h with kind:=9} [null1] else if h.kind=11 then tv {h with kind:=1} [] else tv h []
def May (h:Hd):Prop:=IsV 2 (mayV h)
def EB (W:World) (i:Nat) (h:Hd):Prop:=W.heap[i]?=some (.cells (evs h) 74 (0,0))
theorem EB.new (w:World) (h:Hd):EB (w.alloc (.cells (evs h) 74)) w.heap.size h:=heap_alloc_new _ _
theorem EB.lt {W:World} {i:Nat} {h:Hd} (q:EB W i h):i<W.heap.size:=by
 by_cases k:i<W.heap.size
 ·exact k
 ·unfold EB at q
  rw [Array.getElem?_eq_none (by omega)] at q
  cases q
theorem EB.same {W W1:World} {i:Nat} {h:Hd} (q:EB W i h) (k:W1.heap[i]?=W.heap[i]?):EB W1 i h:=by unfold EB;rw [k];exact q
theorem EB.below {W W1:World} {i:Nat} {h:Hd} (q:EB W i h) (hb:Below W.heap.size W W1):EB W1 i h:=q.same (hb.block _ q.lt)
theorem EB.cells {W:World} {i:Nat} {h:Hd} (q:EB W i h):W.cell? ⟨i,0,none⟩=some (.int .i64 h.kind)∧W.cell? ⟨i,1,none⟩=some (.bool h.flag)∧W.cell? ⟨i,2,none⟩=some (.bool h.neg)∧W.cell? ⟨i,3,none⟩=some (.string h.dig)∧W.cell? ⟨i,4,none⟩=some (.int .i64 h.exp)∧W.cell? ⟨i,5,none⟩=some (.int .u64 h.bits)∧W.cell? ⟨i,6,none⟩=some (.string h.text):=by
 unfold EB evs at q
 simp [World.cell?,q]
theorem sz_one {h:Hd} (hz:EvZ h) (k:Int):Sz 2 (tv {h with kind:=k} []):=⟨hz.1,hz.2.1,by show h.names.length≤_;rw [hz.2.2];simp,by intro s hs;have:s∈h.names:=hs;rw [hz.2.2] at this;simp at this,by intro y hy;exact absurd hy (by simp [tv])⟩
theorem rd_bare (w:World) (h:Hd) (hn:h.names=[]):RD 2 w (tv h []) (.slice none 0 0) (.slice none 0 0):=⟨Or.inl ⟨rfl,hn⟩,Or.inl ⟨rfl,rfl⟩⟩
theorem chk40 {n:Nat} {x:VT n} {E:Int} (h:Chk n x E):E≠40↔IsV n x:=by
 rcases h with ⟨rfl,h⟩|⟨rfl,h,_⟩|⟨rfl,h,_⟩
 ·simp [h]
 ·simp [h]
 ·simp [h]
theorem mayV_9 (h:Hd) (k:h.kind=9∨h.kind=10):mayV h=tv {h with kind:=9} [null1]:=if_pos k
theorem mayV_11 (h:Hd) (k:h.kind=11):mayV h=tv {h with kind:=1} []:=(if_neg (by omega)).trans (if_pos k)
theorem mayV_o (h:Hd) (k:h.kind≠9) (k2:h.kind≠10) (k3:h.kind≠11):mayV h=tv h []:=(if_neg (by omega)).trans (if_neg k3)
theorem may_q {h:Hd} {x:VT 2} {E:Int} {q:Bool} (hx:mayV h=x) (hE:Chk 2 x E) (hq:q=true↔May h):(E != 40)=q:=by
 have hm:May h↔E≠40:=by rw [chk40 hE];unfold May;rw [hx]
 rw [Bool.eq_iff_iff,hq,hm];simp
set_option maxRecDepth 100000 in
theorem mayBe_11 (h:Hd) (hz:EvZ h) (w:World) (g:Ut.Gu w) (q:Bool) (hq:q=true↔May h) (h11:h.kind=11):Calls Tryz.prog 59 #[.agg (evs h)] w fun e w'=>e=.returned (.bool q)∧Below w.heap.size w w':=by
 have hd:=hide (head_any h)
 obtain ⟨E,hE⟩:=chk_ex 2 (tv {h with kind:=1} [])
 have hfin:=may_q (mayV_11 h h11) hE hq
 have ck:=hide (fun W (hb:Below w.heap.size w W)=>check_any 2 (tv {h with kind:=1} []) (.slice none 0 0) (.slice none 0 0) W ⟨rd_bare W _ hz.2.2,sz_one hz 1,by simp [siz,suml,tv]⟩ (g.below hb) E hE)
 clear hq hE g hz
 obtain ⟨kd,fl,ng,dg,ex,bt,tx,nm⟩:=h
 simp only at h11
 subst h11
 have hfin':=hide hfin
 clear hfin
 simp only [vhd,vals,evs,tv] at ck hd ⊢
 go_enter Tryz.func59, Tryz.ntmps59
 go_wp2_with (go_at_call 61;refine (hd.out _).mono ?_;rintro e w1 ⟨rfl,hb1⟩;have B1:=hide (below_then (below_al (Below.refl _ _)) hb1);have d0:w1.cell? ⟨w.heap.size,0,none⟩=some (.int .i64 11):=one_cell hb1 0;have z1:w.heap.size<w1.heap.size:=(Nat.lt_of_lt_of_le (by simp) hb1.size);clear hb1)
 refine (ck.out _ (below_al B1.out)).mono ?_
 rintro e w2 ⟨rfl,hb2⟩
 have B2:=hide (below_then (below_al (o:=.cells #[.int .i64 1,.bool fl,.bool ng,.string dg,.int .i64 ex,.int .u64 bt,.string tx,.slice none 0 0,.slice none 0 0] 38) B1.out) hb2)
 clear hb2
 go_wp2_with fail
 go_ret
 exact ⟨by rw [←hfin'.out];rfl,B2.out⟩
set_option maxRecDepth 100000 in
theorem mayBe_o (h:Hd) (hz:EvZ h) (w:World) (g:Ut.Gu w) (q:Bool) (hq:q=true↔May h) (h9:h.kind≠9) (h10:h.kind≠10) (h11:h.kind≠11):Calls Tryz.prog 59 #[.agg (evs h)] w fun e w'=>e=.returned (.bool q)∧Below w.heap.size w w':=by
 have hd:=hide (head_any h)
 obtain ⟨E,hE⟩:=chk_ex 2 (tv h [])
 have hfin:=may_q (mayV_o h h9 h10 h11) hE hq
 have ck:=hide (fun W (hb:Below w.heap.size w W)=>check_any 2 (tv h []) (.slice none 0 0) (.slice none 0 0) W ⟨rd_bare W _ hz.2.2,sz_one hz h.kind,by simp [siz,suml,tv]⟩ (g.below hb) E hE)
 clear hq hE g hz
 obtain ⟨kd,fl,ng,dg,ex,bt,tx,nm⟩:=h
 simp only at h9 h10 h11
 have hfin':=hide hfin
 clear hfin
 simp only [vhd,vals,evs,tv] at ck hd ⊢
 go_enter Tryz.func59, Tryz.ntmps59
 go_wp2_with (go_at_call 61;refine (hd.out _).mono ?_;rintro e w1 ⟨rfl,hb1⟩;have B1:=hide (below_then (below_al (Below.refl _ _)) hb1);have d0:w1.cell? ⟨w.heap.size,0,none⟩=some (.int .i64 kd):=one_cell hb1 0;have z1:w.heap.size<w1.heap.size:=(Nat.lt_of_lt_of_le (by simp) hb1.size);clear hb1)
 refine (ck.out _ (below_al B1.out)).mono ?_
 rintro e w2 ⟨rfl,hb2⟩
 have B2:=hide (below_then (below_al (o:=.cells #[.int .i64 kd,.bool fl,.bool ng,.string dg,.int .i64 ex,.int .u64 bt,.string tx,.slice none 0 0,.slice none 0 0] 38) B1.out) hb2)
 clear hb2
 go_wp2_with fail
 go_ret
 exact ⟨by rw [←hfin'.out];rfl,B2.out⟩
theorem rd_tag (W:World) (h:Hd) (hn:h.names=[]) (i:Nat) (hi:W.heap[i]?=some (.cells (vals (zr 1) (.slice none 0 0) (.slice none 0 0)) 38 (0,0))):RD 2 W (tv h [null1]) (.slice none 0 0) (.slice (some ⟨i,0,none⟩) 1 1):=by
 have b:Bx W i (zr 1) (.slice none 0 0) (.slice none 0 0):=⟨hi⟩
 refine ⟨Or.inl ⟨rfl,hn⟩,Or.inr ⟨i,0,1,none,rfl,Nat.le_refl _,by decide,fun _=>⟨rfl,b.lt⟩,fun k hk=>?_⟩⟩
 have hk0:k=0:=by have:k<1:=hk;omega
 subst hk0
 exact ⟨.slice none 0 0,.slice none 0 0,b.range,⟨Or.inl ⟨rfl,rfl⟩,Or.inl ⟨rfl,rfl⟩⟩⟩
theorem sz_tag {h:Hd} (hz:EvZ h):Sz 2 (tv {h with kind:=9} [null1]):=⟨hz.1,hz.2.1,by show h.names.length≤_;rw [hz.2.2];simp,by intro s hs;have:s∈h.names:=hs;rw [hz.2.2] at this;simp at this,by
 intro y hy
 have hy2:y=null1:=by simpa [tv] using hy
 subst hy2
 exact ⟨by decide,by decide,by simp [zr,null1],by intro s hs;simp [zr,null1] at hs,by intro y hy;exact absurd hy (by simp [null1])⟩⟩
set_option maxRecDepth 100000 in
theorem mayBe_9 (h:Hd) (hz:EvZ h) (w:World) (g:Ut.Gu w) (q:Bool) (hq:q=true↔May h) (k9:h.kind=9∨h.kind=10):Calls Tryz.prog 59 #[.agg (evs h)] w fun e w'=>e=.returned (.bool q)∧Below w.heap.size w w':=by
 have hd:=hide (head_any h)
 obtain ⟨E,hE⟩:=chk_ex 2 (tv {h with kind:=9} [null1])
 have hfin:=may_q (mayV_9 h k9) hE hq
 have ck:=hide (fun W i (hb:Below w.heap.size w W) hi=>check_any 2 (tv {h with kind:=9} [null1]) (.slice none 0 0) (.slice (some ⟨i,0,none⟩) 1 1) W ⟨rd_tag W _ hz.2.2 i hi,sz_tag hz,by show 1 + ((1 + 0) + 0)≤200000;decide⟩ (g.below hb) E hE)
 clear hq hE g hz
 obtain ⟨kd,fl,ng,dg,ex,bt,tx,nm⟩:=h
 have hfin':=hide hfin
 clear hfin
 simp only at k9
 rcases k9 with k9|k9
 all_goals
  subst k9
  simp only [vhd,vals,evs,tv,zr] at ck hd ⊢
  go_enter Tryz.func59, Tryz.ntmps59
  go_wp2_with (go_at_call 61;refine (hd.out _).mono ?_;rintro e w1 ⟨rfl,hb1⟩;have B1:=hide (below_then (below_al (Below.refl _ _)) hb1);have d0:w1.cell? ⟨w.heap.size,0,none⟩=some (.int .i64 _):=one_cell hb1 0;have z1:w.heap.size<w1.heap.size:=(Nat.lt_of_lt_of_le (by simp) hb1.size);clear hb1)
  have hi:∀ o,((w1.alloc o).alloc (.cells #[.int .i64 1,.bool false,.bool false,.string ⟨#[]⟩,.int .i64 0,.int .u64 0,.string ⟨#[]⟩,.slice none 0 0,.slice none 0 0] 38)).heap[w1.heap.size + 1]?=some (.cells #[.int .i64 1,.bool false,.bool false,.string ⟨#[]⟩,.int .i64 0,.int .u64 0,.string ⟨#[]⟩,.slice none 0 0,.slice none 0 0] 38 (0,0)):=fun o=>by
   rw [show w1.heap.size + 1=(w1.alloc o).heap.size by simp]
   exact heap_alloc_new _ _
  refine (ck.out _ _ (below_al (below_al B1.out)) (hi _)).mono ?_
  rintro e w2 ⟨rfl,hb2⟩
  have B2:=hide (below_then (below_al (below_al B1.out)) hb2)
  clear hb2 hi
  go_wp2_with fail
  go_ret
  exact ⟨by rw [←hfin'.out];rfl,B2.out⟩
theorem mayBe_any (h:Hd) (hz:EvZ h) (w:World) (g:Ut.Gu w) (q:Bool) (hq:q=true↔May h):Calls Tryz.prog 59 #[.agg (evs h)] w fun e w'=>e=.returned (.bool q)∧Below w.heap.size w w':=by
 by_cases h9:h.kind=9∨h.kind=10
 ·exact mayBe_9 h hz w g q hq h9
 ·by_cases h11:h.kind=11
  ·exact mayBe_11 h hz w g q hq h11
  ·exact mayBe_o h hz w g q hq (by omega) (by omega) h11
structure Pt where
 kind:Int
 waits:Bool
 names:List ByteArray
 mb:Option Nat
def pcs (p:Pt):List Value:=[.int .i64 p.kind,.bool p.waits,.map p.mb]
def pxs (ps:List Pt):List Value:=ps.flatMap pcs
theorem pxs_length (ps:List Pt):(pxs ps).length=ps.length * 3:=by
 induction ps with
 | nil=>rfl
 | cons a l ih=>simp only [pxs,List.flatMap_cons,List.length_append,List.length_cons] at *;rw [ih];simp [pcs];omega
theorem pxs_app (a b:List Pt):pxs (a++b)=pxs a++pxs b:=by simp [pxs]
theorem pxs_one (p:Pt):pxs [p]=pcs p:=by simp [pxs]
theorem pxs_at (qs:List Pt) (p:Pt) (r:Nat):(pxs (qs++[p]))[qs.length * 3 + r]?=(pcs p)[r]?:=by
 rw [pxs_app,pxs_one,List.getElem?_append_right (by rw [pxs_length];omega),pxs_length,Nat.add_sub_cancel_left]
theorem pxs_set (qs:List Pt) (p:Pt) (r:Nat) (u:Value):(pxs (qs++[p])).set (qs.length * 3 + r) u=pxs qs++(pcs p).set r u:=by
 rw [pxs_app,pxs_one,List.set_append_right _ _ (by rw [pxs_length];omega),pxs_length,Nat.add_sub_cancel_left]
def Sm (l:List ByteArray):DataW Unit:=Sn l l.length
def PtOk (W:World) (B:Nat) (p:Pt):Prop:=(p.kind=8∧∃ b,p.mb=some b∧B≤b∧W.ownsMap Tryz.prog 9 (unitElem (H:=Unit)) b p.names.length (Sm p.names))∨(p.kind≠8∧p.mb=none∧p.names=[])
def KB (W:World) (i:Nat) (v:Value) (begun broken:Bool):Prop:=W.heap[i]?=some (.cells #[v,.bool begun,.bool broken] 100 (0,0))
structure Ck (W:World) (i B:Nat) (v:Value) (ps:List Pt) (begun broken:Bool):Prop where
 kb:KB W i v begun broken
 row:W.ownsRow B 120 3 v ps.length (pxs ps)
 ok:∀ p∈ps,PtOk W B p
 dis:(ps.filterMap Pt.mb).Nodup
 iB:i<B
 hB:B≤W.heap.size
 len:ps.length≤300000
section
variable {W W1 : World} {i B : Nat} {v : Value} {ps : List Pt} {begun broken : Bool}
theorem KB.cells (q:KB W i v begun broken):W.cell? ⟨i,0,none⟩=some v∧W.cell? ⟨i,1,none⟩=some (.bool begun)∧W.cell? ⟨i,2,none⟩=some (.bool broken)∧W.frozen? ⟨i,0,none⟩=false∧W.frozen? ⟨i,1,none⟩=false∧W.frozen? ⟨i,2,none⟩=false:=by
 unfold KB at q
 simp [World.cell?,World.frozen?,q]
theorem KB.lt (q:KB W i v begun broken):i<W.heap.size:=by
 by_cases h:i<W.heap.size
 ·exact h
 ·unfold KB at q
  rw [Array.getElem?_eq_none (by omega)] at q
  cases q
theorem KB.same (q:KB W i v begun broken) (h:W1.heap[i]?=W.heap[i]?):KB W1 i v begun broken:=by unfold KB;rw [h];exact q
theorem KB.set0 (q:KB W i v begun broken) (u:Value):KB (W.setCell ⟨i,0,none⟩ u) i u begun broken:=by
 unfold KB at q ⊢
 rw [setCell_eq_setRow W i 0 _ _ (0,0) _ q,setRow_heap W i _ _ _ (0,0) q]
 rfl
theorem KB.set1 (q:KB W i v begun broken) (u:Bool):KB (W.setCell ⟨i,1,none⟩ (.bool u)) i v u broken:=by
 unfold KB at q ⊢
 rw [setCell_eq_setRow W i 1 _ _ (0,0) _ q,setRow_heap W i _ _ _ (0,0) q]
 rfl
theorem KB.set2 (q:KB W i v begun broken) (u:Bool):KB (W.setCell ⟨i,2,none⟩ (.bool u)) i v begun u:=by
 unfold KB at q ⊢
 rw [setCell_eq_setRow W i 2 _ _ (0,0) _ q,setRow_heap W i _ _ _ (0,0) q]
 rfl
theorem own_of {B:Nat} {T:TypeId} {sz:Nat} {v:Value} {n:Nat} {xs:List Value} (h:W.ownsRow B T sz v n xs) (hb:∀ k,v.ownBlock=some k→k<W.heap.size→W1.heap[k]?=W.heap[k]?):W1.ownsRow B T sz v n xs:=by
 have hr:=World.ownsRow.lt h
 obtain ⟨h0,h⟩:=h
 refine ⟨h0,?_⟩
 rcases h with ⟨rfl,e⟩|⟨g,cap,cur,rfl,h2,h3,h4⟩
 ·exact Or.inl ⟨rfl,e⟩
 ·exact Or.inr ⟨g,cap,cur,rfl,h2,by rw [hb g rfl (hr g rfl).2];exact h3,h4⟩
theorem ownsMap_of {b n:Nat} {D:DataW Unit} (h:W.ownsMap Tryz.prog 9 (unitElem (H:=Unit)) b n D) (hb:W1.heap[b]?=W.heap[b]?):W1.ownsMap Tryz.prog 9 (unitElem (H:=Unit)) b n D:=by
 obtain ⟨es,clock,h1,h2⟩:=h
 exact ⟨es,clock,hb.trans h1,h2⟩
theorem ownsMap_lt {b n:Nat} {D:DataW Unit} (h:W.ownsMap Tryz.prog 9 (unitElem (H:=Unit)) b n D):b<W.heap.size:=World.ownsMap.lt h
theorem PtOk.of {p:Pt} (h:PtOk W B p) (hb:∀ b,p.mb=some b→W1.heap[b]?=W.heap[b]?):PtOk W1 B p:=by
 rcases h with ⟨k,b,e,h1,h2⟩|h
 ·exact Or.inl ⟨k,b,e,h1,ownsMap_of h2 (hb b e)⟩
 ·exact Or.inr h
theorem PtOk.blt {p:Pt} (h:PtOk W B p) (b:Nat) (e:p.mb=some b):B≤b∧b<W.heap.size:=by
 rcases h with ⟨_,b',e',h1,h2⟩|⟨_,e',_⟩
 ·rw [e] at e';cases e';exact ⟨h1,ownsMap_lt h2⟩
 ·rw [e] at e';cases e'
theorem PtOk.ne {p:Pt} (h:PtOk W B p) (b:Nat) (e:p.mb=some b) {n:Nat} {xs:List Value} (hr:W.ownsRow B 120 3 v n xs):v.ownBlock≠some b:=by
 intro hv
 rcases h with ⟨_,b',e',h1,es,clock,hm,_⟩|⟨_,e',_⟩
 ·rw [e] at e';cases e'
  rcases hr.2 with ⟨rfl,_⟩|⟨g,cap,cur,rfl,_,hg,_⟩
  ·cases hv
  ·cases hv
   rw [hg] at hm;cases hm
 ·rw [e] at e';cases e'
theorem Ck.then (h:Ck W i B v ps begun broken) (hb:Below W.heap.size W W1):Ck W1 i B v ps begun broken :=
 {h with kb:=h.kb.same (hb.block i h.kb.lt),row:=own_of h.row fun k _ hk=>hb.block k hk,ok:=fun p hp=>(h.ok p hp).of fun b e=>hb.block b ((h.ok p hp).blt b e).2,hB:=Nat.le_trans h.hB hb.size}
theorem Ck.new {w:World} {i B:Nat} {br:Bool} (h:KB w i (.slice none 0 0) false br) (h1:i<B) (h2:B≤w.heap.size):Ck w i B (.slice none 0 0) [] false br :=
 ⟨h,World.ownsRow_nil _ _ _ _,fun p hp=>by simp at hp,by simp,h1,h2,by simp⟩
end
def KC (W W':World):Prop:=∀ (q:Nat) (c:Array Value) (T:TypeId) (f:Nat×Nat),W.heap[q]?=some (.cells c T f)→T≠100→T≠120→W'.heap[q]?=some (.cells c T f)
def Ty (W:World) (k:Nat):Prop:=∀ (c:Array Value) (T:TypeId) (f:Nat×Nat),W.heap[k]?=some (.cells c T f)→T=100∨T=120
theorem KB.ty {W:World} {i:Nat} {v:Value} {b1 b2:Bool} (q:KB W i v b1 b2):Ty W i:=fun c T f h=>by
 unfold KB at q
 rw [q] at h
 cases h
 exact Or.inl rfl
theorem row_ty {W:World} {B g n cp:Nat} {xs:List Value} (h:W.ownsRow B 120 3 (.slice (some ⟨g,0,none⟩) n cp) n xs):Ty W g:=fun c T f hc=>by
 rcases h.2 with ⟨e,_⟩|⟨g',cap,cur,e,_,h2,_⟩
 ·cases e
 ·cases e
  rw [h2] at hc
  cases hc
  exact Or.inr rfl
theorem own_ty {W:World} {B n:Nat} {v:Value} {xs:List Value} (h:W.ownsRow B 120 3 v n xs) (g:Nat) (hg:v.ownBlock=some g):Ty W g:=fun c T f hc=>by
 rcases h.2 with ⟨rfl,_⟩|⟨g',cap,cur,rfl,_,h2,_⟩
 ·cases hg
 ·cases hg
  rw [h2] at hc
  cases hc
  exact Or.inr rfl
theorem map_ty {W:World} {b n:Nat} {D:DataW Unit} (h:W.ownsMap Tryz.prog 9 (unitElem (H:=Unit)) b n D):Ty W b:=fun c T f hc=>by
 obtain ⟨es,clock,h1,_⟩:=h
 rw [h1] at hc
 cases hc
theorem Ty.same {W W1:World} {k:Nat} (h:Ty W k) (e:W1.heap[k]?=W.heap[k]?):Ty W1 k:=fun c T f hc=>h c T f (e ▸ hc)
theorem Ty.set {W:World} {k:Nat} (h:Ty W k) (p:Addr) (u:Value):Ty (W.setCell p u) k:=fun c T f hc=>by
 by_cases e:k=p.block
 ·subst e
  simp only [World.setCell,Array.getElem?_modify,if_true] at hc
  cases hk:W.heap[p.block]? with
  | none=>rw [hk] at hc;cases hc
  | some o =>
   rw [hk] at hc
   cases o with
   | cells c' T' f'=>
    simp at hc
    obtain ⟨_,rfl,_⟩:=hc
    exact h c' T' f' hk
   | _=>simp at hc
 ·exact h c T f ((Below.heap_setCell W p u k e).symm.trans hc)
structure BK (i:Nat) (W W':World):Prop where
 below:Below i W W'
 kc:KC W W'
theorem KC.of {W W':World} (h:Below W.heap.size W W'):KC W W':=fun q c T f hq _ _=>(h.block q (Array.getElem?_eq_some_iff.1 hq).1).trans hq
theorem BK.refl (i:Nat) (W:World):BK i W W:=⟨Below.refl _ _,fun _ _ _ _ h _ _=>h⟩
theorem BK.trans {i:Nat} {A B C:World} (h:BK i A B) (k:BK i B C):BK i A C:=⟨h.below.trans k.below,fun q c T f e h1 h2=>k.kc q c T f (h.kc q c T f e h1 h2) h1 h2⟩
theorem BK.drew {i:Nat} {A B:World} (h:BK i A B):BK i A B.drew:=⟨h.below.drew,h.kc⟩
theorem BK.of {i:Nat} {W W':World} (h:Below W.heap.size W W') (hi:i≤W.heap.size):BK i W W':=⟨h.mono hi,KC.of h⟩
theorem BK.al {i:Nat} {A B:World} {o:Obj} (h:BK i A B) (hi:i≤B.heap.size):BK i A (B.alloc o):=h.trans (BK.of (below_al (Below.refl _ _)) hi)
theorem BK.set {i:Nat} {A B:World} (h:BK i A B) {p:Addr} (hp:i≤p.block) (ht:Ty B p.block) (u:Value):BK i A (B.setCell p u) :=
 ⟨h.below.setCell hp u,fun q c T f e h1 h2=>by
  have hq:=h.kc q c T f e h1 h2
  by_cases hk:q=p.block
  ·subst hk
   rcases ht c T f hq with r|r
   ·exact absurd r h1
   ·exact absurd r h2
  ·rw [Below.heap_setCell _ _ _ _ hk];exact hq⟩
theorem BK.grown {i:Nat} {A B C:World} {row:Option Nat} (h:BK i A B) (hg:B.grownBy C row) (hi:i≤B.heap.size) (hr:∀ k,row=some k→i≤k∧Ty B k):BK i A C :=
 ⟨h.below.grown hg hi (fun k e=>(hr k e).1),fun q c T f e h1 h2=>by
  have hq:=h.kc q c T f e h1 h2
  rw [hg.block q (Array.getElem?_eq_some_iff.1 hq).1 (fun er=>by
   rcases (hr q er.symm).2 c T f hq with r|r
   ·exact h1 r
   ·exact h2 r)]
  exact hq⟩
theorem BK.dn (i:Nat) (W:World) (m:Nat):BK i W (W.drewN m):=⟨⟨rfl,rfl,rfl,Nat.le_refl _,fun _ _=>rfl⟩,fun _ _ _ _ h _ _=>h⟩
end Go.Proofs.YtdgehngffccjaaaGreatDoor
