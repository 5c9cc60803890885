/- Merged by program: CoBackC, CoEval, CoProgB, CoPgm, CoAwake, CoMapP, CoMapM, CoSame. -/
import Derived.Test.YtgicnopppgnjjaaGreatDoorZd43
import Derived.Test.YtgicnopppgnjjaaGreatDoorZd40
import Derived.Test.YtgicnopppgnjjaaGreatDoorZd29
import Derived.Test.YtgicnopppgnjjaaGreatDoorZd14
import Derived.Deep.RegionLaw
import Derived.Deep.RegionHeld3
import Derived.Deep.DeepCutAuto
set_option linter.unusedSimpArgs false
set_option linter.unusedVariables false
namespace Go.Proofs.YtgicnopppgnjjaaGreatDoor
namespace Lx
open Go.RowKit
variable {dq : {_f : (p : Prop) → Decidable p // True}}
theorem cckB_ok {l:List Nd} (h:cckB dq l=0):inOrd l∧(∀ d∈l,NdOk d)∧l.length≤512∧lck dq _ (mpB l)=0:=by
 unfold cckB at h
 split at h
 ·rename_i k
  split at h
  ·cases h
  ·rename_i k2
   exact ⟨k.1,k.2,by omega,h⟩
 ·cases h
def BkP (dq:{_f:(p:Prop)→Decidable p // True}) (l:List Nd) (w:World) (e:Ending) (w':World):Prop:=Below w.heap.size w w' ∧
 ((cckB dq l≠0∧e=.returned (.tuple #[.agg (ecl ze zs),.int .i64 (cckB dq l)]))∨(cckB dq l=0∧∃ q,e=.returned (.tuple #[.agg (ecl (ehd _ (mpB l)) q),.int .i64 0])∧Hid (KE _ w' (mpB l) q w.heap.size w'.heap.size)))
set_option maxHeartbeats 4000000 in
set_option maxRecDepth 100000 in
theorem cback_any (l:List Nd) (v:Value) (w:World) (hl:NdL w v l) (hg:GN l) (gu:Ut.Gu w):Calls Tryz.prog 26 #[v] w fun e w'=>BkP dq l w e w':=by
 have HC:=hide (fun o=>ccheck_any (dq:=dq) l v (w.alloc o) (hl.below (below_al (Below.refl _ _))) hg (gu.below (below_al (Below.refl _ _))))
 have HM:=hide (fun (ho:inOrd l) W (hb:Below w.heap.size w W)=>mapAt_any (lf 1) l (inOrd_kids (lf 1) ho) hg.1 (fun d hd=>⟨by have:=(hg.2 d hd).1.2.1;omega,(hg.2 d hd).2⟩) l.length 0 v W (hl.below hb) (by have:=(mpB_prg ho).1;cases l with|nil=>exact absurd rfl this|cons a b=>simp) (by omega))
 obtain ⟨al,cl,rfl,hl1,hl2⟩:=hl.len
 unfold BkP
 have Z0:Hid (ZE (w.alloc (.cells #[.int .i64 0,.string ⟨#[]⟩,.slice none 0 0,.slice none 0 0,.int .i64 0,.bool false,.bool false,.string ⟨#[]⟩,.int .i64 0,.int .u64 0,.string ⟨#[]⟩,.slice none 0 0,.slice none 0 0] 33)) w.heap.size):=last_at3 rfl
 by_cases h0:cckB dq l=0
 ·replace HM:=hide (HM.out (cckB_ok h0).1)
  rw [h0] at HC ⊢
  unfold mpB
  obtain ⟨x,hx⟩:∃ x,mpA (bareH (lf 1)) (l.map bareN) l.length 0=x:=⟨_,rfl⟩
  simp only [hx] at HM ⊢
  obtain ⟨h,hh⟩:∃ h,ehd _ x=h:=⟨_,rfl⟩
  simp only [hh] at HM ⊢
  clear hl hg gu h0 hh hx
  unfold ecl at HM ⊢
  go_enter Tryz.func26, Tryz.ntmps26
  go_wp2_with (go_at_call 30;refine Sto.out ?_)
  refine Sto.mk ?_
  refine (HC.out _).mono ?_
  rintro e w1 ⟨rfl,hb1⟩
  have B1:=hide (below_then (below_al (Below.refl _ _)) hb1)
  have Z1:=hide (show ZE w1 w.heap.size from (hb1.block _ (by simp)).trans Z0.out)
  clear hb1 HC Z0
  go_wp2_with (go_at_call 60;refine Sto.out ?_)
  refine Sto.mk ?_
  refine (HM.out _ B1.out).mono ?_
  rintro e w2 ⟨q,rfl,hk,hb2⟩
  have B2:=hide (below_then B1.out hb2)
  have b2:=B2.out.size
  have b1:=B1.out.size
  have lz:=(Array.getElem?_eq_some_iff.1 Z1.out).1
  have Z2:=hide (show ZE w2 w.heap.size from (hb2.block _ lz).trans Z1.out)
  obtain ⟨s1,s2,s3,s4,s5,s6,s7,s8,s9,s10,s11,s12,rfl⟩:=hk.out.rd.shape
  have zc:=zb_cells Z2.out
  have lz2:=(Array.getElem?_eq_some_iff.1 Z2.out).1
  have HK:=hk
  clear hk hb2 HM Z1
  dsimp only
  go_wp2_with fail
  have p3:=put13 (d0:=.int .i64 h.op) (d1:=.string h.name) (d2:=.slice s1 s2 s3) (d3:=.slice s4 s5 s6) (d4:=.int .i64 (vhd h.vn h.val).kind) (d5:=.bool (vhd h.vn h.val).flag) (d6:=.bool (vhd h.vn h.val).neg) (d7:=.string (vhd h.vn h.val).dig) (d8:=.int .i64 (vhd h.vn h.val).exp) (d9:=.int .u64 (vhd h.vn h.val).bits) (d10:=.string (vhd h.vn h.val).text) (d11:=.slice s7 s8 s9) (d12:=.slice s10 s11 s12) (show w2.heap[w.heap.size]?=_ from Z2.out)
  generalize hY:World.setCell (World.setCell (World.setCell (World.setCell (World.setCell (World.setCell (World.setCell (World.setCell (World.setCell (World.setCell (World.setCell (World.setCell (World.setCell w2 _ _) _ _) _ _) _ _) _ _) _ _) _ _) _ _) _ _) _ _) _ _) _ _) _ _=Y at p3 ⊢
  have low:∀ j,j≠w.heap.size→Y.heap[j]?=w2.heap[j]?:=fun j hj=>by
   rw [←hY]
   iterate 13 (rw [Below.heap_setCell _ _ _ _ (by show j≠w.heap.size;exact hj)])
  have sz:Y.heap.size=w2.heap.size:=by rw [←hY];simp
  have bY:Below w.heap.size w Y:=by
   rw [←hY]
   iterate 13 (refine Below.setCell ?_ (by show w.heap.size≤w.heap.size;exact Nat.le_refl _) _)
   exact B2.out
  have y0:Y.cell? ⟨w.heap.size,0,none⟩=some (.int .i64 h.op)∧Y.cell? ⟨w.heap.size,1,none⟩=some (.string h.name)∧Y.cell? ⟨w.heap.size,2,none⟩=some (.slice s1 s2 s3)∧Y.cell? ⟨w.heap.size,3,none⟩=some (.slice s4 s5 s6)∧Y.cell? ⟨w.heap.size,4,none⟩=some (.int .i64 (vhd h.vn h.val).kind)∧Y.cell? ⟨w.heap.size,5,none⟩=some (.bool (vhd h.vn h.val).flag)∧Y.cell? ⟨w.heap.size,6,none⟩=some (.bool (vhd h.vn h.val).neg)∧Y.cell? ⟨w.heap.size,7,none⟩=some (.string (vhd h.vn h.val).dig)∧Y.cell? ⟨w.heap.size,8,none⟩=some (.int .i64 (vhd h.vn h.val).exp)∧Y.cell? ⟨w.heap.size,9,none⟩=some (.int .u64 (vhd h.vn h.val).bits)∧Y.cell? ⟨w.heap.size,10,none⟩=some (.string (vhd h.vn h.val).text)∧Y.cell? ⟨w.heap.size,11,none⟩=some (.slice s7 s8 s9)∧Y.cell? ⟨w.heap.size,12,none⟩=some (.slice s10 s11 s12):=by
   refine ⟨?_,?_,?_,?_,?_,?_,?_,?_,?_,?_,?_,?_,?_⟩
   iterate 13 (unfold World.cell?;rw [p3];rfl)
  clear hY zc p3
  have KY:=hide (((HK.out.move (W1:=Y) (by omega) fun k h1 h2=>low k (by omega)).wide (s':=w.heap.size) (e':=Y.heap.size) (by omega) (by omega) (Nat.le_refl _)))
  refine bodyPost_ret (v:=.tuple #[.agg #[.int .i64 h.op,.string h.name,.slice s1 s2 s3,.slice s4 s5 s6,.int .i64 (vhd h.vn h.val).kind,.bool (vhd h.vn h.val).flag,.bool (vhd h.vn h.val).neg,.string (vhd h.vn h.val).dig,.int .i64 (vhd h.vn h.val).exp,.int .u64 (vhd h.vn h.val).bits,.string (vhd h.vn h.val).text,.slice s7 s8 s9,.slice s10 s11 s12],.int .i64 0]) (by simp [results,Tryz.results26,go_sem,y0]) rfl ⟨bY,Or.inr ⟨by first|rfl|trivial,_,rfl,KY⟩⟩
 ·obtain ⟨E,hE⟩:∃ E,cckB dq l=E:=⟨_,rfl⟩
  rw [hE] at HC h0 ⊢
  clear hl hg gu HM hE
  go_enter Tryz.func26, Tryz.ntmps26
  go_wp2_with (go_at_call 30;refine Sto.out ?_)
  refine Sto.mk ?_
  refine (HC.out _).mono ?_
  rintro e w1 ⟨rfl,hb1⟩
  have B1:=hide (below_then (below_al (Below.refl _ _)) hb1)
  have Z1:=hide (show ZE w1 w.heap.size from (hb1.block _ (by simp)).trans Z0.out)
  have zc:=zb_cells Z1.out
  have lz2:=(Array.getElem?_eq_some_iff.1 Z1.out).1
  clear hb1 HC Z0
  go_wp2_with fail
  have p3:=put13 (d0:=.int .i64 0) (d1:=.string ⟨#[]⟩) (d2:=.slice none 0 0) (d3:=.slice none 0 0) (d4:=.int .i64 0) (d5:=.bool false) (d6:=.bool false) (d7:=.string ⟨#[]⟩) (d8:=.int .i64 0) (d9:=.int .u64 0) (d10:=.string ⟨#[]⟩) (d11:=.slice none 0 0) (d12:=.slice none 0 0) (show w1.heap[w.heap.size]?=_ from Z1.out)
  generalize hY:World.setCell (World.setCell (World.setCell (World.setCell (World.setCell (World.setCell (World.setCell (World.setCell (World.setCell (World.setCell (World.setCell (World.setCell (World.setCell w1 _ _) _ _) _ _) _ _) _ _) _ _) _ _) _ _) _ _) _ _) _ _) _ _) _ _=Y at p3 ⊢
  have low:∀ j,j≠w.heap.size→Y.heap[j]?=w1.heap[j]?:=fun j hj=>by
   rw [←hY]
   iterate 13 (rw [Below.heap_setCell _ _ _ _ (by show j≠w.heap.size;exact hj)])
  have sz:Y.heap.size=w1.heap.size:=by rw [←hY];simp
  have bY:Below w.heap.size w Y:=by
   rw [←hY]
   iterate 13 (refine Below.setCell ?_ (by show w.heap.size≤w.heap.size;exact Nat.le_refl _) _)
   exact B1.out
  have y0:Y.cell? ⟨w.heap.size,0,none⟩=some (.int .i64 0)∧Y.cell? ⟨w.heap.size,1,none⟩=some (.string ⟨#[]⟩)∧Y.cell? ⟨w.heap.size,2,none⟩=some (.slice none 0 0)∧Y.cell? ⟨w.heap.size,3,none⟩=some (.slice none 0 0)∧Y.cell? ⟨w.heap.size,4,none⟩=some (.int .i64 0)∧Y.cell? ⟨w.heap.size,5,none⟩=some (.bool false)∧Y.cell? ⟨w.heap.size,6,none⟩=some (.bool false)∧Y.cell? ⟨w.heap.size,7,none⟩=some (.string ⟨#[]⟩)∧Y.cell? ⟨w.heap.size,8,none⟩=some (.int .i64 0)∧Y.cell? ⟨w.heap.size,9,none⟩=some (.int .u64 0)∧Y.cell? ⟨w.heap.size,10,none⟩=some (.string ⟨#[]⟩)∧Y.cell? ⟨w.heap.size,11,none⟩=some (.slice none 0 0)∧Y.cell? ⟨w.heap.size,12,none⟩=some (.slice none 0 0):=by
   refine ⟨?_,?_,?_,?_,?_,?_,?_,?_,?_,?_,?_,?_,?_⟩
   iterate 13 (unfold World.cell?;rw [p3];rfl)
  clear hY zc p3
  refine bodyPost_ret (v:=.tuple #[.agg #[.int .i64 0,.string ⟨#[]⟩,.slice none 0 0,.slice none 0 0,.int .i64 0,.bool false,.bool false,.string ⟨#[]⟩,.int .i64 0,.int .u64 0,.string ⟨#[]⟩,.slice none 0 0,.slice none 0 0],.int .i64 E]) (by simp [results,Tryz.results26,go_sem,y0]) rfl ⟨bY,Or.inl ⟨h0,rfl⟩⟩
set_option maxHeartbeats 2000000 in
set_option maxRecDepth 100000 in
theorem streams_any (l:List Nd) (v:Value) (w:World) (hl:NdL w v l) (hg:GN l) (gu:Ut.Gu w):Calls Tryz.prog 28 #[v] w fun e w'=>Below w.heap.size w w' ∧
  ∃ b,e=.returned (.tuple #[.bool b,.int .i64 (cckB dq l)])∧Hid (b=true↔cckB dq l=0∧¬ ∃ d∈l,d.h.op=3∧2≤d.kids.length):=by
 have HC:=hide (ccheck_any (dq:=dq) l v w hl hg gu)
 have HM:=hide (fun W (hb:Below w.heap.size w W)=>contains_many (fun d=>d.h.op=3∧2≤d.kids.length) v l W (hl.below hb) fun i hi s W' hb' hr=>many_any l[i] s W' hr)
 obtain ⟨al,cl,rfl,hl1,hl2⟩:=hl.len
 obtain ⟨p,hp⟩:∃ p,(∃ d∈l,d.h.op=3∧2≤d.kids.length)=p:=⟨_,rfl⟩
 rw [hp] at HM ⊢
 obtain ⟨E,hE⟩:∃ E,cckB dq l=E:=⟨_,rfl⟩
 rw [hE] at HC ⊢
 clear hl hg gu hE hp
 by_cases h0:E=0
 ·subst h0
  go_enter Tryz.func28, Tryz.ntmps28
  go_wp2_with (go_at_call 30;refine Sto.out ?_)
  refine Sto.mk ?_
  refine HC.out.mono ?_
  rintro e w1 ⟨rfl,hb1⟩
  have B1:=hide hb1
  clear hb1 HC
  go_wp2_with (go_at_call 63;refine Sto.out ?_)
  refine Sto.mk ?_
  refine (HM.out _ B1.out).mono ?_
  rintro e w2 ⟨b,rfl,hT,hb2⟩
  have B2:=hide (below_then B1.out hb2)
  have HT:=hide hT
  clear hb2 hT HM
  go_wp2_with fail
  refine bodyPost_ret (v:=.tuple #[.bool (!b),.int .i64 0]) (by simp [results,Tryz.results28,go_sem]) rfl ⟨B2.out,!b,rfl,(show Hid _ from ⟨fun q=>⟨by first|rfl|trivial,fun k=>by have:=HT.out.2 k;rw [this] at q;cases q⟩,fun q=>?_⟩)⟩
  cases b
  ·rfl
  ·exact absurd (HT.out.1 rfl) q.2
 ·go_enter Tryz.func28, Tryz.ntmps28
  go_wp2_with (go_at_call 30;refine Sto.out ?_)
  refine Sto.mk ?_
  refine HC.out.mono ?_
  rintro e w1 ⟨rfl,hb1⟩
  have B1:=hide hb1
  clear hb1 HC HM
  go_wp2_with fail
  refine bodyPost_ret (v:=.tuple #[.bool false,.int .i64 E]) (by simp [results,Tryz.results28,go_sem]) rfl ⟨B1.out,false,rfl,(show Hid _ from ⟨fun q=>(by cases q),fun q=>absurd q.1 h0⟩)⟩
end Lx
end Go.Proofs.YtgicnopppgnjjaaGreatDoor
namespace Go.Proofs.YtgicnopppgnjjaaGreatDoor
namespace Lx
open Go.RowKit
variable {dq : {_f : (p : Prop) → Decidable p // True}}
set_option maxRecDepth 100000
theorem fine_rec {n:Nat} (nms:List ByteArray) (l:List (ET n)) (hl:nms.length=l.length) (h1:Nms nms) (h2:∀ s∈nms,s.size≤64) (h3:l.length≤256):Fine n ((⟨3,nilB,nms,1,vz⟩,l):ET (n + 1)):=by
 have e:lkV ⟨3,nilB,nms,1,vz⟩ l.length=⟨2,(hdL 8 nilB nms,List.replicate l.length vn1)⟩:=rfl
 have hi:IsV 2 ((hdL 8 nilB nms,List.replicate l.length vn1):VT 2):=by
  refine ⟨⟨by simp [hdL],by simp [hdL],rfl,Or.inl (by simp [hdL])⟩,⟨fun k=>absurd k (by simp [hdL]),fun k=>absurd k (by simp [hdL]),fun _=>⟨by simpa [hdL] using hl,h1⟩,fun k=>absurd k (by simp [hdL])⟩,fun y hy=>?_⟩
  rw [List.eq_of_mem_replicate hy]
  exact isV_null
 have d1:∀ m,mxl (List.map (dep 1) (List.replicate m vn1))≤1:=fun m=>by
  induction m with
  | zero=>simp [mxl]
  | succ m ih =>
   rw [List.replicate_succ,List.map_cons]
   simp only [mxl]
   have:dep 1 vn1=1:=rfl
   omega
 refine ⟨⟨by simp,Or.inr (Or.inr rfl),Or.inl rfl,Or.inl rfl,Or.inr rfl⟩,⟨fun k=>absurd k (by simp [ehd]),fun k=>absurd k (by simp [ehd]),fun k=>absurd k (by simp [ehd]),?_⟩,?_,?_⟩
 ·show IsV _ (lkV ⟨3,nilB,nms,1,vz⟩ l.length).2
  rw [e];exact hi
 ·show IsV _ (lkV ⟨3,nilB,nms,1,vz⟩ l.length).2
  rw [e];exact hi
 ·show Win _ (lkV ⟨3,nilB,nms,1,vz⟩ l.length).2
  rw [e]
  refine ⟨⟨show ((ByteArray.size ⟨#[]⟩:Nat):Int)≤(bif (8:Int)==9 then 64 else 4096) by decide,by simpa using h3,h2,fun y hy=>?_⟩,?_,?_⟩
  ·rw [List.eq_of_mem_replicate hy]
   exact win_null.1
  ·show 1 + mxl (List.map (dep 1) (List.replicate l.length vn1))≤16
   have:=d1 l.length
   omega
  ·rw [siz_nulls];omega
theorem Fine.nod {n:Nat} {x:ET (n + 1)} (h:Fine n x) (k:Nods (n + 1) x→True) (hs:∀ y∈x.2,Nods n y):Nods (n + 1) x:=⟨⟨h.bare,h.fi.1,h.fi.2.1,h.fi.2.2.1,h.fi.2.2.2,h.sh.2⟩,hs⟩
def tC1:ByteArray:=⟨#[46,97,59,91,115,117,109,93]⟩
def tC2:ByteArray:=⟨#[123,97,61,105,100,125]⟩
def tC3:ByteArray:=⟨#[91,123,97,61,105,100,44,98,61,105,100,125,93]⟩
theorem sC1:scR (bl tC1)=(0,0,[⟨4,[46],0⟩,⟨1,[97],1⟩,⟨4,[59],2⟩,⟨4,[91],3⟩,⟨1,[115,117,109],4⟩,⟨4,[93],7⟩]):=by kernel_rfl
theorem sC2:scR (bl tC2)=(0,0,[⟨4,[123],0⟩,⟨1,[97],1⟩,⟨4,[61],2⟩,⟨1,[105,100],3⟩,⟨4,[125],5⟩]):=by kernel_rfl
theorem sC3:scR (bl tC3)=(0,0,[⟨4,[91],0⟩,⟨4,[123],1⟩,⟨1,[97],2⟩,⟨4,[61],3⟩,⟨1,[105,100],4⟩,⟨4,[44],6⟩,⟨1,[98],7⟩,⟨4,[61],8⟩,⟨1,[105,100],9⟩,⟨4,[125],11⟩,⟨4,[93],12⟩]):=by kernel_rfl
def xC1 (g:Nat):ET (dp (g + 20) + 1):=(lf 12,[gtE 2 (mkB [97]) _,(lf 4,[(lf 10,[])])])
def xC2 (g:Nat):ET (dp (g + 20) + 1):=(⟨3,nilB,[mkB [97]],1,vz⟩,[(lf 1,[])])
def xC3 (g:Nat):ET (dp (g + 20) + 1):=(lf 4,[(⟨3,nilB,[mkB [97],mkB [98]],1,vz⟩,[(lf 1,[]),(lf 1,[])])])
theorem rC1 (g:Nat):rdR (g + 20) (bl tC1)=.inr (xC1 g):=by
 unfold rdR
 rw [sC1]
 kernel_rfl
theorem rC2 (g:Nat):rdR (g + 20) (bl tC2)=.inr (xC2 g):=by
 unfold rdR
 rw [sC2]
 kernel_rfl
theorem rC3 (g:Nat):rdR (g + 20) (bl tC3)=.inr (xC3 g):=by
 unfold rdR
 rw [sC3]
 kernel_rfl
theorem nod_id (n:Nat) (op:Int) (h:op=1∨op=8∨op=9∨op=10∨op=11):Nods (n + 1) ((lf op,[]):ET (n + 1)):=(fine_plain (n:=n) op [] h).nod (fun _=>trivial) fun y hy=>absurd hy (by simp)
theorem nms1:Nms [mkB [97]]:=⟨fun s hs=>by rw [List.mem_singleton.1 hs];kernel_rfl,by simp⟩
theorem nms2:Nms [mkB [97],mkB [98]]:=by
 refine ⟨fun s hs=>?_,?_⟩
 ·simp only [List.mem_cons,List.not_mem_nil,or_false] at hs
  rcases hs with rfl|rfl <;> kernel_rfl
 ·refine List.nodup_cons.2 ⟨?_,List.nodup_cons.2 ⟨by simp,List.nodup_nil⟩⟩
  intro h
  have:=mkB_inj (List.mem_singleton.1 h)
  exact absurd this (by decide)
theorem nC1 (g:Nat):Nods _ (xC1 g):=by
 refine (fine_pipe _ (by show 2≤2;omega)).nod (fun _=>trivial) fun y hy=>?_
 rcases mem2 (show y∈[gtE 2 (mkB [97]) (dp (g + 19) + 1),((lf 4,[(lf 10,[])]):ET (dp (g + 20)))] from hy) with rfl|rfl
 ·exact (fine_a _).nod (fun _=>trivial) fun y hy=>absurd hy (by simp)
 ·refine (fine_map _).nod (fun _=>trivial) fun z hz=>?_
  rw [show z=((lf 10,[]):ET (dp (g + 19) + 1)) from List.mem_singleton.1 hz]
  exact nod_id _ 10 (by simp)
theorem nC2 (g:Nat):Nods _ (xC2 g):=by
 refine (fine_rec [mkB [97]] _ rfl nms1 (fun s hs=>by rw [List.mem_singleton.1 hs];decide) (by show 1≤256;omega)).nod (fun _=>trivial) fun y hy=>?_
 rw [show y=((lf 1,[]):ET (dp (g + 20))) from List.mem_singleton.1 hy]
 exact nod_id (dp (g + 19) + 1) 1 (by simp)
theorem nC3 (g:Nat):Nods _ (xC3 g):=by
 refine (fine_map _).nod (fun _=>trivial) fun z hz=>?_
 rw [show z=((⟨3,nilB,[mkB [97],mkB [98]],1,vz⟩,[(lf 1,[]),(lf 1,[])]):ET (dp (g + 20))) from List.mem_singleton.1 hz]
 refine (fine_rec (n:=dp (g + 19) + 1) [mkB [97],mkB [98]] _ rfl nms2 (fun s hs=>?_) (by show 2≤256;omega)).nod (fun _=>trivial) fun y hy=>?_
 ·simp only [List.mem_cons,List.not_mem_nil,or_false] at hs
  rcases hs with rfl|rfl <;> decide
 ·rcases mem2 (show y∈[((lf 1,[]):ET (dp (g + 19) + 1)),((lf 1,[]):ET (dp (g + 19) + 1))] from hy) with rfl|rfl
  ·exact nod_id _ 1 (by simp)
  ·exact nod_id _ 1 (by simp)
theorem lC1 (g:Nat):lck dq _ (xC1 g)=0:=ok_lck (nC1 g) (by rw [show edep _ (xC1 g)=3 by kernel_rfl];omega) (by rw [show esiz _ (xC1 g)=4 by kernel_rfl];omega)
theorem lC2 (g:Nat):lck dq _ (xC2 g)=0:=ok_lck (nC2 g) (by rw [show edep _ (xC2 g)=2 by kernel_rfl];omega) (by rw [show esiz _ (xC2 g)=2 by kernel_rfl];omega)
theorem lC3 (g:Nat):lck dq _ (xC3 g)=0:=ok_lck (nC3 g) (by rw [show edep _ (xC3 g)=3 by kernel_rfl];omega) (by rw [show esiz _ (xC3 g)=4 by kernel_rfl];omega)
theorem pa_of {f:Nat} {l:List UInt8} {x:ET (dp f + 1)} (h:rdR f l=.inr x) (k:lck dq _ x=0):paR dq f l=.inr x:=by
 unfold paR
 rw [h]
 show (if lck dq _ x=0 then _ else _)=_
 rw [if_pos k]
def pC1:List Nd:=[⟨lf 12,[1,2]⟩,⟨⟨2,mkB [97],[],1,vz⟩,[]⟩,⟨lf 4,[3]⟩,⟨lf 10,[]⟩]
def pC2:List Nd:=[⟨⟨3,nilB,[mkB [97]],1,vz⟩,[1]⟩,⟨lf 1,[]⟩]
def pC3:List Nd:=[⟨lf 4,[1]⟩,⟨⟨3,nilB,[mkB [97],mkB [98]],1,vz⟩,[2,3]⟩,⟨lf 1,[]⟩,⟨lf 1,[]⟩]
theorem gC1 (g:Nat):(prg _ (xC1 g) 0).map bareN=pC1:=by kernel_rfl
theorem gC2 (g:Nat):(prg _ (xC2 g) 0).map bareN=pC2:=by kernel_rfl
theorem gC3 (g:Nat):(prg _ (xC3 g) 0).map bareN=pC3:=by kernel_rfl
def oC1:List UInt8:=[46,32,97,32,59,32,91,32,115,117,109,32,93]
theorem mC1:mtk _ (mpB pC1)=[mk [46],ntk [97],mk [59],mk [91],wd [115,117,109],mk [93]]:=by kernel_rfl
theorem vC1:prR [mk [46],wd [97],mk [59],mk [91],wd [115,117,109],mk [93]]=(0,oC1):=by kernel_rfl
end Lx
end Go.Proofs.YtgicnopppgnjjaaGreatDoor
namespace Go.Proofs.YtgicnopppgnjjaaGreatDoor
namespace Lx
open Go.RowKit
variable {dq : {_f : (p : Prop) → Decidable p // True}}
def bareE:(n:Nat)→ET n→ET n
 | 0,x=>x
 | n + 1,x=>(bareH x.1,x.2.map (bareE n))
theorem bareE_siz:∀ (n:Nat) (x:ET n),esiz n (bareE n x)=esiz n x
 | 0,x=>Empty.elim x
 | n + 1,x=>by
  have e:(esiz n) ∘ (bareE n)=esiz n:=funext (bareE_siz n)
  show 1 + suml ((x.2.map (bareE n)).map (esiz n))=1 + suml (x.2.map (esiz n))
  rw [List.map_map,e]
theorem prl_bare {n:Nat} (ih:∀ (x:ET n) (k:Nat),(prg n x k).map bareN=prg n (bareE n x) k):∀ (l:List (ET n)) (k:Nat),(prl (prg n) (esiz n) l k).map bareN=prl (prg n) (esiz n) (l.map (bareE n)) k
 | [],_=>rfl
 | x :: l,k=>by
  show (prg n x k++prl (prg n) (esiz n) l (k + esiz n x)).map bareN=prg n (bareE n x) k++prl (prg n) (esiz n) (l.map (bareE n)) (k + esiz n (bareE n x))
  rw [List.map_append,ih,prl_bare ih l,bareE_siz]
theorem prg_bare:∀ (n:Nat) (x:ET n) (k:Nat),(prg n x k).map bareN=prg n (bareE n x) k
 | 0,x,_=>Empty.elim x
 | n + 1,x,k=>by
  have e:(esiz n) ∘ (bareE n)=esiz n:=funext (bareE_siz n)
  show (⟨bareH x.1,kds (x.2.map (esiz n)) (k + 1)⟩:Nd) :: (prl (prg n) (esiz n) x.2 (k + 1)).map bareN=⟨bareH x.1,kds ((x.2.map (bareE n)).map (esiz n)) (k + 1)⟩ :: prl (prg n) (esiz n) (x.2.map (bareE n)) (k + 1)
  rw [prl_bare (prg_bare n),List.map_map,e]
theorem lf_bare {n:Nat} {v:VT n} (h:Lf n v):bareV (vhd n v)=vhd n v:=by
 cases n with
 | zero=>exact Empty.elim v
 | succ n =>
  obtain ⟨⟨a,b,c,d,e,f,g,nm⟩,l⟩:=v
  have:nm=[]:=h.1
  subst this
  rfl
theorem iso_bare:∀ (n:Nat) (x:ET n),Nods n x→Iso n x n (bareE n x)
 | 0,x,_=>Empty.elim x
 | n + 1,x,h=>by
  have lf:=h.1.lf
  refine ⟨rfl,rfl,rfl,lf_bare lf,lf,⟨rfl,rfl⟩,by show (x.2.map (bareE n)).length=_;rw [List.length_map],fun i hi hi'=>?_⟩
  have e:(bareE (n + 1) x).2[i]=bareE n x.2[i]:=List.getElem_map (bareE n)
  rw [e]
  exact iso_bare n _ (h.2 _ (List.getElem_mem hi))
theorem Iso.trans:∀ {n m k:Nat} {x:ET n} {y:ET m} {z:ET k},Iso n x m y→Iso m y k z→Iso n x k z
 | 0,_,_,x,_,_,_,_=>Empty.elim x
 | _ + 1,0,_,_,y,_,_,_=>Empty.elim y
 | _ + 1,_ + 1,0,_,_,z,_,_=>Empty.elim z
 | n + 1,m + 1,k + 1,x,y,z,h,h'=>by
  obtain ⟨a1,a2,a3,a4,a5,a6,a7,a8⟩:=h
  obtain ⟨b1,b2,b3,b4,b5,b6,b7,b8⟩:=h'
  exact ⟨b1.trans a1,b2.trans a2,b3.trans a3,b4.trans a4,a5,b6,b7.trans a7,fun i hi hi'=>(a8 i hi (by omega)).trans (b8 i (by omega) hi')⟩
theorem bare_bare (l:List Nd):(l.map bareN).map bareN=l.map bareN:=by
 rw [List.map_map]
 rfl
theorem prg_well {n:Nat} {x:ET n} (h:lck dq n x=0):cckB dq ((prg n x 0).map bareN)=0∧Iso n x _ (mpB ((prg n x 0).map bareN)):=by
 obtain ⟨h1,h2,h3⟩:=lck_ok h
 have i1:=iso_bare n x h1
 have n1:=i1.nods h1
 have hl:((prg n x 0).map bareN).length=esiz n x:=by rw [List.length_map,prg_len]
 have e1:=mp_prg (z:=bareH (lf 1)) n (bareE n x) (prg n (bareE n x) 0) [] 0 (esiz n x) (by simp) (by rw [bareE_siz];omega)
 have i2:=e1.iso n1
 have key:∀ (L:List Nd),L=(prg n x 0).map bareN→Iso n (bareE n x) _ (mpB L):=by
  intro L hL
  unfold mpB
  have e2:L.map bareN=prg n (bareE n x) 0:=by rw [hL,bare_bare,prg_bare]
  have e3:L.length=esiz n x:=by rw [hL];exact hl
  rw [e2,e3]
  exact i2
 have i3:=key _ rfl
 have l3:=i3.lck (dq:=dq) (i1.lck h)
 have i4:=i1.trans i3
 refine ⟨?_,i4⟩
 unfold cckB
 rw [if_pos ⟨(inOrd_bare _).2 (prg_inOrd n x),by rw [prg_bare];exact (prg_ok n _ 0).1 ⟨(nods_ev n1).1,(nods_ev n1).2.1⟩⟩,if_neg (by rw [hl];omega)]
 exact l3
theorem gn_prg:∀ (n:Nat) (x:ET n) (k:Nat),GE n x→∀ d∈prg n x k,GH d.h∧d.kids.length≤100000
 | 0,x,_,_=>Empty.elim x
 | n + 1,x,k,h=>by
  intro d hd
  rcases List.mem_cons.1 (show d∈(⟨x.1,kds (x.2.map (esiz n)) (k + 1)⟩:Nd) :: prl (prg n) (esiz n) x.2 (k + 1) from hd) with rfl|hd
  ·exact ⟨h.1,by show (kds _ _).length≤_;rw [kds_len,List.length_map];exact h.2.1⟩
  ·obtain ⟨i,hi,j,hj⟩:=prl_mem _ _ hd
   exact gn_prg n _ j (h.2.2 _ (List.getElem_mem hi)) d hj
theorem gn_pb {n:Nat} {x:ET n} (h:GE n x) (hz:esiz n x≤100000):GN ((prg n x 0).map bareN):=by
 refine ⟨by rw [List.length_map,prg_len];exact hz,fun d hd=>?_⟩
 obtain ⟨e,he,rfl⟩:=List.mem_map.1 hd
 have:=gn_prg n x 0 h e he
 exact ⟨gh_bare this.1,this.2⟩
end Lx
end Go.Proofs.YtgicnopppgnjjaaGreatDoor
namespace Go.Proofs.YtgicnopppgnjjaaGreatDoor
namespace Lx
open Go.RowKit
variable {dq : {_f : (p : Prop) → Decidable p // True}}
theorem NC.mono {S S':Nat} {W:World} {g:Nat} {l:List Nd} {ys:List Value} (h:NC S W g l ys) (hs:S'≤S):NC S' W g l ys:=⟨h.row,h.yl,Nat.le_trans hs h.lo,h.max,fun j hj=>by
 obtain ⟨s,a,b⟩:=h.all j hj
 exact ⟨s,a.mono hs,b⟩⟩
theorem bare_rd {L:Nat} {W:World} {l:List Nd}:∀ d∈l.map bareN,∀ s,NdK L W d s→NdR W d s:=by
 intro d hd s h
 obtain ⟨e,_,rfl⟩:=List.mem_map.1 hd
 exact h.rd (vh:=bareV (vhd e.h.vn e.h.val)) ⟨rfl,rfl,HEq.rfl⟩
theorem NC.ndlB {S:Nat} {W:World} {g:Nat} {l:List Nd} {ys:List Value} (h:NC S W g (l.map bareN) ys):NdL W (.slice (some ⟨g,0,none⟩) (l.map bareN).length (l.map bareN).length) (l.map bareN):=h.ndl (Nat.le_refl _) (by have:=h.max;unfold maxLen;omega) bare_rd
set_option maxHeartbeats 2000000 in
set_option maxRecDepth 100000 in
theorem pgm_ok (hP:ParseOk) {f:Nat} (hf:1025≤f) {s:ByteArray} {w:World} (g:Gs w) (hz:s.size≤1000000) {x:ET (dp f + 1)} (h:rdR f (bl s)=.inr x) (k:lck dq _ x=0) {L:List Nd} (hL:(prg _ x 0).map bareN=L) {M:Nat} (hM:L.length=M) :
  Calls Tryz.prog 58 #[.string s] w fun e w'=>Below w.heap.size w w'∧∃ b ys,e=.returned (.slice (some ⟨b,0,none⟩) M M)∧Hid (NC w.heap.size w' b L ys):=by
 have hp:=hide (parse_is (dq:=dq) hP f hf s w g.gg g.gp hz)
 rw [pa_of h k] at hp
 obtain ⟨hg,hs⟩:=rd_bound h
 have hcp:=hide (fun (q:Sl) (W:World) (hb:Below w.heap.size w W) (hr:RE _ W x q)=>compile_any (dq:=dq) _ x q W hr ⟨hg,g.gg.gu.below hb⟩ (by omega))
 have hM2:esiz _ x=M:=by rw [←hM,←hL,List.length_map,prg_len]
 unfold CpP at hcp
 rw [k,hM2,hL] at hcp
 obtain ⟨hd,hhd⟩:∃ hd,ehd _ x=hd:=⟨_,rfl⟩
 unfold RdP at hp
 simp only [hhd] at hp hcp
 have HX:=hide hhd
 clear g hz h k hL hM hM2 hg hs hhd hf hP
 go_enter Tryz.func58, Tryz.ntmps58
 go_wp2_with (go_at_call 9;refine Sto.out ?_)
 refine Sto.mk ?_
 refine hp.out.mono ?_
 rintro e w1 ⟨hb1,q,rfl,hk⟩
 obtain ⟨s1,s2,s3,s4,s5,s6,s7,s8,s9,s10,s11,s12,rfl⟩:=hk.rd.shape
 have B1:=hide hb1
 have CC:=hide (hcp.out ⟨.slice s1 s2 s3,.slice s4 s5 s6,.slice s7 s8 s9,.slice s10 s11 s12⟩ (w1.alloc (.cells (ecl hd ⟨.slice s1 s2 s3,.slice s4 s5 s6,.slice s7 s8 s9,.slice s10 s11 s12⟩) 33)) (below_al hb1) (hk.rd.below (below_al (Below.refl _ _))))
 clear hb1 hk hp hcp
 unfold ecl at CC ⊢
 dsimp only at CC ⊢
 go_wp2_with (go_at_call 21;refine Sto.out ?_)
 refine Sto.mk ?_
 refine CC.out.mono ?_
 rintro e w2 ⟨hb2,hr|⟨_,b,ys,rfl,hnc⟩⟩
 ·exact absurd rfl hr.1
 have B2:=hide (below_then (below_al B1.out) hb2)
 have NW:=hide (hnc.mono (S':=w.heap.size) (below_al B1.out).size)
 clear hb2 hnc CC
 go_wp2_with fail
 go_ret
 exact ⟨B2.out,b,ys,rfl,NW.out⟩
end Lx
end Go.Proofs.YtgicnopppgnjjaaGreatDoor
namespace Go.Proofs.YtgicnopppgnjjaaGreatDoor
namespace Lx
open Go.RowKit
variable {dq : {_f : (p : Prop) → Decidable p // True}}
theorem NC.node {S:Nat} {W:World} {b:Nat} {l:List Nd} {ys:List Value} (h:NC S W b l ys) (j:Nat) (hj:j<l.length):∃ s,NdK S W l[j] s∧∀ r u,(ecl l[j].h s).toList[r]?=some u→W.cell? ⟨b,j * 13 + r,none⟩=some u:=by
 obtain ⟨s,a,c⟩:=h.all j hj
 refine ⟨s,a,fun r u hr=>?_⟩
 have:=c r u hr
 rw [h.cell _ (List.getElem?_eq_some_iff.1 this).1]
 exact this
theorem OwnZ.cells {W:World} {S:Nat} {v:Value} {l:List Int} (h:OwnZ W S v l) (hl:0<l.length):∃ g c,v=.slice (some ⟨g,0,none⟩) l.length c∧l.length≤c∧∀ i (hi:i<l.length),W.cell? ⟨g,i,none⟩=some (.int .i64 l[i]):=by
 have hh:=h
 rcases h.2 with ⟨_,e⟩|⟨g,cap,cur,rfl,_,_,h3,_⟩
 ·omega
 ·refine ⟨g,cap,rfl,h3,fun i hi=>?_⟩
  rw [World.ownsRow.cellAt hh i (by simpa using hi)]
  simp [zcs,hi]
theorem pC1_cells {S:Nat} {W:World} {b:Nat} {ys:List Value} (h:NC S W b pC1 ys):∃ g1 c1 g2 c2,W.cell? ⟨b,3,none⟩=some (.slice (some ⟨g1,0,none⟩) 2 c1)∧2≤c1∧W.cell? ⟨g1,1,none⟩=some (.int .i64 2)∧W.cell? ⟨b,14,none⟩=some (.string ⟨#[97]⟩)∧W.cell? ⟨b,29,none⟩=some (.slice (some ⟨g2,0,none⟩) 1 c2)∧1≤c2∧W.cell? ⟨g2,0,none⟩=some (.int .i64 3)∧W.cell? ⟨b,39,none⟩=some (.int .i64 10):=by
 obtain ⟨s0,a0,c0⟩:=h.node 0 (by decide)
 obtain ⟨s1,a1,c1⟩:=h.node 1 (by decide)
 obtain ⟨s2,a2,c2⟩:=h.node 2 (by decide)
 obtain ⟨s3,a3,c3⟩:=h.node 3 (by decide)
 obtain ⟨g1,e1,f1,f2,f3⟩:=OwnZ.cells (l:=[1,2]) a0.ks (by decide)
 obtain ⟨g2,e2,k1,k2,k3⟩:=OwnZ.cells (l:=[3]) a2.ks (by decide)
 refine ⟨g1,e1,g2,e2,?_,f2,f3 1 (by decide),c1 1 _ rfl,?_,k2,k3 0 (by decide),c3 0 _ rfl⟩
 ·have:=c0 3 _ rfl
  rw [f1] at this
  exact this
 ·have:=c2 3 _ rfl
  rw [k1] at this
  exact this
theorem wC1 (g:Nat):cckB dq pC1=0:=by rw [←gC1 g];exact (prg_well (lC1 g)).1
theorem wC2 (g:Nat):cckB dq pC2=0:=by rw [←gC2 g];exact (prg_well (lC2 g)).1
theorem wC3 (g:Nat):cckB dq pC3=0:=by rw [←gC3 g];exact (prg_well (lC3 g)).1
theorem aC1 (g:Nat):GN pC1:=by rw [←gC1 g];exact gn_pb (rd_bound (rC1 g)).1 (by have:=(rd_bound (rC1 g)).2;omega)
theorem aC2 (g:Nat):GN pC2:=by rw [←gC2 g];exact gn_pb (rd_bound (rC2 g)).1 (by have:=(rd_bound (rC2 g)).2;omega)
theorem aC3 (g:Nat):GN pC3:=by rw [←gC3 g];exact gn_pb (rd_bound (rC3 g)).1 (by have:=(rd_bound (rC3 g)).2;omega)
theorem dC1 (g:Nat) {S:Nat} {W:World} {b:Nat} {ys:List Value} (h:NC S W b pC1 ys):NdL W (.slice (some ⟨b,0,none⟩) 4 4) pC1:=by
 rw [←gC1 g] at h
 have:=h.ndlB
 rw [gC1 g] at this
 exact this
theorem dC2 (g:Nat) {S:Nat} {W:World} {b:Nat} {ys:List Value} (h:NC S W b pC2 ys):NdL W (.slice (some ⟨b,0,none⟩) 2 2) pC2:=by
 rw [←gC2 g] at h
 have:=h.ndlB
 rw [gC2 g] at this
 exact this
theorem dC3 (g:Nat) {S:Nat} {W:World} {b:Nat} {ys:List Value} (h:NC S W b pC3 ys):NdL W (.slice (some ⟨b,0,none⟩) 4 4) pC3:=by
 rw [←gC3 g] at h
 have:=h.ndlB
 rw [gC3 g] at this
 exact this
theorem qC1 (g:Nat):prX dq _ (mpB pC1)=(0,oC1):=by
 unfold prX
 rw [if_pos (cckB_ok (wC1 (dq:=dq) g)).2.2.2,mC1,ntk_a,vC1]
 rfl
theorem cck_nil:cckB dq []=180:=by
 unfold cckB
 rw [if_neg]
 rintro ⟨⟨es,h1,h2⟩,_⟩
 simp only [enF,Option.some.injEq] at h1
 subst h1
 simp at h2
theorem many2:¬ ∃ d∈pC2,d.h.op=3∧2≤d.kids.length:=by
 rintro ⟨d,hd,h1,h2⟩
 simp only [pC2,List.mem_cons,List.not_mem_nil,or_false] at hd
 rcases hd with rfl|rfl
 ·simp at h2
 ·simp [lf] at h1
theorem many3:∃ d∈pC3,d.h.op=3∧2≤d.kids.length:=⟨⟨⟨3,nilB,[mkB [97],mkB [98]],1,vz⟩,[2,3]⟩,by simp [pC3],rfl,by simp⟩
set_option maxHeartbeats 8000000 in
set_option maxRecDepth 100000 in
theorem cawake_any (hP:ParseOk) (gk:Nat) (hg:1005≤gk) (w:World) (g:Gs w):Calls Tryz.prog 23 #[] w fun e w'=>e=.returned (.bool true)∧Below w.heap.size w w':=by
 have dq:{_f:(p:Prop)→Decidable p // True}:=⟨fun p=>Classical.propDecidable p,trivial⟩
 have hf:1025≤gk + 20:=by omega
 have G:=hide g
 have p1:=hide (pgm_ok (dq:=dq) hP hf g (s:=tC1) (by decide) (rC1 gk) (lC1 gk) (gC1 gk) (M:=4) rfl)
 have p2:=hide (fun W (hb:Below w.heap.size w W)=>pgm_ok (dq:=dq) hP hf (g.below hb) (s:=tC2) (by decide) (rC2 gk) (lC2 gk) (gC2 gk) (M:=2) rfl)
 have p3:=hide (fun W (hb:Below w.heap.size w W)=>pgm_ok (dq:=dq) hP hf (g.below hb) (s:=tC3) (by decide) (rC3 gk) (lC3 gk) (gC3 gk) (M:=4) rfl)
 have bk:=hide (fun W b S ys (hb:Below w.heap.size w W) (h:NC S W b pC1 ys)=>cback_any (dq:=dq) pC1 _ W (dC1 gk h) (aC1 gk) (g.below hb).gg.gu)
 have pr:=hide (fun q W (hb:Below w.heap.size w W) (h:RE _ W (mpB pC1) q)=>print_is (dq:=dq) hP _ (mpB pC1) q W h (mpB_ge (aC1 gk)) (by rw [mpB_siz (cckB_ok (wC1 (dq:=dq) gk)).1];decide) (g.below hb))
 have s2:=hide (fun W b S ys (hb:Below w.heap.size w W) (h:NC S W b pC2 ys)=>streams_any (dq:=dq) pC2 _ W (dC2 gk h) (aC2 gk) (g.below hb).gg.gu)
 have s3:=hide (fun W b S ys (hb:Below w.heap.size w W) (h:NC S W b pC3 ys)=>streams_any (dq:=dq) pC3 _ W (dC3 gk h) (aC3 gk) (g.below hb).gg.gu)
 have ck:=hide (fun W (hb:Below w.heap.size w W)=>ccheck_any (dq:=dq) [] (.slice none 0 0) W (Or.inl ⟨rfl,rfl⟩) ⟨by simp,fun d hd=>absurd hd (by simp)⟩ (g.below hb).gg.gu)
 rw [cck_nil] at ck
 rw [qC1 gk] at pr
 rw [show mkB oC1=⟨#[46,32,97,32,59,32,91,32,115,117,109,32,93]⟩ from rfl] at pr
 unfold BkP at bk
 rw [wC1 (dq:=dq) gk] at bk
 rw [wC2 (dq:=dq) gk] at s2
 rw [wC3 (dq:=dq) gk] at s3
 obtain ⟨hd,hhd⟩:∃ hd,ehd _ (mpB pC1)=hd:=⟨_,rfl⟩
 rw [hhd] at bk pr
 clear g hP hf hhd
 unfold tC1 at p1
 unfold tC2 at p2
 unfold tC3 at p3
 unfold ecl at bk pr
 dsimp only at pr
 go_enter Tryz.func23, Tryz.ntmps23
 go_wp2_with (go_at_call 58;refine Sto.out ?_)
 refine Sto.mk ?_
 refine p1.out.mono ?_
 rintro e w1 ⟨hb1,b1,ys1,rfl,hn1⟩
 have B1:=hide hb1
 have N1:=hn1
 obtain ⟨g1,c1,g2,c2,k1,k2,k3,k4,k5,k6,k7,k8⟩:=pC1_cells hn1.out
 have bk1:=hide (bk.out w1 b1 _ ys1 hb1 hn1.out)
 clear hb1 hn1 p1 bk
 go_wp2_with (go_at_call 26;refine Sto.out ?_)
 refine Sto.mk ?_
 refine bk1.out.mono ?_
 rintro e w2 ⟨hb2,hr|⟨_,q,rfl,hk⟩⟩
 ·exact absurd rfl hr.1
 obtain ⟨x1,y1,z1,x2,y2,z2,x3,y3,z3,x4,y4,z4,rfl⟩:=hk.out.rd.shape
 have B2:=hide (below_then B1.out hb2)
 have pr1:=hide (pr.out ⟨.slice x1 y1 z1,.slice x2 y2 z2,.slice x3 y3 z3,.slice x4 y4 z4⟩ (w2.alloc (.cells (ecl hd ⟨.slice x1 y1 z1,.slice x2 y2 z2,.slice x3 y3 z3,.slice x4 y4 z4⟩) 33)) (below_al B2.out) (hk.out.rd.below (below_al (Below.refl _ _))))
 unfold ecl at pr1
 dsimp only at pr1
 clear hb2 hk bk1 pr k1 k2 k3 k4 k5 k6 k7 k8 N1
 go_wp2_with (go_at_call 39;refine Sto.out ?_)
 refine Sto.mk ?_
 refine pr1.out.mono ?_
 rintro e w3 ⟨rfl,hb3⟩
 have B3:=hide (below_then (below_al B2.out) hb3)
 clear hb3 pr1
 go_wp2_with (go_at_call 58;refine Sto.out ?_)
 refine Sto.mk ?_
 refine (p2.out _ B3.out).mono ?_
 rintro e w4 ⟨hb4,b4,ys4,rfl,hn4⟩
 have B4:=hide (below_then B3.out hb4)
 have st2:=hide (s2.out w4 b4 _ ys4 B4.out hn4.out)
 clear hb4 hn4 p2 s2
 go_wp2_with (go_at_call 28;refine Sto.out ?_)
 refine Sto.mk ?_
 refine st2.out.mono ?_
 rintro e w5 ⟨hb5,bb,rfl,hT⟩
 obtain rfl:bb=true:=hT.out.2 ⟨by first|rfl|trivial,many2⟩
 have B5:=hide (below_then B4.out hb5)
 clear hb5 hT st2
 go_wp2_with (go_at_call 58;refine Sto.out ?_)
 refine Sto.mk ?_
 refine (p3.out _ B5.out).mono ?_
 rintro e w6 ⟨hb6,b6,ys6,rfl,hn6⟩
 have B6:=hide (below_then B5.out hb6)
 have st3:=hide (s3.out w6 b6 _ ys6 B6.out hn6.out)
 clear hb6 hn6 p3 s3
 go_wp2_with (go_at_call 28;refine Sto.out ?_)
 refine Sto.mk ?_
 refine st3.out.mono ?_
 rintro e w7 ⟨hb7,bb,rfl,hT⟩
 obtain rfl:bb=false:=by
  cases bb
  ·rfl
  ·exact absurd many3 (hT.out.1 rfl).2
 have B7:=hide (below_then B6.out hb7)
 clear hb7 hT st3
 go_wp2_with (go_at_call 30;refine Sto.out ?_)
 refine Sto.mk ?_
 refine (ck.out _ B7.out).mono ?_
 rintro e w8 ⟨rfl,hb8⟩
 have B8:=hide (below_then B7.out hb8)
 clear hb8 ck
 go_wp2_with fail
 go_ret
 exact ⟨rfl,B8.out⟩
end Lx
end Go.Proofs.YtgicnopppgnjjaaGreatDoor
namespace Go.Proofs.YtgicnopppgnjjaaGreatDoor
namespace Lx
open Go.RowKit
variable {dq : {_f : (p : Prop) → Decidable p // True}}
def mapE {n:Nat} (x:ET n):ET (n + 1):=(lf 4,[x])
theorem mapE_ev {n:Nat} (x:ET n):(evA bareP (n + 1) (mapE x)∧evA fiP (n + 1) (mapE x))↔(evA bareP n x∧evA fiP n x):=by
 constructor
 ·intro h
  exact ⟨h.1.2 0 (by simp [mapE]),h.2.2 0 (by simp [mapE])⟩
 ·intro h
  refine ⟨⟨(fine_map x).bare,fun i hi=>?_⟩,⟨(fine_map x).fi,fun i hi=>?_⟩⟩
  ·have:(mapE x).2[i]=x:=List.mem_singleton.1 (List.getElem_mem hi)
   rw [this];exact h.1
  ·have:(mapE x).2[i]=x:=List.mem_singleton.1 (List.getElem_mem hi)
   rw [this];exact h.2
theorem mapE_siz {n:Nat} (x:ET n):esiz (n + 1) (mapE x)=esiz n x + 1:=by
 show 1 + (esiz n x + 0)=_
 omega
theorem mapE_dep {n:Nat} (x:ET n):edep (n + 1) (mapE x)=edep n x + 1:=by
 show 1 + max (edep n x) 0=_
 omega
theorem mapE_lck {n:Nat} (x:ET n):lck dq (n + 1) (mapE x)=0∧lck dq n x=0∨lck dq (n + 1) (mapE x)≠0∧(lck dq (n + 1) (mapE x)=lck dq n x∨lck dq (n + 1) (mapE x)=2):=by
 by_cases h:evA bareP n x∧evA fiP n x
 ·have h':=(mapE_ev x).2 h
  by_cases k:evA shP (n + 1) (mapE x)∧edep (n + 1) (mapE x)≤16∧esiz (n + 1) (mapE x)≤512
  ·refine Or.inl ⟨lck_zero h'.1 h'.2 k.1 k.2.1 k.2.2,lck_zero h.1 h.2 (k.1.2 0 (by simp [mapE])) (by have:=k.2.1;rw [mapE_dep] at this;omega) (by have:=k.2.2;rw [mapE_siz] at this;omega)⟩
  ·have:lck dq (n + 1) (mapE x)=2:=by
    unfold lck
    rw [if_neg (fun q=>q h'),if_neg k]
   exact Or.inr ⟨by rw [this];decide,Or.inr this⟩
 ·have h':=fun q=>h ((mapE_ev x).1 q)
  have e1:lck dq n x=140:=by unfold lck;rw [if_pos h]
  have e2:lck dq (n + 1) (mapE x)=140:=by unfold lck;rw [if_pos h']
  exact Or.inr ⟨by rw [e2];decide,Or.inl (by rw [e1,e2])⟩
def shN (d:Nd):Nd:=⟨d.h,d.kids.map (· + 1)⟩
theorem kds_sh:∀ (l:List Nat) (k:Nat),kds l (k + 1)=(kds l k).map (· + 1)
 | [],_=>rfl
 | s :: l,k=>by
  show ((k + 1:Nat):Int) :: kds l (k + 1 + s)=((k:Int) + 1) :: (kds l (k + s)).map (· + 1)
  rw [show k + 1 + s=k + s + 1 by omega,kds_sh l,Int.natCast_add]
  rfl
theorem prl_sh {n:Nat} (ih:∀ (x:ET n) (k:Nat),prg n x (k + 1)=(prg n x k).map shN):∀ (l:List (ET n)) (k:Nat),prl (prg n) (esiz n) l (k + 1)=(prl (prg n) (esiz n) l k).map shN
 | [],_=>rfl
 | x :: l,k=>by
  show prg n x (k + 1)++prl (prg n) (esiz n) l (k + 1 + esiz n x)=(prg n x k++prl (prg n) (esiz n) l (k + esiz n x)).map shN
  rw [List.map_append,ih,show k + 1 + esiz n x=k + esiz n x + 1 by omega,prl_sh ih l]
theorem prg_sh:∀ (n:Nat) (x:ET n) (k:Nat),prg n x (k + 1)=(prg n x k).map shN
 | 0,x,_=>Empty.elim x
 | n + 1,x,k=>by
  show (⟨x.1,kds (x.2.map (esiz n)) (k + 1 + 1)⟩:Nd) :: prl (prg n) (esiz n) x.2 (k + 1 + 1)=⟨x.1,(kds (x.2.map (esiz n)) (k + 1)).map (· + 1)⟩ :: (prl (prg n) (esiz n) x.2 (k + 1)).map shN
  rw [kds_sh,prl_sh (prg_sh n)]
theorem mapE_prg {n:Nat} (x:ET n):(prg (n + 1) (mapE x) 0).map bareN=⟨bareH (lf 4),[1]⟩ :: ((prg n x 0).map bareN).map shN:=by
 have e:prg (n + 1) (mapE x) 0=⟨lf 4,[1]⟩ :: (prg n x 1++[]):=rfl
 rw [e,List.append_nil,List.map_cons,prg_sh,List.map_map,List.map_map]
 rfl
end Lx
end Go.Proofs.YtgicnopppgnjjaaGreatDoor
namespace Go.Proofs.YtgicnopppgnjjaaGreatDoor
namespace Lx
open Go.RowKit
theorem kind_ne {W:World} {L n sz g:Nat} {T T':TypeId} {v:Value} {xs:List Value} {cur:Array Value} (h:W.ownsRow L T sz v n xs) (hT:T≠T') (hg:W.heap[g]?=some (.cells cur T' (0,0))):v.ownBlock≠some g:=by
 intro e
 obtain ⟨c2,e2⟩:=row_kind h e
 rw [hg] at e2
 have:=Option.some.inj e2
 injection this with _ e3 _
 exact hT e3.symm
theorem NdK.put {L:Nat} {W:World} {d:Nd} {s:Sl} {g i:Nat} {u:Value} {cur:Array Value} (h:NdK L W d s) (hg:W.heap[g]?=some (.cells cur 67 (0,0))):NdK L (W.setCell ⟨g,i,none⟩ u) d s :=
 ⟨ownsRow_of h.ns fun k hk _=>Below.heap_setCell _ _ _ _ (by show k≠g;rintro rfl;exact kind_ne h.ns (by decide) hg hk),ownsRow_of h.ks fun k hk _=>Below.heap_setCell _ _ _ _ (by show k≠g;rintro rfl;exact kind_ne h.ks (by decide) hg hk),h.vs,h.vl⟩
theorem NC.setk {S:Nat} {W:World} {b i:Nat} {l:List Nd} {ys:List Value} {ls':Value} {ks':List Int} (h:NC S W b l ys) (hi:i<l.length) (ho:OwnZ W S ls' ks'):NC S (W.setCell ⟨b,i * 13 + 3,none⟩ ls') b (l.set i ⟨l[i].h,ks'⟩) (ys.set (i * 13 + 3) ls'):=by
 obtain ⟨cur,hc,ht⟩:=h.row
 have hyl:=h.yl
 refine ⟨⟨_,blkT hc _ _,?_⟩,by rw [List.length_set,List.length_set];exact hyl,h.lo,by rw [List.length_set];exact h.max,fun j hj=>?_⟩
 ·rw [List.length_set,Array.toList_setIfInBounds,List.take_set,ht]
 ·rw [List.length_set] at hj
  by_cases hji:j=i
  ·subst hji
   obtain ⟨s,a,c⟩:=h.all j hi
   have hok:OwnZ (W.setCell ⟨b,j * 13 + 3,none⟩ ls') S ls' ks':=ownsRow_of ho fun k hk _=>Below.heap_setCell _ _ _ _ (by show k≠b;rintro rfl;exact kind_ne ho (by decide) hc hk)
   have ha:=a.put (i:=j * 13 + 3) (u:=ls') hc
   refine ⟨⟨s.ns,ls',s.vs,s.vl⟩,?_,fun r u hr=>?_⟩
   ·rw [List.getElem_set_self]
    exact ⟨ha.ns,hok,ha.vs,ha.vl⟩
   ·rw [List.getElem_set_self] at hr
    by_cases hr3:r=3
    ·subst hr3
     have:u=ls':=(Option.some.inj hr).symm
     rw [this,List.getElem?_set_self (by omega)]
    ·have hr2:(ecl l[j].h s).toList[r]?=some u:=by
      rw [←hr]
      match r,hr3 with
      | 0,_=>rfl
      | 1,_=>rfl
      | 2,_=>rfl
      | r + 4,_=>rfl
     rw [List.getElem?_set_ne (by omega)]
     exact c r u hr2
  ·obtain ⟨s,a,c⟩:=h.all j hj
   rw [List.getElem_set_ne (Ne.symm hji)]
   refine ⟨s,a.put hc,fun r u hr=>?_⟩
   have hr13:r<13:=(List.getElem?_eq_some_iff.1 hr).1
   rw [List.getElem?_set_ne (by omega)]
   exact c r u hr
theorem NC.other {S:Nat} {W:World} {b g i:Nat} {l:List Nd} {ys:List Value} {u:Value} {cur:Array Value} (h:NC S W b l ys) (hn:b≠g) (hg:W.heap[g]?=some (.cells cur 67 (0,0))):NC S (W.setCell ⟨g,i,none⟩ u) b l ys:=by
 obtain ⟨c0,hc,ht⟩:=h.row
 refine ⟨⟨c0,(Below.heap_setCell _ _ _ _ (by show b≠g;exact hn)).trans hc,ht⟩,h.yl,h.lo,h.max,fun j hj=>?_⟩
 obtain ⟨s,a,c⟩:=h.all j hj
 exact ⟨s,a.put hg,c⟩
def shT (i:Nat) (l:List Nd):List Nd:=(l.take i).map shN++l.drop i
theorem shT_len (i:Nat) (l:List Nd):(shT i l).length=l.length:=by
 unfold shT
 rw [List.length_append,List.length_map,List.length_take,List.length_drop]
 omega
theorem shT_at (i:Nat) (l:List Nd) (hi:i<l.length) (h':i<(shT i l).length):(shT i l)[i]=l[i]:=by
 have e:(shT i l)[i]?=some l[i]:=by
  unfold shT
  rw [List.getElem?_append_right (by simp;omega),List.length_map,List.length_take,show min i l.length=i by omega,Nat.sub_self,List.getElem?_drop,Nat.add_zero,List.getElem?_eq_getElem hi]
 rw [List.getElem?_eq_getElem h',Option.some.injEq] at e
 exact e
theorem shT_next (i:Nat) (l:List Nd) (hi:i<l.length):(shT i l).set i ⟨l[i].h,l[i].kids.map (· + 1)⟩=shT (i + 1) l:=by
 unfold shT
 rw [List.take_succ_eq_append_getElem hi,List.map_append,List.set_append_right _ _ (by simp;omega),List.length_map,List.length_take,show i - min i l.length=0 by omega,List.drop_eq_getElem_cons hi,List.set_cons_zero,List.append_assoc]
 rfl
structure MP (w:World) (b1 b2:Nat) (l:List Nd) (m:List Nd) (i:Nat) (W:World):Prop where
 bel:Below w.heap.size w W
 l:∃ ys,NC w.heap.size W b1 (shT i l) ys
 m:∃ ys,NC w.heap.size W b2 m ys
 ne:b1<b2
theorem MP.below {w:World} {b1 b2 i:Nat} {l m:List Nd} {W W1:World} (h:MP w b1 b2 l m i W) (hb:Below W.heap.size W W1):MP w b1 b2 l m i W1:=by
 obtain ⟨y1,h1⟩:=h.l
 obtain ⟨y2,h2⟩:=h.m
 exact ⟨below_then h.bel hb,⟨y1,h1.below hb⟩,⟨y2,h2.below hb⟩,h.ne⟩
theorem MP.step {w:World} {b1 b2 i:Nat} {l m:List Nd} {W:World} {v:Value} (h:MP w b1 b2 l m i W) (hi:i<l.length) (ho:OwnZ W w.heap.size v (l[i].kids.map (· + 1))):MP w b1 b2 l m (i + 1) (W.setCell ⟨b1,i * 13 + 3,none⟩ v):=by
 obtain ⟨y1,h1⟩:=h.l
 obtain ⟨y2,h2⟩:=h.m
 obtain ⟨c1,hc1,_⟩:=h1.row
 have hil:i<(shT i l).length:=by rw [shT_len];exact hi
 have k1:=h1.setk hil ho
 rw [shT_at i l hi hil,shT_next i l hi] at k1
 exact ⟨h.bel.setCell h1.lo _,⟨_,k1⟩,⟨_,h2.other (by have:=h.ne;omega) hc1⟩,h.ne⟩
theorem MP.node {w:World} {b1 b2 i:Nat} {l m:List Nd} {W:World} (h:MP w b1 b2 l m i W) (hi:i<l.length):∃ ls,OwnZ W w.heap.size ls l[i].kids∧W.cell? ⟨b1,i * 13 + 3,none⟩=some ls∧W.frozen? ⟨b1,i * 13 + 3,none⟩=false:=by
 obtain ⟨y1,h1⟩:=h.l
 obtain ⟨c1,hc1,_⟩:=h1.row
 have hil:i<(shT i l).length:=by rw [shT_len];exact hi
 obtain ⟨s,a,c⟩:=h1.node i hil
 have e:=shT_at i l hi hil
 refine ⟨s.ls,?_,c 3 _ rfl,by simp [World.frozen?,hc1]⟩
 have:=a.ks
 rw [e] at this
 exact this
theorem bare_rd2 {L:Nat} {W:World} {l:List Nd}:∀ d∈(l.map bareN).map shN,∀ s,NdK L W d s→NdR W d s:=by
 intro d hd s h
 obtain ⟨e,he,rfl⟩:=List.mem_map.1 hd
 obtain ⟨f,_,rfl⟩:=List.mem_map.1 he
 exact h.rd (vh:=bareV (vhd f.h.vn f.h.val)) ⟨rfl,rfl,HEq.rfl⟩
theorem NC.ndl_tail {S:Nat} {W:World} {g c:Nat} {d:Nd} {l:List Nd} {ys:List Value} (h:NC S W g (d :: l) ys) (h1:l.length≤c) (h2:c≤maxLen) (hr:∀ d∈l,∀ s,NdK S W d s→NdR W d s):NdL W (.slice (some ⟨g,13,none⟩) l.length c) l:=by
 obtain ⟨cur,hc,ht⟩:=h.row
 refine Or.inr ⟨g,13,c,none,rfl,h1,h2,fun _=>⟨rfl,(Array.getElem?_eq_some_iff.1 hc).1⟩,fun i hi=>?_⟩
 obtain ⟨s,a,b⟩:=h.all (i + 1) (by simpa using hi)
 refine ⟨s,fun r u hrv=>?_,hr _ (List.getElem_mem hi) s a⟩
 have hq:=b r u hrv
 rw [show 13 + i * 13 + r=(i + 1) * 13 + r by omega,h.cell _ (List.getElem?_eq_some_iff.1 hq).1]
 exact hq
end Lx
end Go.Proofs.YtgicnopppgnjjaaGreatDoor
namespace Go.Proofs.YtgicnopppgnjjaaGreatDoor
namespace Lx
open Go.RowKit
set_option maxHeartbeats 8000000 in
set_option maxRecDepth 100000 in
theorem nsame_any (l:List Nd) (v v':Value) (w:World) (hl:NdL w v l) (hl':NdL w v' l):Calls Tryz.prog 24 #[v,v'] w fun e w'=>e=.returned (.bool true)∧Below w.heap.size w w':=by
 obtain ⟨al,cl,rfl,hl1,hl2⟩:=hl.len
 obtain ⟨bl',dl,rfl,hl3,hl4⟩:=hl'.len
 have ml:maxLen=9223372036854775807:=rfl
 have HA:=hide hl
 have HB:=hide hl'
 clear hl hl'
 go_enter Tryz.func24, Tryz.ntmps24
 go_wp2_with fail
 go_loopw [5] (fun i W=>∃ k:Nat,i=.int .i64 k∧k≤l.length∧Hid (Below w.heap.size w W)) (fun i _=>l.length - (intOf i).toNat)
 case atStart=>exact ⟨0,rfl,Nat.zero_le _,Below.refl _ _⟩
 case round =>
  obtain ⟨k,rfl,hk,H⟩:=hrel
  by_cases hkl:k<l.length
  ·have hki:(k:Int)<(l.length:Int):=by omega
   have hk0:(0:Int)≤(k:Int):=by omega
   obtain ⟨b,o,c,he,hbl,_,_,s,hrg,hrd⟩:=HA.out.at k hkl
   obtain ⟨b',o',c',he',hbl',_,_,s',hrg',hrd'⟩:=HB.out.at k hkl
   obtain ⟨rfl, -,rfl⟩:=Value.slice.inj he
   obtain ⟨rfl, -,rfl⟩:=Value.slice.inj he'
   obtain ⟨a1,c1,a2,c2,x3,y3,z3,x4,y4,z4,hqs⟩:=hrd.shape
   subst hqs
   obtain ⟨u1,e1,u2,e2,t3,p3,q3,t4,p4,q4,hqs⟩:=hrd'.shape
   subst hqs
   have hcl:=hide (fun W (hb:Below w.heap.size w W)=>(⟨range13 (rangeAt_below hrg hb hbl),range13 (rangeAt_below hrg' hb hbl')⟩:_∧_))
   have hv:=hide (fun W (hb:Below w.heap.size w W)=>Calls.tb (b:=true) (requal_any l[k].h.vn l[k].h.val l[k].h.val (.slice x3 y3 z3) (.slice x4 y4 z4) (.slice t3 p3 q3) (.slice t4 p4 q4) W (hrd.2.1.below hb) (hrd'.2.1.below hb)) (by simp))
   have HNA:=hide hrd.1
   have HNB:=hide hrd'.1
   have HKA:=hide hrd.2.2
   have HKB:=hide hrd'.2.2
   clear he he' hrg hrg' hrd hrd'
   obtain ⟨d,hd⟩:∃ d,l[k]=d:=⟨_,rfl⟩
   rw [hd] at hcl hv HNA HNB HKA HKB
   clear hd
   obtain ⟨⟨op,nm,nms,vn,val⟩,kids⟩:=d
   simp only at hcl hv HNA HNB HKA HKB
   obtain ⟨y,hy⟩:∃ y,vhd vn val=y:=⟨_,rfl⟩
   rw [hy] at hcl hv
   clear hy
   unfold vals at hv
   have r0:=hcl.out wr H.out
   have BA:=hide (show Below w.heap.size w wr.drew from H.out.drew)
   go_upto_region 6 with fail
   go_cut [86] (fun s86 wx=>s86=.bool false∧Hid (Below w.heap.size w wx))
   case first =>
    dsimp only [List.append]
    go_region_held3 (fun W=>(W.cell? ⟨b,o + k * 13,none⟩=some (.int .i64 op)∧W.cell? ⟨b,o + k * 13 + 1,none⟩=some (.string nm)∧W.cell? ⟨b,o + k * 13 + 2,none⟩=some (.slice a1 nms.length c1)∧W.cell? ⟨b,o + k * 13 + 3,none⟩=some (.slice a2 kids.length c2)∧W.cell? ⟨b,o + k * 13 + 4,none⟩=some (.int .i64 y.kind)∧W.cell? ⟨b,o + k * 13 + 5,none⟩=some (.bool y.flag)∧W.cell? ⟨b,o + k * 13 + 6,none⟩=some (.bool y.neg)∧W.cell? ⟨b,o + k * 13 + 7,none⟩=some (.string y.dig)∧W.cell? ⟨b,o + k * 13 + 8,none⟩=some (.int .i64 y.exp)∧W.cell? ⟨b,o + k * 13 + 9,none⟩=some (.int .u64 y.bits)∧W.cell? ⟨b,o + k * 13 + 10,none⟩=some (.string y.text)∧W.cell? ⟨b,o + k * 13 + 11,none⟩=some (.slice x3 y3 z3)∧W.cell? ⟨b,o + k * 13 + 12,none⟩=some (.slice x4 y4 z4))∧W.cell? ⟨b',o' + k * 13,none⟩=some (.int .i64 op)∧W.cell? ⟨b',o' + k * 13 + 1,none⟩=some (.string nm)∧W.cell? ⟨b',o' + k * 13 + 2,none⟩=some (.slice u1 nms.length e1)∧W.cell? ⟨b',o' + k * 13 + 3,none⟩=some (.slice u2 kids.length e2)∧W.cell? ⟨b',o' + k * 13 + 4,none⟩=some (.int .i64 y.kind)∧W.cell? ⟨b',o' + k * 13 + 5,none⟩=some (.bool y.flag)∧W.cell? ⟨b',o' + k * 13 + 6,none⟩=some (.bool y.neg)∧W.cell? ⟨b',o' + k * 13 + 7,none⟩=some (.string y.dig)∧W.cell? ⟨b',o' + k * 13 + 8,none⟩=some (.int .i64 y.exp)∧W.cell? ⟨b',o' + k * 13 + 9,none⟩=some (.int .u64 y.bits)∧W.cell? ⟨b',o' + k * 13 + 10,none⟩=some (.string y.text)∧W.cell? ⟨b',o' + k * 13 + 11,none⟩=some (.slice t3 p3 q3)∧W.cell? ⟨b',o' + k * 13 + 12,none⟩=some (.slice t4 p4 q4)) (first|(refine hcl.out _ ?_;(first|with_reducible (exact BA.out)|with_reducible (exact BB.out)))) (first|(go_at_call 40;refine (hv.out _ BA.out).mono ?_;rintro e w2 ⟨rfl,hb2⟩;have BB:=hide (below_then BA.out hb2);clear hb2))
    all_goals (go_wp2_with fail;go_meet;exact ⟨rfl,BB.out⟩)
   case rest =>
   obtain ⟨rfl,HC⟩:=hcut
   clear H r0 BA hv
   go_wp2_with fail
   go_loopw [6] (fun i W=>∃ j:Nat,i=.int .i64 j∧j≤nms.length∧Hid (Below w.heap.size w W)) (fun i _=>nms.length - (intOf i).toNat)
   case atStart=>exact ⟨0,rfl,Nat.zero_le _,HC.out⟩
   case round =>
    clear HC
    obtain ⟨j,rfl,hj,H2⟩:=hrel
    have r1:=hcl.out wr H2.out
    by_cases hjl:j<nms.length
    ·have hji:(j:Int)<(nms.length:Int):=by omega
     obtain ⟨n1,m1,f1,he,hb1,_,_,hcA⟩:=HNA.out.at j hjl
     obtain ⟨rfl, -,rfl⟩:=Value.slice.inj he
     clear he
     obtain ⟨n2,m2,f2,he,hb2,_,_,hcB⟩:=HNB.out.at j hjl
     obtain ⟨rfl, -,rfl⟩:=Value.slice.inj he
     clear he
     replace hcA:=(H2.out.cell (p:=⟨n1,m1 + j,none⟩) hb1).trans hcA
     replace hcB:=(H2.out.cell (p:=⟨n2,m2 + j,none⟩) hb2).trans hcB
     obtain ⟨z,hz⟩:∃ z,nms[j]=z:=⟨_,rfl⟩
     rw [hz] at hcA hcB
     clear hz
     go_wp2_with fail
     go_quiet (fail)
     go_wp2_with fail
     exact ⟨⟨j + 1,by go_num,by omega,belowE_dn H2.out _⟩,by simp [intOf];omega⟩
    ·have hji:¬ (j:Int)<(nms.length:Int):=by omega
     have HC:=H2
     clear H2 hj hjl
     go_wp2_with fail
     go_loopw [7] (fun i W=>∃ j:Nat,i=.int .i64 j∧j≤kids.length∧Hid (Below w.heap.size w W)) (fun i _=>kids.length - (intOf i).toNat)
     case atStart=>exact ⟨0,rfl,Nat.zero_le _,HC.out⟩
     case round =>
      clear HC
      obtain ⟨j,rfl,hj,H2⟩:=hrel
      have r1:=hcl.out wr H2.out
      by_cases hjl:j<kids.length
      ·have hji:(j:Int)<(kids.length:Int):=by omega
       obtain ⟨n1,m1,f1,he,hb1,_,_,hcA⟩:=HKA.out.at j hjl
       obtain ⟨rfl, -,rfl⟩:=Value.slice.inj he
       clear he
       obtain ⟨n2,m2,f2,he,hb2,_,_,hcB⟩:=HKB.out.at j hjl
       obtain ⟨rfl, -,rfl⟩:=Value.slice.inj he
       clear he
       replace hcA:=(H2.out.cell (p:=⟨n1,m1 + j,none⟩) hb1).trans hcA
       replace hcB:=(H2.out.cell (p:=⟨n2,m2 + j,none⟩) hb2).trans hcB
       obtain ⟨z,hz⟩:∃ z,kids[j]=z:=⟨_,rfl⟩
       rw [hz] at hcA hcB
       clear hz
       go_wp2_with fail
       go_quiet (fail)
       go_wp2_with fail
       exact ⟨⟨j + 1,by go_num,by omega,belowE_dn H2.out _⟩,by simp [intOf];omega⟩
      ·have hji:¬ (j:Int)<(kids.length:Int):=by omega
       have HC:=H2
       clear H2 hj hjl
       go_wp2_with fail
       exact ⟨⟨k + 1,by go_num,by omega,HC.out⟩,by simp [intOf];omega⟩
  ·have hki:¬ (k:Int)<(l.length:Int):=by omega
   go_wp2_with fail
   go_ret
   exact ⟨rfl,H.out⟩
end Lx
end Go.Proofs.YtgicnopppgnjjaaGreatDoor
