/- Merged by program: VzCopy, VzRepeat, CoRepeat, VzLike. -/
import Derived.Test.YtgicnopppgnjjaaGreatDoorZd33
import Derived.Laws.CopyOwn
import Derived.Test.YtgicnopppgnjjaaGreatDoorAfShelf
import Derived.Deep.RegionHeld3
import Derived.Deep.RegionLaw
import Derived.Test.YtgicnopppgnjjaaGreatDoorZd26
set_option linter.unusedSimpArgs false
set_option linter.unusedVariables false
namespace Go.Proofs.YtgicnopppgnjjaaGreatDoor
namespace Lx
open Go.RowKit
theorem run_copy_wide2 {P:Program} (w:World) (dT sT ty elem:TypeId) (g off dLen dCap:Nat) (a:Addr) (sLen sCap sz m:Nat) (cur:Array Value) (t:TypeId) (cs:List Value)
  (hu:P.underlying dT=some (.slice elem)) (hs:(P.info? elem).map (·.size)=some sz)
  (hg:w.heap[g]?=some (.cells cur t (0,0))) (hm:Nat.min sLen dLen=m) (hn:cs.length=m * sz)
  (hsrc:∀ j v,cs[j]?=some v→w.cell? (a.add j)=some v) (hfit:off + cs.length≤cur.size) (h1:∀ v∈cs,v.oneCell'=true) :
  (Builtin.copy_ #[dT,sT] ty #[.slice (some ⟨g,off,none⟩) dLen dCap,.slice (some a) sLen sCap]).run P w =
   .ok (goInt m) (w.setRow g (cur.toList.take off++(cs++cur.toList.drop (off + cs.length))).toArray):=by
 have hl:=run_loadCells_list (P:=P) w a cs hsrc
 have hst:=run_storeCells_at P g off t cs 0 cur w hg (by simpa using hfit) h1
 cases hq:P.info? elem with
 | none=>simp [hq] at hs
 | some i =>
  have hi:i.size=sz:=by simpa [hq] using hs
  simp [Builtin.copy_,run_underlying hu,Builtin.lenOf,Builtin.firstCells,sizeOf,typeInfo,hq,hi,hm,←hn,hl,hst]
theorem infoV9:(Tryz.prog.info? 31).map (·.size)=some 9:=by kernel_rfl
theorem step_copy9 {ops:Array Oper} {o:Oper} {a:Act} {w:World} {K:Act→World→Prop} {Q:Exit→Act→World→Prop} {E:Prop} (hgd:o.guard=none) (d s:Operand)
  (ho:o.op=.call {callee:=.builtin .copy,args:=#[d,s],argTypes:=#[29,29]})
  (g off dLen dCap sLen sCap m:Nat) (ad:Addr) (hd:a.eval d=.slice (some ⟨g,off,none⟩) dLen dCap) (hs:a.eval s=.slice (some ad) sLen sCap)
  (cur:List Value) (t:TypeId) (hg:w.heap[g]?=some (.cells cur.toArray t (0,0))) (cs:List Value) (hm:Nat.min sLen dLen=m) (hn:cs.length=m * 9)
  (hsrc:∀ j v,cs[j]?=some v→w.cell? (ad.add j)=some v) (hfit:off + cs.length≤cur.length) (h1:∀ v∈cs,v.oneCell'=true) (B:Nat) (w0:World) (hb:Below B w0 w) (hBg:B≤g)
  (h:∀ w',Hid (w'.heap[g]?=some (.cells (splice cur off cs).toArray t (0,0)))→Hid (Below B w0 w')→K (a.put o.dst (goInt m)) w') :
  if Region.wanted o (yielded ops a.tmps)=true then Oper.wp Tryz.prog o a w K Q else E:=by
 have hw:Region.wanted o (yielded ops a.tmps)=true:=by simp [Region.wanted,hgd]
 rw [if_pos hw]
 have hrun:=run_copy_wide2 (P:=Tryz.prog) w 29 29 o.type 31 g off dLen dCap ad sLen sCap 9 m cur.toArray t cs Tryz.underlying29 infoV9 hg hm hn hsrc (by simpa using hfit) h1
 unfold Oper.wp
 simp [execOp,ho,resolve,invoke,builtin,hd,hs,hrun,Result.andThen]
 exact h _ (show _=_ by simpa [splice] using setRow_heap w g _ _ t _ hg) (below_setRow hb hBg _)
theorem wl_copy9 {ops:Array Oper} {rest:List Oper} {o:Oper} {a:Act} {w:World} {Q:Exit→Act→World→Prop} (hgd:o.guard=none) (d s:Operand)
  (ho:o.op=.call {callee:=.builtin .copy,args:=#[d,s],argTypes:=#[29,29]})
  (g off dLen dCap sLen sCap m:Nat) (ad:Addr) (hd:a.eval d=.slice (some ⟨g,off,none⟩) dLen dCap) (hs:a.eval s=.slice (some ad) sLen sCap)
  (cur:List Value) (t:TypeId) (hg:w.heap[g]?=some (.cells cur.toArray t (0,0))) (cs:List Value) (hm:Nat.min sLen dLen=m) (hn:cs.length=m * 9)
  (hsrc:∀ j v,cs[j]?=some v→w.cell? (ad.add j)=some v) (hfit:off + cs.length≤cur.length) (h1:∀ v∈cs,v.oneCell'=true) (B:Nat) (w0:World) (hb:Below B w0 w) (hBg:B≤g)
  (h:∀ w',Hid (w'.heap[g]?=some (.cells (splice cur off cs).toArray t (0,0)))→Hid (Below B w0 w')→wpList Tryz.prog ops Q rest (a.put o.dst (goInt m)) w'):wpList Tryz.prog ops Q (o :: rest) a w:=by
 refine wpList_plain hgd fun K hK=>?_
 have hrun:=run_copy_wide2 (P:=Tryz.prog) w 29 29 o.type 31 g off dLen dCap ad sLen sCap 9 m cur.toArray t cs Tryz.underlying29 infoV9 hg hm hn hsrc (by simpa using hfit) h1
 unfold Oper.wp
 simp [execOp,ho,resolve,invoke,builtin,hd,hs,hrun,Result.andThen]
 exact hK _ _ (h _ (show _=_ by simpa [splice] using setRow_heap w g _ _ t _ hg) (below_setRow hb hBg _))
def rpt (k:Nat) (c:List Value):List Value:=(List.replicate k c).flatten
theorem rpt_len (k:Nat) (c:List Value):(rpt k c).length=k * c.length:=by
 induction k with
 | zero=>simp [rpt]
 | succ k ih=>simp only [rpt,List.replicate_succ,List.flatten_cons,List.length_append] at ih ⊢;rw [ih,Nat.succ_mul];omega
theorem rpt_add (a b:Nat) (c:List Value):rpt (a + b) c=rpt a c++rpt b c:=by
 unfold rpt
 rw [←List.replicate_append_replicate,List.flatten_append]
def nc9 (k:Int):List Value:=[.int .i64 k,.bool false,.bool false,.string ⟨#[]⟩,.int .i64 0,.int .u64 0,.string ⟨#[]⟩,.slice none 0 0,.slice none 0 0]
def LN (n N:Nat):List Value:=rpt n (nc9 1)++rpt (N - n) (nc9 0)
theorem LN_len {n N:Nat} (h:n≤N):(LN n N).length=N * 9:=by
 unfold LN
 rw [List.length_append,rpt_len,rpt_len,show (nc9 1).length=9 from rfl,show (nc9 0).length=9 from rfl]
 omega
theorem LN_splice {n m N:Nat} (h:n + m≤N):splice (LN n N) (n * 9) (rpt m (nc9 1))=LN (n + m) N:=by
 have e:N - n=m + (N - (n + m)):=by omega
 unfold splice LN
 rw [e,rpt_add m _ (nc9 0)]
 have l1:(rpt n (nc9 1)).length=n * 9:=rpt_len _ _
 have l2:(rpt m (nc9 1)).length=m * 9:=rpt_len _ _
 have l3:(rpt m (nc9 0)).length=m * 9:=rpt_len _ _
 rw [List.take_append_of_le_length (by omega),List.take_of_length_le (by omega),rpt_add n m (nc9 1),l2]
 rw [List.drop_append,List.drop_of_length_le (by omega),l1]
 rw [show n * 9 + m * 9 - n * 9=m * 9 by omega,List.drop_append,List.drop_of_length_le (by omega),l3]
 simp
theorem LN_head {n N j:Nat} {v:Value} {m:Nat} (hm:m≤n) (h:(rpt m (nc9 1))[j]?=some v):(LN n N)[j]?=some v:=by
 have l2:(rpt m (nc9 1)).length=m * 9:=rpt_len _ _
 have hj:=(List.getElem?_eq_some_iff.1 h).1
 unfold LN
 rw [show n=m + (n - m) by omega,rpt_add,List.append_assoc,List.getElem?_append_left hj]
 exact h
theorem rpt_one (k:Nat) (c:List Value) (hc:∀ v∈c,v.oneCell'=true):∀ v∈rpt k c,v.oneCell'=true:=by
 intro v hv
 unfold rpt at hv
 obtain ⟨l,hl,hv⟩:=List.mem_flatten.1 hv
 rw [List.mem_replicate] at hl
 rw [hl.2] at hv
 exact hc v hv
theorem nc9_one (k:Int):∀ v∈nc9 k,v.oneCell'=true:=by
 intro v hv
 simp only [nc9,List.mem_cons,List.not_mem_nil,or_false] at hv
 rcases hv with rfl|rfl|rfl|rfl|rfl|rfl|rfl|rfl|rfl <;> rfl
theorem made9 (N:Nat):(madeCells (nc9 0).toArray (N * 9)).toList=rpt N (nc9 0):=by
 induction N with
 | zero=>simp [madeCells,rpt]
 | succ N ih =>
  have e:(N + 1) * 9=N * 9 + 9:=by omega
  rw [rpt_add N 1,←ih,e]
  apply List.ext_getElem?
  intro j
  have l1:(madeCells (nc9 0).toArray (N * 9)).toList.length=N * 9:=by simp [madeCells]
  by_cases hj:j<N * 9
  ·rw [List.getElem?_append_left (by omega)]
   simp only [madeCells,Array.toList_map,Array.toList_range,List.getElem?_map]
   rw [List.getElem?_range (by omega),List.getElem?_range hj]
  ·rw [List.getElem?_append_right (by omega),l1]
   by_cases hj2:j<N * 9 + 9
   ·obtain ⟨r,rfl⟩:∃ r,j=N * 9 + r:=⟨j - N * 9,by omega⟩
    have hr:r<9:=by omega
    simp only [madeCells,Array.toList_map,Array.toList_range,List.getElem?_map]
    rw [List.getElem?_range hj2,Nat.add_sub_cancel_left]
    have em:(N * 9 + r) % (nc9 0).toArray.size=r:=by show (N * 9 + r) % 9=r;omega
    simp only [Option.map_some,em]
    match r,hr with
    | 0,_=>rfl
    | 1,_=>rfl
    | 2,_=>rfl
    | 3,_=>rfl
    | 4,_=>rfl
    | 5,_=>rfl
    | 6,_=>rfl
    | 7,_=>rfl
    | 8,_=>rfl
   ·rw [List.getElem?_eq_none (by simp [madeCells];omega),List.getElem?_eq_none (by simp [rpt,nc9];omega)]
end Lx
end Go.Proofs.YtgicnopppgnjjaaGreatDoor
namespace Go.Proofs.YtgicnopppgnjjaaGreatDoor
namespace Lx
open Go.RowKit
theorem infoVZ:(Tryz.prog.info? 31).map (fun i=>(i.zero,i.size,i.bytes))=some (some (.agg #[.int .i64 0,.bool false,.bool false,.string ⟨#[]⟩,.int .i64 0,.int .u64 0,.string ⟨#[]⟩,.slice none 0 0,.slice none 0 0]),9,120):=by kernel_rfl
set_option maxHeartbeats 800000 in
set_option maxRecDepth 100000 in
theorem repeat_any {w:World} {b o c:Nat} (N:Nat) (hN:N≤100000) (hx:∀ j v,(nc9 1)[j]?=some v→w.cell? ⟨b,o + j,none⟩=some v) (hb:b<w.heap.size) :
  Calls Tryz.prog 174 #[.slice (some ⟨b,o,none⟩) 1 c,.int .i64 N] w fun e w'=>e=.returned (.slice (some ⟨w.heap.size,0,none⟩) N N)∧w'.heap[w.heap.size]?=some (.cells (rpt N (nc9 1)).toArray 31 (0,0))∧Below w.heap.size w w':=by
 have hX:=hide hx
 have hm:=hide (fun W=>Any.bits_Mul laysBM 1 N (by omega) (by omega) W)
 have e1:1 * N / 18446744073709551616=0:=by omega
 have e2:1 * N % 18446744073709551616=N:=by omega
 rw [e1,e2] at hm
 have hni:¬ (N:Int)<0:=by omega
 have hnw:IntKind.u64.wrap (N:Int)=(N:Int):=by rw [IntKind.wrap_u64];omega
 have hnw2:IntKind.i64.wrap (N:Int)=(N:Int):=by rw [IntKind.wrap_i64];omega
 have hnb:¬ (9223372036854775807:Int)<(N:Int):=by omega
 clear hx e1 e2
 go_enter Tryz.func174, Tryz.ntmps174
 go_wp2_with (first|(go_at_call 158;refine Sto.out ?_)|(at_builtin;refine Sto.out ?_))
 refine Sto.mk ?_
 refine (hm.out _).mono ?_
 rintro e w1 ⟨rfl,hw1⟩
 rw [hw1]
 clear hw1 hm
 obtain ⟨i0,hi,hz0,hz1,hz2⟩:=info_parts infoVZ
 go_wp2_with (refine wpList_make_full w rfl _ _ 29 rfl w.heap.size 31 i0 (.agg #[.int .i64 0,.bool false,.bool false,.string ⟨#[]⟩,.int .i64 0,.int .u64 0,.string ⟨#[]⟩,.slice none 0 0,.slice none 0 0]) 9 Tryz.underlying29 hi hz0 hz1 .i64 .i64 _ _ N rfl rfl rfl rfl (by rw [hz2];omega) (by unfold maxLen;omega) (Nat.le_refl _) ?_;refine Sto.out ?_)
 refine Sto.mk ?_
 intro w2 ho hg
 have H2:Hid (w2.heap[w.heap.size]?=some (.cells (LN 0 N).toArray 31 (0,0))):=by
  rcases ho.2 with ⟨h,_⟩|⟨g,cap,cur,e,_,hcell,_,_,hsz,htk⟩
  ·cases h
  ·obtain ⟨e1,_,e3⟩:=Value.slice.inj e
   cases e1
   cases e3
   have e5:cur.toList=LN 0 N:=by
    have:cur.toList.length=N * 9:=by simpa using hsz
    rw [List.take_of_length_le (by omega)] at htk
    rw [htk]
    exact (made9 N).trans (by simp [LN,rpt])
   show _=_
   rw [hcell,←e5]
 have B2:Hid (Below w.heap.size w w2):=(Below.refl w.heap.size w).grown hg (Nat.le_refl _) (fun k hk=>by cases hk)
 have hX2:Hid (∀ j v,(nc9 1)[j]?=some v→w2.cell? ⟨b,o + j,none⟩=some v):=fun j v hj=>(World.cell?_of_block (w:=w) (B2.out.block b hb)).trans (hX.out j v hj)
 obtain ⟨m,hmm⟩:∃ m,Nat.min 1 N=m:=⟨_,rfl⟩
 have hm1:m≤N∧m≤1∧(1≤m∨N=0):=by rw [←hmm];show min 1 N≤N∧min 1 N≤1∧(1≤min 1 N∨N=0);omega
 have HM:=hide hmm
 clear ho hg hi hz0 hz1 hz2 hmm hX
 have HS:Hid (∀ j v,(rpt m (nc9 1))[j]?=some v→w2.cell? ((⟨b,o,none⟩:Addr).add j)=some v):=by
  intro j v hj
  have hj1:(nc9 1)[j]?=some v:=by
   rcases Nat.le_one_iff_eq_zero_or_eq_one.1 hm1.2.1 with h|h
   ·rw [h] at hj;simp [rpt] at hj
   ·rw [h] at hj;simpa [rpt] using hj
  rw [show (⟨b,o,none⟩:Addr).add j=⟨b,o + j,none⟩ by unfold Addr.add;split <;> simp_all]
  exact hX2.out j v hj1
 have HL:Hid (0 + (rpt m (nc9 1)).length≤(LN 0 N).length):=by
  have e1:(rpt m (nc9 1)).length=m * 9:=rpt_len _ _
  show _≤_
  rw [LN_len (Nat.zero_le _),e1]
  omega
 go_wp2_with (refine wl_copy9 rfl (.tmp 31) (.tmp 32) rfl w.heap.size 0 N N 1 c m ⟨b,o,none⟩ rfl rfl (LN 0 N) 31 H2.out (rpt m (nc9 1)) HM.out (rpt_len _ _) HS.out HL.out (rpt_one _ _ (nc9_one 1)) w.heap.size w B2.out (Nat.le_refl _) ?_;refine Sto.out ?_)
 refine Sto.mk ?_
 intro w3 H3 B3
 have H4:Hid (w3.heap[w.heap.size]?=some (.cells (LN m N).toArray 31 (0,0))):=by
  have e:=LN_splice (n:=0) (m:=m) (N:=N) (by omega)
  have h:=H3.out
  rw [Nat.zero_mul,Nat.zero_add] at e
  rw [e] at h
  exact h
 clear H3 H2 B2 hX2
 go_wp2_with fail
 go_loopw [8] (fun v W=>∃ n:Nat,v=.int .i64 (n:Nat)∧n≤N∧(1≤n∨N=0)∧Hid (W.heap[w.heap.size]?=some (.cells (LN n N).toArray 31 (0,0))∧Below w.heap.size w W)) (fun v _=>N - (intOf v).toNat)
 case atStart=>exact ⟨m,rfl,hm1.1,hm1.2.2,H4.out,B3.out⟩
 case round =>
  obtain ⟨n,rfl,hn1,hn2,H⟩:=hrel
  by_cases hlt:n<N
  ·have hli:(n:Int)<(N:Int):=by omega
   have hn0:(0:Int)≤(n:Int):=by omega
   have hnN:(n:Int)≤(N:Int):=by omega
   obtain ⟨k,hk⟩:∃ k,Nat.min n (N - n)=k:=⟨_,rfl⟩
   have hk1:k≤n∧n + k≤N∧(1≤n→1≤k):=by rw [←hk];show min n (N - n)≤n∧n + min n (N - n)≤N∧(1≤n→1≤min n (N - n));omega
   have HK:=hide hk
   have HS2:Hid (∀ j v,(rpt k (nc9 1))[j]?=some v→wr.cell? ((⟨w.heap.size,0,none⟩:Addr).add j)=some v):=by
    intro j v hj
    rw [show (⟨w.heap.size,0,none⟩:Addr).add j=⟨w.heap.size,0 + j,none⟩ by unfold Addr.add;split <;> simp_all]
    unfold World.cell?
    rw [H.out.1]
    simpa using LN_head (N:=N) hk1.1 hj
   have HL2:Hid (n * 9 + (rpt k (nc9 1)).length≤(LN n N).length):=by
    have e1:(rpt k (nc9 1)).length=k * 9:=rpt_len _ _
    show _≤_
    rw [LN_len hn1,e1]
    omega
   clear hk
   have hkw:IntKind.i64.wrap ((n:Int) + (k:Int))=((n + k:Nat):Int):=by rw [IntKind.wrap_i64];omega
   have hne:¬ N=n:=by omega
   go_wp2_with fail
   go_region_law (refine step_copy9 rfl (.tmp 41) (.tmp 44) rfl w.heap.size (n * 9) (N - n) (N - n) n N k ⟨w.heap.size,0,none⟩ (by simp [Act.eval,Act.put,hne]) (by simp [Act.eval,Act.put]) (LN n N) 31 H.out.1 (rpt k (nc9 1)) HK.out (rpt_len _ _) HS2.out HL2.out (rpt_one _ _ (nc9_one 1)) w.heap.size w (by exact H.out.2.drew) (Nat.le_refl _) ?_;intro w4 H4 B4)
   all_goals
    go_wp2_with fail
    refine ⟨⟨Value.int .i64 ((n:Int) + (k:Int)),_,_,_,_,_,_,_,_,_,_,_,_,_,⟨n + k,by rw [Int.natCast_add],hk1.2.1,by omega,?_,B4.out⟩,rfl⟩,?_⟩
    ·rw [←LN_splice hk1.2.1];exact H4.out
    ·show N - (intOf (Value.int .i64 ((n:Int) + (k:Int)))).toNat<N - (intOf (Value.int .i64 (n:Int))).toNat
     have e1:(intOf (Value.int .i64 ((n:Int) + (k:Int)))).toNat=n + k:=by show ((n:Int) + (k:Int)).toNat=n + k;omega
     have e2:(intOf (Value.int .i64 (n:Int))).toNat=n:=by show (n:Int).toNat=n;omega
     rw [e1,e2]
     omega
  ·have hli:¬ (n:Int)<(N:Int):=by omega
   have hnn:n=N:=by omega
   subst hnn
   go_wp2_with fail
   go_ret
   refine ⟨rfl,?_,H.out.2⟩
   have:=H.out.1
   simpa [LN,rpt] using this
end Lx
end Go.Proofs.YtgicnopppgnjjaaGreatDoor
namespace Go.Proofs.YtgicnopppgnjjaaGreatDoor
namespace Lx
open Go.RowKit
theorem infoE13:(Tryz.prog.info? 33).map (·.size)=some 13:=by kernel_rfl
theorem step_copyE {ops:Array Oper} {o:Oper} {a:Act} {w:World} {K:Act→World→Prop} {Q:Exit→Act→World→Prop} {E:Prop} (hgd:o.guard=none) (d s:Operand)
  (ho:o.op=.call {callee:=.builtin .copy,args:=#[d,s],argTypes:=#[24,24]})
  (g off dLen dCap sLen sCap m:Nat) (ad:Addr) (hd:a.eval d=.slice (some ⟨g,off,none⟩) dLen dCap) (hs:a.eval s=.slice (some ad) sLen sCap)
  (cur:List Value) (t:TypeId) (hg:w.heap[g]?=some (.cells cur.toArray t (0,0))) (cs:List Value) (hm:Nat.min sLen dLen=m) (hn:cs.length=m * 13)
  (hsrc:∀ j v,cs[j]?=some v→w.cell? (ad.add j)=some v) (hfit:off + cs.length≤cur.length) (h1:∀ v∈cs,v.oneCell'=true) (B:Nat) (w0:World) (hb:Below B w0 w) (hBg:B≤g)
  (h:∀ w',Hid (w'.heap[g]?=some (.cells (splice cur off cs).toArray t (0,0)))→Hid (Below B w0 w')→K (a.put o.dst (goInt m)) w') :
  if Region.wanted o (yielded ops a.tmps)=true then Oper.wp Tryz.prog o a w K Q else E:=by
 have hw:Region.wanted o (yielded ops a.tmps)=true:=by simp [Region.wanted,hgd]
 rw [if_pos hw]
 have hrun:=run_copy_wide2 (P:=Tryz.prog) w 24 24 o.type 33 g off dLen dCap ad sLen sCap 13 m cur.toArray t cs Tryz.underlying24 infoE13 hg hm hn hsrc (by simpa using hfit) h1
 unfold Oper.wp
 simp [execOp,ho,resolve,invoke,builtin,hd,hs,hrun,Result.andThen]
 exact h _ (show _=_ by simpa [splice] using setRow_heap w g _ _ t _ hg) (below_setRow hb hBg _)
theorem wl_copyE {ops:Array Oper} {rest:List Oper} {o:Oper} {a:Act} {w:World} {Q:Exit→Act→World→Prop} (hgd:o.guard=none) (d s:Operand)
  (ho:o.op=.call {callee:=.builtin .copy,args:=#[d,s],argTypes:=#[24,24]})
  (g off dLen dCap sLen sCap m:Nat) (ad:Addr) (hd:a.eval d=.slice (some ⟨g,off,none⟩) dLen dCap) (hs:a.eval s=.slice (some ad) sLen sCap)
  (cur:List Value) (t:TypeId) (hg:w.heap[g]?=some (.cells cur.toArray t (0,0))) (cs:List Value) (hm:Nat.min sLen dLen=m) (hn:cs.length=m * 13)
  (hsrc:∀ j v,cs[j]?=some v→w.cell? (ad.add j)=some v) (hfit:off + cs.length≤cur.length) (h1:∀ v∈cs,v.oneCell'=true) (B:Nat) (w0:World) (hb:Below B w0 w) (hBg:B≤g)
  (h:∀ w',Hid (w'.heap[g]?=some (.cells (splice cur off cs).toArray t (0,0)))→Hid (Below B w0 w')→wpList Tryz.prog ops Q rest (a.put o.dst (goInt m)) w'):wpList Tryz.prog ops Q (o :: rest) a w:=by
 refine wpList_plain hgd fun K hK=>?_
 have hrun:=run_copy_wide2 (P:=Tryz.prog) w 24 24 o.type 33 g off dLen dCap ad sLen sCap 13 m cur.toArray t cs Tryz.underlying24 infoE13 hg hm hn hsrc (by simpa using hfit) h1
 unfold Oper.wp
 simp [execOp,ho,resolve,invoke,builtin,hd,hs,hrun,Result.andThen]
 exact hK _ _ (h _ (show _=_ by simpa [splice] using setRow_heap w g _ _ t _ hg) (below_setRow hb hBg _))
def nc13 (k:Int):List Value:=[.int .i64 k,.string ⟨#[]⟩,.slice none 0 0,.slice none 0 0,.int .i64 0,.bool false,.bool false,.string ⟨#[]⟩,.int .i64 0,.int .u64 0,.string ⟨#[]⟩,.slice none 0 0,.slice none 0 0]
def LM (n N:Nat):List Value:=rpt n (nc13 1)++rpt (N - n) (nc13 0)
theorem LM_len {n N:Nat} (h:n≤N):(LM n N).length=N * 13:=by
 unfold LM
 rw [List.length_append,rpt_len,rpt_len,show (nc13 1).length=13 from rfl,show (nc13 0).length=13 from rfl]
 omega
theorem LM_splice {n m N:Nat} (h:n + m≤N):splice (LM n N) (n * 13) (rpt m (nc13 1))=LM (n + m) N:=by
 have e:N - n=m + (N - (n + m)):=by omega
 unfold splice LM
 rw [e,rpt_add m _ (nc13 0)]
 have l1:(rpt n (nc13 1)).length=n * 13:=rpt_len _ _
 have l2:(rpt m (nc13 1)).length=m * 13:=rpt_len _ _
 have l3:(rpt m (nc13 0)).length=m * 13:=rpt_len _ _
 rw [List.take_append_of_le_length (by omega),List.take_of_length_le (by omega),rpt_add n m (nc13 1),l2]
 rw [List.drop_append,List.drop_of_length_le (by omega),l1]
 rw [show n * 13 + m * 13 - n * 13=m * 13 by omega,List.drop_append,List.drop_of_length_le (by omega),l3]
 simp
theorem LM_head {n N j:Nat} {v:Value} {m:Nat} (hm:m≤n) (h:(rpt m (nc13 1))[j]?=some v):(LM n N)[j]?=some v:=by
 have l2:(rpt m (nc13 1)).length=m * 13:=rpt_len _ _
 have hj:=(List.getElem?_eq_some_iff.1 h).1
 unfold LM
 rw [show n=m + (n - m) by omega,rpt_add,List.append_assoc,List.getElem?_append_left hj]
 exact h
theorem nc13_one (k:Int):∀ v∈nc13 k,v.oneCell'=true:=by
 intro v hv
 simp only [nc13,List.mem_cons,List.not_mem_nil,or_false] at hv
 rcases hv with rfl|rfl|rfl|rfl|rfl|rfl|rfl|rfl|rfl|rfl|rfl|rfl|rfl <;> rfl
theorem made13 (N:Nat):(madeCells (nc13 0).toArray (N * 13)).toList=rpt N (nc13 0):=by
 induction N with
 | zero=>simp [madeCells,rpt]
 | succ N ih =>
  have e:(N + 1) * 13=N * 13 + 13:=by omega
  rw [rpt_add N 1,←ih,e]
  apply List.ext_getElem?
  intro j
  have l1:(madeCells (nc13 0).toArray (N * 13)).toList.length=N * 13:=by simp [madeCells]
  by_cases hj:j<N * 13
  ·rw [List.getElem?_append_left (by omega)]
   simp only [madeCells,Array.toList_map,Array.toList_range,List.getElem?_map]
   rw [List.getElem?_range (by omega),List.getElem?_range hj]
  ·rw [List.getElem?_append_right (by omega),l1]
   by_cases hj2:j<N * 13 + 13
   ·obtain ⟨r,rfl⟩:∃ r,j=N * 13 + r:=⟨j - N * 13,by omega⟩
    have hr:r<13:=by omega
    simp only [madeCells,Array.toList_map,Array.toList_range,List.getElem?_map]
    rw [List.getElem?_range hj2,Nat.add_sub_cancel_left]
    have em:(N * 13 + r) % (nc13 0).toArray.size=r:=by show (N * 13 + r) % 13=r;omega
    simp only [Option.map_some,em]
    match r,hr with
    | 0,_=>rfl
    | 1,_=>rfl
    | 2,_=>rfl
    | 3,_=>rfl
    | 4,_=>rfl
    | 5,_=>rfl
    | 6,_=>rfl
    | 7,_=>rfl
    | 8,_=>rfl
    | 9,_=>rfl
    | 10,_=>rfl
    | 11,_=>rfl
    | 12,_=>rfl
   ·rw [List.getElem?_eq_none (by simp [madeCells];omega),List.getElem?_eq_none (by simp [rpt,nc13];omega)]
set_option maxHeartbeats 800000 in
set_option maxRecDepth 100000 in
theorem repeatE_any {w:World} {b o c:Nat} (N:Nat) (hN:N≤100000) (hx:∀ j v,(nc13 1)[j]?=some v→w.cell? ⟨b,o + j,none⟩=some v) (hb:b<w.heap.size) :
  Calls Tryz.prog 121 #[.slice (some ⟨b,o,none⟩) 1 c,.int .i64 N] w fun e w'=>e=.returned (.slice (some ⟨w.heap.size,0,none⟩) N N)∧w'.heap[w.heap.size]?=some (.cells (rpt N (nc13 1)).toArray 33 (0,0))∧Below w.heap.size w w':=by
 have hX:=hide hx
 have hm:=hide (fun W=>Any.bits_Mul laysBM 1 N (by omega) (by omega) W)
 have e1:1 * N / 18446744073709551616=0:=by omega
 have e2:1 * N % 18446744073709551616=N:=by omega
 rw [e1,e2] at hm
 have hni:¬ (N:Int)<0:=by omega
 have hnw:IntKind.u64.wrap (N:Int)=(N:Int):=by rw [IntKind.wrap_u64];omega
 have hnw2:IntKind.i64.wrap (N:Int)=(N:Int):=by rw [IntKind.wrap_i64];omega
 have hnb:¬ (9223372036854775807:Int)<(N:Int):=by omega
 clear hx e1 e2
 go_enter Tryz.func121, Tryz.ntmps121
 go_wp2_with (first|(go_at_call 158;refine Sto.out ?_)|(at_builtin;refine Sto.out ?_))
 refine Sto.mk ?_
 refine (hm.out _).mono ?_
 rintro e w1 ⟨rfl,hw1⟩
 rw [hw1]
 clear hw1 hm
 obtain ⟨i0,hi,hz0,hz1,hz2⟩:=info_parts infoEE
 go_wp2_with (refine wpList_make_full w rfl _ _ 24 rfl w.heap.size 33 i0 (.agg #[.int .i64 0,.string ⟨#[]⟩,.slice none 0 0,.slice none 0 0,.int .i64 0,.bool false,.bool false,.string ⟨#[]⟩,.int .i64 0,.int .u64 0,.string ⟨#[]⟩,.slice none 0 0,.slice none 0 0]) 13 Tryz.underlying24 hi hz0 hz1 .i64 .i64 _ _ N rfl rfl rfl rfl (by rw [hz2];omega) (by unfold maxLen;omega) (Nat.le_refl _) ?_;refine Sto.out ?_)
 refine Sto.mk ?_
 intro w2 ho hg
 have H2:Hid (w2.heap[w.heap.size]?=some (.cells (LM 0 N).toArray 33 (0,0))):=by
  rcases ho.2 with ⟨h,_⟩|⟨g,cap,cur,e,_,hcell,_,_,hsz,htk⟩
  ·cases h
  ·obtain ⟨e1,_,e3⟩:=Value.slice.inj e
   cases e1
   cases e3
   have e5:cur.toList=LM 0 N:=by
    have:cur.toList.length=N * 13:=by simpa using hsz
    rw [List.take_of_length_le (by omega)] at htk
    rw [htk]
    exact (made13 N).trans (by simp [LM,rpt])
   show _=_
   rw [hcell,←e5]
 have B2:Hid (Below w.heap.size w w2):=(Below.refl w.heap.size w).grown hg (Nat.le_refl _) (fun k hk=>by cases hk)
 have hX2:Hid (∀ j v,(nc13 1)[j]?=some v→w2.cell? ⟨b,o + j,none⟩=some v):=fun j v hj=>(World.cell?_of_block (w:=w) (B2.out.block b hb)).trans (hX.out j v hj)
 obtain ⟨m,hmm⟩:∃ m,Nat.min 1 N=m:=⟨_,rfl⟩
 have hm1:m≤N∧m≤1∧(1≤m∨N=0):=by rw [←hmm];show min 1 N≤N∧min 1 N≤1∧(1≤min 1 N∨N=0);omega
 have HM:=hide hmm
 clear ho hg hi hz0 hz1 hz2 hmm hX
 have HS:Hid (∀ j v,(rpt m (nc13 1))[j]?=some v→w2.cell? ((⟨b,o,none⟩:Addr).add j)=some v):=by
  intro j v hj
  have hj1:(nc13 1)[j]?=some v:=by
   rcases Nat.le_one_iff_eq_zero_or_eq_one.1 hm1.2.1 with h|h
   ·rw [h] at hj;simp [rpt] at hj
   ·rw [h] at hj;simpa [rpt] using hj
  rw [show (⟨b,o,none⟩:Addr).add j=⟨b,o + j,none⟩ by unfold Addr.add;split <;> simp_all]
  exact hX2.out j v hj1
 have HL:Hid (0 + (rpt m (nc13 1)).length≤(LM 0 N).length):=by
  have e1:(rpt m (nc13 1)).length=m * 13:=rpt_len _ _
  show _≤_
  rw [LM_len (Nat.zero_le _),e1]
  omega
 go_wp2_with (refine wl_copyE rfl (.tmp 31) (.tmp 32) rfl w.heap.size 0 N N 1 c m ⟨b,o,none⟩ rfl rfl (LM 0 N) 33 H2.out (rpt m (nc13 1)) HM.out (rpt_len _ _) HS.out HL.out (rpt_one _ _ (nc13_one 1)) w.heap.size w B2.out (Nat.le_refl _) ?_;refine Sto.out ?_)
 refine Sto.mk ?_
 intro w3 H3 B3
 have H4:Hid (w3.heap[w.heap.size]?=some (.cells (LM m N).toArray 33 (0,0))):=by
  have e:=LM_splice (n:=0) (m:=m) (N:=N) (by omega)
  have h:=H3.out
  rw [Nat.zero_mul,Nat.zero_add] at e
  rw [e] at h
  exact h
 clear H3 H2 B2 hX2
 go_wp2_with fail
 go_loopw [8] (fun v W=>∃ n:Nat,v=.int .i64 (n:Nat)∧n≤N∧(1≤n∨N=0)∧Hid (W.heap[w.heap.size]?=some (.cells (LM n N).toArray 33 (0,0))∧Below w.heap.size w W)) (fun v _=>N - (intOf v).toNat)
 case atStart=>exact ⟨m,rfl,hm1.1,hm1.2.2,H4.out,B3.out⟩
 case round =>
  obtain ⟨n,rfl,hn1,hn2,H⟩:=hrel
  by_cases hlt:n<N
  ·have hli:(n:Int)<(N:Int):=by omega
   have hn0:(0:Int)≤(n:Int):=by omega
   have hnN:(n:Int)≤(N:Int):=by omega
   obtain ⟨k,hk⟩:∃ k,Nat.min n (N - n)=k:=⟨_,rfl⟩
   have hk1:k≤n∧n + k≤N∧(1≤n→1≤k):=by rw [←hk];show min n (N - n)≤n∧n + min n (N - n)≤N∧(1≤n→1≤min n (N - n));omega
   have HK:=hide hk
   have HS2:Hid (∀ j v,(rpt k (nc13 1))[j]?=some v→wr.cell? ((⟨w.heap.size,0,none⟩:Addr).add j)=some v):=by
    intro j v hj
    rw [show (⟨w.heap.size,0,none⟩:Addr).add j=⟨w.heap.size,0 + j,none⟩ by unfold Addr.add;split <;> simp_all]
    unfold World.cell?
    rw [H.out.1]
    simpa using LM_head (N:=N) hk1.1 hj
   have HL2:Hid (n * 13 + (rpt k (nc13 1)).length≤(LM n N).length):=by
    have e1:(rpt k (nc13 1)).length=k * 13:=rpt_len _ _
    show _≤_
    rw [LM_len hn1,e1]
    omega
   clear hk
   have hkw:IntKind.i64.wrap ((n:Int) + (k:Int))=((n + k:Nat):Int):=by rw [IntKind.wrap_i64];omega
   have hne:¬ N=n:=by omega
   go_wp2_with fail
   go_region_law (refine step_copyE rfl (.tmp 41) (.tmp 44) rfl w.heap.size (n * 13) (N - n) (N - n) n N k ⟨w.heap.size,0,none⟩ (by simp [Act.eval,Act.put,hne]) (by simp [Act.eval,Act.put]) (LM n N) 33 H.out.1 (rpt k (nc13 1)) HK.out (rpt_len _ _) HS2.out HL2.out (rpt_one _ _ (nc13_one 1)) w.heap.size w (by exact H.out.2.drew) (Nat.le_refl _) ?_;intro w4 H4 B4)
   all_goals
    go_wp2_with fail
    refine ⟨⟨Value.int .i64 ((n:Int) + (k:Int)),_,_,_,_,_,_,_,_,_,_,_,_,_,⟨n + k,by rw [Int.natCast_add],hk1.2.1,by omega,?_,B4.out⟩,rfl⟩,?_⟩
    ·rw [←LM_splice hk1.2.1];exact H4.out
    ·show N - (intOf (Value.int .i64 ((n:Int) + (k:Int)))).toNat<N - (intOf (Value.int .i64 (n:Int))).toNat
     have e1:(intOf (Value.int .i64 ((n:Int) + (k:Int)))).toNat=n + k:=by show ((n:Int) + (k:Int)).toNat=n + k;omega
     have e2:(intOf (Value.int .i64 (n:Int))).toNat=n:=by show (n:Int).toNat=n;omega
     rw [e1,e2]
     omega
  ·have hli:¬ (n:Int)<(N:Int):=by omega
   have hnn:n=N:=by omega
   subst hnn
   go_wp2_with fail
   go_ret
   refine ⟨rfl,?_,H.out.2⟩
   have:=H.out.1
   simpa [LM,rpt] using this
end Lx
end Go.Proofs.YtgicnopppgnjjaaGreatDoor
namespace Go.Proofs.YtgicnopppgnjjaaGreatDoor
namespace Lx
open Go.RowKit
theorem last_at {W:World} {o:Obj} {i:Nat} (h:i=W.heap.size):(W.alloc o).heap[i]?=some o:=by subst h;exact heap_alloc_last _ _
def lk9 (k:Int) (t:ByteArray) (ns ls:Value):Array Value:=#[.int .i64 k,.bool false,.bool false,.string ⟨#[]⟩,.int .i64 0,.int .u64 0,.string t,ns,ls]
set_option maxHeartbeats 2000000 in
set_option maxRecDepth 100000 in
theorem like_tag (k:Int) (hk:k=2∨k=5) (n:Nat) (nm:ByteArray) (nms:List ByteArray) (vn:Nat) (val:VT vn) (l:List (ET n)) (q:Sl) (w:World) (hr:RE (n + 1) w (⟨k,nm,nms,vn,val⟩,l) q) :
  Calls Tryz.prog 135 #[.agg (ecl ⟨k,nm,nms,vn,val⟩ q)] w fun e w'=>∃ g,e=.returned (.agg (lk9 9 nm (.slice none 0 0) (.slice (some ⟨g,0,none⟩) 1 1)))∧w'.heap[g]?=some (.cells (nc9 1).toArray 31 (0,0))∧w.heap.size≤g∧Below w.heap.size w w':=by
 obtain ⟨x1,y1,z1,x2,y2,z2,x3,y3,z3,x4,y4,z4,hqs⟩:=hr.shape
 subst hqs
 clear hr
 unfold ecl
 simp only []
 rcases hk with rfl|rfl
 ·go_enter Tryz.func135, Tryz.ntmps135
  go_wp2_with fail
  refine bodyPost_ret (v:=.agg (lk9 9 nm (.slice none 0 0) (.slice (some ⟨w.heap.size + 1 + 1 + 1,0,none⟩) 1 1))) (by simp [results,Tryz.results135,go_sem,lk9]) rfl ⟨_,rfl,?_,by omega,below_al (below_al (below_al (below_al (Below.refl _ _))))⟩
  exact last_at (by simp [World.size_alloc])
 ·go_enter Tryz.func135, Tryz.ntmps135
  go_wp2_with fail
  refine bodyPost_ret (v:=.agg (lk9 9 nm (.slice none 0 0) (.slice (some ⟨w.heap.size + 1 + 1 + 1,0,none⟩) 1 1))) (by simp [results,Tryz.results135,go_sem,lk9]) rfl ⟨_,rfl,?_,by omega,below_al (below_al (below_al (below_al (Below.refl _ _))))⟩
  exact last_at (by simp [World.size_alloc])
set_option maxHeartbeats 2000000 in
set_option maxRecDepth 100000 in
theorem like_val (n:Nat) (nm:ByteArray) (nms:List ByteArray) (vn:Nat) (val:VT vn) (l:List (ET n)) (q:Sl) (w:World) (hr:RE (n + 1) w (⟨7,nm,nms,vn,val⟩,l) q) :
  Calls Tryz.prog 135 #[.agg (ecl ⟨7,nm,nms,vn,val⟩ q)] w fun e w'=>e=.returned (.agg (vals (vhd vn val) q.vs q.vl))∧Below w.heap.size w w':=by
 obtain ⟨x1,y1,z1,x2,y2,z2,x3,y3,z3,x4,y4,z4,hqs⟩:=hr.shape
 subst hqs
 clear hr
 unfold ecl
 simp only []
 go_enter Tryz.func135, Tryz.ntmps135
 go_wp2_with fail
 refine bodyPost_ret (v:=.agg (vals (vhd vn val) (.slice x3 y3 z3) (.slice x4 y4 z4))) (by simp [results,Tryz.results135,go_sem,vals]) rfl ⟨rfl,below_al (below_al (below_al (Below.refl _ _)))⟩
set_option maxHeartbeats 2000000 in
set_option maxRecDepth 100000 in
theorem like_null (k:Int) (hk:¬ k=2∧¬ k=5∧¬ k=3∧¬ k=6∧¬ k=7) (n:Nat) (nm:ByteArray) (nms:List ByteArray) (vn:Nat) (val:VT vn) (l:List (ET n)) (q:Sl) (w:World) (hr:RE (n + 1) w (⟨k,nm,nms,vn,val⟩,l) q) :
  Calls Tryz.prog 135 #[.agg (ecl ⟨k,nm,nms,vn,val⟩ q)] w fun e w'=>e=.returned (.agg (lk9 1 ⟨#[]⟩ (.slice none 0 0) (.slice none 0 0)))∧Below w.heap.size w w':=by
 obtain ⟨x1,y1,z1,x2,y2,z2,x3,y3,z3,x4,y4,z4,hqs⟩:=hr.shape
 subst hqs
 obtain ⟨h1,h2,h3,h4,h5⟩:=hk
 clear hr
 unfold ecl
 simp only []
 go_enter Tryz.func135, Tryz.ntmps135
 go_wp2_with fail
 refine bodyPost_ret (v:=.agg (lk9 1 ⟨#[]⟩ (.slice none 0 0) (.slice none 0 0))) (by simp [results,Tryz.results135,go_sem,lk9]) rfl ⟨rfl,below_al (below_al (below_al (Below.refl _ _)))⟩
end Lx
end Go.Proofs.YtgicnopppgnjjaaGreatDoor
