/- Merged by program: JqTally, JrTally, EgFeed, JsIndex. -/
import Derived.Test.YtdgehngffccjaaaGreatDoorZx16
namespace Go.Proofs.YtdgehngffccjaaaGreatDoor
open Go.RowKit
set_option linter.unusedSimpArgs false
set_option linter.unusedVariables false
set_option maxHeartbeats 8000000
theorem tnew_any (w:World):Calls Tryz.prog 58 #[] w fun r w'=>r=.returned (.pointer (some ⟨w.heap.size,0,none⟩))∧TyB w' w.heap.size 0 (.slice none 0 0)∧Below w.heap.size w w':=by
 go_enter Tryz.func58, Tryz.ntmps58
 go_wp2
 go_ret
 exact ⟨rfl,heap_alloc_new _ _,below_al (Below.refl _ _)⟩
theorem TyA.new {w:World} {t B:Nat} (h:TyB w t 0 (.slice none 0 0)) (h1:t<B) (h2:B≤w.heap.size):TyA w t B (.slice none 0 0) 0 [] :=
 ⟨h,World.ownsRow_nil _ _ _ _,h1,h2,by simp,by omega,fun p hp=>by simp at hp⟩
theorem count_any {W:World} {t B z:Nat} {v:Value} {ps:List Tp} (k:Int) (c:TyA W t B v z ps) (hr:rom z ps k=true):Calls Tryz.prog 165 #[.pointer (some ⟨t,0,none⟩),.int .i64 k] W fun r w'=>r=.returned (.tuple #[])∧TyP W t B v (cnt z ps k).1 (cnt z ps k).2 w':=by
 by_cases h10:k=10
 ·subst h10;exact count_10 c hr
 by_cases h7:k=7
 ·subst h7;exact count_7 c hr
 by_cases h8:k=8
 ·subst h8;exact count_8 c hr
 by_cases h9:k=9
 ·subst h9;exact count_9 c hr
 exact count_k k h10 h7 h8 h9 c hr
def takeT (z:Nat) (ps:List Tp) (h:Hd):Option (Nat×List Tp) :=
 if h.kind=11 then some (z,ps.dropLast) else if (h.text.size:Int)≤lng h.kind then (if rom z ps h.kind then some (cnt z ps h.kind) else none) else none
def TkP (W:World) (t B:Nat) (v:Value) (z:Nat) (ps:List Tp) (o:Option (Nat×List Tp)) (r:Ending) (w':World):Prop :=
 (r=.returned (.int .i64 (match o with|none=>2|some _=>0)))∧TyP W t B v (o.getD (z,ps)).1 (o.getD (z,ps)).2 w'
section
variable {W W1 : World} {t B z : Nat} {v : Value} {ps : List Tp}
theorem row_less2 {g cp n:Nat} {xs:List Value} {T:TypeId} (h:W.ownsRow B T 2 (.slice (some ⟨g,0,none⟩) (n + 1) cp) (n + 1) xs):W.ownsRow B T 2 (.slice (some ⟨g,0,none⟩) n cp) n (xs.take (n * 2)):=by
 obtain ⟨h0,h⟩:=h
 refine ⟨by rw [List.length_take];omega,?_⟩
 rcases h with ⟨e,_⟩|⟨g',cap,cur,e,h1,h2,h3,h4,h5,h6⟩
 ·cases e
 ·simp only [Value.slice.injEq,Option.some.injEq,Addr.mk.injEq] at e
  obtain ⟨⟨rfl,_,_⟩,_,rfl⟩:=e
  refine Or.inr ⟨g,cp,cur,rfl,h1,h2,by omega,h4,h5,?_⟩
  rw [←h6,List.take_take]
  congr 1;omega
theorem TyA.less {qs:List Tp} {p:Tp} {g cp:Nat} (c:TyA W t B (.slice (some ⟨g,0,none⟩) (qs.length + 1) cp) z (qs++[p])) :
  TyA (W.setCell ⟨t,1,none⟩ (.slice (some ⟨g,0,none⟩) qs.length cp)) t B (.slice (some ⟨g,0,none⟩) qs.length cp) z qs:=by
 have hr:=c.row
 rw [List.length_append,List.length_singleton] at hr
 have s4:=row_less2 hr
 rw [txs_app,List.take_append_of_le_length (by rw [txs_length];exact Nat.le_refl _),List.take_of_length_le (by rw [txs_length];exact Nat.le_refl _)] at s4
 have htB:=c.tB
 exact ⟨c.tb.set1 _,own_of s4 fun k hk _=>Below.heap_setCell _ _ _ _ (by have:=(World.ownsRow.lt s4 k hk).1;show k≠t;omega),htB,by simpa using c.hB,by have:=c.len;simp at this;omega,c.siz,fun q hq=>c.its q (List.mem_append.2 (Or.inl hq))⟩
theorem TyA.less0 {a:Option Addr} {cp:Nat} (c:TyA W t B (.slice a 0 cp) z []):TyA (W.setCell ⟨t,1,none⟩ (.slice a 0 cp)) t B (.slice a 0 cp) z [] :=
 ⟨c.tb.set1 _,own_of c.row fun k hk _=>Below.heap_setCell _ _ _ _ (by have:=(World.ownsRow.lt c.row k hk).1;have:=c.tB;show k≠t;omega),c.tB,by simpa using c.hB,c.len,c.siz,c.its⟩
theorem take_end (fl ng:Bool) (dg tx:ByteArray) (ex bt:Int) (c:TyA W t B v z ps):Calls Tryz.prog 142 #[.pointer (some ⟨t,0,none⟩),.agg #[.int .i64 11,.bool fl,.bool ng,.string dg,.int .i64 ex,.int .u64 bt,.string tx]] W fun r w'=>r=.returned (.int .i64 0)∧TyP W t B v z ps.dropLast w':=by
 have ml:maxLen=9223372036854775807:=rfl
 rcases List.eq_nil_or_concat ps with rfl|⟨qs,p,rfl⟩
 ·obtain ⟨a,cp,rfl⟩:=c.shape
  obtain ⟨c0,c1,f0,f1⟩:=c.tb.cells
  have C:=hide c
  have hlt:=c.tb.lt
  clear c
  simp only [List.length_nil] at c1
  go_enter Tryz.func142, Tryz.ntmps142
  go_wp2
  go_region_with (fail)
  all_goals
   go_wp2
   go_ret
   exact ⟨rfl,_,C.out.less0.then (by repeat (first|exact Below.refl _ _|refine Below.drew ?_|refine below_al ?_)),((TyF.refl.set ⟨t,1,none⟩ _ (Or.inl rfl) (Nat.le_refl _)).then (by repeat (first|exact Below.refl _ _|refine Below.drew ?_|refine below_al ?_)) (by simp;omega))⟩
 ·rw [List.concat_eq_append] at c ⊢
  obtain ⟨g,cp,rfl,q1,q2,q3,k0,k1,kf⟩:=c.last
  obtain ⟨c0,c1,f0,f1⟩:=c.tb.cells
  have hln:=c.len
  rw [List.length_append,List.length_singleton] at hln
  rw [List.dropLast_concat]
  have C:=hide c
  have hlt:=c.tb.lt
  have hv:IntKind.i64.wrap ((qs.length:Int) + 1 - 1)=(qs.length:Int):=by rw [IntKind.wrap_i64] <;> omega
  have hv2:IntKind.i64.wrap ((qs.length:Int))=(qs.length:Int):=by rw [IntKind.wrap_i64] <;> omega
  have hm1:decide ((qs.length:Int)<0)=false:=by simp
  have hm2:decide ((0:Int)<(qs.length:Int))=decide (0<qs.length):=by simp
  have hle:qs.length≤cp:=by omega
  clear c
  go_enter Tryz.func142, Tryz.ntmps142
  go_wp2
  go_region_with (fail)
  all_goals
   go_wp2
   go_ret
   exact ⟨rfl,_,C.out.less.then (by repeat (first|exact Below.refl _ _|refine Below.drew ?_|refine below_al ?_)),((TyF.refl.set ⟨t,1,none⟩ _ (Or.inl rfl) (Nat.le_refl _)).then (by repeat (first|exact Below.refl _ _|refine Below.drew ?_|refine below_al ?_)) (by simp;omega))⟩
end
section
variable {W W1 W2 : World} {t B z : Nat} {v : Value} {ps : List Tp}
theorem TyF.pre (h:Below W.heap.size W W1) (k:TyF t v W1 W2) (ht:t≤W.heap.size):TyF t v W W2 :=
 ⟨(h.mono ht).trans k.below,fun q h1 h2 h3=>(k.keep q (Nat.lt_of_lt_of_le h1 h.size) h2 h3).trans (h.block q h1)⟩
theorem dn_b (W:World) (m:Nat):Below W.heap.size W (W.drewN m):=⟨rfl,rfl,rfl,Nat.le_refl _,fun _ _=>rfl⟩
theorem take_oth (k:Int) (fl ng:Bool) (dg tx:ByteArray) (ex bt:Int) (n11:k≠11) (c:TyA W t B v z ps):Calls Tryz.prog 142 #[.pointer (some ⟨t,0,none⟩),.agg #[.int .i64 k,.bool fl,.bool ng,.string dg,.int .i64 ex,.int .u64 bt,.string tx]] W
  fun r w'=>TkP W t B v z ps (if (tx.size:Int)≤lng k then (if rom z ps k then some (cnt z ps k) else none) else none) r w':=by
 have ml:maxLen=9223372036854775807:=rfl
 have e11:(k==11)=false:=by simpa using n11
 obtain ⟨w0,hw0⟩:∃ w0,w0=W.alloc (.cells #[.int .i64 k,.bool fl,.bool ng,.string dg,.int .i64 ex,.int .u64 bt,.string tx] 74):=⟨_,rfl⟩
 have hb0:Below W.heap.size W w0:=by rw [hw0];exact below_al (Below.refl _ _)
 have LG:=hide (fun m=>longest_any k (w0.drewN m))
 have HR:=hide (fun m=>hasRoom_any ((c.then hb0).then (dn_b w0 m)) k)
 have CT:=hide (fun (hr:rom z ps k=true) m=>count_any k ((c.then hb0).then (dn_b w0 m)) hr)
 have C0:=hide (fun m=>(c.then hb0).then (dn_b w0 m))
 have hlt:=c.tb.lt
 have hb1:=hide hb0
 rw [hw0] at LG HR CT C0 hb1
 clear hb0 hw0 c
 have F0:=hide (fun m=>TyF.refl (t:=t) (v:=v) |>.then (hb1.out.trans ((dn_b _ m).mono (by have:=hb1.out.size;exact this))) (Nat.le_of_lt hlt))
 by_cases h1:(tx.size:Int)≤lng k
 ·rw [if_pos h1]
  have d1:decide (lng k<(tx.size:Int))=false:=by simp;omega
  cases hr:rom z ps k
  ·rw [hr] at HR
   clear CT
   simp only [Bool.false_eq_true,if_false]
   go_enter Tryz.func142, Tryz.ntmps142
   go_wp2
   go_quiet (first|(go_at_call 163;exact Calls.quiet_of_same (LG.out _))|(go_at_call 164;exact Calls.quiet_of (HR.out _)))
   go_wp2
   go_ret
   exact ⟨rfl,_,C0.out _,F0.out _⟩
  ·rw [hr] at HR
   simp only [if_true]
   have CT2:=hide (CT.out hr)
   clear CT
   go_enter Tryz.func142, Tryz.ntmps142
   go_wp2
   go_quiet (first|(go_at_call 163;exact Calls.quiet_of_same (LG.out _))|(go_at_call 164;exact Calls.quiet_of (HR.out _)))
   go_wp2_with (go_at_call 165;refine (CT2.out _).mono ?_;rintro e w1 ⟨rfl,hp⟩;have P1:=hide hp;clear hp)
   go_ret
   obtain ⟨v',p1,p2⟩:=P1.out
   exact ⟨rfl,v',p1,TyF.pre (hb1.out.trans ((dn_b _ _).mono hb1.out.size)) p2 (Nat.le_of_lt hlt)⟩
 ·rw [if_neg h1]
  have d1:decide (lng k<(tx.size:Int))=true:=by simp;omega
  clear CT HR
  go_enter Tryz.func142, Tryz.ntmps142
  go_wp2
  go_quiet (first|(go_at_call 163;exact Calls.quiet_of_same (LG.out _)))
  go_wp2
  go_ret
  exact ⟨rfl,_,C0.out _,F0.out _⟩
theorem taken (h:Hd) (c:TyA W t B v z ps):Calls Tryz.prog 142 #[.pointer (some ⟨t,0,none⟩),.agg (evs h)] W fun r w'=>TkP W t B v z ps (takeT z ps h) r w':=by
 obtain ⟨kd,fl,ng,dg,ex,bt,tx,nm⟩:=h
 unfold takeT evs
 by_cases h11:kd=11
 ·subst h11
  refine (take_end fl ng dg tx ex bt c).mono ?_
  rintro e w' ⟨rfl,p⟩
  exact ⟨rfl,p⟩
 ·simp only [h11,if_false]
  exact take_oth kd fl ng dg tx ex bt h11 c
end
theorem take_any {W:World} {i B n:Nat} {st:List Pa} {bg:Bool} (h:Hd) (hz:EvZ h) (c:CkA W i B n st bg) (hi:i<W.heap.size) (hn:n≤200000):Calls Tryz.prog 60 #[.pointer (some ⟨i,0,none⟩),.agg (evs h)] W fun r w'=>TakeP W i B n (stepE st bg h) r w':=by
 by_cases h10:h.kind=10
 ·exact take_10 h hz h10 c hi hn
 ·by_cases h11:h.kind=11
  ·exact take_11 h h11 c hi
  ·exact take_v h h10 h11 c hi hn
def CkS (W:World) (i B n:Nat):Option (List Pa×Bool)→Prop
 | none=>Ck W i B (.slice none 0 0) [] false true
 | some x=>CkA W i B n x.1 x.2
theorem CkS.then {W W1:World} {i B n:Nat} {s:Option (List Pa×Bool)} (h:CkS W i B n s) (hb:Below W.heap.size W W1):CkS W1 i B n s:=by
 cases s with
 | none=>exact Ck.then h hb
 | some x=>exact CkA.then h hb
def feedE (s:Option (List Pa×Bool)) (q:Bool) (h:Hd):Option (List Pa×Bool):=if q then s.bind fun x=>stepE x.1 x.2 h else none
theorem brk {W:World} {i B:Nat} {v:Value} {b1 b2:Bool} (k:KB W i v b1 b2) (h1:i<B) (h2:B≤W.heap.size):Ck (((W.setCell ⟨i,0,none⟩ (.slice none 0 0)).setCell ⟨i,1,none⟩ (.bool false)).setCell ⟨i,2,none⟩ (.bool true)) i B (.slice none 0 0) [] false true :=
 Ck.new (((k.set0 _).set1 _).set2 _) h1 (by simpa using h2)
set_option maxRecDepth 100000 in
theorem cfeed_k {W:World} {i B n:Nat} (s:Option (List Pa×Bool)) (h:Hd) (hz:EvZ h) (c:CkS W i B n s) (hi:i<W.heap.size) (hiB:i<B) (hB:B≤W.heap.size) (hn:n≤200000) (g:Ut.Gu W) (q:Bool) (hq:q=true↔May h) :
  Calls Tryz.prog 34 #[.pointer (some ⟨i,0,none⟩),.agg (evs h)] W fun r w'=>r=.returned (.int .i64 (if (feedE s q h).isSome then 0 else 50))∧CkS w' i B (n + 1) (feedE s q h)∧BK i W w':=by
 have hB0:Hid (∀ o,Below W.heap.size W (W.alloc o)):=fun o=>below_al (Below.refl _ _)
 have E0:=hide (EB.new W h)
 have mb:=hide (fun o=>mayBe_any h hz (W.alloc o) (g.below (below_al (Below.refl _ _))) q hq)
 cases s with
 | none =>
  have c':Ck W i B (.slice none 0 0) [] false true:=c
  obtain ⟨h0,h1,h2,h3,h4,h5⟩:=c'.kb.cells
  have hk:=hide c'.kb
  have hf:feedE none q h=none:=by unfold feedE;cases q <;> rfl
  rw [hf]
  clear c c' hf hq g
  obtain ⟨kd,fl,ng,dg,ex,bt,tx,nm⟩:=h
  simp only [evs]
  go_enter Tryz.func34, Tryz.ntmps34
  go_wp2
  go_ret
  have t1:Ty W i:=hk.out.ty
  refine ⟨rfl,Ck.then (brk hk.out hiB hB) (below_al (Below.refl _ _)),?_⟩
  refine BK.al ?_ (by simp;omega)
  exact (((BK.refl i W).set (p:=⟨i,0,none⟩) (Nat.le_refl i) t1 _).set (p:=⟨i,1,none⟩) (Nat.le_refl i) (t1.set _ _) _).set (p:=⟨i,2,none⟩) (Nat.le_refl i) ((t1.set _ _).set _ _) _
 | some x =>
  obtain ⟨st,bg⟩:=x
  have c':CkA W i B n st bg:=c
  have hkb:∃ v,KB W i v bg false:=by obtain ⟨v,ps,k,_⟩:=c';exact ⟨v,k.kb⟩
  obtain ⟨v0,hk0⟩:=hkb
  obtain ⟨h0,h1,h2,h3,h4,h5⟩:=hk0.cells
  cases q
  ·have hf:feedE (some (st,bg)) false h=none:=rfl
   rw [hf]
   have hk:=hide hk0
   clear c c' hf hq g hk0
   obtain ⟨kd,fl,ng,dg,ex,bt,tx,nm⟩:=h
   simp only [evs] at mb ⊢
   go_enter Tryz.func34, Tryz.ntmps34
   go_wp2_with (go_at_call 59;refine (mb.out _).mono ?_;rintro e w1 ⟨rfl,hb1⟩;have B1:=hide (below_then (hB0.out _) hb1);have K1:=hide (hk.out.same (B1.out.block i hi));clear hb1;obtain ⟨j0,j1,j2,l0,l1,l2⟩:=K1.out.cells)
   go_ret
   refine ⟨rfl,brk K1.out hiB (Nat.le_trans hB B1.out.size),?_⟩
   have t1:Ty w1 i:=K1.out.ty
   exact (((BK.of B1.out (Nat.le_of_lt hi)).set (p:=⟨i,0,none⟩) (Nat.le_refl i) t1 _).set (p:=⟨i,1,none⟩) (Nat.le_refl i) (t1.set _ _) _).set (p:=⟨i,2,none⟩) (Nat.le_refl i) ((t1.set _ _).set _ _) _
  ·have hf:feedE (some (st,bg)) true h=stepE st bg h:=rfl
   rw [hf]
   have tk:=hide (fun W1 (hb:Below W.heap.size W W1)=>take_any h hz (c'.then hb) (Nat.lt_of_lt_of_le hi hb.size) hn)
   have hk:=hide hk0
   clear c c' hf hq g hk0
   obtain ⟨o,ho⟩:∃ o,stepE st bg h=o:=⟨_,rfl⟩
   rw [ho] at tk ⊢
   clear ho
   obtain ⟨kd,fl,ng,dg,ex,bt,tx,nm⟩:=h
   have E0':=E0
   simp only [evs] at mb tk ⊢
   cases o with
   | none =>
    go_enter Tryz.func34, Tryz.ntmps34
    go_wp2_with (first
     | (go_at_call 59;refine (mb.out _).mono ?_;rintro e w1 ⟨rfl,hb1⟩;have B1:=hide (below_then (hB0.out _) hb1);have E1:=hide (E0.out.below hb1);clear hb1;obtain ⟨d0,d1,d2,d3,d4,d5,d6⟩:=E1.out.cells;simp only at d0 d1 d2 d3 d4 d5 d6)
     | (go_at_call 60;refine (tk.out _ B1.out).mono ?_;rintro e w2 ⟨he,hb2,⟨v2,b2,hk2⟩,_⟩;subst he;have B2:=hide hb2;have K2:=hide hk2;clear hb2 hk2;obtain ⟨j0,j1,j2,l0,l1,l2⟩:=K2.out.cells))
    go_ret
    refine ⟨rfl,brk K2.out hiB (Nat.le_trans hB (Nat.le_trans B1.out.size B2.out.below.size)),?_⟩
    have t1:Ty w2 i:=K2.out.ty
    exact ((((BK.of B1.out (Nat.le_of_lt hi)).trans B2.out).set (p:=⟨i,0,none⟩) (Nat.le_refl i) t1 _).set (p:=⟨i,1,none⟩) (Nat.le_refl i) (t1.set _ _) _).set (p:=⟨i,2,none⟩) (Nat.le_refl i) ((t1.set _ _).set _ _) _
   | some x =>
    go_enter Tryz.func34, Tryz.ntmps34
    go_wp2_with (first
     | (go_at_call 59;refine (mb.out _).mono ?_;rintro e w1 ⟨rfl,hb1⟩;have B1:=hide (below_then (hB0.out _) hb1);have E1:=hide (E0.out.below hb1);clear hb1;obtain ⟨d0,d1,d2,d3,d4,d5,d6⟩:=E1.out.cells;simp only at d0 d1 d2 d3 d4 d5 d6)
     | (go_at_call 60;refine (tk.out _ B1.out).mono ?_;rintro e w2 ⟨he,hb2,_,hc2⟩;subst he;have B2:=hide hb2;have C2:=hide (hc2 x rfl);clear hb2 hc2))
    go_ret
    exact ⟨rfl,C2.out,(BK.of B1.out (Nat.le_of_lt hi)).trans B2.out⟩
theorem cfeed_any {W:World} {i B n:Nat} (s:Option (List Pa×Bool)) (h:Hd) (hz:EvZ h) (c:CkS W i B n s) (hi:i<W.heap.size) (hiB:i<B) (hB:B≤W.heap.size) (hn:n≤200000) (g:Ut.Gu W) (q:Bool) (hq:q=true↔May h) :
  Calls Tryz.prog 34 #[.pointer (some ⟨i,0,none⟩),.agg (evs h)] W fun r w'=>r=.returned (.int .i64 (if (feedE s q h).isSome then 0 else 50))∧CkS w' i B (n + 1) (feedE s q h)∧Below i W w':=by
 refine (cfeed_k s h hz c hi hiB hB hn g q hq).mono ?_
 rintro r w' ⟨h1,h2,h3⟩
 exact ⟨h1,h2,h3.below⟩
theorem run_ibs (s:ByteArray) (c:Int) (w:World):(callFunc 111 #[.string s,.int .u8 c]).run Tryz.prog w=.ok (.value (.int .i64 (firstIdx s c.toNat.toUInt8))) w:=by
 rw [run_callFunc_indexByte Tryz.func111 (by kernel_rfl) (by kernel_rfl) (by kernel_rfl) (by kernel_rfl),run_indexByte_string]
 rfl
theorem slib_any (s:ByteArray) (c:Int) (w:World):Calls Tryz.prog 79 #[.string s,.int .u8 c] w fun r w'=>r=.returned (.int .i64 (firstIdx s c.toNat.toUInt8))∧w'=w:=by
 go_enter Tryz.func79, Tryz.ntmps79
 go_wp2_with (first|rw [run_ibs])
 go_ret
 exact ⟨rfl,rfl⟩
theorem sib_any (s:ByteArray) (c:Int) (w:World):Calls Tryz.prog 46 #[.string s,.int .u8 c] w fun r w'=>r=.returned (.int .i64 (firstIdx s c.toNat.toUInt8))∧w'=w:=by
 have h:=hide (slib_any s c w)
 go_enter Tryz.func46, Tryz.ntmps46
 go_wp2_with (go_at_call 79;refine h.out.mono ?_;rintro e w1 ⟨rfl,hw1⟩;have hw1s:=hw1.symm;clear hw1;subst hw1s)
 go_ret
 exact ⟨rfl,rfl⟩
end Go.Proofs.YtdgehngffccjaaaGreatDoor
