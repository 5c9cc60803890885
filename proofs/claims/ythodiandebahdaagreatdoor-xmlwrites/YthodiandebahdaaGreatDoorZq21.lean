/- Merged by program: JqTally, JrTally, EgFeed, JsIndex, XgUnl, XdRsh, XhForm. -/
import Derived.Test.YthodiandebahdaaGreatDoorZq20
import Derived.Test.YthodiandebahdaaGreatDoorZq10
import Derived.Test.YthodiandebahdaaGreatDoorZq11
namespace Go.Proofs.YthodiandebahdaaGreatDoor
open Go.RowKit
set_option linter.unusedSimpArgs false
set_option linter.unusedVariables false
set_option maxHeartbeats 8000000
theorem tnew_any (w:World):Calls Tryz.prog 55 #[] w fun r w'=>r=.returned (.pointer (some ⟨w.heap.size,0,none⟩))∧TyB w' w.heap.size 0 (.slice none 0 0)∧Below w.heap.size w w':=by
 go_enter Tryz.func55, Tryz.ntmps55
 go_wp2
 go_ret
 exact ⟨rfl,heap_alloc_new _ _,below_al (Below.refl _ _)⟩
theorem TyA.new {w:World} {t B:Nat} (h:TyB w t 0 (.slice none 0 0))(h1:t<B)(h2:B≤w.heap.size):TyA w t B (.slice none 0 0) 0 [] :=
 ⟨h,World.ownsRow_nil _ _ _ _,h1,h2,by simp,by omega,fun p hp=>by simp at hp⟩
theorem count_any {W:World} {t B z:Nat} {v:Value} {ps:List Tp} (k:Int)(c:TyA W t B v z ps)(hr:rom z ps k=true):Calls Tryz.prog 174 #[.pointer (some ⟨t,0,none⟩),.int .i64 k] W fun r w'=>r=.returned (.tuple #[])∧TyP W t B v (cnt z ps k).1 (cnt z ps k).2 w':=by
 by_cases h10:k=10
 ·subst h10;exact count_10 c hr
 by_cases h7:k=7
 ·subst h7;exact count_7 c hr
 by_cases h8:k=8
 ·subst h8;exact count_8 c hr
 by_cases h9:k=9
 ·subst h9;exact count_9 c hr
 exact count_k k h10 h7 h8 h9 c hr
def takeT (z:Nat)(ps:List Tp)(h:Hd):Option (Nat×List Tp) :=
 if h.kind=11 then some (z,ps.dropLast) else if (h.text.size:Int)≤lng h.kind then (if rom z ps h.kind then some (cnt z ps h.kind) else none) else none
def TkP (W:World)(t B:Nat)(v:Value)(z:Nat)(ps:List Tp)(o:Option (Nat×List Tp))(r:Ending)(w':World):Prop :=
 (r=.returned (.int .i64 (match o with|none=>2|some _=>0)))∧TyP W t B v (o.getD (z,ps)).1 (o.getD (z,ps)).2 w'
section
variable {W W1 : World} {t B z : Nat} {v : Value} {ps : List Tp}
theorem row_less2 {g cp n:Nat} {xs:List Value} {T:TypeId} (h:W.ownsRow B T 2 (.slice (some ⟨g,0,none⟩) (n+1) cp) (n+1) xs):W.ownsRow B T 2 (.slice (some ⟨g,0,none⟩) n cp) n (xs.take (n * 2)):=by
 obtain ⟨h0,h⟩:=h
 refine ⟨by rw [List.length_take];omega,?_⟩
 rcases h with ⟨e,_⟩|⟨g',cap,cur,e,h1,h2,h3,h4,h5,h6⟩
 ·cases e
 ·simp only [Value.slice.injEq,Option.some.injEq,Addr.mk.injEq] at e
  obtain ⟨⟨rfl,_,_⟩,_,rfl⟩:=e
  refine Or.inr ⟨g,cp,cur,rfl,h1,h2,by omega,h4,h5,?_⟩
  rw [←h6,List.take_take]
  congr 1;omega
theorem TyA.less {qs:List Tp} {p:Tp} {g cp:Nat} (c:TyA W t B (.slice (some ⟨g,0,none⟩) (qs.length+1) cp) z (qs++[p])) :
  TyA (W.setCell ⟨t,1,none⟩ (.slice (some ⟨g,0,none⟩) qs.length cp)) t B (.slice (some ⟨g,0,none⟩) qs.length cp) z qs:=by
 have hr:=c.row
 rw [List.length_append,List.length_singleton] at hr
 have s4:=row_less2 hr
 rw [txs_app,List.take_append_of_le_length (by rw [txs_length];exact Nat.le_refl _),List.take_of_length_le (by rw [txs_length];exact Nat.le_refl _)] at s4
 have htB:=c.tB
 exact ⟨c.tb.set1 _,own_of s4 fun k hk _=>Below.heap_setCell _ _ _ _ (by have:=(World.ownsRow.lt s4 k hk).1;show k≠t;omega),htB,by simpa using c.hB,by have:=c.len;simp at this;omega,c.siz,fun q hq=>c.its q (List.mem_append.2 (Or.inl hq))⟩
theorem TyA.less0 {a:Option Addr} {cp:Nat} (c:TyA W t B (.slice a 0 cp) z []):TyA (W.setCell ⟨t,1,none⟩ (.slice a 0 cp)) t B (.slice a 0 cp) z [] :=
 ⟨c.tb.set1 _,own_of c.row fun k hk _=>Below.heap_setCell _ _ _ _ (by have:=(World.ownsRow.lt c.row k hk).1;have:=c.tB;show k≠t;omega),c.tB,by simpa using c.hB,c.len,c.siz,c.its⟩
theorem take_end (fl ng:Bool)(dg tx:ByteArray)(ex bt:Int)(c:TyA W t B v z ps):Calls Tryz.prog 148 #[.pointer (some ⟨t,0,none⟩),.agg #[.int .i64 11,.bool fl,.bool ng,.string dg,.int .i64 ex,.int .u64 bt,.string tx]] W fun r w'=>r=.returned (.int .i64 0)∧TyP W t B v z ps.dropLast w':=by
 have ml:maxLen=9223372036854775807:=rfl
 rcases List.eq_nil_or_concat ps with rfl|⟨qs,p,rfl⟩
 ·obtain ⟨a,cp,rfl⟩:=c.shape
  obtain ⟨c0,c1,f0,f1⟩:=c.tb.cells
  have C:=hide c
  have hlt:=c.tb.lt
  clear c
  simp only [List.length_nil] at c1
  go_enter Tryz.func148, Tryz.ntmps148
  go_wp2
  go_region_with (fail)
  all_goals
   go_wp2
   go_ret
   exact ⟨rfl,_,C.out.less0.then (by repeat (first|exact Below.refl _ _|refine Below.drew ?_|refine below_al ?_)),((TyF.refl.set ⟨t,1,none⟩ _ (Or.inl rfl) (Nat.le_refl _)).then (by repeat (first|exact Below.refl _ _|refine Below.drew ?_|refine below_al ?_)) (by simp;omega))⟩
 ·rw [List.concat_eq_append] at c ⊢
  obtain ⟨g,cp,rfl,q1,q2,q3,k0,k1,kf⟩:=c.last
  obtain ⟨c0,c1,f0,f1⟩:=c.tb.cells
  have hln:=c.len
  rw [List.length_append,List.length_singleton] at hln
  rw [List.dropLast_concat]
  have C:=hide c
  have hlt:=c.tb.lt
  have hv:IntKind.i64.wrap ((qs.length:Int)+1 - 1)=(qs.length:Int):=by rw [IntKind.wrap_i64] <;> omega
  have hv2:IntKind.i64.wrap ((qs.length:Int))=(qs.length:Int):=by rw [IntKind.wrap_i64] <;> omega
  have hm1:decide ((qs.length:Int)<0)=false:=by simp
  have hm2:decide ((0:Int)<(qs.length:Int))=decide (0<qs.length):=by simp
  have hle:qs.length≤cp:=by omega
  clear c
  go_enter Tryz.func148, Tryz.ntmps148
  go_wp2
  go_region_with (fail)
  all_goals
   go_wp2
   go_ret
   exact ⟨rfl,_,C.out.less.then (by repeat (first|exact Below.refl _ _|refine Below.drew ?_|refine below_al ?_)),((TyF.refl.set ⟨t,1,none⟩ _ (Or.inl rfl) (Nat.le_refl _)).then (by repeat (first|exact Below.refl _ _|refine Below.drew ?_|refine below_al ?_)) (by simp;omega))⟩
end
section
variable {W W1 W2 : World} {t B z : Nat} {v : Value} {ps : List Tp}
theorem TyF.pre (h:Below W.heap.size W W1)(k:TyF t v W1 W2)(ht:t≤W.heap.size):TyF t v W W2 :=
 ⟨(h.mono ht).trans k.below,fun q h1 h2 h3=>(k.keep q (Nat.lt_of_lt_of_le h1 h.size) h2 h3).trans (h.block q h1)⟩
theorem dn_b (W:World)(m:Nat):Below W.heap.size W (W.drewN m):=⟨rfl,rfl,rfl,Nat.le_refl _,fun _ _=>rfl⟩
theorem take_oth (k:Int)(fl ng:Bool)(dg tx:ByteArray)(ex bt:Int)(n11:k≠11)(c:TyA W t B v z ps):Calls Tryz.prog 148 #[.pointer (some ⟨t,0,none⟩),.agg #[.int .i64 k,.bool fl,.bool ng,.string dg,.int .i64 ex,.int .u64 bt,.string tx]] W
  fun r w'=>TkP W t B v z ps (if (tx.size:Int)≤lng k then (if rom z ps k then some (cnt z ps k) else none) else none) r w':=by
 have ml:maxLen=9223372036854775807:=rfl
 have e11:(k==11)=false:=by simpa using n11
 obtain ⟨w0,hw0⟩:∃ w0,w0=W.alloc (.cells #[.int .i64 k,.bool fl,.bool ng,.string dg,.int .i64 ex,.int .u64 bt,.string tx] 76):=⟨_,rfl⟩
 have hb0:Below W.heap.size W w0:=by rw [hw0];exact below_al (Below.refl _ _)
 have LG:=hide (fun m=>longest_any k (w0.drewN m))
 have HR:=hide (fun m=>hasRoom_any ((c.then hb0).then (dn_b w0 m)) k)
 have CT:=hide (fun (hr:rom z ps k=true) m=>count_any k ((c.then hb0).then (dn_b w0 m)) hr)
 have C0:=hide (fun m=>(c.then hb0).then (dn_b w0 m))
 have hlt:=c.tb.lt
 have hb1:=hide hb0
 rw [hw0] at LG HR CT C0 hb1
 clear hb0 hw0 c
 have F0:=hide (fun m=>TyF.refl (t:=t) (v:=v) |>.then (hb1.out.trans ((dn_b _ m).mono (by have:=hb1.out.size;exact this))) (Nat.le_of_lt hlt))
 by_cases h1:(tx.size:Int)≤lng k
 ·rw [if_pos h1]
  have d1:decide (lng k<(tx.size:Int))=false:=by simp;omega
  cases hr:rom z ps k
  ·rw [hr] at HR
   clear CT
   simp only [Bool.false_eq_true,if_false]
   go_enter Tryz.func148, Tryz.ntmps148
   go_wp2
   go_quiet (first|(go_at_call 172;exact Calls.quiet_of_same (LG.out _))|(go_at_call 173;exact Calls.quiet_of (HR.out _)))
   go_wp2
   go_ret
   exact ⟨rfl,_,C0.out _,F0.out _⟩
  ·rw [hr] at HR
   simp only [if_true]
   have CT2:=hide (CT.out hr)
   clear CT
   go_enter Tryz.func148, Tryz.ntmps148
   go_wp2
   go_quiet (first|(go_at_call 172;exact Calls.quiet_of_same (LG.out _))|(go_at_call 173;exact Calls.quiet_of (HR.out _)))
   go_wp2_with (go_at_call 174;refine (CT2.out _).mono ?_;rintro e w1 ⟨rfl,hp⟩;have P1:=hide hp;clear hp)
   go_ret
   obtain ⟨v',p1,p2⟩:=P1.out
   exact ⟨rfl,v',p1,TyF.pre (hb1.out.trans ((dn_b _ _).mono hb1.out.size)) p2 (Nat.le_of_lt hlt)⟩
 ·rw [if_neg h1]
  have d1:decide (lng k<(tx.size:Int))=true:=by simp;omega
  clear CT HR
  go_enter Tryz.func148, Tryz.ntmps148
  go_wp2
  go_quiet (first|(go_at_call 172;exact Calls.quiet_of_same (LG.out _)))
  go_wp2
  go_ret
  exact ⟨rfl,_,C0.out _,F0.out _⟩
theorem taken (h:Hd)(c:TyA W t B v z ps):Calls Tryz.prog 148 #[.pointer (some ⟨t,0,none⟩),.agg (evs h)] W fun r w'=>TkP W t B v z ps (takeT z ps h) r w':=by
 obtain ⟨kd,fl,ng,dg,ex,bt,tx,nm⟩:=h
 unfold takeT evs
 by_cases h11:kd=11
 ·subst h11
  refine (take_end fl ng dg tx ex bt c).mono ?_
  rintro e w' ⟨rfl,p⟩
  exact ⟨rfl,p⟩
 ·simp only [h11,if_false]
  exact take_oth kd fl ng dg tx ex bt h11 c
end
theorem take_any {W:World} {i B n:Nat} {st:List Pa} {bg:Bool} (h:Hd)(hz:EvZ h)(c:CkA W i B n st bg)(hi:i<W.heap.size)(hn:n≤200000):Calls Tryz.prog 65 #[.pointer (some ⟨i,0,none⟩),.agg (evs h)] W fun r w'=>TakeP W i B n (stepE st bg h) r w':=by
 by_cases h10:h.kind=10
 ·exact take_10 h hz h10 c hi hn
 ·by_cases h11:h.kind=11
  ·exact take_11 h h11 c hi
  ·exact take_v h h10 h11 c hi hn
def CkS (W:World)(i B n:Nat):Option (List Pa×Bool)→Prop
 | none=>Ck W i B (.slice none 0 0) [] false true
 | some x=>CkA W i B n x.1 x.2
theorem CkS.then {W W1:World} {i B n:Nat} {s:Option (List Pa×Bool)} (h:CkS W i B n s)(hb:Below W.heap.size W W1):CkS W1 i B n s:=by
 cases s with
 | none=>exact Ck.then h hb
 | some x=>exact CkA.then h hb
def feedE (s:Option (List Pa×Bool))(q:Bool)(h:Hd):Option (List Pa×Bool):=if q then s.bind fun x=>stepE x.1 x.2 h else none
theorem brk {W:World} {i B:Nat} {v:Value} {b1 b2:Bool} (k:KB W i v b1 b2)(h1:i<B)(h2:B≤W.heap.size):Ck (((W.setCell ⟨i,0,none⟩ (.slice none 0 0)).setCell ⟨i,1,none⟩ (.bool false)).setCell ⟨i,2,none⟩ (.bool true)) i B (.slice none 0 0) [] false true :=
 Ck.new (((k.set0 _).set1 _).set2 _) h1 (by simpa using h2)
set_option maxRecDepth 100000 in
theorem cfeed_k {W:World} {i B n:Nat} (s:Option (List Pa×Bool))(h:Hd)(hz:EvZ h)(c:CkS W i B n s)(hi:i<W.heap.size)(hiB:i<B)(hB:B≤W.heap.size)(hn:n≤200000)(g:Ut.Gu W)(q:Bool)(hq:q=true↔May h) :
  Calls Tryz.prog 35 #[.pointer (some ⟨i,0,none⟩),.agg (evs h)] W fun r w'=>r=.returned (.int .i64 (if (feedE s q h).isSome then 0 else 50))∧CkS w' i B (n+1) (feedE s q h)∧BK i W w':=by
 have hB0:Hid (∀ o,Below W.heap.size W (W.alloc o)):=fun o=>below_al (Below.refl _ _)
 have E0:=hide (EB.new W h)
 have mb:=hide (fun o=>mayBe_any h hz (W.alloc o) (g.below (below_al (Below.refl _ _))) q hq)
 cases s with
 | none =>
  have c':Ck W i B (.slice none 0 0) [] false true:=c
  obtain ⟨h0,h1,h2,h3,h4,h5⟩:=c'.kb.cells
  have hk:=hide c'.kb
  have hf:feedE none q h=none:=by unfold feedE;cases q <;> rfl
  rw [hf]
  clear c c' hf hq g
  obtain ⟨kd,fl,ng,dg,ex,bt,tx,nm⟩:=h
  simp only [evs]
  go_enter Tryz.func35, Tryz.ntmps35
  go_wp2
  go_ret
  have t1:Ty W i:=hk.out.ty
  refine ⟨rfl,Ck.then (brk hk.out hiB hB) (below_al (Below.refl _ _)),?_⟩
  refine BK.al ?_ (by simp;omega)
  exact (((BK.refl i W).set (p:=⟨i,0,none⟩) (Nat.le_refl i) t1 _).set (p:=⟨i,1,none⟩) (Nat.le_refl i) (t1.set _ _) _).set (p:=⟨i,2,none⟩) (Nat.le_refl i) ((t1.set _ _).set _ _) _
 | some x =>
  obtain ⟨st,bg⟩:=x
  have c':CkA W i B n st bg:=c
  have hkb:∃ v,KB W i v bg false:=by obtain ⟨v,ps,k,_⟩:=c';exact ⟨v,k.kb⟩
  obtain ⟨v0,hk0⟩:=hkb
  obtain ⟨h0,h1,h2,h3,h4,h5⟩:=hk0.cells
  cases q
  ·have hf:feedE (some (st,bg)) false h=none:=rfl
   rw [hf]
   have hk:=hide hk0
   clear c c' hf hq g hk0
   obtain ⟨kd,fl,ng,dg,ex,bt,tx,nm⟩:=h
   simp only [evs] at mb ⊢
   go_enter Tryz.func35, Tryz.ntmps35
   go_wp2_with (go_at_call 64;refine (mb.out _).mono ?_;rintro e w1 ⟨rfl,hb1⟩;have B1:=hide (below_then (hB0.out _) hb1);have K1:=hide (hk.out.same (B1.out.block i hi));clear hb1;obtain ⟨j0,j1,j2,l0,l1,l2⟩:=K1.out.cells)
   go_ret
   refine ⟨rfl,brk K1.out hiB (Nat.le_trans hB B1.out.size),?_⟩
   have t1:Ty w1 i:=K1.out.ty
   exact (((BK.of B1.out (Nat.le_of_lt hi)).set (p:=⟨i,0,none⟩) (Nat.le_refl i) t1 _).set (p:=⟨i,1,none⟩) (Nat.le_refl i) (t1.set _ _) _).set (p:=⟨i,2,none⟩) (Nat.le_refl i) ((t1.set _ _).set _ _) _
  ·have hf:feedE (some (st,bg)) true h=stepE st bg h:=rfl
   rw [hf]
   have tk:=hide (fun W1 (hb:Below W.heap.size W W1)=>take_any h hz (c'.then hb) (Nat.lt_of_lt_of_le hi hb.size) hn)
   have hk:=hide hk0
   clear c c' hf hq g hk0
   obtain ⟨o,ho⟩:∃ o,stepE st bg h=o:=⟨_,rfl⟩
   rw [ho] at tk ⊢
   clear ho
   obtain ⟨kd,fl,ng,dg,ex,bt,tx,nm⟩:=h
   have E0':=E0
   simp only [evs] at mb tk ⊢
   cases o with
   | none =>
    go_enter Tryz.func35, Tryz.ntmps35
    go_wp2_with (first
     | (go_at_call 64;refine (mb.out _).mono ?_;rintro e w1 ⟨rfl,hb1⟩;have B1:=hide (below_then (hB0.out _) hb1);have E1:=hide (E0.out.below hb1);clear hb1;obtain ⟨d0,d1,d2,d3,d4,d5,d6⟩:=E1.out.cells;simp only at d0 d1 d2 d3 d4 d5 d6)
     | (go_at_call 65;refine (tk.out _ B1.out).mono ?_;rintro e w2 ⟨he,hb2,⟨v2,b2,hk2⟩,_⟩;subst he;have B2:=hide hb2;have K2:=hide hk2;clear hb2 hk2;obtain ⟨j0,j1,j2,l0,l1,l2⟩:=K2.out.cells))
    go_ret
    refine ⟨rfl,brk K2.out hiB (Nat.le_trans hB (Nat.le_trans B1.out.size B2.out.below.size)),?_⟩
    have t1:Ty w2 i:=K2.out.ty
    exact ((((BK.of B1.out (Nat.le_of_lt hi)).trans B2.out).set (p:=⟨i,0,none⟩) (Nat.le_refl i) t1 _).set (p:=⟨i,1,none⟩) (Nat.le_refl i) (t1.set _ _) _).set (p:=⟨i,2,none⟩) (Nat.le_refl i) ((t1.set _ _).set _ _) _
   | some x =>
    go_enter Tryz.func35, Tryz.ntmps35
    go_wp2_with (first
     | (go_at_call 64;refine (mb.out _).mono ?_;rintro e w1 ⟨rfl,hb1⟩;have B1:=hide (below_then (hB0.out _) hb1);have E1:=hide (E0.out.below hb1);clear hb1;obtain ⟨d0,d1,d2,d3,d4,d5,d6⟩:=E1.out.cells;simp only at d0 d1 d2 d3 d4 d5 d6)
     | (go_at_call 65;refine (tk.out _ B1.out).mono ?_;rintro e w2 ⟨he,hb2,_,hc2⟩;subst he;have B2:=hide hb2;have C2:=hide (hc2 x rfl);clear hb2 hc2))
    go_ret
    exact ⟨rfl,C2.out,(BK.of B1.out (Nat.le_of_lt hi)).trans B2.out⟩
theorem cfeed_any {W:World} {i B n:Nat} (s:Option (List Pa×Bool))(h:Hd)(hz:EvZ h)(c:CkS W i B n s)(hi:i<W.heap.size)(hiB:i<B)(hB:B≤W.heap.size)(hn:n≤200000)(g:Ut.Gu W)(q:Bool)(hq:q=true↔May h) :
  Calls Tryz.prog 35 #[.pointer (some ⟨i,0,none⟩),.agg (evs h)] W fun r w'=>r=.returned (.int .i64 (if (feedE s q h).isSome then 0 else 50))∧CkS w' i B (n+1) (feedE s q h)∧Below i W w':=by
 refine (cfeed_k s h hz c hi hiB hB hn g q hq).mono ?_
 rintro r w' ⟨h1,h2,h3⟩
 exact ⟨h1,h2,h3.below⟩
theorem run_ibs (s:ByteArray)(c:Int)(w:World):(callFunc 117 #[.string s,.int .u8 c]).run Tryz.prog w=.ok (.value (.int .i64 (firstIdx s c.toNat.toUInt8))) w:=by
 rw [run_callFunc_indexByte Tryz.func117 (by kernel_rfl) (by kernel_rfl) (by kernel_rfl) (by kernel_rfl),run_indexByte_string]
 rfl
theorem slib_any (s:ByteArray)(c:Int)(w:World):Calls Tryz.prog 92 #[.string s,.int .u8 c] w fun r w'=>r=.returned (.int .i64 (firstIdx s c.toNat.toUInt8))∧w'=w:=by
 go_enter Tryz.func92, Tryz.ntmps92
 go_wp2_with (first|rw [run_ibs])
 go_ret
 exact ⟨rfl,rfl⟩
theorem sib_any (s:ByteArray)(c:Int)(w:World):Calls Tryz.prog 62 #[.string s,.int .u8 c] w fun r w'=>r=.returned (.int .i64 (firstIdx s c.toNat.toUInt8))∧w'=w:=by
 have h:=hide (slib_any s c w)
 go_enter Tryz.func62, Tryz.ntmps62
 go_wp2_with (go_at_call 92;refine h.out.mono ?_;rintro e w1 ⟨rfl,hw1⟩;have hw1s:=hw1.symm;clear hw1;subst hw1s)
 go_ret
 exact ⟨rfl,rfl⟩
theorem nodup_more {α:Type} {l:List α} {k:Nat} (h:k<l.length)(hn:(l.take k).Nodup)(hm:∀ j (hj:j<k),l[j]'(by omega)≠l[k]):(l.take (k+1)).Nodup:=by
 rw [List.take_succ_eq_append_getElem h]
 rw [List.nodup_append]
 refine ⟨hn,by simp,?_⟩
 intro a ha b hb
 rw [List.mem_singleton.1 hb]
 obtain ⟨j,hj,rfl⟩:=List.getElem_of_mem ha
 rw [List.getElem_take]
 exact hm j (by rw [List.length_take] at hj;omega)
set_option maxRecDepth 100000 in
theorem unlike_any (v:Value)(l:List ByteArray)(w:World)(hr:NL w v l) :
  Calls Tryz.prog 103 #[v] w fun e w'=>TB l.Nodup w e w':=by
 obtain ⟨an,cn,rfl,hn1,hn2⟩:=hr.len
 have ml:maxLen=9223372036854775807:=rfl
 replace hr:=hide hr
 go_enter Tryz.func103, Tryz.ntmps103
 go_wp2_with fail
 go_loopw [3] (fun i w'=>∃ k:Nat,i=.int .i64 k∧k≤l.length∧Hid ((l.take k).Nodup∧Below w.heap.size w w')) (fun i _=>l.length - (intOf i).toNat)
 case atStart=>exact ⟨0,rfl,Nat.zero_le _,by simp,Below.refl _ _⟩
 case round =>
  obtain ⟨k,rfl,hk,H⟩:=hrel
  by_cases hkl:k<l.length
  ·have hki:(k:Int)<(l.length:Int):=by omega
   have hk63:(k:Int)<9223372036854775807:=by omega
   go_wp2_with fail
   go_loopw [4] (fun i w'=>∃ j:Nat,i=.int .i64 j∧j≤k∧Hid ((∀ i (hi:i<j)(hik:i<l.length),l[i]≠l[k])∧Below w.heap.size w w')) (fun i _=>k - (intOf i).toNat)
   case atStart=>exact ⟨0,rfl,Nat.zero_le _,(fun i hi=>absurd hi (by omega)),H.out.2⟩
   case round =>
    obtain ⟨j,rfl,hj,J⟩:=hrel
    by_cases hjk:j<k
    ·have hjl:j<l.length:=by omega
     have hjki:(j:Int)<(k:Int):=by omega
     have hjli:(j:Int)<(l.length:Int):=by omega
     have hj63:(j:Int)<9223372036854775807:=by omega
     obtain ⟨b,o,c,he,hbl,hlc,hcm,hcell⟩:=hr.out.at k hkl
     obtain ⟨b',o',c',he',hbl',hlc',hcm',hcell'⟩:=hr.out.at j hjl
     have q1:=Value.slice.inj he
     have q2:=Value.slice.inj he'
     obtain ⟨rfl,_,rfl⟩:=q1
     obtain ⟨q3,_,rfl⟩:=q2
     have q4:=Option.some.inj q3
     simp only [Addr.mk.injEq] at q4
     obtain ⟨rfl,rfl,_⟩:=q4
     clear he he' q3
     have hcell:=(J.out.2.cell (p:=⟨b,o+k,none⟩) hbl).trans hcell
     have hcell':=(J.out.2.cell (p:=⟨b,o+j,none⟩) hbl).trans hcell'
     obtain ⟨s,hs⟩:∃ s,l[k]=s:=⟨_,rfl⟩
     obtain ⟨t,ht⟩:∃ t,l[j]=t:=⟨_,rfl⟩
     simp only [hs] at hcell
     simp only [ht] at hcell'
     by_cases hst:s=t
     ·have hne:¬ l.Nodup:=fun hn=>(List.pairwise_iff_getElem.1 hn j k hjl hkl hjk) (by rw [ht,hs,hst])
      have hne':=hide hne
      subst hst
      clear hne hs ht
      go_wp2_with fail
      go_quiet (fail)
      go_wp2_with fail
      go_ret
      exact TB.no hne'.out (below_dn J.out.2 _)
     ·have hmo:Hid (∀ i (hi:i<j+1)(hik:i<l.length),l[i]≠l[k]):=fun i hi hik=>by
       rcases Nat.lt_or_ge i j with q|q
       ·exact J.out.1 i q hik
       ·obtain rfl:i=j:=by omega
        rw [ht,hs]
        exact fun e=>hst e.symm
      have hst2:decide (s=t)=false:=decide_eq_false hst
      have hst3:=ba_ne hst
      clear hs ht
      go_wp2_with fail
      go_quiet (fail)
      go_wp2_with fail
      exact ⟨⟨j+1,by go_num,by omega,hmo.out,below_dn J.out.2 _⟩,by simp [intOf];omega⟩
    ·have hjki:¬ ((j:Int)<(k:Int)):=by omega
     obtain rfl:j=k:=by omega
     have hN:=hide (nodup_more hkl H.out.1 (fun i hi=>J.out.1 i hi (by omega)))
     go_wp2_with fail
     exact ⟨⟨j+1,by go_num,by omega,hN.out,J.out.2⟩,by simp [intOf];omega⟩
  ·have hki:¬ ((k:Int)<(l.length:Int)):=by omega
   have hE:=H.out.1
   rw [List.take_of_length_le (by omega)] at hE
   have hE':=hide hE
   clear hE
   go_wp2_with fail
   go_ret
   exact TB.yes hE'.out H.out.2
set_option maxRecDepth 100000 in
theorem rshort_any:∀ (n:Nat)(x:VT n)(ns ls:Value)(w:World),RD n w x ns ls→Sz n x →
  Calls Tryz.prog 78 #[.agg (vals (vhd n x) ns ls)] w fun e w'=>TB (Sht n x) w e w':=by
 intro n
 induction n with
 | zero=>intro x;exact Empty.elim x
 | succ n ih =>
  intro x ns ls w hr hz
  obtain ⟨h,l⟩:=x
  obtain ⟨al,cl,rfl,hc1,hc2⟩:=hr.len
  obtain ⟨an,cn,rfl,hn1,hn2⟩:=hr.1.len
  have ml:maxLen=9223372036854775807:=rfl
  simp only at hc1 hc2 hn1 hn2
  have hb0:Hid (∀ o,Below w.heap.size w (w.alloc o)):=fun o=>below_al (Below.refl _ _)
  have hr:=hide hr
  have hz:=hide hz
  have ih':=hide ih
  clear ih
  show Calls _ _ #[.agg #[.int .i64 h.kind,.bool h.flag,.bool h.neg,.string h.dig,.int .i64 h.exp,.int .u64 h.bits,.string h.text,.slice an h.names.length cn,.slice al l.length cl]] _ _
  have hB0:=hide (bx_new w h (.slice an h.names.length cn) (.slice al l.length cl))
  obtain ⟨M,hM⟩:∃ M:Int,(bif h.kind==9 then 64 else 4096)=M:=⟨_,rfl⟩
  by_cases k9:h.kind=9
  ·have hML:M=64:=by rw [←hM];simp [k9]
   have hB9:Hid (Bx (w.alloc (.cells #[.int .i64 9,.bool h.flag,.bool h.neg,.string h.dig,.int .i64 h.exp,.int .u64 h.bits,.string h.text,.slice an h.names.length cn,.slice al l.length cl] 29)) w.heap.size h (.slice an h.names.length cn) (.slice al l.length cl)):=by have:=hB0.out;unfold vals at this;rw [k9] at this;exact this
   by_cases ht:(64:Int)<(h.text.size:Int)
   ·have hx:=hide (show ¬ Sht (n+1) (h,l) from fun q=>by have h2:(h.text.size:Int)≤(bif h.kind==9 then 64 else 4096):=q.1;rw [hM,hML] at h2;omega)
    rw [k9]
    go_enter Tryz.func78, Tryz.ntmps78
    go_wp2_with fail
    go_ret
    exact TB.no hx.out (hb0.out _)
   by_cases hl:(256:Int)<(l.length:Int)
   ·have hx:=hide (show ¬ Sht (n+1) (h,l) from fun q=>by have h2:l.length≤256:=q.2.1;omega)
    rw [k9]
    go_enter Tryz.func78, Tryz.ntmps78
    go_wp2_with fail
    go_ret
    exact TB.no hx.out (hb0.out _)
   ·have hx0:=hide (show (h.text.size:Int)≤(bif h.kind==9 then 64 else 4096)∧l.length≤256 from ⟨by rw [hM,hML];omega,by omega⟩)
    rw [k9]
    go_enter Tryz.func78, Tryz.ntmps78
    go_wp2_with fail
    go_loopw [4] (fun i w'=>∃ k:Nat,i=.int .i64 k∧k≤h.names.length∧Hid ((∀ s∈h.names.take k,s.size≤64)∧Below w.heap.size w w')∧Hid (Bx w' w.heap.size h (.slice an h.names.length cn) (.slice al l.length cl))) (fun i _=>h.names.length - (intOf i).toNat)
    case atStart=>exact ⟨0,rfl,Nat.zero_le _,⟨(fun y hy=>by simp at hy),hb0.out _⟩,hB9.out⟩
    case round =>
     obtain ⟨k,rfl,hk,H,hB⟩:=hrel
     have c7:=hB.out.cells.2.2.2.2.2.2.2.1
     have c8:=hB.out.cells.2.2.2.2.2.2.2.2
     by_cases hkl:k<h.names.length
     ·have hki:(k:Int)<(h.names.length:Int):=by omega
      have hk63:(k:Int)<9223372036854775807:=by omega
      obtain ⟨b,o,c,he,hbl,hlc,hcm,hcell⟩:=hr.out.1.at k hkl
      have he':=Value.slice.inj he
      obtain ⟨rfl,_,rfl⟩:=he'
      clear he
      have hcell:=(H.out.2.cell (p:=⟨b,o+k,none⟩) hbl).trans hcell
      obtain ⟨s,hs⟩:∃ s,h.names[k]=s:=⟨_,rfl⟩
      simp only at hcell
      rw [hs] at hcell
      have hs':=hide hs
      clear hs
      by_cases h64:(64:Int)<(s.size:Int)
      ·have hno:=hide (show ¬ Sht (n+1) (h,l) from fun q=>by
        have h2:=q.2.2.1 h.names[k] (List.getElem_mem _)
        rw [hs'.out] at h2
        omega)
       go_wp2_with fail
       go_ret
       exact TB.no hno.out H.out.2
      ·have hmo:=hide (mem_take_more (p:=fun s=>s.size≤64) hkl H.out.1 (by rw [hs'.out];omega))
       go_wp2_with fail
       exact ⟨⟨k+1,by go_num,by omega,⟨hmo.out,H.out.2⟩,hB.out⟩,by simp [intOf];omega⟩
     ·have hki:¬ ((k:Int)<(h.names.length:Int)):=by omega
      have hE:=H.out.1
      rw [List.take_of_length_le (by omega)] at hE
      have hE':=hide hE
      have hb2:=hide H.out.2
      clear hE
      go_wp2_with fail
      go_loopw [5] (fun i w'=>∃ k:Nat,i=.int .i64 k∧k≤l.length∧Hid ((∀ y∈l.take k,Sht n y)∧Below w.heap.size w w')∧Hid (Bx w' w.heap.size h (.slice an h.names.length cn) (.slice al l.length cl))) (fun i _=>l.length - (intOf i).toNat)
      case atStart=>exact ⟨0,rfl,Nat.zero_le _,⟨(fun y hy=>by simp at hy),hb2.out⟩,hB.out⟩
      case round =>
       clear H c7 c8 hki hk hB
       obtain ⟨k2,rfl,hk,H,hB⟩:=hrel
       have c8:=hB.out.cells.2.2.2.2.2.2.2.2
       by_cases hkl:k2<l.length
       ·have hki:(k2:Int)<(l.length:Int):=by omega
        have hk63:(k2:Int)<9223372036854775807:=by omega
        obtain ⟨b,o,c,he,hbl,hlc,hcm,ns',ls',hrg,hrd⟩:=hr.out.at k2 hkl
        have he':=Value.slice.inj he
        obtain ⟨rfl,_,rfl⟩:=he'
        clear he
        obtain ⟨q0,q1,q2,q3,q4,q5,q6,q7,q8⟩:=range9 (rangeAt_below hrg H.out.2 hbl)
        have hrd':=hide (hrd.below H.out.2)
        obtain ⟨a1,m1,d1,a2,m2,d2,rfl,rfl⟩:=hrd.shape
        clear hrg hrd
        obtain ⟨bk,hbk⟩:=tells (Sht n l[k2])
        have hcall:=hide (Calls.tb (ih'.out l[k2] (.slice a1 m1 d1) (.slice a2 m2 d2) wr hrd'.out (hz.out.2.2.2.2 _ (List.getElem_mem _))) hbk)
        have hbk':=hide hbk
        clear hbk
        cases bk
        ·go_wp2_with (go_at_call 78;refine hcall.out.mono ?_;rintro e w3 ⟨rfl,hb3⟩)
         go_ret
         exact TB.no (fun q=>by have:=hbk'.out.2 (q.2.2.2 _ (List.getElem_mem _));cases this) (below_then H.out.2 hb3)
        ·go_wp2_with (go_at_call 78;refine hcall.out.mono ?_;rintro e w3 ⟨rfl,hb3⟩)
         exact ⟨⟨k2+1,by go_num,by omega,⟨mem_take_more hkl H.out.1 (hbk'.out.1 (by simp)),below_then H.out.2 hb3⟩,hB.out.below hb3⟩,by simp [intOf];omega⟩
       ·have hki:¬ ((k2:Int)<(l.length:Int)):=by omega
        have hE2:=H.out.1
        rw [List.take_of_length_le (by omega)] at hE2
        have hE2':=hide hE2
        clear hE2
        go_wp2_with fail
        go_ret
        exact TB.yes ⟨hx0.out.1,hx0.out.2,hE'.out,hE2'.out⟩ H.out.2
  ·have hML:M=4096:=by rw [←hM,show (h.kind==9)=false by rw [beq_eq_false_iff_ne];exact k9];rfl
   by_cases ht:(4096:Int)<(h.text.size:Int)
   ·have hx:=hide (show ¬ Sht (n+1) (h,l) from fun q=>by have h2:(h.text.size:Int)≤(bif h.kind==9 then 64 else 4096):=q.1;rw [hM,hML] at h2;omega)
    go_enter Tryz.func78, Tryz.ntmps78
    go_wp2_with fail
    go_ret
    exact TB.no hx.out (hb0.out _)
   by_cases hl:(256:Int)<(l.length:Int)
   ·have hx:=hide (show ¬ Sht (n+1) (h,l) from fun q=>by have h2:l.length≤256:=q.2.1;omega)
    go_enter Tryz.func78, Tryz.ntmps78
    go_wp2_with fail
    go_ret
    exact TB.no hx.out (hb0.out _)
   ·have hx0:=hide (show (h.text.size:Int)≤(bif h.kind==9 then 64 else 4096)∧l.length≤256 from ⟨by rw [hM,hML];omega,by omega⟩)
    go_enter Tryz.func78, Tryz.ntmps78
    go_wp2_with fail
    go_loopw [4] (fun i w'=>∃ k:Nat,i=.int .i64 k∧k≤h.names.length∧Hid ((∀ s∈h.names.take k,s.size≤64)∧Below w.heap.size w w')∧Hid (Bx w' w.heap.size h (.slice an h.names.length cn) (.slice al l.length cl))) (fun i _=>h.names.length - (intOf i).toNat)
    case atStart=>exact ⟨0,rfl,Nat.zero_le _,⟨(fun y hy=>by simp at hy),hb0.out _⟩,hB0.out⟩
    case round =>
     obtain ⟨k,rfl,hk,H,hB⟩:=hrel
     have c7:=hB.out.cells.2.2.2.2.2.2.2.1
     have c8:=hB.out.cells.2.2.2.2.2.2.2.2
     by_cases hkl:k<h.names.length
     ·have hki:(k:Int)<(h.names.length:Int):=by omega
      have hk63:(k:Int)<9223372036854775807:=by omega
      obtain ⟨b,o,c,he,hbl,hlc,hcm,hcell⟩:=hr.out.1.at k hkl
      have he':=Value.slice.inj he
      obtain ⟨rfl,_,rfl⟩:=he'
      clear he
      have hcell:=(H.out.2.cell (p:=⟨b,o+k,none⟩) hbl).trans hcell
      obtain ⟨s,hs⟩:∃ s,h.names[k]=s:=⟨_,rfl⟩
      simp only at hcell
      rw [hs] at hcell
      have hs':=hide hs
      clear hs
      by_cases h64:(64:Int)<(s.size:Int)
      ·have hno:=hide (show ¬ Sht (n+1) (h,l) from fun q=>by
        have h2:=q.2.2.1 h.names[k] (List.getElem_mem _)
        rw [hs'.out] at h2
        omega)
       go_wp2_with fail
       go_ret
       exact TB.no hno.out H.out.2
      ·have hmo:=hide (mem_take_more (p:=fun s=>s.size≤64) hkl H.out.1 (by rw [hs'.out];omega))
       go_wp2_with fail
       exact ⟨⟨k+1,by go_num,by omega,⟨hmo.out,H.out.2⟩,hB.out⟩,by simp [intOf];omega⟩
     ·have hki:¬ ((k:Int)<(h.names.length:Int)):=by omega
      have hE:=H.out.1
      rw [List.take_of_length_le (by omega)] at hE
      have hE':=hide hE
      have hb2:=hide H.out.2
      clear hE
      go_wp2_with fail
      go_loopw [5] (fun i w'=>∃ k:Nat,i=.int .i64 k∧k≤l.length∧Hid ((∀ y∈l.take k,Sht n y)∧Below w.heap.size w w')∧Hid (Bx w' w.heap.size h (.slice an h.names.length cn) (.slice al l.length cl))) (fun i _=>l.length - (intOf i).toNat)
      case atStart=>exact ⟨0,rfl,Nat.zero_le _,⟨(fun y hy=>by simp at hy),hb2.out⟩,hB.out⟩
      case round =>
       clear H c7 c8 hki hk hB
       obtain ⟨k2,rfl,hk,H,hB⟩:=hrel
       have c8:=hB.out.cells.2.2.2.2.2.2.2.2
       by_cases hkl:k2<l.length
       ·have hki:(k2:Int)<(l.length:Int):=by omega
        have hk63:(k2:Int)<9223372036854775807:=by omega
        obtain ⟨b,o,c,he,hbl,hlc,hcm,ns',ls',hrg,hrd⟩:=hr.out.at k2 hkl
        have he':=Value.slice.inj he
        obtain ⟨rfl,_,rfl⟩:=he'
        clear he
        obtain ⟨q0,q1,q2,q3,q4,q5,q6,q7,q8⟩:=range9 (rangeAt_below hrg H.out.2 hbl)
        have hrd':=hide (hrd.below H.out.2)
        obtain ⟨a1,m1,d1,a2,m2,d2,rfl,rfl⟩:=hrd.shape
        clear hrg hrd
        obtain ⟨bk,hbk⟩:=tells (Sht n l[k2])
        have hcall:=hide (Calls.tb (ih'.out l[k2] (.slice a1 m1 d1) (.slice a2 m2 d2) wr hrd'.out (hz.out.2.2.2.2 _ (List.getElem_mem _))) hbk)
        have hbk':=hide hbk
        clear hbk
        cases bk
        ·go_wp2_with (go_at_call 78;refine hcall.out.mono ?_;rintro e w3 ⟨rfl,hb3⟩)
         go_ret
         exact TB.no (fun q=>by have:=hbk'.out.2 (q.2.2.2 _ (List.getElem_mem _));cases this) (below_then H.out.2 hb3)
        ·go_wp2_with (go_at_call 78;refine hcall.out.mono ?_;rintro e w3 ⟨rfl,hb3⟩)
         exact ⟨⟨k2+1,by go_num,by omega,⟨mem_take_more hkl H.out.1 (hbk'.out.1 (by simp)),below_then H.out.2 hb3⟩,hB.out.below hb3⟩,by simp [intOf];omega⟩
       ·have hki:¬ ((k2:Int)<(l.length:Int)):=by omega
        have hE2:=H.out.1
        rw [List.take_of_length_le (by omega)] at hE2
        have hE2':=hide hE2
        clear hE2
        go_wp2_with fail
        go_ret
        exact TB.yes ⟨hx0.out.1,hx0.out.2,hE'.out,hE2'.out⟩ H.out.2
def RVal:Prop:=∀ (s:ByteArray)(w:World),s.size≤281474976710656→Calls Tryz.prog 102 #[.string s] w fun e w'=>e=.returned (.bool (okT s))∧Below w.heap.size w w'
set_option maxRecDepth 100000 in
theorem own_any (rv:RVal)(n:Nat)(h:Hd)(l:List (VT n))(ns ls:Value)(w:World)(hr:RD (n+1) w (h,l) ns ls)(hz:Sz (n+1) (h,l)) :
  Calls Tryz.prog 77 #[.agg (vals h ns ls)] w fun e w'=>TB (Filled h l.length) w e w':=by
 obtain ⟨al,cl,rfl,hc1,hc2⟩:=hr.len
 obtain ⟨an,cn,rfl,hn1,hn2⟩:=hr.1.len
 have ml:maxLen=9223372036854775807:=rfl
 simp only at hc1 hc2 hn1 hn2
 obtain ⟨z1,z2,z3,z4,z5⟩:=hz
 simp only at z1 z2 z3 z4
 have hB0:=hide (bx_new w h (.slice an h.names.length cn) (.slice al l.length cl))
 have hb0:Hid (∀ o,Below w.heap.size w (w.alloc o)):=fun o=>below_al (Below.refl _ _)
 have hV:=hide (fun W=>rv h.text W (by omega))
 have z4:=hide z4
 replace hr:=hide hr
 replace rv:=hide rv
 clear z5
 show Calls _ _ #[.agg #[.int .i64 h.kind,.bool h.flag,.bool h.neg,.string h.dig,.int .i64 h.exp,.int .u64 h.bits,.string h.text,.slice an h.names.length cn,.slice al l.length cl]] _ _
 by_cases k3:h.kind=3
 ·have hx:=hide (show Filled h l.length↔isN h.neg h.dig h.exp=true by simp [Filled,k3])
  have hC:=hide (fun W=>ris_any h.neg h.dig h.exp W (by omega))
  obtain ⟨b,hb⟩:∃ b,isN h.neg h.dig h.exp=b:=⟨_,rfl⟩
  rw [hb] at hC hx
  rw [k3]
  clear hb
  go_enter Tryz.func77, Tryz.ntmps77
  go_wp2_with (go_at_call 81;refine (hC.out _).mono ?_;rintro e w1 ⟨rfl,hb1⟩)
  go_ret
  exact ⟨b,rfl,(show Hid _ from hx.out.symm),below_then (hb0.out _) hb1⟩
 by_cases k5:h.kind=5
 ·have hx:=hide (show Filled h l.length↔okT h.text=true by simp [Filled,k5])
  obtain ⟨b,hb⟩:∃ b,okT h.text=b:=⟨_,rfl⟩
  rw [hb] at hV hx
  rw [k5]
  clear hb
  go_enter Tryz.func77, Tryz.ntmps77
  go_wp2_with (go_at_call 102;refine (hV.out _).mono ?_;rintro e w1 ⟨rfl,hb1⟩)
  go_ret
  exact ⟨b,rfl,(show Hid _ from hx.out.symm),below_then (hb0.out _) hb1⟩
 by_cases k9:h.kind=9
 ·obtain ⟨b,hb⟩:∃ b,okT h.text=b:=⟨_,rfl⟩
  have hx:=hide (show Filled h l.length↔(b=true∧l.length=1) by simp [Filled,k9,hb])
  rw [hb] at hV
  rw [k9]
  clear hb
  cases b
  ·go_enter Tryz.func77, Tryz.ntmps77
   go_wp2_with (go_at_call 102;refine (hV.out _).mono ?_;rintro e w1 ⟨rfl,hb1⟩;have c8:=one_cell hb1 8)
   go_ret
   exact TB.no (fun q=>by have:=(hx.out.1 q).1;cases this) (below_then (hb0.out _) hb1)
  ·by_cases h1:l.length=1
   ·rw [h1] at hx hB0 ⊢
    go_enter Tryz.func77, Tryz.ntmps77
    go_wp2_with (go_at_call 102;refine (hV.out _).mono ?_;rintro e w1 ⟨rfl,hb1⟩;have c8:=one_cell hb1 8)
    go_ret
    exact TB.yes (hx.out.2 (by simp)) (below_then (hb0.out _) hb1)
   ·have h1i:¬ (l.length:Int)=1:=by omega
    have h1d:=hide (show decide ((l.length:Int)=1)=false from decide_eq_false h1i)
    have hx2:Hid (¬ Filled h l.length):=fun q=>h1 (hx.out.1 q).2
    clear h1 hx
    go_enter Tryz.func77, Tryz.ntmps77
    go_wp2_with (go_at_call 102;refine (hV.out _).mono ?_;rintro e w1 ⟨rfl,hb1⟩;have c8:=one_cell hb1 8)
    go_ret
    first|exact TB.no hx2.out (below_then (hb0.out _) hb1)|(show TB _ _ (.returned (.bool (decide ((l.length:Int)=1)))) _;rw [h1d.out];exact TB.no hx2.out (below_then (hb0.out _) hb1))
 by_cases k8:h.kind=8
 ·have hx:=hide (show Filled h l.length↔(h.names.length=l.length∧Nms h.names) by simp [Filled,k8])
  have hB8:Hid (Bx (w.alloc (.cells #[.int .i64 8,.bool h.flag,.bool h.neg,.string h.dig,.int .i64 h.exp,.int .u64 h.bits,.string h.text,.slice an h.names.length cn,.slice al l.length cl] 29)) w.heap.size h (.slice an h.names.length cn) (.slice al l.length cl)):=by have:=hB0.out;unfold vals at this;rw [k8] at this;exact this
  rw [k8]
  go_enter Tryz.func77, Tryz.ntmps77
  go_wp2_with fail
  go_loopw [3] (fun i w'=>∃ k:Nat,i=.int .i64 k∧k≤h.names.length∧Hid ((∀ s∈h.names.take k,okT s=true)∧Below w.heap.size w w')∧Hid (Bx w' w.heap.size h (.slice an h.names.length cn) (.slice al l.length cl))) (fun i _=>h.names.length - (intOf i).toNat)
  case atStart=>exact ⟨0,rfl,Nat.zero_le _,⟨(fun y hy=>by simp at hy),hb0.out _⟩,hB8.out⟩
  case round =>
   obtain ⟨k,rfl,hk,H,hB⟩:=hrel
   have c7:=hB.out.cells.2.2.2.2.2.2.2.1
   have c8:=hB.out.cells.2.2.2.2.2.2.2.2
   by_cases hkl:k<h.names.length
   ·have hki:(k:Int)<(h.names.length:Int):=by omega
    have hk63:(k:Int)<9223372036854775807:=by omega
    obtain ⟨b,o,c,he,hbl,hlc,hcm,hcell⟩:=hr.out.1.at k hkl
    have he':=Value.slice.inj he
    obtain ⟨rfl,_,rfl⟩:=he'
    clear he
    have hcell:=(H.out.2.cell (p:=⟨b,o+k,none⟩) hbl).trans hcell
    obtain ⟨s,hs⟩:∃ s,h.names[k]=s:=⟨_,rfl⟩
    simp only at hcell
    rw [hs] at hcell
    have hsz:s.size≤281474976710656:=by rw [←hs];exact z4.out _ (List.getElem_mem _)
    have hVs:=hide (rv.out s wr hsz)
    obtain ⟨q,hq⟩:∃ q,okT s=q:=⟨_,rfl⟩
    rw [hq] at hVs
    have hq':=hide hq
    have hs':=hide hs
    clear hs hq hsz
    cases q
    ·have hno:=hide (show ¬ Filled h l.length from fun p=>by
      have:=(hx.out.1 p).2.1 h.names[k] (List.getElem_mem _)
      rw [hs'.out,hq'.out] at this;cases this)
     go_wp2_with (go_at_call 102;refine hVs.out.mono ?_;rintro e w3 ⟨rfl,hb3⟩)
     go_ret
     exact TB.no hno.out (below_then H.out.2 hb3)
    ·have hmo:=hide (mem_take_more (p:=fun s=>okT s=true) hkl H.out.1 (by rw [hs'.out,hq'.out]))
     go_wp2_with (go_at_call 102;refine hVs.out.mono ?_;rintro e w3 ⟨rfl,hb3⟩)
     exact ⟨⟨k+1,by go_num,by omega,⟨hmo.out,below_then H.out.2 hb3⟩,hB.out.below hb3⟩,by simp [intOf];omega⟩
   ·have hki:¬ ((k:Int)<(h.names.length:Int)):=by omega
    have hE:=H.out.1
    rw [List.take_of_length_le (by omega)] at hE
    have hE':=hide hE
    clear hE
    by_cases hlen:(h.names.length:Int)=(l.length:Int)
    ·obtain ⟨q,hq⟩:=tells h.names.Nodup
     have hU:=hide (Calls.tb (unlike_any (.slice an h.names.length cn) h.names wr (hr.out.1.below H.out.2)) hq)
     have hfin:=hide (show q=true↔Filled h l.length by
      rw [hx.out,hq]
      exact ⟨fun p=>⟨by omega,hE'.out,p⟩,fun p=>p.2.2⟩)
     clear hq
     go_wp2_with (go_at_call 103;refine hU.out.mono ?_;rintro e w3 ⟨rfl,hb3⟩)
     go_ret
     exact ⟨q,rfl,(show Hid _ from hfin.out),below_then H.out.2 hb3⟩
    ·have hno:=hide (show ¬ Filled h l.length from fun p=>by have:=(hx.out.1 p).1;omega)
     go_wp2_with fail
     go_ret
     exact TB.no hno.out H.out.2
 ·have hx:=hide (show Filled h l.length by simp [Filled,k3,k5,k8,k9])
  go_enter Tryz.func77, Tryz.ntmps77
  go_wp2_with fail
  go_ret
  exact TB.yes hx.out (hb0.out _)
end Go.Proofs.YthodiandebahdaaGreatDoor
