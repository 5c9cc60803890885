/- Merged by program: JqTally, JrTally, JsIndex, JtRead, JuQuote, JvQuote, JwQuote. -/
import Derived.Test.YtpimjkdakjhoaaaGreatDoorZw20
namespace Go.Proofs.YtpimjkdakjhoaaaGreatDoor
open Go.RowKit
set_option linter.unusedSimpArgs false
set_option linter.unusedVariables false
set_option maxHeartbeats 8000000
theorem tnew_any (w:World):Calls Tryz.prog 29 #[] w fun r w'=>r=.returned (.pointer (some ⟨w.heap.size,0,none⟩))∧TyB w' w.heap.size 0 (.slice none 0 0)∧Below w.heap.size w w':=by
 go_enter Tryz.func29, Tryz.ntmps29
 go_wp2
 go_ret
 exact ⟨rfl,heap_alloc_new _ _,below_al (Below.refl _ _)⟩
theorem TyA.new {w:World} {t B:Nat} (h:TyB w t 0 (.slice none 0 0)) (h1:t<B) (h2:B≤w.heap.size):TyA w t B (.slice none 0 0) 0 [] :=
 ⟨h,World.ownsRow_nil _ _ _ _,h1,h2,by simp,by omega,fun p hp=>by simp at hp⟩
theorem count_any {W:World} {t B z:Nat} {v:Value} {ps:List Tp} (k:Int) (c:TyA W t B v z ps) (hr:rom z ps k=true):Calls Tryz.prog 140 #[.pointer (some ⟨t,0,none⟩),.int .i64 k] W fun r w'=>r=.returned (.tuple #[])∧TyP W t B v (cnt z ps k).1 (cnt z ps k).2 w':=by
 by_cases h10:k=10
 ·subst h10;exact count_10 c hr
 by_cases h7:k=7
 ·subst h7;exact count_7 c hr
 by_cases h8:k=8
 ·subst h8;exact count_8 c hr
 by_cases h9:k=9
 ·subst h9;exact count_9 c hr
 exact count_k k h10 h7 h8 h9 c hr
def takeT (z:Nat) (ps:List Tp) (h:Hd):Option (Nat×List Tp) :=
 if h.kind=11 then some (z,ps.dropLast) else if (h.text.size:Int)≤lng h.kind then (if rom z ps h.kind then some (cnt z ps h.kind) else none) else none
def TkP (W:World) (t B:Nat) (v:Value) (z:Nat) (ps:List Tp) (o:Option (Nat×List Tp)) (r:Ending) (w':World):Prop :=
 (r=.returned (.int .i64 (match o with|none=>2|some _=>0)))∧TyP W t B v (o.getD (z,ps)).1 (o.getD (z,ps)).2 w'
section
variable {W W1 : World} {t B z : Nat} {v : Value} {ps : List Tp}
theorem row_less2 {g cp n:Nat} {xs:List Value} {T:TypeId} (h:W.ownsRow B T 2 (.slice (some ⟨g,0,none⟩) (n + 1) cp) (n + 1) xs):W.ownsRow B T 2 (.slice (some ⟨g,0,none⟩) n cp) n (xs.take (n * 2)):=by
 obtain ⟨h0,h⟩:=h
 refine ⟨by rw [List.length_take];omega,?_⟩
 rcases h with ⟨e,_⟩|⟨g',cap,cur,e,h1,h2,h3,h4,h5,h6⟩
 ·cases e
 ·simp only [Value.slice.injEq,Option.some.injEq,Addr.mk.injEq] at e
  obtain ⟨⟨rfl,_,_⟩,_,rfl⟩:=e
  refine Or.inr ⟨g,cp,cur,rfl,h1,h2,by omega,h4,h5,?_⟩
  rw [←h6,List.take_take]
  congr 1;omega
theorem TyA.less {qs:List Tp} {p:Tp} {g cp:Nat} (c:TyA W t B (.slice (some ⟨g,0,none⟩) (qs.length + 1) cp) z (qs++[p])) :
  TyA (W.setCell ⟨t,1,none⟩ (.slice (some ⟨g,0,none⟩) qs.length cp)) t B (.slice (some ⟨g,0,none⟩) qs.length cp) z qs:=by
 have hr:=c.row
 rw [List.length_append,List.length_singleton] at hr
 have s4:=row_less2 hr
 rw [txs_app,List.take_append_of_le_length (by rw [txs_length];exact Nat.le_refl _),List.take_of_length_le (by rw [txs_length];exact Nat.le_refl _)] at s4
 have htB:=c.tB
 exact ⟨c.tb.set1 _,own_of s4 fun k hk _=>Below.heap_setCell _ _ _ _ (by have:=(World.ownsRow.lt s4 k hk).1;show k≠t;omega),htB,by simpa using c.hB,by have:=c.len;simp at this;omega,c.siz,fun q hq=>c.its q (List.mem_append.2 (Or.inl hq))⟩
theorem TyA.less0 {a:Option Addr} {cp:Nat} (c:TyA W t B (.slice a 0 cp) z []):TyA (W.setCell ⟨t,1,none⟩ (.slice a 0 cp)) t B (.slice a 0 cp) z [] :=
 ⟨c.tb.set1 _,own_of c.row fun k hk _=>Below.heap_setCell _ _ _ _ (by have:=(World.ownsRow.lt c.row k hk).1;have:=c.tB;show k≠t;omega),c.tB,by simpa using c.hB,c.len,c.siz,c.its⟩
theorem take_end (fl ng:Bool) (dg tx:ByteArray) (ex bt:Int) (c:TyA W t B v z ps):Calls Tryz.prog 120 #[.pointer (some ⟨t,0,none⟩),.agg #[.int .i64 11,.bool fl,.bool ng,.string dg,.int .i64 ex,.int .u64 bt,.string tx]] W fun r w'=>r=.returned (.int .i64 0)∧TyP W t B v z ps.dropLast w':=by
 have ml:maxLen=9223372036854775807:=rfl
 rcases List.eq_nil_or_concat ps with rfl|⟨qs,p,rfl⟩
 ·obtain ⟨a,cp,rfl⟩:=c.shape
  obtain ⟨c0,c1,f0,f1⟩:=c.tb.cells
  have C:=hide c
  have hlt:=c.tb.lt
  clear c
  simp only [List.length_nil] at c1
  go_enter Tryz.func120, Tryz.ntmps120
  go_wp2
  go_region_with (fail)
  all_goals
   go_wp2
   go_ret
   exact ⟨rfl,_,C.out.less0.then (by repeat (first|exact Below.refl _ _|refine Below.drew ?_|refine below_al ?_)),((TyF.refl.set ⟨t,1,none⟩ _ (Or.inl rfl) (Nat.le_refl _)).then (by repeat (first|exact Below.refl _ _|refine Below.drew ?_|refine below_al ?_)) (by simp;omega))⟩
 ·rw [List.concat_eq_append] at c ⊢
  obtain ⟨g,cp,rfl,q1,q2,q3,k0,k1,kf⟩:=c.last
  obtain ⟨c0,c1,f0,f1⟩:=c.tb.cells
  have hln:=c.len
  rw [List.length_append,List.length_singleton] at hln
  rw [List.dropLast_concat]
  have C:=hide c
  have hlt:=c.tb.lt
  have hv:IntKind.i64.wrap ((qs.length:Int) + 1 - 1)=(qs.length:Int):=by rw [IntKind.wrap_i64] <;> omega
  have hv2:IntKind.i64.wrap ((qs.length:Int))=(qs.length:Int):=by rw [IntKind.wrap_i64] <;> omega
  have hm1:decide ((qs.length:Int)<0)=false:=by simp
  have hm2:decide ((0:Int)<(qs.length:Int))=decide (0<qs.length):=by simp
  have hle:qs.length≤cp:=by omega
  clear c
  go_enter Tryz.func120, Tryz.ntmps120
  go_wp2
  go_region_with (fail)
  all_goals
   go_wp2
   go_ret
   exact ⟨rfl,_,C.out.less.then (by repeat (first|exact Below.refl _ _|refine Below.drew ?_|refine below_al ?_)),((TyF.refl.set ⟨t,1,none⟩ _ (Or.inl rfl) (Nat.le_refl _)).then (by repeat (first|exact Below.refl _ _|refine Below.drew ?_|refine below_al ?_)) (by simp;omega))⟩
end
section
variable {W W1 W2 : World} {t B z : Nat} {v : Value} {ps : List Tp}
theorem TyF.pre (h:Below W.heap.size W W1) (k:TyF t v W1 W2) (ht:t≤W.heap.size):TyF t v W W2 :=
 ⟨(h.mono ht).trans k.below,fun q h1 h2 h3=>(k.keep q (Nat.lt_of_lt_of_le h1 h.size) h2 h3).trans (h.block q h1)⟩
theorem dn_b (W:World) (m:Nat):Below W.heap.size W (W.drewN m):=⟨rfl,rfl,rfl,Nat.le_refl _,fun _ _=>rfl⟩
theorem take_oth (k:Int) (fl ng:Bool) (dg tx:ByteArray) (ex bt:Int) (n11:k≠11) (c:TyA W t B v z ps):Calls Tryz.prog 120 #[.pointer (some ⟨t,0,none⟩),.agg #[.int .i64 k,.bool fl,.bool ng,.string dg,.int .i64 ex,.int .u64 bt,.string tx]] W
  fun r w'=>TkP W t B v z ps (if (tx.size:Int)≤lng k then (if rom z ps k then some (cnt z ps k) else none) else none) r w':=by
 have ml:maxLen=9223372036854775807:=rfl
 have e11:(k==11)=false:=by simpa using n11
 obtain ⟨w0,hw0⟩:∃ w0,w0=W.alloc (.cells #[.int .i64 k,.bool fl,.bool ng,.string dg,.int .i64 ex,.int .u64 bt,.string tx] 74):=⟨_,rfl⟩
 have hb0:Below W.heap.size W w0:=by rw [hw0];exact below_al (Below.refl _ _)
 have LG:=hide (fun m=>longest_any k (w0.drewN m))
 have HR:=hide (fun m=>hasRoom_any ((c.then hb0).then (dn_b w0 m)) k)
 have CT:=hide (fun (hr:rom z ps k=true) m=>count_any k ((c.then hb0).then (dn_b w0 m)) hr)
 have C0:=hide (fun m=>(c.then hb0).then (dn_b w0 m))
 have hlt:=c.tb.lt
 have hb1:=hide hb0
 rw [hw0] at LG HR CT C0 hb1
 clear hb0 hw0 c
 have F0:=hide (fun m=>TyF.refl (t:=t) (v:=v) |>.then (hb1.out.trans ((dn_b _ m).mono (by have:=hb1.out.size;exact this))) (Nat.le_of_lt hlt))
 by_cases h1:(tx.size:Int)≤lng k
 ·rw [if_pos h1]
  have d1:decide (lng k<(tx.size:Int))=false:=by simp;omega
  cases hr:rom z ps k
  ·rw [hr] at HR
   clear CT
   simp only [Bool.false_eq_true,if_false]
   go_enter Tryz.func120, Tryz.ntmps120
   go_wp2
   go_quiet (first|(go_at_call 138;exact Calls.quiet_of_same (LG.out _))|(go_at_call 139;exact Calls.quiet_of (HR.out _)))
   go_wp2
   go_ret
   exact ⟨rfl,_,C0.out _,F0.out _⟩
  ·rw [hr] at HR
   simp only [if_true]
   have CT2:=hide (CT.out hr)
   clear CT
   go_enter Tryz.func120, Tryz.ntmps120
   go_wp2
   go_quiet (first|(go_at_call 138;exact Calls.quiet_of_same (LG.out _))|(go_at_call 139;exact Calls.quiet_of (HR.out _)))
   go_wp2_with (go_at_call 140;refine (CT2.out _).mono ?_;rintro e w1 ⟨rfl,hp⟩;have P1:=hide hp;clear hp)
   go_ret
   obtain ⟨v',p1,p2⟩:=P1.out
   exact ⟨rfl,v',p1,TyF.pre (hb1.out.trans ((dn_b _ _).mono hb1.out.size)) p2 (Nat.le_of_lt hlt)⟩
 ·rw [if_neg h1]
  have d1:decide (lng k<(tx.size:Int))=true:=by simp;omega
  clear CT HR
  go_enter Tryz.func120, Tryz.ntmps120
  go_wp2
  go_quiet (first|(go_at_call 138;exact Calls.quiet_of_same (LG.out _)))
  go_wp2
  go_ret
  exact ⟨rfl,_,C0.out _,F0.out _⟩
theorem taken (h:Hd) (c:TyA W t B v z ps):Calls Tryz.prog 120 #[.pointer (some ⟨t,0,none⟩),.agg (evs h)] W fun r w'=>TkP W t B v z ps (takeT z ps h) r w':=by
 obtain ⟨kd,fl,ng,dg,ex,bt,tx,nm⟩:=h
 unfold takeT evs
 by_cases h11:kd=11
 ·subst h11
  refine (take_end fl ng dg tx ex bt c).mono ?_
  rintro e w' ⟨rfl,p⟩
  exact ⟨rfl,p⟩
 ·simp only [h11,if_false]
  exact take_oth kd fl ng dg tx ex bt h11 c
end
theorem run_ibs (s:ByteArray) (c:Int) (w:World):(callFunc 125 #[.string s,.int .u8 c]).run Tryz.prog w=.ok (.value (.int .i64 (firstIdx s c.toNat.toUInt8))) w:=by
 rw [run_callFunc_indexByte Tryz.func125 (by kernel_rfl) (by kernel_rfl) (by kernel_rfl) (by kernel_rfl),run_indexByte_string]
 rfl
theorem slib_any (s:ByteArray) (c:Int) (w:World):Calls Tryz.prog 97 #[.string s,.int .u8 c] w fun r w'=>r=.returned (.int .i64 (firstIdx s c.toNat.toUInt8))∧w'=w:=by
 go_enter Tryz.func97, Tryz.ntmps97
 go_wp2_with (first|rw [run_ibs])
 go_ret
 exact ⟨rfl,rfl⟩
theorem sib_any (s:ByteArray) (c:Int) (w:World):Calls Tryz.prog 63 #[.string s,.int .u8 c] w fun r w'=>r=.returned (.int .i64 (firstIdx s c.toNat.toUInt8))∧w'=w:=by
 have h:=hide (slib_any s c w)
 go_enter Tryz.func63, Tryz.ntmps63
 go_wp2_with (go_at_call 97;refine h.out.mono ?_;rintro e w1 ⟨rfl,hw1⟩;have hw1s:=hw1.symm;clear hw1;subst hw1s)
 go_ret
 exact ⟨rfl,rfl⟩
structure Rv where
 total:Nat
 passed:Bool
 word:Value
 place:Nat
 held:Value
 digits:Nat
 number:Nat
 high:Nat
 wait:Nat
 behind:Nat
 opn:Value
 ck:Nat
 ty:Nat
 told:Value
def Rv.cells (s:Rv):Array Value:=#[.int .i64 0,.int .i64 s.total,.bool s.passed,s.word,.int .i64 s.place,s.held,.int .i64 s.digits,.int .i64 s.number,.int .i64 s.high,.int .i64 s.wait,.int .i64 s.behind,s.opn,.pointer (some ⟨s.ck,0,none⟩),.pointer (some ⟨s.ty,0,none⟩),s.told]
def RdB (W:World) (r:Nat) (s:Rv):Prop:=W.heap[r]?=some (.cells s.cells 69 (0,0))
structure RdF (r:Nat) (v:Value) (W w':World):Prop where
 below:Below r W w'
 keep:∀ q,q<W.heap.size→q≠r→v.ownBlock≠some q→w'.heap[q]?=W.heap[q]?
section
variable {W W1 W2 : World} {r : Nat} {s : Rv} {v : Value}
theorem RdB.lt (q:RdB W r s):r<W.heap.size:=(Array.getElem?_eq_some_iff.1 q).1
theorem RdB.same (q:RdB W r s) (h:W1.heap[r]?=W.heap[r]?):RdB W1 r s:=h.trans q
theorem RdB.cell (q:RdB W r s) (j:Nat):W.cell? ⟨r,j,none⟩=s.cells[j]?:=by
 unfold RdB at q
 simp [World.cell?,q]
theorem RdB.frz (q:RdB W r s) (j:Nat):W.frozen? ⟨r,j,none⟩=false:=by
 unfold RdB at q
 simp [World.frozen?,q]
theorem RdB.set (q:RdB W r s) (j:Nat) (u:Value) (s':Rv) (h:s.cells.setIfInBounds j u=s'.cells):RdB (W.setCell ⟨r,j,none⟩ u) r s':=by
 unfold RdB at q ⊢
 rw [setCell_eq_setRow W r j _ _ (0,0) _ q,setRow_heap W r _ _ _ (0,0) q,←h]
theorem RdF.refl:RdF r v W W:=⟨Below.refl _ _,fun _ _ _ _=>rfl⟩
theorem RdF.then (h:RdF r v W W1) (k:Below W1.heap.size W1 W2) (ht:r≤W1.heap.size):RdF r v W W2 :=
 ⟨h.below.trans (k.mono ht),fun q h1 h2 h3=>(k.block q (Nat.lt_of_lt_of_le h1 h.below.size)).trans (h.keep q h1 h2 h3)⟩
theorem RdF.set (h:RdF r v W W1) (j:Nat) (u:Value):RdF r v W (W1.setCell ⟨r,j,none⟩ u) :=
 ⟨h.below.setCell (p:=⟨r,j,none⟩) (Nat.le_refl _) _,fun q h1 h2 h3=>(Below.heap_setCell _ _ _ _ h2).trans (h.keep q h1 h2 h3)⟩
theorem RdF.grown (h:RdF r v W W1) (hg:W1.grownBy W2 v.ownBlock) (ht:r≤W1.heap.size) (hv:∀ k,v.ownBlock=some k→r≤k):RdF r v W W2 :=
 ⟨h.below.grown hg ht hv,fun q h1 h2 h3=>(hg.block q (Nat.lt_of_lt_of_le h1 h.below.size) (fun e=>h3 e.symm)).trans (h.keep q h1 h2 h3)⟩
end
def HoP (W:World) (r:Nat) (s:Rv) (A T:List UInt8) (e:Ending) (w':World):Prop :=
 (A.length + T.length≤8192∧e=.returned (.tuple #[])∧RdF r s.held W w'∧∃ v',RdB w' r {s with held:=v' }∧Own w' (r + 1) v' (A++T)∧(v'.ownBlock=s.held.ownBlock∨v'.ownBlock=some W.heap.size))∨(8192<A.length + T.length∧e=.panicked (pan 2)∧w'=W)
set_option maxRecDepth 100000 in
theorem hold_any (x:ByteArray) (A:List UInt8) (W:World) (r:Nat) (s:Rv) (h:RdB W r s) (ho:Own W (r + 1) s.held A) (hA:A.length≤8192) (hx:x.size≤281474976710656) :
  Calls Tryz.prog 117 #[.pointer (some ⟨r,4,none⟩),.string x] W fun e w'=>HoP W r s A (bl x) e w':=by
 have hlt:=h.lt
 obtain ⟨a,c,hv⟩:∃ a c,s.held=.slice a A.length c:=by
  rcases ho.2 with ⟨e1,e⟩|⟨g,cap,cur,e1,_⟩
  ·exact ⟨none,0,by rw [e1,e]⟩
  ·exact ⟨_,_,e1⟩
 have c0:W.cell? ⟨r,5,none⟩=some (.slice a A.length c):=(h.cell 5).trans (by rw [←hv];rfl)
 have f0:W.frozen? ⟨r,5,none⟩=false:=h.frz 5
 rw [hv] at ho
 have h1':=hide h
 have h2':=hide ho
 have hbl:=hide (bl_length x)
 have hv':=hide hv
 clear h ho hv
 have hw:IntKind.i64.wrap ((A.length:Int) + (x.size:Int))=(A.length:Int) + (x.size:Int):=by rw [IntKind.wrap_i64] <;> omega
 by_cases hbig:(8192:Int)<(A.length:Int) + (x.size:Int)
 ·go_enter Tryz.func117, Tryz.ntmps117
  go_wp2_with fail
  exact ⟨rfl,Or.inr ⟨by rw [hbl.out];omega,rfl,rfl⟩⟩
 ·go_enter Tryz.func117, Tryz.ntmps117
  go_wp2_with (at_builtin;refine Sto.out ?_)
  refine Sto.mk ?_
  refine app_str2 rfl (.tmp 18) (.tmp 19) rfl (r + 1) (.slice a A.length c) A rfl h2'.out x rfl (by omega) (by omega) ?_
  intro v' w' ho hg hat
  have hz:=hg.out.size
  have hll:=World.ownsRow.lt h2'.out
  have hblk:Hid (RdB w' r s):=h1'.out.same (hg.out.block r hlt (fun q=>by have:=(hll r q.symm).1;omega))
  have c1:w'.cell? ⟨r,5,none⟩=some (.slice a A.length c):=(hblk.out.cell 5).trans (by rw [←hv'.out];rfl)
  have f1:w'.frozen? ⟨r,5,none⟩=false:=hblk.out.frz 5
  clear c0 f0
  obtain ⟨a2,n2,c2,rfl⟩:∃ a2 n2 c2,v'=.slice a2 n2 c2:=by
   rcases ho.out.2 with ⟨rfl,e⟩|⟨g,cap,cur,rfl,_⟩
   ·exact ⟨_,_,_,rfl⟩
   ·exact ⟨_,_,_,rfl⟩
  go_wp2_with fail
  go_end0
  refine Or.inl ⟨by rw [hbl.out];omega,rfl,?_,.slice a2 n2 c2,hblk.out.set 5 _ _ rfl,?_,?_⟩
  ·rw [hv'.out]
   exact (RdF.refl.grown hg.out (by omega) (fun k hk=>by have:=(hll k hk).1;omega)).set 5 _
  ·exact own_of ho.out fun k hk _=>Below.heap_setCell _ _ _ _ (by have:=(World.ownsRow.lt ho.out k hk).1;show k≠r;omega)
  ·rw [hv'.out]
   exact hat.out
structure Qa where
 place:Nat
 held:List UInt8
 digits:Nat
 number:Nat
 high:Nat
def Rv.q (s:Rv) (q:Qa) (v:Value):Rv:={s with place:=q.place,held:=v,digits:=q.digits,number:=q.number,high:=q.high}
structure QM (W:World) (r:Nat) (s:Rv) (q:Qa) (v:Value):Prop where
 rd:RdB W r (s.q q v)
 own:Own W (r + 1) v q.held
 len:q.held.length≤8192
 num:q.number<16 ^ q.digits
 hig:q.high=0∨(55296≤q.high∧q.high<56320)
 dig:q.digits≤4
def OB (W:World) (v v':Value):Prop:=v'.ownBlock=v.ownBlock∨∀ g,v'.ownBlock=some g→W.heap.size≤g
theorem OB.refl (W:World) (v:Value):OB W v v:=Or.inl rfl
theorem OB.trans {W W1:World} {v v1 v2:Value} (h:OB W v v1) (k:OB W1 v1 v2) (hz:W.heap.size≤W1.heap.size):OB W v v2:=by
 rcases k with k|k
 ·rcases h with h|h
  ·exact Or.inl (k.trans h)
  ·exact Or.inr fun g e=>h g (k ▸ e)
 ·exact Or.inr fun g e=>Nat.le_trans hz (k g e)
def QP (W:World) (r:Nat) (s:Rv) (v:Value) (o:Sum Int (Value×Qa)) (e:Ending) (w':World):Prop :=
 RdF r v W w'∧match o with
 | .inl E=>e=.panicked (pan E)∧∃ s',RdB w' r s'
 | .inr x=>e=.returned x.1∧∃ v',QM w' r s x.2 v'∧OB W v v'
def plainQ (q:Qa) (c:UInt8):Sum Int (Value×Qa) :=
 if c=92 then .inr (.bool false,{q with place:=2})
 else if q.high≠0∨c<32 then .inl 70
 else if c=34 then .inr (.bool true,q)
 else if q.held.length + 1≤8192 then .inr (.bool false,{q with held:=q.held++[c]}) else .inl 2
section
variable {W W1 W2 : World} {r : Nat} {s : Rv} {q : Qa} {v : Value}
theorem RdF.pre (k:RdF r v W1 W2) (h:Below W.heap.size W W1) (ht:r≤W.heap.size):RdF r v W W2 :=
 ⟨(h.mono ht).trans k.below,fun q h1 h2 h3=>(k.keep q (Nat.lt_of_lt_of_le h1 h.size) h2 h3).trans (h.block q h1)⟩
theorem QM.setp (h:QM W r s q v) (n:Nat):QM (W.setCell ⟨r,4,none⟩ (.int .i64 n)) r s {q with place:=n} v :=
 ⟨h.rd.set 4 _ _ rfl,own_of h.own fun k hk _=>Below.heap_setCell _ _ _ _ (by have:=(World.ownsRow.lt h.own k hk).1;show k≠r;omega),h.len,h.num,h.hig,h.dig⟩
theorem plain_any (h:QM W r s q v) (c:UInt8):Calls Tryz.prog 88 #[.pointer (some ⟨r,4,none⟩),.int .u8 c.toNat] W fun e w'=>QP W r s v (plainQ q c) e w':=by
 have H:=hide h
 have hlt:=h.rd.lt
 have c4:W.cell? ⟨r,4,none⟩=some (.int .i64 q.place):=(h.rd.cell 4).trans rfl
 have c8:W.cell? ⟨r,8,none⟩=some (.int .i64 q.high):=(h.rd.cell 8).trans rfl
 have f4:W.frozen? ⟨r,4,none⟩=false:=h.rd.frz 4
 clear h
 by_cases h92:c=92
 ·subst h92
  go_enter Tryz.func88, Tryz.ntmps88
  go_wp2
  go_ret
  exact ⟨RdF.refl.set 4 _,rfl,v,H.out.setp 2,OB.refl _ _⟩
 ·have e92:((c.toNat:Int)==92)=false:=by
   have:¬ (c.toNat:Int)=92:=fun e=>h92 (by apply UInt8.toNat_inj.1;simpa using (by omega:c.toNat=92))
   simpa using this
  by_cases hh:q.high≠0
  ·have eh:((q.high:Int)==0)=false:=by simpa using hh
   have hq:plainQ q c=.inl 70:=by unfold plainQ;rw [if_neg h92,if_pos (Or.inl hh)]
   rw [hq]
   go_enter Tryz.func88, Tryz.ntmps88
   go_wp2_with fail
   exact ⟨rfl,RdF.refl,rfl,_,H.out.rd⟩
  ·have hz:q.high=0:=by omega
   rw [hz] at c8
   by_cases h32:c<32
   ·have e32:decide ((c.toNat:Int)<32)=true:=by have:=UInt8.lt_iff_toNat_lt.1 h32;simp at this ⊢;omega
    have hq:plainQ q c=.inl 70:=by unfold plainQ;rw [if_neg h92,if_pos (Or.inr h32)]
    rw [hq]
    go_enter Tryz.func88, Tryz.ntmps88
    go_wp2_with fail
    exact ⟨rfl,RdF.refl,rfl,_,H.out.rd⟩
   ·have e32:decide ((c.toNat:Int)<32)=false:=by have:¬ c.toNat<32:=fun e=>h32 (UInt8.lt_iff_toNat_lt.2 (by simpa using e));simp;omega
    by_cases h34:c=34
    ·subst h34
     have hq:plainQ q 34=.inr (.bool true,q):=by unfold plainQ;rw [if_neg h92,if_neg (fun o=>o.elim hh h32),if_pos rfl]
     rw [hq]
     go_enter Tryz.func88, Tryz.ntmps88
     go_wp2
     go_ret
     exact ⟨RdF.refl,rfl,v,H.out,OB.refl _ _⟩
    ·have e34:((c.toNat:Int)==34)=false:=by
      have:¬ (c.toNat:Int)=34:=fun e=>h34 (by apply UInt8.toNat_inj.1;simpa using (by omega:c.toNat=34))
      simpa using this
     have hq:plainQ q c=if q.held.length + 1≤8192 then .inr (.bool false,{q with held:=q.held++[c]}) else .inl 2:=by unfold plainQ;rw [if_neg h92,if_neg (fun o=>o.elim hh h32),if_neg h34]
     rw [hq]
     have hcv:(convert 32 9 (.slice (some ⟨W.heap.size,0,none⟩) 1 1)).run Tryz.prog (W.alloc (.cells #[.int .u8 c.toNat] 5))=.ok (.string (mkB [c])) (W.alloc (.cells #[.int .u8 c.toNat] 5)) :=
      run_convert_bytes_back _ 32 9 5 ⟨W.heap.size,0,none⟩ 1 [c] Tryz.underlying32 Tryz.underlying5 Tryz.underlying9 (fun j hj=>by
       have hj0:j=0:=by simpa using hj
       subst hj0
       show (W.alloc (.cells #[.int .u8 c.toNat] 5)).cell? ⟨W.heap.size,0,none⟩=_
       unfold World.cell?
       rw [heap_alloc_new]
       rfl)
     have HO:=hide (hold_any (mkB [c]) q.held (W.alloc (.cells #[.int .u8 c.toNat] 5)) r (s.q q v) (H.out.rd.same (Below.heap_alloc _ _ _ hlt)) (own_of H.out.own fun k hk hk2=>Below.heap_alloc _ _ _ hk2) H.out.len (by simp [mkB,ByteArray.size]))
     clear hq c4
     by_cases hl:q.held.length + 1≤8192
     ·rw [if_pos hl]
      have H1:Hid (Calls Tryz.prog 117 #[.pointer (some ⟨r,4,none⟩),.string (mkB [c])] (W.alloc (.cells #[.int .u8 c.toNat] 5)) fun e w'=>e=.returned (.tuple #[])∧RdF r v W w'∧∃ v',QM w' r s {q with held:=q.held++[c]} v'∧OB W v v'):=HO.out.mono (by
       rintro e w1 (⟨l1,rfl,F,v',rd',ow',at'⟩|⟨l1,_⟩)
       ·rw [bl_mkB] at ow'
        refine ⟨rfl,F.pre (below_al (Below.refl _ _)) (Nat.le_of_lt hlt),v',⟨rd',ow',by simpa using hl,H.out.num,H.out.hig,H.out.dig⟩,?_⟩
        rcases at' with e|e
        ·exact Or.inl e
        ·exact Or.inr fun g hg=>by rw [e] at hg;cases hg;simp
       ·rw [bl_mkB] at l1;simp at l1;omega)
      clear HO hl
      go_enter Tryz.func88, Tryz.ntmps88
      go_wp2_with (go_at_call 117;refine H1.out.mono ?_;rintro e w1 ⟨rfl,hp⟩;have P1:=hide hp;clear hp)
      go_ret
      exact ⟨P1.out.1,rfl,P1.out.2⟩
     ·rw [if_neg hl]
      have H1:Hid (Calls Tryz.prog 117 #[.pointer (some ⟨r,4,none⟩),.string (mkB [c])] (W.alloc (.cells #[.int .u8 c.toNat] 5)) fun e w'=>e=.panicked (pan 2)∧w'=(W.alloc (.cells #[.int .u8 c.toNat] 5))):=HO.out.mono (by
       rintro e w1 (⟨l1,_⟩|⟨l1,rfl,rfl⟩)
       ·rw [bl_mkB] at l1;simp at l1;omega
       ·exact ⟨rfl,rfl⟩)
      clear HO hl
      go_enter Tryz.func88, Tryz.ntmps88
      go_wp2_with (go_at_call 117;refine H1.out.mono ?_;rintro e w1 ⟨rfl,rfl⟩)
      exact ⟨rfl,RdF.refl.then (below_al (Below.refl _ _)) (Nat.le_of_lt hlt),rfl,_,H.out.rd.same (Below.heap_alloc _ _ _ hlt)⟩
end
def holdQ (q:Qa) (T:List UInt8):Sum Int (Value×Qa):=if q.held.length + T.length≤8192 then .inr (.tuple #[],{q with held:=q.held++T}) else .inl 2
def uescI (c:UInt8):Option (_root_.Fin 8) :=
 if c=34 then some 0 else if c=92 then some 1 else if c=47 then some 2 else if c=98 then some 3 else if c=102 then some 4 else if c=110 then some 5 else if c=114 then some 6 else if c=116 then some 7 else none
def uescB (i:_root_.Fin 8):UInt8:=match i with|0=>34|1=>92|2=>47|3=>8|4=>12|5=>10|6=>13|7=>9
def uescE:ByteArray:=⟨#[34,92,47,98,102,110,114,116]⟩
set_option maxRecDepth 100000 in
theorem esc_idx_n:∀ n,n<256→firstIdx uescE n.toUInt8=(match uescI n.toUInt8 with|none=>-1|some i=>(i.val:Int)):=by decide +kernel
theorem esc_idx (c:UInt8):firstIdx uescE ((c.toNat:Int).toNat.toUInt8)=(match uescI c with|none=>-1|some i=>(i.val:Int)):=by
 have h:=esc_idx_n c.toNat c.toNat_lt
 have e:c.toNat.toUInt8=c:=by simp
 rw [Int.toNat_natCast,h,e]
theorem uesc_bl:∀ i:_root_.Fin 8,bl ((⟨#[34,92,47,8,12,10,13,9]⟩:ByteArray).extract i.val (i.val + 1))=[uescB i]:=by decide +kernel
theorem uesc_size:∀ i:_root_.Fin 8,((⟨#[34,92,47,8,12,10,13,9]⟩:ByteArray).extract i.val (i.val + 1)).size=1:=by decide +kernel
def uescQ (q:Qa) (c:UInt8):Sum Int (Value×Qa) :=
 if c=117 then .inr (.tuple #[],{q with place:=3,digits:=0,number:=0})
 else match uescI c with
 | none=>.inl 70
 | some i=>if q.high≠0 then .inl 70 else if q.held.length + 1≤8192 then .inr (.tuple #[],{q with held:=q.held++[uescB i],place:=1}) else .inl 2
section
variable {W W1 W2 : World} {r : Nat} {s : Rv} {q : Qa} {v : Value}
theorem hold_q (h:QM W r s q v) (x:ByteArray) (hx:x.size≤281474976710656):Calls Tryz.prog 117 #[.pointer (some ⟨r,4,none⟩),.string x] W fun e w'=>QP W r s v (holdQ q (bl x)) e w':=by
 refine (hold_any x q.held W r (s.q q v) h.rd h.own h.len hx).mono ?_
 rintro e w1 (⟨l1,rfl,F,v',rd',ow',at'⟩|⟨l1,rfl,rfl⟩)
 ·unfold holdQ
  rw [if_pos l1]
  refine ⟨F,rfl,v',⟨rd',ow',by simpa using l1,h.num,h.hig,h.dig⟩,?_⟩
  rcases at' with e|e
  ·exact Or.inl e
  ·exact Or.inr fun g hg=>by rw [e] at hg;cases hg;simp
 ·unfold holdQ
  rw [if_neg (by omega)]
  exact ⟨RdF.refl,rfl,_,h.rd⟩
theorem escape_any (h:QM W r s q v) (c:UInt8):Calls Tryz.prog 86 #[.pointer (some ⟨r,4,none⟩),.int .u8 c.toNat] W fun e w'=>QP W r s v (uescQ q c) e w':=by
 have H:=hide h
 have hlt:=h.rd.lt
 have c4:W.cell? ⟨r,4,none⟩=some (.int .i64 q.place):=(h.rd.cell 4).trans rfl
 have c6:W.cell? ⟨r,6,none⟩=some (.int .i64 q.digits):=(h.rd.cell 6).trans rfl
 have c7:W.cell? ⟨r,7,none⟩=some (.int .i64 q.number):=(h.rd.cell 7).trans rfl
 have c8:W.cell? ⟨r,8,none⟩=some (.int .i64 q.high):=(h.rd.cell 8).trans rfl
 have f4:W.frozen? ⟨r,4,none⟩=false:=h.rd.frz 4
 have f6:W.frozen? ⟨r,6,none⟩=false:=h.rd.frz 6
 have f7:W.frozen? ⟨r,7,none⟩=false:=h.rd.frz 7
 clear h
 by_cases h117:c=117
 ·subst h117
  go_enter Tryz.func86, Tryz.ntmps86
  go_wp2
  try simp only [Exit.inBlock,Exit.then]
  refine bodyPost_ret (results_none rfl _ _ _) rfl ⟨((RdF.refl.set 4 _).set 6 _).set 7 _,rfl,v,⟨((H.out.rd.set 4 (.int .i64 3) (s.q {q with place:=3} v) rfl).set 6 (.int .i64 0) (s.q {q with place:=3,digits:=0} v) rfl).set 7 (.int .i64 0) _ rfl,?_,H.out.len,(by show 0<16 ^ 0;decide),H.out.hig,(by show 0≤4;omega)⟩,OB.refl _ _⟩
  exact own_of H.out.own fun k hk _=>by
   have hkr:k≠r:=by have:=(World.ownsRow.lt H.out.own k hk).1;omega
   rw [Below.heap_setCell _ _ _ _ hkr,Below.heap_setCell _ _ _ _ hkr,Below.heap_setCell _ _ _ _ hkr]
 ·have e117:((c.toNat:Int)==117)=false:=by
   have:¬ (c.toNat:Int)=117:=fun e=>h117 (by apply UInt8.toNat_inj.1;simpa using (by omega:c.toNat=117))
   simpa using this
  cases hi:uescI c with
  | none =>
   have hq:uescQ q c=.inl 70:=by unfold uescQ;rw [if_neg h117,hi]
   rw [hq]
   have SI:=hide (fun w=>sib_any uescE c.toNat w)
   rw [esc_idx,hi] at SI
   go_enter Tryz.func86, Tryz.ntmps86
   go_wp2_with (go_at_call 63;refine (SI.out _).mono ?_;rintro e w1 ⟨rfl,hw1⟩;have hw1s:=hw1.symm;clear hw1;subst hw1s)
   exact ⟨rfl,RdF.refl,rfl,_,H.out.rd⟩
  | some i =>
   have SI:=hide (fun w=>sib_any uescE c.toNat w)
   rw [esc_idx,hi] at SI
   by_cases hh:q.high≠0
   ·have eh:((q.high:Int)==0)=false:=by simpa using hh
    have hq:uescQ q c=.inl 70:=by unfold uescQ;rw [if_neg h117,hi];simp [hh]
    rw [hq]
    clear hq hi
    have hi0:decide ((i.val:Int)<0)=false:=by simp
    go_enter Tryz.func86, Tryz.ntmps86
    go_wp2_with (go_at_call 63;refine (SI.out _).mono ?_;rintro e w1 ⟨rfl,hw1⟩;have hw1s:=hw1.symm;clear hw1;subst hw1s)
    exact ⟨rfl,RdF.refl,rfl,_,H.out.rd⟩
   ·have hz:q.high=0:=by omega
    rw [hz] at c8
    have hq:uescQ q c=if q.held.length + 1≤8192 then .inr (.tuple #[],{q with held:=q.held++[uescB i],place:=1}) else .inl 2:=by unfold uescQ;rw [if_neg h117,hi];simp [hz]
    rw [hq]
    clear hq hi
    have HQ:=hide (hold_q H.out ((⟨#[34,92,47,8,12,10,13,9]⟩:ByteArray).extract i.val (i.val + 1)) (by rw [uesc_size];omega))
    rw [uesc_bl] at HQ
    have hi0:decide ((i.val:Int)<0)=false:=by simp
    by_cases hl:q.held.length + 1≤8192
    ·rw [if_pos hl]
     rw [show holdQ q [uescB i]=.inr (.tuple #[],{q with held:=q.held++[uescB i]}) from if_pos hl] at HQ
     clear hl
     go_enter Tryz.func86, Tryz.ntmps86
     go_wp2_with (first|(go_at_call 63;refine (SI.out _).mono ?_;rintro e w1 ⟨rfl,hw1⟩;have hw1s:=hw1.symm;clear hw1;subst hw1s)|(go_at_call 117;refine HQ.out.mono ?_;rintro e w1 ⟨F1,rfl,v1,M1,O1⟩;have F:=hide F1;have M:=hide M1;have O:=hide O1;have d4:w1.cell? ⟨r,4,none⟩=some (.int .i64 q.place):=(M1.rd.cell 4).trans rfl;have g4:w1.frozen? ⟨r,4,none⟩=false:=M1.rd.frz 4;clear F1 M1 O1))
     go_end0
     exact ⟨F.out.set 4 _,rfl,v1,M.out.setp 1,O.out⟩
    ·rw [if_neg hl]
     rw [show holdQ q [uescB i]=.inl 2 from if_neg hl] at HQ
     clear hl
     go_enter Tryz.func86, Tryz.ntmps86
     go_wp2_with (first|(go_at_call 63;refine (SI.out _).mono ?_;rintro e w1 ⟨rfl,hw1⟩;have hw1s:=hw1.symm;clear hw1;subst hw1s)|(go_at_call 117;refine HQ.out.mono ?_;rintro e w1 ⟨F1,rfl,M1⟩;have F:=hide F1;have M:=hide M1;clear F1 M1))
     exact ⟨rfl,F.out,rfl,M.out⟩
end
def twoN (q:Qa):Int:=if q.high=0 then q.number else 65536 + ((q.high:Int) - 55296) * 1024 + q.number - 56320
def endQ (q:Qa):Sum Int (Value×Qa) :=
 if q.high=0∧55296≤q.number∧q.number<56320 then .inr (.tuple #[],{q with high:=q.number})
 else if q.high≠0∧(q.number<56320∨57344≤q.number) then .inl 70
 else if Utf8.valid (twoN q) then holdQ {q with high:=0} (bl (Utf8.encode (twoN q))) else .inl 70
section
variable {W W1 W2 : World} {r : Nat} {s : Rv} {q : Qa} {v : Value}
theorem RdF.pre8 {j:Nat} {u:Value} (k:RdF r v (W.setCell ⟨r,j,none⟩ u) W2):RdF r v W W2 :=
 ⟨((Below.refl r W).setCell (p:=⟨r,j,none⟩) (Nat.le_refl _) u).trans k.below,fun q h1 h2 h3=>(k.keep q (by simpa using h1) h2 h3).trans (Below.heap_setCell _ _ _ _ h2)⟩
theorem QM.num4 (h:QM W r s q v):q.number<65536:=Nat.lt_of_lt_of_le h.num (Nat.pow_le_pow_right (n:=16) (by omega) h.dig)
theorem QM.seth (h:QM W r s q v) (n:Nat) (hn:n=0∨(55296≤n∧n<56320)):QM (W.setCell ⟨r,8,none⟩ (.int .i64 n)) r s {q with high:=n} v :=
 ⟨h.rd.set 8 _ _ rfl,own_of h.own fun k hk _=>Below.heap_setCell _ _ _ _ (by have:=(World.ownsRow.lt h.own k hk).1;show k≠r;omega),h.len,h.num,hn,h.dig⟩
set_option maxRecDepth 20000 in
theorem endNumber_any (h:QM W r s q v):Calls Tryz.prog 118 #[.pointer (some ⟨r,4,none⟩)] W fun e w'=>QP W r s v (endQ q) e w':=by
 have H:=hide h
 have hlt:=h.rd.lt
 have hnum:=h.num4
 have hhig:=h.hig
 have c7:W.cell? ⟨r,7,none⟩=some (.int .i64 q.number):=(h.rd.cell 7).trans rfl
 have c8:W.cell? ⟨r,8,none⟩=some (.int .i64 q.high):=(h.rd.cell 8).trans rfl
 have f8:W.frozen? ⟨r,8,none⟩=false:=h.rd.frz 8
 clear h
 by_cases hz:q.high=0
 ·rw [hz] at c8
  by_cases h1:55296≤q.number∧q.number<56320
  ·have hq:endQ q=.inr (.tuple #[],{q with high:=q.number}):=by unfold endQ;rw [if_pos ⟨hz,h1⟩]
   rw [hq]
   have d1:decide ((55296:Int)≤(q.number:Int))=true:=by simp;omega
   have d2:decide ((q.number:Int)<56320)=true:=by simp;omega
   have hn:=Or.inr (a:=q.number=0) h1
   clear hq h1 hnum hhig
   go_enter Tryz.func118, Tryz.ntmps118
   go_wp2
   try simp only [Exit.inBlock,Exit.then]
   exact bodyPost_ret (results_none rfl _ _ _) rfl ⟨RdF.refl.set 8 _,rfl,v,H.out.seth _ hn,OB.refl _ _⟩
  ·have EN:=hide (fun w=>Ut.encode_any (q.number:Int) w (by omega) (by omega))
   have ht:twoN q=q.number:=by unfold twoN;rw [if_pos hz]
   have HQ:=hide (hold_q H.out (Utf8.encode (q.number:Int)) (by have:=encode_size_le (q.number:Int);omega))
   by_cases h2:55296≤q.number
   ·have d1:decide ((55296:Int)≤(q.number:Int))=true:=by simp;omega
    have d2:decide ((q.number:Int)<56320)=false:=by simp;omega
    cases hv:Utf8.valid (q.number:Int)
    ·have hq:endQ q=.inl 70:=by unfold endQ;rw [if_neg (fun e=>h1 e.2),if_neg (fun e=>e.1 hz),ht,hv];rfl
     rw [hq]
     rw [hv] at EN
     clear hq h1 hnum hhig HQ
     go_enter Tryz.func118, Tryz.ntmps118
     go_wp2_with (go_at_call 135;refine (EN.out _).mono ?_;rintro e w1 ⟨rfl,hw1⟩;have hw1s:=hw1.symm;clear hw1;subst hw1s)
     exact ⟨rfl,RdF.refl,rfl,_,H.out.rd⟩
    ·have hq:endQ q=holdQ q (bl (Utf8.encode (q.number:Int))):=by unfold endQ;rw [if_neg (fun e=>h1 e.2),if_neg (fun e=>e.1 hz),ht,hv,if_pos rfl,show ({q with high:=0}:Qa)=q by cases q;cases hz;rfl]
     rw [hq]
     rw [hv] at EN
     clear hq h1 hnum hhig
     cases ho:holdQ q (bl (Utf8.encode (q.number:Int))) with
     | inl E =>
      rw [ho] at HQ
      go_enter Tryz.func118, Tryz.ntmps118
      go_wp2_with (first|(go_at_call 135;refine (EN.out _).mono ?_;rintro e w1 ⟨rfl,hw1⟩;have hw1s:=hw1.symm;clear hw1;subst hw1s)|(go_at_call 117;refine HQ.out.mono ?_;rintro e w1 ⟨F1,rfl,M1⟩;have F:=hide F1;have M:=hide M1;clear F1 M1))
      exact ⟨rfl,F.out,rfl,M.out⟩
     | inr x =>
      rw [ho] at HQ
      have hx1:x.1=.tuple #[]:=by
       unfold holdQ at ho
       split at ho
       ·cases ho;rfl
       ·cases ho
      go_enter Tryz.func118, Tryz.ntmps118
      go_wp2_with (first|(go_at_call 135;refine (EN.out _).mono ?_;rintro e w1 ⟨rfl,hw1⟩;have hw1s:=hw1.symm;clear hw1;subst hw1s)|(go_at_call 117;refine HQ.out.mono ?_;rintro e w1 ⟨F1,rfl,M1⟩;have F:=hide F1;have M:=hide M1;clear F1 M1))
      go_end0
      exact ⟨F.out,by rw [hx1],M.out⟩
   ·have d1:decide ((55296:Int)≤(q.number:Int))=false:=by simp;omega
    cases hv:Utf8.valid (q.number:Int)
    ·have hq:endQ q=.inl 70:=by unfold endQ;rw [if_neg (fun e=>h1 e.2),if_neg (fun e=>e.1 hz),ht,hv];rfl
     rw [hq]
     rw [hv] at EN
     clear hq h1 hnum hhig HQ
     go_enter Tryz.func118, Tryz.ntmps118
     go_wp2_with (go_at_call 135;refine (EN.out _).mono ?_;rintro e w1 ⟨rfl,hw1⟩;have hw1s:=hw1.symm;clear hw1;subst hw1s)
     exact ⟨rfl,RdF.refl,rfl,_,H.out.rd⟩
    ·have hq:endQ q=holdQ q (bl (Utf8.encode (q.number:Int))):=by unfold endQ;rw [if_neg (fun e=>h1 e.2),if_neg (fun e=>e.1 hz),ht,hv,if_pos rfl,show ({q with high:=0}:Qa)=q by cases q;cases hz;rfl]
     rw [hq]
     rw [hv] at EN
     clear hq h1 hnum hhig
     cases ho:holdQ q (bl (Utf8.encode (q.number:Int))) with
     | inl E =>
      rw [ho] at HQ
      go_enter Tryz.func118, Tryz.ntmps118
      go_wp2_with (first|(go_at_call 135;refine (EN.out _).mono ?_;rintro e w1 ⟨rfl,hw1⟩;have hw1s:=hw1.symm;clear hw1;subst hw1s)|(go_at_call 117;refine HQ.out.mono ?_;rintro e w1 ⟨F1,rfl,M1⟩;have F:=hide F1;have M:=hide M1;clear F1 M1))
      exact ⟨rfl,F.out,rfl,M.out⟩
     | inr x =>
      rw [ho] at HQ
      have hx1:x.1=.tuple #[]:=by
       unfold holdQ at ho
       split at ho
       ·cases ho;rfl
       ·cases ho
      go_enter Tryz.func118, Tryz.ntmps118
      go_wp2_with (first|(go_at_call 135;refine (EN.out _).mono ?_;rintro e w1 ⟨rfl,hw1⟩;have hw1s:=hw1.symm;clear hw1;subst hw1s)|(go_at_call 117;refine HQ.out.mono ?_;rintro e w1 ⟨F1,rfl,M1⟩;have F:=hide F1;have M:=hide M1;clear F1 M1))
      go_end0
      exact ⟨F.out,by rw [hx1],M.out⟩
 ·have eh:((q.high:Int)==0)=false:=by simpa using hz
  have ehn:((q.high:Int) != 0)=true:=by simpa using hz
  by_cases h3:q.number<56320
  ·have hq:endQ q=.inl 70:=by unfold endQ;rw [if_neg (fun e=>hz e.1),if_pos ⟨hz,Or.inl h3⟩]
   rw [hq]
   have d2:decide ((q.number:Int)<56320)=true:=by simp;omega
   clear hq h3 hnum hhig hz
   generalize (q.high:Int)=X at c8 eh ehn
   go_enter Tryz.func118, Tryz.ntmps118
   go_wp2_with fail
   exact ⟨rfl,RdF.refl,rfl,_,H.out.rd⟩
  ·have d2:decide ((q.number:Int)<56320)=false:=by simp;omega
   by_cases h4:57344≤q.number
   ·have hq:endQ q=.inl 70:=by unfold endQ;rw [if_neg (fun e=>hz e.1),if_pos ⟨hz,Or.inr h4⟩]
    rw [hq]
    have d3:decide ((57344:Int)≤(q.number:Int))=true:=by simp;omega
    have d1:decide ((55296:Int)≤(q.number:Int))=true:=by simp;omega
    clear hq h3 h4 hnum hhig hz
    generalize (q.high:Int)=X at c8 eh ehn
    generalize (q.number:Int)=Y at c7 d1 d2 d3
    go_enter Tryz.func118, Tryz.ntmps118
    go_wp2_with fail
    exact ⟨rfl,RdF.refl,rfl,_,H.out.rd⟩
   ·have d3:decide ((57344:Int)≤(q.number:Int))=false:=by simp;omega
    obtain ⟨b,hb⟩:∃ b:Nat,q.high=55296 + b:=⟨q.high - 55296,by omega⟩
    have hb2:b<1024:=by omega
    have hB:=hide (show 0≤(q.high:Int) - 55296∧(q.high:Int) - 55296<1024 by omega)
    have hw1:IntKind.i64.wrap ((q.high:Int) - 55296)=(q.high:Int) - 55296:=by rw [IntKind.wrap_i64] <;> omega
    have k1:IntKind.i64.wrap (((q.high:Int) - 55296) * 1024)=((q.high:Int) - 55296) * 1024:=by rw [IntKind.wrap_i64] <;> omega
    have k2:IntKind.i64.wrap (65536 + ((q.high:Int) - 55296) * 1024)=65536 + ((q.high:Int) - 55296) * 1024:=by rw [IntKind.wrap_i64] <;> omega
    have k3:IntKind.i64.wrap (65536 + ((q.high:Int) - 55296) * 1024 + (q.number:Int))=65536 + ((q.high:Int) - 55296) * 1024 + (q.number:Int):=by rw [IntKind.wrap_i64] <;> omega
    have k4:IntKind.i64.wrap (65536 + ((q.high:Int) - 55296) * 1024 + (q.number:Int) - 56320)=65536 + ((q.high:Int) - 55296) * 1024 + (q.number:Int) - 56320:=by rw [IntKind.wrap_i64] <;> omega
    have ht:twoN q=65536 + ((q.high:Int) - 55296) * 1024 + (q.number:Int) - 56320:=by unfold twoN;rw [if_neg hz]
    have hend:endQ q=if Utf8.valid (twoN q) then holdQ {q with high:=0} (bl (Utf8.encode (twoN q))) else .inl 70:=by unfold endQ;rw [if_neg (fun e=>hz e.1),if_neg (fun e=>e.2.elim h3 h4)]
    have EN:=hide (fun w=>Ut.encode_any (65536 + ((q.high:Int) - 55296) * 1024 + (q.number:Int) - 56320) w (by omega) (by omega))
    rw [ht] at hend
    have H2:=hide (H.out.seth 0 (Or.inl rfl))
    have HQ:=hide (hold_q H2.out (Utf8.encode (65536 + ((q.high:Int) - 55296) * 1024 + (q.number:Int) - 56320)) (by have:=encode_size_le (65536 + ((q.high:Int) - 55296) * 1024 + (q.number:Int) - 56320);omega))
    rw [hend]
    clear hnum hhig hb hb2 h3 h4 hend ht hB
    cases hv:Utf8.valid (65536 + ((q.high:Int) - 55296) * 1024 + (q.number:Int) - 56320)
    ·rw [hv] at EN
     clear HQ
     have EN2:=hide (fun w=>(EN.out w).mono (R':=fun e w'=>e=.returned (.tuple #[.string ⟨#[]⟩,.int .i64 1])∧w'=w) (fun e w' h=>h))
     clear EN hv hz
     have EN:=EN2
     clear EN2
     rw [if_neg (show ¬ (false=true) by decide)]
     have FF:Hid (RdF r v W (W.setCell ⟨r,8,none⟩ (.int .i64 0))):=RdF.refl.set 8 _
     go_enter Tryz.func118, Tryz.ntmps118
     go_wp2_with (go_at_call 135;refine Sto.out ?_)
     clear k1 k2 k3 k4
     have EN3:=hide (EN.out (W.setCell ⟨r,8,none⟩ (.int .i64 0)))
     clear EN c7 c8 f8
     refine Sto.mk ?_
     refine EN3.out.mono ?_
     rintro e w1 ⟨rfl,hw1⟩
     clear EN3
     have FF2:Hid (RdF r v W w1∧RdB w1 r (s.q {q with high:=0} v)):=(by rw [hw1];exact ⟨FF.out,H2.out.rd⟩)
     clear hw1 FF
     generalize 65536 + ((q.high:Int) - 55296) * 1024 + (q.number:Int) - 56320=E0
     go_wp2_with fail
     exact ⟨rfl,FF2.out.1,rfl,_,FF2.out.2⟩
    ·rw [hv] at EN
     rw [if_pos rfl]
     cases ho:holdQ {q with high:=0} (bl (Utf8.encode (65536 + ((q.high:Int) - 55296) * 1024 + (q.number:Int) - 56320))) with
     | inl E =>
      rw [ho] at HQ
      go_enter Tryz.func118, Tryz.ntmps118
      go_wp2_with (first|(go_at_call 135;refine (EN.out _).mono ?_;rintro e w1 ⟨rfl,hw1⟩;have hw1s:=hw1.symm;clear hw1;subst hw1s)|(go_at_call 117;refine HQ.out.mono ?_;rintro e w1 ⟨F1,rfl,M1⟩;have F:=hide F1;have M:=hide M1;clear F1 M1))
      exact ⟨rfl,F.out.pre8,rfl,M.out⟩
     | inr x =>
      rw [ho] at HQ
      have hx1:x.1=.tuple #[]:=by
       unfold holdQ at ho
       split at ho
       ·cases ho;rfl
       ·cases ho
      go_enter Tryz.func118, Tryz.ntmps118
      go_wp2_with (first|(go_at_call 135;refine (EN.out _).mono ?_;rintro e w1 ⟨rfl,hw1⟩;have hw1s:=hw1.symm;clear hw1;subst hw1s)|(go_at_call 117;refine HQ.out.mono ?_;rintro e w1 ⟨F1,rfl,M1⟩;have F:=hide F1;have M:=hide M1;clear F1 M1))
      go_end0
      obtain ⟨v1,M1,O1⟩:=M.out
      exact ⟨F.out.pre8,by rw [hx1],v1,M1,O1.imp id (fun f g hg=>by have:=f g hg;simpa using this)⟩
end
end Go.Proofs.YtpimjkdakjhoaaaGreatDoor
