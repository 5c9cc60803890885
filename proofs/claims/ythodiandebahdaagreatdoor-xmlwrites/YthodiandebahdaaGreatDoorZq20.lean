/- Merged by program: JpTally. -/
import Derived.Test.YthodiandebahdaaGreatDoorZq19
namespace Go.Proofs.YthodiandebahdaaGreatDoor
open Go.RowKit
set_option linter.unusedSimpArgs false
set_option linter.unusedVariables false
set_option maxHeartbeats 8000000
theorem infoTp:(Tryz.prog.info? 211).map (fun i=>(i.zero,i.size,i.bytes))=some (some (.agg #[.int .i64 0,.int .i64 0]),2,16):=by kernel_rfl
section
variable {w : World} {ops : Array Oper} {rest : List Oper} {o : Oper} {a : Act} {Q : Exit → Act → World → Prop}
theorem app_tp (hgd:o.guard=none)(s x:Operand)(ho:o.op=.call {callee:=.builtin .append,args:=#[s,x],argTypes:=#[113,113]})
  (B:Nat)(v:Value)(n:Nat)(xs:List Value)(hs:a.eval s=v)(hown:w.ownsRow B 211 2 v n xs)(g c:Nat)(hx:a.eval x=.slice (some ⟨g,0,none⟩) 1 c)(p:Tp)
  (hnews:∀ j u,(tcs p)[j]?=some u→w.cell? ⟨g,j,none⟩=some u)(hm:n≤200000)(hB:B≤w.heap.size)
  (h:∀ av c' w',Hid (w'.ownsRow B 211 2 (.slice av (n+1) c') (n+1) (xs++tcs p))→Hid (w.grownBy w' v.ownBlock)→wpList Tryz.prog ops Q rest (a.put o.dst (.slice av (n+1) c')) w'):wpList Tryz.prog ops Q (o :: rest) a w:=by
 obtain ⟨i0,hi,hz0,hz1,hz2⟩:=info_parts infoTp
 refine wpList_append_own_at w hgd s x 113 ho B 211 i0 _ 2 16 Tryz.underlying113 hi hz0 hz1 hz2 rfl (by decide) v n xs hs hown ⟨g,0,none⟩ 1 c (tcs p) hx rfl ?_ ?_ ?_ ?_ hB ?_
 ·intro j u hj
  rw [show (⟨g,0,none⟩:Addr).add j=⟨g,j,none⟩ by unfold Addr.add;split <;> simp_all]
  exact hnews j u hj
 ·intro u hu
  simp only [tcs,List.mem_cons,List.not_mem_nil,or_false] at hu
  rcases hu with rfl|rfl <;> rfl
 ·unfold maxLen;omega
 ·omega
 ·intro v' w' h1 h2 h3 h4
  rcases h1.2 with ⟨rfl,e⟩|⟨g',cap,cur,rfl,_⟩
  ·omega
  ·exact h _ _ w' h1 h2
end
theorem news2 (w W:World)(T:TypeId)(p:Tp)(hW:W.heap=(w.alloc (.cells #[.int .i64 p.kind,.int .i64 p.items] T)).heap):∀ j u,(tcs p)[j]?=some u→W.cell? ⟨w.heap.size,j,none⟩=some u:=by
 intro j u hj
 have q:W.heap[w.heap.size]?=some (.cells #[.int .i64 p.kind,.int .i64 p.items] T (0,0)):=by rw [hW];exact heap_alloc_new _ _
 unfold World.cell?
 rw [q]
 show (#[.int .i64 p.kind,.int .i64 p.items]:Array Value)[j]?=some u
 rw [←hj,List.getElem?_toArray]
 rfl
structure TyF (t:Nat)(v:Value)(W w':World):Prop where
 below:Below t W w'
 keep:∀ q,q<W.heap.size→q≠t→v.ownBlock≠some q→w'.heap[q]?=W.heap[q]?
def TyP (W:World)(t B:Nat)(v:Value)(z:Nat)(ps:List Tp)(w':World):Prop:=∃ v',TyA w' t B v' z ps∧TyF t v W w'
section
variable {W W1 W2 : World} {t B z : Nat} {v : Value} {ps : List Tp}
theorem TyF.refl:TyF t v W W:=⟨Below.refl _ _,fun _ _ _ _=>rfl⟩
theorem TyF.then (h:TyF t v W W1)(k:Below W1.heap.size W1 W2)(ht:t≤W1.heap.size):TyF t v W W2 :=
 ⟨h.below.trans (k.mono ht),fun q h1 h2 h3=>(k.block q (Nat.lt_of_lt_of_le h1 h.below.size)).trans (h.keep q h1 h2 h3)⟩
theorem TyF.set (h:TyF t v W W1)(p:Addr)(u:Value)(hp:p.block=t∨v.ownBlock=some p.block)(htp:t≤p.block):TyF t v W (W1.setCell p u) :=
 ⟨h.below.setCell htp _,fun q h1 h2 h3=>(Below.heap_setCell _ _ _ _ (fun e=>Or.elim hp (fun e2=>h2 (e.trans e2)) (fun e2=>h3 (e ▸ e2)))).trans (h.keep q h1 h2 h3)⟩
theorem TyF.grown (h:TyF t v W W1)(hg:W1.grownBy W2 v.ownBlock)(ht:t<W1.heap.size)(hv:∀ k,v.ownBlock=some k→t<k):TyF t v W W2 :=
 ⟨h.below.grown hg (by omega) (fun k hk=>by have:=hv k hk;omega),fun q h1 h2 h3=>(hg.block q (Nat.lt_of_lt_of_le h1 h.below.size) (fun e=>h3 e.symm)).trans (h.keep q h1 h2 h3)⟩
theorem TyA.bump {qs:List Tp} {p:Tp} {g cp:Nat} (c:TyA W t B (.slice (some ⟨g,0,none⟩) (qs.length+1) cp) z (qs++[p]))(hp:p.items<256):TyA (W.setCell ⟨g,qs.length * 2+1,none⟩ (.int .i64 ((p.items:Int)+1))) t B (.slice (some ⟨g,0,none⟩) (qs.length+1) cp) z (qs++[{p with items:=p.items+1}]):=by
 have hr:=c.row
 rw [List.length_append,List.length_singleton] at hr
 have hg:=(World.ownsRow.lt hr g rfl)
 have hs:=(World.ownsRow.stored hr (qs.length * 2+1) (.int .i64 ((p.items:Int)+1))).1
 rw [txs_set] at hs
 refine ⟨c.tb.same (Below.heap_setCell _ _ _ _ (by have:=c.tB;show t≠g;omega)),?_,c.tB,by simpa using c.hB,by have:=c.len;simpa using this,c.siz,?_⟩
 ·rw [List.length_append,List.length_singleton,txs_app,txs_one]
  exact hs
 ·intro q hq
  rcases List.mem_append.1 hq with h|h
  ·exact c.its q (List.mem_append.2 (Or.inl h))
  ·have hq2:q={p with items:=p.items+1}:=by simpa using h
   subst hq2
   show p.items+1≤256
   omega
theorem TyA.push {v':Value} {p:Tp} (c:TyA W t B v z ps)(hg:W.grownBy W1 v.ownBlock) {n:Nat} (hn:ps.length=n)(ho:W1.ownsRow B 211 2 v' (n+1) (txs ps++tcs p))(hl:n<16)(hp:p.items≤256) :
  TyA (W1.setCell ⟨t,1,none⟩ v') t B v' z (ps++[p]):=by
 subst hn
 have htB:=c.tB
 have hvi:some t≠v.ownBlock:=fun e=>by have:=(World.ownsRow.lt c.row t e.symm).1;omega
 refine ⟨(c.tb.same (hg.block t c.tb.lt hvi)).set1 v',?_,htB,by have:=Nat.le_trans c.hB hg.size;simpa using this,by simp;omega,c.siz,?_⟩
 ·rw [List.length_append,List.length_singleton,txs_app,txs_one]
  exact own_of ho fun k hk hlt=>Below.heap_setCell _ _ _ _ (by have:=(World.ownsRow.lt ho k hk).1;show k≠t;omega)
 ·intro q hq
  rcases List.mem_append.1 hq with h|h
  ·exact c.its q h
  ·have hq2:q=p:=by simpa using h
   subst hq2
   exact hp
theorem TyA.rowN (c:TyA W t B v z ps) {n:Nat} (hn:ps.length=n):W.ownsRow B 211 2 v n (txs ps):=hn ▸ c.row
theorem TyA.more (c:TyA W t B v z ps)(h:z<4096):TyA (W.setCell ⟨t,0,none⟩ (.int .i64 ((z:Int)+1))) t B v (z+1) ps :=
 ⟨c.tb.set0 (z+1),own_of c.row fun k hk _=>Below.heap_setCell _ _ _ _ (by have:=(World.ownsRow.lt c.row k hk).1;have:=c.tB;show k≠t;omega),c.tB,by simpa using c.hB,c.len,by omega,c.its⟩
end
def bmp (ps:List Tp):List Tp:=match ps.getLast? with
 | none=>ps
 | some p=>ps.dropLast++[{p with items:=p.items+1}]
theorem bmp_last (qs:List Tp)(p:Tp):bmp (qs++[p])=qs++[{p with items:=p.items+1}]:=by simp [bmp]
def cnt (z:Nat)(ps:List Tp)(k:Int):Nat×List Tp :=
 let qs:=if begs ps k then bmp ps else ps
 if k=10 then (z,qs) else if k=7∨k=8∨k=9 then (z+1,qs++[⟨k,0⟩]) else (z+1,qs)
theorem count_10 {W:World} {t B z:Nat} {v:Value} {ps:List Tp} (c:TyA W t B v z ps)(hr:rom z ps 10=true):Calls Tryz.prog 174 #[.pointer (some ⟨t,0,none⟩),.int .i64 10] W fun r w'=>r=.returned (.tuple #[])∧TyP W t B v (cnt z ps 10).1 (cnt z ps 10).2 w':=by
 have ml:maxLen=9223372036854775807:=rfl
 have BG:=hide (c.begins 10)
 have hwn:1≤wan 10:=by unfold wan;split <;> omega
 have hrz:z<4096:=by unfold rom at hr;simp at hr;omega
 have hrl:ps.length<16:=by unfold rom at hr;simp at hr;omega
 have hrf:begs ps 10=true→few ps=true:=by intro hb;unfold rom at hr;rw [hb] at hr;simp at hr;exact hr.2
 have hwz:IntKind.i64.wrap ((z:Int)+1)=(z:Int)+1:=by rw [IntKind.wrap_i64] <;> omega
 clear hr hwn
 cases hbg:begs ps 10
 ·rw [hbg] at BG
  have hcn:cnt z ps 10=(z,ps):=by simp [cnt,hbg]
  rw [hcn]
  obtain ⟨va,vc,rfl⟩:=c.shape
  have C0:=hide c
  clear c hcn hrf hbg
  have hl1:=hrl
  go_enter Tryz.func174, Tryz.ntmps174
  go_wp2_with ((go_at_call 188;refine BG.out.mono ?_;rintro e w1 ⟨rfl,m1,hw1⟩;have C1:Hid (TyA w1 t B (.slice va ps.length vc) z ps):=(by rw [hw1];exact C0.out.then ⟨rfl,rfl,rfl,Nat.le_refl _,fun _ _=>rfl⟩);have F1:Hid (TyF t (.slice va ps.length vc) W w1):=(by rw [hw1];exact TyF.refl.then ⟨rfl,rfl,rfl,Nat.le_refl _,fun _ _=>rfl⟩ (Nat.le_of_lt C0.out.tb.lt));clear hw1;have hlt1:t<w1.heap.size:=C1.out.tb.lt;have hB1:Hid (B≤w1.heap.size):=C1.out.hB;obtain ⟨d0,d1,g0,g1⟩:=C1.out.tb.cells;have d1A:=fun o=>(C1.out.then (W1:=w1.alloc o) (below_al (Below.refl _ _))).tb.cells.2.1))
  try simp only [Exit.inBlock,Exit.then]
  exact bodyPost_ret (results_none rfl _ _ _) rfl ⟨rfl,_,C1.out.then (by repeat (first|exact Below.refl _ _|refine Below.drew ?_|refine below_al ?_)),F1.out.then (by repeat (first|exact Below.refl _ _|refine Below.drew ?_|refine below_al ?_)) (by omega)⟩
 ·rw [hbg] at BG
  rcases List.eq_nil_or_concat ps with rfl|⟨qs,p,rfl⟩
  ·cases hbg
  ·rw [List.concat_eq_append] at c hbg hrf hrl ⊢
   have hcn:cnt z (qs++[p]) 10=(z,(qs++[{p with items:=p.items+1}])):=by simp [cnt,hbg,bmp_last]
   have hpf:p.items<256:=by have:=hrf hbg;simpa [few] using this
   rw [hcn]
   obtain ⟨g,cp,rfl,q1,q2,q3,k0,k1,kf⟩:=c.last
   rw [List.length_append,List.length_singleton] at hrl
   have C0:=hide c
   have htg:t<g:=by have:=c.tB;omega
   have hl1:=hrl
   have hwi:IntKind.i64.wrap ((p.items:Int)+1)=(p.items:Int)+1:=by rw [IntKind.wrap_i64] <;> omega
   have hv:IntKind.i64.wrap ((qs.length:Int)+1 - 1)=(qs.length:Int):=by rw [IntKind.wrap_i64] <;> omega
   have hv2:IntKind.i64.wrap ((qs.length:Int))=(qs.length:Int):=by rw [IntKind.wrap_i64] <;> omega
   have hHN:Hid ((qs++[{p with items:=p.items+1}]).length=qs.length+1):=by show _=_;simp
   clear c hcn hrf hbg
   go_enter Tryz.func174, Tryz.ntmps174
   go_wp2_with (go_at_call 188;refine BG.out.mono ?_;rintro e w1 ⟨rfl,m1,hw1⟩;have C1:Hid (TyA w1 t B (.slice (some ⟨g,0,none⟩) (qs.length+1) cp) z (qs++[p])):=(by rw [hw1];exact C0.out.then ⟨rfl,rfl,rfl,Nat.le_refl _,fun _ _=>rfl⟩);have F1:Hid (TyF t (.slice (some ⟨g,0,none⟩) (qs.length+1) cp) W w1):=(by rw [hw1];exact TyF.refl.then ⟨rfl,rfl,rfl,Nat.le_refl _,fun _ _=>rfl⟩ (Nat.le_of_lt C0.out.tb.lt));have k0:w1.cell? ⟨g,qs.length * 2,none⟩=some (.int .i64 p.kind):=(by rw [hw1];exact k0);have k1:w1.cell? ⟨g,qs.length * 2+1,none⟩=some (.int .i64 p.items):=(by rw [hw1];exact k1);have kf:∀ j,w1.frozen? ⟨g,j,none⟩=false:=(by rw [hw1];exact kf);clear hw1;obtain ⟨d0,d1,g0,g1⟩:=C1.out.tb.cells)
   go_region_with (fail)
   all_goals
    have C2:Hid (TyA (w1.setCell ⟨g,qs.length * 2+1,none⟩ (.int .i64 ((p.items:Int)+1))).drew t B (.slice (some ⟨g,0,none⟩) (qs.length+1) cp) z (qs++[{p with items:=p.items+1}])):=(C1.out.bump hpf).then (Below.refl _ _).drew
    have F2:Hid (TyF t (.slice (some ⟨g,0,none⟩) (qs.length+1) cp) W (w1.setCell ⟨g,qs.length * 2+1,none⟩ (.int .i64 ((p.items:Int)+1))).drew):=(F1.out.set ⟨g,qs.length * 2+1,none⟩ _ (Or.inr rfl) (Nat.le_of_lt htg)).then (Below.refl _ _).drew (by have:=C1.out.tb.lt;simp;omega)
    clear k0 k1 kf d0 d1 g0 g1 C1 F1
    generalize (w1.setCell ⟨g,qs.length * 2+1,none⟩ (.int .i64 ((p.items:Int)+1))).drew=w2 at C2 F2 ⊢
    have C1:=C2
    have F1:=F2
    clear C2 F2
    have hlt1:t<w2.heap.size:=C1.out.tb.lt
    have hB1:Hid (B≤w2.heap.size):=C1.out.hB
    obtain ⟨d0,d1,g0,g1⟩:=C1.out.tb.cells
    have d1A:=fun o=>(C1.out.then (W1:=w2.alloc o) (below_al (Below.refl _ _))).tb.cells.2.1
    go_wp2
    try simp only [Exit.inBlock,Exit.then]
    exact bodyPost_ret (results_none rfl _ _ _) rfl ⟨rfl,_,C1.out.then (by repeat (first|exact Below.refl _ _|refine Below.drew ?_|refine below_al ?_)),F1.out.then (by repeat (first|exact Below.refl _ _|refine Below.drew ?_|refine below_al ?_)) (by omega)⟩
theorem count_7 {W:World} {t B z:Nat} {v:Value} {ps:List Tp} (c:TyA W t B v z ps)(hr:rom z ps 7=true):Calls Tryz.prog 174 #[.pointer (some ⟨t,0,none⟩),.int .i64 7] W fun r w'=>r=.returned (.tuple #[])∧TyP W t B v (cnt z ps 7).1 (cnt z ps 7).2 w':=by
 have ml:maxLen=9223372036854775807:=rfl
 have BG:=hide (c.begins 7)
 have hwn:1≤wan 7:=by unfold wan;split <;> omega
 have hrz:z<4096:=by unfold rom at hr;simp at hr;omega
 have hrl:ps.length<16:=by unfold rom at hr;simp at hr;omega
 have hrf:begs ps 7=true→few ps=true:=by intro hb;unfold rom at hr;rw [hb] at hr;simp at hr;exact hr.2
 have hwz:IntKind.i64.wrap ((z:Int)+1)=(z:Int)+1:=by rw [IntKind.wrap_i64] <;> omega
 clear hr hwn
 cases hbg:begs ps 7
 ·rw [hbg] at BG
  have hcn:cnt z ps 7=(z+1,ps++[⟨7,0⟩]):=by simp [cnt,hbg]
  rw [hcn]
  obtain ⟨va,vc,rfl⟩:=c.shape
  have C0:=hide c
  clear c hcn hrf hbg
  have hl1:=hrl
  go_enter Tryz.func174, Tryz.ntmps174
  go_wp2_with (first|(at_builtin;refine Sto.out ?_)|(go_at_call 188;refine BG.out.mono ?_;rintro e w1 ⟨rfl,m1,hw1⟩;have C1:Hid (TyA w1 t B (.slice va ps.length vc) z ps):=(by rw [hw1];exact C0.out.then ⟨rfl,rfl,rfl,Nat.le_refl _,fun _ _=>rfl⟩);have F1:Hid (TyF t (.slice va ps.length vc) W w1):=(by rw [hw1];exact TyF.refl.then ⟨rfl,rfl,rfl,Nat.le_refl _,fun _ _=>rfl⟩ (Nat.le_of_lt C0.out.tb.lt));clear hw1;have hlt1:t<w1.heap.size:=C1.out.tb.lt;have hB1:Hid (B≤w1.heap.size):=C1.out.hB;obtain ⟨d0,d1,g0,g1⟩:=C1.out.tb.cells;have d1A:=fun o=>(C1.out.then (W1:=w1.alloc o) (below_al (Below.refl _ _))).tb.cells.2.1))
  refine Sto.mk ?_
  refine app_tp rfl (.tmp 34) (.tmp 37) rfl B (.slice va ps.length vc) ps.length (txs ps) rfl (own_of (TyA.rowN C1.out rfl) fun k hk hlt=>(show Below w1.heap.size w1 _ by repeat (first|exact Below.refl _ _|refine Below.drew ?_|refine below_al ?_)).block k hlt) w1.heap.size 1 rfl ⟨7,0⟩ (news2 w1 _ _ ⟨7,0⟩ rfl) (by omega) (by have:=hB1.out;simp;omega) ?_
  intro av5 c5 w5 ho5 hg5
  have C5:=hide (((C1.out.then (by repeat (first|exact Below.refl _ _|refine Below.drew ?_|refine below_al ?_))).push hg5.out rfl ho5.out hl1 (by decide)).more hrz)
  have F5:=hide ((((F1.out.then (by repeat (first|exact Below.refl _ _|refine Below.drew ?_|refine below_al ?_)) (by omega)).grown hg5.out (by simp;omega) (fun k hk=>by have:=(World.ownsRow.lt C1.out.row k hk).1;have:=C1.out.tB;omega)).set ⟨t,1,none⟩ (.slice av5 (ps.length+1) c5) (Or.inl rfl) (Nat.le_refl _)).set ⟨t,0,none⟩ (.int .i64 ((z:Int)+1)) (Or.inl rfl) (Nat.le_refl _))
  obtain ⟨j0,j1,l0,l1⟩:=((C1.out.then (W1:=w1.alloc (.cells #[.int .i64 7,.int .i64 0] 211)) (below_al (Below.refl _ _))).tb.same (hg5.out.block t (by simp;omega) (fun e=>by have:=(World.ownsRow.lt C1.out.row t e.symm).1;have:=C1.out.tB;omega))).cells
  go_wp2
  go_end0
  exact ⟨rfl,_,C5.out,F5.out⟩
 ·rw [hbg] at BG
  rcases List.eq_nil_or_concat ps with rfl|⟨qs,p,rfl⟩
  ·cases hbg
  ·rw [List.concat_eq_append] at c hbg hrf hrl ⊢
   have hcn:cnt z (qs++[p]) 7=(z+1,(qs++[{p with items:=p.items+1}])++[⟨7,0⟩]):=by simp [cnt,hbg,bmp_last]
   have hpf:p.items<256:=by have:=hrf hbg;simpa [few] using this
   rw [hcn]
   obtain ⟨g,cp,rfl,q1,q2,q3,k0,k1,kf⟩:=c.last
   rw [List.length_append,List.length_singleton] at hrl
   have C0:=hide c
   have htg:t<g:=by have:=c.tB;omega
   have hl1:=hrl
   have hwi:IntKind.i64.wrap ((p.items:Int)+1)=(p.items:Int)+1:=by rw [IntKind.wrap_i64] <;> omega
   have hv:IntKind.i64.wrap ((qs.length:Int)+1 - 1)=(qs.length:Int):=by rw [IntKind.wrap_i64] <;> omega
   have hv2:IntKind.i64.wrap ((qs.length:Int))=(qs.length:Int):=by rw [IntKind.wrap_i64] <;> omega
   have hHN:Hid ((qs++[{p with items:=p.items+1}]).length=qs.length+1):=by show _=_;simp
   clear c hcn hrf hbg
   go_enter Tryz.func174, Tryz.ntmps174
   go_wp2_with (go_at_call 188;refine BG.out.mono ?_;rintro e w1 ⟨rfl,m1,hw1⟩;have C1:Hid (TyA w1 t B (.slice (some ⟨g,0,none⟩) (qs.length+1) cp) z (qs++[p])):=(by rw [hw1];exact C0.out.then ⟨rfl,rfl,rfl,Nat.le_refl _,fun _ _=>rfl⟩);have F1:Hid (TyF t (.slice (some ⟨g,0,none⟩) (qs.length+1) cp) W w1):=(by rw [hw1];exact TyF.refl.then ⟨rfl,rfl,rfl,Nat.le_refl _,fun _ _=>rfl⟩ (Nat.le_of_lt C0.out.tb.lt));have k0:w1.cell? ⟨g,qs.length * 2,none⟩=some (.int .i64 p.kind):=(by rw [hw1];exact k0);have k1:w1.cell? ⟨g,qs.length * 2+1,none⟩=some (.int .i64 p.items):=(by rw [hw1];exact k1);have kf:∀ j,w1.frozen? ⟨g,j,none⟩=false:=(by rw [hw1];exact kf);clear hw1;obtain ⟨d0,d1,g0,g1⟩:=C1.out.tb.cells)
   go_region_with (fail)
   all_goals
    have C2:Hid (TyA (w1.setCell ⟨g,qs.length * 2+1,none⟩ (.int .i64 ((p.items:Int)+1))).drew t B (.slice (some ⟨g,0,none⟩) (qs.length+1) cp) z (qs++[{p with items:=p.items+1}])):=(C1.out.bump hpf).then (Below.refl _ _).drew
    have F2:Hid (TyF t (.slice (some ⟨g,0,none⟩) (qs.length+1) cp) W (w1.setCell ⟨g,qs.length * 2+1,none⟩ (.int .i64 ((p.items:Int)+1))).drew):=(F1.out.set ⟨g,qs.length * 2+1,none⟩ _ (Or.inr rfl) (Nat.le_of_lt htg)).then (Below.refl _ _).drew (by have:=C1.out.tb.lt;simp;omega)
    clear k0 k1 kf d0 d1 g0 g1 C1 F1
    generalize (w1.setCell ⟨g,qs.length * 2+1,none⟩ (.int .i64 ((p.items:Int)+1))).drew=w2 at C2 F2 ⊢
    have C1:=C2
    have F1:=F2
    clear C2 F2
    have hlt1:t<w2.heap.size:=C1.out.tb.lt
    have hB1:Hid (B≤w2.heap.size):=C1.out.hB
    obtain ⟨d0,d1,g0,g1⟩:=C1.out.tb.cells
    have d1A:=fun o=>(C1.out.then (W1:=w2.alloc o) (below_al (Below.refl _ _))).tb.cells.2.1
    go_wp2_with (at_builtin;refine Sto.out ?_)
    refine Sto.mk ?_
    refine app_tp rfl (.tmp 34) (.tmp 37) rfl B (.slice (some ⟨g,0,none⟩) (qs.length+1) cp) (qs.length+1) (txs (qs++[{p with items:=p.items+1}])) rfl (own_of (TyA.rowN C1.out hHN.out) fun k hk hlt=>(show Below w2.heap.size w2 _ by repeat (first|exact Below.refl _ _|refine Below.drew ?_|refine below_al ?_)).block k hlt) w2.heap.size 1 rfl ⟨7,0⟩ (news2 w2 _ _ ⟨7,0⟩ rfl) (by omega) (by have:=hB1.out;simp;omega) ?_
    intro av5 c5 w5 ho5 hg5
    have C5:=hide (((C1.out.then (by repeat (first|exact Below.refl _ _|refine Below.drew ?_|refine below_al ?_))).push hg5.out hHN.out ho5.out hl1 (by decide)).more hrz)
    have F5:=hide ((((F1.out.then (by repeat (first|exact Below.refl _ _|refine Below.drew ?_|refine below_al ?_)) (by omega)).grown hg5.out (by simp;omega) (fun k hk=>by have:=(World.ownsRow.lt C1.out.row k hk).1;have:=C1.out.tB;omega)).set ⟨t,1,none⟩ (.slice av5 ((qs.length+1)+1) c5) (Or.inl rfl) (Nat.le_refl _)).set ⟨t,0,none⟩ (.int .i64 ((z:Int)+1)) (Or.inl rfl) (Nat.le_refl _))
    obtain ⟨j0,j1,l0,l1⟩:=((C1.out.then (W1:=w2.alloc (.cells #[.int .i64 7,.int .i64 0] 211)) (below_al (Below.refl _ _))).tb.same (hg5.out.block t (by simp;omega) (fun e=>by have:=(World.ownsRow.lt C1.out.row t e.symm).1;have:=C1.out.tB;omega))).cells
    go_wp2
    go_end0
    exact ⟨rfl,_,C5.out,F5.out⟩
theorem count_8 {W:World} {t B z:Nat} {v:Value} {ps:List Tp} (c:TyA W t B v z ps)(hr:rom z ps 8=true):Calls Tryz.prog 174 #[.pointer (some ⟨t,0,none⟩),.int .i64 8] W fun r w'=>r=.returned (.tuple #[])∧TyP W t B v (cnt z ps 8).1 (cnt z ps 8).2 w':=by
 have ml:maxLen=9223372036854775807:=rfl
 have BG:=hide (c.begins 8)
 have hwn:1≤wan 8:=by unfold wan;split <;> omega
 have hrz:z<4096:=by unfold rom at hr;simp at hr;omega
 have hrl:ps.length<16:=by unfold rom at hr;simp at hr;omega
 have hrf:begs ps 8=true→few ps=true:=by intro hb;unfold rom at hr;rw [hb] at hr;simp at hr;exact hr.2
 have hwz:IntKind.i64.wrap ((z:Int)+1)=(z:Int)+1:=by rw [IntKind.wrap_i64] <;> omega
 clear hr hwn
 cases hbg:begs ps 8
 ·rw [hbg] at BG
  have hcn:cnt z ps 8=(z+1,ps++[⟨8,0⟩]):=by simp [cnt,hbg]
  rw [hcn]
  obtain ⟨va,vc,rfl⟩:=c.shape
  have C0:=hide c
  clear c hcn hrf hbg
  have hl1:=hrl
  go_enter Tryz.func174, Tryz.ntmps174
  go_wp2_with (first|(at_builtin;refine Sto.out ?_)|(go_at_call 188;refine BG.out.mono ?_;rintro e w1 ⟨rfl,m1,hw1⟩;have C1:Hid (TyA w1 t B (.slice va ps.length vc) z ps):=(by rw [hw1];exact C0.out.then ⟨rfl,rfl,rfl,Nat.le_refl _,fun _ _=>rfl⟩);have F1:Hid (TyF t (.slice va ps.length vc) W w1):=(by rw [hw1];exact TyF.refl.then ⟨rfl,rfl,rfl,Nat.le_refl _,fun _ _=>rfl⟩ (Nat.le_of_lt C0.out.tb.lt));clear hw1;have hlt1:t<w1.heap.size:=C1.out.tb.lt;have hB1:Hid (B≤w1.heap.size):=C1.out.hB;obtain ⟨d0,d1,g0,g1⟩:=C1.out.tb.cells;have d1A:=fun o=>(C1.out.then (W1:=w1.alloc o) (below_al (Below.refl _ _))).tb.cells.2.1))
  refine Sto.mk ?_
  refine app_tp rfl (.tmp 34) (.tmp 37) rfl B (.slice va ps.length vc) ps.length (txs ps) rfl (own_of (TyA.rowN C1.out rfl) fun k hk hlt=>(show Below w1.heap.size w1 _ by repeat (first|exact Below.refl _ _|refine Below.drew ?_|refine below_al ?_)).block k hlt) w1.heap.size 1 rfl ⟨8,0⟩ (news2 w1 _ _ ⟨8,0⟩ rfl) (by omega) (by have:=hB1.out;simp;omega) ?_
  intro av5 c5 w5 ho5 hg5
  have C5:=hide (((C1.out.then (by repeat (first|exact Below.refl _ _|refine Below.drew ?_|refine below_al ?_))).push hg5.out rfl ho5.out hl1 (by decide)).more hrz)
  have F5:=hide ((((F1.out.then (by repeat (first|exact Below.refl _ _|refine Below.drew ?_|refine below_al ?_)) (by omega)).grown hg5.out (by simp;omega) (fun k hk=>by have:=(World.ownsRow.lt C1.out.row k hk).1;have:=C1.out.tB;omega)).set ⟨t,1,none⟩ (.slice av5 (ps.length+1) c5) (Or.inl rfl) (Nat.le_refl _)).set ⟨t,0,none⟩ (.int .i64 ((z:Int)+1)) (Or.inl rfl) (Nat.le_refl _))
  obtain ⟨j0,j1,l0,l1⟩:=((C1.out.then (W1:=w1.alloc (.cells #[.int .i64 8,.int .i64 0] 211)) (below_al (Below.refl _ _))).tb.same (hg5.out.block t (by simp;omega) (fun e=>by have:=(World.ownsRow.lt C1.out.row t e.symm).1;have:=C1.out.tB;omega))).cells
  go_wp2
  go_end0
  exact ⟨rfl,_,C5.out,F5.out⟩
 ·rw [hbg] at BG
  rcases List.eq_nil_or_concat ps with rfl|⟨qs,p,rfl⟩
  ·cases hbg
  ·rw [List.concat_eq_append] at c hbg hrf hrl ⊢
   have hcn:cnt z (qs++[p]) 8=(z+1,(qs++[{p with items:=p.items+1}])++[⟨8,0⟩]):=by simp [cnt,hbg,bmp_last]
   have hpf:p.items<256:=by have:=hrf hbg;simpa [few] using this
   rw [hcn]
   obtain ⟨g,cp,rfl,q1,q2,q3,k0,k1,kf⟩:=c.last
   rw [List.length_append,List.length_singleton] at hrl
   have C0:=hide c
   have htg:t<g:=by have:=c.tB;omega
   have hl1:=hrl
   have hwi:IntKind.i64.wrap ((p.items:Int)+1)=(p.items:Int)+1:=by rw [IntKind.wrap_i64] <;> omega
   have hv:IntKind.i64.wrap ((qs.length:Int)+1 - 1)=(qs.length:Int):=by rw [IntKind.wrap_i64] <;> omega
   have hv2:IntKind.i64.wrap ((qs.length:Int))=(qs.length:Int):=by rw [IntKind.wrap_i64] <;> omega
   have hHN:Hid ((qs++[{p with items:=p.items+1}]).length=qs.length+1):=by show _=_;simp
   clear c hcn hrf hbg
   go_enter Tryz.func174, Tryz.ntmps174
   go_wp2_with (go_at_call 188;refine BG.out.mono ?_;rintro e w1 ⟨rfl,m1,hw1⟩;have C1:Hid (TyA w1 t B (.slice (some ⟨g,0,none⟩) (qs.length+1) cp) z (qs++[p])):=(by rw [hw1];exact C0.out.then ⟨rfl,rfl,rfl,Nat.le_refl _,fun _ _=>rfl⟩);have F1:Hid (TyF t (.slice (some ⟨g,0,none⟩) (qs.length+1) cp) W w1):=(by rw [hw1];exact TyF.refl.then ⟨rfl,rfl,rfl,Nat.le_refl _,fun _ _=>rfl⟩ (Nat.le_of_lt C0.out.tb.lt));have k0:w1.cell? ⟨g,qs.length * 2,none⟩=some (.int .i64 p.kind):=(by rw [hw1];exact k0);have k1:w1.cell? ⟨g,qs.length * 2+1,none⟩=some (.int .i64 p.items):=(by rw [hw1];exact k1);have kf:∀ j,w1.frozen? ⟨g,j,none⟩=false:=(by rw [hw1];exact kf);clear hw1;obtain ⟨d0,d1,g0,g1⟩:=C1.out.tb.cells)
   go_region_with (fail)
   all_goals
    have C2:Hid (TyA (w1.setCell ⟨g,qs.length * 2+1,none⟩ (.int .i64 ((p.items:Int)+1))).drew t B (.slice (some ⟨g,0,none⟩) (qs.length+1) cp) z (qs++[{p with items:=p.items+1}])):=(C1.out.bump hpf).then (Below.refl _ _).drew
    have F2:Hid (TyF t (.slice (some ⟨g,0,none⟩) (qs.length+1) cp) W (w1.setCell ⟨g,qs.length * 2+1,none⟩ (.int .i64 ((p.items:Int)+1))).drew):=(F1.out.set ⟨g,qs.length * 2+1,none⟩ _ (Or.inr rfl) (Nat.le_of_lt htg)).then (Below.refl _ _).drew (by have:=C1.out.tb.lt;simp;omega)
    clear k0 k1 kf d0 d1 g0 g1 C1 F1
    generalize (w1.setCell ⟨g,qs.length * 2+1,none⟩ (.int .i64 ((p.items:Int)+1))).drew=w2 at C2 F2 ⊢
    have C1:=C2
    have F1:=F2
    clear C2 F2
    have hlt1:t<w2.heap.size:=C1.out.tb.lt
    have hB1:Hid (B≤w2.heap.size):=C1.out.hB
    obtain ⟨d0,d1,g0,g1⟩:=C1.out.tb.cells
    have d1A:=fun o=>(C1.out.then (W1:=w2.alloc o) (below_al (Below.refl _ _))).tb.cells.2.1
    go_wp2_with (at_builtin;refine Sto.out ?_)
    refine Sto.mk ?_
    refine app_tp rfl (.tmp 34) (.tmp 37) rfl B (.slice (some ⟨g,0,none⟩) (qs.length+1) cp) (qs.length+1) (txs (qs++[{p with items:=p.items+1}])) rfl (own_of (TyA.rowN C1.out hHN.out) fun k hk hlt=>(show Below w2.heap.size w2 _ by repeat (first|exact Below.refl _ _|refine Below.drew ?_|refine below_al ?_)).block k hlt) w2.heap.size 1 rfl ⟨8,0⟩ (news2 w2 _ _ ⟨8,0⟩ rfl) (by omega) (by have:=hB1.out;simp;omega) ?_
    intro av5 c5 w5 ho5 hg5
    have C5:=hide (((C1.out.then (by repeat (first|exact Below.refl _ _|refine Below.drew ?_|refine below_al ?_))).push hg5.out hHN.out ho5.out hl1 (by decide)).more hrz)
    have F5:=hide ((((F1.out.then (by repeat (first|exact Below.refl _ _|refine Below.drew ?_|refine below_al ?_)) (by omega)).grown hg5.out (by simp;omega) (fun k hk=>by have:=(World.ownsRow.lt C1.out.row k hk).1;have:=C1.out.tB;omega)).set ⟨t,1,none⟩ (.slice av5 ((qs.length+1)+1) c5) (Or.inl rfl) (Nat.le_refl _)).set ⟨t,0,none⟩ (.int .i64 ((z:Int)+1)) (Or.inl rfl) (Nat.le_refl _))
    obtain ⟨j0,j1,l0,l1⟩:=((C1.out.then (W1:=w2.alloc (.cells #[.int .i64 8,.int .i64 0] 211)) (below_al (Below.refl _ _))).tb.same (hg5.out.block t (by simp;omega) (fun e=>by have:=(World.ownsRow.lt C1.out.row t e.symm).1;have:=C1.out.tB;omega))).cells
    go_wp2
    go_end0
    exact ⟨rfl,_,C5.out,F5.out⟩
theorem count_9 {W:World} {t B z:Nat} {v:Value} {ps:List Tp} (c:TyA W t B v z ps)(hr:rom z ps 9=true):Calls Tryz.prog 174 #[.pointer (some ⟨t,0,none⟩),.int .i64 9] W fun r w'=>r=.returned (.tuple #[])∧TyP W t B v (cnt z ps 9).1 (cnt z ps 9).2 w':=by
 have ml:maxLen=9223372036854775807:=rfl
 have BG:=hide (c.begins 9)
 have hwn:1≤wan 9:=by unfold wan;split <;> omega
 have hrz:z<4096:=by unfold rom at hr;simp at hr;omega
 have hrl:ps.length<16:=by unfold rom at hr;simp at hr;omega
 have hrf:begs ps 9=true→few ps=true:=by intro hb;unfold rom at hr;rw [hb] at hr;simp at hr;exact hr.2
 have hwz:IntKind.i64.wrap ((z:Int)+1)=(z:Int)+1:=by rw [IntKind.wrap_i64] <;> omega
 clear hr hwn
 cases hbg:begs ps 9
 ·rw [hbg] at BG
  have hcn:cnt z ps 9=(z+1,ps++[⟨9,0⟩]):=by simp [cnt,hbg]
  rw [hcn]
  obtain ⟨va,vc,rfl⟩:=c.shape
  have C0:=hide c
  clear c hcn hrf hbg
  have hl1:=hrl
  go_enter Tryz.func174, Tryz.ntmps174
  go_wp2_with (first|(at_builtin;refine Sto.out ?_)|(go_at_call 188;refine BG.out.mono ?_;rintro e w1 ⟨rfl,m1,hw1⟩;have C1:Hid (TyA w1 t B (.slice va ps.length vc) z ps):=(by rw [hw1];exact C0.out.then ⟨rfl,rfl,rfl,Nat.le_refl _,fun _ _=>rfl⟩);have F1:Hid (TyF t (.slice va ps.length vc) W w1):=(by rw [hw1];exact TyF.refl.then ⟨rfl,rfl,rfl,Nat.le_refl _,fun _ _=>rfl⟩ (Nat.le_of_lt C0.out.tb.lt));clear hw1;have hlt1:t<w1.heap.size:=C1.out.tb.lt;have hB1:Hid (B≤w1.heap.size):=C1.out.hB;obtain ⟨d0,d1,g0,g1⟩:=C1.out.tb.cells;have d1A:=fun o=>(C1.out.then (W1:=w1.alloc o) (below_al (Below.refl _ _))).tb.cells.2.1))
  refine Sto.mk ?_
  refine app_tp rfl (.tmp 34) (.tmp 37) rfl B (.slice va ps.length vc) ps.length (txs ps) rfl (own_of (TyA.rowN C1.out rfl) fun k hk hlt=>(show Below w1.heap.size w1 _ by repeat (first|exact Below.refl _ _|refine Below.drew ?_|refine below_al ?_)).block k hlt) w1.heap.size 1 rfl ⟨9,0⟩ (news2 w1 _ _ ⟨9,0⟩ rfl) (by omega) (by have:=hB1.out;simp;omega) ?_
  intro av5 c5 w5 ho5 hg5
  have C5:=hide (((C1.out.then (by repeat (first|exact Below.refl _ _|refine Below.drew ?_|refine below_al ?_))).push hg5.out rfl ho5.out hl1 (by decide)).more hrz)
  have F5:=hide ((((F1.out.then (by repeat (first|exact Below.refl _ _|refine Below.drew ?_|refine below_al ?_)) (by omega)).grown hg5.out (by simp;omega) (fun k hk=>by have:=(World.ownsRow.lt C1.out.row k hk).1;have:=C1.out.tB;omega)).set ⟨t,1,none⟩ (.slice av5 (ps.length+1) c5) (Or.inl rfl) (Nat.le_refl _)).set ⟨t,0,none⟩ (.int .i64 ((z:Int)+1)) (Or.inl rfl) (Nat.le_refl _))
  obtain ⟨j0,j1,l0,l1⟩:=((C1.out.then (W1:=w1.alloc (.cells #[.int .i64 9,.int .i64 0] 211)) (below_al (Below.refl _ _))).tb.same (hg5.out.block t (by simp;omega) (fun e=>by have:=(World.ownsRow.lt C1.out.row t e.symm).1;have:=C1.out.tB;omega))).cells
  go_wp2
  go_end0
  exact ⟨rfl,_,C5.out,F5.out⟩
 ·rw [hbg] at BG
  rcases List.eq_nil_or_concat ps with rfl|⟨qs,p,rfl⟩
  ·cases hbg
  ·rw [List.concat_eq_append] at c hbg hrf hrl ⊢
   have hcn:cnt z (qs++[p]) 9=(z+1,(qs++[{p with items:=p.items+1}])++[⟨9,0⟩]):=by simp [cnt,hbg,bmp_last]
   have hpf:p.items<256:=by have:=hrf hbg;simpa [few] using this
   rw [hcn]
   obtain ⟨g,cp,rfl,q1,q2,q3,k0,k1,kf⟩:=c.last
   rw [List.length_append,List.length_singleton] at hrl
   have C0:=hide c
   have htg:t<g:=by have:=c.tB;omega
   have hl1:=hrl
   have hwi:IntKind.i64.wrap ((p.items:Int)+1)=(p.items:Int)+1:=by rw [IntKind.wrap_i64] <;> omega
   have hv:IntKind.i64.wrap ((qs.length:Int)+1 - 1)=(qs.length:Int):=by rw [IntKind.wrap_i64] <;> omega
   have hv2:IntKind.i64.wrap ((qs.length:Int))=(qs.length:Int):=by rw [IntKind.wrap_i64] <;> omega
   have hHN:Hid ((qs++[{p with items:=p.items+1}]).length=qs.length+1):=by show _=_;simp
   clear c hcn hrf hbg
   go_enter Tryz.func174, Tryz.ntmps174
   go_wp2_with (go_at_call 188;refine BG.out.mono ?_;rintro e w1 ⟨rfl,m1,hw1⟩;have C1:Hid (TyA w1 t B (.slice (some ⟨g,0,none⟩) (qs.length+1) cp) z (qs++[p])):=(by rw [hw1];exact C0.out.then ⟨rfl,rfl,rfl,Nat.le_refl _,fun _ _=>rfl⟩);have F1:Hid (TyF t (.slice (some ⟨g,0,none⟩) (qs.length+1) cp) W w1):=(by rw [hw1];exact TyF.refl.then ⟨rfl,rfl,rfl,Nat.le_refl _,fun _ _=>rfl⟩ (Nat.le_of_lt C0.out.tb.lt));have k0:w1.cell? ⟨g,qs.length * 2,none⟩=some (.int .i64 p.kind):=(by rw [hw1];exact k0);have k1:w1.cell? ⟨g,qs.length * 2+1,none⟩=some (.int .i64 p.items):=(by rw [hw1];exact k1);have kf:∀ j,w1.frozen? ⟨g,j,none⟩=false:=(by rw [hw1];exact kf);clear hw1;obtain ⟨d0,d1,g0,g1⟩:=C1.out.tb.cells)
   go_region_with (fail)
   all_goals
    have C2:Hid (TyA (w1.setCell ⟨g,qs.length * 2+1,none⟩ (.int .i64 ((p.items:Int)+1))).drew t B (.slice (some ⟨g,0,none⟩) (qs.length+1) cp) z (qs++[{p with items:=p.items+1}])):=(C1.out.bump hpf).then (Below.refl _ _).drew
    have F2:Hid (TyF t (.slice (some ⟨g,0,none⟩) (qs.length+1) cp) W (w1.setCell ⟨g,qs.length * 2+1,none⟩ (.int .i64 ((p.items:Int)+1))).drew):=(F1.out.set ⟨g,qs.length * 2+1,none⟩ _ (Or.inr rfl) (Nat.le_of_lt htg)).then (Below.refl _ _).drew (by have:=C1.out.tb.lt;simp;omega)
    clear k0 k1 kf d0 d1 g0 g1 C1 F1
    generalize (w1.setCell ⟨g,qs.length * 2+1,none⟩ (.int .i64 ((p.items:Int)+1))).drew=w2 at C2 F2 ⊢
    have C1:=C2
    have F1:=F2
    clear C2 F2
    have hlt1:t<w2.heap.size:=C1.out.tb.lt
    have hB1:Hid (B≤w2.heap.size):=C1.out.hB
    obtain ⟨d0,d1,g0,g1⟩:=C1.out.tb.cells
    have d1A:=fun o=>(C1.out.then (W1:=w2.alloc o) (below_al (Below.refl _ _))).tb.cells.2.1
    go_wp2_with (at_builtin;refine Sto.out ?_)
    refine Sto.mk ?_
    refine app_tp rfl (.tmp 34) (.tmp 37) rfl B (.slice (some ⟨g,0,none⟩) (qs.length+1) cp) (qs.length+1) (txs (qs++[{p with items:=p.items+1}])) rfl (own_of (TyA.rowN C1.out hHN.out) fun k hk hlt=>(show Below w2.heap.size w2 _ by repeat (first|exact Below.refl _ _|refine Below.drew ?_|refine below_al ?_)).block k hlt) w2.heap.size 1 rfl ⟨9,0⟩ (news2 w2 _ _ ⟨9,0⟩ rfl) (by omega) (by have:=hB1.out;simp;omega) ?_
    intro av5 c5 w5 ho5 hg5
    have C5:=hide (((C1.out.then (by repeat (first|exact Below.refl _ _|refine Below.drew ?_|refine below_al ?_))).push hg5.out hHN.out ho5.out hl1 (by decide)).more hrz)
    have F5:=hide ((((F1.out.then (by repeat (first|exact Below.refl _ _|refine Below.drew ?_|refine below_al ?_)) (by omega)).grown hg5.out (by simp;omega) (fun k hk=>by have:=(World.ownsRow.lt C1.out.row k hk).1;have:=C1.out.tB;omega)).set ⟨t,1,none⟩ (.slice av5 ((qs.length+1)+1) c5) (Or.inl rfl) (Nat.le_refl _)).set ⟨t,0,none⟩ (.int .i64 ((z:Int)+1)) (Or.inl rfl) (Nat.le_refl _))
    obtain ⟨j0,j1,l0,l1⟩:=((C1.out.then (W1:=w2.alloc (.cells #[.int .i64 9,.int .i64 0] 211)) (below_al (Below.refl _ _))).tb.same (hg5.out.block t (by simp;omega) (fun e=>by have:=(World.ownsRow.lt C1.out.row t e.symm).1;have:=C1.out.tB;omega))).cells
    go_wp2
    go_end0
    exact ⟨rfl,_,C5.out,F5.out⟩
theorem count_k {W:World} {t B z:Nat} {v:Value} {ps:List Tp} (k:Int)(n10:k≠10)(n7:k≠7)(n8:k≠8)(n9:k≠9)(c:TyA W t B v z ps)(hr:rom z ps k=true):Calls Tryz.prog 174 #[.pointer (some ⟨t,0,none⟩),.int .i64 k] W fun r w'=>r=.returned (.tuple #[])∧TyP W t B v (cnt z ps k).1 (cnt z ps k).2 w':=by
 have ml:maxLen=9223372036854775807:=rfl
 have BG:=hide (c.begins k)
 have e10:(k==10)=false:=by simpa using n10
 have e7:(k==7)=false:=by simpa using n7
 have e8:(k==8)=false:=by simpa using n8
 have e9:(k==9)=false:=by simpa using n9
 have hwn:1≤wan k:=by unfold wan;split <;> omega
 have hrz:z<4096:=by unfold rom at hr;simp at hr;omega
 have hrl:ps.length<16:=by unfold rom at hr;simp at hr;omega
 have hrf:begs ps k=true→few ps=true:=by intro hb;unfold rom at hr;rw [hb] at hr;simp at hr;exact hr.2
 have hwz:IntKind.i64.wrap ((z:Int)+1)=(z:Int)+1:=by rw [IntKind.wrap_i64] <;> omega
 clear hr hwn
 cases hbg:begs ps k
 ·rw [hbg] at BG
  have hcn:cnt z ps k=(z+1,ps):=by simp [cnt,hbg,n10,n7,n8,n9]
  rw [hcn]
  obtain ⟨va,vc,rfl⟩:=c.shape
  have C0:=hide c
  clear c hcn hrf hbg
  have hl1:=hrl
  go_enter Tryz.func174, Tryz.ntmps174
  go_wp2_with ((go_at_call 188;refine BG.out.mono ?_;rintro e w1 ⟨rfl,m1,hw1⟩;have C1:Hid (TyA w1 t B (.slice va ps.length vc) z ps):=(by rw [hw1];exact C0.out.then ⟨rfl,rfl,rfl,Nat.le_refl _,fun _ _=>rfl⟩);have F1:Hid (TyF t (.slice va ps.length vc) W w1):=(by rw [hw1];exact TyF.refl.then ⟨rfl,rfl,rfl,Nat.le_refl _,fun _ _=>rfl⟩ (Nat.le_of_lt C0.out.tb.lt));clear hw1;have hlt1:t<w1.heap.size:=C1.out.tb.lt;have hB1:Hid (B≤w1.heap.size):=C1.out.hB;obtain ⟨d0,d1,g0,g1⟩:=C1.out.tb.cells;have d1A:=fun o=>(C1.out.then (W1:=w1.alloc o) (below_al (Below.refl _ _))).tb.cells.2.1))
  go_end0
  exact ⟨rfl,_,C1.out.more hrz,F1.out.set ⟨t,0,none⟩ (.int .i64 ((z:Int)+1)) (Or.inl rfl) (Nat.le_refl _)⟩
 ·rw [hbg] at BG
  rcases List.eq_nil_or_concat ps with rfl|⟨qs,p,rfl⟩
  ·cases hbg
  ·rw [List.concat_eq_append] at c hbg hrf hrl ⊢
   have hcn:cnt z (qs++[p]) k=(z+1,(qs++[{p with items:=p.items+1}])):=by simp [cnt,hbg,bmp_last,n10,n7,n8,n9]
   have hpf:p.items<256:=by have:=hrf hbg;simpa [few] using this
   rw [hcn]
   obtain ⟨g,cp,rfl,q1,q2,q3,k0,k1,kf⟩:=c.last
   rw [List.length_append,List.length_singleton] at hrl
   have C0:=hide c
   have htg:t<g:=by have:=c.tB;omega
   have hl1:=hrl
   have hwi:IntKind.i64.wrap ((p.items:Int)+1)=(p.items:Int)+1:=by rw [IntKind.wrap_i64] <;> omega
   have hv:IntKind.i64.wrap ((qs.length:Int)+1 - 1)=(qs.length:Int):=by rw [IntKind.wrap_i64] <;> omega
   have hv2:IntKind.i64.wrap ((qs.length:Int))=(qs.length:Int):=by rw [IntKind.wrap_i64] <;> omega
   have hHN:Hid ((qs++[{p with items:=p.items+1}]).length=qs.length+1):=by show _=_;simp
   clear c hcn hrf hbg
   go_enter Tryz.func174, Tryz.ntmps174
   go_wp2_with (go_at_call 188;refine BG.out.mono ?_;rintro e w1 ⟨rfl,m1,hw1⟩;have C1:Hid (TyA w1 t B (.slice (some ⟨g,0,none⟩) (qs.length+1) cp) z (qs++[p])):=(by rw [hw1];exact C0.out.then ⟨rfl,rfl,rfl,Nat.le_refl _,fun _ _=>rfl⟩);have F1:Hid (TyF t (.slice (some ⟨g,0,none⟩) (qs.length+1) cp) W w1):=(by rw [hw1];exact TyF.refl.then ⟨rfl,rfl,rfl,Nat.le_refl _,fun _ _=>rfl⟩ (Nat.le_of_lt C0.out.tb.lt));have k0:w1.cell? ⟨g,qs.length * 2,none⟩=some (.int .i64 p.kind):=(by rw [hw1];exact k0);have k1:w1.cell? ⟨g,qs.length * 2+1,none⟩=some (.int .i64 p.items):=(by rw [hw1];exact k1);have kf:∀ j,w1.frozen? ⟨g,j,none⟩=false:=(by rw [hw1];exact kf);clear hw1;obtain ⟨d0,d1,g0,g1⟩:=C1.out.tb.cells)
   go_region_with (fail)
   all_goals
    have C2:Hid (TyA (w1.setCell ⟨g,qs.length * 2+1,none⟩ (.int .i64 ((p.items:Int)+1))).drew t B (.slice (some ⟨g,0,none⟩) (qs.length+1) cp) z (qs++[{p with items:=p.items+1}])):=(C1.out.bump hpf).then (Below.refl _ _).drew
    have F2:Hid (TyF t (.slice (some ⟨g,0,none⟩) (qs.length+1) cp) W (w1.setCell ⟨g,qs.length * 2+1,none⟩ (.int .i64 ((p.items:Int)+1))).drew):=(F1.out.set ⟨g,qs.length * 2+1,none⟩ _ (Or.inr rfl) (Nat.le_of_lt htg)).then (Below.refl _ _).drew (by have:=C1.out.tb.lt;simp;omega)
    clear k0 k1 kf d0 d1 g0 g1 C1 F1
    generalize (w1.setCell ⟨g,qs.length * 2+1,none⟩ (.int .i64 ((p.items:Int)+1))).drew=w2 at C2 F2 ⊢
    have C1:=C2
    have F1:=F2
    clear C2 F2
    have hlt1:t<w2.heap.size:=C1.out.tb.lt
    have hB1:Hid (B≤w2.heap.size):=C1.out.hB
    obtain ⟨d0,d1,g0,g1⟩:=C1.out.tb.cells
    have d1A:=fun o=>(C1.out.then (W1:=w2.alloc o) (below_al (Below.refl _ _))).tb.cells.2.1
    go_wp2
    go_end0
    exact ⟨rfl,_,C1.out.more hrz,F1.out.set ⟨t,0,none⟩ (.int .i64 ((z:Int)+1)) (Or.inl rfl) (Nat.le_refl _)⟩
end Go.Proofs.YthodiandebahdaaGreatDoor
