/- Merged by program: DeTell, DfTell, YeState, FbParse. -/
import Derived.Test.YthodiandebahdaaGreatDoorZq31
namespace Go.Proofs.YthodiandebahdaaGreatDoor
open Go.RowKit
set_option linter.unusedSimpArgs false
set_option linter.unusedVariables false
set_option maxHeartbeats 8000000
theorem step_ev {w:World} {ops:Array Oper} {o:Oper} {a:Act} {K:Act→World→Prop} {Q:Exit→Act→World→Prop} {E:Prop} (hgd:o.guard=none)(s x:Operand)(ho:o.op=.call {callee:=.builtin .append,args:=#[s,x],argTypes:=#[45,45]})
  (B:Nat)(v:Value)(n:Nat)(es:List Hd)(hs:a.eval s=v)(hown:w.ownsRow B 76 7 v n (ecs es))(g c:Nat)(hx:a.eval x=.slice (some ⟨g,0,none⟩) 1 c)(e:Hd)
  (hnews:∀ j u,(evs e).toList[j]?=some u→w.cell? ⟨g,j,none⟩=some u)(hm:n≤300000)(hB:B≤w.heap.size)
  (h:∀ av c' w',Hid (w'.ownsRow B 76 7 (.slice av (n+1) c') (n+1) (ecs (es++[e])))→Hid (w.grownBy w' v.ownBlock)→Hid ((Value.slice av (n+1) c').ownBlock=v.ownBlock∨(Value.slice av (n+1) c').ownBlock=some w.heap.size)→K (a.put o.dst (.slice av (n+1) c')) w') :
  if Region.wanted o (yielded ops a.tmps)=true then Oper.wp Tryz.prog o a w K Q else E:=by
 have hw:Region.wanted o (yielded ops a.tmps)=true:=by simp [Region.wanted,hgd]
 rw [if_pos hw]
 obtain ⟨i0,hi,hz0,hz1,hz2⟩:=info_parts infoE
 obtain ⟨v',w',hr,h1,h2,h3,h4⟩:=run_append_own_at (P:=Tryz.prog) w B 45 o.type 76 i0 _ 7 72 Tryz.underlying45 hi hz0 hz1 hz2 rfl (by decide) v n (ecs es) hown ⟨g,0,none⟩ 1 c (evs e).toList rfl (by
  intro j u hj
  rw [show (⟨g,0,none⟩:Addr).add j=⟨g,j,none⟩ by unfold Addr.add;split <;> simp_all]
  exact hnews j u hj) (by
  intro u hu
  simp only [evs,List.mem_cons,List.not_mem_nil,or_false] at hu
  rcases hu with rfl|rfl|rfl|rfl|rfl|rfl|rfl <;> rfl) (by unfold maxLen;omega) (by omega) hB
 unfold Oper.wp execOp
 simp only [ho,resolve,invoke,builtin,Sem.run_bind,Sem.run_pure,Result.andThen_ok,List.map_toArray,List.map_cons,List.map_nil,hs,hx,hr]
 rw [←ecs_one,←ecs_app] at h1
 have h1':=h1
 rcases h1.2 with ⟨rfl,e⟩|⟨g',cap,cur,rfl,_⟩
 ·omega
 ·exact h _ _ w' h1' h2 h4
section
variable {W W1 W2 : World} {E0 : Int} {g : Tg} {m : Tm} {st : Tl}
set_option maxRecDepth 100000 in
theorem tell_e (h:TM E0 W g m st)(e:Hd)(hz:EvZ e)(hn:st.n≤200000) {x:List Pa×Bool} (hf:feedE (some st.ck) (mayB e) e=some x) {y:Nat×List Tp} (ht:takeT st.tz st.tp e=some y)(hp:st.passed=false):Calls Tryz.prog 128 #[.pointer (some ⟨g.t,0,none⟩),.agg (evs e)] W fun q w'=>TP E0 W g m (.inr {st with ck:=x,tz:=y.1,tp:=y.2,n:=st.n+1,told:=st.told++[e]}) q w':=by
 have hlt:=h.lt
 obtain ⟨W0,hW0⟩:∃ W0,W0=W.alloc (.cells (evs e) 76):=⟨_,rfl⟩
 have B0:Hid (Below W.heap.size W W0):=by rw [hW0];exact below_al (Below.refl _ _)
 have EE0:Hid (EB W0 W.heap.size e):=by rw [hW0];exact EB.new W e
 have M0:=hide (h.then B0.out)
 have NB:=hide (h.nob (Nat.le_refl _))
 have lo:=hide h.lo
 have gk:=hide h.gk
 have htl:=hide h.tl
 clear h
 obtain ⟨k,hk⟩:∃ k,W.heap.size=k:=⟨_,rfl⟩
 rw [hk] at EE0 NB
 have FE2:Hid (∀ w1,TM E0 w1 g m st→EB w1 k e→Calls Tryz.prog 35 #[.pointer (some ⟨g.ck,0,none⟩),.agg (evs e)] w1 fun q w'=>q=.returned (.int .i64 0)∧TF g m w1 w'∧EB w' k e∧TM E0 w' g m {st with ck:=x,n:=st.n+1}):=fun w1 h1 hE=>(feed_q h1 e hz hn hE NB.out).mono (by
  rintro q w2 ⟨h1,h2,h3,_,h4⟩
  rw [hf] at h1
  exact ⟨h1,h2,h3,h4 x hf⟩)
 have TK2:Hid (∀ w1,TM E0 w1 g m {st with ck:=x,n:=st.n+1}→EB w1 k e→Calls Tryz.prog 148 #[.pointer (some ⟨g.ty,0,none⟩),.agg (evs e)] w1 fun q w'=>q=.returned (.int .i64 0)∧TF g m w1 w'∧EB w' k e∧∃ m2,TM E0 w' g m2 {st with ck:=x,n:=st.n+1,tz:=y.1,tp:=y.2}∧OB w1 m.told m2.told):=fun w1 h1 hE=>(tally_q h1 e hE NB.out).mono (by
  intro q w2 hp
  simp only [ht,Option.getD_some] at hp
  exact hp)
 have hn':=hide hn
 clear ht hf hn hz
 have hP:=hide hp
 clear hp
 obtain ⟨d0,d1,d2,d3,d4,d5,d6⟩:=EE0.out.cells
 have c12:W0.cell? ⟨g.t,4,none⟩=some (.pointer (some ⟨g.ck,0,none⟩)):=(M0.out.tb.cell 4).trans rfl
 simp only [evs] at FE2 TK2 hW0 ⊢
 go_enter Tryz.func128, Tryz.ntmps128
 go_wp2
 rw [←hW0]
 clear hW0
 go_region_with (go_at_call 35;refine (FE2.out _ (M0.out.then (by repeat (first|exact Below.refl _ _|refine Below.drew ?_|refine below_al ?_))) (EE0.out.below (by repeat (first|exact Below.refl _ _|refine Below.drew ?_|refine below_al ?_)))).mono ?_;rintro q w1 ⟨rfl,hp1,hp2,hp3⟩;have F1:Hid (TF g m W w1):=(TF.of (below_then B0.out (by repeat (first|exact Below.refl _ _|refine Below.drew ?_|refine below_al ?_))) lo.out).trans (OB.refl _ _) hp1;have M1:=hide hp3;have E1:=hide hp2;have d13:w1.cell? ⟨g.t,5,none⟩=some (.pointer (some ⟨g.ty,0,none⟩)):=(hp3.tb.cell 5).trans rfl;have hb:=hp2.cells;clear hp1 hp2 hp3)
 all_goals
  obtain ⟨a0,a1,a2,a3,a4,a5,a6⟩:=hb
  clear d0 d1 d2 d3 d4 d5 d6 c12
  go_wp2
  go_region_with (go_at_call 148;refine (TK2.out _ (M1.out.then (by repeat (first|exact Below.refl _ _|refine Below.drew ?_|refine below_al ?_))) (E1.out.below (by repeat (first|exact Below.refl _ _|refine Below.drew ?_|refine below_al ?_)))).mono ?_;rintro q w2 ⟨rfl,hp1,hp2,m2,hp3,hp4⟩;have F2:Hid (TF g m W w2):=F1.out.trans (OB.refl _ _) ((TF.of (by repeat (first|exact Below.refl _ _|refine Below.drew ?_|refine below_al ?_)) M1.out.lo).trans (OB.refl _ _) hp1);have O2:Hid (OB W m.told m2.told):=(OB.refl _ _).trans hp4 F1.out.below.size;have M2:=hide hp3;have E2:=hide hp2;have j2:w2.cell? ⟨g.t,3,none⟩=some (.bool false):=(hp3.tb.cell 3).trans (by rw [←hP.out];rfl);have hsT:=hp3.shT;clear hp1 hp2 hp3 hp4)
  all_goals
   obtain ⟨ta,tc,hT⟩:=hsT
   have j14:w2.cell? ⟨g.t,6,none⟩=some (.slice ta st.told.length tc):=(M2.out.tb.cell 6).trans (by rw [←hT];rfl)
   have OT:w2.ownsRow (g.t+1) 76 7 (.slice ta st.told.length tc) st.told.length (ecs st.told):=hT ▸ M2.out.told
   have j14A:=fun o=>((M2.out.then (W1:=w2.alloc o) (below_al (Below.refl _ _))).tb.cell 6).trans (show _=some (.slice ta st.told.length tc) by rw [←hT];rfl)
   have tl:st.told.length≤200000:=Nat.le_trans (Nat.le_of_succ_le_succ (Nat.succ_le_succ (htl.out))) hn'.out
   have OT':=hide OT
   have hT':=hide hT
   have r2:=M2.out.lt
   clear OT hT
   obtain ⟨b0,b1,b2,b3,b4,b5,b6⟩:=E2.out.cells
   clear a0 a1 a2 a3 a4 a5 a6 d13
   go_wp2
   go_region_law (refine step_ev rfl (.tmp 34) (.tmp 36) rfl (g.t+1) (.slice ta st.told.length tc) st.told.length st.told rfl (own_of OT'.out fun k hk hlt=>(show Below w2.heap.size w2 _ by repeat (first|exact Below.refl _ _|refine Below.drew ?_|refine below_al ?_)).block k hlt) w2.heap.size 1 rfl e (news7 w2 _ _ e rfl) (by omega) (by simp;omega) ?_;intro av5 c5 w5 ho5 hg5 hat5;have P5:=hide (M2.out.push (e:=e) hT'.out (by repeat (first|exact Below.refl _ _|refine Below.drew ?_|refine below_al ?_)) hg5.out ho5.out hat5.out (Nat.succ_le_succ htl.out));have K5:TlB w5 g.t _:=((M2.out.then (by repeat (first|exact Below.refl _ _|refine Below.drew ?_|refine below_al ?_))).tb.same (hg5.out.block g.t (by simp;omega) (fun e=>by have:=(World.ownsRow.lt OT'.out g.t e.symm).1;omega)));have l14:=(K5.cell 6).trans (show _=some (.slice ta st.told.length tc) by rw [←hT'.out];rfl);have n14:w5.frozen? ⟨g.t,6,none⟩=false:=K5.frz 6)
   all_goals
    go_wp2
    go_end0
    exact TP.trans F2.out O2.out (P5.out.then (by repeat (first|exact Below.refl _ _|refine Below.drew ?_|refine below_al ?_)) gk.out.loR)
end
section
variable {W W1 W2 : World} {E0 : Int} {g : Tg} {m : Tm} {st : Tl}
theorem tell_q (h:TM E0 W g m st)(e:Hd)(hz:EvZ e)(hn:st.n≤200000):Calls Tryz.prog 128 #[.pointer (some ⟨g.t,0,none⟩),.agg (evs e)] W fun q w'=>TP E0 W g m (tellT E0 st e) q w':=by
 unfold tellT
 cases hf:feedE (some st.ck) (mayB e) e with
 | none=>exact tell_a h e hz hn hf
 | some x =>
  cases ht:takeT st.tz st.tp e with
  | none =>
   simp only
   by_cases h16:16<st.total
   ·rw [if_pos h16];exact tell_b h e hz hn hf ht h16
   ·rw [if_neg h16];exact tell_c h e hz hn hf ht h16
  | some y =>
   simp only
   cases hp:st.passed with
   | true=>have:=tell_d h e hz hn hf ht hp;rw [hp] at this;exact this
   | false=>have:=tell_e h e hz hn hf ht hp;rw [hp] at this;exact this
end
def OwnK (W:World)(B:Nat)(v:Value)(ks:List Int):Prop:=W.ownsRow B 64 1 v ks.length (ks.map (Value.int .i64))
def lastK (ks:List Int):Int:=ks.getLast?.getD 0
structure Xv where
 t:Nat
 mark:Value
 rk:Int
 held:Value
 ref:Value
 opn:Value
 filled:Bool
def Xv.cells (s:Xv):Array Value:=#[.pointer (some ⟨s.t,0,none⟩),s.mark,.int .i64 s.rk,s.held,s.ref,s.opn,.bool s.filled]
def XdB (W:World)(r:Nat)(s:Xv):Prop:=W.heap[r]?=some (.cells s.cells 69 (0,0))
section
variable {W W1 W2 : World} {r : Nat} {s : Xv} {v : Value}
theorem XdB.lt (q:XdB W r s):r<W.heap.size:=(Array.getElem?_eq_some_iff.1 q).1
theorem XdB.same (q:XdB W r s)(h:W1.heap[r]?=W.heap[r]?):XdB W1 r s:=h.trans q
theorem XdB.cell (q:XdB W r s)(j:Nat):W.cell? ⟨r,j,none⟩=s.cells[j]?:=by
 unfold XdB at q
 simp [World.cell?,q]
theorem XdB.frz (q:XdB W r s)(j:Nat):W.frozen? ⟨r,j,none⟩=false:=by
 unfold XdB at q
 simp [World.frozen?,q]
theorem XdB.set (q:XdB W r s)(j:Nat)(u:Value)(s':Xv)(h:s.cells.setIfInBounds j u=s'.cells):XdB (W.setCell ⟨r,j,none⟩ u) r s':=by
 unfold XdB at q ⊢
 rw [setCell_eq_setRow W r j _ _ (0,0) _ q,setRow_heap W r _ _ _ (0,0) q,←h]
theorem TdO.refl:TdO r W W:=⟨Below.refl _ _,fun _ _ _=>rfl⟩
theorem TdO.set (h:TdO r W W1)(j:Nat)(u:Value):TdO r W (W1.setCell ⟨r,j,none⟩ u) :=
 ⟨h.1.setCell (p:=⟨r,j,none⟩) (Nat.le_refl _) _,fun q h1 h2=>(Below.heap_setCell _ _ _ _ h2).trans (h.2 q h1 h2)⟩
end
structure Xs where
 t:Tl
 mark:List UInt8
 rk:Int
 held:List UInt8
 ref:List UInt8
 ks:List Int
 filled:Bool
structure Xm where
 t:Tm
 mark:Value
 held:Value
 ref:Value
 opn:Value
def Xs.xv (st:Xs)(g:Tg)(m:Xm):Xv:=⟨g.t,m.mark,st.rk,m.held,m.ref,m.opn,st.filled⟩
structure Xr (W:World)(r:Nat)(m:Xm)(st:Xs):Prop where
 mark:Own W (r+1) m.mark st.mark
 held:Own W (r+1) m.held st.held
 ref:Own W (r+1) m.ref st.ref
 opn:OwnK W (r+1) m.opn st.ks
 d1:∀ k,m.mark.ownBlock=some k→m.held.ownBlock≠some k
 d2:∀ k,m.mark.ownBlock=some k→m.ref.ownBlock≠some k
 d3:∀ k,m.held.ownBlock=some k→m.ref.ownBlock≠some k
 ml:st.mark.length≤13
 hl:st.held.length≤16384
 rl:st.ref.length≤10
 kl:st.ks.length≤st.t.n
structure XM (W:World)(r:Nat)(g:Tg)(m:Xm)(st:Xs):Prop where
 rd:XdB W r (st.xv g m)
 row:Xr W r m st
 t:TM 100 W g m.t st.t
 lo:g.lo≤r
structure XF (g:Tg)(m:Xm)(W w':World):Prop where
 below:Below g.lo W w'
 keep:∀ (q:Nat)(c:Array Value)(T:TypeId)(f:Nat×Nat),W.heap[q]?=some (.cells c T f)→T≠69→T≠97→T≠101→T≠123→T≠115→T≠211→T≠64→m.mark.ownBlock≠some q→m.held.ownBlock≠some q→m.ref.ownBlock≠some q→m.t.told.ownBlock≠some q→w'.heap[q]?=some (.cells c T f)
structure OMx (W:World)(m m':Xm):Prop where
 mark:OB W m.mark m'.mark
 held:OB W m.held m'.held
 ref:OB W m.ref m'.ref
 told:OB W m.t.told m'.t.told
def XP (W:World)(r:Nat)(g:Tg)(m:Xm)(o:Sum Int Xs)(e:Ending)(w':World):Prop :=
 XF g m W w'∧match o with
 | .inl E=>e=.panicked (pan E)∧(∃ s,XdB w' r s∧s.t=g.t)∧∃ s,TlB w' g.t s
 | .inr st'=>e=.returned (.tuple #[])∧∃ m',XM w' r g m' st'∧OMx W m m'
section
variable {W W1 W2 : World} {r : Nat} {g : Tg} {m m1 m2 : Xm} {st st1 : Xs}
theorem OMx.refl (W:World)(m:Xm):OMx W m m:=⟨OB.refl _ _,OB.refl _ _,OB.refl _ _,OB.refl _ _⟩
theorem OMx.trans (h:OMx W m m1)(k:OMx W1 m1 m2)(hz:W.heap.size≤W1.heap.size):OMx W m m2:=⟨h.mark.trans k.mark hz,h.held.trans k.held hz,h.ref.trans k.ref hz,h.told.trans k.told hz⟩
theorem XF.refl:XF g m W W:=⟨Below.refl _ _,fun _ _ _ _ h _ _ _ _ _ _ _ _ _ _ _=>h⟩
theorem XF.trans (h:XF g m W W1)(o:OMx W m m1)(k:XF g m1 W1 W2):XF g m W W2 :=
 ⟨h.below.trans k.below,fun q c T f hq t1 t2 t3 t4 t5 t6 t7 n1 n2 n3 n4 =>
  have hl:q<W.heap.size:=(Array.getElem?_eq_some_iff.1 hq).1
  k.keep q c T f (h.keep q c T f hq t1 t2 t3 t4 t5 t6 t7 n1 n2 n3 n4) t1 t2 t3 t4 t5 t6 t7 (o.mark.ne hl n1) (o.held.ne hl n2) (o.ref.ne hl n3) (o.told.ne hl n4)⟩
theorem XP.trans {o:Sum Int Xs} {e:Ending} (h:XF g m W W1)(q:OMx W m m1)(k:XP W1 r g m1 o e W2):XP W r g m o e W2:=by
 refine ⟨h.trans q k.1,?_⟩
 cases o with
 | inl E=>exact k.2
 | inr st' =>
  obtain ⟨h1,m',h2,h3⟩:=k.2
  exact ⟨h1,m',h2,q.trans h3 h.below.size⟩
theorem XM.lt (h:XM W r g m st):r<W.heap.size:=h.rd.lt
theorem XM.low (h:XM W r g m st):g.lo≤W.heap.size:=by have:=h.lt;have:=h.lo;omega
theorem Xr.then (h:Xr W r m st)(hb:∀ k,r<k→k<W.heap.size→W1.heap[k]?=W.heap[k]?):Xr W1 r m st :=
 {h with mark:=own_of h.mark fun k hk hl=>hb k (by have:=(World.ownsRow.lt h.mark k hk).1;omega) hl,held:=own_of h.held fun k hk hl=>hb k (by have:=(World.ownsRow.lt h.held k hk).1;omega) hl,ref:=own_of h.ref fun k hk hl=>hb k (by have:=(World.ownsRow.lt h.ref k hk).1;omega) hl,opn:=own_of h.opn fun k hk hl=>hb k (by have:=(World.ownsRow.lt h.opn k hk).1;omega) hl}
theorem XM.then (h:XM W r g m st)(hb:Below W.heap.size W W1):XM W1 r g m st :=
 ⟨h.rd.same (hb.block r h.rd.lt),h.row.then fun k _ hk=>hb.block k hk,h.t.then hb,h.lo⟩
theorem XF.of (hb:Below W.heap.size W W1)(hl:g.lo≤W.heap.size):XF g m W W1:=⟨hb.mono hl,fun q c T f hq _ _ _ _ _ _ _ _ _ _ _=>(hb.block q (Array.getElem?_eq_some_iff.1 hq).1).trans hq⟩
theorem XP.then {o:Sum Int Xs} {e:Ending} (h:XP W r g m o e W1)(hb:Below W1.heap.size W1 W2)(hk:g.lo≤r):XP W r g m o e W2:=by
 obtain ⟨h1,h2⟩:=h
 have hF:g.lo≤W1.heap.size→XF g m W W2:=fun hl=>⟨h1.below.trans (hb.mono hl),fun q c T f hq t1 t2 t3 t4 t5 t6 t7 n1 n2 n3 n4=>by
  have:=h1.keep q c T f hq t1 t2 t3 t4 t5 t6 t7 n1 n2 n3 n4
  rw [hb.block q (Array.getElem?_eq_some_iff.1 this).1,this]⟩
 cases o with
 | inl E =>
  obtain ⟨he,⟨s,hs,e1⟩,s2,hs2⟩:=h2
  have:=hs.lt
  exact ⟨hF (by omega),he,⟨s,hs.same (hb.block r hs.lt),e1⟩,s2,hs2.same (hb.block _ hs2.lt)⟩
 | inr x =>
  obtain ⟨he,m',hm,ho⟩:=h2
  exact ⟨hF hm.low,he,m',hm.then hb,ho⟩
theorem XM.tell (h:XM W r g m st) {v:Value} {B T sz n:Nat} {xs:List Value} (hv:W.ownsRow B T sz v n xs)(hT:T=5∨T=64)(hf:TdF r v W W1):TM 100 W1 g m.t st.t:=by
 have hr:=h.rd
 unfold XdB at hr
 refine h.t.beside hf.below.size (Gu.low h.t.gu hf.below (by have:=h.lo;have:=h.t.gk.low;omega)) (fun q c T' f hq ht=>?_) (fun q hl ht=>?_)
 ·refine hf.keep q (Array.getElem?_eq_some_iff.1 hq).1 (fun e=>?_) (ty_ne hq hv ?_)
  ·subst e
   rw [hr] at hq
   have:=cells_ty hq
   rcases ht with e|e|e|e <;> rw [e] at this <;> exact absurd this (by decide)
  ·rcases hT with e2|e2 <;> rcases ht with e|e|e|e <;> rw [e,e2] <;> decide
 ·refine hf.keep q hl (fun e=>?_) (fun e=>?_)
  ·subst e;exact ty_no hr (by decide) (by decide) ht
  ·obtain ⟨c,f,hc⟩:=own_blk hv e
   refine ty_no hc ?_ ?_ ht <;> rcases hT with e2|e2 <;> rw [e2] <;> decide
theorem XF.ofV (h:XM W r g m st) {v:Value} (hf:TdF r v W W1)(hv:∀ (q:Nat)(c:Array Value)(T:TypeId)(f:Nat×Nat),W.heap[q]?=some (.cells c T f)→T≠64→m.mark.ownBlock≠some q→m.held.ownBlock≠some q→m.ref.ownBlock≠some q→v.ownBlock≠some q):XF g m W W1:=by
 have hr:=h.rd
 unfold XdB at hr
 refine ⟨hf.below.mono h.lo,fun q c T f hq t1 t2 t3 t4 t5 t6 t7 n1 n2 n3 n4=>?_⟩
 rw [hf.keep q (Array.getElem?_eq_some_iff.1 hq).1 (fun e=>?_) (hv q c T f hq t7 n1 n2 n3),hq]
 subst e
 rw [hr] at hq
 cases hq
 exact t1 rfl
theorem XF.ofMark (h:XM W r g m st)(hf:TdF r m.mark W W1):XF g m W W1:=XF.ofV h hf fun _ _ _ _ _ _ n _ _=>n
theorem XF.ofHeld (h:XM W r g m st)(hf:TdF r m.held W W1):XF g m W W1:=XF.ofV h hf fun _ _ _ _ _ _ _ n _=>n
theorem XF.ofRef (h:XM W r g m st)(hf:TdF r m.ref W W1):XF g m W W1:=XF.ofV h hf fun _ _ _ _ _ _ _ _ n=>n
theorem XF.ofOpn (h:XM W r g m st)(hf:TdF r m.opn W W1):XF g m W W1:=XF.ofV h hf fun q c T f hq ht _ _ _=>ty_ne hq h.row.opn ht
theorem XF.ofO (h:XM W r g m st)(ho:TdO r W W1):XF g m W W1:=XF.ofMark h ho.f
theorem XM.blk (h:XM W r g m st)(ho:TdO r W W1) {m':Xm} {st':Xs} (hr:XdB W1 r (st'.xv g m'))(k:Xr W r m' st')(e1:m'.t=m.t)(e2:st'.t=st.t):XM W1 r g m' st' :=
 ⟨hr,k.then fun q h1 h2=>ho.2 q h2 (by omega),by rw [e1,e2];exact h.tell h.row.mark (Or.inl rfl) ho.f,h.lo⟩
theorem own_rdf {u v:Value} {B T T' sz sz' n n':Nat} {xs xs':List Value} (hr:r+1≤B)(h:W.ownsRow B T sz u n xs)(hv:W.ownsRow B T' sz' v n' xs')(hT:T≠T')(hf:TdF r v W W1):W1.ownsRow B T sz u n xs :=
 own_of h fun k hk hl=>hf.keep k hl (by have:=(World.ownsRow.lt h k hk).1;omega) (by obtain ⟨c,f,hc⟩:=own_blk h hk;exact ty_ne hc hv hT)
theorem own_rdf2 {u v:Value} {B T sz n:Nat} {xs:List Value} (hr:r+1≤B)(h:W.ownsRow B T sz u n xs)(hd:∀ k,u.ownBlock=some k→v.ownBlock≠some k)(hf:TdF r v W W1):W1.ownsRow B T sz u n xs :=
 own_of h fun k hk hl=>hf.keep k hl (by have:=(World.ownsRow.lt h k hk).1;omega) (hd k hk)
theorem XM.ofMark (h:XM W r g m st) {l:List UInt8} {v':Value} (hf:TdF r m.mark W W1)(hr:XdB W1 r (({st with mark:=l}:Xs).xv g {m with mark:=v' }))(ho:Own W1 (r+1) v' l)(hl:l.length≤13)(ob:OB W m.mark v'):XM W1 r g {m with mark:=v' } {st with mark:=l}:=by
 have k1:∀ k,m.held.ownBlock=some k→m.mark.ownBlock≠some k:=fun k hk e=>h.row.d1 k e hk
 have k2:∀ k,m.ref.ownBlock=some k→m.mark.ownBlock≠some k:=fun k hk e=>h.row.d2 k e hk
 refine ⟨hr,⟨ho,own_rdf2 (Nat.le_refl _) h.row.held k1 hf,own_rdf2 (Nat.le_refl _) h.row.ref k2 hf,own_rdf (Nat.le_refl _) h.row.opn h.row.mark (by decide) hf,fun k hk e=>?_,fun k hk e=>?_,h.row.d3,hl,h.row.hl,h.row.rl,h.row.kl⟩,h.tell h.row.mark (Or.inl rfl) hf,h.lo⟩
 ·exact ob.ne (World.ownsRow.lt h.row.held k e).2 (k1 k e) hk
 ·exact ob.ne (World.ownsRow.lt h.row.ref k e).2 (k2 k e) hk
theorem XM.ofHeld (h:XM W r g m st) {l:List UInt8} {v':Value} (hf:TdF r m.held W W1)(hr:XdB W1 r (({st with held:=l}:Xs).xv g {m with held:=v' }))(ho:Own W1 (r+1) v' l)(hl:l.length≤16384)(ob:OB W m.held v'):XM W1 r g {m with held:=v' } {st with held:=l}:=by
 have k2:∀ k,m.ref.ownBlock=some k→m.held.ownBlock≠some k:=fun k hk e=>h.row.d3 k e hk
 refine ⟨hr,⟨own_rdf2 (Nat.le_refl _) h.row.mark h.row.d1 hf,ho,own_rdf2 (Nat.le_refl _) h.row.ref k2 hf,own_rdf (Nat.le_refl _) h.row.opn h.row.held (by decide) hf,fun k hk=>ob.ne (World.ownsRow.lt h.row.mark k hk).2 (h.row.d1 k hk),h.row.d2,fun k hk e=>?_,h.row.ml,hl,h.row.rl,h.row.kl⟩,h.tell h.row.held (Or.inl rfl) hf,h.lo⟩
 exact ob.ne (World.ownsRow.lt h.row.ref k e).2 (k2 k e) hk
theorem XM.ofRef (h:XM W r g m st) {l:List UInt8} {v':Value} (hf:TdF r m.ref W W1)(hr:XdB W1 r (({st with ref:=l}:Xs).xv g {m with ref:=v' }))(ho:Own W1 (r+1) v' l)(hl:l.length≤10)(ob:OB W m.ref v'):XM W1 r g {m with ref:=v' } {st with ref:=l}:=by
 refine ⟨hr,⟨own_rdf2 (Nat.le_refl _) h.row.mark h.row.d2 hf,own_rdf2 (Nat.le_refl _) h.row.held h.row.d3 hf,ho,own_rdf (Nat.le_refl _) h.row.opn h.row.ref (by decide) hf,h.row.d1,fun k hk=>ob.ne (World.ownsRow.lt h.row.mark k hk).2 (h.row.d2 k hk),fun k hk=>ob.ne (World.ownsRow.lt h.row.held k hk).2 (h.row.d3 k hk),h.row.ml,h.row.hl,hl,h.row.kl⟩,h.tell h.row.ref (Or.inl rfl) hf,h.lo⟩
theorem XM.ofOpn (h:XM W r g m st) {l:List Int} {v':Value} (hf:TdF r m.opn W W1)(hr:XdB W1 r (({st with ks:=l}:Xs).xv g {m with opn:=v' }))(ho:OwnK W1 (r+1) v' l)(hl:l.length≤st.t.n):XM W1 r g {m with opn:=v' } {st with ks:=l}:=by
 refine ⟨hr,⟨own_rdf (Nat.le_refl _) h.row.mark h.row.opn (by decide) hf,own_rdf (Nat.le_refl _) h.row.held h.row.opn (by decide) hf,own_rdf (Nat.le_refl _) h.row.ref h.row.opn (by decide) hf,ho,h.row.d1,h.row.d2,h.row.d3,h.row.ml,h.row.hl,h.row.rl,hl⟩,h.tell h.row.opn (Or.inr rfl) hf,h.lo⟩
theorem own_tf {E0:Int} {mt:Tm} {tt:Tl} {u:Value} {B T sz n:Nat} {xs:List Value} (h:W.ownsRow B T sz u n xs)(k:TM E0 W g mt tt)(hf:TF g mt W W1)(hT:T=5∨T=64):W1.ownsRow B T sz u n xs :=
 own_of h fun j hj hl=>by
  obtain ⟨c,f,hc⟩:=own_blk h hj
  rw [hf.keep j c T f hc (by rcases hT with e|e <;> rw [e] <;> decide) (by rcases hT with e|e <;> rw [e] <;> decide) (by rcases hT with e|e <;> rw [e] <;> decide) (by rcases hT with e|e <;> rw [e] <;> decide) (by rcases hT with e|e <;> rw [e] <;> decide) (ty_ne hc k.told (by rcases hT with e|e <;> rw [e] <;> decide)),hc]
theorem XM.rdT (h:XM W r g m st)(hf:TF g m.t W W1):XdB W1 r (st.xv g m):=by
 have hr:=h.rd
 unfold XdB at hr
 exact hf.keep r _ _ _ hr (by decide) (by decide) (by decide) (by decide) (by decide) (ty_ne hr h.t.told (by decide))
theorem XF.ofT (h:XM W r g m st)(hf:TF g m.t W W1):XF g m W W1:=⟨hf.below,fun q c T f hq _ t2 t3 t4 t5 t6 _ _ _ _ n4=>hf.keep q c T f hq t2 t3 t4 t5 t6 n4⟩
theorem XM.ofT (h:XM W r g m st)(hf:TF g m.t W W1) {mt:Tm} {tt:Tl} (k:TM 100 W1 g mt tt)(hn:st.t.n≤tt.n):XM W1 r g {m with t:=mt} {st with t:=tt} :=
 ⟨h.rdT hf,{h.row with mark:=own_tf h.row.mark h.t hf (Or.inl rfl),held:=own_tf h.row.held h.t hf (Or.inl rfl),ref:=own_tf h.row.ref h.t hf (Or.inl rfl),opn:=own_tf h.row.opn h.t hf (Or.inr rfl),kl:=Nat.le_trans h.row.kl hn},k,h.lo⟩
def liftT (st:Xs)(o:Sum Int Tl):Sum Int Xs:=bnd o fun t=>.inr {st with t:=t}
theorem XP.ofT (h:XM W r g m st) {o:Sum Int Tl} {e:Ending} (k:TP 100 W g m.t o e W1)(hn:∀ x,o=.inr x→st.t.n≤x.n):XP W r g m (liftT st o) e W1:=by
 refine ⟨XF.ofT h k.1,?_⟩
 cases o with
 | inl E=>exact ⟨k.2.1,⟨_,h.rdT k.1,rfl⟩,k.2.2⟩
 | inr x =>
  obtain ⟨he,mt,hm,ob⟩:=k.2
  exact ⟨he,{m with t:=mt},h.ofT k.1 hm (hn x rfl),⟨OB.refl _ _,OB.refl _ _,OB.refl _ _,ob⟩⟩
theorem tellT_n {E0:Int} {t x:Tl} {e:Hd} (h:tellT E0 t e=.inr x):x.n=t.n+1:=by
 unfold tellT at h
 split at h
 ·cases h
 ·split at h
  ·split at h
   ·cases h
   ·cases h;rfl
  ·cases h;rfl
theorem passT_n {t x:Tl} (h:passT t=.inr x):x.n=t.n:=by
 unfold passT at h
 split at h
 ·cases h
 ·cases h;rfl
theorem countT_n {t x:Tl} (h:countT t=.inr x):x.n=t.n:=by
 unfold countT at h
 split at h
 ·exact (passT_n h).trans rfl
 ·cases h;rfl
end
def Prt (N j:Nat)(p:Pa)(busy:Bool)(es:List Hd):Prop :=
 ∃ (n:Nat)(h:Hd)(l:List (VT n)),j+(n+1)=N∧h.kind=p.1∧7≤p.1∧p.1≤9∧strip h=zr p.1∧h.names=p.2.2∧(p.1≠8→p.2.2=[])∧(p.1=9→okT h.text=true)∧(p.1=8→Nms p.2.2)∧(∀ y∈l,IsV n y) ∧
  (p.1=8→p.2.2.length=l.length+(if p.2.1 || busy then 1 else 0))∧(p.1=9→l.length=if p.2.1 || busy then 0 else 1)∧(busy=true→p.2.1=false)∧(p.1=7→p.2.1=false) ∧
  es=hd0 h :: (kids n h l l.length++(if p.2.1 || busy then preN h l.length else []))
def Rep (N:Nat):List Pa→Bool→List Hd→Prop
 | [],_,es=>es=[]
 | p :: r,busy,es=>∃ es0 e1,es=es0++e1∧Rep N r true es0∧Prt N r.length p busy e1
def Inv (N:Nat)(st:List Pa)(bg:Bool)(es:List Hd):Prop :=
 (st=[]∧bg=false∧es=[])∨(st=[]∧bg=true∧∃ x:VT N,IsV N x∧es=fl N x)∨(st≠[]∧bg=true∧Rep N st false es)
theorem kids_same (n:Nat)(h h':Hd)(l l':List (VT n))(k:Nat)(hk:h'.kind=h.kind)(hn:∀ i,i<k→h'.names[i]?=h.names[i]?)(hl:∀ i,i<k→l'[i]?=l[i]?):kids n h' l' k=kids n h l k:=by
 unfold kids
 congr 1
 refine List.map_congr_left fun i hi=>?_
 have hi':i<k:=List.mem_range.1 hi
 unfold kid preN
 rw [hk,hn i hi',hl i hi']
theorem child_done (N:Nat)(r:List Pa)(es0:List Hd)(n:Nat)(c:VT n)(hn:r.length+n=N)(hc:IsV n c)(hr:Rep N r true es0):Inv N r true (es0++fl n c):=by
 cases r with
 | nil =>
  have e:es0=[]:=hr
  have hn':n=N:=by simpa using hn
  subst hn'
  rw [e]
  exact Or.inr (Or.inl ⟨rfl,rfl,c,hc,rfl⟩)
 | cons p r =>
  obtain ⟨a,e1,rfl,hr',m,h,l,q1,q2,q3,q4,q5,q6,q7,q8,q9,q10,q11,q12,q13,q14,rfl⟩:=hr
  have hm:m=n:=by simp at hn;omega
  subst hm
  have hw:=q13 rfl
  simp only [hw,Bool.false_or,if_true,Bool.or_true] at q11 q12 ⊢
  refine Or.inr (Or.inr ⟨by simp,rfl,a,(hd0 h :: (kids m h l l.length++preN h l.length))++fl m c,by simp,hr',m,h,l++[c],q1,q2,q3,q4,q5,q6,q7,q8,q9,?_,?_,?_,fun e=>(by cases e),q14,?_⟩)
  ·intro y hy
   rcases List.mem_append.1 hy with q|q
   ·exact q10 y q
   ·rw [List.mem_singleton.1 q];exact hc
  ·intro e;rw [q11 e,hw];simp
  ·intro e;rw [hw];simp [q12 e]
  ·rw [hw]
   simp only [List.length_append,List.length_cons,List.length_nil,Nat.zero_add,Bool.or_self,if_false,List.append_nil,List.cons_append,List.append_assoc]
   congr 1
   rw [kids_succ m h (l++[c]) l.length (by simp),kids_same m h h l (l++[c]) l.length rfl (fun _ _=>rfl) (fun i hi=>by rw [List.getElem?_append_left hi])]
   simp
theorem to_busy {N:Nat} {k:Int} {w:Bool} {ns:List ByteArray} {r:List Pa} {es:List Hd} (h:Rep N ((k,w,ns) :: r) false es)(hw:w=true∨k=7):Rep N ((k,false,ns) :: r) true es:=by
 obtain ⟨a,e1,rfl,hr',n,h,l,q1,q2,q3,q4,q5,q6,q7,q8,q9,q10,q11,q12,q13,q14,rfl⟩:=h
 refine ⟨a,_,rfl,hr',n,h,l,q1,q2,q3,q4,q5,q6,q7,q8,q9,q10,?_,?_,fun _=>rfl,fun _=>rfl,?_⟩
 ·intro e
  rcases hw with rfl|e7
  ·simpa using q11 e
  ·have:k=8:=e;omega
 ·intro e
  rcases hw with rfl|e7
  ·simpa using q12 e
  ·have:k=9:=e;omega
 ·rcases hw with rfl|e7
  ·simp
  ·have hp:preN h l.length=[]:=by unfold preN;rw [if_neg (by rw [q2];show k≠8;omega)]
   have:w=false:=q14 e7
   simp [this,hp]
theorem val_busy {N:Nat} {st st':List Pa} {bg bg':Bool} {es:List Hd} (h:Inv N st bg es)(hv:valE st bg=some (st',bg')):bg'=true∧Rep N st' true es∧st'.length=st.length:=by
 cases st with
 | nil =>
  cases bg with
  | true=>cases hv
  | false =>
   cases hv
   rcases h with ⟨_,_,rfl⟩|⟨_,e,_⟩|⟨e,_⟩
   ·exact ⟨rfl,rfl,rfl⟩
   ·cases e
   ·exact absurd rfl e
 | cons p r =>
  obtain ⟨k,w,ns⟩:=p
  rcases h with ⟨e,_⟩|⟨e,_⟩|⟨_,hb,hr⟩
  ·cases e
  ·cases e
  ·have hv2:(if w=true∨k=7 then some ((k,false,ns) :: r,bg) else none)=some (st',bg'):=hv
   by_cases hw:w=true∨k=7
   ·rw [if_pos hw] at hv2
    cases hv2
    exact ⟨hb,to_busy hr hw,rfl⟩
   ·rw [if_neg hw] at hv2
    cases hv2
theorem may_fields {h:Hd} (hm:May h):(if h.kind=9∨h.kind=10 then ({h with kind:=9}:Hd) else if h.kind=11 then {h with kind:=1} else h).names=[]∧sB (if h.kind=9∨h.kind=10 then {h with kind:=9} else if h.kind=11 then {h with kind:=1} else h)=true:=by
 have:=(mayB_iff h).2 hm
 unfold mayB at this
 exact ⟨((sB_iff _).1 this).2.2.2.1,this⟩
theorem may_10 {h:Hd} (hm:May h)(hk:h.kind=10):h=evN h.text∧okT h.text=true:=by
 have:=(may_fields hm).2
 rw [if_pos (Or.inr hk)] at this
 obtain ⟨_,_,h3,h4,_,_,h7⟩:=(sB_iff _).1 this
 obtain ⟨kd,f,ng,dg,ex,bt,tx,nm⟩:=h
 simp only at hk h4
 subst hk h4
 unfold strip zr at h3
 simp at h3
 obtain ⟨rfl,rfl,rfl,rfl,rfl⟩:=h3
 exact ⟨rfl,h7 rfl⟩
theorem may_11 {h:Hd} (hm:May h)(hk:h.kind=11):h=evE:=by
 have:=(may_fields hm).2
 rw [if_neg (by omega),if_pos hk] at this
 obtain ⟨_,_,h3,h4,_,_,h7⟩:=(sB_iff _).1 this
 obtain ⟨kd,f,ng,dg,ex,bt,tx,nm⟩:=h
 simp only at hk h4
 subst hk h4
 unfold strip zr at h3
 simp at h3
 obtain ⟨rfl,rfl,rfl,rfl,rfl,rfl⟩:=h3
 rfl
theorem may_val {h:Hd} (hm:May h)(h10:h.kind≠10)(h11:h.kind≠11):1≤h.kind∧h.kind≤9∧strip h=zr h.kind∧h.names=[]∧(h.kind=3→isN h.neg h.dig h.exp=true)∧(h.kind=5→okT h.text=true)∧(h.kind=9→okT h.text=true):=by
 have:=(may_fields hm).2
 by_cases h9:h.kind=9
 ·rw [if_pos (Or.inl h9)] at this
  have e:({h with kind:=9}:Hd)=h:=by cases h;simp at h9;subst h9;rfl
  rw [e] at this
  exact (sB_iff _).1 this
 ·rw [if_neg (by omega),if_neg h11] at this
  exact (sB_iff _).1 this
theorem hd0_id {h:Hd} (hn:h.names=[]):hd0 h=h:=by
 obtain ⟨kd,f,ng,dg,ex,bt,tx,nm⟩:=h
 simp only at hn
 subst hn
 rfl
theorem inv_step {N:Nat} {st st':List Pa} {bg bg':Bool} {es:List Hd} {h:Hd} (hN:st.length<N)(hI:Inv N st bg es)(hm:May h)(hs:stepE st bg h=some (st',bg')):Inv N st' bg' (es++[h])∧st'.length≤st.length+1:=by
 by_cases h10:h.kind=10
 ·obtain ⟨he,hok⟩:=may_10 hm h10
  unfold stepE at hs
  rw [if_pos h10] at hs
  cases st with
  | nil=>cases hs
  | cons p r =>
   obtain ⟨k,w,ns⟩:=p
   by_cases hc:k=8∧w=false∧inN ns h.text=false
   ·have hs2:some ((8,true,ns++[h.text]) :: r,bg)=some (st',bg'):=by
     have:=hs
     simp only [if_pos hc] at this
     exact this
    cases hs2
    obtain ⟨rfl,rfl,hnot⟩:=hc
    rcases hI with ⟨e,_⟩|⟨e,_⟩|⟨_,hb,a,e1,rfl,hr',n,hh,l,q1,q2,q3,q4,q5,q6,q7,q8,q9,q10,q11,q12,q13,q14,rfl⟩
    ·cases e
    ·cases e
    ·have hlen:ns.length=l.length:=by have:=q11 rfl;simpa using this
     have q6':hh.names=ns:=q6
     have hk8:hh.kind=8:=q2
     have hmem:h.text ∉ ns:=fun hin=>by rw [(inN_iff ns h.text).2 hin] at hnot;cases hnot
     obtain ⟨hn1,hn2⟩:=q9 rfl
     refine ⟨Or.inr (Or.inr ⟨by simp,hb,a,_,List.append_assoc _ _ _,hr',n,{hh with names:=ns++[h.text]},l,q1,q2,q3,q4,?_,rfl,fun e=>absurd rfl e,fun e=>(by cases e),fun _=>⟨?_,?_⟩,q10,?_,fun e=>(by cases e),fun e=>(by cases e),fun e=>(by cases e),?_⟩),by simp⟩
     ·have q5':strip hh=zr 8:=q5
      unfold strip zr at q5' ⊢
      simp [hk8] at q5' ⊢
      exact q5'
     ·intro s hs'
      rcases List.mem_append.1 hs' with q|q
      ·exact hn1 s q
      ·rw [List.mem_singleton.1 q];exact hok
     ·rw [List.nodup_append]
      exact ⟨hn2,by simp,fun x hx y hy=>by rw [List.mem_singleton.1 hy];rintro rfl;exact hmem hx⟩
     ·intro _;simp [hlen]
     ·have hk1:kids n {hh with names:=ns++[h.text]} l l.length=kids n hh l l.length:=kids_same n hh _ l l l.length rfl (fun i hi=>by show (ns++[h.text])[i]?=hh.names[i]?;rw [q6',List.getElem?_append_left (by omega)]) (fun _ _=>rfl)
      have hp1:preN {hh with names:=ns++[h.text]} l.length=[h]:=by
       unfold preN
       rw [if_pos hk8]
       show [evN (((ns++[h.text])[l.length]?).getD ByteArray.empty)]=[h]
       rw [←hlen]
       simp [←he]
      simp only [Bool.or_false,Bool.or_self,if_true,Bool.false_eq_true,if_false,List.append_nil,hk1,hp1]
      rfl
   ·simp only [if_neg hc] at hs
    cases hs
 ·by_cases h11:h.kind=11
  ·have he:=may_11 hm h11
   unfold stepE at hs
   rw [if_neg h10,if_pos h11] at hs
   cases st with
   | nil=>cases hs
   | cons p r =>
    obtain ⟨k,w,ns⟩:=p
    cases w with
    | true=>cases hs
    | false =>
     cases hs
     rcases hI with ⟨e,_⟩|⟨e,_⟩|⟨_,hb,a,e1,rfl,hr',n,hh,l,q1,q2,q3,q4,q5,q6,q7,q8,q9,q10,q11,q12,q13,q14,rfl⟩
     ·cases e
     ·cases e
     ·subst hb
      have q2:hh.kind=k:=q2
      have q3:7≤k:=q3
      have q4:k≤9:=q4
      have q5:strip hh=zr k:=q5
      have q6:hh.names=ns:=q6
      have hv:IsV (n+1) ((hh,l):VT (n+1)):=by
       refine ⟨⟨by show 1≤hh.kind;omega,by show hh.kind≤9;omega,by show strip hh=zr hh.kind;rw [q2];exact q5,Or.inl (by show 7≤hh.kind;omega)⟩,⟨fun e=>?_,fun e=>?_,fun e=>?_,fun e=>?_⟩,q10⟩
       ·have:hh.kind=3:=e;omega
       ·have:hh.kind=5:=e;omega
       ·have e8:k=8:=q2.symm.trans e
        refine ⟨?_,?_⟩
        ·show hh.names.length=l.length
         rw [q6];have:=q11 e8;simpa using this
        ·show Nms hh.names
         rw [q6];exact q9 e8
       ·have e9:k=9:=q2.symm.trans e
        exact ⟨q8 e9,by have:=q12 e9;simpa using this⟩
      have hfl:fl (n+1) ((hh,l):VT (n+1))=hd0 hh :: (kids n hh l l.length++[evE]):=by rw [fl_succ,if_neg (by omega)]
      have hd:=child_done N _ a (n+1) (hh,l) q1 hv hr'
      rw [hfl] at hd
      refine ⟨?_,by simp;omega⟩
      rw [he]
      simpa using hd
  ·obtain ⟨m1,m2,m3,m4,m5,m6,m7⟩:=may_val hm h10 h11
   unfold stepE at hs
   rw [if_neg h10,if_neg h11] at hs
   cases hv:valE st bg with
   | none=>rw [hv] at hs;cases hs
   | some x =>
    obtain ⟨s1,b1⟩:=x
    rw [hv] at hs
    have hs2:some (newE h.kind++s1,b1)=some (st',bg'):=hs
    cases hs2
    obtain ⟨hb,hrep,hlen⟩:=val_busy hI hv
    subst hb
    obtain ⟨n,hn⟩:∃ n,s1.length+(n+1)=N:=⟨N - s1.length - 1,by omega⟩
    by_cases h7:h.kind<7
    ·have hnew:newE h.kind=[]:=by unfold newE;rw [if_neg (by omega),if_neg (by omega),if_neg (by omega)]
     rw [hnew]
     have hv2:IsV (n+1) ((h,[]):VT (n+1)):=⟨⟨m1,m2,m3,Or.inr rfl⟩,⟨m5,m6,fun e=>(by have:h.kind=8:=e;omega),fun e=>(by have:h.kind=9:=e;omega)⟩,fun y hy=>(by cases hy)⟩
     have hd:=child_done N s1 es (n+1) (h,[]) hn hv2 hrep
     rw [fl_succ,if_pos h7,hd0_id m4] at hd
     exact ⟨hd,by simp;omega⟩
    ·have hk:h.kind=7∨h.kind=8∨h.kind=9:=by omega
     have hnew:newE h.kind=[(h.kind,decide (h.kind=9),[])]:=by
      rcases hk with e|e|e <;> rw [e] <;> rfl
     rw [hnew]
     refine ⟨Or.inr (Or.inr ⟨by simp,rfl,es,[h],rfl,hrep,n,h,[],hn,rfl,by show 7≤h.kind;omega,m2,m3,m4,fun _=>rfl,m7,fun _=>⟨fun s hs'=>(by cases hs'),List.nodup_nil⟩,fun y hy=>(by cases hy),?_,?_,fun e=>(by cases e),?_,?_⟩),by simp;omega⟩
     ·intro e
      have e8:h.kind=8:=e
      simp [e8]
     ·intro e
      have e9:h.kind=9:=e
      simp [e9]
     ·intro e
      have e7:h.kind=7:=e
      simp [e7]
     ·have hp:(if (decide (h.kind=9) || false)=true then preN h 0 else [])=[]:=by
       by_cases e9:h.kind=9
       ·simp only [e9,decide_true,Bool.true_or,if_true]
        unfold preN
        rw [if_neg (by omega)]
       ·simp [e9]
      show [h]=hd0 h :: (kids n h [] 0++(if (decide (h.kind=9) || false)=true then preN h 0 else []))
      rw [hp,kids_zero,hd0_id m4]
      rfl
theorem run_inv (N:Nat):∀ (k:Nat)(es:List Hd),es.length=k→k≤N→∀ (st:List Pa)(bg:Bool),runE es=some (st,bg)→Inv N st bg es∧st.length≤es.length:=by
 intro k
 induction k with
 | zero =>
  intro es hl _ st bg hr
  have e:es=[]:=List.eq_nil_of_length_eq_zero hl
  subst e
  have:some (([]:List Pa),false)=some (st,bg):=hr
  cases this
  exact ⟨Or.inl ⟨rfl,rfl,rfl⟩,by simp⟩
 | succ k ih =>
  intro es hl hN st bg hr
  rcases List.eq_nil_or_concat es with rfl|⟨p,h,rfl⟩
  ·cases hl
  ·rw [List.concat_eq_append] at hl hr ⊢
   have hp:p.length=k:=by simpa using hl
   have hr2:feedE (runE p) (mayB h) h=some (st,bg):=by
    unfold runE at hr ⊢
    rw [runS_app] at hr
    exact hr
   cases hq:runE p with
   | none=>rw [hq,feedE_none] at hr2;cases hr2
   | some x =>
    obtain ⟨s0,b0⟩:=x
    rw [hq] at hr2
    cases hmb:mayB h with
    | false=>rw [hmb] at hr2;cases hr2
    | true =>
     have hm:=(mayB_iff h).1 hmb
     rw [feedE_ok hm] at hr2
     obtain ⟨h1,h2⟩:=ih p hp (by omega) s0 b0 hq
     obtain ⟨h3,h4⟩:=inv_step (by omega) h1 hm hr2
     exact ⟨h3,by simp;omega⟩
theorem parse (es:List Hd)(hd:runE es=some ([],true)):∃ x:VT es.length,IsV es.length x∧es=fl es.length x:=by
 obtain ⟨h,_⟩:=run_inv es.length es.length es rfl (Nat.le_refl _) [] true hd
 rcases h with ⟨_,e,_⟩|⟨_,_,x,h1,h2⟩|⟨e,_⟩
 ·cases e
 ·exact ⟨x,h1,h2⟩
 ·exact absurd rfl e
end Go.Proofs.YthodiandebahdaaGreatDoor
