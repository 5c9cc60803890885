/- Merged by program: KiTellD, KiTellZ, KjBegin, KkMarks, KlEnd. -/
import Derived.Test.YtpimjkdakjhoaaaGreatDoorZw32
namespace Go.Proofs.YtpimjkdakjhoaaaGreatDoor
open Go.RowKit
set_option linter.unusedSimpArgs false
set_option linter.unusedVariables false
set_option maxHeartbeats 8000000
theorem step_ev {w:World} {ops:Array Oper} {o:Oper} {a:Act} {K:Act→World→Prop} {Q:Exit→Act→World→Prop} {E:Prop} (hgd:o.guard=none) (s x:Operand) (ho:o.op=.call {callee:=.builtin .append,args:=#[s,x],argTypes:=#[45,45]})
  (B:Nat) (v:Value) (n:Nat) (es:List Hd) (hs:a.eval s=v) (hown:w.ownsRow B 74 7 v n (ecs es)) (g c:Nat) (hx:a.eval x=.slice (some ⟨g,0,none⟩) 1 c) (e:Hd)
  (hnews:∀ j u,(evs e).toList[j]?=some u→w.cell? ⟨g,j,none⟩=some u) (hm:n≤300000) (hB:B≤w.heap.size)
  (h:∀ av c' w',Hid (w'.ownsRow B 74 7 (.slice av (n + 1) c') (n + 1) (ecs (es++[e])))→Hid (w.grownBy w' v.ownBlock)→Hid ((Value.slice av (n + 1) c').ownBlock=v.ownBlock∨(Value.slice av (n + 1) c').ownBlock=some w.heap.size)→K (a.put o.dst (.slice av (n + 1) c')) w') :
  if Region.wanted o (yielded ops a.tmps)=true then Oper.wp Tryz.prog o a w K Q else E:=by
 have hw:Region.wanted o (yielded ops a.tmps)=true:=by simp [Region.wanted,hgd]
 rw [if_pos hw]
 obtain ⟨i0,hi,hz0,hz1,hz2⟩:=info_parts infoE
 obtain ⟨v',w',hr,h1,h2,h3,h4⟩:=run_append_own_at (P:=Tryz.prog) w B 45 o.type 74 i0 _ 7 72 Tryz.underlying45 hi hz0 hz1 hz2 rfl (by decide) v n (ecs es) hown ⟨g,0,none⟩ 1 c (evs e).toList rfl (by
  intro j u hj
  rw [show (⟨g,0,none⟩:Addr).add j=⟨g,j,none⟩ by unfold Addr.add;split <;> simp_all]
  exact hnews j u hj) (by
  intro u hu
  simp only [evs,List.mem_cons,List.not_mem_nil,or_false] at hu
  rcases hu with rfl|rfl|rfl|rfl|rfl|rfl|rfl <;> rfl) (by unfold maxLen;omega) (by omega) hB
 unfold Oper.wp execOp
 simp only [ho,resolve,invoke,builtin,Sem.run_bind,Sem.run_pure,Result.andThen_ok,List.map_toArray,List.map_cons,List.map_nil,hs,hx,hr]
 rw [←ecs_one,←ecs_app] at h1
 have h1':=h1
 rcases h1.2 with ⟨rfl,e⟩|⟨g',cap,cur,rfl,_⟩
 ·omega
 ·exact h _ _ w' h1' h2 h4
section
variable {W W1 W2 : World} {r : Nat} {g : Gv} {m : Mv} {st : St}
set_option maxRecDepth 100000 in
theorem tell_e (h:RM W r g m st) (e:Hd) (hz:EvZ e) (hn:st.n≤200000) {x:List Pa×Bool} (hf:feedE (some st.ck) (mayB e) e=some x) {y:Nat×List Tp} (ht:takeT st.tz st.tp e=some y) (hp:st.passed=false):Calls Tryz.prog 90 #[.pointer (some ⟨r,0,none⟩),.agg (evs e)] W fun q w'=>RP W r g m (.inr {st with ck:=x,tz:=y.1,tp:=y.2,n:=st.n + 1,told:=st.told++[e]}) q w':=by
 have hlt:=h.lt
 obtain ⟨W0,hW0⟩:∃ W0,W0=W.alloc (.cells (evs e) 74):=⟨_,rfl⟩
 have B0:Hid (Below W.heap.size W W0):=by rw [hW0];exact below_al (Below.refl _ _)
 have E0:Hid (EB W0 W.heap.size e):=by rw [hW0];exact EB.new W e
 have M0:=hide (h.then B0.out)
 have NB:=hide (h.nob (Nat.le_refl _))
 have lo:=hide h.lo
 have gk:=hide h.gk
 have htl:=hide h.tl
 clear h
 obtain ⟨k,hk⟩:∃ k,W.heap.size=k:=⟨_,rfl⟩
 rw [hk] at E0 NB
 have FE2:Hid (∀ w1,RM w1 r g m st→EB w1 k e→Calls Tryz.prog 34 #[.pointer (some ⟨g.ck,0,none⟩),.agg (evs e)] w1 fun q w'=>q=.returned (.int .i64 0)∧RF g m w1 w'∧EB w' k e∧RM w' r g m {st with ck:=x,n:=st.n + 1}):=fun w1 h1 hE=>(feed_q h1 e hz hn hE NB.out).mono (by
  rintro q w2 ⟨h1,h2,h3,_,h4⟩
  rw [hf] at h1
  exact ⟨h1,h2,h3,h4 x hf⟩)
 have TK2:Hid (∀ w1,RM w1 r g m {st with ck:=x,n:=st.n + 1}→EB w1 k e→Calls Tryz.prog 120 #[.pointer (some ⟨g.ty,0,none⟩),.agg (evs e)] w1 fun q w'=>q=.returned (.int .i64 0)∧RF g m w1 w'∧EB w' k e∧∃ m2,RM w' r g m2 {st with ck:=x,n:=st.n + 1,tz:=y.1,tp:=y.2}∧OM w1 m m2):=fun w1 h1 hE=>(tally_q h1 e hE NB.out).mono (by
  intro q w2 hp
  simp only [ht,Option.getD_some] at hp
  exact hp)
 have hn':=hide hn
 clear ht hf hn hz
 have hP:=hide hp
 clear hp
 obtain ⟨d0,d1,d2,d3,d4,d5,d6⟩:=E0.out.cells
 have c12:W0.cell? ⟨r,12,none⟩=some (.pointer (some ⟨g.ck,0,none⟩)):=(M0.out.rd.cell 12).trans rfl
 simp only [evs] at FE2 TK2 hW0 ⊢
 go_enter Tryz.func90, Tryz.ntmps90
 go_wp2
 rw [←hW0]
 clear hW0
 go_region_with (go_at_call 34;refine (FE2.out _ (M0.out.then (by repeat (first|exact Below.refl _ _|refine Below.drew ?_|refine below_al ?_))) (E0.out.below (by repeat (first|exact Below.refl _ _|refine Below.drew ?_|refine below_al ?_)))).mono ?_;rintro q w1 ⟨rfl,hp1,hp2,hp3⟩;have F1:Hid (RF g m W w1):=(RF.of (below_then B0.out (by repeat (first|exact Below.refl _ _|refine Below.drew ?_|refine below_al ?_))) lo.out).trans (OM.refl _ _) hp1;have M1:=hide hp3;have E1:=hide hp2;have d13:w1.cell? ⟨r,13,none⟩=some (.pointer (some ⟨g.ty,0,none⟩)):=(hp3.rd.cell 13).trans rfl;have hb:=hp2.cells;clear hp1 hp2 hp3)
 all_goals
  obtain ⟨a0,a1,a2,a3,a4,a5,a6⟩:=hb
  clear d0 d1 d2 d3 d4 d5 d6 c12
  go_wp2
  go_region_with (go_at_call 120;refine (TK2.out _ (M1.out.then (by repeat (first|exact Below.refl _ _|refine Below.drew ?_|refine below_al ?_))) (E1.out.below (by repeat (first|exact Below.refl _ _|refine Below.drew ?_|refine below_al ?_)))).mono ?_;rintro q w2 ⟨rfl,hp1,hp2,m2,hp3,hp4⟩;have F2:Hid (RF g m W w2):=F1.out.trans (OM.refl _ _) ((RF.of (by repeat (first|exact Below.refl _ _|refine Below.drew ?_|refine below_al ?_)) M1.out.lo).trans (OM.refl _ _) hp1);have O2:Hid (OM W m m2):=(OM.refl _ _).trans hp4 F1.out.below.size;have M2:=hide hp3;have E2:=hide hp2;have j2:w2.cell? ⟨r,2,none⟩=some (.bool false):=(hp3.rd.cell 2).trans (by rw [←hP.out];rfl);have hsT:=hp3.shT;clear hp1 hp2 hp3 hp4)
  all_goals
   obtain ⟨ta,tc,hT⟩:=hsT
   have j14:w2.cell? ⟨r,14,none⟩=some (.slice ta st.told.length tc):=(M2.out.rd.cell 14).trans (by rw [←hT];rfl)
   have OT:w2.ownsRow (r + 1) 74 7 (.slice ta st.told.length tc) st.told.length (ecs st.told):=hT ▸ M2.out.told
   have j14A:=fun o=>((M2.out.then (W1:=w2.alloc o) (below_al (Below.refl _ _))).rd.cell 14).trans (show _=some (.slice ta st.told.length tc) by rw [←hT];rfl)
   have tl:st.told.length≤200000:=Nat.le_trans (Nat.le_of_succ_le_succ (Nat.succ_le_succ (htl.out))) hn'.out
   have OT':=hide OT
   have hT':=hide hT
   have r2:=M2.out.lt
   clear OT hT
   obtain ⟨b0,b1,b2,b3,b4,b5,b6⟩:=E2.out.cells
   clear a0 a1 a2 a3 a4 a5 a6 d13
   go_wp2
   go_region_law (refine step_ev rfl (.tmp 30) (.tmp 32) rfl (r + 1) (.slice ta st.told.length tc) st.told.length st.told rfl (own_of OT'.out fun k hk hlt=>(show Below w2.heap.size w2 _ by repeat (first|exact Below.refl _ _|refine Below.drew ?_|refine below_al ?_)).block k hlt) w2.heap.size 1 rfl e (news7 w2 _ _ e rfl) (by omega) (by simp;omega) ?_;intro av5 c5 w5 ho5 hg5 hat5;have P5:=hide (M2.out.push (e:=e) hT'.out (by repeat (first|exact Below.refl _ _|refine Below.drew ?_|refine below_al ?_)) hg5.out ho5.out hat5.out (Nat.succ_le_succ htl.out));have K5:RdB w5 r _:=((M2.out.then (by repeat (first|exact Below.refl _ _|refine Below.drew ?_|refine below_al ?_))).rd.same (hg5.out.block r (by simp;omega) (fun e=>by have:=(World.ownsRow.lt OT'.out r e.symm).1;omega)));have l14:=(K5.cell 14).trans (show _=some (.slice ta st.told.length tc) by rw [←hT'.out];rfl);have n14:w5.frozen? ⟨r,14,none⟩=false:=K5.frz 14)
   all_goals
    go_wp2
    go_end0
    exact RP.trans F2.out O2.out (P5.out.then (by repeat (first|exact Below.refl _ _|refine Below.drew ?_|refine below_al ?_)) gk.out.loR)
end
section
variable {W W1 W2 : World} {r : Nat} {g : Gv} {m : Mv} {st : St}
theorem tell_q (h:RM W r g m st) (e:Hd) (hz:EvZ e) (hn:st.n≤200000):Calls Tryz.prog 90 #[.pointer (some ⟨r,0,none⟩),.agg (evs e)] W fun q w'=>RP W r g m (tellS st e) q w':=by
 unfold tellS
 cases hf:feedE (some st.ck) (mayB e) e with
 | none=>exact tell_a h e hz hn hf
 | some x =>
  cases ht:takeT st.tz st.tp e with
  | none =>
   simp only
   by_cases h16:16<st.total
   ·rw [if_pos h16];exact tell_b h e hz hn hf ht h16
   ·rw [if_neg h16];exact tell_c h e hz hn hf ht h16
  | some y =>
   simp only
   cases hp:st.passed with
   | true=>have:=tell_d h e hz hn hf ht hp;rw [hp] at this;exact this
   | false=>have:=tell_e h e hz hn hf ht hp;rw [hp] at this;exact this
end
theorem infoKi:(Tryz.prog.info? 72).map (fun i=>(i.zero,i.size,i.bytes))=some (some (.int .i64 0),1,8):=by kernel_rfl
theorem step_k {w:World} {ops:Array Oper} {o:Oper} {a:Act} {K:Act→World→Prop} {Q:Exit→Act→World→Prop} {E:Prop} (hgd:o.guard=none) (s x:Operand) (ho:o.op=.call {callee:=.builtin .append,args:=#[s,x],argTypes:=#[67,67]})
  (B:Nat) (v:Value) (n:Nat) (xs:List Value) (hs:a.eval s=v) (hown:w.ownsRow B 72 1 v n xs) (ad:Addr) (c:Nat) (hx:a.eval x=.slice (some ad) 1 c) (k:Int)
  (hnews:∀ j u,[Value.int .i64 k][j]?=some u→w.cell? (ad.add j)=some u) (hm:n≤300000) (hB:B≤w.heap.size)
  (h:∀ av c' w',Hid (w'.ownsRow B 72 1 (.slice av (n + 1) c') (n + 1) (xs++[.int .i64 k]))→Hid (w.grownBy w' v.ownBlock)→K (a.put o.dst (.slice av (n + 1) c')) w') :
  if Region.wanted o (yielded ops a.tmps)=true then Oper.wp Tryz.prog o a w K Q else E:=by
 have hw:Region.wanted o (yielded ops a.tmps)=true:=by simp [Region.wanted,hgd]
 rw [if_pos hw]
 obtain ⟨i0,hi,hz0,hz1,hz2⟩:=info_parts infoKi
 obtain ⟨v',w',hr,h1,h2,h3,h4⟩:=run_append_own_at (P:=Tryz.prog) w B 67 o.type 72 i0 _ 1 8 Tryz.underlying67 hi hz0 hz1 hz2 rfl (by decide) v n xs hown ad 1 c [.int .i64 k] rfl hnews (by
  intro u hu
  simp only [List.mem_cons,List.not_mem_nil,or_false] at hu
  subst hu;rfl) (by unfold maxLen;omega) (by omega) hB
 unfold Oper.wp execOp
 simp only [ho,resolve,invoke,builtin,Sem.run_bind,Sem.run_pure,Result.andThen_ok,List.map_toArray,List.map_cons,List.map_nil,hs,hx,hr]
 have h1':=h1
 rcases h1.2 with ⟨rfl,e⟩|⟨g',cap,cur,rfl,_⟩
 ·omega
 ·exact h _ _ w' h1' h2
theorem news1 (w W:World) (T:TypeId) (k:Int) (hW:W.heap=(w.alloc (.cells #[.int .i64 k] T)).heap):∀ j u,[Value.int .i64 k][j]?=some u→W.cell? ((⟨w.heap.size,0,none⟩:Addr).add j)=some u:=by
 intro j u hj
 rw [show W.cell? ((⟨w.heap.size,0,none⟩:Addr).add j)=(w.alloc (.cells #[.int .i64 k] T)).cell? ((⟨w.heap.size,0,none⟩:Addr).add j) by unfold World.cell?;rw [hW]]
 exact cell_one_new w _ T j u hj
section
variable {W W1 W2 : World} {r : Nat} {g : Gv} {m : Mv} {st : St}
theorem RM.shK (h:RM W r g m st):∃ a c,m.opn=.slice a st.ks.length c:=by
 rcases h.opn.2 with ⟨e1,e⟩|⟨g,cap,cur,e1,_⟩
 ·exact ⟨none,0,by rw [e1,e]⟩
 ·exact ⟨_,_,e1⟩
theorem RM.pushK (h:RM W r g m st) {v v':Value} {k:Int} (hT:m.opn=v) (hb:Below W.heap.size W W1) (hg:W1.grownBy W2 v.ownBlock) (ho:W2.ownsRow (r + 1) 72 1 v' (st.ks.length + 1) (st.ks.map (Value.int .i64)++[.int .i64 k])) (hl:st.ks.length + 1≤st.n) :
  RP W r g m (.inr {st with ks:=st.ks++[k]}) (.returned (.tuple #[])) (W2.setCell ⟨r,11,none⟩ v'):=by
 subst hT
 have hlt:=h.lt
 have hll:=World.ownsRow.lt h.opn
 have F:RdF r m.opn W (W2.setCell ⟨r,11,none⟩ v'):=((RdF.refl.then hb (Nat.le_of_lt hlt)).grown hg (by have:=hb.size;omega) (fun k hk=>by have:=(hll k hk).1;omega)).set 11 _
 have hr2:RdB W2 r (st.rv g m):=(h.rd.same (hb.block r hlt)).same (hg.block r (by have:=hb.size;omega) (fun q=>by have:=(hll r q.symm).1;omega))
 refine ⟨RF.ofOpn h F,rfl,{m with opn:=v' },h.ofOpn F (hr2.set 11 _ _ rfl) ?_ (by simpa using hl),⟨OB.refl _ _,OB.refl _ _,OB.refl _ _⟩⟩
 unfold OwnK
 rw [List.length_append,List.length_singleton,List.map_append]
 exact own_of ho fun k hk _=>Below.heap_setCell _ _ _ _ (by have:=(World.ownsRow.lt ho k hk).1;show k≠r;omega)
theorem tellS_n {st st':St} {e:Hd} (h:tellS st e=.inr st'):st'.n=st.n + 1∧st'.ks=st.ks∧st'.wait=st.wait∧st'.behind=st.behind∧st'.q=st.q∧st'.word=st.word∧st'.total=st.total:=by
 unfold tellS at h
 split at h
 ·cases h
 ·split at h
  ·split at h
   ·cases h
   ·cases h;exact ⟨rfl,rfl,rfl,rfl,rfl,rfl,rfl⟩
  ·cases h;exact ⟨rfl,rfl,rfl,rfl,rfl,rfl,rfl⟩
set_option maxRecDepth 100000 in
theorem begin_q (h:RM W r g m st) (e:Hd) (hz:EvZ e) (hn:st.n≤200000):Calls Tryz.prog 96 #[.pointer (some ⟨r,0,none⟩),.agg (evs e)] W fun q w'=>RP W r g m (beginS st e) q w':=by
 obtain ⟨W0,hW0⟩:∃ W0,W0=W.alloc (.cells (evs e) 74):=⟨_,rfl⟩
 have B0:Hid (Below W.heap.size W W0):=by rw [hW0];exact below_al (Below.refl _ _)
 have E0:Hid (EB W0 W.heap.size e):=by rw [hW0];exact EB.new W e
 have M0:=hide (h.then B0.out)
 have NB:=hide (h.nob (Nat.le_refl _))
 have lo:=hide h.lo
 have gk:=hide h.gk
 have kl:=hide (Nat.le_trans h.kl hn)
 have kl2:=hide h.kl
 clear h
 obtain ⟨k,hk⟩:∃ k,W.heap.size=k:=⟨_,rfl⟩
 rw [hk] at E0 NB
 have T:=hide (fun w1 (h1:RM w1 r g m st)=>tell_q h1 e hz hn)
 obtain ⟨d0,d1,d2,d3,d4,d5,d6⟩:=E0.out.cells
 unfold beginS
 cases ht:tellS st e with
 | inl E =>
  rw [ht] at T
  clear ht hn hz
  simp only [evs,bnd] at T hW0 ⊢
  have T0:=hide (T.out W0 M0.out)
  rw [hW0] at T0
  go_enter Tryz.func96, Tryz.ntmps96
  go_wp2_with (go_at_call 90;refine T0.out.mono ?_;rintro q w1 ⟨hp1,rfl,hp2⟩;have F1:Hid (RF g m W w1):=(RF.of (by rw [←hW0];exact B0.out) lo.out).trans (OM.refl _ _) hp1;have M1:=hide hp2;clear hp1 hp2)
  exact ⟨rfl,F1.out,rfl,M1.out⟩
 | inr x =>
  rw [ht] at T
  have hx:=hide (tellS_n ht)
  clear ht hn hz
  simp only [bnd]
  have T0:Hid (Calls Tryz.prog 90 #[.pointer (some ⟨r,0,none⟩),.agg (evs e)] (W.alloc (.cells (evs e) 74)) fun q w'=>∃ m1 a c,q=.returned (.tuple #[])∧RF g m W w'∧RM w' r g m1 x∧OM W m m1∧EB w' k e∧m1.opn=.slice a x.ks.length c):=by
   rw [←hW0]
   refine (T.out W0 M0.out).mono ?_
   rintro q w1 ⟨hp1,rfl,m1,hp2,hp3⟩
   obtain ⟨a,c,hh⟩:=hp2.shK
   exact ⟨m1,a,c,rfl,(RF.of B0.out lo.out).trans (OM.refl _ _) hp1,hp2,(OM.refl _ _).trans hp3 B0.out.size,hp1.eb E0.out NB.out.1 NB.out.2.1 NB.out.2.2,hh⟩
  clear T d0 d1 d2 d3 d4 d5 d6
  simp only [evs] at T0 ⊢
  go_enter Tryz.func96, Tryz.ntmps96
  go_wp2_with (go_at_call 90;refine T0.out.mono ?_;rintro q w1 ⟨m1,ta,tc,rfl,hp1,hp2,hp3,hp4,hp5⟩;have F1:=hide hp1;have M1:=hide hp2;have O1:=hide hp3;have E1:=hide hp4;have hT':=hide hp5;clear hp1 hp2 hp3 hp4 hp5;obtain ⟨b0,b1,b2,b3,b4,b5,b6⟩:=E1.out.cells;have j11:w1.cell? ⟨r,11,none⟩=some (.slice ta x.ks.length tc):=(M1.out.rd.cell 11).trans (by rw [←hT'.out];rfl))
  have j11A:=fun o=>((M1.out.then (W1:=w1.alloc o) (below_al (Below.refl _ _))).rd.cell 11).trans (show _=some (.slice ta x.ks.length tc) by rw [←hT'.out];rfl)
  have b0A:=fun o=>(E1.out.below (W1:=w1.alloc o) (below_al (Below.refl _ _))).cells.1
  have OT:Hid (w1.ownsRow (r + 1) 72 1 (.slice ta x.ks.length tc) x.ks.length (x.ks.map (Value.int .i64))):=by
   have:=M1.out.opn
   unfold OwnK at this
   rw [hT'.out] at this
   exact this
  have r2:=M1.out.lt
  have hkl:x.ks.length≤200000:=by rw [hx.out.2.1];exact kl.out
  have hkn:Hid (x.ks.length + 1≤x.n):=by show _≤_;rw [hx.out.2.1,hx.out.1];exact Nat.succ_le_succ kl2.out
  go_region_law (refine step_k rfl (.tmp 11) (.tmp 14) rfl (r + 1) (.slice ta x.ks.length tc) x.ks.length (x.ks.map (Value.int .i64)) rfl (own_of OT.out fun k hk hlt=>(show Below w1.heap.size w1 _ by repeat (first|exact Below.refl _ _|refine Below.drew ?_|refine below_al ?_)).block k hlt) ⟨w1.heap.size,0,none⟩ 1 rfl e.kind (news1 w1 _ _ e.kind rfl) (by omega) (by simp;omega) ?_;intro av5 c5 w5 ho5 hg5;have P5:=hide (M1.out.pushK (k:=e.kind) hT'.out (by repeat (first|exact Below.refl _ _|refine Below.drew ?_|refine below_al ?_)) hg5.out ho5.out hkn.out);have K5:RdB w5 r _:=((M1.out.then (by repeat (first|exact Below.refl _ _|refine Below.drew ?_|refine below_al ?_))).rd.same (hg5.out.block r (by simp;omega) (fun e=>by have:=(World.ownsRow.lt OT.out r e.symm).1;omega)));have l11:=(K5.cell 11).trans (show _=some (.slice ta x.ks.length tc) by rw [←hT'.out];rfl);have n11:w5.frozen? ⟨r,11,none⟩=false:=K5.frz 11)
  all_goals
   go_wp2
   go_end0
   exact RP.trans F1.out O1.out (P5.out.then (by repeat (first|exact Below.refl _ _|refine Below.drew ?_|refine below_al ?_)) gk.out.loR)
end
section
variable {W W1 W2 : World} {r : Nat} {g : Gv} {m : Mv} {st : St}
theorem RP.setw (h:RM W r g m st) (a k:Nat):RP W r g m (.inr {st with wait:=a}) (.returned (.tuple #[])) ((W.drewN k).setCell ⟨r,9,none⟩ (.int .i64 a)) :=
 ⟨RF.ofO h (RdO.set9 _ _),rfl,m,h.sc (RdB.set (W:=W.drewN k) (h.rd.same rfl) 9 _ _ rfl) (RdO.set9 _ _),OM.refl _ _⟩
theorem RP.pan (h:RM W r g m st) (E:Int) (k:Nat):RP W r g m (.inl E) (.panicked (pan E)) (W.drewN k) :=
 ⟨RF.of (dn_b W k) h.lo,rfl,_,h.rd.same rfl⟩
theorem RP.same (h:RM W r g m st) (k:Nat):RP W r g m (.inr st) (.returned (.tuple #[])) (W.drewN k) :=
 ⟨RF.of (dn_b W k) h.lo,rfl,m,h.then (dn_b W k),OM.refl _ _⟩
theorem endValue_r (h:RM W r g m st) (hn:st.n≤300000):Calls Tryz.prog 91 #[.pointer (some ⟨r,0,none⟩)] W fun e w'=>RP W r g m (.inr (endV st)) e w' :=
 (endValue_q h.rd h.opn (Nat.le_trans h.kl hn)).mono (by
  rintro e w1 ⟨rfl,h1,h2⟩
  exact ⟨RF.ofO h h2,rfl,m,h.sc h1 h2,OM.refl _ _⟩)
theorem takeColon_r (h:RM W r g m st):Calls Tryz.prog 104 #[.pointer (some ⟨r,0,none⟩)] W fun e w'=>RP W r g m (colonS st) e w' :=
 (takeColon_q h.rd).mono (by
  intro e w1 hp
  unfold colonS
  by_cases h5:st.wait=5
  ·rw [if_pos (show (st.rv g m).wait=5 from h5)] at hp
   rw [if_pos h5]
   obtain ⟨rfl,h1,h2⟩:=hp
   exact ⟨RF.ofO h h2,rfl,m,h.sc h1 h2,OM.refl _ _⟩
  ·rw [if_neg (show ¬ (st.rv g m).wait=5 from h5)] at hp
   rw [if_neg h5]
   obtain ⟨rfl,rfl⟩:=hp
   exact RP.pan h 70 0)
theorem openObject_r (h:RM W r g m st):Calls Tryz.prog 101 #[.pointer (some ⟨r,0,none⟩)] W fun e w'=>RP W r g m (openO st) e w' :=
 (openObject_q h.rd).mono (by
  intro e w1 hp
  unfold openO
  by_cases h5:st.wait=0∨st.wait=1
  ·rw [if_pos (show (st.rv g m).wait=0∨(st.rv g m).wait=1 from h5)] at hp
   rw [if_pos h5]
   obtain ⟨rfl,h1,h2⟩:=hp
   exact ⟨RF.ofO h h2,rfl,m,h.sc h1 h2,OM.refl _ _⟩
  ·rw [if_neg (show ¬ ((st.rv g m).wait=0∨(st.rv g m).wait=1) from h5)] at hp
   rw [if_neg h5]
   obtain ⟨rfl,k,rfl⟩:=hp
   exact RP.pan h 70 k)
theorem pass_r (h:RM W r g m st):Calls Tryz.prog 59 #[.pointer (some ⟨r,0,none⟩)] W fun e w'=>RP W r g m (passS st) e w' :=
 (pass_any h.rd).mono (by
  intro e w1 hp
  unfold passS
  by_cases h5:16<st.total
  ·rw [if_pos (show 16<(st.rv g m).total from h5)] at hp
   rw [if_pos h5]
   obtain ⟨rfl,rfl⟩:=hp
   exact RP.pan h 2 0
  ·rw [if_neg (show ¬ 16<(st.rv g m).total from h5)] at hp
   rw [if_neg h5]
   obtain ⟨rfl,h1,h2⟩:=hp
   exact ⟨RF.ofO h h2,rfl,m,h.sc h1 h2,OM.refl _ _⟩)
theorem takeComma_r (h:RM W r g m st) (hn:st.n≤300000):Calls Tryz.prog 103 #[.pointer (some ⟨r,0,none⟩)] W fun e w'=>RP W r g m (commaS st) e w':=by
 have IN:=hide (inner_q h.rd h.opn (Nat.le_trans h.kl hn))
 have H:=hide h
 have c9:W.cell? ⟨r,9,none⟩=some (.int .i64 st.wait):=(h.rd.cell 9).trans rfl
 have f9:W.frozen? ⟨r,9,none⟩=false:=h.rd.frz 9
 clear h hn
 unfold commaS
 by_cases h2:st.wait=2
 ·rw [h2] at c9
  by_cases hk:lastK st.ks=8
  ·rw [if_pos ⟨h2,hk⟩]
   rw [hk] at IN
   clear h2 hk
   go_enter Tryz.func103, Tryz.ntmps103
   go_wp2_with (go_at_call 121;refine IN.out.mono ?_;rintro e w1 ⟨rfl,m1,rfl⟩)
   go_end0
   exact RP.setw H.out 4 _
  ·rw [if_neg (fun o=>hk o.2),if_pos (Or.inl h2)]
   have e8:(lastK st.ks==8)=false:=by simpa using hk
   clear h2 hk
   generalize lastK st.ks=k at IN e8
   go_enter Tryz.func103, Tryz.ntmps103
   go_wp2_with (go_at_call 121;refine IN.out.mono ?_;rintro e w1 ⟨rfl,m1,rfl⟩)
   go_end0
   exact RP.setw H.out 0 _
 ·have e2:((st.wait:Int)==2)=false:=by simp;omega
  rw [if_neg (fun o=>h2 o.1)]
  by_cases h10:st.wait=10
  ·rw [if_pos (Or.inr h10)]
   rw [h10] at c9
   clear h2 h10 e2
   go_enter Tryz.func103, Tryz.ntmps103
   go_wp2
   go_end0
   exact RP.setw H.out 0 0
  ·have e10:((st.wait:Int)==10)=false:=by simp;omega
   rw [if_neg (fun o=>o.elim h2 h10)]
   clear h2 h10
   go_enter Tryz.func103, Tryz.ntmps103
   go_wp2_with fail
   exact ⟨rfl,RP.pan H.out 70 0⟩
end
section
variable {W W1 W2 : World} {r : Nat} {g : Gv} {m : Mv} {st : St}
theorem row_less1 {B T k cp n:Nat} {xs:List Value} (h:W.ownsRow B T 1 (.slice (some ⟨k,0,none⟩) (n + 1) cp) (n + 1) xs):W.ownsRow B T 1 (.slice (some ⟨k,0,none⟩) n cp) n (xs.take n):=by
 obtain ⟨h0,h⟩:=h
 refine ⟨by rw [List.length_take];omega,?_⟩
 rcases h with ⟨e,_⟩|⟨g',cap,cur,e,h1,h2,h3,h4,h5,h6⟩
 ·cases e
 ·simp only [Value.slice.injEq,Option.some.injEq,Addr.mk.injEq] at e
  obtain ⟨⟨rfl,_,_⟩,_,rfl⟩:=e
  refine Or.inr ⟨k,cp,cur,rfl,h1,h2,by omega,h4,h5,?_⟩
  rw [←h6,List.take_take]
  congr 1;omega
theorem RM.lastK (h:RM W r g m st) {qs:List Int} {k:Int} (hk:st.ks=qs++[k]):∃ j cp,m.opn=.slice (some ⟨j,0,none⟩) (qs.length + 1) cp∧qs.length + 1≤cp∧cp≤maxLen:=by
 have o:=h.opn
 unfold OwnK at o
 rw [hk,List.length_append,List.length_singleton] at o
 rcases o.2 with ⟨_,e⟩|⟨j,cp,cur,hv,h1,h2,h3,h4,h5,h6⟩
 ·omega
 ·exact ⟨j,cp,hv,h3,h4⟩
theorem RM.popK (h:RM W r g m st) {qs:List Int} {k:Int} {j cp:Nat} (hk:st.ks=qs++[k]) (hm:m.opn=.slice (some ⟨j,0,none⟩) (qs.length + 1) cp) (d:Nat) :
  RP W r g m (.inr {st with ks:=qs}) (.returned (.tuple #[])) ((W.drewN d).setCell ⟨r,11,none⟩ (.slice (some ⟨j,0,none⟩) qs.length cp)):=by
 have hlt:=h.lt
 have o:=h.opn
 unfold OwnK at o
 rw [hk,List.length_append,List.length_singleton,hm] at o
 have o2:=row_less1 o
 rw [List.map_append,List.take_append_of_le_length (by simp),List.take_of_length_le (by simp)] at o2
 have F:RdF r m.opn W ((W.drewN d).setCell ⟨r,11,none⟩ (.slice (some ⟨j,0,none⟩) qs.length cp)):=(RdF.refl.then (dn_b W d) (Nat.le_of_lt hlt)).set 11 _
 refine ⟨RF.ofOpn h F,rfl,{m with opn:=.slice (some ⟨j,0,none⟩) qs.length cp},h.ofOpn F (RdB.set (W:=W.drewN d) (h.rd.same rfl) 11 _ _ rfl) ?_ ?_,⟨OB.refl _ _,OB.refl _ _,OB.refl _ _⟩⟩
 ·unfold OwnK
  exact own_of (W:=W) o2 fun k hk hl=>Below.heap_setCell _ _ _ _ (by have:=(World.ownsRow.lt o2 k hk).1;show k≠r;omega)
 ·have:=h.kl
  rw [hk,List.length_append] at this
  omega
set_option maxRecDepth 100000 in
theorem end_q (h:RM W r g m st) (hks:st.ks≠[]) (hn:st.n≤200000):Calls Tryz.prog 127 #[.pointer (some ⟨r,0,none⟩)] W fun x w'=>RP W r g m (endS st) x w':=by
 have ml:maxLen=9223372036854775807:=rfl
 have T:=hide (tell_q h evE ⟨by decide,by decide,rfl⟩ hn)
 have GK:=hide h.gk
 have kl:=h.kl
 unfold endS
 cases ht:tellS st evE with
 | inl E =>
  rw [ht] at T
  clear ht hn h hks kl
  simp only [evs,evE,zr,bnd] at T ⊢
  go_enter Tryz.func127, Tryz.ntmps127
  go_wp2_with (go_at_call 90;refine T.out.mono ?_;rintro q w1 ⟨hp1,rfl,hp2⟩;have F1:=hide hp1;have M1:=hide hp2;clear hp1 hp2)
  exact ⟨rfl,F1.out,rfl,M1.out⟩
 | inr x =>
  rw [ht] at T
  obtain ⟨_,hx,_⟩:=tellS_n ht
  rcases List.eq_nil_or_concat st.ks with e|⟨qs,p,e⟩
  ·exact absurd e hks
  rw [List.concat_eq_append] at e
  have hxk:=hide (hx.trans e)
  rw [e,List.length_append,List.length_singleton] at kl
  have hdl:Hid (x.ks.dropLast=qs):=by show _=_;rw [hxk.out,List.dropLast_concat]
  simp only [bnd]
  rw [hdl.out]
  have hv:IntKind.i64.wrap ((qs.length:Int) + 1 - 1)=(qs.length:Int):=by rw [IntKind.wrap_i64] <;> omega
  have hv2:IntKind.i64.wrap ((qs.length:Int))=(qs.length:Int):=by rw [IntKind.wrap_i64] <;> omega
  have hm1:decide ((qs.length:Int)<0)=false:=by simp
  have hm2:decide ((0:Int)<(qs.length:Int))=decide (0<qs.length):=by simp
  have MT:Hid (Calls Tryz.prog 90 #[.pointer (some ⟨r,0,none⟩),.agg (evs evE)] W fun q w'=>∃ m1 j cp,q=.returned (.tuple #[])∧RF g m W w'∧RM w' r g m1 x∧OM W m m1∧m1.opn=.slice (some ⟨j,0,none⟩) (qs.length + 1) cp∧qs.length + 1≤cp∧cp≤maxLen):=T.out.mono (by
   rintro q w1 ⟨hp1,rfl,m1,hp2,hp3⟩
   obtain ⟨j,cp,k1,k2,k3⟩:=hp2.lastK hxk.out
   exact ⟨m1,j,cp,rfl,hp1,hp2,hp3,k1,k2,k3⟩)
  clear ht hn h hks hx e T kl
  simp only [evs,evE,zr] at MT
  go_enter Tryz.func127, Tryz.ntmps127
  go_wp2_with (go_at_call 90;refine MT.out.mono ?_;rintro q w1 ⟨m1,j,cp,rfl,hp1,hp2,hp3,k1,k2,k3⟩;have F1:=hide hp1;have M1:=hide hp2;have O1:=hide hp3;have d11:w1.cell? ⟨r,11,none⟩=some (.slice (some ⟨j,0,none⟩) (qs.length + 1) cp):=(hp2.rd.cell 11).trans (by rw [←k1];rfl);have g11:w1.frozen? ⟨r,11,none⟩=false:=hp2.rd.frz 11;have K1:=hide k1;clear hp1 hp2 hp3 k1;have hle:qs.length≤cp:=(by omega))
  go_region_with (fail)
  all_goals
   go_wp2
   go_end0
   exact (RP.trans F1.out O1.out ((M1.out.popK hxk.out K1.out 0).then (by repeat (first|exact Below.refl _ _|refine Below.drew ?_|refine below_al ?_)) GK.out.loR))
end
end Go.Proofs.YtpimjkdakjhoaaaGreatDoor
