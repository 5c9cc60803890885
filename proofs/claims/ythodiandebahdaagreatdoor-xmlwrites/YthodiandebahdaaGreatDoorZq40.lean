/- Merged by program: YvMark, YrChar, YsParse. -/
import Derived.Test.YthodiandebahdaaGreatDoorZq39
import Derived.Test.YthodiandebahdaaGreatDoorYiShelf
namespace Go.Proofs.YthodiandebahdaaGreatDoor
open Go.RowKit
set_option linter.unusedSimpArgs false
set_option linter.unusedVariables false
set_option maxHeartbeats 8000000
section
variable {W W1 W2 : World} {r : Nat} {g : Tg} {m m1 : Xm} {st : Xs}
set_option maxRecDepth 100000 in
theorem tmark_2 (h:XM W r g m st)(k:Int)(hn:st.t.n≤199990):Calls Tryz.prog 88 #[.pointer (some ⟨r,0,none⟩),.iface 128 (.int .i64 k)] W fun q w'=>XP W r g m (if wantE st then .inl 100 else .inr {st with rk:=k}) q w':=by
 have H:=hide h
 have ta1:∀ w v,(Instr.typeAssert (.iface 128 v) 116 127 true).run Tryz.prog w=.ok (.tuple #[.agg #[.int .i64 0,.bool false,.bool false,.string ⟨#[]⟩,.int .i64 0,.int .u64 0,.string ⟨#[]⟩],.bool false]) w:=fun w v=>by kernel_rfl
 have ta2:∀ w v,(Instr.typeAssert (.iface 128 v) 116 128 true).run Tryz.prog w=.ok (.tuple #[v,.bool true]) w:=fun w v=>by kernel_rfl
 have WA:=hide (fun w (hb:Below W.heap.size W w)=>want_q (h.then hb) (by show st.t.n≤_;omega))
 unfold wantS at WA
 cases hw:wantE st with
 | true =>
  rw [hw] at WA
  simp only [if_true] at WA ⊢
  clear hw h
  go_enter Tryz.func88, Tryz.ntmps88
  go_wp2_with (go_at_call 105;refine (WA.out _ (by repeat (first|exact Below.refl _ _|refine Below.drew ?_|refine below_al ?_))).mono ?_;rintro q w1 hp;have K:=hide (XP.base H.out (by repeat (first|exact Below.refl _ _|refine Below.drew ?_|refine below_al ?_)) hp);obtain ⟨_,rfl,_⟩:=hp)
  exact ⟨rfl,K.out⟩
 | false =>
  rw [hw] at WA
  simp only [Bool.false_eq_true,if_false] at WA ⊢
  clear hw h
  go_enter Tryz.func88, Tryz.ntmps88
  go_wp2_with (go_at_call 105;refine (WA.out _ (by repeat (first|exact Below.refl _ _|refine Below.drew ?_|refine below_al ?_))).mono ?_;rintro q w1 ⟨hp1,rfl,m1,hp2,hp3⟩;have F1:Hid (XF g m W w1):=(XF.of (by repeat (first|exact Below.refl _ _|refine Below.drew ?_|refine below_al ?_)) H.out.low).trans (OMx.refl _ _) hp1;have M1:=hide hp2;have O1:Hid (OMx W m m1):=(OMx.refl _ _).trans hp3 (show Below W.heap.size W _ from (by repeat (first|exact Below.refl _ _|refine Below.drew ?_|refine below_al ?_))).size;have g2:w1.cell? ⟨r,2,none⟩=some (.int .i64 st.rk):=(hp2.rd.cell 2).trans rfl;have f2:w1.frozen? ⟨r,2,none⟩=false:=hp2.rd.frz 2;clear hp1 hp2 hp3)
  go_end0
  exact XP.trans F1.out O1.out (M1.out.setK k)
set_option maxRecDepth 100000 in
theorem tmark_3 (h:XM W r g m st)(k:Int)(hn:st.t.n≤199990):Calls Tryz.prog 88 #[.pointer (some ⟨r,0,none⟩),.iface 129 (.int .i64 k)] W fun q w'=>XP W r g m (endRowS st k) q w':=by
 have H:=hide h
 have ta1:∀ w v,(Instr.typeAssert (.iface 129 v) 116 127 true).run Tryz.prog w=.ok (.tuple #[.agg #[.int .i64 0,.bool false,.bool false,.string ⟨#[]⟩,.int .i64 0,.int .u64 0,.string ⟨#[]⟩],.bool false]) w:=fun w v=>by kernel_rfl
 have ta2:∀ w v,(Instr.typeAssert (.iface 129 v) 116 128 true).run Tryz.prog w=.ok (.tuple #[.int .i64 0,.bool false]) w:=fun w v=>by kernel_rfl
 have ta3:∀ w v,(Instr.typeAssert (.iface 129 v) 116 129 true).run Tryz.prog w=.ok (.tuple #[v,.bool true]) w:=fun w v=>by kernel_rfl
 have C:=hide (fun w (hb:Below W.heap.size W w)=>endRow_q (h.then hb) k (by show st.t.n≤_;omega))
 obtain ⟨o,ho⟩:∃ o,endRowS st k=o:=⟨_,rfl⟩
 rw [ho] at C ⊢
 clear ho h hn
 cases o with
 | inl E =>
  go_enter Tryz.func88, Tryz.ntmps88
  go_wp2_with (go_at_call 107;refine (C.out _ (by repeat (first|exact Below.refl _ _|refine Below.drew ?_|refine below_al ?_))).mono ?_;rintro q w9 hp;have K:=hide (XP.base H.out (by repeat (first|exact Below.refl _ _|refine Below.drew ?_|refine below_al ?_)) hp);obtain ⟨_,rfl,_⟩:=hp)
  exact ⟨rfl,K.out⟩
 | inr x =>
  go_enter Tryz.func88, Tryz.ntmps88
  go_wp2_with (go_at_call 107;refine (C.out _ (by repeat (first|exact Below.refl _ _|refine Below.drew ?_|refine below_al ?_))).mono ?_;rintro q w9 hp;have K:=hide (XP.base H.out (by repeat (first|exact Below.refl _ _|refine Below.drew ?_|refine below_al ?_)) hp);obtain ⟨_,rfl,_⟩:=hp)
  go_end0
  exact K.out
set_option maxRecDepth 100000 in
theorem tmark_4 (h:XM W r g m st)(k:Int)(hn:st.t.n≤199990):Calls Tryz.prog 88 #[.pointer (some ⟨r,0,none⟩),.iface 130 (.int .i64 k)] W fun q w'=>XP W r g m (if wantE st then .inl 100 else beginS st (zr k)) q w':=by
 have H:=hide h
 have ta1:∀ w v,(Instr.typeAssert (.iface 130 v) 116 127 true).run Tryz.prog w=.ok (.tuple #[.agg #[.int .i64 0,.bool false,.bool false,.string ⟨#[]⟩,.int .i64 0,.int .u64 0,.string ⟨#[]⟩],.bool false]) w:=fun w v=>by kernel_rfl
 have ta2:∀ w v,(Instr.typeAssert (.iface 130 v) 116 128 true).run Tryz.prog w=.ok (.tuple #[.int .i64 0,.bool false]) w:=fun w v=>by kernel_rfl
 have ta3:∀ w v,(Instr.typeAssert (.iface 130 v) 116 129 true).run Tryz.prog w=.ok (.tuple #[.int .i64 0,.bool false]) w:=fun w v=>by kernel_rfl
 have ta4:∀ w v,(Instr.typeAssert (.iface 130 v) 116 130 true).run Tryz.prog w=.ok (.tuple #[v,.bool true]) w:=fun w v=>by kernel_rfl
 have WA:=hide (fun w (hb:Below W.heap.size W w)=>want_q (h.then hb) (by show st.t.n≤_;omega))
 unfold wantS at WA
 cases hw:wantE st with
 | true =>
  rw [hw] at WA
  simp only [if_true] at WA ⊢
  clear hw h
  go_enter Tryz.func88, Tryz.ntmps88
  go_wp2_with (go_at_call 105;refine (WA.out _ (by repeat (first|exact Below.refl _ _|refine Below.drew ?_|refine below_al ?_))).mono ?_;rintro q w1 hp;have K:=hide (XP.base H.out (by repeat (first|exact Below.refl _ _|refine Below.drew ?_|refine below_al ?_)) hp);obtain ⟨_,rfl,_⟩:=hp)
  exact ⟨rfl,K.out⟩
 | false =>
  rw [hw] at WA
  simp only [Bool.false_eq_true,if_false] at WA ⊢
  clear hw h
  have C:=hide (fun w m1 (h1:XM w r g m1 st)=>begin_q h1 (zr k) (evZ0 k) (by omega))
  obtain ⟨o,ho⟩:∃ o,beginS st (zr k)=o:=⟨_,rfl⟩
  rw [ho] at C ⊢
  clear ho hn
  simp only [evs,zr,evE,evN,evNum,evFlag,evText,evFloat,evBytes,evTag] at C
  cases o with
  | inl E =>
   go_enter Tryz.func88, Tryz.ntmps88
   go_wp2_with (first|(go_at_call 105;refine (WA.out _ (by repeat (first|exact Below.refl _ _|refine Below.drew ?_|refine below_al ?_))).mono ?_;rintro q w1 ⟨hp1,rfl,m1,hp2,hp3⟩;have F1:Hid (XF g m W w1):=(XF.of (by repeat (first|exact Below.refl _ _|refine Below.drew ?_|refine below_al ?_)) H.out.low).trans (OMx.refl _ _) hp1;have M1:=hide hp2;have O1:Hid (OMx W m m1):=(OMx.refl _ _).trans hp3 (show Below W.heap.size W _ from (by repeat (first|exact Below.refl _ _|refine Below.drew ?_|refine below_al ?_))).size;have g2:w1.cell? ⟨r,2,none⟩=some (.int .i64 st.rk):=(hp2.rd.cell 2).trans rfl;have f2:w1.frozen? ⟨r,2,none⟩=false:=hp2.rd.frz 2;clear hp1 hp2 hp3)|(go_at_call 108;refine (C.out _ _ (M1.out.then (by repeat (first|exact Below.refl _ _|refine Below.drew ?_|refine below_al ?_)))).mono ?_;rintro q w9 hp;have K:=hide (XP.trans F1.out O1.out (XP.base M1.out (by repeat (first|exact Below.refl _ _|refine Below.drew ?_|refine below_al ?_)) hp));obtain ⟨_,rfl,_⟩:=hp))
   exact ⟨rfl,K.out⟩
  | inr x =>
   go_enter Tryz.func88, Tryz.ntmps88
   go_wp2_with (first|(go_at_call 105;refine (WA.out _ (by repeat (first|exact Below.refl _ _|refine Below.drew ?_|refine below_al ?_))).mono ?_;rintro q w1 ⟨hp1,rfl,m1,hp2,hp3⟩;have F1:Hid (XF g m W w1):=(XF.of (by repeat (first|exact Below.refl _ _|refine Below.drew ?_|refine below_al ?_)) H.out.low).trans (OMx.refl _ _) hp1;have M1:=hide hp2;have O1:Hid (OMx W m m1):=(OMx.refl _ _).trans hp3 (show Below W.heap.size W _ from (by repeat (first|exact Below.refl _ _|refine Below.drew ?_|refine below_al ?_))).size;have g2:w1.cell? ⟨r,2,none⟩=some (.int .i64 st.rk):=(hp2.rd.cell 2).trans rfl;have f2:w1.frozen? ⟨r,2,none⟩=false:=hp2.rd.frz 2;clear hp1 hp2 hp3)|(go_at_call 108;refine (C.out _ _ (M1.out.then (by repeat (first|exact Below.refl _ _|refine Below.drew ?_|refine below_al ?_)))).mono ?_;rintro q w9 hp;have K:=hide (XP.trans F1.out O1.out (XP.base M1.out (by repeat (first|exact Below.refl _ _|refine Below.drew ?_|refine below_al ?_)) hp));obtain ⟨_,rfl,_⟩:=hp))
   go_end0
   exact K.out
set_option maxRecDepth 100000 in
theorem tmark_5 (h:XM W r g m st)(k:Int)(hn:st.t.n≤199990):Calls Tryz.prog 88 #[.pointer (some ⟨r,0,none⟩),.iface 132 (.int .i64 k)] W fun q w'=>XP W r g m (beginNameS st k) q w':=by
 have H:=hide h
 have ta1:∀ w v,(Instr.typeAssert (.iface 132 v) 116 127 true).run Tryz.prog w=.ok (.tuple #[.agg #[.int .i64 0,.bool false,.bool false,.string ⟨#[]⟩,.int .i64 0,.int .u64 0,.string ⟨#[]⟩],.bool false]) w:=fun w v=>by kernel_rfl
 have ta2:∀ w v,(Instr.typeAssert (.iface 132 v) 116 128 true).run Tryz.prog w=.ok (.tuple #[.int .i64 0,.bool false]) w:=fun w v=>by kernel_rfl
 have ta3:∀ w v,(Instr.typeAssert (.iface 132 v) 116 129 true).run Tryz.prog w=.ok (.tuple #[.int .i64 0,.bool false]) w:=fun w v=>by kernel_rfl
 have ta4:∀ w v,(Instr.typeAssert (.iface 132 v) 116 130 true).run Tryz.prog w=.ok (.tuple #[.int .i64 0,.bool false]) w:=fun w v=>by kernel_rfl
 have ta5:∀ w v,(Instr.typeAssert (.iface 132 v) 116 132 true).run Tryz.prog w=.ok (.tuple #[v,.bool true]) w:=fun w v=>by kernel_rfl
 have C:=hide (fun w (hb:Below W.heap.size W w)=>beginName_q (h.then hb) k (by show st.t.n≤_;omega))
 obtain ⟨o,ho⟩:∃ o,beginNameS st k=o:=⟨_,rfl⟩
 rw [ho] at C ⊢
 clear ho h hn
 cases o with
 | inl E =>
  go_enter Tryz.func88, Tryz.ntmps88
  go_wp2_with (go_at_call 109;refine (C.out _ (by repeat (first|exact Below.refl _ _|refine Below.drew ?_|refine below_al ?_))).mono ?_;rintro q w9 hp;have K:=hide (XP.base H.out (by repeat (first|exact Below.refl _ _|refine Below.drew ?_|refine below_al ?_)) hp);obtain ⟨_,rfl,_⟩:=hp)
  exact ⟨rfl,K.out⟩
 | inr x =>
  go_enter Tryz.func88, Tryz.ntmps88
  go_wp2_with (go_at_call 109;refine (C.out _ (by repeat (first|exact Below.refl _ _|refine Below.drew ?_|refine below_al ?_))).mono ?_;rintro q w9 hp;have K:=hide (XP.base H.out (by repeat (first|exact Below.refl _ _|refine Below.drew ?_|refine below_al ?_)) hp);obtain ⟨_,rfl,_⟩:=hp)
  go_end0
  exact K.out
set_option maxRecDepth 100000 in
theorem tmark_6 (h:XM W r g m st)  (hn:st.t.n≤199990):Calls Tryz.prog 88 #[.pointer (some ⟨r,0,none⟩),.iface 134 (.agg #[])] W fun q w'=>XP W r g m (endNameS st) q w':=by
 have H:=hide h
 have ta1:∀ w v,(Instr.typeAssert (.iface 134 v) 116 127 true).run Tryz.prog w=.ok (.tuple #[.agg #[.int .i64 0,.bool false,.bool false,.string ⟨#[]⟩,.int .i64 0,.int .u64 0,.string ⟨#[]⟩],.bool false]) w:=fun w v=>by kernel_rfl
 have ta2:∀ w v,(Instr.typeAssert (.iface 134 v) 116 128 true).run Tryz.prog w=.ok (.tuple #[.int .i64 0,.bool false]) w:=fun w v=>by kernel_rfl
 have ta3:∀ w v,(Instr.typeAssert (.iface 134 v) 116 129 true).run Tryz.prog w=.ok (.tuple #[.int .i64 0,.bool false]) w:=fun w v=>by kernel_rfl
 have ta4:∀ w v,(Instr.typeAssert (.iface 134 v) 116 130 true).run Tryz.prog w=.ok (.tuple #[.int .i64 0,.bool false]) w:=fun w v=>by kernel_rfl
 have ta5:∀ w v,(Instr.typeAssert (.iface 134 v) 116 132 true).run Tryz.prog w=.ok (.tuple #[.int .i64 0,.bool false]) w:=fun w v=>by kernel_rfl
 have ta6:∀ w v,(Instr.typeAssert (.iface 134 v) 116 134 true).run Tryz.prog w=.ok (.tuple #[v,.bool true]) w:=fun w v=>by kernel_rfl
 have C:=hide (fun w (hb:Below W.heap.size W w)=>endName_q (h.then hb) (by show st.t.n≤_;omega))
 obtain ⟨o,ho⟩:∃ o,endNameS st=o:=⟨_,rfl⟩
 rw [ho] at C ⊢
 clear ho h hn
 cases o with
 | inl E =>
  go_enter Tryz.func88, Tryz.ntmps88
  go_wp2_with (go_at_call 110;refine (C.out _ (by repeat (first|exact Below.refl _ _|refine Below.drew ?_|refine below_al ?_))).mono ?_;rintro q w9 hp;have K:=hide (XP.base H.out (by repeat (first|exact Below.refl _ _|refine Below.drew ?_|refine below_al ?_)) hp);obtain ⟨_,rfl,_⟩:=hp)
  exact ⟨rfl,K.out⟩
 | inr x =>
  go_enter Tryz.func88, Tryz.ntmps88
  go_wp2_with (go_at_call 110;refine (C.out _ (by repeat (first|exact Below.refl _ _|refine Below.drew ?_|refine below_al ?_))).mono ?_;rintro q w9 hp;have K:=hide (XP.base H.out (by repeat (first|exact Below.refl _ _|refine Below.drew ?_|refine below_al ?_)) hp);obtain ⟨_,rfl,_⟩:=hp)
  go_end0
  exact K.out
set_option maxRecDepth 100000 in
theorem tmark_7 (h:XM W r g m st)(k:Int)(hk:k≠0)(hn:st.t.n≤199990):Calls Tryz.prog 88 #[.pointer (some ⟨r,0,none⟩),.iface 131 (.int .i64 k)] W fun q w'=>XP W r g m (endPartS st k) q w':=by
 have H:=hide h
 have ta1:∀ w v,(Instr.typeAssert (.iface 131 v) 116 127 true).run Tryz.prog w=.ok (.tuple #[.agg #[.int .i64 0,.bool false,.bool false,.string ⟨#[]⟩,.int .i64 0,.int .u64 0,.string ⟨#[]⟩],.bool false]) w:=fun w v=>by kernel_rfl
 have ta2:∀ w v,(Instr.typeAssert (.iface 131 v) 116 128 true).run Tryz.prog w=.ok (.tuple #[.int .i64 0,.bool false]) w:=fun w v=>by kernel_rfl
 have ta3:∀ w v,(Instr.typeAssert (.iface 131 v) 116 129 true).run Tryz.prog w=.ok (.tuple #[.int .i64 0,.bool false]) w:=fun w v=>by kernel_rfl
 have ta4:∀ w v,(Instr.typeAssert (.iface 131 v) 116 130 true).run Tryz.prog w=.ok (.tuple #[.int .i64 0,.bool false]) w:=fun w v=>by kernel_rfl
 have ta5:∀ w v,(Instr.typeAssert (.iface 131 v) 116 132 true).run Tryz.prog w=.ok (.tuple #[.int .i64 0,.bool false]) w:=fun w v=>by kernel_rfl
 have ta6:∀ w v,(Instr.typeAssert (.iface 131 v) 116 134 true).run Tryz.prog w=.ok (.tuple #[.agg #[],.bool false]) w:=fun w v=>by kernel_rfl
 have ta7:∀ w v,(Instr.typeAssert (.iface 131 v) 116 131 true).run Tryz.prog w=.ok (.tuple #[v,.bool true]) w:=fun w v=>by kernel_rfl
 have C:=hide (fun w (hb:Below W.heap.size W w)=>endPart_q (h.then hb) k hk (by show st.t.n≤_;omega))
 obtain ⟨o,ho⟩:∃ o,endPartS st k=o:=⟨_,rfl⟩
 rw [ho] at C ⊢
 clear ho h hn hk
 cases o with
 | inl E =>
  go_enter Tryz.func88, Tryz.ntmps88
  go_wp2_with (go_at_call 111;refine (C.out _ (by repeat (first|exact Below.refl _ _|refine Below.drew ?_|refine below_al ?_))).mono ?_;rintro q w9 hp;have K:=hide (XP.base H.out (by repeat (first|exact Below.refl _ _|refine Below.drew ?_|refine below_al ?_)) hp);obtain ⟨_,rfl,_⟩:=hp)
  exact ⟨rfl,K.out⟩
 | inr x =>
  go_enter Tryz.func88, Tryz.ntmps88
  go_wp2_with (go_at_call 111;refine (C.out _ (by repeat (first|exact Below.refl _ _|refine Below.drew ?_|refine below_al ?_))).mono ?_;rintro q w9 hp;have K:=hide (XP.base H.out (by repeat (first|exact Below.refl _ _|refine Below.drew ?_|refine below_al ?_)) hp);obtain ⟨_,rfl,_⟩:=hp)
  go_end0
  exact K.out
set_option maxRecDepth 100000 in
theorem tmark_1 (h:XM W r g m st)(k:Int)(b:Bool)(hn:st.t.n≤199990):Calls Tryz.prog 88 #[.pointer (some ⟨r,0,none⟩),.iface 127 (.agg (evs {zr k with flag:=b}))] W fun q w'=>XP W r g m (if wantE st then .inl 100 else elemS st {zr k with flag:=b}) q w':=by
 have H:=hide h
 have ta1:∀ w v,(Instr.typeAssert (.iface 127 v) 116 127 true).run Tryz.prog w=.ok (.tuple #[v,.bool true]) w:=fun w v=>by kernel_rfl
 have WA:=hide (fun w (hb:Below W.heap.size W w)=>want_q (h.then hb) (by show st.t.n≤_;omega))
 unfold wantS at WA
 cases hw:wantE st with
 | true =>
  rw [hw] at WA
  simp only [if_true] at WA ⊢
  clear hw h
  simp only [evs,zr]
  go_enter Tryz.func88, Tryz.ntmps88
  go_wp2_with (go_at_call 105;refine (WA.out _ (by repeat (first|exact Below.refl _ _|refine Below.drew ?_|refine below_al ?_))).mono ?_;rintro q w1 hp;have K:=hide (XP.base H.out (by repeat (first|exact Below.refl _ _|refine Below.drew ?_|refine below_al ?_)) hp);obtain ⟨_,rfl,_⟩:=hp)
  exact ⟨rfl,K.out⟩
 | false =>
  rw [hw] at WA
  simp only [Bool.false_eq_true,if_false] at WA ⊢
  clear hw h
  have C:=hide (fun w m1 (h1:XM w r g m1 st)=>elem_q h1 {zr k with flag:=b} (zFl k b) (by omega))
  obtain ⟨o,ho⟩:∃ o,elemS st {zr k with flag:=b}=o:=⟨_,rfl⟩
  rw [ho] at C ⊢
  clear ho hn
  simp only [evs,zr,evE,evN,evNum,evFlag,evText,evFloat,evBytes,evTag] at C
  cases o with
  | inl E =>
   simp only [evs,zr]
   go_enter Tryz.func88, Tryz.ntmps88
   go_wp2_with (first|(go_at_call 105;refine (WA.out _ (by repeat (first|exact Below.refl _ _|refine Below.drew ?_|refine below_al ?_))).mono ?_;rintro q w1 ⟨hp1,rfl,m1,hp2,hp3⟩;have F1:Hid (XF g m W w1):=(XF.of (by repeat (first|exact Below.refl _ _|refine Below.drew ?_|refine below_al ?_)) H.out.low).trans (OMx.refl _ _) hp1;have M1:=hide hp2;have O1:Hid (OMx W m m1):=(OMx.refl _ _).trans hp3 (show Below W.heap.size W _ from (by repeat (first|exact Below.refl _ _|refine Below.drew ?_|refine below_al ?_))).size;have g2:w1.cell? ⟨r,2,none⟩=some (.int .i64 st.rk):=(hp2.rd.cell 2).trans rfl;have f2:w1.frozen? ⟨r,2,none⟩=false:=hp2.rd.frz 2;have kb:=hp1.keep W.heap.size _ _ _ (heap_alloc_last W (.cells #[.int .i64 k,.bool b,.bool false,.string ⟨#[]⟩,.int .i64 0,.int .u64 0,.string ⟨#[]⟩] 127)) (by decide) (by decide) (by decide) (by decide) (by decide) (by decide) (by decide) (fun e=>by have:=(World.ownsRow.lt H.out.row.mark _ e).2;omega) (fun e=>by have:=(World.ownsRow.lt H.out.row.held _ e).2;omega) (fun e=>by have:=(World.ownsRow.lt H.out.row.ref _ e).2;omega) (H.out.t.nob (Nat.le_refl _));have k0:w1.cell? ⟨W.heap.size,0,none⟩=some (.int .i64 k):=(by simp [World.cell?,kb]);have k1:w1.cell? ⟨W.heap.size,1,none⟩=some (.bool b):=(by simp [World.cell?,kb]);have k2:w1.cell? ⟨W.heap.size,2,none⟩=some (.bool false):=(by simp [World.cell?,kb]);have k3:w1.cell? ⟨W.heap.size,3,none⟩=some (.string ⟨#[]⟩):=(by simp [World.cell?,kb]);have k4:w1.cell? ⟨W.heap.size,4,none⟩=some (.int .i64 0):=(by simp [World.cell?,kb]);have k5:w1.cell? ⟨W.heap.size,5,none⟩=some (.int .u64 0):=(by simp [World.cell?,kb]);have k6:w1.cell? ⟨W.heap.size,6,none⟩=some (.string ⟨#[]⟩):=(by simp [World.cell?,kb]);clear hp1 hp2 hp3)|(go_at_call 106;refine (C.out _ _ (M1.out.then (by repeat (first|exact Below.refl _ _|refine Below.drew ?_|refine below_al ?_)))).mono ?_;rintro q w9 hp;have K:=hide (XP.trans F1.out O1.out (XP.base M1.out (by repeat (first|exact Below.refl _ _|refine Below.drew ?_|refine below_al ?_)) hp));obtain ⟨_,rfl,_⟩:=hp))
   exact ⟨rfl,K.out⟩
  | inr x =>
   simp only [evs,zr]
   go_enter Tryz.func88, Tryz.ntmps88
   go_wp2_with (first|(go_at_call 105;refine (WA.out _ (by repeat (first|exact Below.refl _ _|refine Below.drew ?_|refine below_al ?_))).mono ?_;rintro q w1 ⟨hp1,rfl,m1,hp2,hp3⟩;have F1:Hid (XF g m W w1):=(XF.of (by repeat (first|exact Below.refl _ _|refine Below.drew ?_|refine below_al ?_)) H.out.low).trans (OMx.refl _ _) hp1;have M1:=hide hp2;have O1:Hid (OMx W m m1):=(OMx.refl _ _).trans hp3 (show Below W.heap.size W _ from (by repeat (first|exact Below.refl _ _|refine Below.drew ?_|refine below_al ?_))).size;have g2:w1.cell? ⟨r,2,none⟩=some (.int .i64 st.rk):=(hp2.rd.cell 2).trans rfl;have f2:w1.frozen? ⟨r,2,none⟩=false:=hp2.rd.frz 2;have kb:=hp1.keep W.heap.size _ _ _ (heap_alloc_last W (.cells #[.int .i64 k,.bool b,.bool false,.string ⟨#[]⟩,.int .i64 0,.int .u64 0,.string ⟨#[]⟩] 127)) (by decide) (by decide) (by decide) (by decide) (by decide) (by decide) (by decide) (fun e=>by have:=(World.ownsRow.lt H.out.row.mark _ e).2;omega) (fun e=>by have:=(World.ownsRow.lt H.out.row.held _ e).2;omega) (fun e=>by have:=(World.ownsRow.lt H.out.row.ref _ e).2;omega) (H.out.t.nob (Nat.le_refl _));have k0:w1.cell? ⟨W.heap.size,0,none⟩=some (.int .i64 k):=(by simp [World.cell?,kb]);have k1:w1.cell? ⟨W.heap.size,1,none⟩=some (.bool b):=(by simp [World.cell?,kb]);have k2:w1.cell? ⟨W.heap.size,2,none⟩=some (.bool false):=(by simp [World.cell?,kb]);have k3:w1.cell? ⟨W.heap.size,3,none⟩=some (.string ⟨#[]⟩):=(by simp [World.cell?,kb]);have k4:w1.cell? ⟨W.heap.size,4,none⟩=some (.int .i64 0):=(by simp [World.cell?,kb]);have k5:w1.cell? ⟨W.heap.size,5,none⟩=some (.int .u64 0):=(by simp [World.cell?,kb]);have k6:w1.cell? ⟨W.heap.size,6,none⟩=some (.string ⟨#[]⟩):=(by simp [World.cell?,kb]);clear hp1 hp2 hp3)|(go_at_call 106;refine (C.out _ _ (M1.out.then (by repeat (first|exact Below.refl _ _|refine Below.drew ?_|refine below_al ?_)))).mono ?_;rintro q w9 hp;have K:=hide (XP.trans F1.out O1.out (XP.base M1.out (by repeat (first|exact Below.refl _ _|refine Below.drew ?_|refine below_al ?_)) hp));obtain ⟨_,rfl,_⟩:=hp))
   go_end0
   exact K.out
theorem mkOf_ok {l:List UInt8} {p:Nat×Int×Bool} (h:mkOf l=some p):(1≤p.1∧p.1≤7)∧(p.1=7→p.2.1≠0):=by
 unfold mkOf at h
 by_cases e0:l=mNull
 ·rw [if_pos e0] at h
  cases Option.some.inj h
  exact ⟨by decide,by decide⟩
 rw [if_neg e0] at h
 by_cases e1:l=mTrue
 ·rw [if_pos e1] at h
  cases Option.some.inj h
  exact ⟨by decide,by decide⟩
 rw [if_neg e1] at h
 by_cases e2:l=mFalse
 ·rw [if_pos e2] at h
  cases Option.some.inj h
  exact ⟨by decide,by decide⟩
 rw [if_neg e2] at h
 by_cases e3:l=mNum
 ·rw [if_pos e3] at h
  cases Option.some.inj h
  exact ⟨by decide,by decide⟩
 rw [if_neg e3] at h
 by_cases e4:l=mNumE
 ·rw [if_pos e4] at h
  cases Option.some.inj h
  exact ⟨by decide,by decide⟩
 rw [if_neg e4] at h
 by_cases e5:l=mFloat
 ·rw [if_pos e5] at h
  cases Option.some.inj h
  exact ⟨by decide,by decide⟩
 rw [if_neg e5] at h
 by_cases e6:l=mFloatE
 ·rw [if_pos e6] at h
  cases Option.some.inj h
  exact ⟨by decide,by decide⟩
 rw [if_neg e6] at h
 by_cases e7:l=mText
 ·rw [if_pos e7] at h
  cases Option.some.inj h
  exact ⟨by decide,by decide⟩
 rw [if_neg e7] at h
 by_cases e8:l=mTextE
 ·rw [if_pos e8] at h
  cases Option.some.inj h
  exact ⟨by decide,by decide⟩
 rw [if_neg e8] at h
 by_cases e9:l=mBytes
 ·rw [if_pos e9] at h
  cases Option.some.inj h
  exact ⟨by decide,by decide⟩
 rw [if_neg e9] at h
 by_cases e10:l=mBytesE
 ·rw [if_pos e10] at h
  cases Option.some.inj h
  exact ⟨by decide,by decide⟩
 rw [if_neg e10] at h
 by_cases e11:l=mList
 ·rw [if_pos e11] at h
  cases Option.some.inj h
  exact ⟨by decide,by decide⟩
 rw [if_neg e11] at h
 by_cases e12:l=mListE
 ·rw [if_pos e12] at h
  cases Option.some.inj h
  exact ⟨by decide,by decide⟩
 rw [if_neg e12] at h
 by_cases e13:l=mRec
 ·rw [if_pos e13] at h
  cases Option.some.inj h
  exact ⟨by decide,by decide⟩
 rw [if_neg e13] at h
 by_cases e14:l=mRecE
 ·rw [if_pos e14] at h
  cases Option.some.inj h
  exact ⟨by decide,by decide⟩
 rw [if_neg e14] at h
 by_cases e15:l=mField
 ·rw [if_pos e15] at h
  cases Option.some.inj h
  exact ⟨by decide,by decide⟩
 rw [if_neg e15] at h
 by_cases e16:l=mFieldE
 ·rw [if_pos e16] at h
  cases Option.some.inj h
  exact ⟨by decide,by decide⟩
 rw [if_neg e16] at h
 by_cases e17:l=mTag
 ·rw [if_pos e17] at h
  cases Option.some.inj h
  exact ⟨by decide,by decide⟩
 rw [if_neg e17] at h
 by_cases e18:l=mTagE
 ·rw [if_pos e18] at h
  cases Option.some.inj h
  exact ⟨by decide,by decide⟩
 rw [if_neg e18] at h
 by_cases e19:l=mNameE
 ·rw [if_pos e19] at h
  cases Option.some.inj h
  exact ⟨by decide,by decide⟩
 rw [if_neg e19] at h
 cases h
theorem tmark_q (h:XM W r g m st)(p:Nat×Int×Bool)(hp:(1≤p.1∧p.1≤7)∧(p.1=7→p.2.1≠0))(hn:st.t.n≤199990):Calls Tryz.prog 88 #[.pointer (some ⟨r,0,none⟩),mkI p] W fun q w'=>XP W r g m (markS st p) q w':=by
 obtain ⟨t,k,b⟩:=p
 simp only at hp
 have ht:t=1∨t=2∨t=3∨t=4∨t=5∨t=6∨t=7:=by omega
 rcases ht with rfl|rfl|rfl|rfl|rfl|rfl|rfl
 ·exact tmark_1 h k b hn
 ·exact tmark_2 h k hn
 ·exact tmark_3 h k hn
 ·exact tmark_4 h k hn
 ·exact tmark_5 h k hn
 ·exact tmark_6 h hn
 ·exact tmark_7 h k (hp.2 rfl) hn
end
theorem ext_list (s:ByteArray)(a b:Nat)(h:b≤s.size):(s.extract a b).toList=((bl s).take b).drop a:=by
 rw [ByteArray.toList_eq]
 simp [bl,ByteArray.data_extract,List.drop_take]
theorem bl_ext (s:ByteArray)(a b:Nat)(h:b≤s.size):bl (s.extract a b)=((bl s).take b).drop a:=by
 rw [←ext_list s a b h,ByteArray.toList_eq]
 rfl
theorem hpx_q (s:ByteArray)(w:World)(hs:s.size≤1000):Calls Tryz.prog 152 #[.string s,.string ⟨#[38,35,120]⟩] w fun e w'=>e=.returned (.bool ((bl s).take 3==[38,35,120]))∧w'=w:=by
 have hbl:=bl_length s
 by_cases h3:3≤s.size
 ·have hT:=ext_list s 0 3 h3
  rw [List.drop_zero] at hT
  obtain ⟨L,hL⟩:∃ L,(bl s).take 3=L:=⟨_,rfl⟩
  rw [hL] at hT ⊢
  have h1:(3:Int)≤(s.size:Int):=by omega
  clear hL hbl h3
  obtain ⟨S1,hS1⟩:∃ S1,s.extract 0 3=S1:=⟨_,rfl⟩
  rw [hS1] at hT
  go_enter Tryz.func152, Tryz.ntmps152
  go_wp2_with fail
  go_ret
  exact ⟨by first|rfl|simp,rfl⟩
 ·have h1:¬ (3:Int)≤(s.size:Int):=by omega
  have hf:((bl s).take 3==[38,35,120])=false:=by
   rw [List.take_of_length_le (by omega)]
   have:¬ bl s=[38,35,120]:=fun e=>by rw [e] at hbl;simp at hbl;omega
   simpa using this
  rw [hf]
  clear hf hbl h3
  go_enter Tryz.func152, Tryz.ntmps152
  go_wp2_with fail
  go_ret
  exact ⟨rfl,rfl⟩
theorem hsx_q (s:ByteArray)(w:World)(hs:s.size≤1000)(h0:(bl s).getLast?=some 59):Calls Tryz.prog 159 #[.string s,.string ⟨#[59]⟩] w fun e w'=>e=.returned (.bool true)∧w'=w:=by
 have hbl:=bl_length s
 have h1:1≤s.size:=by
  rw [←hbl]
  cases hb:bl s with
  | nil=>rw [hb] at h0;cases h0
  | cons a l=>simp
 have hT:(s.extract (s.size - 1) s.size).toList=[59]:=by
  rw [ext_list s _ _ (Nat.le_refl _),List.take_of_length_le (by omega)]
  rw [List.getLast?_eq_getElem?] at h0
  rw [List.drop_eq_getElem_cons (by omega)]
  have:=List.getElem?_eq_some_iff.1 h0
  obtain ⟨q,hq⟩:=this
  have e:(bl s)[s.size - 1]'(by omega)=59:=by rw [←hq];congr 1
  rw [e,List.drop_of_length_le (by omega)]
 have h1i:(1:Int)≤(s.size:Int):=by omega
 have hw:IntKind.i64.wrap ((s.size:Int) - 1)=(s.size:Int) - 1:=by rw [IntKind.wrap_i64] <;> omega
 have ht:((s.size:Int) - 1).toNat=s.size - 1:=by omega
 have hp:(0:Int)≤(s.size:Int) - 1:=by omega
 clear hbl h0 h1
 go_enter Tryz.func159, Tryz.ntmps159
 go_wp2_with fail
 go_ret
 exact ⟨rfl,rfl⟩
theorem cutp_q (s:ByteArray)(w:World)(hs:s.size≤1000):Calls Tryz.prog 112 #[.string s,.string ⟨#[38,35,120]⟩] w fun e w'=>e=(if (bl s).take 3=[38,35,120] then .returned (.tuple #[.string (s.extract 3 s.size),.bool true]) else .returned (.tuple #[.string s,.bool false]))∧w'=w:=by
 have HP:=hide (fun w=>hpx_q s w hs)
 have hI:Hid (∀ w,Calls Tryz.prog 133 #[.string s,.string ⟨#[38,35,120]⟩] w fun e w'=>e=(if (bl s).take 3=[38,35,120] then .returned (.tuple #[.string (s.extract 3 s.size),.bool true]) else .returned (.tuple #[.string s,.bool false]))∧w'=w):=by
  intro w
  by_cases h:(bl s).take 3=[38,35,120]
  ·rw [if_pos h]
   have h3:(3:Int)≤(s.size:Int):=by
    have:=congrArg List.length h
    rw [List.length_take,bl_length] at this
    simp at this
    omega
   have hb:((bl s).take 3==[38,35,120])=true:=by rw [h];rfl
   rw [hb] at HP
   clear h hb
   go_enter Tryz.func133, Tryz.ntmps133
   go_wp2_with (go_at_call 152;refine (HP.out _).mono ?_;rintro e w1 ⟨rfl,hw1⟩;have hws:=hw1.symm;clear hw1;subst hws)
   exact bodyPost_ret (v:=.tuple #[.string (s.extract 3 s.size),.bool true]) (by simp [results,Tryz.results133,go_sem]) rfl ⟨rfl,rfl⟩
  ·rw [if_neg h]
   have hb:((bl s).take 3==[38,35,120])=false:=by simpa using h
   rw [hb] at HP
   clear h hb
   go_enter Tryz.func133, Tryz.ntmps133
   go_wp2_with (go_at_call 152;refine (HP.out _).mono ?_;rintro e w1 ⟨rfl,hw1⟩;have hws:=hw1.symm;clear hw1;subst hws)
   exact bodyPost_ret (v:=.tuple #[.string s,.bool false]) (by simp [results,Tryz.results133,go_sem]) rfl ⟨rfl,rfl⟩
 obtain ⟨⟨S,b⟩,hq⟩:∃ p:ByteArray×Bool,(if (bl s).take 3=[38,35,120] then Ending.returned (.tuple #[.string (s.extract 3 s.size),.bool true]) else .returned (.tuple #[.string s,.bool false]))=.returned (.tuple #[.string p.1,.bool p.2]):=by
  by_cases h:(bl s).take 3=[38,35,120]
  ·exact ⟨(_,true),by rw [if_pos h]⟩
  ·exact ⟨(_,false),by rw [if_neg h]⟩
 rw [hq] at hI ⊢
 clear hq HP
 simp only at hI ⊢
 go_enter Tryz.func112, Tryz.ntmps112
 go_wp2_with (go_at_call 133;refine (hI.out _).mono ?_;rintro e w1 ⟨rfl,hw1⟩;have hws:=hw1.symm;clear hw1;subst hws)
 exact bodyPost_ret (v:=.tuple #[.string S,.bool b]) (by simp [results,Tryz.results112,go_sem]) rfl ⟨rfl,rfl⟩
theorem trims_q (s:ByteArray)(w:World)(hs:s.size≤1000)(h0:(bl s).getLast?=some 59):Calls Tryz.prog 114 #[.string s,.string ⟨#[59]⟩] w fun e w'=>e=.returned (.string (s.extract 0 (s.size - 1)))∧w'=w:=by
 have HS:=hide (fun w=>hsx_q s w hs h0)
 have h1:1≤s.size:=by
  rw [←bl_length]
  cases hb:bl s with
  | nil=>rw [hb] at h0;cases h0
  | cons a l=>simp
 have hI:Hid (∀ w,Calls Tryz.prog 136 #[.string s,.string ⟨#[59]⟩] w fun e w'=>e=.returned (.string (s.extract 0 (s.size - 1)))∧w'=w):=by
  intro w
  have hw:IntKind.i64.wrap ((s.size:Int) - 1)=(s.size:Int) - 1:=by rw [IntKind.wrap_i64] <;> omega
  have ht:((s.size:Int) - 1).toNat=s.size - 1:=by omega
  have hp:(0:Int)≤(s.size:Int) - 1:=by omega
  have hp2:(s.size:Int) - 1≤(s.size:Int):=by omega
  clear h0 h1
  go_enter Tryz.func136, Tryz.ntmps136
  go_wp2_with (go_at_call 159;refine (HS.out _).mono ?_;rintro e w1 ⟨rfl,hw1⟩;have hws:=hw1.symm;clear hw1;subst hws)
  go_ret
  exact ⟨rfl,rfl⟩
 clear h0 h1 HS
 obtain ⟨S,hS⟩:∃ S,s.extract 0 (s.size - 1)=S:=⟨_,rfl⟩
 rw [hS] at hI ⊢
 clear hS
 go_enter Tryz.func114, Tryz.ntmps114
 go_wp2_with (go_at_call 136;refine (hI.out _).mono ?_;rintro e w1 ⟨rfl,hw1⟩;have hws:=hw1.symm;clear hw1;subst hws)
 go_ret
 exact ⟨rfl,rfl⟩
set_option maxRecDepth 100000 in
theorem or32_n:∀ n:Nat,n<256→bits .or .u8 (n:Int) 32=((n ||| 32:Nat):Int):=by decide +kernel
set_option maxRecDepth 100000 in
theorem dig_n:∀ n:Nat,n<256→¬ (48≤n∧n≤57)→(97≤n ||| 32∧n ||| 32≤102→hxU n.toUInt8=some ((n ||| 32) - 87))∧(¬ (97≤n ||| 32∧n ||| 32≤102)→hxU n.toUInt8=none):=by decide +kernel
theorem or32 (c:UInt8):bits .or .u8 (c.toNat:Int) 32=((c.toNat ||| 32:Nat):Int):=or32_n c.toNat c.toNat_lt
theorem dig_c (c:UInt8)(h:¬ (48≤c.toNat∧c.toNat≤57)):(97≤c.toNat ||| 32∧c.toNat ||| 32≤102→hxU c=some ((c.toNat ||| 32) - 87))∧(¬ (97≤c.toNat ||| 32∧c.toNat ||| 32≤102)→hxU c=none):=by
 have:=dig_n c.toNat c.toNat_lt h
 rwa [show c.toNat.toUInt8=c by simp] at this
theorem hxU_lt {c:UInt8} {d:Nat} (h:hxU c=some d):d<16:=by
 unfold hxU at h
 split at h
 ·cases h;omega
 ·split at h
  ·cases h;omega
  ·split at h
   ·cases h;omega
   ·cases h
def puE:Ending:=.returned (.tuple #[.int .u64 0,.iface 177 (.int .i64 2)])
def puR (s:ByteArray):Ending:=if s.size=0 then puE else match hxN 0 (bl s) with
 | none=>puE
 | some n=>.returned (.tuple #[.int .u64 (n:Int),.nilIface])
set_option maxRecDepth 100000 in
theorem ipu16 (s:ByteArray)(hs:s.size≤7)(hne:s.size≠0)(w:World):Calls Tryz.prog 134 #[.string s,.int .i64 16,.int .i64 32] w fun e w'=>e=puR s∧Below w.heap.size w w':=by
 have hemp:s.toList.isEmpty=false:=by
  rw [←decide_eq_emptyBytes]
  exact decide_eq_false (fun h=>hne (by rw [h];rfl))
 have hcv:=Lib.run_convert_string_bytes (P:=Tryz.prog) w 9 32 5 s (u:=.string) Tryz.underlying9 Tryz.underlying32 Tryz.underlying5
 have hB:∀ j,j<s.size→(Lib.bytesWorld w 5 s).cell? ⟨w.heap.size,j,none⟩=some (.int .u8 (s.data.toList.getD j 0).toNat):=fun j hj=>Lib.bytesWorld_cell w 5 s j hj
 have hpu:Hid (puR s=match hxN 0 (bl s) with|none=>puE|some n=>.returned (.tuple #[.int .u64 (n:Int),.nilIface])):=by show _=_;unfold puR;rw [if_neg hne]
 have hBW:Hid (Below w.heap.size w (Lib.bytesWorld w 5 s)):=⟨rfl,rfl,rfl,by rw [Lib.bytesWorld_size];omega,fun j hj=>Lib.bytesWorld_at_old w 5 s j hj⟩
 obtain ⟨W1,hW1⟩:∃ W1,W1=Lib.bytesWorld w 5 s:=⟨_,rfl⟩
 rw [←hW1] at hcv hB hBW
 clear hW1
 rw [hpu.out]
 obtain ⟨bs,hL⟩:∃ bs,bs=bl s:=⟨_,rfl⟩
 have hLn:bs.length=s.size:=by rw [hL,bl_length]
 have hB2:∀ j,j<s.size→W1.cell? ⟨w.heap.size,j,none⟩=some (.int .u8 (bs.getD j 0).toNat):=fun j hj=>by rw [hB j hj,hL];rfl
 rw [←hL]
 clear hL hB hpu
 obtain ⟨o,ho⟩:∃ o:Ending,(match hxN 0 bs with|none=>puE|some n=>.returned (.tuple #[.int .u64 (n:Int),.nilIface]))=o:=⟨_,rfl⟩
 rw [ho]
 have HO:=hide ho
 clear ho
 have hmv:IntKind.u64.wrap (IntKind.u64.wrap 4294967296 - 1)=4294967295:=by
  rw [IntKind.wrap_u64,IntKind.wrap_u64]
  decide
 go_enter Tryz.func134, Tryz.ntmps134
 go_wp2
 go_loop [12,13,101] (fun vu vn vi=>∃ (k acc:Nat) (a:Int),vu=.bool false∧vn=.int .u64 a∧vi=.int .i64 k∧k≤s.size∧Hid (a=(acc:Int)∧acc<16 ^ k∧hxN 0 bs=hxN acc (bs.drop k))) (fun _ _ vi=>s.size - (intOf vi).toNat)
 case atStart=>exact ⟨0,0,0,rfl,rfl,rfl,by omega,rfl,by simp,rfl⟩
 case round =>
  obtain ⟨k,acc,a,rfl,rfl,rfl,hk,hh⟩:=hrel
  obtain ⟨ha,hacc,hdec⟩:=hh.out
  clear hh
  have a0:0≤a:=by omega
  have hp7:16 ^ k≤16 ^ 7:=Nat.pow_le_pow_right (by omega) (by omega)
  by_cases hkn:k<s.size
  ·have hp6:16 ^ k≤16 ^ 6:=Nat.pow_le_pow_right (by omega) (by omega)
   have a1:a<16777216:=by
    have:(16:Nat) ^ 6=16777216:=by decide
    omega
   have hc:=hB2 k hkn
   have hdrop:bs.drop k=bs[k]'(by omega) :: bs.drop (k+1):=List.drop_eq_getElem_cons (by omega)
   have hget:bs.getD k 0=bs[k]'(by omega):=by simp [List.getD,List.getElem?_eq_getElem (show k<bs.length by omega)]
   rw [hdrop] at hdec
   rw [hget] at hc
   generalize bs[k]'(by omega)=c at hc hdec
   have hc256:c.toNat<256:=c.toNat_lt
   have hpk:Hid (∀ d,d<16→acc * 16+d<16 ^ (k+1)):=fun d hd=>by rw [Nat.pow_succ];omega
   clear hdrop hget hp6 hp7 hB2
   by_cases hdig:48≤c.toNat∧c.toNat≤57
   ·obtain ⟨hd0,hd1⟩:=hdig
    have e95:((c.toNat:Int)==95)=false:=by simp;omega
    have hU:hxU c=some (c.toNat - 48):=by unfold hxU;rw [if_pos ⟨hd0,hd1⟩]
    have HN:Hid (a * 16+((c.toNat:Int) - 48)=((acc * 16+(c.toNat - 48):Nat):Int)∧acc * 16+(c.toNat - 48)<16 ^ (k+1)∧hxN 0 bs=hxN (acc * 16+(c.toNat - 48)) (bs.drop (k+1))):=⟨by omega,hpk.out _ (by omega),by rw [hdec,hxN,hU];simp only;rw [Nat.mul_comm]⟩
    have icut:a<1152921504606846976:=by omega
    have iov:a * 16+((c.toNat:Int) - 48)<4294967296:=by omega
    have hw1:IntKind.u64.wrap (a * 16)=a * 16:=by rw [IntKind.wrap_u64];omega
    have hw2:IntKind.u64.wrap (a * 16+((c.toNat:Int) - 48))=a * 16+((c.toNat:Int) - 48):=by rw [IntKind.wrap_u64];omega
    clear hacc hdec ha hU hpk
    go_wp2
    refine ⟨⟨k+1,acc * 16+(c.toNat - 48),a * 16+((c.toNat:Int) - 48),rfl,(by first|rfl|(congr 1;omega)),(by first|rfl|(congr 1;omega)),by omega,HN⟩,by simp [intOf];omega⟩
   ·obtain ⟨hu1,hu2⟩:=dig_c c hdig
    have hor:=or32 c
    obtain ⟨v,hv⟩:∃ v,c.toNat ||| 32=v:=⟨_,rfl⟩
    have hvl:v<256:=by rw [←hv];exact Nat.or_lt_two_pow (n:=8) (by omega) (by omega)
    rw [hv] at hu1 hu2 hor
    by_cases hlet:97≤v∧v≤102
    ·have hU:=hu1 hlet
     obtain ⟨hv0,hv1⟩:=hlet
     have h127:(95:Nat) ||| 32=127:=by decide
     have h95:¬ c.toNat=95:=fun e=>by rw [e] at hv;omega
     have e95:((c.toNat:Int)==95)=false:=by simp;omega
     have h48:¬ c.toNat<48:=fun e=>by
      have:c.toNat ||| 32<2 ^ 6:=Nat.or_lt_two_pow (by omega) (by omega)
      omega
     have hc57:(57:Int)<(c.toNat:Int):=by omega
     have hc48:(48:Int)≤(c.toNat:Int):=by omega
     have hiv0:(97:Int)≤(v:Int):=by omega
     have hiv1:(v:Int)≤102:=by omega
     have HN:Hid (a * 16+((v:Int) - 87)=((acc * 16+(v - 87):Nat):Int)∧acc * 16+(v - 87)<16 ^ (k+1)∧hxN 0 bs=hxN (acc * 16+(v - 87)) (bs.drop (k+1))):=⟨by omega,hpk.out _ (by omega),by rw [hdec,hxN,hU];simp only;rw [Nat.mul_comm]⟩
     have icut:a<1152921504606846976:=by omega
     have iov:a * 16+((v:Int) - 87)<4294967296:=by omega
     have hw1:IntKind.u64.wrap (a * 16)=a * 16:=by rw [IntKind.wrap_u64];omega
     have hw2:IntKind.u64.wrap (a * 16+((v:Int) - 87))=a * 16+((v:Int) - 87):=by rw [IntKind.wrap_u64];omega
     have hw3:(v:Int) - 97+10=(v:Int) - 87:=by omega
     clear hacc hdec ha hU hpk hu1 hu2 hv h127 h95 h48 hdig
     go_wp2
     refine ⟨⟨k+1,acc * 16+(v - 87),a * 16+((v:Int) - 87),rfl,(by first|rfl|(congr 1;omega)),(by first|rfl|(congr 1;omega)),by omega,HN⟩,by simp [intOf];omega⟩
    ·have hU:=hu2 hlet
     have hno:hxN 0 bs=none:=by rw [hdec,hxN,hU]
     have HO2:Hid (o=puE):=by show _=_;rw [←HO.out,hno]
     clear hacc hdec ha hU hpk hu1 hu2 hno HO
     have hb1:97≤v→102<v:=fun q=>by
      by_cases hq:102<v
      ·exact hq
      ·exact absurd ⟨q,by omega⟩ hlet
     obtain ⟨b95,h95⟩:∃ b,((c.toNat:Int)==95)=b:=⟨_,rfl⟩
     by_cases hc48:c.toNat<48
     ·have i48:(c.toNat:Int)<48:=by omega
      have hv64:v<64:=by rw [←hv];exact Nat.or_lt_two_pow (n:=6) (by omega) (by omega)
      have iv:(v:Int)<97:=by omega
      clear hb1 hlet hdig hv
      cases b95
      all_goals
       go_wp2
       go_ret2
       exact ⟨HO2.out.symm,hBW.out⟩
     ·have i48:(57:Int)<(c.toNat:Int):=by omega
      have i49:(48:Int)≤(c.toNat:Int):=by omega
      by_cases hv97:v<97
      ·have iv:(v:Int)<97:=by omega
       clear hb1 hlet hdig hv
       cases b95
       all_goals
        go_wp2
        go_ret2
        exact ⟨HO2.out.symm,hBW.out⟩
      ·have iv:(97:Int)≤(v:Int):=by omega
       by_cases hv122:v≤122
       ·have iv1:(v:Int)≤122:=by omega
        have iv2:(102:Int)<(v:Int):=by have:=hb1 (by omega);omega
        have iw:IntKind.u8.wrap ((v:Int) - 97+10)=(v:Int) - 87:=by rw [IntKind.wrap_u8];omega
        clear hb1 hlet hdig hv
        cases b95
        all_goals
         go_wp2
         go_ret2
         exact ⟨HO2.out.symm,hBW.out⟩
       ·have iv1:(122:Int)<(v:Int):=by omega
        clear hb1 hlet hdig hv
        cases b95
        all_goals
         go_wp2
         go_ret2
         exact ⟨HO2.out.symm,hBW.out⟩
  ·have hke:k=s.size:=by omega
   have hkn':¬ (k:Int)<(s.size:Int):=by omega
   have hsome:hxN 0 bs=some acc:=by rw [hdec,List.drop_of_length_le (by omega)];rfl
   have HO2:Hid (o=.returned (.tuple #[.int .u64 a,.nilIface])):=by show _=_;rw [←HO.out,hsome,ha]
   clear hdec ha hacc hB2 hsome HO
   go_wp2
   go_ret2
   exact ⟨HO2.out.symm,hBW.out⟩
end Go.Proofs.YthodiandebahdaaGreatDoor
