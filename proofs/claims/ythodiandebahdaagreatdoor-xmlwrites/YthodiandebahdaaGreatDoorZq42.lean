/- Merged by program: YwTake, YxTake, DhAtt. -/
import Derived.Test.YthodiandebahdaaGreatDoorZq41
namespace Go.Proofs.YthodiandebahdaaGreatDoor
open Go.RowKit
set_option linter.unusedSimpArgs false
set_option linter.unusedVariables false
set_option maxHeartbeats 8000000
section
variable {W W1 W2 : World} {r : Nat} {g : Tg} {m m1 : Xm} {st : Xs}
theorem mkI_neq (p:Nat×Int×Bool)(w:World):(binOp .neq 116 (mkI p) .nilIface).run Tryz.prog w=.ok (.bool true) w:=by
 obtain ⟨t,k,b⟩:=p
 unfold mkI
 simp only
 repeat (split;· kernel_rfl)
 kernel_rfl
theorem mkI_guard (p:Nat×Int×Bool)(w:World)(x y:Operand):(eqGuard .neq 116 x y (mkI p) .nilIface).run Tryz.prog w=.ok () w:=by
 obtain ⟨t,k,b⟩:=p
 unfold mkI
 simp only
 repeat (split;· simp [eqGuard])
 simp [eqGuard]
set_option maxRecDepth 100000 in
theorem inMark_q (h:XM W r g m st)(hm12:st.mark.length≤12)(c:UInt8)(hn:st.t.n≤199990):Calls Tryz.prog 59 #[.pointer (some ⟨r,0,none⟩),.int .u8 c.toNat] W fun e w'=>XP W r g m (inMarkS st c) e w':=by
 have hlt:=h.lt
 have H:=hide h
 obtain ⟨wa,wc,hw⟩:=h.shM
 have c1:W.cell? ⟨r,1,none⟩=some (.slice wa st.mark.length wc):=(h.rd.cell 1).trans (by rw [←hw];rfl)
 have f1W:W.frozen? ⟨r,1,none⟩=false:=h.rd.frz 1
 have O:=h.row.mark
 rw [hw] at O
 have O':=hide O
 have Hw:=hide hw
 have hl5:Hid (st.mark.length + [c].length≤13):=by show _≤_;simp;omega
 have MK:=hide (fun w=>mark_q (mkB (st.mark++[c])) w)
 rw [bl_mkB] at MK
 clear h hw O
 unfold inMarkS
 cases hq:mkOf (st.mark++[c]) with
 | none =>
  rw [hq] at MK
  clear hq
  simp only [mkV,Option.elim] at MK ⊢
  by_cases h13:st.mark.length+1=13
  ·rw [if_pos h13]
   have e13:(((st.mark.length:Int)+1)==13)=true:=by simp;omega
   clear h13
   go_enter Tryz.func59, Tryz.ntmps59
   go_wp2_with (at_builtin;refine Sto.out ?_)
   refine Sto.mk ?_
   refine app_b rfl (.tmp 9) (.tmp 11) rfl (r+1) (.slice wa st.mark.length wc) st.mark rfl (own_of O'.out fun k hk hlt=>Below.heap_alloc _ _ _ hlt) ⟨W.heap.size,0,none⟩ 1 rfl c (news1b W _ _ c.toNat rfl) (by omega) (by simp;omega) ?_
   intro av5 c5 w5 ho5 hg5 hat5
   have P5:=hide (H.out.pushM (l:=[c]) Hw.out (below_al (Below.refl _ _)) hg5.out ho5.out hat5.out hl5.out)
   have K5:XdB w5 r _:=((H.out.then (below_al (Below.refl _ _))).rd.same (hg5.out.block r (by simp;omega) (fun e=>by have:=(World.ownsRow.lt O'.out r e.symm).1;omega)))
   have l5:=(K5.cell 1).trans (show _=some (.slice wa st.mark.length wc) by rw [←Hw.out];rfl)
   have n5:w5.frozen? ⟨r,1,none⟩=false:=K5.frz 1
   obtain ⟨W6,hW6⟩:∃ W6,w5.setCell ⟨r,1,none⟩ (.slice av5 (st.mark.length+1) c5)=W6:=⟨_,rfl⟩
   rw [hW6] at P5
   obtain ⟨pf,_,m6,pm,po⟩:=P5.out
   have F6:=hide pf
   have M6:=hide pm
   have O6:=hide po
   have d1:W6.cell? ⟨r,1,none⟩=some (.slice av5 (st.mark.length+1) c5):=by rw [←hW6];exact (K5.set 1 (.slice av5 (st.mark.length+1) c5) (({st with mark:=st.mark++[c]}:Xs).xv g {m with mark:=.slice av5 (st.mark.length+1) c5}) rfl).cell 1
   have f1:W6.frozen? ⟨r,1,none⟩=false:=M6.out.rd.frz 1
   have hm6:Hid (m6.mark=.slice av5 (st.mark.length+1) c5):=by
    have:=(M6.out.rd.cell 1).symm.trans d1
    exact Option.some.inj this
   clear P5 pf pm po K5 c1 f1W
   have hcv:(convert 32 9 (.slice av5 (st.mark.length+1) c5)).run Tryz.prog W6=.ok (.string (mkB (st.mark++[c]))) W6:=by
    have:=own_conv (M6.out.row.mark)
    rw [hm6.out] at this
    exact this
   have nil1:Hid (∀ w7,Below W6.heap.size W6 w7→XP W6 r g m6 (.inr {st with mark:=[]}) (.returned (.tuple #[])) (w7.setCell ⟨r,1,none⟩ (.slice none 0 0))):=fun w7 hb=>by
    have h7:=M6.out.then hb
    have O7:TdO r w7 (w7.setCell ⟨r,1,none⟩ (.slice none 0 0)):=TdO.refl.set 1 _
    refine XP.base M6.out hb ⟨XF.ofO h7 O7,rfl,{m6 with mark:=.slice none 0 0},h7.blk O7 (h7.rd.set 1 (.slice none 0 0) (({st with mark:=[]}:Xs).xv g {m6 with mark:=.slice none 0 0}) rfl) ⟨own_nil _ _,h7.row.held,h7.row.ref,h7.row.opn,(fun k e=>by cases e),(fun k e=>by cases e),h7.row.d3,Nat.zero_le _,h7.row.hl,h7.row.rl,h7.row.kl⟩ rfl rfl,⟨Or.inr (fun k e=>by cases e),OB.refl _ _,OB.refl _ _,OB.refl _ _⟩⟩
   go_wp2_with (go_at_call 87;refine (MK.out _).mono ?_;rintro e w7 ⟨rfl,hb7⟩;have B7:=hide hb7;have M7:=hide (M6.out.then hb7);have d17:w7.cell? ⟨r,1,none⟩=some (.slice av5 (st.mark.length+1) c5):=(M7.out.rd.cell 1).trans (by rw [←hm6.out];rfl);have f17:w7.frozen? ⟨r,1,none⟩=false:=M7.out.rd.frz 1;obtain ⟨pf,_,m8,pm,po⟩:=nil1.out w7 hb7;have F8:=hide pf;have M8:=hide pm;have O8:=hide po;clear hb7 pf pm po)
   exact ⟨rfl,XP.trans F6.out O6.out (XP.base M6.out B7.out (M7.out.fail 100))⟩
  ·rw [if_neg h13]
   have e13:(((st.mark.length:Int)+1)==13)=false:=by simp;omega
   clear h13
   go_enter Tryz.func59, Tryz.ntmps59
   go_wp2_with (at_builtin;refine Sto.out ?_)
   refine Sto.mk ?_
   refine app_b rfl (.tmp 9) (.tmp 11) rfl (r+1) (.slice wa st.mark.length wc) st.mark rfl (own_of O'.out fun k hk hlt=>Below.heap_alloc _ _ _ hlt) ⟨W.heap.size,0,none⟩ 1 rfl c (news1b W _ _ c.toNat rfl) (by omega) (by simp;omega) ?_
   intro av5 c5 w5 ho5 hg5 hat5
   have P5:=hide (H.out.pushM (l:=[c]) Hw.out (below_al (Below.refl _ _)) hg5.out ho5.out hat5.out hl5.out)
   have K5:XdB w5 r _:=((H.out.then (below_al (Below.refl _ _))).rd.same (hg5.out.block r (by simp;omega) (fun e=>by have:=(World.ownsRow.lt O'.out r e.symm).1;omega)))
   have l5:=(K5.cell 1).trans (show _=some (.slice wa st.mark.length wc) by rw [←Hw.out];rfl)
   have n5:w5.frozen? ⟨r,1,none⟩=false:=K5.frz 1
   obtain ⟨W6,hW6⟩:∃ W6,w5.setCell ⟨r,1,none⟩ (.slice av5 (st.mark.length+1) c5)=W6:=⟨_,rfl⟩
   rw [hW6] at P5
   obtain ⟨pf,_,m6,pm,po⟩:=P5.out
   have F6:=hide pf
   have M6:=hide pm
   have O6:=hide po
   have d1:W6.cell? ⟨r,1,none⟩=some (.slice av5 (st.mark.length+1) c5):=by rw [←hW6];exact (K5.set 1 (.slice av5 (st.mark.length+1) c5) (({st with mark:=st.mark++[c]}:Xs).xv g {m with mark:=.slice av5 (st.mark.length+1) c5}) rfl).cell 1
   have f1:W6.frozen? ⟨r,1,none⟩=false:=M6.out.rd.frz 1
   have hm6:Hid (m6.mark=.slice av5 (st.mark.length+1) c5):=by
    have:=(M6.out.rd.cell 1).symm.trans d1
    exact Option.some.inj this
   clear P5 pf pm po K5 c1 f1W
   have hcv:(convert 32 9 (.slice av5 (st.mark.length+1) c5)).run Tryz.prog W6=.ok (.string (mkB (st.mark++[c]))) W6:=by
    have:=own_conv (M6.out.row.mark)
    rw [hm6.out] at this
    exact this
   have nil1:Hid (∀ w7,Below W6.heap.size W6 w7→XP W6 r g m6 (.inr {st with mark:=[]}) (.returned (.tuple #[])) (w7.setCell ⟨r,1,none⟩ (.slice none 0 0))):=fun w7 hb=>by
    have h7:=M6.out.then hb
    have O7:TdO r w7 (w7.setCell ⟨r,1,none⟩ (.slice none 0 0)):=TdO.refl.set 1 _
    refine XP.base M6.out hb ⟨XF.ofO h7 O7,rfl,{m6 with mark:=.slice none 0 0},h7.blk O7 (h7.rd.set 1 (.slice none 0 0) (({st with mark:=[]}:Xs).xv g {m6 with mark:=.slice none 0 0}) rfl) ⟨own_nil _ _,h7.row.held,h7.row.ref,h7.row.opn,(fun k e=>by cases e),(fun k e=>by cases e),h7.row.d3,Nat.zero_le _,h7.row.hl,h7.row.rl,h7.row.kl⟩ rfl rfl,⟨Or.inr (fun k e=>by cases e),OB.refl _ _,OB.refl _ _,OB.refl _ _⟩⟩
   go_wp2_with (go_at_call 87;refine (MK.out _).mono ?_;rintro e w7 ⟨rfl,hb7⟩;have B7:=hide hb7;have M7:=hide (M6.out.then hb7);have d17:w7.cell? ⟨r,1,none⟩=some (.slice av5 (st.mark.length+1) c5):=(M7.out.rd.cell 1).trans (by rw [←hm6.out];rfl);have f17:w7.frozen? ⟨r,1,none⟩=false:=M7.out.rd.frz 1;obtain ⟨pf,_,m8,pm,po⟩:=nil1.out w7 hb7;have F8:=hide pf;have M8:=hide pm;have O8:=hide po;clear hb7 pf pm po)
   go_end0
   exact XP.trans F6.out O6.out (XP.base M6.out B7.out M7.out.idle)
 | some p =>
  have hok:=mkOf_ok hq
  rw [hq] at MK
  clear hq
  simp only [mkV,Option.elim] at MK ⊢
  have C:=hide (fun w m1 (h1:XM w r g m1 {st with mark:=[]})=>tmark_q h1 p hok hn)
  have nq:=mkI_neq p
  have ng:=mkI_guard p
  obtain ⟨V,hV⟩:∃ V,mkI p=V:=⟨_,rfl⟩
  rw [hV] at MK C nq ng
  obtain ⟨o,ho⟩:∃ o,markS {st with mark:=[]} p=o:=⟨_,rfl⟩
  rw [ho] at C ⊢
  clear ho hV hok
  cases o with
  | inl E =>
   go_enter Tryz.func59, Tryz.ntmps59
   go_wp2_with (at_builtin;refine Sto.out ?_)
   refine Sto.mk ?_
   refine app_b rfl (.tmp 9) (.tmp 11) rfl (r+1) (.slice wa st.mark.length wc) st.mark rfl (own_of O'.out fun k hk hlt=>Below.heap_alloc _ _ _ hlt) ⟨W.heap.size,0,none⟩ 1 rfl c (news1b W _ _ c.toNat rfl) (by omega) (by simp;omega) ?_
   intro av5 c5 w5 ho5 hg5 hat5
   have P5:=hide (H.out.pushM (l:=[c]) Hw.out (below_al (Below.refl _ _)) hg5.out ho5.out hat5.out hl5.out)
   have K5:XdB w5 r _:=((H.out.then (below_al (Below.refl _ _))).rd.same (hg5.out.block r (by simp;omega) (fun e=>by have:=(World.ownsRow.lt O'.out r e.symm).1;omega)))
   have l5:=(K5.cell 1).trans (show _=some (.slice wa st.mark.length wc) by rw [←Hw.out];rfl)
   have n5:w5.frozen? ⟨r,1,none⟩=false:=K5.frz 1
   obtain ⟨W6,hW6⟩:∃ W6,w5.setCell ⟨r,1,none⟩ (.slice av5 (st.mark.length+1) c5)=W6:=⟨_,rfl⟩
   rw [hW6] at P5
   obtain ⟨pf,_,m6,pm,po⟩:=P5.out
   have F6:=hide pf
   have M6:=hide pm
   have O6:=hide po
   have d1:W6.cell? ⟨r,1,none⟩=some (.slice av5 (st.mark.length+1) c5):=by rw [←hW6];exact (K5.set 1 (.slice av5 (st.mark.length+1) c5) (({st with mark:=st.mark++[c]}:Xs).xv g {m with mark:=.slice av5 (st.mark.length+1) c5}) rfl).cell 1
   have f1:W6.frozen? ⟨r,1,none⟩=false:=M6.out.rd.frz 1
   have hm6:Hid (m6.mark=.slice av5 (st.mark.length+1) c5):=by
    have:=(M6.out.rd.cell 1).symm.trans d1
    exact Option.some.inj this
   clear P5 pf pm po K5 c1 f1W
   have hcv:(convert 32 9 (.slice av5 (st.mark.length+1) c5)).run Tryz.prog W6=.ok (.string (mkB (st.mark++[c]))) W6:=by
    have:=own_conv (M6.out.row.mark)
    rw [hm6.out] at this
    exact this
   have nil1:Hid (∀ w7,Below W6.heap.size W6 w7→XP W6 r g m6 (.inr {st with mark:=[]}) (.returned (.tuple #[])) (w7.setCell ⟨r,1,none⟩ (.slice none 0 0))):=fun w7 hb=>by
    have h7:=M6.out.then hb
    have O7:TdO r w7 (w7.setCell ⟨r,1,none⟩ (.slice none 0 0)):=TdO.refl.set 1 _
    refine XP.base M6.out hb ⟨XF.ofO h7 O7,rfl,{m6 with mark:=.slice none 0 0},h7.blk O7 (h7.rd.set 1 (.slice none 0 0) (({st with mark:=[]}:Xs).xv g {m6 with mark:=.slice none 0 0}) rfl) ⟨own_nil _ _,h7.row.held,h7.row.ref,h7.row.opn,(fun k e=>by cases e),(fun k e=>by cases e),h7.row.d3,Nat.zero_le _,h7.row.hl,h7.row.rl,h7.row.kl⟩ rfl rfl,⟨Or.inr (fun k e=>by cases e),OB.refl _ _,OB.refl _ _,OB.refl _ _⟩⟩
   go_wp2_with (first|(go_at_call 87;refine (MK.out _).mono ?_;rintro e w7 ⟨rfl,hb7⟩;have B7:=hide hb7;have M7:=hide (M6.out.then hb7);have d17:w7.cell? ⟨r,1,none⟩=some (.slice av5 (st.mark.length+1) c5):=(M7.out.rd.cell 1).trans (by rw [←hm6.out];rfl);have f17:w7.frozen? ⟨r,1,none⟩=false:=M7.out.rd.frz 1;obtain ⟨pf,_,m8,pm,po⟩:=nil1.out w7 hb7;have F8:=hide pf;have M8:=hide pm;have O8:=hide po;clear hb7 pf pm po)|(go_at_call 88;refine (C.out _ _ M8.out).mono ?_;rintro q w9 hp;have K:=hide (XP.trans F6.out O6.out (XP.trans F8.out O8.out hp));obtain ⟨_,rfl,_⟩:=hp))
   exact ⟨rfl,K.out⟩
  | inr x =>
   go_enter Tryz.func59, Tryz.ntmps59
   go_wp2_with (at_builtin;refine Sto.out ?_)
   refine Sto.mk ?_
   refine app_b rfl (.tmp 9) (.tmp 11) rfl (r+1) (.slice wa st.mark.length wc) st.mark rfl (own_of O'.out fun k hk hlt=>Below.heap_alloc _ _ _ hlt) ⟨W.heap.size,0,none⟩ 1 rfl c (news1b W _ _ c.toNat rfl) (by omega) (by simp;omega) ?_
   intro av5 c5 w5 ho5 hg5 hat5
   have P5:=hide (H.out.pushM (l:=[c]) Hw.out (below_al (Below.refl _ _)) hg5.out ho5.out hat5.out hl5.out)
   have K5:XdB w5 r _:=((H.out.then (below_al (Below.refl _ _))).rd.same (hg5.out.block r (by simp;omega) (fun e=>by have:=(World.ownsRow.lt O'.out r e.symm).1;omega)))
   have l5:=(K5.cell 1).trans (show _=some (.slice wa st.mark.length wc) by rw [←Hw.out];rfl)
   have n5:w5.frozen? ⟨r,1,none⟩=false:=K5.frz 1
   obtain ⟨W6,hW6⟩:∃ W6,w5.setCell ⟨r,1,none⟩ (.slice av5 (st.mark.length+1) c5)=W6:=⟨_,rfl⟩
   rw [hW6] at P5
   obtain ⟨pf,_,m6,pm,po⟩:=P5.out
   have F6:=hide pf
   have M6:=hide pm
   have O6:=hide po
   have d1:W6.cell? ⟨r,1,none⟩=some (.slice av5 (st.mark.length+1) c5):=by rw [←hW6];exact (K5.set 1 (.slice av5 (st.mark.length+1) c5) (({st with mark:=st.mark++[c]}:Xs).xv g {m with mark:=.slice av5 (st.mark.length+1) c5}) rfl).cell 1
   have f1:W6.frozen? ⟨r,1,none⟩=false:=M6.out.rd.frz 1
   have hm6:Hid (m6.mark=.slice av5 (st.mark.length+1) c5):=by
    have:=(M6.out.rd.cell 1).symm.trans d1
    exact Option.some.inj this
   clear P5 pf pm po K5 c1 f1W
   have hcv:(convert 32 9 (.slice av5 (st.mark.length+1) c5)).run Tryz.prog W6=.ok (.string (mkB (st.mark++[c]))) W6:=by
    have:=own_conv (M6.out.row.mark)
    rw [hm6.out] at this
    exact this
   have nil1:Hid (∀ w7,Below W6.heap.size W6 w7→XP W6 r g m6 (.inr {st with mark:=[]}) (.returned (.tuple #[])) (w7.setCell ⟨r,1,none⟩ (.slice none 0 0))):=fun w7 hb=>by
    have h7:=M6.out.then hb
    have O7:TdO r w7 (w7.setCell ⟨r,1,none⟩ (.slice none 0 0)):=TdO.refl.set 1 _
    refine XP.base M6.out hb ⟨XF.ofO h7 O7,rfl,{m6 with mark:=.slice none 0 0},h7.blk O7 (h7.rd.set 1 (.slice none 0 0) (({st with mark:=[]}:Xs).xv g {m6 with mark:=.slice none 0 0}) rfl) ⟨own_nil _ _,h7.row.held,h7.row.ref,h7.row.opn,(fun k e=>by cases e),(fun k e=>by cases e),h7.row.d3,Nat.zero_le _,h7.row.hl,h7.row.rl,h7.row.kl⟩ rfl rfl,⟨Or.inr (fun k e=>by cases e),OB.refl _ _,OB.refl _ _,OB.refl _ _⟩⟩
   go_wp2_with (first|(go_at_call 87;refine (MK.out _).mono ?_;rintro e w7 ⟨rfl,hb7⟩;have B7:=hide hb7;have M7:=hide (M6.out.then hb7);have d17:w7.cell? ⟨r,1,none⟩=some (.slice av5 (st.mark.length+1) c5):=(M7.out.rd.cell 1).trans (by rw [←hm6.out];rfl);have f17:w7.frozen? ⟨r,1,none⟩=false:=M7.out.rd.frz 1;obtain ⟨pf,_,m8,pm,po⟩:=nil1.out w7 hb7;have F8:=hide pf;have M8:=hide pm;have O8:=hide po;clear hb7 pf pm po)|(go_at_call 88;refine (C.out _ _ M8.out).mono ?_;rintro q w9 hp;have K:=hide (XP.trans F6.out O6.out (XP.trans F8.out O8.out hp));obtain ⟨_,rfl,_⟩:=hp))
   go_end0
   exact K.out
end
structure Wx (st:Xs):Prop where
 mkl:st.mark.length≤12
 rf:st.ref.length≤9
def blkB:ByteArray:=⟨#[32,9,10,13]⟩
set_option maxRecDepth 100000 in
theorem blk_n:∀ n:Nat,n<256→(firstIdx blkB n.toUInt8<0↔blank n.toUInt8=false):=by decide +kernel
theorem blk_c (c:UInt8):(firstIdx blkB ((c.toNat:Int).toNat.toUInt8)<0↔blank c=false):=by
 have h:=blk_n c.toNat c.toNat_lt
 have e:c.toNat.toUInt8=c:=by simp
 rw [Int.toNat_natCast]
 rw [e] at h ⊢
 exact h
section
variable {W W1 W2 : World} {r : Nat} {g : Tg} {m m1 : Xm} {st : Xs}
set_option maxRecDepth 100000 in
theorem take_q (h:XM W r g m st)(c:UInt8)(ge:Ge (bdR st c) W)(hx:Wx st)(hn:st.t.n≤199990):Calls Tryz.prog 31 #[.pointer (some ⟨r,0,none⟩),.int .u8 c.toNat] W fun e w'=>XP W r g m (goX st c) e w':=by
 have hm12:=hx.mkl
 have hlt:=h.lt
 have H:=hide h
 obtain ⟨wa,wc,hw⟩:=h.shM
 have c1:W.cell? ⟨r,1,none⟩=some (.slice wa st.mark.length wc):=(h.rd.cell 1).trans (by rw [←hw];rfl)
 have f1W:W.frozen? ⟨r,1,none⟩=false:=h.rd.frz 1
 have O:=h.row.mark
 rw [hw] at O
 have O':=hide O
 have Hw:=hide hw
 have hl5:Hid (st.mark.length + [c].length≤13):=by show _≤_;simp;omega
 obtain ⟨ra,rc,hra⟩:=h.shR
 have c4:W.cell? ⟨r,4,none⟩=some (.slice ra st.ref.length rc):=(h.rd.cell 4).trans (by rw [←hra];rfl)
 have c2:W.cell? ⟨r,2,none⟩=some (.int .i64 st.rk):=(h.rd.cell 2).trans rfl
 have hra0:=hide hra
 clear hw O hra
 unfold goX
 by_cases hm:st.mark=[]
 ·rw [if_neg (by simpa using hm)]
  have c1':=c1
  rw [hm] at c1'
  by_cases hr:st.ref=[]
  ·rw [if_neg (by simpa using hr)]
   have c4':=c4
   rw [hr] at c4'
   clear c4
   by_cases hq:c=60∨c=34
   ·rw [if_pos hq]
    have hmk:Hid ({st with mark:=[c]}=({st with mark:=st.mark++[c]}:Xs)):=by show _=_;rw [hm];rfl
    rw [hmk.out]
    have hr0:Hid (st.ref.length=0):=by show _=_;rw [hr];rfl
    have hz:Hid (st.mark.length=0):=by show _=_;rw [hm];rfl
    have e0:decide ((0:Int)<(st.mark.length:Int))=false:=by rw [hm];rfl
    have e0n:decide (0<st.mark.length)=false:=by rw [hm];rfl
    have e0m:¬ 0<st.mark.length:=by rw [hm];decide
    clear c1' hm h ge hx hn c4' hr
    have c4':W.cell? ⟨r,4,none⟩=some (.slice ra 0 rc):=(H.out.rd.cell 4).trans (by rw [show (st.xv g m).cells[4]?=some m.ref from rfl,hra0.out,hr0.out])
    rcases hq with e60|e34
    ·have q60:((c.toNat:Int)==60)=true:=by rw [e60];rfl
     clear e60
     go_enter Tryz.func31, Tryz.ntmps31
     go_wp2_with (at_builtin;refine Sto.out ?_)
     refine Sto.mk ?_
     refine app_b rfl (.tmp 36) (.tmp 38) rfl (r+1) (.slice wa st.mark.length wc) st.mark rfl (own_of O'.out fun k hk hlt=>Below.heap_alloc _ _ _ hlt) ⟨W.heap.size,0,none⟩ 1 rfl c (news1b W _ _ c.toNat rfl) (by omega) (by simp;omega) ?_
     intro av5 c5 w5 ho5 hg5 hat5
     have P5:=hide (H.out.pushM (l:=[c]) Hw.out (below_al (Below.refl _ _)) hg5.out ho5.out hat5.out hl5.out)
     have K5:XdB w5 r _:=((H.out.then (below_al (Below.refl _ _))).rd.same (hg5.out.block r (by simp;omega) (fun e=>by have:=(World.ownsRow.lt O'.out r e.symm).1;omega)))
     have l5:=(K5.cell 1).trans (show _=some (.slice wa st.mark.length wc) by rw [←Hw.out];rfl)
     have n5:w5.frozen? ⟨r,1,none⟩=false:=K5.frz 1
     obtain ⟨W6,hW6⟩:∃ W6,w5.setCell ⟨r,1,none⟩ (.slice av5 (st.mark.length+1) c5)=W6:=⟨_,rfl⟩
     rw [hW6] at P5
     obtain ⟨pf,_,m6,pm,po⟩:=P5.out
     have F6:=hide pf
     have M6:=hide pm
     have O6:=hide po
     have d1:W6.cell? ⟨r,1,none⟩=some (.slice av5 (st.mark.length+1) c5):=by rw [←hW6];exact (K5.set 1 (.slice av5 (st.mark.length+1) c5) (({st with mark:=st.mark++[c]}:Xs).xv g {m with mark:=.slice av5 (st.mark.length+1) c5}) rfl).cell 1
     have f1:W6.frozen? ⟨r,1,none⟩=false:=M6.out.rd.frz 1
     have hm6:Hid (m6.mark=.slice av5 (st.mark.length+1) c5):=by
      have:=(M6.out.rd.cell 1).symm.trans d1
      exact Option.some.inj this
     clear P5 pf pm po K5 c1 f1W
     go_wp2_with fail
     go_end0
     exact ⟨F6.out,rfl,m6,M6.out,O6.out⟩
    ·have q60:((c.toNat:Int)==60)=false:=by rw [e34];rfl
     have q34:((c.toNat:Int)==34)=true:=by rw [e34];rfl
     clear e34
     go_enter Tryz.func31, Tryz.ntmps31
     go_wp2_with (at_builtin;refine Sto.out ?_)
     refine Sto.mk ?_
     refine app_b rfl (.tmp 36) (.tmp 38) rfl (r+1) (.slice wa st.mark.length wc) st.mark rfl (own_of O'.out fun k hk hlt=>Below.heap_alloc _ _ _ hlt) ⟨W.heap.size,0,none⟩ 1 rfl c (news1b W _ _ c.toNat rfl) (by omega) (by simp;omega) ?_
     intro av5 c5 w5 ho5 hg5 hat5
     have P5:=hide (H.out.pushM (l:=[c]) Hw.out (below_al (Below.refl _ _)) hg5.out ho5.out hat5.out hl5.out)
     have K5:XdB w5 r _:=((H.out.then (below_al (Below.refl _ _))).rd.same (hg5.out.block r (by simp;omega) (fun e=>by have:=(World.ownsRow.lt O'.out r e.symm).1;omega)))
     have l5:=(K5.cell 1).trans (show _=some (.slice wa st.mark.length wc) by rw [←Hw.out];rfl)
     have n5:w5.frozen? ⟨r,1,none⟩=false:=K5.frz 1
     obtain ⟨W6,hW6⟩:∃ W6,w5.setCell ⟨r,1,none⟩ (.slice av5 (st.mark.length+1) c5)=W6:=⟨_,rfl⟩
     rw [hW6] at P5
     obtain ⟨pf,_,m6,pm,po⟩:=P5.out
     have F6:=hide pf
     have M6:=hide pm
     have O6:=hide po
     have d1:W6.cell? ⟨r,1,none⟩=some (.slice av5 (st.mark.length+1) c5):=by rw [←hW6];exact (K5.set 1 (.slice av5 (st.mark.length+1) c5) (({st with mark:=st.mark++[c]}:Xs).xv g {m with mark:=.slice av5 (st.mark.length+1) c5}) rfl).cell 1
     have f1:W6.frozen? ⟨r,1,none⟩=false:=M6.out.rd.frz 1
     have hm6:Hid (m6.mark=.slice av5 (st.mark.length+1) c5):=by
      have:=(M6.out.rd.cell 1).symm.trans d1
      exact Option.some.inj this
     clear P5 pf pm po K5 c1 f1W
     go_wp2_with fail
     go_end0
     exact ⟨F6.out,rfl,m6,M6.out,O6.out⟩
   ·rw [if_neg hq]
    have q60:((c.toNat:Int)==60)=false:=u8_ne (k:=60) (by decide) (fun e=>hq (Or.inl e))
    have q34:((c.toNat:Int)==34)=false:=u8_ne (k:=34) (by decide) (fun e=>hq (Or.inr e))
    by_cases h0:st.rk=0
    ·rw [if_neg (by simpa using h0)]
     have c2':=c2
     rw [h0] at c2'
     clear c2 c1
     have SI:=hide (fun w=>sib_any blkB (c.toNat:Int) w)
     have hb:=blk_c c
     obtain ⟨ix,hix⟩:∃ ix,firstIdx blkB ((c.toNat:Int).toNat.toUInt8)=ix:=⟨_,rfl⟩
     rw [hix] at SI hb
     simp only [blkB] at SI
     clear hix
     cases hbl:blank c with
     | true =>
      have hge:¬ ix<0:=fun q=>by have:=hb.1 q;rw [hbl] at this;cases this
      have d0:decide (ix<0)=false:=by simpa using hge
      clear hb hbl hge h hm hr hq h0
      go_enter Tryz.func31, Tryz.ntmps31
      go_wp2_with (go_at_call 62;refine (SI.out _).mono ?_;rintro e w1 ⟨rfl,hw1⟩;have hws:=hw1.symm;clear hw1;subst hws)
      go_end0
      exact H.out.idle
     | false =>
      have hlt0:ix<0:=hb.2 hbl
      have d0:decide (ix<0)=true:=by simpa using hlt0
      clear hb hbl hlt0 h hm hr hq h0
      go_enter Tryz.func31, Tryz.ntmps31
      go_wp2_with (go_at_call 62;refine (SI.out _).mono ?_;rintro e w1 ⟨rfl,hw1⟩;have hws:=hw1.symm;clear hw1;subst hws)
      exact ⟨rfl,H.out.fail 100⟩
    ·rw [if_pos h0]
     have n0:(st.rk != 0)=true:=by simpa using h0
     have n02:(st.rk==0)=false:=by simpa using h0
     have C:=hide (fun w (hb:Below W.heap.size W w)=>rowTake_q (h.then hb) hr c)
     obtain ⟨o,ho⟩:∃ o,rowS st c=o:=⟨_,rfl⟩
     rw [ho] at C ⊢
     clear ho h hm hr hq h0 c1
     cases o with
     | inl E =>
      go_enter Tryz.func31, Tryz.ntmps31
      go_wp2_with (go_at_call 61;refine (C.out _ (by repeat (first|exact Below.refl _ _|refine Below.drew ?_|refine below_al ?_))).mono ?_;rintro q w9 hp;have K:=hide (XP.base H.out (by repeat (first|exact Below.refl _ _|refine Below.drew ?_|refine below_al ?_)) hp);obtain ⟨_,rfl,_⟩:=hp)
      exact ⟨rfl,K.out⟩
     | inr x =>
      go_enter Tryz.func31, Tryz.ntmps31
      go_wp2_with (go_at_call 61;refine (C.out _ (by repeat (first|exact Below.refl _ _|refine Below.drew ?_|refine below_al ?_))).mono ?_;rintro q w9 hp;have K:=hide (XP.base H.out (by repeat (first|exact Below.refl _ _|refine Below.drew ?_|refine below_al ?_)) hp);obtain ⟨_,rfl,_⟩:=hp)
      go_end0
      exact K.out
  ·rw [if_pos hr]
   have C:=hide (fun w (hb:Below W.heap.size W w)=>inRef_q (h.then hb) c (ge.low hb (Nat.le_trans h.t.gk.low h.low)) hx.rf)
   have hpos:(0:Int)<(st.ref.length:Int):=by have:=List.length_pos_iff.2 hr;omega
   obtain ⟨o,ho⟩:∃ o,inRefS st c=o:=⟨_,rfl⟩
   rw [ho] at C ⊢
   clear ho h hm hr c1
   cases o with
   | inl E =>
    go_enter Tryz.func31, Tryz.ntmps31
    go_wp2_with (go_at_call 60;refine (C.out _ (by repeat (first|exact Below.refl _ _|refine Below.drew ?_|refine below_al ?_))).mono ?_;rintro q w9 hp;have K:=hide (XP.base H.out (by repeat (first|exact Below.refl _ _|refine Below.drew ?_|refine below_al ?_)) hp);obtain ⟨_,rfl,_⟩:=hp)
    exact ⟨rfl,K.out⟩
   | inr x =>
    go_enter Tryz.func31, Tryz.ntmps31
    go_wp2_with (go_at_call 60;refine (C.out _ (by repeat (first|exact Below.refl _ _|refine Below.drew ?_|refine below_al ?_))).mono ?_;rintro q w9 hp;have K:=hide (XP.base H.out (by repeat (first|exact Below.refl _ _|refine Below.drew ?_|refine below_al ?_)) hp);obtain ⟨_,rfl,_⟩:=hp)
    go_end0
    exact K.out
 ·rw [if_pos hm]
  have C:=hide (fun w (hb:Below W.heap.size W w)=>inMark_q (h.then hb) hm12 c hn)
  have hpos:(0:Int)<(st.mark.length:Int):=by have:=List.length_pos_iff.2 hm;omega
  obtain ⟨o,ho⟩:∃ o,inMarkS st c=o:=⟨_,rfl⟩
  rw [ho] at C ⊢
  clear ho h hm
  cases o with
  | inl E =>
   go_enter Tryz.func31, Tryz.ntmps31
   go_wp2_with (go_at_call 59;refine (C.out _ (by repeat (first|exact Below.refl _ _|refine Below.drew ?_|refine below_al ?_))).mono ?_;rintro q w9 hp;have K:=hide (XP.base H.out (by repeat (first|exact Below.refl _ _|refine Below.drew ?_|refine below_al ?_)) hp);obtain ⟨_,rfl,_⟩:=hp)
   exact ⟨rfl,K.out⟩
  | inr x =>
   go_enter Tryz.func31, Tryz.ntmps31
   go_wp2_with (go_at_call 59;refine (C.out _ (by repeat (first|exact Below.refl _ _|refine Below.drew ?_|refine below_al ?_))).mono ?_;rintro q w9 hp;have K:=hide (XP.base H.out (by repeat (first|exact Below.refl _ _|refine Below.drew ?_|refine below_al ?_)) hp);obtain ⟨_,rfl,_⟩:=hp)
   go_end0
   exact K.out
set_option maxRecDepth 100000 in
theorem fin_q (h:XM W r g m st):Calls Tryz.prog 33 #[.pointer (some ⟨r,0,none⟩)] W fun e w'=>XP W r g m (if st.mark≠[]∨st.ks≠[]∨st.filled=false then .inl 100 else .inr st) e w':=by
 have H:=hide h
 obtain ⟨ma,mc,hma⟩:=h.shM
 obtain ⟨oa,oc,hoa⟩:=h.shO
 have c1:W.cell? ⟨r,1,none⟩=some (.slice ma st.mark.length mc):=(h.rd.cell 1).trans (by rw [←hma];rfl)
 have c5:W.cell? ⟨r,5,none⟩=some (.slice oa st.ks.length oc):=(h.rd.cell 5).trans (by rw [←hoa];rfl)
 have c6:W.cell? ⟨r,6,none⟩=some (.bool st.filled):=(h.rd.cell 6).trans rfl
 clear h hma hoa
 by_cases hm:st.mark=[]
 ·rw [hm] at c1
  by_cases hk:st.ks=[]
  ·rw [hk] at c5
   cases hf:st.filled with
   | false =>
    rw [hf] at c6
    rw [if_pos (Or.inr (Or.inr rfl))]
    go_enter Tryz.func33, Tryz.ntmps33
    go_wp2_with fail
    exact ⟨rfl,H.out.fail 100⟩
   | true =>
    rw [hf] at c6
    rw [if_neg (by rintro (q|q|q);exact q hm;exact q hk;cases q)]
    go_enter Tryz.func33, Tryz.ntmps33
    go_wp2_with fail
    go_end0
    exact H.out.idle
  ·have hpos:decide ((0:Int)<(st.ks.length:Int))=true:=by have:=List.length_pos_iff.2 hk;simp;omega
   rw [if_pos (Or.inr (Or.inl hk))]
   have hp2:(0:Int)<(st.ks.length:Int):=by have:=List.length_pos_iff.2 hk;omega
   cases hf:st.filled
   all_goals
    rw [hf] at c6
    go_enter Tryz.func33, Tryz.ntmps33
    go_wp2_with fail
    exact ⟨rfl,H.out.fail 100⟩
 ·have hpos:decide ((0:Int)<(st.mark.length:Int))=true:=by have:=List.length_pos_iff.2 hm;simp;omega
  rw [if_pos (Or.inl hm)]
  have hp1:(0:Int)<(st.mark.length:Int):=by have:=List.length_pos_iff.2 hm;omega
  by_cases hk:st.ks=[]
  ·rw [hk] at c5
   cases hf:st.filled
   all_goals
    rw [hf] at c6
    go_enter Tryz.func33, Tryz.ntmps33
    go_wp2_with fail
    exact ⟨rfl,H.out.fail 100⟩
  ·have hpos2:decide ((0:Int)<(st.ks.length:Int))=true:=by have:=List.length_pos_iff.2 hk;simp;omega
   have hp2:(0:Int)<(st.ks.length:Int):=by have:=List.length_pos_iff.2 hk;omega
   cases hf:st.filled
   all_goals
    rw [hf] at c6
    go_enter Tryz.func33, Tryz.ntmps33
    go_wp2_with fail
    exact ⟨rfl,H.out.fail 100⟩
end
structure But (k:Nat)(W w':World):Prop where
 os:w'.os=W.os
 tape:w'.tape=W.tape
 output:w'.output=W.output
 size:w'.heap.size=W.heap.size
 blk:∀ q,q≠k→w'.heap[q]?=W.heap[q]?
section
variable {W W1 W2 : World}
theorem But.refl (k:Nat)(W:World):But k W W:=⟨rfl,rfl,rfl,rfl,fun _ _=>rfl⟩
theorem But.set {k:Nat} (h:But k W W1)(j:Nat)(u:Value):But k W (W1.setCell ⟨k,j,none⟩ u) :=
 ⟨h.os,h.tape,h.output,by simpa using h.size,fun q hq=>(Below.heap_setCell _ _ _ _ hq).trans (h.blk q hq)⟩
theorem But.below {k L:Nat} (h:But k W W1)(hk:L≤k):Below L W W1:=⟨h.os,h.tape,h.output,Nat.le_of_eq h.size.symm,fun q hq=>h.blk q (by omega)⟩
end
theorem blk_set {w:World} {k:Nat} {c:Array Value} {T:TypeId} (h:w.heap[k]?=some (.cells c T (0,0)))(j:Nat)(u:Value):(w.setCell ⟨k,j,none⟩ u).heap[k]?=some (.cells (c.setIfInBounds j u) T (0,0)):=by
 rw [setCell_eq_setRow w k j _ _ (0,0) _ h,setRow_heap w k _ _ _ (0,0) h]
theorem ta_nil (w:World):(Instr.typeAssert .nilIface 20 33 true).run Tryz.prog w=.ok (.tuple #[.int .i64 0,.bool false]) w:=by
 simp [Instr.typeAssert]
theorem ta_err (E:Int)(w:World):(Instr.typeAssert (.iface 33 (.int .i64 E)) 20 33 true).run Tryz.prog w=.ok (.tuple #[.int .i64 E,.bool true]) w:=by
 simp [Instr.typeAssert]
def deadC (E:Int):Array Value:=#[.int .i64 0,.int .i64 E,.int .i64 0,.bool false,.pointer none,.pointer none,.slice none 0 0]
def TlE (W:World)(t:Nat)(E:Int):Prop:=W.heap[t]?=some (.cells (deadC E) 97 (0,0))
def dead7 (w:World)(t:Nat)(E:Int):World:=((((((w.setCell ⟨t,0,none⟩ (.int .i64 0)).setCell ⟨t,1,none⟩ (.int .i64 E)).setCell ⟨t,2,none⟩ (.int .i64 0)).setCell ⟨t,3,none⟩ (.bool false)).setCell ⟨t,4,none⟩ (.pointer none)).setCell ⟨t,5,none⟩ (.pointer none)).setCell ⟨t,6,none⟩ (.slice none 0 0)
theorem dead_but (w:World)(t:Nat)(E:Int):But t w (dead7 w t E):=(((((((But.refl t w).set 0 _).set 1 _).set 2 _).set 3 _).set 4 _).set 5 _).set 6 _
theorem dead_rd {w:World} {t:Nat} {s:Tv} (h:TlB w t s)(E:Int):TlE (dead7 w t E) t E:=by
 unfold TlB at h
 have h0:=blk_set h 0 (.int .i64 0)
 have h1:=blk_set h0 1 (.int .i64 E)
 have h2:=blk_set h1 2 (.int .i64 0)
 have h3:=blk_set h2 3 (.bool false)
 have h4:=blk_set h3 4 (.pointer none)
 have h5:=blk_set h4 5 (.pointer none)
 have h6:=blk_set h5 6 (.slice none 0 0)
 unfold TlE dead7
 rw [h6]
 simp [Tv.cells,deadC]
set_option maxRecDepth 100000 in
theorem acatch_idle (p q s:Addr)(w:World) :
  CallsD Tryz.prog 85 #[.pointer (some p),.pointer (some q),.pointer (some s)] .returning w fun e u' w'=>e=.returned (.tuple #[])∧u'=.returning∧w'=w:=by
 refine callsD_of_wpS Tryz.func85 rfl fun c₀ cs hu=>?_
 apply wpS_seq
 apply wpS_region
 simp [wpOpsS,go_sem,recoverD,hu,Tryz.ntmps85,Exit.thenS,ta_nil]
 apply wpS_seq
 apply wpS_region
 simp [wpOpsS,go_sem,Exit.thenS,Array.replicate]
 refine wpS_cond (t:=false) (by simp [Act.eval,Array.replicate]) ?_
 simp only [Bool.false_eq_true,if_false]
 refine wpS_of_wp (wp_skip ?_)
 cases c₀
 simp_all [bodyPostS,results,Tryz.results85]
set_option maxRecDepth 100000 in
theorem acatch_pan (p q t r:Nat)(s:Tv)(x:Int)(v:Value)(older:List PanicEntry)(w:World)(hp:w.cell? ⟨p,0,none⟩=some (.pointer (some ⟨r,0,none⟩)))(hr:TlB w r s)(hq:w.cell? ⟨q,0,none⟩=some v)(zq:w.frozen? ⟨q,0,none⟩=false)(ht:w.cell? ⟨t,0,none⟩=some (.int .i64 x))(zt:w.frozen? ⟨t,0,none⟩=false)(hqt:q≠t)(hrq:r≠q)(hrt:r≠t)(E:Int) :
  CallsD Tryz.prog 85 #[.pointer (some ⟨p,0,none⟩),.pointer (some ⟨q,0,none⟩),.pointer (some ⟨t,0,none⟩)] (.panicking ({v:=.iface 33 (.int .i64 E),recovered:=false} :: older)) w fun e u' w' =>
   e=.returned (.tuple #[])∧u'=.panicking ({v:=.iface 33 (.int .i64 E),recovered:=true} :: older)∧w'=((dead7 w r E).setCell ⟨q,0,none⟩ (.slice none 0 0)).setCell ⟨t,0,none⟩ (.int .i64 E):=by
 have fr:=hr.frz
 have c0:=(hr.cell 0).trans rfl
 have c1:=(hr.cell 1).trans rfl
 have c2:=(hr.cell 2).trans rfl
 have c3:=(hr.cell 3).trans rfl
 have c4:=(hr.cell 4).trans rfl
 have c5:=(hr.cell 5).trans rfl
 have c6:=(hr.cell 6).trans rfl
 simp only [Tv.cells,List.getElem?_toArray,List.getElem?_cons_zero,List.getElem?_cons_succ] at c0 c1 c2 c3 c4 c5 c6
 have bb:=dead_but w r E
 obtain ⟨D,hD⟩:∃ D,dead7 w r E=D:=⟨_,rfl⟩
 rw [hD] at bb ⊢
 have kq:D.cell? ⟨q,0,none⟩=some v:=(World.cell?_of_block (w:=w) (bb.blk q (Ne.symm hrq))).trans hq
 have zq':D.frozen? ⟨q,0,none⟩=false:=(World.frozen?_of_block (w:=w) (bb.blk q (Ne.symm hrq))).trans zq
 have kt:(D.setCell ⟨q,0,none⟩ (.slice none 0 0)).cell? ⟨t,0,none⟩=some (.int .i64 x):=(World.cell?_of_block (w:=D) (Below.heap_setCell _ _ _ _ (Ne.symm hqt))).trans ((World.cell?_of_block (w:=w) (bb.blk t (Ne.symm hrt))).trans ht)
 have zt':(D.setCell ⟨q,0,none⟩ (.slice none 0 0)).frozen? ⟨t,0,none⟩=false:=(World.frozen?_of_block (w:=D) (Below.heap_setCell _ _ _ _ (Ne.symm hqt))).trans ((World.frozen?_of_block (w:=w) (bb.blk t (Ne.symm hrt))).trans zt)
 simp only [dead7] at hD
 clear bb hr
 refine callsD_of_wpS Tryz.func85 rfl fun c₀ cs hu=>?_
 apply wpS_seq
 apply wpS_region
 simp [wpOpsS,go_sem,recoverD,hu,Tryz.ntmps85,Exit.thenS,ta_err]
 apply wpS_seq
 apply wpS_region
 simp [wpOpsS,go_sem,Exit.thenS,Array.replicate]
 refine wpS_cond (t:=true) (by simp [Act.eval,Array.replicate]) ?_
 simp only [if_true]
 apply wpS_seq
 apply wpS_region
 simp [wpOpsS,go_sem,Exit.thenS,hp,fr,c0,c1,c2,c3,c4,c5,c6,hD]
 apply wpS_region
 simp [wpOpsS,go_sem,kq,zq',kt,zt',bodyPostS,results,Tryz.results85]
structure NoT (T:TypeId):Prop where
 t1:T≠69
 t2:T≠97
 t3:T≠101
 t4:T≠123
 t5:T≠115
 t6:T≠211
 t7:T≠64
 t8:T≠76
theorem noT_by:NoT 32:=⟨by decide,by decide,by decide,by decide,by decide,by decide,by decide,by decide⟩
theorem noT_tl:NoT 62:=⟨by decide,by decide,by decide,by decide,by decide,by decide,by decide,by decide⟩
theorem noT_ev:NoT 45:=⟨by decide,by decide,by decide,by decide,by decide,by decide,by decide,by decide⟩
theorem noT_er:NoT 33:=⟨by decide,by decide,by decide,by decide,by decide,by decide,by decide,by decide⟩
theorem noT_fn:NoT 71:=⟨by decide,by decide,by decide,by decide,by decide,by decide,by decide,by decide⟩
theorem noT_f0:NoT 1:=⟨by decide,by decide,by decide,by decide,by decide,by decide,by decide,by decide⟩
def NoX (m:Xm)(k:Nat):Prop:=m.mark.ownBlock≠some k∧m.held.ownBlock≠some k∧m.ref.ownBlock≠some k∧m.t.told.ownBlock≠some k
def Bo (W:World)(m:Xm)(k:Nat)(v:Value)(T:TypeId):Prop:=W.heap[k]?=some (.cells #[v] T (0,0))∧NoX m k
section
variable {W W1 W2 : World} {r : Nat} {g : Tg} {m m1 : Xm} {st : Xs}
theorem NoX.om {k:Nat} (h:NoX m k)(o:OMx W m m1)(hk:k<W.heap.size):NoX m1 k:=⟨o.mark.ne hk h.1,o.held.ne hk h.2.1,o.ref.ne hk h.2.2.1,o.told.ne hk h.2.2.2⟩
theorem XM.nob (h:XM W r g m st) {k:Nat} (hk:W.heap.size≤k):NoX m k :=
 ⟨fun e=>by have:=(World.ownsRow.lt h.row.mark k e).2;omega,fun e=>by have:=(World.ownsRow.lt h.row.held k e).2;omega,fun e=>by have:=(World.ownsRow.lt h.row.ref k e).2;omega,h.t.nob hk⟩
theorem Bo.move {k T:Nat} {v:Value} (h:Bo W m k v T)(hf:XF g m W W1)(ho:OMx W m m1)(t:NoT T):Bo W1 m1 k v T :=
 ⟨hf.keep k _ _ _ h.1 t.t1 t.t2 t.t3 t.t4 t.t5 t.t6 t.t7 h.2.1 h.2.2.1 h.2.2.2.1 h.2.2.2.2,h.2.om ho (Array.getElem?_eq_some_iff.1 h.1).1⟩
theorem Bo.cell {k T:Nat} {v:Value} (h:Bo W m k v T):W.cell? ⟨k,0,none⟩=some v:=by simp [World.cell?,h.1]
theorem Bo.frz {k T:Nat} {v:Value} (h:Bo W m k v T):W.frozen? ⟨k,0,none⟩=false:=by simp [World.frozen?,h.1]
theorem XM.apart2 (h:XM W r g m st) {k:Nat} {c:Array Value} {T:TypeId} {f:Nat×Nat} (hE:W.heap[k]?=some (.cells c T f))(hT:NoT T)(nb:NoX m k)(hlo:g.lo≤k)(hb:But k W W1):XM W1 r g m st:=by
 have hr:=h.rd
 unfold XdB at hr
 have key:∀ {q:Nat} {c:Array Value} {T':TypeId} {f:Nat×Nat},W.heap[q]?=some (.cells c T' f)→T≠T'→W1.heap[q]?=W.heap[q]?:=fun {q c T' f} hq hT=>hb.blk q (fun e=>by rw [e,hE] at hq;exact hT (cells_ty hq))
 have row:∀ {u:Value} {B T sz n:Nat} {xs:List Value},W.ownsRow B T sz u n xs→u.ownBlock≠some k→W1.ownsRow B T sz u n xs:=fun {u B T sz n xs} ho hn=>own_of ho fun q hq _=>hb.blk q (fun e=>hn (by rw [hq,e]))
 refine ⟨h.rd.same (key hr hT.t1),{h.row with mark:=row h.row.mark nb.1,held:=row h.row.held nb.2.1,ref:=row h.row.ref nb.2.2.1,opn:=row h.row.opn (ty_ne hE h.row.opn hT.t7)},?_,h.lo⟩
 refine h.t.beside (Nat.le_of_eq hb.size.symm) (Gu.low h.t.gu (hb.below hlo) h.t.gk.low) (fun q c T' f hq ht=>key hq (fun e=>?_)) (fun q _ hq=>hb.blk q (fun e=>by subst e;exact ty_no hE hT.t3 hT.t4 hq))
 rcases ht with e2|e2|e2|e2
 ·exact hT.t2 (e.trans e2)
 ·exact hT.t5 (e.trans e2)
 ·exact hT.t6 (e.trans e2)
 ·exact hT.t8 (e.trans e2)
theorem Bo.set {k T:Nat} {v:Value} (h:Bo W m k v T)(u:Value):Bo (W.setCell ⟨k,0,none⟩ u) m k u T:=⟨by rw [blk_set h.1];rfl,h.2⟩
theorem Bo.other {k j b T:Nat} {v u:Value} (h:Bo W m k v T)(hk:k≠b):Bo (W.setCell ⟨b,j,none⟩ u) m k v T:=⟨by rw [Below.heap_setCell _ _ _ _ hk];exact h.1,h.2⟩
theorem XM.bx (h:XM W r g m st) {k T:Nat} {v:Value} (hk:Bo W m k v T)(hT:NoT T)(hlo:g.lo≤k)(u:Value):XM (W.setCell ⟨k,0,none⟩ u) r g m st:=h.apart2 hk.1 hT hk.2 hlo ((But.refl k W).set 0 u)
theorem XF.fresh (h:XF g m W W1) {k:Nat} (hk:W.heap.size≤k)(hlo:g.lo≤W.heap.size)(hb:But k W1 W2):XF g m W W2 :=
 ⟨h.below.trans (hb.below (by omega)),fun q c T f hq t1 t2 t3 t4 t5 t6 t7 n1 n2 n3 n4=>(hb.blk q (fun e=>by have:=(Array.getElem?_eq_some_iff.1 hq).1;omega)).trans (h.keep q c T f hq t1 t2 t3 t4 t5 t6 t7 n1 n2 n3 n4)⟩
theorem XF.bx (h:XF g m W W1) {k:Nat} (hk:W.heap.size≤k)(hlo:g.lo≤W.heap.size)(u:Value):XF g m W (W1.setCell ⟨k,0,none⟩ u):=h.fresh hk hlo ((But.refl k W1).set 0 u)
theorem XM.t0 (h:XM W r g m st):XM (W.setCell ⟨g.t,6,none⟩ (.slice none 0 0)) r g {m with t:={m.t with told:=.slice none 0 0} } {st with t:={st.t with told:=[]} }∧XF g m W (W.setCell ⟨g.t,6,none⟩ (.slice none 0 0))∧OMx W m {m with t:={m.t with told:=.slice none 0 0} }:=by
 have F:TdF g.t m.t.told W (W.setCell ⟨g.t,6,none⟩ (.slice none 0 0)):=TdF.refl.set 6 _
 have ob:OB W m.t.told (.slice none 0 0):=Or.inr fun q hq=>by cases hq
 have T:=TF.ofT0 h.t F
 exact ⟨h.ofT T (h.t.ofTold F (h.t.tb.set 6 _ _ rfl) (World.ownsRow_nil _ _ _ _) (by simp)) (Nat.le_refl _),XF.ofT h T,⟨OB.refl _ _,OB.refl _ _,OB.refl _ _,ob⟩⟩
end
def AT (W:World)(r:Nat)(g:Tg)(m:Xm)(o:Sum Int Xs)(e:Ending)(w':World):Prop :=
 XF g m W w'∧match o with
 | .inl E=>e=.returned (.tuple #[.slice none 0 0,.int .i64 E])∧TlE w' g.t E∧∃ s,XdB w' r s∧s.t=g.t
 | .inr x=>∃ m' v,e=.returned (.tuple #[v,.int .i64 0])∧XM w' r g m' {x with t:={x.t with told:=[]} }∧OMx W m m'∧m'.t.told=.slice none 0 0∧w'.ownsRow (g.t+1) 76 7 v x.t.told.length (ecs x.t.told)∧OB W m.t.told v
end Go.Proofs.YthodiandebahdaaGreatDoor
