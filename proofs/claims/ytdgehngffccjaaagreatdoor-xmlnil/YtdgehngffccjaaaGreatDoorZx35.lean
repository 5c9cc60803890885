/- Merged by program: YuRef, YwTake. -/
import Derived.Test.YtdgehngffccjaaaGreatDoorZx34
namespace Go.Proofs.YtdgehngffccjaaaGreatDoor
open Go.RowKit
set_option linter.unusedSimpArgs false
set_option linter.unusedVariables false
set_option maxHeartbeats 8000000
section
variable {W W1 W2 : World} {r : Nat} {g : Tg} {m m1 : Xm} {st : Xs}
theorem enc_len (r:Int):(Utf8.encode r).size≤4:=by
 unfold Utf8.encode
 obtain ⟨c,hc⟩:∃ c,(if Utf8.valid r then r.toNat else Utf8.runeError)=c:=⟨_,rfl⟩
 rw [hc]
 simp only
 split
 ·exact (show 1≤4 by omega)
 split
 ·exact (show 2≤4 by omega)
 split
 ·exact (show 3≤4 by omega)
 ·exact (show 4≤4 by omega)
theorem refC_len {l t:List UInt8} (h:refC l=some t):t.length≤1000:=by
 unfold refC at h
 split at h
 ·cases h;decide
 split at h
 ·cases h;decide
 split at h
 ·cases h;decide
 split at h
 ·cases h;decide
 split at h
 ·split at h
  ·cases h
  ·split at h
   ·cases h
   ·split at h
    ·have e:=Option.some.inj h
     rw [←e,bl_length]
     exact Nat.le_trans (enc_len _) (by omega)
    ·cases h
 ·cases h
set_option maxRecDepth 100000 in
theorem inRef_q (h:XM W r g m st) (ge:Ge W) (hr9:st.ref.length≤9) (c:UInt8):Calls Tryz.prog 44 #[.pointer (some ⟨r,2,none⟩),.int .u8 c.toNat] W fun e w'=>XP W r g m (inRefS st c) e w':=by
 have hlt:=h.lt
 have H:=hide h
 obtain ⟨wa,wc,hw⟩:=h.shR
 have c4:W.cell? ⟨r,4,none⟩=some (.slice wa st.ref.length wc):=(h.rd.cell 4).trans (by rw [←hw];rfl)
 have f4W:W.frozen? ⟨r,4,none⟩=false:=h.rd.frz 4
 have O:=h.row.ref
 rw [hw] at O
 have O':=hide O
 have Hw:=hide hw
 have hl5:Hid (st.ref.length + [c].length≤10):=by show _≤_;simp;omega
 have ge':=hide ge
 have lo8:=hide h.t.gk.low
 clear h hw O ge
 unfold inRefS
 by_cases h59:c=59
 ·rw [if_pos h59]
  have e59:((c.toNat:Int)==59)=true:=by rw [h59];rfl
  have hgl:Hid ((st.ref++[c]).getLast?=some 59):=by show _=_;rw [List.getLast?_concat,h59]
  clear h59
  have CQ:Hid (∀ w1,Ge w1→8≤w1.heap.size→Calls Tryz.prog 76 #[.string (mkB (st.ref++[c]))] w1 fun e w'=>ccP (refC (st.ref++[c])) e∧Below w1.heap.size w1 w'):=fun w1 g1 g2=>by
   have:=cc_q (mkB (st.ref++[c])) (by rw [mkB_size,List.length_append];simp;omega) (by rw [bl_mkB];exact hgl.out) w1 g1 g2
   rw [bl_mkB] at this
   exact this
  have HQ:Hid (∀ l,refC (st.ref++[c])=some l→∀ w m1,XM w r g m1 {st with ref:=[]}→Calls Tryz.prog 77 #[.pointer (some ⟨r,2,none⟩),.string (mkB l)] w fun e w'=>XP w r g m1 (holdS {st with ref:=[]} l) e w'):=fun l hc w m1 h1=>by
   have:=hold_x h1 (mkB l) (by rw [mkB_size];exact refC_len hc)
   rw [bl_mkB] at this
   exact this
  obtain ⟨q,hq⟩:∃ q,refC (st.ref++[c])=q:=⟨_,rfl⟩
  rw [hq] at CQ HQ ⊢
  clear hq
  cases q with
  | none =>
   simp only [ccP] at CQ ⊢
   clear HQ
   go_enter Tryz.func44, Tryz.ntmps44
   go_wp2_with (at_builtin;refine Sto.out ?_)
   refine Sto.mk ?_
   refine app_b rfl (.tmp 9) (.tmp 11) rfl (r + 1) (.slice wa st.ref.length wc) st.ref rfl (own_of O'.out fun k hk hlt=>Below.heap_alloc _ _ _ hlt) ⟨W.heap.size,0,none⟩ 1 rfl c (news1b W _ _ c.toNat rfl) (by omega) (by simp;omega) ?_
   intro av5 c5 w5 ho5 hg5 hat5
   have P5:=hide (H.out.pushR (l:=[c]) Hw.out (below_al (Below.refl _ _)) hg5.out ho5.out hat5.out hl5.out)
   have K5:XdB w5 r _:=((H.out.then (below_al (Below.refl _ _))).rd.same (hg5.out.block r (by simp;omega) (fun e=>by have:=(World.ownsRow.lt O'.out r e.symm).1;omega)))
   have l5:=(K5.cell 4).trans (show _=some (.slice wa st.ref.length wc) by rw [←Hw.out];rfl)
   have n5:w5.frozen? ⟨r,4,none⟩=false:=K5.frz 4
   obtain ⟨W6,hW6⟩:∃ W6,w5.setCell ⟨r,4,none⟩ (.slice av5 (st.ref.length + 1) c5)=W6:=⟨_,rfl⟩
   rw [hW6] at P5
   obtain ⟨pf,_,m6,pm,po⟩:=P5.out
   have F6:=hide pf
   have M6:=hide pm
   have O6:=hide po
   have d4:W6.cell? ⟨r,4,none⟩=some (.slice av5 (st.ref.length + 1) c5):=by rw [←hW6];exact (K5.set 4 (.slice av5 (st.ref.length + 1) c5) (({st with ref:=st.ref++[c]}:Xs).xv g {m with ref:=.slice av5 (st.ref.length + 1) c5}) rfl).cell 4
   have f4:W6.frozen? ⟨r,4,none⟩=false:=M6.out.rd.frz 4
   have hm6:Hid (m6.ref=.slice av5 (st.ref.length + 1) c5):=by
    have:=(M6.out.rd.cell 4).symm.trans d4
    exact Option.some.inj this
   clear P5 pf pm po K5 c4 f4W
   have hcv:(convert 22 9 (.slice av5 (st.ref.length + 1) c5)).run Tryz.prog W6=.ok (.string (mkB (st.ref++[c]))) W6:=by
    have:=own_conv (M6.out.row.ref)
    rw [hm6.out] at this
    exact this
   have CC:=hide (CQ.out W6 (ge'.out.low F6.out.below lo8.out) (Nat.le_trans lo8.out M6.out.low))
   clear CQ
   go_wp2_with (go_at_call 76;refine CC.out.mono ?_;rintro e w7 ⟨rfl,hb7⟩;have B7:=hide hb7;clear hb7)
   exact ⟨rfl,XP.trans F6.out O6.out (XP.base M6.out B7.out ((M6.out.then B7.out).fail 100))⟩
  | some l =>
   simp only [ccP] at CQ ⊢
   have HO:=hide (HQ.out l rfl)
   clear HQ
   obtain ⟨L,hL⟩:∃ L,mkB l=L:=⟨_,rfl⟩
   rw [hL] at CQ HO
   clear hL
   obtain ⟨o,ho⟩:∃ o,holdS {st with ref:=[]} l=o:=⟨_,rfl⟩
   rw [ho] at HO ⊢
   clear ho
   cases o with
   | inl E =>
    go_enter Tryz.func44, Tryz.ntmps44
    go_wp2_with (at_builtin;refine Sto.out ?_)
    refine Sto.mk ?_
    refine app_b rfl (.tmp 9) (.tmp 11) rfl (r + 1) (.slice wa st.ref.length wc) st.ref rfl (own_of O'.out fun k hk hlt=>Below.heap_alloc _ _ _ hlt) ⟨W.heap.size,0,none⟩ 1 rfl c (news1b W _ _ c.toNat rfl) (by omega) (by simp;omega) ?_
    intro av5 c5 w5 ho5 hg5 hat5
    have P5:=hide (H.out.pushR (l:=[c]) Hw.out (below_al (Below.refl _ _)) hg5.out ho5.out hat5.out hl5.out)
    have K5:XdB w5 r _:=((H.out.then (below_al (Below.refl _ _))).rd.same (hg5.out.block r (by simp;omega) (fun e=>by have:=(World.ownsRow.lt O'.out r e.symm).1;omega)))
    have l5:=(K5.cell 4).trans (show _=some (.slice wa st.ref.length wc) by rw [←Hw.out];rfl)
    have n5:w5.frozen? ⟨r,4,none⟩=false:=K5.frz 4
    obtain ⟨W6,hW6⟩:∃ W6,w5.setCell ⟨r,4,none⟩ (.slice av5 (st.ref.length + 1) c5)=W6:=⟨_,rfl⟩
    rw [hW6] at P5
    obtain ⟨pf,_,m6,pm,po⟩:=P5.out
    have F6:=hide pf
    have M6:=hide pm
    have O6:=hide po
    have d4:W6.cell? ⟨r,4,none⟩=some (.slice av5 (st.ref.length + 1) c5):=by rw [←hW6];exact (K5.set 4 (.slice av5 (st.ref.length + 1) c5) (({st with ref:=st.ref++[c]}:Xs).xv g {m with ref:=.slice av5 (st.ref.length + 1) c5}) rfl).cell 4
    have f4:W6.frozen? ⟨r,4,none⟩=false:=M6.out.rd.frz 4
    have hm6:Hid (m6.ref=.slice av5 (st.ref.length + 1) c5):=by
     have:=(M6.out.rd.cell 4).symm.trans d4
     exact Option.some.inj this
    clear P5 pf pm po K5 c4 f4W
    have hcv:(convert 22 9 (.slice av5 (st.ref.length + 1) c5)).run Tryz.prog W6=.ok (.string (mkB (st.ref++[c]))) W6:=by
     have:=own_conv (M6.out.row.ref)
     rw [hm6.out] at this
     exact this
    have nil4:Hid (∀ w7,Below W6.heap.size W6 w7→XP W6 r g m6 (.inr {st with ref:=[]}) (.returned (.tuple #[])) (w7.setCell ⟨r,4,none⟩ (.slice none 0 0))):=fun w7 hb=>by
     have h7:=M6.out.then hb
     have O7:TdO r w7 (w7.setCell ⟨r,4,none⟩ (.slice none 0 0)):=TdO.refl.set 4 _
     refine XP.base M6.out hb ⟨XF.ofO h7 O7,rfl,{m6 with ref:=.slice none 0 0},h7.blk O7 (h7.rd.set 4 (.slice none 0 0) (({st with ref:=[]}:Xs).xv g {m6 with ref:=.slice none 0 0}) rfl) ⟨h7.row.mark,h7.row.held,own_nil _ _,h7.row.opn,h7.row.d1,(fun k _ e=>by cases e),(fun k _ e=>by cases e),h7.row.ml,h7.row.hl,Nat.zero_le _,h7.row.kl⟩ rfl rfl,⟨OB.refl _ _,OB.refl _ _,Or.inr (fun k e=>by cases e),OB.refl _ _⟩⟩
    have CC:=hide (CQ.out W6 (ge'.out.low F6.out.below lo8.out) (Nat.le_trans lo8.out M6.out.low))
    clear CQ
    go_wp2_with (first|(go_at_call 76;refine CC.out.mono ?_;rintro e w7 ⟨rfl,hb7⟩;have M7:=hide (M6.out.then hb7);have d47:w7.cell? ⟨r,4,none⟩=some (.slice av5 (st.ref.length + 1) c5):=(M7.out.rd.cell 4).trans (by rw [←hm6.out];rfl);have f47:w7.frozen? ⟨r,4,none⟩=false:=M7.out.rd.frz 4;obtain ⟨pf,_,m8,pm,po⟩:=nil4.out w7 hb7;have F8:=hide pf;have M8:=hide pm;have O8:=hide po;clear hb7 pf pm po)|(go_at_call 77;refine (HO.out _ _ M8.out).mono ?_;rintro q w9 hp;have K:=hide (XP.trans F6.out O6.out (XP.trans F8.out O8.out hp));obtain ⟨_,rfl,_⟩:=hp))
    exact ⟨rfl,K.out⟩
   | inr x =>
    go_enter Tryz.func44, Tryz.ntmps44
    go_wp2_with (at_builtin;refine Sto.out ?_)
    refine Sto.mk ?_
    refine app_b rfl (.tmp 9) (.tmp 11) rfl (r + 1) (.slice wa st.ref.length wc) st.ref rfl (own_of O'.out fun k hk hlt=>Below.heap_alloc _ _ _ hlt) ⟨W.heap.size,0,none⟩ 1 rfl c (news1b W _ _ c.toNat rfl) (by omega) (by simp;omega) ?_
    intro av5 c5 w5 ho5 hg5 hat5
    have P5:=hide (H.out.pushR (l:=[c]) Hw.out (below_al (Below.refl _ _)) hg5.out ho5.out hat5.out hl5.out)
    have K5:XdB w5 r _:=((H.out.then (below_al (Below.refl _ _))).rd.same (hg5.out.block r (by simp;omega) (fun e=>by have:=(World.ownsRow.lt O'.out r e.symm).1;omega)))
    have l5:=(K5.cell 4).trans (show _=some (.slice wa st.ref.length wc) by rw [←Hw.out];rfl)
    have n5:w5.frozen? ⟨r,4,none⟩=false:=K5.frz 4
    obtain ⟨W6,hW6⟩:∃ W6,w5.setCell ⟨r,4,none⟩ (.slice av5 (st.ref.length + 1) c5)=W6:=⟨_,rfl⟩
    rw [hW6] at P5
    obtain ⟨pf,_,m6,pm,po⟩:=P5.out
    have F6:=hide pf
    have M6:=hide pm
    have O6:=hide po
    have d4:W6.cell? ⟨r,4,none⟩=some (.slice av5 (st.ref.length + 1) c5):=by rw [←hW6];exact (K5.set 4 (.slice av5 (st.ref.length + 1) c5) (({st with ref:=st.ref++[c]}:Xs).xv g {m with ref:=.slice av5 (st.ref.length + 1) c5}) rfl).cell 4
    have f4:W6.frozen? ⟨r,4,none⟩=false:=M6.out.rd.frz 4
    have hm6:Hid (m6.ref=.slice av5 (st.ref.length + 1) c5):=by
     have:=(M6.out.rd.cell 4).symm.trans d4
     exact Option.some.inj this
    clear P5 pf pm po K5 c4 f4W
    have hcv:(convert 22 9 (.slice av5 (st.ref.length + 1) c5)).run Tryz.prog W6=.ok (.string (mkB (st.ref++[c]))) W6:=by
     have:=own_conv (M6.out.row.ref)
     rw [hm6.out] at this
     exact this
    have nil4:Hid (∀ w7,Below W6.heap.size W6 w7→XP W6 r g m6 (.inr {st with ref:=[]}) (.returned (.tuple #[])) (w7.setCell ⟨r,4,none⟩ (.slice none 0 0))):=fun w7 hb=>by
     have h7:=M6.out.then hb
     have O7:TdO r w7 (w7.setCell ⟨r,4,none⟩ (.slice none 0 0)):=TdO.refl.set 4 _
     refine XP.base M6.out hb ⟨XF.ofO h7 O7,rfl,{m6 with ref:=.slice none 0 0},h7.blk O7 (h7.rd.set 4 (.slice none 0 0) (({st with ref:=[]}:Xs).xv g {m6 with ref:=.slice none 0 0}) rfl) ⟨h7.row.mark,h7.row.held,own_nil _ _,h7.row.opn,h7.row.d1,(fun k _ e=>by cases e),(fun k _ e=>by cases e),h7.row.ml,h7.row.hl,Nat.zero_le _,h7.row.kl⟩ rfl rfl,⟨OB.refl _ _,OB.refl _ _,Or.inr (fun k e=>by cases e),OB.refl _ _⟩⟩
    have CC:=hide (CQ.out W6 (ge'.out.low F6.out.below lo8.out) (Nat.le_trans lo8.out M6.out.low))
    clear CQ
    go_wp2_with (first|(go_at_call 76;refine CC.out.mono ?_;rintro e w7 ⟨rfl,hb7⟩;have M7:=hide (M6.out.then hb7);have d47:w7.cell? ⟨r,4,none⟩=some (.slice av5 (st.ref.length + 1) c5):=(M7.out.rd.cell 4).trans (by rw [←hm6.out];rfl);have f47:w7.frozen? ⟨r,4,none⟩=false:=M7.out.rd.frz 4;obtain ⟨pf,_,m8,pm,po⟩:=nil4.out w7 hb7;have F8:=hide pf;have M8:=hide pm;have O8:=hide po;clear hb7 pf pm po)|(go_at_call 77;refine (HO.out _ _ M8.out).mono ?_;rintro q w9 hp;have K:=hide (XP.trans F6.out O6.out (XP.trans F8.out O8.out hp));obtain ⟨_,rfl,_⟩:=hp))
    go_end0
    exact K.out
 ·rw [if_neg h59]
  have e59:((c.toNat:Int)==59)=false:=u8_ne (k:=59) (by decide) h59
  clear h59
  by_cases h10:st.ref.length + 1=10
  ·rw [if_pos h10]
   have e10:(((st.ref.length:Int) + 1)==10)=true:=by simp;omega
   clear h10
   go_enter Tryz.func44, Tryz.ntmps44
   go_wp2_with (at_builtin;refine Sto.out ?_)
   refine Sto.mk ?_
   refine app_b rfl (.tmp 9) (.tmp 11) rfl (r + 1) (.slice wa st.ref.length wc) st.ref rfl (own_of O'.out fun k hk hlt=>Below.heap_alloc _ _ _ hlt) ⟨W.heap.size,0,none⟩ 1 rfl c (news1b W _ _ c.toNat rfl) (by omega) (by simp;omega) ?_
   intro av5 c5 w5 ho5 hg5 hat5
   have P5:=hide (H.out.pushR (l:=[c]) Hw.out (below_al (Below.refl _ _)) hg5.out ho5.out hat5.out hl5.out)
   have K5:XdB w5 r _:=((H.out.then (below_al (Below.refl _ _))).rd.same (hg5.out.block r (by simp;omega) (fun e=>by have:=(World.ownsRow.lt O'.out r e.symm).1;omega)))
   have l5:=(K5.cell 4).trans (show _=some (.slice wa st.ref.length wc) by rw [←Hw.out];rfl)
   have n5:w5.frozen? ⟨r,4,none⟩=false:=K5.frz 4
   obtain ⟨W6,hW6⟩:∃ W6,w5.setCell ⟨r,4,none⟩ (.slice av5 (st.ref.length + 1) c5)=W6:=⟨_,rfl⟩
   rw [hW6] at P5
   obtain ⟨pf,_,m6,pm,po⟩:=P5.out
   have F6:=hide pf
   have M6:=hide pm
   have O6:=hide po
   have d4:W6.cell? ⟨r,4,none⟩=some (.slice av5 (st.ref.length + 1) c5):=by rw [←hW6];exact (K5.set 4 (.slice av5 (st.ref.length + 1) c5) (({st with ref:=st.ref++[c]}:Xs).xv g {m with ref:=.slice av5 (st.ref.length + 1) c5}) rfl).cell 4
   have f4:W6.frozen? ⟨r,4,none⟩=false:=M6.out.rd.frz 4
   have hm6:Hid (m6.ref=.slice av5 (st.ref.length + 1) c5):=by
    have:=(M6.out.rd.cell 4).symm.trans d4
    exact Option.some.inj this
   clear P5 pf pm po K5 c4 f4W
   go_wp2_with fail
   exact ⟨rfl,XP.trans F6.out O6.out (M6.out.fail 100)⟩
  ·rw [if_neg h10]
   have e10:(((st.ref.length:Int) + 1)==10)=false:=by simp;omega
   clear h10
   go_enter Tryz.func44, Tryz.ntmps44
   go_wp2_with (at_builtin;refine Sto.out ?_)
   refine Sto.mk ?_
   refine app_b rfl (.tmp 9) (.tmp 11) rfl (r + 1) (.slice wa st.ref.length wc) st.ref rfl (own_of O'.out fun k hk hlt=>Below.heap_alloc _ _ _ hlt) ⟨W.heap.size,0,none⟩ 1 rfl c (news1b W _ _ c.toNat rfl) (by omega) (by simp;omega) ?_
   intro av5 c5 w5 ho5 hg5 hat5
   have P5:=hide (H.out.pushR (l:=[c]) Hw.out (below_al (Below.refl _ _)) hg5.out ho5.out hat5.out hl5.out)
   have K5:XdB w5 r _:=((H.out.then (below_al (Below.refl _ _))).rd.same (hg5.out.block r (by simp;omega) (fun e=>by have:=(World.ownsRow.lt O'.out r e.symm).1;omega)))
   have l5:=(K5.cell 4).trans (show _=some (.slice wa st.ref.length wc) by rw [←Hw.out];rfl)
   have n5:w5.frozen? ⟨r,4,none⟩=false:=K5.frz 4
   obtain ⟨W6,hW6⟩:∃ W6,w5.setCell ⟨r,4,none⟩ (.slice av5 (st.ref.length + 1) c5)=W6:=⟨_,rfl⟩
   rw [hW6] at P5
   obtain ⟨pf,_,m6,pm,po⟩:=P5.out
   have F6:=hide pf
   have M6:=hide pm
   have O6:=hide po
   have d4:W6.cell? ⟨r,4,none⟩=some (.slice av5 (st.ref.length + 1) c5):=by rw [←hW6];exact (K5.set 4 (.slice av5 (st.ref.length + 1) c5) (({st with ref:=st.ref++[c]}:Xs).xv g {m with ref:=.slice av5 (st.ref.length + 1) c5}) rfl).cell 4
   have f4:W6.frozen? ⟨r,4,none⟩=false:=M6.out.rd.frz 4
   have hm6:Hid (m6.ref=.slice av5 (st.ref.length + 1) c5):=by
    have:=(M6.out.rd.cell 4).symm.trans d4
    exact Option.some.inj this
   clear P5 pf pm po K5 c4 f4W
   go_wp2_with fail
   go_end0
   exact ⟨F6.out,rfl,m6,M6.out,O6.out⟩
end
section
variable {W W1 W2 : World} {r : Nat} {g : Tg} {m m1 : Xm} {st : Xs}
theorem mkI_neq (p:Nat×Int×Bool) (w:World):(binOp .neq 105 (mkI p) .nilIface).run Tryz.prog w=.ok (.bool true) w:=by
 obtain ⟨t,k,b⟩:=p
 unfold mkI
 simp only
 repeat (split;· kernel_rfl)
 kernel_rfl
theorem mkI_guard (p:Nat×Int×Bool) (w:World) (x y:Operand):(eqGuard .neq 105 x y (mkI p) .nilIface).run Tryz.prog w=.ok () w:=by
 obtain ⟨t,k,b⟩:=p
 unfold mkI
 simp only
 repeat (split;· simp [eqGuard])
 simp [eqGuard]
set_option maxRecDepth 100000 in
theorem inMark_q (h:XM W r g m st) (hm12:st.mark.length≤12) (c:UInt8) (hn:st.t.n≤199990):Calls Tryz.prog 43 #[.pointer (some ⟨r,0,none⟩),.int .u8 c.toNat] W fun e w'=>XP W r g m (inMarkS st c) e w':=by
 have hlt:=h.lt
 have H:=hide h
 obtain ⟨wa,wc,hw⟩:=h.shM
 have c1:W.cell? ⟨r,1,none⟩=some (.slice wa st.mark.length wc):=(h.rd.cell 1).trans (by rw [←hw];rfl)
 have f1W:W.frozen? ⟨r,1,none⟩=false:=h.rd.frz 1
 have O:=h.row.mark
 rw [hw] at O
 have O':=hide O
 have Hw:=hide hw
 have hl5:Hid (st.mark.length + [c].length≤13):=by show _≤_;simp;omega
 have MK:=hide (fun w=>mark_q (mkB (st.mark++[c])) w)
 rw [bl_mkB] at MK
 clear h hw O
 unfold inMarkS
 cases hq:mkOf (st.mark++[c]) with
 | none =>
  rw [hq] at MK
  clear hq
  simp only [mkV,Option.elim] at MK ⊢
  by_cases h13:st.mark.length + 1=13
  ·rw [if_pos h13]
   have e13:(((st.mark.length:Int) + 1)==13)=true:=by simp;omega
   clear h13
   go_enter Tryz.func43, Tryz.ntmps43
   go_wp2_with (at_builtin;refine Sto.out ?_)
   refine Sto.mk ?_
   refine app_b rfl (.tmp 9) (.tmp 11) rfl (r + 1) (.slice wa st.mark.length wc) st.mark rfl (own_of O'.out fun k hk hlt=>Below.heap_alloc _ _ _ hlt) ⟨W.heap.size,0,none⟩ 1 rfl c (news1b W _ _ c.toNat rfl) (by omega) (by simp;omega) ?_
   intro av5 c5 w5 ho5 hg5 hat5
   have P5:=hide (H.out.pushM (l:=[c]) Hw.out (below_al (Below.refl _ _)) hg5.out ho5.out hat5.out hl5.out)
   have K5:XdB w5 r _:=((H.out.then (below_al (Below.refl _ _))).rd.same (hg5.out.block r (by simp;omega) (fun e=>by have:=(World.ownsRow.lt O'.out r e.symm).1;omega)))
   have l5:=(K5.cell 1).trans (show _=some (.slice wa st.mark.length wc) by rw [←Hw.out];rfl)
   have n5:w5.frozen? ⟨r,1,none⟩=false:=K5.frz 1
   obtain ⟨W6,hW6⟩:∃ W6,w5.setCell ⟨r,1,none⟩ (.slice av5 (st.mark.length + 1) c5)=W6:=⟨_,rfl⟩
   rw [hW6] at P5
   obtain ⟨pf,_,m6,pm,po⟩:=P5.out
   have F6:=hide pf
   have M6:=hide pm
   have O6:=hide po
   have d1:W6.cell? ⟨r,1,none⟩=some (.slice av5 (st.mark.length + 1) c5):=by rw [←hW6];exact (K5.set 1 (.slice av5 (st.mark.length + 1) c5) (({st with mark:=st.mark++[c]}:Xs).xv g {m with mark:=.slice av5 (st.mark.length + 1) c5}) rfl).cell 1
   have f1:W6.frozen? ⟨r,1,none⟩=false:=M6.out.rd.frz 1
   have hm6:Hid (m6.mark=.slice av5 (st.mark.length + 1) c5):=by
    have:=(M6.out.rd.cell 1).symm.trans d1
    exact Option.some.inj this
   clear P5 pf pm po K5 c1 f1W
   have hcv:(convert 22 9 (.slice av5 (st.mark.length + 1) c5)).run Tryz.prog W6=.ok (.string (mkB (st.mark++[c]))) W6:=by
    have:=own_conv (M6.out.row.mark)
    rw [hm6.out] at this
    exact this
   have nil1:Hid (∀ w7,Below W6.heap.size W6 w7→XP W6 r g m6 (.inr {st with mark:=[]}) (.returned (.tuple #[])) (w7.setCell ⟨r,1,none⟩ (.slice none 0 0))):=fun w7 hb=>by
    have h7:=M6.out.then hb
    have O7:TdO r w7 (w7.setCell ⟨r,1,none⟩ (.slice none 0 0)):=TdO.refl.set 1 _
    refine XP.base M6.out hb ⟨XF.ofO h7 O7,rfl,{m6 with mark:=.slice none 0 0},h7.blk O7 (h7.rd.set 1 (.slice none 0 0) (({st with mark:=[]}:Xs).xv g {m6 with mark:=.slice none 0 0}) rfl) ⟨own_nil _ _,h7.row.held,h7.row.ref,h7.row.opn,(fun k e=>by cases e),(fun k e=>by cases e),h7.row.d3,Nat.zero_le _,h7.row.hl,h7.row.rl,h7.row.kl⟩ rfl rfl,⟨Or.inr (fun k e=>by cases e),OB.refl _ _,OB.refl _ _,OB.refl _ _⟩⟩
   go_wp2_with (go_at_call 74;refine (MK.out _).mono ?_;rintro e w7 ⟨rfl,hb7⟩;have B7:=hide hb7;have M7:=hide (M6.out.then hb7);have d17:w7.cell? ⟨r,1,none⟩=some (.slice av5 (st.mark.length + 1) c5):=(M7.out.rd.cell 1).trans (by rw [←hm6.out];rfl);have f17:w7.frozen? ⟨r,1,none⟩=false:=M7.out.rd.frz 1;obtain ⟨pf,_,m8,pm,po⟩:=nil1.out w7 hb7;have F8:=hide pf;have M8:=hide pm;have O8:=hide po;clear hb7 pf pm po)
   exact ⟨rfl,XP.trans F6.out O6.out (XP.base M6.out B7.out (M7.out.fail 100))⟩
  ·rw [if_neg h13]
   have e13:(((st.mark.length:Int) + 1)==13)=false:=by simp;omega
   clear h13
   go_enter Tryz.func43, Tryz.ntmps43
   go_wp2_with (at_builtin;refine Sto.out ?_)
   refine Sto.mk ?_
   refine app_b rfl (.tmp 9) (.tmp 11) rfl (r + 1) (.slice wa st.mark.length wc) st.mark rfl (own_of O'.out fun k hk hlt=>Below.heap_alloc _ _ _ hlt) ⟨W.heap.size,0,none⟩ 1 rfl c (news1b W _ _ c.toNat rfl) (by omega) (by simp;omega) ?_
   intro av5 c5 w5 ho5 hg5 hat5
   have P5:=hide (H.out.pushM (l:=[c]) Hw.out (below_al (Below.refl _ _)) hg5.out ho5.out hat5.out hl5.out)
   have K5:XdB w5 r _:=((H.out.then (below_al (Below.refl _ _))).rd.same (hg5.out.block r (by simp;omega) (fun e=>by have:=(World.ownsRow.lt O'.out r e.symm).1;omega)))
   have l5:=(K5.cell 1).trans (show _=some (.slice wa st.mark.length wc) by rw [←Hw.out];rfl)
   have n5:w5.frozen? ⟨r,1,none⟩=false:=K5.frz 1
   obtain ⟨W6,hW6⟩:∃ W6,w5.setCell ⟨r,1,none⟩ (.slice av5 (st.mark.length + 1) c5)=W6:=⟨_,rfl⟩
   rw [hW6] at P5
   obtain ⟨pf,_,m6,pm,po⟩:=P5.out
   have F6:=hide pf
   have M6:=hide pm
   have O6:=hide po
   have d1:W6.cell? ⟨r,1,none⟩=some (.slice av5 (st.mark.length + 1) c5):=by rw [←hW6];exact (K5.set 1 (.slice av5 (st.mark.length + 1) c5) (({st with mark:=st.mark++[c]}:Xs).xv g {m with mark:=.slice av5 (st.mark.length + 1) c5}) rfl).cell 1
   have f1:W6.frozen? ⟨r,1,none⟩=false:=M6.out.rd.frz 1
   have hm6:Hid (m6.mark=.slice av5 (st.mark.length + 1) c5):=by
    have:=(M6.out.rd.cell 1).symm.trans d1
    exact Option.some.inj this
   clear P5 pf pm po K5 c1 f1W
   have hcv:(convert 22 9 (.slice av5 (st.mark.length + 1) c5)).run Tryz.prog W6=.ok (.string (mkB (st.mark++[c]))) W6:=by
    have:=own_conv (M6.out.row.mark)
    rw [hm6.out] at this
    exact this
   have nil1:Hid (∀ w7,Below W6.heap.size W6 w7→XP W6 r g m6 (.inr {st with mark:=[]}) (.returned (.tuple #[])) (w7.setCell ⟨r,1,none⟩ (.slice none 0 0))):=fun w7 hb=>by
    have h7:=M6.out.then hb
    have O7:TdO r w7 (w7.setCell ⟨r,1,none⟩ (.slice none 0 0)):=TdO.refl.set 1 _
    refine XP.base M6.out hb ⟨XF.ofO h7 O7,rfl,{m6 with mark:=.slice none 0 0},h7.blk O7 (h7.rd.set 1 (.slice none 0 0) (({st with mark:=[]}:Xs).xv g {m6 with mark:=.slice none 0 0}) rfl) ⟨own_nil _ _,h7.row.held,h7.row.ref,h7.row.opn,(fun k e=>by cases e),(fun k e=>by cases e),h7.row.d3,Nat.zero_le _,h7.row.hl,h7.row.rl,h7.row.kl⟩ rfl rfl,⟨Or.inr (fun k e=>by cases e),OB.refl _ _,OB.refl _ _,OB.refl _ _⟩⟩
   go_wp2_with (go_at_call 74;refine (MK.out _).mono ?_;rintro e w7 ⟨rfl,hb7⟩;have B7:=hide hb7;have M7:=hide (M6.out.then hb7);have d17:w7.cell? ⟨r,1,none⟩=some (.slice av5 (st.mark.length + 1) c5):=(M7.out.rd.cell 1).trans (by rw [←hm6.out];rfl);have f17:w7.frozen? ⟨r,1,none⟩=false:=M7.out.rd.frz 1;obtain ⟨pf,_,m8,pm,po⟩:=nil1.out w7 hb7;have F8:=hide pf;have M8:=hide pm;have O8:=hide po;clear hb7 pf pm po)
   go_end0
   exact XP.trans F6.out O6.out (XP.base M6.out B7.out M7.out.idle)
 | some p =>
  have hok:=mkOf_ok hq
  rw [hq] at MK
  clear hq
  simp only [mkV,Option.elim] at MK ⊢
  have C:=hide (fun w m1 (h1:XM w r g m1 {st with mark:=[]})=>tmark_q h1 p hok hn)
  have nq:=mkI_neq p
  have ng:=mkI_guard p
  obtain ⟨V,hV⟩:∃ V,mkI p=V:=⟨_,rfl⟩
  rw [hV] at MK C nq ng
  obtain ⟨o,ho⟩:∃ o,markS {st with mark:=[]} p=o:=⟨_,rfl⟩
  rw [ho] at C ⊢
  clear ho hV hok
  cases o with
  | inl E =>
   go_enter Tryz.func43, Tryz.ntmps43
   go_wp2_with (at_builtin;refine Sto.out ?_)
   refine Sto.mk ?_
   refine app_b rfl (.tmp 9) (.tmp 11) rfl (r + 1) (.slice wa st.mark.length wc) st.mark rfl (own_of O'.out fun k hk hlt=>Below.heap_alloc _ _ _ hlt) ⟨W.heap.size,0,none⟩ 1 rfl c (news1b W _ _ c.toNat rfl) (by omega) (by simp;omega) ?_
   intro av5 c5 w5 ho5 hg5 hat5
   have P5:=hide (H.out.pushM (l:=[c]) Hw.out (below_al (Below.refl _ _)) hg5.out ho5.out hat5.out hl5.out)
   have K5:XdB w5 r _:=((H.out.then (below_al (Below.refl _ _))).rd.same (hg5.out.block r (by simp;omega) (fun e=>by have:=(World.ownsRow.lt O'.out r e.symm).1;omega)))
   have l5:=(K5.cell 1).trans (show _=some (.slice wa st.mark.length wc) by rw [←Hw.out];rfl)
   have n5:w5.frozen? ⟨r,1,none⟩=false:=K5.frz 1
   obtain ⟨W6,hW6⟩:∃ W6,w5.setCell ⟨r,1,none⟩ (.slice av5 (st.mark.length + 1) c5)=W6:=⟨_,rfl⟩
   rw [hW6] at P5
   obtain ⟨pf,_,m6,pm,po⟩:=P5.out
   have F6:=hide pf
   have M6:=hide pm
   have O6:=hide po
   have d1:W6.cell? ⟨r,1,none⟩=some (.slice av5 (st.mark.length + 1) c5):=by rw [←hW6];exact (K5.set 1 (.slice av5 (st.mark.length + 1) c5) (({st with mark:=st.mark++[c]}:Xs).xv g {m with mark:=.slice av5 (st.mark.length + 1) c5}) rfl).cell 1
   have f1:W6.frozen? ⟨r,1,none⟩=false:=M6.out.rd.frz 1
   have hm6:Hid (m6.mark=.slice av5 (st.mark.length + 1) c5):=by
    have:=(M6.out.rd.cell 1).symm.trans d1
    exact Option.some.inj this
   clear P5 pf pm po K5 c1 f1W
   have hcv:(convert 22 9 (.slice av5 (st.mark.length + 1) c5)).run Tryz.prog W6=.ok (.string (mkB (st.mark++[c]))) W6:=by
    have:=own_conv (M6.out.row.mark)
    rw [hm6.out] at this
    exact this
   have nil1:Hid (∀ w7,Below W6.heap.size W6 w7→XP W6 r g m6 (.inr {st with mark:=[]}) (.returned (.tuple #[])) (w7.setCell ⟨r,1,none⟩ (.slice none 0 0))):=fun w7 hb=>by
    have h7:=M6.out.then hb
    have O7:TdO r w7 (w7.setCell ⟨r,1,none⟩ (.slice none 0 0)):=TdO.refl.set 1 _
    refine XP.base M6.out hb ⟨XF.ofO h7 O7,rfl,{m6 with mark:=.slice none 0 0},h7.blk O7 (h7.rd.set 1 (.slice none 0 0) (({st with mark:=[]}:Xs).xv g {m6 with mark:=.slice none 0 0}) rfl) ⟨own_nil _ _,h7.row.held,h7.row.ref,h7.row.opn,(fun k e=>by cases e),(fun k e=>by cases e),h7.row.d3,Nat.zero_le _,h7.row.hl,h7.row.rl,h7.row.kl⟩ rfl rfl,⟨Or.inr (fun k e=>by cases e),OB.refl _ _,OB.refl _ _,OB.refl _ _⟩⟩
   go_wp2_with (first|(go_at_call 74;refine (MK.out _).mono ?_;rintro e w7 ⟨rfl,hb7⟩;have B7:=hide hb7;have M7:=hide (M6.out.then hb7);have d17:w7.cell? ⟨r,1,none⟩=some (.slice av5 (st.mark.length + 1) c5):=(M7.out.rd.cell 1).trans (by rw [←hm6.out];rfl);have f17:w7.frozen? ⟨r,1,none⟩=false:=M7.out.rd.frz 1;obtain ⟨pf,_,m8,pm,po⟩:=nil1.out w7 hb7;have F8:=hide pf;have M8:=hide pm;have O8:=hide po;clear hb7 pf pm po)|(go_at_call 75;refine (C.out _ _ M8.out).mono ?_;rintro q w9 hp;have K:=hide (XP.trans F6.out O6.out (XP.trans F8.out O8.out hp));obtain ⟨_,rfl,_⟩:=hp))
   exact ⟨rfl,K.out⟩
  | inr x =>
   go_enter Tryz.func43, Tryz.ntmps43
   go_wp2_with (at_builtin;refine Sto.out ?_)
   refine Sto.mk ?_
   refine app_b rfl (.tmp 9) (.tmp 11) rfl (r + 1) (.slice wa st.mark.length wc) st.mark rfl (own_of O'.out fun k hk hlt=>Below.heap_alloc _ _ _ hlt) ⟨W.heap.size,0,none⟩ 1 rfl c (news1b W _ _ c.toNat rfl) (by omega) (by simp;omega) ?_
   intro av5 c5 w5 ho5 hg5 hat5
   have P5:=hide (H.out.pushM (l:=[c]) Hw.out (below_al (Below.refl _ _)) hg5.out ho5.out hat5.out hl5.out)
   have K5:XdB w5 r _:=((H.out.then (below_al (Below.refl _ _))).rd.same (hg5.out.block r (by simp;omega) (fun e=>by have:=(World.ownsRow.lt O'.out r e.symm).1;omega)))
   have l5:=(K5.cell 1).trans (show _=some (.slice wa st.mark.length wc) by rw [←Hw.out];rfl)
   have n5:w5.frozen? ⟨r,1,none⟩=false:=K5.frz 1
   obtain ⟨W6,hW6⟩:∃ W6,w5.setCell ⟨r,1,none⟩ (.slice av5 (st.mark.length + 1) c5)=W6:=⟨_,rfl⟩
   rw [hW6] at P5
   obtain ⟨pf,_,m6,pm,po⟩:=P5.out
   have F6:=hide pf
   have M6:=hide pm
   have O6:=hide po
   have d1:W6.cell? ⟨r,1,none⟩=some (.slice av5 (st.mark.length + 1) c5):=by rw [←hW6];exact (K5.set 1 (.slice av5 (st.mark.length + 1) c5) (({st with mark:=st.mark++[c]}:Xs).xv g {m with mark:=.slice av5 (st.mark.length + 1) c5}) rfl).cell 1
   have f1:W6.frozen? ⟨r,1,none⟩=false:=M6.out.rd.frz 1
   have hm6:Hid (m6.mark=.slice av5 (st.mark.length + 1) c5):=by
    have:=(M6.out.rd.cell 1).symm.trans d1
    exact Option.some.inj this
   clear P5 pf pm po K5 c1 f1W
   have hcv:(convert 22 9 (.slice av5 (st.mark.length + 1) c5)).run Tryz.prog W6=.ok (.string (mkB (st.mark++[c]))) W6:=by
    have:=own_conv (M6.out.row.mark)
    rw [hm6.out] at this
    exact this
   have nil1:Hid (∀ w7,Below W6.heap.size W6 w7→XP W6 r g m6 (.inr {st with mark:=[]}) (.returned (.tuple #[])) (w7.setCell ⟨r,1,none⟩ (.slice none 0 0))):=fun w7 hb=>by
    have h7:=M6.out.then hb
    have O7:TdO r w7 (w7.setCell ⟨r,1,none⟩ (.slice none 0 0)):=TdO.refl.set 1 _
    refine XP.base M6.out hb ⟨XF.ofO h7 O7,rfl,{m6 with mark:=.slice none 0 0},h7.blk O7 (h7.rd.set 1 (.slice none 0 0) (({st with mark:=[]}:Xs).xv g {m6 with mark:=.slice none 0 0}) rfl) ⟨own_nil _ _,h7.row.held,h7.row.ref,h7.row.opn,(fun k e=>by cases e),(fun k e=>by cases e),h7.row.d3,Nat.zero_le _,h7.row.hl,h7.row.rl,h7.row.kl⟩ rfl rfl,⟨Or.inr (fun k e=>by cases e),OB.refl _ _,OB.refl _ _,OB.refl _ _⟩⟩
   go_wp2_with (first|(go_at_call 74;refine (MK.out _).mono ?_;rintro e w7 ⟨rfl,hb7⟩;have B7:=hide hb7;have M7:=hide (M6.out.then hb7);have d17:w7.cell? ⟨r,1,none⟩=some (.slice av5 (st.mark.length + 1) c5):=(M7.out.rd.cell 1).trans (by rw [←hm6.out];rfl);have f17:w7.frozen? ⟨r,1,none⟩=false:=M7.out.rd.frz 1;obtain ⟨pf,_,m8,pm,po⟩:=nil1.out w7 hb7;have F8:=hide pf;have M8:=hide pm;have O8:=hide po;clear hb7 pf pm po)|(go_at_call 75;refine (C.out _ _ M8.out).mono ?_;rintro q w9 hp;have K:=hide (XP.trans F6.out O6.out (XP.trans F8.out O8.out hp));obtain ⟨_,rfl,_⟩:=hp))
   go_end0
   exact K.out
end
end Go.Proofs.YtdgehngffccjaaaGreatDoor
