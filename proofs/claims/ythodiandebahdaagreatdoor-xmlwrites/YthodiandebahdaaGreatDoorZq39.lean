/- Merged by program: YpRead, YjMark. -/
import Derived.Test.YthodiandebahdaaGreatDoorZq38
namespace Go.Proofs.YthodiandebahdaaGreatDoor
open Go.RowKit
set_option linter.unusedSimpArgs false
set_option linter.unusedVariables false
set_option maxHeartbeats 8000000
section
variable {W W1 W2 : World} {r : Nat} {g : Tg} {m m1 : Xm} {st : Xs}
theorem row_less1 {B T k cp n:Nat} {xs:List Value} (h:W.ownsRow B T 1 (.slice (some ⟨k,0,none⟩) (n+1) cp) (n+1) xs):W.ownsRow B T 1 (.slice (some ⟨k,0,none⟩) n cp) n (xs.take n):=by
 obtain ⟨h0,h⟩:=h
 refine ⟨by rw [List.length_take];omega,?_⟩
 rcases h with ⟨e,_⟩|⟨g',cap,cur,e,h1,h2,h3,h4,h5,h6⟩
 ·cases e
 ·simp only [Value.slice.injEq,Option.some.injEq,Addr.mk.injEq] at e
  obtain ⟨⟨rfl,_,_⟩,_,rfl⟩:=e
  refine Or.inr ⟨k,cp,cur,rfl,h1,h2,by omega,h4,h5,?_⟩
  rw [←h6,List.take_take]
  congr 1;omega
theorem XM.lastO (h:XM W r g m st) {qs:List Int} {k:Int} (hk:st.ks=qs++[k]):∃ j cp,m.opn=.slice (some ⟨j,0,none⟩) (qs.length+1) cp∧qs.length+1≤cp∧cp≤maxLen:=by
 have o:=h.row.opn
 unfold OwnK at o
 rw [hk,List.length_append,List.length_singleton] at o
 rcases o.2 with ⟨_,e⟩|⟨j,cp,cur,hv,h1,h2,h3,h4,h5,h6⟩
 ·omega
 ·exact ⟨j,cp,hv,h3,h4⟩
theorem XM.popO (h:XM W r g m st) {qs:List Int} {k:Int} {j cp:Nat} (hk:st.ks=qs++[k])(hm:m.opn=.slice (some ⟨j,0,none⟩) (qs.length+1) cp)(hb:Below W.heap.size W W1) :
  XP W r g m (.inr {st with ks:=qs}) (.returned (.tuple #[])) (W1.setCell ⟨r,5,none⟩ (.slice (some ⟨j,0,none⟩) qs.length cp)):=by
 have hlt:=h.lt
 have o:=h.row.opn
 unfold OwnK at o
 rw [hk,List.length_append,List.length_singleton,hm] at o
 have o2:=row_less1 o
 rw [List.map_append,List.take_append_of_le_length (by simp),List.take_of_length_le (by simp)] at o2
 have F:TdF r m.opn W (W1.setCell ⟨r,5,none⟩ (.slice (some ⟨j,0,none⟩) qs.length cp)):=(TdF.refl.then hb (Nat.le_of_lt hlt)).set 5 _
 refine ⟨XF.ofOpn h F,rfl,{m with opn:=.slice (some ⟨j,0,none⟩) qs.length cp},h.ofOpn F (XdB.set (h.rd.same (hb.block r hlt)) 5 _ _ rfl) ?_ ?_,⟨OB.refl _ _,OB.refl _ _,OB.refl _ _,OB.refl _ _⟩⟩
 ·unfold OwnK
  refine own_of (W:=W) o2 fun k hk hl=>?_
  rw [Below.heap_setCell _ _ _ _ (by have:=(World.ownsRow.lt o2 k hk).1;show k≠r;omega),hb.block k hl]
 ·have:=h.row.kl
  rw [hk,List.length_append] at this
  show qs.length≤_
  omega
set_option maxRecDepth 100000 in
theorem endPart_q (h:XM W r g m st)(k:Int)(hk0:k≠0)(hn:st.t.n≤199990):Calls Tryz.prog 111 #[.pointer (some ⟨r,0,none⟩),.int .i64 k] W fun q w'=>XP W r g m (endPartS st k) q w':=by
 have H:=hide h
 have c2:W.cell? ⟨r,2,none⟩=some (.int .i64 st.rk):=(h.rd.cell 2).trans rfl
 have hlt:=h.lt
 have ml:maxLen=9223372036854775807:=rfl
 have kl:=h.row.kl
 have IN:=hide (fun w (hb:Below W.heap.size W w)=>inner_q (h.then hb) (by show st.t.n≤_;omega))
 unfold endPartS
 by_cases h0:st.rk=0
 ·have c2':=c2
  rw [h0] at c2'
  clear c2
  by_cases hl:lastK st.ks=k
  ·have hl':=hide hl
   rw [hl] at IN
   obtain ⟨nb,hnb⟩:∃ b,decide (k=10∨k=9)=b:=⟨_,rfl⟩
   have c6:W.cell? ⟨r,6,none⟩=some (.bool st.filled):=(h.rd.cell 6).trans rfl
   by_cases hc:(k=10∨k=9)∧st.filled=false
   ·rw [if_pos (Or.inr (Or.inr hc))]
    rw [hc.2] at c6
    have hf:=hc.2
    rcases hc.1 with rfl|rfl
    ·clear h hn hk0 kl hnb
     go_enter Tryz.func111, Tryz.ntmps111
     go_wp2_with (go_at_call 127;refine (IN.out _ (by repeat (first|exact Below.refl _ _|refine Below.drew ?_|refine below_al ?_))).mono ?_;rintro q w1 ⟨rfl,d,hw1⟩;have B1:Hid (Below W.heap.size W w1):=(by rw [hw1];exact below_then (by repeat (first|exact Below.refl _ _|refine Below.drew ?_|refine below_al ?_)) (dn_b _ _));have g2:w1.cell? ⟨r,2,none⟩=some (.int .i64 st.rk):=((H.out.then B1.out).rd.cell 2).trans rfl;have g2f:w1.frozen? ⟨r,2,none⟩=false:=(H.out.then B1.out).rd.frz 2;have g6:w1.cell? ⟨r,6,none⟩=some (.bool st.filled):=((H.out.then B1.out).rd.cell 6).trans rfl;clear hw1)
     exact ⟨rfl,XP.base H.out B1.out ((H.out.then B1.out).fail 100)⟩
    ·clear h hn hk0 kl hnb
     go_enter Tryz.func111, Tryz.ntmps111
     go_wp2_with (go_at_call 127;refine (IN.out _ (by repeat (first|exact Below.refl _ _|refine Below.drew ?_|refine below_al ?_))).mono ?_;rintro q w1 ⟨rfl,d,hw1⟩;have B1:Hid (Below W.heap.size W w1):=(by rw [hw1];exact below_then (by repeat (first|exact Below.refl _ _|refine Below.drew ?_|refine below_al ?_)) (dn_b _ _));have g2:w1.cell? ⟨r,2,none⟩=some (.int .i64 st.rk):=((H.out.then B1.out).rd.cell 2).trans rfl;have g2f:w1.frozen? ⟨r,2,none⟩=false:=(H.out.then B1.out).rd.frz 2;have g6:w1.cell? ⟨r,6,none⟩=some (.bool st.filled):=((H.out.then B1.out).rd.cell 6).trans rfl;clear hw1)
     exact ⟨rfl,XP.base H.out B1.out ((H.out.then B1.out).fail 100)⟩
   ·rw [if_neg (by rintro (q|q|q);exact q h0;exact q hl;exact hc q)]
    have hks:st.ks≠[]:=by
     intro e
     rw [e] at hl
     exact hk0 (by rw [←hl];rfl)
    rcases List.eq_nil_or_concat st.ks with e|⟨qs,p,e⟩
    ·exact absurd e hks
    rw [List.concat_eq_append] at e
    have hp:p=k:=by rw [e] at hl;simpa [lastK] using hl
    subst hp
    obtain ⟨j,cp,hm,k2,k3⟩:=h.lastO e
    have hdl:Hid (st.ks.dropLast=qs):=by show _=_;rw [e,List.dropLast_concat]
    rw [hdl.out]
    rw [e,List.length_append,List.length_singleton] at kl
    have e':=hide e
    have hm':=hide hm
    have hn':=hide hn
    have ql:qs.length≤200000:=by omega
    have hv:IntKind.i64.wrap ((qs.length:Int)+1 - 1)=(qs.length:Int):=by rw [IntKind.wrap_i64] <;> omega
    have hv2:IntKind.i64.wrap ((qs.length:Int))=(qs.length:Int):=by rw [IntKind.wrap_i64] <;> omega
    have hm1:decide ((qs.length:Int)<0)=false:=by simp
    have hle:qs.length≤cp:=by omega
    clear h hn kl e hl hks
    have ep:Hid (∀ w,Below W.heap.size W w→XP W r g m (.inr {st with ks:=qs}) (.returned (.tuple #[])) (w.setCell ⟨r,5,none⟩ (.slice (some ⟨j,0,none⟩) qs.length cp))):=fun w hb=>H.out.popO e'.out hm'.out hb
    by_cases k10:p=10
    ·subst k10
     rw [if_pos rfl]
     have hfl:st.filled=true:=by
      cases hf:st.filled
      ·exact absurd ⟨Or.inl rfl,hf⟩ hc
      ·rfl
     rw [hfl] at c6
     clear hc hnb
     go_enter Tryz.func111, Tryz.ntmps111
     go_wp2_with (go_at_call 127;refine (IN.out _ (by repeat (first|exact Below.refl _ _|refine Below.drew ?_|refine below_al ?_))).mono ?_;rintro q w1 ⟨rfl,d,hw1⟩;have B1:Hid (Below W.heap.size W w1):=(by rw [hw1];exact below_then (by repeat (first|exact Below.refl _ _|refine Below.drew ?_|refine below_al ?_)) (dn_b _ _));have g2:w1.cell? ⟨r,2,none⟩=some (.int .i64 st.rk):=((H.out.then B1.out).rd.cell 2).trans rfl;have g2f:w1.frozen? ⟨r,2,none⟩=false:=(H.out.then B1.out).rd.frz 2;have g6:w1.cell? ⟨r,6,none⟩=some (.bool st.filled):=((H.out.then B1.out).rd.cell 6).trans rfl;have g5:w1.cell? ⟨r,5,none⟩=some (.slice (some ⟨j,0,none⟩) (qs.length+1) cp):=((H.out.then B1.out).rd.cell 5).trans (by rw [←hm'.out];rfl);have f5:w1.frozen? ⟨r,5,none⟩=false:=(H.out.then B1.out).rd.frz 5;clear hw1)
     go_region_with (fail)
     all_goals
      go_wp2_with fail
      go_end0
      exact (ep.out _ B1.out).then (by repeat (first|exact Below.refl _ _|refine Below.drew ?_|refine below_al ?_)) H.out.lo
    ·rw [if_neg k10]
     have n10:(p==10)=false:=by simpa using k10
     have m10:(p != 10)=true:=by simpa using k10
     have C:=hide (fun w m1 (h1:XM w r g m1 {st with ks:=qs})=>elem_q h1 evE (evZ0 11) (by have:=hn'.out;show st.t.n≤_;omega))
     obtain ⟨o,ho⟩:∃ o,elemS {st with ks:=qs} evE=o:=⟨_,rfl⟩
     rw [ho] at C ⊢
     clear ho
     simp only [evs,zr,evE,evN,evNum,evFlag,evText,evFloat,evBytes,evTag] at C
     have fx:((p==9) && !st.filled)=false:=by
      by_cases k9:p=9
      ·cases hf:st.filled
       ·exact absurd ⟨Or.inr k9,hf⟩ hc
       ·simp
      ·simp [k9]
     clear hc hnb k10
     by_cases k9:p=9
     ·subst k9
      have hfl:st.filled=true:=by simpa using fx
      rw [hfl] at c6
      cases o with
      | inl E =>
       go_enter Tryz.func111, Tryz.ntmps111
       go_wp2_with (go_at_call 127;refine (IN.out _ (by repeat (first|exact Below.refl _ _|refine Below.drew ?_|refine below_al ?_))).mono ?_;rintro q w1 ⟨rfl,d,hw1⟩;have B1:Hid (Below W.heap.size W w1):=(by rw [hw1];exact below_then (by repeat (first|exact Below.refl _ _|refine Below.drew ?_|refine below_al ?_)) (dn_b _ _));have g2:w1.cell? ⟨r,2,none⟩=some (.int .i64 st.rk):=((H.out.then B1.out).rd.cell 2).trans rfl;have g2f:w1.frozen? ⟨r,2,none⟩=false:=(H.out.then B1.out).rd.frz 2;have g6:w1.cell? ⟨r,6,none⟩=some (.bool st.filled):=((H.out.then B1.out).rd.cell 6).trans rfl;have g5:w1.cell? ⟨r,5,none⟩=some (.slice (some ⟨j,0,none⟩) (qs.length+1) cp):=((H.out.then B1.out).rd.cell 5).trans (by rw [←hm'.out];rfl);have f5:w1.frozen? ⟨r,5,none⟩=false:=(H.out.then B1.out).rd.frz 5;clear hw1)
       go_region_with (fail)
       all_goals
        obtain ⟨pf,_,m2,pm,po⟩:=ep.out _ B1.out
        have PF:=hide pf
        have PM:=hide pm
        have PO:=hide po
        clear pf pm po
        go_wp2_with (go_at_call 106;refine (C.out _ _ (PM.out.then (by repeat (first|exact Below.refl _ _|refine Below.drew ?_|refine below_al ?_)))).mono ?_;rintro q w9 hp;have K:=hide (XP.trans PF.out PO.out (XP.base PM.out (by repeat (first|exact Below.refl _ _|refine Below.drew ?_|refine below_al ?_)) hp));obtain ⟨_,rfl,_⟩:=hp)
        exact ⟨rfl,K.out⟩
      | inr x =>
       go_enter Tryz.func111, Tryz.ntmps111
       go_wp2_with (go_at_call 127;refine (IN.out _ (by repeat (first|exact Below.refl _ _|refine Below.drew ?_|refine below_al ?_))).mono ?_;rintro q w1 ⟨rfl,d,hw1⟩;have B1:Hid (Below W.heap.size W w1):=(by rw [hw1];exact below_then (by repeat (first|exact Below.refl _ _|refine Below.drew ?_|refine below_al ?_)) (dn_b _ _));have g2:w1.cell? ⟨r,2,none⟩=some (.int .i64 st.rk):=((H.out.then B1.out).rd.cell 2).trans rfl;have g2f:w1.frozen? ⟨r,2,none⟩=false:=(H.out.then B1.out).rd.frz 2;have g6:w1.cell? ⟨r,6,none⟩=some (.bool st.filled):=((H.out.then B1.out).rd.cell 6).trans rfl;have g5:w1.cell? ⟨r,5,none⟩=some (.slice (some ⟨j,0,none⟩) (qs.length+1) cp):=((H.out.then B1.out).rd.cell 5).trans (by rw [←hm'.out];rfl);have f5:w1.frozen? ⟨r,5,none⟩=false:=(H.out.then B1.out).rd.frz 5;clear hw1)
       go_region_with (fail)
       all_goals
        obtain ⟨pf,_,m2,pm,po⟩:=ep.out _ B1.out
        have PF:=hide pf
        have PM:=hide pm
        have PO:=hide po
        clear pf pm po
        go_wp2_with (go_at_call 106;refine (C.out _ _ (PM.out.then (by repeat (first|exact Below.refl _ _|refine Below.drew ?_|refine below_al ?_)))).mono ?_;rintro q w9 hp;have K:=hide (XP.trans PF.out PO.out (XP.base PM.out (by repeat (first|exact Below.refl _ _|refine Below.drew ?_|refine below_al ?_)) hp));obtain ⟨_,rfl,_⟩:=hp)
        go_end0
        exact K.out
     ·have n9:(p==9)=false:=by simpa using k9
      have m9:(p != 9)=true:=by simpa using k9
      clear k9 fx
      cases o with
      | inl E =>
       go_enter Tryz.func111, Tryz.ntmps111
       go_wp2_with (go_at_call 127;refine (IN.out _ (by repeat (first|exact Below.refl _ _|refine Below.drew ?_|refine below_al ?_))).mono ?_;rintro q w1 ⟨rfl,d,hw1⟩;have B1:Hid (Below W.heap.size W w1):=(by rw [hw1];exact below_then (by repeat (first|exact Below.refl _ _|refine Below.drew ?_|refine below_al ?_)) (dn_b _ _));have g2:w1.cell? ⟨r,2,none⟩=some (.int .i64 st.rk):=((H.out.then B1.out).rd.cell 2).trans rfl;have g2f:w1.frozen? ⟨r,2,none⟩=false:=(H.out.then B1.out).rd.frz 2;have g6:w1.cell? ⟨r,6,none⟩=some (.bool st.filled):=((H.out.then B1.out).rd.cell 6).trans rfl;have g5:w1.cell? ⟨r,5,none⟩=some (.slice (some ⟨j,0,none⟩) (qs.length+1) cp):=((H.out.then B1.out).rd.cell 5).trans (by rw [←hm'.out];rfl);have f5:w1.frozen? ⟨r,5,none⟩=false:=(H.out.then B1.out).rd.frz 5;clear hw1)
       go_region_with (fail)
       all_goals
        obtain ⟨pf,_,m2,pm,po⟩:=ep.out _ B1.out
        have PF:=hide pf
        have PM:=hide pm
        have PO:=hide po
        clear pf pm po
        go_wp2_with (go_at_call 106;refine (C.out _ _ (PM.out.then (by repeat (first|exact Below.refl _ _|refine Below.drew ?_|refine below_al ?_)))).mono ?_;rintro q w9 hp;have K:=hide (XP.trans PF.out PO.out (XP.base PM.out (by repeat (first|exact Below.refl _ _|refine Below.drew ?_|refine below_al ?_)) hp));obtain ⟨_,rfl,_⟩:=hp)
        exact ⟨rfl,K.out⟩
      | inr x =>
       go_enter Tryz.func111, Tryz.ntmps111
       go_wp2_with (go_at_call 127;refine (IN.out _ (by repeat (first|exact Below.refl _ _|refine Below.drew ?_|refine below_al ?_))).mono ?_;rintro q w1 ⟨rfl,d,hw1⟩;have B1:Hid (Below W.heap.size W w1):=(by rw [hw1];exact below_then (by repeat (first|exact Below.refl _ _|refine Below.drew ?_|refine below_al ?_)) (dn_b _ _));have g2:w1.cell? ⟨r,2,none⟩=some (.int .i64 st.rk):=((H.out.then B1.out).rd.cell 2).trans rfl;have g2f:w1.frozen? ⟨r,2,none⟩=false:=(H.out.then B1.out).rd.frz 2;have g6:w1.cell? ⟨r,6,none⟩=some (.bool st.filled):=((H.out.then B1.out).rd.cell 6).trans rfl;have g5:w1.cell? ⟨r,5,none⟩=some (.slice (some ⟨j,0,none⟩) (qs.length+1) cp):=((H.out.then B1.out).rd.cell 5).trans (by rw [←hm'.out];rfl);have f5:w1.frozen? ⟨r,5,none⟩=false:=(H.out.then B1.out).rd.frz 5;clear hw1)
       go_region_with (fail)
       all_goals
        obtain ⟨pf,_,m2,pm,po⟩:=ep.out _ B1.out
        have PF:=hide pf
        have PM:=hide pm
        have PO:=hide po
        clear pf pm po
        go_wp2_with (go_at_call 106;refine (C.out _ _ (PM.out.then (by repeat (first|exact Below.refl _ _|refine Below.drew ?_|refine below_al ?_)))).mono ?_;rintro q w9 hp;have K:=hide (XP.trans PF.out PO.out (XP.base PM.out (by repeat (first|exact Below.refl _ _|refine Below.drew ?_|refine below_al ?_)) hp));obtain ⟨_,rfl,_⟩:=hp)
        go_end0
        exact K.out
  ·rw [if_pos (Or.inr (Or.inl hl))]
   have n1:(lastK st.ks != k)=true:=by simpa using hl
   have n2:(lastK st.ks==k)=false:=by simpa using hl
   clear h hn hl hk0
   obtain ⟨b1,hb1⟩:∃ b,(k==10)=b:=⟨_,rfl⟩
   obtain ⟨b2,hb2⟩:∃ b,(k==9)=b:=⟨_,rfl⟩
   cases b1 <;> cases b2
   all_goals
    go_enter Tryz.func111, Tryz.ntmps111
    go_wp2_with (go_at_call 127;refine (IN.out _ (by repeat (first|exact Below.refl _ _|refine Below.drew ?_|refine below_al ?_))).mono ?_;rintro q w1 ⟨rfl,d,hw1⟩;have B1:Hid (Below W.heap.size W w1):=(by rw [hw1];exact below_then (by repeat (first|exact Below.refl _ _|refine Below.drew ?_|refine below_al ?_)) (dn_b _ _));have g2:w1.cell? ⟨r,2,none⟩=some (.int .i64 st.rk):=((H.out.then B1.out).rd.cell 2).trans rfl;have g2f:w1.frozen? ⟨r,2,none⟩=false:=(H.out.then B1.out).rd.frz 2;have g6:w1.cell? ⟨r,6,none⟩=some (.bool st.filled):=((H.out.then B1.out).rd.cell 6).trans rfl;clear hw1)
    exact ⟨rfl,XP.base H.out B1.out ((H.out.then B1.out).fail 100)⟩
 ·rw [if_pos (Or.inl h0)]
  have n0:(st.rk != 0)=true:=by simpa using h0
  have n02:(st.rk==0)=false:=by simpa using h0
  clear h hn h0 hk0
  obtain ⟨b1,hb1⟩:∃ b,(k==10)=b:=⟨_,rfl⟩
  obtain ⟨b2,hb2⟩:∃ b,(k==9)=b:=⟨_,rfl⟩
  cases b1 <;> cases b2
  all_goals
   go_enter Tryz.func111, Tryz.ntmps111
   go_wp2_with fail
   exact ⟨rfl,H.out.fail 100⟩
end
def mkI (p:Nat×Int×Bool):Value:=if p.1=1 then .iface 127 (.agg (evs {zr p.2.1 with flag:=p.2.2})) else if p.1=2 then .iface 128 (.int .i64 p.2.1) else if p.1=3 then .iface 129 (.int .i64 p.2.1) else if p.1=4 then .iface 130 (.int .i64 p.2.1) else if p.1=5 then .iface 132 (.int .i64 p.2.1) else if p.1=6 then .iface 134 (.agg #[]) else .iface 131 (.int .i64 p.2.1)
def mkV (q:Option (Nat×Int×Bool)):Value:=q.elim .nilIface mkI
theorem ba_neq2 {s:ByteArray} {l:List UInt8} (h:¬ bl s=l):(s.toList==l)=false:=by
 rw [ByteArray.toList_eq]
 simpa [bl] using h
theorem mark_mNull (w:World):Calls Tryz.prog 87 #[.string ⟨#[60,110,117,108,108,47,62]⟩] w fun e w'=>e=.returned (mkI (1,1,false))∧Below w.heap.size w w':=by
 go_enter Tryz.func87, Tryz.ntmps87
 go_wp2_with fail
 go_ret
 exact ⟨rfl,by repeat (first|exact Below.refl _ _|refine Below.drew ?_|refine below_al ?_)⟩
theorem mark_mTrue (w:World):Calls Tryz.prog 87 #[.string ⟨#[60,116,114,117,101,47,62]⟩] w fun e w'=>e=.returned (mkI (1,2,true))∧Below w.heap.size w w':=by
 go_enter Tryz.func87, Tryz.ntmps87
 go_wp2_with fail
 go_ret
 exact ⟨rfl,by repeat (first|exact Below.refl _ _|refine Below.drew ?_|refine below_al ?_)⟩
theorem mark_mFalse (w:World):Calls Tryz.prog 87 #[.string ⟨#[60,102,97,108,115,101,47,62]⟩] w fun e w'=>e=.returned (mkI (1,2,false))∧Below w.heap.size w w':=by
 go_enter Tryz.func87, Tryz.ntmps87
 go_wp2_with fail
 go_ret
 exact ⟨rfl,by repeat (first|exact Below.refl _ _|refine Below.drew ?_|refine below_al ?_)⟩
theorem mark_mNum (w:World):Calls Tryz.prog 87 #[.string ⟨#[60,110,117,109,62]⟩] w fun e w'=>e=.returned (mkI (2,3,false))∧Below w.heap.size w w':=by
 go_enter Tryz.func87, Tryz.ntmps87
 go_wp2_with fail
 go_ret
 exact ⟨rfl,by repeat (first|exact Below.refl _ _|refine Below.drew ?_|refine below_al ?_)⟩
theorem mark_mNumE (w:World):Calls Tryz.prog 87 #[.string ⟨#[60,47,110,117,109,62]⟩] w fun e w'=>e=.returned (mkI (3,3,false))∧Below w.heap.size w w':=by
 go_enter Tryz.func87, Tryz.ntmps87
 go_wp2_with fail
 go_ret
 exact ⟨rfl,by repeat (first|exact Below.refl _ _|refine Below.drew ?_|refine below_al ?_)⟩
theorem mark_mFloat (w:World):Calls Tryz.prog 87 #[.string ⟨#[60,102,108,111,97,116,62]⟩] w fun e w'=>e=.returned (mkI (2,4,false))∧Below w.heap.size w w':=by
 go_enter Tryz.func87, Tryz.ntmps87
 go_wp2_with fail
 go_ret
 exact ⟨rfl,by repeat (first|exact Below.refl _ _|refine Below.drew ?_|refine below_al ?_)⟩
theorem mark_mFloatE (w:World):Calls Tryz.prog 87 #[.string ⟨#[60,47,102,108,111,97,116,62]⟩] w fun e w'=>e=.returned (mkI (3,4,false))∧Below w.heap.size w w':=by
 go_enter Tryz.func87, Tryz.ntmps87
 go_wp2_with fail
 go_ret
 exact ⟨rfl,by repeat (first|exact Below.refl _ _|refine Below.drew ?_|refine below_al ?_)⟩
theorem mark_mText (w:World):Calls Tryz.prog 87 #[.string ⟨#[60,116,101,120,116,62]⟩] w fun e w'=>e=.returned (mkI (2,5,false))∧Below w.heap.size w w':=by
 go_enter Tryz.func87, Tryz.ntmps87
 go_wp2_with fail
 go_ret
 exact ⟨rfl,by repeat (first|exact Below.refl _ _|refine Below.drew ?_|refine below_al ?_)⟩
theorem mark_mTextE (w:World):Calls Tryz.prog 87 #[.string ⟨#[60,47,116,101,120,116,62]⟩] w fun e w'=>e=.returned (mkI (3,5,false))∧Below w.heap.size w w':=by
 go_enter Tryz.func87, Tryz.ntmps87
 go_wp2_with fail
 go_ret
 exact ⟨rfl,by repeat (first|exact Below.refl _ _|refine Below.drew ?_|refine below_al ?_)⟩
theorem mark_mBytes (w:World):Calls Tryz.prog 87 #[.string ⟨#[60,98,121,116,101,115,62]⟩] w fun e w'=>e=.returned (mkI (2,6,false))∧Below w.heap.size w w':=by
 go_enter Tryz.func87, Tryz.ntmps87
 go_wp2_with fail
 go_ret
 exact ⟨rfl,by repeat (first|exact Below.refl _ _|refine Below.drew ?_|refine below_al ?_)⟩
theorem mark_mBytesE (w:World):Calls Tryz.prog 87 #[.string ⟨#[60,47,98,121,116,101,115,62]⟩] w fun e w'=>e=.returned (mkI (3,6,false))∧Below w.heap.size w w':=by
 go_enter Tryz.func87, Tryz.ntmps87
 go_wp2_with fail
 go_ret
 exact ⟨rfl,by repeat (first|exact Below.refl _ _|refine Below.drew ?_|refine below_al ?_)⟩
theorem mark_mList (w:World):Calls Tryz.prog 87 #[.string ⟨#[60,108,105,115,116,62]⟩] w fun e w'=>e=.returned (mkI (4,7,false))∧Below w.heap.size w w':=by
 go_enter Tryz.func87, Tryz.ntmps87
 go_wp2_with fail
 go_ret
 exact ⟨rfl,by repeat (first|exact Below.refl _ _|refine Below.drew ?_|refine below_al ?_)⟩
theorem mark_mListE (w:World):Calls Tryz.prog 87 #[.string ⟨#[60,47,108,105,115,116,62]⟩] w fun e w'=>e=.returned (mkI (7,7,false))∧Below w.heap.size w w':=by
 go_enter Tryz.func87, Tryz.ntmps87
 go_wp2_with fail
 go_ret
 exact ⟨rfl,by repeat (first|exact Below.refl _ _|refine Below.drew ?_|refine below_al ?_)⟩
theorem mark_mRec (w:World):Calls Tryz.prog 87 #[.string ⟨#[60,114,101,99,111,114,100,62]⟩] w fun e w'=>e=.returned (mkI (4,8,false))∧Below w.heap.size w w':=by
 go_enter Tryz.func87, Tryz.ntmps87
 go_wp2_with fail
 go_ret
 exact ⟨rfl,by repeat (first|exact Below.refl _ _|refine Below.drew ?_|refine below_al ?_)⟩
theorem mark_mRecE (w:World):Calls Tryz.prog 87 #[.string ⟨#[60,47,114,101,99,111,114,100,62]⟩] w fun e w'=>e=.returned (mkI (7,8,false))∧Below w.heap.size w w':=by
 go_enter Tryz.func87, Tryz.ntmps87
 go_wp2_with fail
 go_ret
 exact ⟨rfl,by repeat (first|exact Below.refl _ _|refine Below.drew ?_|refine below_al ?_)⟩
theorem mark_mField (w:World):Calls Tryz.prog 87 #[.string ⟨#[60,102,105,101,108,100,32,110,97,109,101,61,34]⟩] w fun e w'=>e=.returned (mkI (5,10,false))∧Below w.heap.size w w':=by
 go_enter Tryz.func87, Tryz.ntmps87
 go_wp2_with fail
 go_ret
 exact ⟨rfl,by repeat (first|exact Below.refl _ _|refine Below.drew ?_|refine below_al ?_)⟩
theorem mark_mFieldE (w:World):Calls Tryz.prog 87 #[.string ⟨#[60,47,102,105,101,108,100,62]⟩] w fun e w'=>e=.returned (mkI (7,10,false))∧Below w.heap.size w w':=by
 go_enter Tryz.func87, Tryz.ntmps87
 go_wp2_with fail
 go_ret
 exact ⟨rfl,by repeat (first|exact Below.refl _ _|refine Below.drew ?_|refine below_al ?_)⟩
theorem mark_mTag (w:World):Calls Tryz.prog 87 #[.string ⟨#[60,116,97,103,32,110,97,109,101,61,34]⟩] w fun e w'=>e=.returned (mkI (5,9,false))∧Below w.heap.size w w':=by
 go_enter Tryz.func87, Tryz.ntmps87
 go_wp2_with fail
 go_ret
 exact ⟨rfl,by repeat (first|exact Below.refl _ _|refine Below.drew ?_|refine below_al ?_)⟩
theorem mark_mTagE (w:World):Calls Tryz.prog 87 #[.string ⟨#[60,47,116,97,103,62]⟩] w fun e w'=>e=.returned (mkI (7,9,false))∧Below w.heap.size w w':=by
 go_enter Tryz.func87, Tryz.ntmps87
 go_wp2_with fail
 go_ret
 exact ⟨rfl,by repeat (first|exact Below.refl _ _|refine Below.drew ?_|refine below_al ?_)⟩
theorem mark_mNameE (w:World):Calls Tryz.prog 87 #[.string ⟨#[34,62]⟩] w fun e w'=>e=.returned (mkI (6,0,false))∧Below w.heap.size w w':=by
 go_enter Tryz.func87, Tryz.ntmps87
 go_wp2_with fail
 go_ret
 exact ⟨rfl,by repeat (first|exact Below.refl _ _|refine Below.drew ?_|refine below_al ?_)⟩
set_option maxRecDepth 100000 in
theorem mark_no (s:ByteArray)(w:World)(h0:¬ bl s=mNull)(h1:¬ bl s=mTrue)(h2:¬ bl s=mFalse)(h3:¬ bl s=mNum)(h4:¬ bl s=mNumE)(h5:¬ bl s=mFloat)(h6:¬ bl s=mFloatE)(h7:¬ bl s=mText)(h8:¬ bl s=mTextE)(h9:¬ bl s=mBytes)(h10:¬ bl s=mBytesE)(h11:¬ bl s=mList)(h12:¬ bl s=mListE)(h13:¬ bl s=mRec)(h14:¬ bl s=mRecE)(h15:¬ bl s=mField)(h16:¬ bl s=mFieldE)(h17:¬ bl s=mTag)(h18:¬ bl s=mTagE)(h19:¬ bl s=mNameE):Calls Tryz.prog 87 #[.string s] w fun e w'=>e=.returned .nilIface∧Below w.heap.size w w':=by
 have n0:=ba_neq2 h0
 have n1:=ba_neq2 h1
 have n2:=ba_neq2 h2
 have n3:=ba_neq2 h3
 have n4:=ba_neq2 h4
 have n5:=ba_neq2 h5
 have n6:=ba_neq2 h6
 have n7:=ba_neq2 h7
 have n8:=ba_neq2 h8
 have n9:=ba_neq2 h9
 have n10:=ba_neq2 h10
 have n11:=ba_neq2 h11
 have n12:=ba_neq2 h12
 have n13:=ba_neq2 h13
 have n14:=ba_neq2 h14
 have n15:=ba_neq2 h15
 have n16:=ba_neq2 h16
 have n17:=ba_neq2 h17
 have n18:=ba_neq2 h18
 have n19:=ba_neq2 h19
 simp only [mNull,mTrue,mFalse,mNum,mNumE,mFloat,mFloatE,mText,mTextE,mBytes,mBytesE,mList,mListE,mRec,mRecE,mField,mFieldE,mTag,mTagE,mNameE] at n0 n1 n2 n3 n4 n5 n6 n7 n8 n9 n10 n11 n12 n13 n14 n15 n16 n17 n18 n19
 clear h0 h1 h2 h3 h4 h5 h6 h7 h8 h9 h10 h11 h12 h13 h14 h15 h16 h17 h18 h19
 go_enter Tryz.func87, Tryz.ntmps87
 go_wp2_with fail
 go_ret
 exact ⟨rfl,by repeat (first|exact Below.refl _ _|refine Below.drew ?_|refine below_al ?_)⟩
theorem mark_q (s:ByteArray)(w:World):Calls Tryz.prog 87 #[.string s] w fun e w'=>e=.returned (mkV (mkOf (bl s)))∧Below w.heap.size w w':=by
 unfold mkOf
 by_cases h0:bl s=mNull
 ·rw [if_pos h0]
  have hs:s=⟨#[60,110,117,108,108,47,62]⟩:=by rw [←mkB_bl s,h0];rfl
  subst hs
  exact mark_mNull w
 rw [if_neg h0]
 by_cases h1:bl s=mTrue
 ·rw [if_pos h1]
  have hs:s=⟨#[60,116,114,117,101,47,62]⟩:=by rw [←mkB_bl s,h1];rfl
  subst hs
  exact mark_mTrue w
 rw [if_neg h1]
 by_cases h2:bl s=mFalse
 ·rw [if_pos h2]
  have hs:s=⟨#[60,102,97,108,115,101,47,62]⟩:=by rw [←mkB_bl s,h2];rfl
  subst hs
  exact mark_mFalse w
 rw [if_neg h2]
 by_cases h3:bl s=mNum
 ·rw [if_pos h3]
  have hs:s=⟨#[60,110,117,109,62]⟩:=by rw [←mkB_bl s,h3];rfl
  subst hs
  exact mark_mNum w
 rw [if_neg h3]
 by_cases h4:bl s=mNumE
 ·rw [if_pos h4]
  have hs:s=⟨#[60,47,110,117,109,62]⟩:=by rw [←mkB_bl s,h4];rfl
  subst hs
  exact mark_mNumE w
 rw [if_neg h4]
 by_cases h5:bl s=mFloat
 ·rw [if_pos h5]
  have hs:s=⟨#[60,102,108,111,97,116,62]⟩:=by rw [←mkB_bl s,h5];rfl
  subst hs
  exact mark_mFloat w
 rw [if_neg h5]
 by_cases h6:bl s=mFloatE
 ·rw [if_pos h6]
  have hs:s=⟨#[60,47,102,108,111,97,116,62]⟩:=by rw [←mkB_bl s,h6];rfl
  subst hs
  exact mark_mFloatE w
 rw [if_neg h6]
 by_cases h7:bl s=mText
 ·rw [if_pos h7]
  have hs:s=⟨#[60,116,101,120,116,62]⟩:=by rw [←mkB_bl s,h7];rfl
  subst hs
  exact mark_mText w
 rw [if_neg h7]
 by_cases h8:bl s=mTextE
 ·rw [if_pos h8]
  have hs:s=⟨#[60,47,116,101,120,116,62]⟩:=by rw [←mkB_bl s,h8];rfl
  subst hs
  exact mark_mTextE w
 rw [if_neg h8]
 by_cases h9:bl s=mBytes
 ·rw [if_pos h9]
  have hs:s=⟨#[60,98,121,116,101,115,62]⟩:=by rw [←mkB_bl s,h9];rfl
  subst hs
  exact mark_mBytes w
 rw [if_neg h9]
 by_cases h10:bl s=mBytesE
 ·rw [if_pos h10]
  have hs:s=⟨#[60,47,98,121,116,101,115,62]⟩:=by rw [←mkB_bl s,h10];rfl
  subst hs
  exact mark_mBytesE w
 rw [if_neg h10]
 by_cases h11:bl s=mList
 ·rw [if_pos h11]
  have hs:s=⟨#[60,108,105,115,116,62]⟩:=by rw [←mkB_bl s,h11];rfl
  subst hs
  exact mark_mList w
 rw [if_neg h11]
 by_cases h12:bl s=mListE
 ·rw [if_pos h12]
  have hs:s=⟨#[60,47,108,105,115,116,62]⟩:=by rw [←mkB_bl s,h12];rfl
  subst hs
  exact mark_mListE w
 rw [if_neg h12]
 by_cases h13:bl s=mRec
 ·rw [if_pos h13]
  have hs:s=⟨#[60,114,101,99,111,114,100,62]⟩:=by rw [←mkB_bl s,h13];rfl
  subst hs
  exact mark_mRec w
 rw [if_neg h13]
 by_cases h14:bl s=mRecE
 ·rw [if_pos h14]
  have hs:s=⟨#[60,47,114,101,99,111,114,100,62]⟩:=by rw [←mkB_bl s,h14];rfl
  subst hs
  exact mark_mRecE w
 rw [if_neg h14]
 by_cases h15:bl s=mField
 ·rw [if_pos h15]
  have hs:s=⟨#[60,102,105,101,108,100,32,110,97,109,101,61,34]⟩:=by rw [←mkB_bl s,h15];rfl
  subst hs
  exact mark_mField w
 rw [if_neg h15]
 by_cases h16:bl s=mFieldE
 ·rw [if_pos h16]
  have hs:s=⟨#[60,47,102,105,101,108,100,62]⟩:=by rw [←mkB_bl s,h16];rfl
  subst hs
  exact mark_mFieldE w
 rw [if_neg h16]
 by_cases h17:bl s=mTag
 ·rw [if_pos h17]
  have hs:s=⟨#[60,116,97,103,32,110,97,109,101,61,34]⟩:=by rw [←mkB_bl s,h17];rfl
  subst hs
  exact mark_mTag w
 rw [if_neg h17]
 by_cases h18:bl s=mTagE
 ·rw [if_pos h18]
  have hs:s=⟨#[60,47,116,97,103,62]⟩:=by rw [←mkB_bl s,h18];rfl
  subst hs
  exact mark_mTagE w
 rw [if_neg h18]
 by_cases h19:bl s=mNameE
 ·rw [if_pos h19]
  have hs:s=⟨#[34,62]⟩:=by rw [←mkB_bl s,h19];rfl
  subst hs
  exact mark_mNameE w
 rw [if_neg h19]
 exact mark_no s w h0 h1 h2 h3 h4 h5 h6 h7 h8 h9 h10 h11 h12 h13 h14 h15 h16 h17 h18 h19
end Go.Proofs.YthodiandebahdaaGreatDoor
