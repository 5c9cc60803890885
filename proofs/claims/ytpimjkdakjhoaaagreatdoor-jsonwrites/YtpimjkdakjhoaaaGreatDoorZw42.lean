/- Merged by program: KvTakeB, KvTakeZ, KwPure, KxFeed, KzCatch. -/
import Derived.Test.YtpimjkdakjhoaaaGreatDoorZw41
import Derived.Test.YtpimjkdakjhoaaaGreatDoorZw29
namespace Go.Proofs.YtpimjkdakjhoaaaGreatDoor
open Go.RowKit
set_option linter.unusedSimpArgs false
set_option linter.unusedVariables false
set_option maxHeartbeats 8000000
section
variable {W W1 W2 : World} {r : Nat} {g : Gv} {m : Mv} {st : St}
set_option maxRecDepth 100000 in
theorem take_b (h:RM W r g m st) (c:UInt8) (hd:st.q.place=3→st.q.digits<4) (hk1:st.wait=1→st.ks≠[]) (hk11:st.wait=11→st.ks≠[]) (hn:st.n≤199900) (ht:st.total≤1000000) (hp:st.passed=false) (hb:65536<st.total + 1):Calls Tryz.prog 32 #[.pointer (some ⟨r,0,none⟩),.int .u8 c.toNat] W fun q w'=>RP W r g m (bnd (passS {st with total:=st.total + 1}) fun x=>goS x c) q w':=by
 have H:=hide h
 have c1:W.cell? ⟨r,1,none⟩=some (.int .i64 st.total):=(h.rd.cell 1).trans rfl
 have f1:W.frozen? ⟨r,1,none⟩=false:=h.rd.frz 1
 have c2:W.cell? ⟨r,2,none⟩=some (.bool st.passed):=(h.rd.cell 2).trans rfl
 have c4:W.cell? ⟨r,4,none⟩=some (.int .i64 st.q.place):=(h.rd.cell 4).trans rfl
 have hw:IntKind.i64.wrap ((st.total:Int) + 1)=(st.total:Int) + 1:=by rw [IntKind.wrap_i64] <;> omega
 have M0:=hide h.w1
 have F0:=hide (RF.w1 h)
 clear h
 rw [hp] at c2
 have hlt:decide ((65536:Int)<(st.total:Int) + 1)=true:=by simp;omega
 clear hp ht hb
 have C0:=hide (pass_r M0.out)
 cases hq0:passS {st with total:=st.total + 1} with
 | inl E =>
  rw [hq0] at C0
  clear hq0 hd hk1 hk11 hn
  simp only [bnd]
  go_enter Tryz.func32, Tryz.ntmps32
  go_wp2_with (go_at_call 59;refine C0.out.mono ?_;rintro q w1 ⟨hp1,rfl,hp2⟩;have F1:Hid (RF g m W w1):=F0.out.trans (OM.refl _ _) hp1;have M1:=hide hp2;clear hp1 hp2)
  exact ⟨rfl,F1.out,rfl,M1.out⟩
 | inr s2 =>
  rw [hq0] at C0
  obtain ⟨hnn,hkk,hww,hq,_⟩:=facts_passS hq0
  simp only at hnn hkk hww hq
  clear hq0
  simp only [bnd]
  unfold goS
  by_cases hp0:s2.q.place=0
  ·rw [if_neg (fun o=>o hp0)]
   have k4:W.cell? ⟨r,4,none⟩=some (.int .i64 0):=by rw [c4,←hq,hp0];rfl
   clear c4
   obtain ⟨xi,SA,hxi⟩:∃ xi:Int,Hid (∀ w,Calls Tryz.prog 63 #[.string ⟨#[32,9,10,13,91,93,123,125,44,58,34]⟩,.int .u8 c.toNat] w fun r w'=>r=.returned (.int .i64 xi)∧w'=w)∧decide (xi<0)=!isMk c:=⟨_,fun w=>sib_any mkE (c.toNat:Int) w,mk_idx c⟩
   cases hm:isMk c with
   | false =>
    rw [hm] at hxi
    simp only [Bool.not_false,Bool.false_eq_true,if_false] at hxi ⊢
    have C2:=hide (fun w m (h1:RM w r g m s2)=>holdWord_r h1 c)
    clear hm hd hk1 hk11 hn hq hnn hww hkk
    cases hq2:holdS s2 c with
    | inl E =>
     rw [hq2] at C2
     clear hq2
     go_enter Tryz.func32, Tryz.ntmps32
     go_wp2_with (first
      | (go_at_call 59;refine C0.out.mono ?_;rintro q w1 ⟨hp1,rfl,m1,hp2,hp3⟩;have F1:Hid (RF g m W w1):=F0.out.trans (OM.refl _ _) hp1;have M1:=hide hp2;have O1:Hid (OM W m m1):=(OM.refl _ _).trans hp3 F0.out.below.size;clear hp1 hp2 hp3;have e4:w1.cell? ⟨r,4,none⟩=some (.int .i64 0):=(M1.out.rd.cell 4).trans (by show some (Value.int .i64 (s2.q.place:Int))=_;rw [hp0];rfl))
      | (go_at_call 63;refine (SA.out _).mono ?_;rintro e w0 ⟨rfl,hw0⟩;have hws:=hw0.symm;clear hw0;subst hws)
      | (go_at_call 64;refine (C2.out _ _ M1.out).mono ?_;rintro q w2 ⟨hp1,rfl,hp2⟩;have F2:=hide hp1;have M2:=hide hp2;clear hp1 hp2))
     exact ⟨rfl,RP.trans F1.out O1.out (⟨F2.out,rfl,M2.out⟩)⟩
    | inr x =>
     rw [hq2] at C2
     clear hq2
     go_enter Tryz.func32, Tryz.ntmps32
     go_wp2_with (first
      | (go_at_call 59;refine C0.out.mono ?_;rintro q w1 ⟨hp1,rfl,m1,hp2,hp3⟩;have F1:Hid (RF g m W w1):=F0.out.trans (OM.refl _ _) hp1;have M1:=hide hp2;have O1:Hid (OM W m m1):=(OM.refl _ _).trans hp3 F0.out.below.size;clear hp1 hp2 hp3;have e4:w1.cell? ⟨r,4,none⟩=some (.int .i64 0):=(M1.out.rd.cell 4).trans (by show some (Value.int .i64 (s2.q.place:Int))=_;rw [hp0];rfl))
      | (go_at_call 63;refine (SA.out _).mono ?_;rintro e w0 ⟨rfl,hw0⟩;have hws:=hw0.symm;clear hw0;subst hws)
      | (go_at_call 64;refine (C2.out _ _ M1.out).mono ?_;rintro q w2 ⟨hp1,rfl,m2,hp2,hp3⟩;have F2:=hide hp1;have M2:=hide hp2;have O2:=hide hp3;clear hp1 hp2 hp3))
     go_end0
     exact RP.trans F1.out O1.out (⟨F2.out,rfl,m2,M2.out,O2.out⟩)
   | true =>
    rw [hm] at hxi
    simp only [Bool.not_true,if_true] at hxi ⊢
    have C2:=hide (fun w m (h1:RM w r g m s2)=>endWord_r h1 (by omega))
    cases hq2:endWordS s2 with
    | inl E =>
     rw [hq2] at C2
     clear hq2 hm hd hk1 hk11 hn hq hnn hww hkk
     simp only [bnd]
     go_enter Tryz.func32, Tryz.ntmps32
     go_wp2_with (first
      | (go_at_call 59;refine C0.out.mono ?_;rintro q w1 ⟨hp1,rfl,m1,hp2,hp3⟩;have F1:Hid (RF g m W w1):=F0.out.trans (OM.refl _ _) hp1;have M1:=hide hp2;have O1:Hid (OM W m m1):=(OM.refl _ _).trans hp3 F0.out.below.size;clear hp1 hp2 hp3;have e4:w1.cell? ⟨r,4,none⟩=some (.int .i64 0):=(M1.out.rd.cell 4).trans (by show some (Value.int .i64 (s2.q.place:Int))=_;rw [hp0];rfl))
      | (go_at_call 63;refine (SA.out _).mono ?_;rintro e w0 ⟨rfl,hw0⟩;have hws:=hw0.symm;clear hw0;subst hws)
      | (go_at_call 65;refine (C2.out _ _ M1.out).mono ?_;rintro q w2 ⟨hp1,rfl,hp2⟩;have F2:=hide hp1;have M2:=hide hp2;clear hp1 hp2))
     exact ⟨rfl,RP.trans F1.out O1.out (⟨F2.out,rfl,M2.out⟩)⟩
    | inr x2 =>
     rw [hq2] at C2
     obtain ⟨k1,k2,k3,_⟩:=facts_endWordS hq2 (by rw [hww,hkk];exact hk1) (by rw [hww,hkk];exact hk11)
     simp only [bnd]
     have C3:=hide (fun w m (h1:RM w r g m x2)=>takeMark_r h1 c k2 k3 (by omega))
     clear hq2 hm hd hk1 hk11 hn hq hnn hww hkk k1 k2 k3
     cases hq3:markS x2 c with
     | inl E =>
      rw [hq3] at C3
      clear hq3
      go_enter Tryz.func32, Tryz.ntmps32
      go_wp2_with (first
       | (go_at_call 59;refine C0.out.mono ?_;rintro q w1 ⟨hp1,rfl,m1,hp2,hp3⟩;have F1:Hid (RF g m W w1):=F0.out.trans (OM.refl _ _) hp1;have M1:=hide hp2;have O1:Hid (OM W m m1):=(OM.refl _ _).trans hp3 F0.out.below.size;clear hp1 hp2 hp3;have e4:w1.cell? ⟨r,4,none⟩=some (.int .i64 0):=(M1.out.rd.cell 4).trans (by show some (Value.int .i64 (s2.q.place:Int))=_;rw [hp0];rfl))
       | (go_at_call 63;refine (SA.out _).mono ?_;rintro e w0 ⟨rfl,hw0⟩;have hws:=hw0.symm;clear hw0;subst hws)
       | (go_at_call 65;refine (C2.out _ _ M1.out).mono ?_;rintro q w2 ⟨hp1,rfl,m2,hp2,hp3⟩;have F2:=hide hp1;have M2:=hide hp2;have O2:=hide hp3;clear hp1 hp2 hp3)
       | (go_at_call 66;refine (C3.out _ _ M2.out).mono ?_;rintro q w3 ⟨hp1,rfl,hp2⟩;have F3:=hide hp1;have M3:=hide hp2;clear hp1 hp2))
      exact ⟨rfl,RP.trans F1.out O1.out (RP.trans F2.out O2.out (⟨F3.out,rfl,M3.out⟩))⟩
     | inr x3 =>
      rw [hq3] at C3
      clear hq3
      go_enter Tryz.func32, Tryz.ntmps32
      go_wp2_with (first
       | (go_at_call 59;refine C0.out.mono ?_;rintro q w1 ⟨hp1,rfl,m1,hp2,hp3⟩;have F1:Hid (RF g m W w1):=F0.out.trans (OM.refl _ _) hp1;have M1:=hide hp2;have O1:Hid (OM W m m1):=(OM.refl _ _).trans hp3 F0.out.below.size;clear hp1 hp2 hp3;have e4:w1.cell? ⟨r,4,none⟩=some (.int .i64 0):=(M1.out.rd.cell 4).trans (by show some (Value.int .i64 (s2.q.place:Int))=_;rw [hp0];rfl))
       | (go_at_call 63;refine (SA.out _).mono ?_;rintro e w0 ⟨rfl,hw0⟩;have hws:=hw0.symm;clear hw0;subst hws)
       | (go_at_call 65;refine (C2.out _ _ M1.out).mono ?_;rintro q w2 ⟨hp1,rfl,m2,hp2,hp3⟩;have F2:=hide hp1;have M2:=hide hp2;have O2:=hide hp3;clear hp1 hp2 hp3)
       | (go_at_call 66;refine (C3.out _ _ M2.out).mono ?_;rintro q w3 ⟨hp1,rfl,m3,hp2,hp3⟩;have F3:=hide hp1;have M3:=hide hp2;have O3:=hide hp3;clear hp1 hp2 hp3))
      go_end0
      exact RP.trans F1.out O1.out (RP.trans F2.out O2.out (⟨F3.out,rfl,m3,M3.out,O3.out⟩))
  ·rw [if_pos hp0]
   have ep:((s2.q.place:Int) != 0)=true:=by simp;omega
   have ep2:((s2.q.place:Int)==0)=false:=by simp;omega
   have k4:W.cell? ⟨r,4,none⟩=some (.int .i64 s2.q.place):=by rw [c4,hq]
   clear c4
   unfold quoS
   have C2:=hide (fun w m (h1:RM w r g m s2)=>qtake_r h1 (by rw [hq];exact hd) c)
   cases hq2:takeQ s2.q c with
   | inl E =>
    rw [hq2] at C2
    clear hq2 hd hk1 hk11 hn hq hnn hww hkk
    simp only [bnd]
    go_enter Tryz.func32, Tryz.ntmps32
    go_wp2_with (first
     | (go_at_call 59;refine C0.out.mono ?_;rintro q w1 ⟨hp1,rfl,m1,hp2,hp3⟩;have F1:Hid (RF g m W w1):=F0.out.trans (OM.refl _ _) hp1;have M1:=hide hp2;have O1:Hid (OM W m m1):=(OM.refl _ _).trans hp3 F0.out.below.size;clear hp1 hp2 hp3;have e4:w1.cell? ⟨r,4,none⟩=some (.int .i64 s2.q.place):=(M1.out.rd.cell 4).trans rfl)
     | (go_at_call 60;refine (C2.out _ _ M1.out).mono ?_;rintro q w2 ⟨hp1,rfl,hp2⟩;have F2:=hide hp1;have M2:=hide hp2;clear hp1 hp2))
    exact ⟨rfl,RP.trans F1.out O1.out (⟨F2.out,rfl,M2.out⟩)⟩
   | inr x2 =>
    rw [hq2] at C2
    have hb:=takeQ_bool hq2
    clear hq2
    obtain ⟨v2,q2⟩:=x2
    simp only [bnd] at hb ⊢
    rcases hb with rfl|rfl
    ·simp only
     have C3:=hide (fun w m (h1:RM w r g m {s2 with q:=q2})=>qtext_r h1)
     simp only [textQ] at C3 ⊢
     cases hok:Ut.okT (Ut.bl (mkB q2.held)) with
     | false =>
      rw [hok] at C3
      simp only [Bool.false_eq_true,if_false] at C3 ⊢
      clear hok hd hk1 hk11 hn hq hnn hww hkk
      go_enter Tryz.func32, Tryz.ntmps32
      go_wp2_with (first
       | (go_at_call 59;refine C0.out.mono ?_;rintro q w1 ⟨hp1,rfl,m1,hp2,hp3⟩;have F1:Hid (RF g m W w1):=F0.out.trans (OM.refl _ _) hp1;have M1:=hide hp2;have O1:Hid (OM W m m1):=(OM.refl _ _).trans hp3 F0.out.below.size;clear hp1 hp2 hp3;have e4:w1.cell? ⟨r,4,none⟩=some (.int .i64 s2.q.place):=(M1.out.rd.cell 4).trans rfl)
       | (go_at_call 60;refine (C2.out _ _ M1.out).mono ?_;rintro q w2 ⟨hp1,rfl,m2,hp2,hp3⟩;have F2:=hide hp1;have M2:=hide hp2;have O2:=hide hp3;clear hp1 hp2 hp3)
       | (go_at_call 61;refine (C3.out _ _ M2.out).mono ?_;rintro q w3 ⟨hp1,rfl,hp2⟩;have F3:=hide hp1;have M3:=hide hp2;clear hp1 hp2))
      exact ⟨rfl,RP.trans F1.out O1.out (RP.trans F2.out O2.out (⟨F3.out,rfl,M3.out⟩))⟩
     | true =>
      rw [hok] at C3
      simp only [if_true] at C3 ⊢
      have C4:=hide (fun w m (h1:RM w r g m {s2 with q:=q0}) (hl:q2.held.length≤8192)=>takeText_r h1 (mkB q2.held) (by rw [←bl_length,bl_mkB];omega) (show s2.n≤199980 by omega))
      clear hok hd hk1 hk11 hn hq hnn hww hkk
      obtain ⟨o4,ho4⟩:∃ o,textS {s2 with q:=q0} (mkB q2.held)=o:=⟨_,rfl⟩
      rw [ho4] at C4 ⊢
      clear ho4
      cases o4 with
      | inl E =>
       go_enter Tryz.func32, Tryz.ntmps32
       go_wp2_with (first
        | (go_at_call 59;refine C0.out.mono ?_;rintro q w1 ⟨hp1,rfl,m1,hp2,hp3⟩;have F1:Hid (RF g m W w1):=F0.out.trans (OM.refl _ _) hp1;have M1:=hide hp2;have O1:Hid (OM W m m1):=(OM.refl _ _).trans hp3 F0.out.below.size;clear hp1 hp2 hp3;have e4:w1.cell? ⟨r,4,none⟩=some (.int .i64 s2.q.place):=(M1.out.rd.cell 4).trans rfl)
        | (go_at_call 60;refine (C2.out _ _ M1.out).mono ?_;rintro q w2 ⟨hp1,rfl,m2,hp2,hp3⟩;have F2:=hide hp1;have M2:=hide hp2;have O2:=hide hp3;clear hp1 hp2 hp3)
        | (go_at_call 61;refine (C3.out _ _ M2.out).mono ?_;rintro q w3 ⟨hp1,rfl,m3,hp2,hp3⟩;have F3:=hide hp1;have M3:=hide hp2;have O3:=hide hp3;clear hp1 hp2 hp3;have hl3:Hid (q2.held.length≤8192):=M3.out.qf.len;have Z3:=hide M3.out.z5;have x3_4:w3.frozen? ⟨r,4,none⟩=false:=M3.out.rd.frz 4;have y3_4:w3.cell? ⟨r,4,none⟩=some (.int .i64 q2.place):=(M3.out.rd.cell 4).trans rfl;have x3_5:w3.frozen? ⟨r,5,none⟩=false:=M3.out.rd.frz 5;have y3_5:w3.cell? ⟨r,5,none⟩=some (m3.held):=(M3.out.rd.cell 5).trans rfl;have x3_6:w3.frozen? ⟨r,6,none⟩=false:=M3.out.rd.frz 6;have y3_6:w3.cell? ⟨r,6,none⟩=some (.int .i64 q2.digits):=(M3.out.rd.cell 6).trans rfl;have x3_7:w3.frozen? ⟨r,7,none⟩=false:=M3.out.rd.frz 7;have y3_7:w3.cell? ⟨r,7,none⟩=some (.int .i64 q2.number):=(M3.out.rd.cell 7).trans rfl;have x3_8:w3.frozen? ⟨r,8,none⟩=false:=M3.out.rd.frz 8;have y3_8:w3.cell? ⟨r,8,none⟩=some (.int .i64 q2.high):=(M3.out.rd.cell 8).trans rfl)
        | (go_at_call 62;refine (C4.out _ _ Z3.out.1 hl3.out).mono ?_;rintro q w4 ⟨hp1,rfl,hp2⟩;have F4:=hide hp1;have M4:=hide hp2;clear hp1 hp2))
       exact ⟨rfl,RP.trans F1.out O1.out (RP.trans F2.out O2.out (RP.trans F3.out O3.out (RP.trans Z3.out.2.1 Z3.out.2.2 (⟨F4.out,rfl,M4.out⟩))))⟩
      | inr x4 =>
       go_enter Tryz.func32, Tryz.ntmps32
       go_wp2_with (first
        | (go_at_call 59;refine C0.out.mono ?_;rintro q w1 ⟨hp1,rfl,m1,hp2,hp3⟩;have F1:Hid (RF g m W w1):=F0.out.trans (OM.refl _ _) hp1;have M1:=hide hp2;have O1:Hid (OM W m m1):=(OM.refl _ _).trans hp3 F0.out.below.size;clear hp1 hp2 hp3;have e4:w1.cell? ⟨r,4,none⟩=some (.int .i64 s2.q.place):=(M1.out.rd.cell 4).trans rfl)
        | (go_at_call 60;refine (C2.out _ _ M1.out).mono ?_;rintro q w2 ⟨hp1,rfl,m2,hp2,hp3⟩;have F2:=hide hp1;have M2:=hide hp2;have O2:=hide hp3;clear hp1 hp2 hp3)
        | (go_at_call 61;refine (C3.out _ _ M2.out).mono ?_;rintro q w3 ⟨hp1,rfl,m3,hp2,hp3⟩;have F3:=hide hp1;have M3:=hide hp2;have O3:=hide hp3;clear hp1 hp2 hp3;have hl3:Hid (q2.held.length≤8192):=M3.out.qf.len;have Z3:=hide M3.out.z5;have x3_4:w3.frozen? ⟨r,4,none⟩=false:=M3.out.rd.frz 4;have y3_4:w3.cell? ⟨r,4,none⟩=some (.int .i64 q2.place):=(M3.out.rd.cell 4).trans rfl;have x3_5:w3.frozen? ⟨r,5,none⟩=false:=M3.out.rd.frz 5;have y3_5:w3.cell? ⟨r,5,none⟩=some (m3.held):=(M3.out.rd.cell 5).trans rfl;have x3_6:w3.frozen? ⟨r,6,none⟩=false:=M3.out.rd.frz 6;have y3_6:w3.cell? ⟨r,6,none⟩=some (.int .i64 q2.digits):=(M3.out.rd.cell 6).trans rfl;have x3_7:w3.frozen? ⟨r,7,none⟩=false:=M3.out.rd.frz 7;have y3_7:w3.cell? ⟨r,7,none⟩=some (.int .i64 q2.number):=(M3.out.rd.cell 7).trans rfl;have x3_8:w3.frozen? ⟨r,8,none⟩=false:=M3.out.rd.frz 8;have y3_8:w3.cell? ⟨r,8,none⟩=some (.int .i64 q2.high):=(M3.out.rd.cell 8).trans rfl)
        | (go_at_call 62;refine (C4.out _ _ Z3.out.1 hl3.out).mono ?_;rintro q w4 ⟨hp1,rfl,m4,hp2,hp3⟩;have F4:=hide hp1;have M4:=hide hp2;have O4:=hide hp3;clear hp1 hp2 hp3))
       go_end0
       exact RP.trans F1.out O1.out (RP.trans F2.out O2.out (RP.trans F3.out O3.out (RP.trans Z3.out.2.1 Z3.out.2.2 (⟨F4.out,rfl,m4,M4.out,O4.out⟩))))
    ·simp only
     clear hd hk1 hk11 hn hq hnn hww hkk
     go_enter Tryz.func32, Tryz.ntmps32
     go_wp2_with (first
      | (go_at_call 59;refine C0.out.mono ?_;rintro q w1 ⟨hp1,rfl,m1,hp2,hp3⟩;have F1:Hid (RF g m W w1):=F0.out.trans (OM.refl _ _) hp1;have M1:=hide hp2;have O1:Hid (OM W m m1):=(OM.refl _ _).trans hp3 F0.out.below.size;clear hp1 hp2 hp3;have e4:w1.cell? ⟨r,4,none⟩=some (.int .i64 s2.q.place):=(M1.out.rd.cell 4).trans rfl)
      | (go_at_call 60;refine (C2.out _ _ M1.out).mono ?_;rintro q w2 ⟨hp1,rfl,m2,hp2,hp3⟩;have F2:=hide hp1;have M2:=hide hp2;have O2:=hide hp3;clear hp1 hp2 hp3))
     go_end0
     exact RP.trans F1.out O1.out (⟨F2.out,rfl,m2,M2.out,O2.out⟩)
end
section
variable {W W1 W2 : World} {r : Nat} {g : Gv} {m : Mv} {st : St}
theorem take_r (h:RM W r g m st) (c:UInt8) (hd:st.q.place=3→st.q.digits<4) (hk1:st.wait=1→st.ks≠[]) (hk11:st.wait=11→st.ks≠[]) (hn:st.n≤199900) (ht:st.total≤1000000):Calls Tryz.prog 32 #[.pointer (some ⟨r,0,none⟩),.int .u8 c.toNat] W fun q w'=>RP W r g m (takeS st c) q w':=by
 unfold takeS
 cases hp:st.passed with
 | true =>
  rw [if_pos (Or.inl rfl)]
  have:=take_a h c hd hk1 hk11 hn ht hp
  simp only [hp] at this
  exact this
 | false =>
  by_cases hb:65536<st.total + 1
  ·rw [if_pos (Or.inr hb)]
   have:=take_b h c hd hk1 hk11 hn ht hp hb
   simp only [hp] at this
   exact this
  ·rw [if_neg (fun o=>o.elim (fun q=>by cases q) hb)]
   have:=take_c h c hd hk1 hk11 hn ht hp (by omega)
   simp only [hp] at this
   exact this
end
structure Wk (st:St):Prop where
 k1:st.wait=1→st.ks≠[]
 k11:st.wait=11→st.ks≠[]
 b1:st.behind≠1
 b11:st.behind≠11
structure Wf (st:St):Prop where
 wk:Wk st
 dig:st.q.place=3→st.q.digits<4
 n:st.n≤3 * st.total
 tot:st.total≤65536
theorem bnd_inr {α β γ:Type} {o:Sum α β} {f:β→Sum α γ} {z:γ} (h:bnd o f=.inr z):∃ y,o=.inr y∧f y=.inr z:=by
 cases o with
 | inl E=>cases h
 | inr y=>exact ⟨y,rfl,h⟩
theorem endW_1 (ks:List Int):endW ks≠1:=by
 unfold endW
 split
 ·decide
 ·split <;> decide
theorem endW_11 {ks:List Int} (h:endW ks=11):ks≠[]:=by
 unfold endW at h
 split at h
 ·cases h
 ·split at h
  ·rename_i h9;exact lastK_ne h9 (by decide)
  ·cases h
section
variable {st x y : St}
theorem wk_endV (b1:st.behind≠1) (b11:st.behind≠11):Wk (endV st):=⟨fun h=>absurd h (endW_1 _),fun h=>endW_11 h,b1,b11⟩
theorem wk_w (a:Nat) (h1:a≠1) (h11:a≠11) (b1:st.behind≠1) (b11:st.behind≠11):Wk {st with wait:=a}:=⟨fun h=>absurd h h1,fun h=>absurd h h11,b1,b11⟩
structure Nx (st x:St) (d:Nat):Prop where
 wk:Wk x
 q:x.q=st.q
 n:x.n≤st.n + d
 tot:x.total=st.total
theorem tell_nx {e:Hd} (h:tellS st e=.inr x):x.n=st.n + 1∧x.ks=st.ks∧x.behind=st.behind∧x.q=st.q∧x.total=st.total:=by
 obtain ⟨a1,a2,_,a4,a5,_,a7⟩:=tellS_n h
 exact ⟨a1,a2,a4,a5,a7⟩
theorem begin_nx {e:Hd} (h:beginS st e=.inr x):x.n=st.n + 1∧x.ks≠[]∧x.behind=st.behind∧x.q=st.q∧x.total=st.total:=by
 unfold beginS at h
 obtain ⟨y,hy,he⟩:=bnd_inr h
 cases he
 obtain ⟨a1,a2,a4,a5,a7⟩:=tell_nx hy
 exact ⟨a1,by simp,a4,a5,a7⟩
theorem end_nx (h:endS st=.inr x):x.n=st.n + 1∧x.behind=st.behind∧x.q=st.q∧x.total=st.total:=by
 unfold endS at h
 obtain ⟨y,hy,he⟩:=bnd_inr h
 cases he
 obtain ⟨a1,a2,a4,a5,a7⟩:=tell_nx hy
 exact ⟨a1,a4,a5,a7⟩
theorem name_nx {s:ByteArray} (h:nameS st s=.inr x):Nx st x 1:=by
 unfold nameS at h
 obtain ⟨y,hy,he⟩:=bnd_inr h
 cases he
 obtain ⟨a1,a2,a4,a5,a7⟩:=tell_nx hy
 exact ⟨⟨(fun h=>by (cases h)),(fun h=>by (cases h)),(by show (0:Nat)≠1;decide),(by show (0:Nat)≠11;decide)⟩,a5,Nat.le_of_eq a1,a7⟩
theorem rec_nx {s:ByteArray} (h:recS st s=.inr x):Nx st x 2:=by
 unfold recS at h
 obtain ⟨y,hy,he⟩:=bnd_inr h
 obtain ⟨a1,a2,a4,a5,a7⟩:=begin_nx hy
 have k:=name_nx he
 exact ⟨k.wk,k.q.trans a5,by have:=k.n;simp only at a1;omega,k.tot.trans a7⟩
theorem first_nx {s:ByteArray} (h:firstS st s=.inr x):Nx st x 2:=by
 rw [firstS_eq] at h
 split at h
 ·cases h;exact ⟨⟨(fun h=>by (cases h)),(fun h=>by (cases h)),by show (6:Nat)≠1;decide,by show (6:Nat)≠11;decide⟩,rfl,Nat.le_add_right _ _,rfl⟩
 split at h
 ·cases h;exact ⟨⟨(fun h=>by (cases h)),(fun h=>by (cases h)),by show (7:Nat)≠1;decide,by show (7:Nat)≠11;decide⟩,rfl,Nat.le_add_right _ _,rfl⟩
 split at h
 ·cases h;exact ⟨⟨(fun h=>by (cases h)),(fun h=>by (cases h)),by show (8:Nat)≠1;decide,by show (8:Nat)≠11;decide⟩,rfl,Nat.le_add_right _ _,rfl⟩
 split at h
 ·split at h
  ·exact rec_nx h
  ·cases h
 ·exact rec_nx h
theorem tellW_nx (hw:Wk st) {e:Hd} {a:Nat} (h1:a≠1) (h11:a≠11) (h:(bnd (tellS st e) fun x=>.inr {x with wait:=a})=.inr x):Nx st x 2:=by
 obtain ⟨y,hy,he⟩:=bnd_inr h
 cases he
 obtain ⟨a1,a2,a4,a5,a7⟩:=tell_nx hy
 exact ⟨wk_w a h1 h11 (by rw [a4];exact hw.b1) (by rw [a4];exact hw.b11),a5,by show y.n≤_;omega,a7⟩
theorem tellV_nx (hw:Wk st) {e:Hd} (h:(bnd (tellS st e) fun x=>.inr (endV x))=.inr x):Nx st x 2:=by
 obtain ⟨y,hy,he⟩:=bnd_inr h
 cases he
 obtain ⟨a1,a2,a4,a5,a7⟩:=tell_nx hy
 exact ⟨wk_endV (by rw [a4];exact hw.b1) (by rw [a4];exact hw.b11),a5,by show y.n≤_;omega,a7⟩
theorem endV_nx (hw:Wk st) (h:(bnd (endS st) fun x=>.inr (endV x))=.inr x):Nx st x 2:=by
 obtain ⟨y,hy,he⟩:=bnd_inr h
 cases he
 obtain ⟨a1,a4,a5,a7⟩:=end_nx hy
 exact ⟨wk_endV (by rw [a4];exact hw.b1) (by rw [a4];exact hw.b11),a5,by show y.n≤_;omega,a7⟩
theorem text_nx (hw:Wk st) {s:ByteArray} (h:textS st s=.inr x):Nx st x 2:=by
 unfold textS at h
 split at h
 ·exact tellV_nx hw h
 split at h
 ·exact first_nx h
 split at h
 ·have:=name_nx h;exact ⟨this.wk,this.q,Nat.le_succ_of_le this.n,this.tot⟩
 split at h
 ·unfold floatS at h
  split at h
  ·exact tellW_nx hw (by decide) (by decide) h
  ·cases h
 split at h
 ·unfold bytesS at h
  split at h
  ·cases h
  ·exact tellW_nx hw (by decide) (by decide) h
 split at h
 ·obtain ⟨y,hy,he⟩:=bnd_inr h
  cases he
  obtain ⟨a1,a2,a4,a5,a7⟩:=begin_nx hy
  exact ⟨wk_w 10 (by decide) (by decide) (by rw [a4];exact hw.b1) (by rw [a4];exact hw.b11),a5,by show y.n≤_;omega,a7⟩
 ·cases h
theorem mark_nx (hw:Wk st) {c:UInt8} (h:markS st c=.inr x):Wk x∧(x.q=st.q∨x.q={st.q with place:=1})∧x.n≤st.n + 2∧x.total=st.total:=by
 have nx:∀ {x:St},Nx st x 2→Wk x∧(x.q=st.q∨x.q={st.q with place:=1})∧x.n≤st.n + 2∧x.total=st.total:=fun k=>⟨k.wk,Or.inl k.q,k.n,k.tot⟩
 unfold markS at h
 split at h
 ·cases h;exact ⟨⟨hw.k1,hw.k11,hw.b1,hw.b11⟩,Or.inr rfl,Nat.le_add_right _ _,rfl⟩
 split at h
 ·unfold openL at h
  split at h
  ·obtain ⟨y,hy,he⟩:=bnd_inr h
   cases he
   obtain ⟨a1,a2,a4,a5,a7⟩:=begin_nx hy
   exact ⟨⟨fun _=>a2,fun _=>a2,by show y.behind≠1;rw [a4];exact hw.b1,by show y.behind≠11;rw [a4];exact hw.b11⟩,Or.inl a5,by show y.n≤_;omega,a7⟩
  split at h
  ·cases h;exact ⟨wk_w 9 (by decide) (by decide) hw.b1 hw.b11,Or.inl rfl,Nat.le_add_right _ _,rfl⟩
  ·cases h
 split at h
 ·unfold closeL at h
  split at h
  ·exact nx (endV_nx hw h)
  split at h
  ·obtain ⟨y,hy,he⟩:=bnd_inr h
   cases he
   obtain ⟨a1,a4,a5,a7⟩:=end_nx hy
   exact ⟨wk_w 12 (by decide) (by decide) (by rw [a4];exact hw.b1) (by rw [a4];exact hw.b11),Or.inl a5,by show y.n≤_;omega,a7⟩
  ·cases h
 split at h
 ·unfold openO at h
  split at h
  ·cases h;exact ⟨wk_w 3 (by decide) (by decide) hw.b1 hw.b11,Or.inl rfl,Nat.le_add_right _ _,rfl⟩
  ·cases h
 split at h
 ·unfold closeO at h
  split at h
  ·obtain ⟨y,hy,he⟩:=bnd_inr h
   obtain ⟨z,hz,he⟩:=bnd_inr he
   cases he
   obtain ⟨a1,a2,a4,a5,a7⟩:=begin_nx hy
   obtain ⟨c1,c4,c5,c7⟩:=end_nx hz
   exact ⟨wk_endV (by rw [c4,a4];exact hw.b1) (by rw [c4,a4];exact hw.b11),Or.inl (c5.trans a5),by show z.n≤_;omega,c7.trans a7⟩
  split at h
  ·exact nx (endV_nx hw h)
  split at h
  ·cases h;exact ⟨wk_endV hw.b1 hw.b11,Or.inl rfl,Nat.le_add_right _ _,rfl⟩
  ·cases h
 split at h
 ·unfold commaS at h
  split at h
  ·cases h;exact ⟨wk_w 4 (by decide) (by decide) hw.b1 hw.b11,Or.inl rfl,Nat.le_add_right _ _,rfl⟩
  split at h
  ·cases h;exact ⟨wk_w 0 (by decide) (by decide) hw.b1 hw.b11,Or.inl rfl,Nat.le_add_right _ _,rfl⟩
  ·cases h
 split at h
 ·unfold colonS at h
  split at h
  ·cases h;exact ⟨wk_w st.behind hw.b1 hw.b11 hw.b1 hw.b11,Or.inl rfl,Nat.le_add_right _ _,rfl⟩
  ·cases h
 ·cases h;exact ⟨hw,Or.inl rfl,Nat.le_add_right _ _,rfl⟩
theorem takeQ_dig {q:Qa} {c:UInt8} {z:Value×Qa} (hd:q.place=3→q.digits<4) (h:takeQ q c=.inr z):z.2.place=3→z.2.digits<4:=by
 unfold takeQ at h
 split at h
 ·unfold uescQ at h
  split at h
  ·simp only [retQ] at h;cases h;intro _;show (0:Nat)<4;decide
  split at h
  ·cases h
  split at h
  ·cases h
  split at h
  ·simp only [retQ] at h;cases h;intro h;cases h
  ·cases h
 split at h
 ·rename_i hp
  have hd:=hd hp
  unfold digQ at h
  split at h
  ·cases h
  ·simp only at h
   split at h
   ·split at h
    ·cases h
    ·simp only [retQ] at h;cases h;intro h;cases h
   ·simp only [retQ] at h;cases h;intro _;show q.digits + 1<4;omega
 ·rename_i h2 h3
  unfold plainQ at h
  split at h
  ·cases h;intro h;cases h
  split at h
  ·cases h
  split at h
  ·cases h;exact fun h=>absurd h h3
  split at h
  ·cases h;exact fun h=>absurd h h3
  ·cases h
theorem takeS_wf (hw:Wf st) {c:UInt8} (h:takeS st c=.inr x):Wf x:=by
 unfold takeS at h
 obtain ⟨s2,h2,hg⟩:=bnd_inr h
 have k2:s2.n=st.n∧s2.ks=st.ks∧s2.wait=st.wait∧s2.q=st.q∧s2.behind=st.behind∧s2.total=st.total + 1∧st.total + 1≤65536:=by
  split at h2
  ·rename_i ho
   unfold passS at h2
   split at h2
   ·cases h2
   ·rename_i h16
    cases h2
    simp only at h16
    exact ⟨rfl,rfl,rfl,rfl,rfl,rfl,by omega⟩
  ·rename_i ho
   cases h2
   exact ⟨rfl,rfl,rfl,rfl,rfl,rfl,by have:=mt Or.inr ho;omega⟩
 obtain ⟨a1,a2,a3,a4,a5,a6,a7⟩:=k2
 have wk2:Wk s2:=⟨by rw [a3,a2];exact hw.wk.k1,by rw [a3,a2];exact hw.wk.k11,by rw [a5];exact hw.wk.b1,by rw [a5];exact hw.wk.b11⟩
 have hn:=hw.n
 unfold goS at hg
 split at hg
 ·unfold quoS at hg
  obtain ⟨z,hz,he⟩:=bnd_inr hg
  have hdz:=takeQ_dig (by rw [a4];exact hw.dig) hz
  split at he
  ·obtain ⟨u,hu,he⟩:=bnd_inr he
   have k:=text_nx (st:={s2 with q:=q0}) ⟨wk2.k1,wk2.k11,wk2.b1,wk2.b11⟩ he
   refine ⟨k.wk,by (rw [k.q];intro h;cases h),?_,?_⟩
   ·have:=k.n;rw [k.tot];show x.n≤3 * s2.total;simp only at this;omega
   ·rw [k.tot];show s2.total≤_;omega
  ·cases he
   exact ⟨⟨wk2.k1,wk2.k11,wk2.b1,wk2.b11⟩,hdz,by show s2.n≤3 * s2.total;omega,by show s2.total≤_;omega⟩
 ·split at hg
  ·obtain ⟨z,hz,he⟩:=bnd_inr hg
   obtain ⟨e1,e2,e3,e4,e5,e6⟩:=facts_endWordS hz wk2.k1 wk2.k11
   obtain ⟨m1,m2,m3,m4⟩:=mark_nx ⟨e2,e3,by rw [e5];exact wk2.b1,by rw [e5];exact wk2.b11⟩ he
   refine ⟨m1,?_,by rw [m4,e6];omega,by rw [m4,e6];omega⟩
   rcases m2 with m2|m2
   ·rw [m2,e4,a4];exact hw.dig
   ·rw [m2];intro h;cases h
  ·unfold holdS at hg
   split at hg
   ·cases hg
   ·cases hg
    exact ⟨⟨wk2.k1,wk2.k11,wk2.b1,wk2.b11⟩,by show s2.q.place=3→_;rw [a4];exact hw.dig,by show s2.n≤3 * s2.total;omega,by show s2.total≤_;omega⟩
theorem st0_wf:Wf st0:=⟨⟨(fun h=>by (cases h)),(fun h=>by (cases h)),by decide,by decide⟩,(fun h=>by (cases h)),by decide,by decide⟩
def feedS (st:St):List UInt8→Sum Int St
 | []=>.inr st
 | c :: l=>bnd (takeS st c) fun x=>feedS x l
theorem feedS_snoc (st:St) (l:List UInt8) (c:UInt8):feedS st (l++[c])=bnd (feedS st l) fun x=>takeS x c:=by
 induction l generalizing st with
 | nil =>
  show bnd (takeS st c) (fun x=>.inr x)=takeS st c
  cases takeS st c <;> rfl
 | cons a l ih =>
  simp only [List.cons_append,feedS]
  cases takeS st a with
  | inl E=>rfl
  | inr y=>exact ih y
theorem feedS_app (st:St) (a b:List UInt8):feedS st (a++b)=bnd (feedS st a) fun x=>feedS x b:=by
 induction a generalizing st with
 | nil=>rfl
 | cons c l ih =>
  simp only [List.cons_append,feedS]
  cases takeS st c with
  | inl E=>rfl
  | inr y=>exact ih y
theorem feedS_wf (hw:Wf st):∀ {l:List UInt8} {x:St},feedS st l=.inr x→Wf x:=by
 intro l
 induction l generalizing st with
 | nil=>intro x h;cases h;exact hw
 | cons c l ih =>
  intro x h
  simp only [feedS] at h
  obtain ⟨y,hy,he⟩:=bnd_inr h
  exact ih (takeS_wf hw hy) he
end
structure SB (W:World) (lo:Nat) (m:Mv) (v:Value) (l:List UInt8):Prop where
 shape:∃ a c,v=.slice a l.length c
 len:l.length≤281474976710656
 rd:0<l.length→∃ b o c,v=.slice (some ⟨b,o,none⟩) l.length c∧(∀ j (h:j<l.length),W.cell? ⟨b,o + j,none⟩=some (.int .u8 l[j].toNat))∧(b<lo∨(NoB m b∧∃ c f,W.heap[b]?=some (.cells c 5 f)))
section
variable {W W1 W2 : World} {r : Nat} {g : Gv} {m m1 : Mv} {st : St}
theorem RF.blk (h:RF g m W W1) {k T:Nat} {c:Array Value} {f:Nat×Nat} (hk:W.heap[k]?=some (.cells c T f)) (n:NoB m k) (t1:T≠69) (t2:T≠92) (t3:T≠115) (t4:T≠95) (t5:T≠156) (t6:T≠72):W1.heap[k]?=some (.cells c T f) :=
 h.keep k c T f hk t1 t2 t3 t4 t5 t6 n.1 n.2.1 n.2.2
theorem SB.move {v:Value} {l:List UInt8} (h:SB W g.lo m v l) (hf:RF g m W W1) (ho:OM W m m1):SB W1 g.lo m1 v l:=by
 refine ⟨h.shape,h.len,fun hl=>?_⟩
 obtain ⟨b,o,c,h1,h2,h3⟩:=h.rd hl
 have hb:W1.heap[b]?=W.heap[b]?:=by
  rcases h3 with h3|⟨h3,c',f,h4⟩
  ·exact hf.below.block b h3
  ·rw [hf.blk h4 h3 (by decide) (by decide) (by decide) (by decide) (by decide) (by decide),h4]
 refine ⟨b,o,c,h1,fun j hj=>?_,?_⟩
 ·rw [←h2 j hj]
  exact World.cell?_of_block (w:=W) hb
 ·rcases h3 with h3|⟨h3,c',f,h4⟩
  ·exact Or.inl h3
  ·exact Or.inr ⟨h3.om ho (Array.getElem?_eq_some_iff.1 h4).1,c',f,hb.trans h4⟩
def Bo (W:World) (m:Mv) (k:Nat) (v:Value) (T:TypeId):Prop:=W.heap[k]?=some (.cells #[v] T (0,0))∧NoB m k
theorem Bo.move {k T:Nat} {v:Value} (h:Bo W m k v T) (hf:RF g m W W1) (ho:OM W m m1) (t1:T≠69) (t2:T≠92) (t3:T≠115) (t4:T≠95) (t5:T≠156) (t6:T≠72):Bo W1 m1 k v T :=
 ⟨hf.blk h.1 h.2 t1 t2 t3 t4 t5 t6,h.2.om ho (Array.getElem?_eq_some_iff.1 h.1).1⟩
theorem Bo.cell {k T:Nat} {v:Value} (h:Bo W m k v T):W.cell? ⟨k,0,none⟩=some v:=by simp [World.cell?,h.1]
theorem Bo.frz {k T:Nat} {v:Value} (h:Bo W m k v T):W.frozen? ⟨k,0,none⟩=false:=by simp [World.frozen?,h.1]
set_option maxRecDepth 100000 in
theorem feed1_r (h:RM W r g m st) (hw:Wf st) {p q:Nat} {v:Value} {l:List UInt8} (hp:Bo W m p v 32) (hq:Bo W m q (.pointer (some ⟨r,0,none⟩)) 43) (hs:SB W g.lo m v l) :
  Calls Tryz.prog 31 #[.pointer (some ⟨p,0,none⟩),.pointer (some ⟨q,0,none⟩)] W fun e w'=>RP W r g m (feedS st l) e w':=by
 have ml:maxLen=9223372036854775807:=rfl
 obtain ⟨va,vc,hv⟩:=hs.shape
 have H:=hide h
 have P:=hide hp
 have Q:=hide hq
 have S:=hide hs
 have cp:=hp.cell
 have cq:=hq.cell
 have hl:=hs.len
 rw [hv] at cp
 clear h hp hq hs
 go_enter Tryz.func31, Tryz.ntmps31
 go_wp2
 go_loopw [6] (fun i wr=>∃ (k:Nat) (mk:Mv) (sk:St),k≤l.length∧i=.int .i64 k∧Hid (feedS st (l.take k)=.inr sk)∧Hid (RM wr r g mk sk)∧Hid (RF g m W wr)∧Hid (OM W m mk)) (fun i _=>l.length - (intOf i).toNat)
 case atStart=>exact ⟨0,m,st,by omega,rfl,rfl,H.out,RF.refl,OM.refl _ _⟩
 case round =>
  obtain ⟨k,mk,sk,hk,rfl,hf,hm,hF,hO⟩:=hrel
  have wk:=feedS_wf hw hf.out
  have Pk:=P.out.move hF.out hO.out (by decide) (by decide) (by decide) (by decide) (by decide) (by decide)
  have Qk:=Q.out.move hF.out hO.out (by decide) (by decide) (by decide) (by decide) (by decide) (by decide)
  have Sk:=S.out.move hF.out hO.out
  have kp:=Pk.cell
  have kq:=Qk.cell
  rw [hv] at kp
  clear cp cq Pk Qk
  by_cases hlt:k<l.length
  ·obtain ⟨b,o,c,s1,s2,_⟩:=Sk.rd (by omega)
   rw [hv] at s1
   cases s1
   have hc:=s2 k hlt
   have hlt':(k:Int)<l.length:=by omega
   have TK:=hide (take_r hm.out l[k] wk.dig wk.wk.k1 wk.wk.k11 (by have:=wk.n;have:=wk.tot;omega) (by have:=wk.tot;omega))
   have hsn:Hid (feedS st (l.take (k + 1))=takeS sk l[k]):=by
    show _=_
    rw [List.take_succ_eq_append_getElem hlt,feedS_snoc,hf.out];rfl
   have hwhole:Hid (∀ E,takeS sk l[k]=.inl E→feedS st l=.inl E):=fun E hE=>by
    rw [←List.take_append_drop (k + 1) l,feedS_app,hsn.out,hE];rfl
   obtain ⟨ch,hch⟩:∃ ch,l[k]=ch:=⟨_,rfl⟩
   rw [hch] at TK hsn hwhole hc
   clear hch s2 Sk wk
   cases ht:takeS sk ch with
   | inl E =>
    rw [ht] at TK
    have hE:=hide (hwhole.out E ht)
    clear hwhole hsn ht
    go_wp2_with (go_at_call 32;refine TK.out.mono ?_;rintro q w1 ⟨hp1,rfl,hp2⟩;have F1:=hide hp1;have M1:=hide hp2;clear hp1 hp2)
    refine ⟨rfl,?_⟩
    show RP W r g m (feedS st l) _ _
    rw [hE.out]
    exact RP.trans hF.out hO.out ⟨F1.out,rfl,M1.out⟩
   | inr x =>
    rw [ht] at TK hsn
    clear hwhole ht
    go_wp2_with (go_at_call 32;refine TK.out.mono ?_;rintro q w1 ⟨hp1,rfl,m1,hp2,hp3⟩;have F1:=hide hp1;have M1:=hide hp2;have O1:=hide hp3;clear hp1 hp2 hp3)
    refine ⟨⟨k + 1,m1,x,by omega,by go_num,hsn.out,M1.out,hF.out.trans hO.out F1.out,hO.out.trans O1.out hF.out.below.size⟩,by simp [intOf];omega⟩
  ·have hke:k=l.length:=by omega
   have hff:=hf.out
   rw [hke,List.take_length] at hff
   have hff':=hide hff
   have hge:decide ((k:Int)<(l.length:Int))=false:=by simp;omega
   clear hff Sk wk
   go_wp2
   go_end0
   show RP W r g m (feedS st l) _ _
   rw [hff'.out]
   exact ⟨hF.out,rfl,mk,hm.out,hO.out⟩
end
def deadC (E:Int):Array Value:=#[.int .i64 E,.int .i64 0,.bool false,.slice none 0 0,.int .i64 0,.slice none 0 0,.int .i64 0,.int .i64 0,.int .i64 0,.int .i64 0,.int .i64 0,.slice none 0 0,.pointer none,.pointer none,.slice none 0 0]
def RdE (W:World) (r:Nat) (E:Int):Prop:=W.heap[r]?=some (.cells (deadC E) 69 (0,0))
def dead15 (w:World) (r:Nat) (E:Int):World:=((((((((((((((w.setCell ⟨r,0,none⟩ (.int .i64 E)).setCell ⟨r,1,none⟩ (.int .i64 0)).setCell ⟨r,2,none⟩ (.bool false)).setCell ⟨r,3,none⟩ (.slice none 0 0)).setCell ⟨r,4,none⟩ (.int .i64 0)).setCell ⟨r,5,none⟩ (.slice none 0 0)).setCell ⟨r,6,none⟩ (.int .i64 0)).setCell ⟨r,7,none⟩ (.int .i64 0)).setCell ⟨r,8,none⟩ (.int .i64 0)).setCell ⟨r,9,none⟩ (.int .i64 0)).setCell ⟨r,10,none⟩ (.int .i64 0)).setCell ⟨r,11,none⟩ (.slice none 0 0)).setCell ⟨r,12,none⟩ (.pointer none)).setCell ⟨r,13,none⟩ (.pointer none)).setCell ⟨r,14,none⟩ (.slice none 0 0)
theorem dead_but (w:World) (r:Nat) (E:Int):But r w (dead15 w r E) :=
 (((((((((((((((But.refl r w).set 0 _).set 1 _).set 2 _).set 3 _).set 4 _).set 5 _).set 6 _).set 7 _).set 8 _).set 9 _).set 10 _).set 11 _).set 12 _).set 13 _).set 14 _
theorem dead_rd {w:World} {r:Nat} {s:Rv} (h:RdB w r s) (E:Int):RdE (dead15 w r E) r E:=by
 unfold RdB at h
 have h0:=blk_set h 0 (.int .i64 E)
 have h1:=blk_set h0 1 (.int .i64 0)
 have h2:=blk_set h1 2 (.bool false)
 have h3:=blk_set h2 3 (.slice none 0 0)
 have h4:=blk_set h3 4 (.int .i64 0)
 have h5:=blk_set h4 5 (.slice none 0 0)
 have h6:=blk_set h5 6 (.int .i64 0)
 have h7:=blk_set h6 7 (.int .i64 0)
 have h8:=blk_set h7 8 (.int .i64 0)
 have h9:=blk_set h8 9 (.int .i64 0)
 have h10:=blk_set h9 10 (.int .i64 0)
 have h11:=blk_set h10 11 (.slice none 0 0)
 have h12:=blk_set h11 12 (.pointer none)
 have h13:=blk_set h12 13 (.pointer none)
 have h14:=blk_set h13 14 (.slice none 0 0)
 unfold RdE dead15
 rw [h14]
 simp [Rv.cells,deadC]
set_option maxRecDepth 100000 in
theorem acatch_idle (p q s:Addr) (w:World) :
  CallsD Tryz.prog 58 #[.pointer (some p),.pointer (some q),.pointer (some s)] .returning w fun e u' w'=>e=.returned (.tuple #[])∧u'=.returning∧w'=w:=by
 refine callsD_of_wpS Tryz.func58 rfl fun c₀ cs hu=>?_
 apply wpS_seq
 apply wpS_region
 simp [wpOpsS,go_sem,recoverD,hu,Tryz.ntmps58,Exit.thenS,ta_nil]
 apply wpS_seq
 apply wpS_region
 simp [wpOpsS,go_sem,Exit.thenS,Array.replicate]
 refine wpS_cond (t:=false) (by simp [Act.eval,Array.replicate]) ?_
 simp only [Bool.false_eq_true,if_false]
 refine wpS_of_wp (wp_skip ?_)
 cases c₀
 simp_all [bodyPostS,results,Tryz.results58]
set_option maxRecDepth 100000 in
theorem acatch_pan (p q t r:Nat) (s:Rv) (x:Int) (v:Value) (older:List PanicEntry) (w:World) (hp:w.cell? ⟨p,0,none⟩=some (.pointer (some ⟨r,0,none⟩))) (hr:RdB w r s) (hq:w.cell? ⟨q,0,none⟩=some v) (zq:w.frozen? ⟨q,0,none⟩=false) (ht:w.cell? ⟨t,0,none⟩=some (.int .i64 x)) (zt:w.frozen? ⟨t,0,none⟩=false) (hqt:q≠t) (hrq:r≠q) (hrt:r≠t) (E:Int) :
  CallsD Tryz.prog 58 #[.pointer (some ⟨p,0,none⟩),.pointer (some ⟨q,0,none⟩),.pointer (some ⟨t,0,none⟩)] (.panicking ({v:=.iface 33 (.int .i64 E),recovered:=false} :: older)) w fun e u' w' =>
   e=.returned (.tuple #[])∧u'=.panicking ({v:=.iface 33 (.int .i64 E),recovered:=true} :: older)∧w'=((dead15 w r E).setCell ⟨q,0,none⟩ (.slice none 0 0)).setCell ⟨t,0,none⟩ (.int .i64 E):=by
 have fr:=hr.frz
 have c0:=(hr.cell 0).trans rfl
 have c1:=(hr.cell 1).trans rfl
 have c2:=(hr.cell 2).trans rfl
 have c3:=(hr.cell 3).trans rfl
 have c4:=(hr.cell 4).trans rfl
 have c5:=(hr.cell 5).trans rfl
 have c6:=(hr.cell 6).trans rfl
 have c7:=(hr.cell 7).trans rfl
 have c8:=(hr.cell 8).trans rfl
 have c9:=(hr.cell 9).trans rfl
 have c10:=(hr.cell 10).trans rfl
 have c11:=(hr.cell 11).trans rfl
 have c12:=(hr.cell 12).trans rfl
 have c13:=(hr.cell 13).trans rfl
 have c14:=(hr.cell 14).trans rfl
 simp only [Rv.cells,List.getElem?_toArray,List.getElem?_cons_zero,List.getElem?_cons_succ] at c0 c1 c2 c3 c4 c5 c6 c7 c8 c9 c10 c11 c12 c13 c14
 have bb:=dead_but w r E
 obtain ⟨D,hD⟩:∃ D,dead15 w r E=D:=⟨_,rfl⟩
 rw [hD] at bb ⊢
 have kq:D.cell? ⟨q,0,none⟩=some v:=(World.cell?_of_block (w:=w) (bb.blk q (Ne.symm hrq))).trans hq
 have zq':D.frozen? ⟨q,0,none⟩=false:=(World.frozen?_of_block (w:=w) (bb.blk q (Ne.symm hrq))).trans zq
 have kt:(D.setCell ⟨q,0,none⟩ (.slice none 0 0)).cell? ⟨t,0,none⟩=some (.int .i64 x):=(World.cell?_of_block (w:=D) (Below.heap_setCell _ _ _ _ (Ne.symm hqt))).trans ((World.cell?_of_block (w:=w) (bb.blk t (Ne.symm hrt))).trans ht)
 have zt':(D.setCell ⟨q,0,none⟩ (.slice none 0 0)).frozen? ⟨t,0,none⟩=false:=(World.frozen?_of_block (w:=D) (Below.heap_setCell _ _ _ _ (Ne.symm hqt))).trans ((World.frozen?_of_block (w:=w) (bb.blk t (Ne.symm hrt))).trans zt)
 simp only [dead15] at hD
 clear bb hr
 refine callsD_of_wpS Tryz.func58 rfl fun c₀ cs hu=>?_
 apply wpS_seq
 apply wpS_region
 simp [wpOpsS,go_sem,recoverD,hu,Tryz.ntmps58,Exit.thenS,ta_err]
 apply wpS_seq
 apply wpS_region
 simp [wpOpsS,go_sem,Exit.thenS,Array.replicate]
 refine wpS_cond (t:=true) (by simp [Act.eval,Array.replicate]) ?_
 simp only [if_true]
 apply wpS_seq
 apply wpS_region
 simp [wpOpsS,go_sem,Exit.thenS,hp,fr,c0,c1,c2,c3,c4,c5,c6,c7,c8,c9,c10,c11,c12,c13,c14,hD]
 apply wpS_region
 simp [wpOpsS,go_sem,kq,zq',kt,zt',bodyPostS,results,Tryz.results58]
end Go.Proofs.YtpimjkdakjhoaaaGreatDoor
