/- Merged by program: KvTake, KvTakeA. -/
import Derived.Test.YtpimjkdakjhoaaaGreatDoorZw40
namespace Go.Proofs.YtpimjkdakjhoaaaGreatDoor
open Go.RowKit
set_option linter.unusedSimpArgs false
set_option linter.unusedVariables false
set_option maxHeartbeats 8000000
def mkE:ByteArray:=⟨#[32,9,10,13,91,93,123,125,44,58,34]⟩
set_option maxRecDepth 100000 in
theorem mk_idx_n:∀ n,n<256→decide (firstIdx mkE n.toUInt8<0)=!isMk n.toUInt8:=by decide +kernel
theorem mk_idx (c:UInt8):decide (firstIdx mkE ((c.toNat:Int).toNat.toUInt8)<0)=!isMk c:=by
 have h:=mk_idx_n c.toNat c.toNat_lt
 have e:c.toNat.toUInt8=c:=by simp
 rw [Int.toNat_natCast,h,e]
theorem retQ_bool {o:Sum Int (Value×Qa)} {x:Value×Qa} (h:retQ o=.inr x):x.1=.bool false:=by
 unfold retQ at h
 split at h
 ·cases h
 ·cases h;rfl
theorem takeQ_bool {q:Qa} {c:UInt8} {x:Value×Qa} (h:takeQ q c=.inr x):x.1=.bool true∨x.1=.bool false:=by
 unfold takeQ at h
 split at h
 ·exact Or.inr (retQ_bool h)
 split at h
 ·exact Or.inr (retQ_bool h)
 unfold plainQ at h
 split at h
 ·cases h;exact Or.inr rfl
 split at h
 ·cases h
 split at h
 ·cases h;exact Or.inl rfl
 split at h
 ·cases h;exact Or.inr rfl
 ·cases h
theorem facts_passS {st x:St} (h:passS st=.inr x):x.n=st.n∧x.ks=st.ks∧x.wait=st.wait∧x.q=st.q∧x.word=st.word∧x.behind=st.behind∧x.total=st.total:=by
 unfold passS at h
 split at h
 ·cases h
 ·cases h;exact ⟨rfl,rfl,rfl,rfl,rfl,rfl,rfl⟩
section
variable {W W1 W2 : World} {r : Nat} {g : Gv} {m : Mv} {st : St}
set_option maxRecDepth 100000 in
theorem take_c (h:RM W r g m st) (c:UInt8) (hd:st.q.place=3→st.q.digits<4) (hk1:st.wait=1→st.ks≠[]) (hk11:st.wait=11→st.ks≠[]) (hn:st.n≤199900) (ht:st.total≤1000000) (hp:st.passed=false) (hb:st.total + 1≤65536):Calls Tryz.prog 32 #[.pointer (some ⟨r,0,none⟩),.int .u8 c.toNat] W fun q w'=>RP W r g m (goS {st with total:=st.total + 1} c) q w':=by
 have H:=hide h
 have c1:W.cell? ⟨r,1,none⟩=some (.int .i64 st.total):=(h.rd.cell 1).trans rfl
 have f1:W.frozen? ⟨r,1,none⟩=false:=h.rd.frz 1
 have c2:W.cell? ⟨r,2,none⟩=some (.bool st.passed):=(h.rd.cell 2).trans rfl
 have c4:W.cell? ⟨r,4,none⟩=some (.int .i64 st.q.place):=(h.rd.cell 4).trans rfl
 have hw:IntKind.i64.wrap ((st.total:Int) + 1)=(st.total:Int) + 1:=by rw [IntKind.wrap_i64] <;> omega
 have M0:=hide h.w1
 have F0:=hide (RF.w1 h)
 clear h
 have hlt:decide ((65536:Int)<(st.total:Int) + 1)=false:=by simp;omega
 rw [hp] at c2
 clear hp hb ht
 obtain ⟨s2,hs2⟩:∃ s2,({st with total:=st.total + 1}:St)=s2:=⟨_,rfl⟩
 rw [hs2] at M0 ⊢
 have hq:s2.q=st.q:=by rw [←hs2]
 have hnn:s2.n=st.n:=by rw [←hs2]
 have hww:s2.wait=st.wait:=by rw [←hs2]
 have hkk:s2.ks=st.ks:=by rw [←hs2]
 clear hs2
 have M1:=M0
 have F1:=F0
 have O1:Hid (OM W m m):=OM.refl _ _
 unfold goS
 by_cases hp0:s2.q.place=0
 ·rw [if_neg (fun o=>o hp0)]
  have k4:W.cell? ⟨r,4,none⟩=some (.int .i64 0):=by rw [c4,←hq,hp0];rfl
  clear c4
  obtain ⟨xi,SA,hxi⟩:∃ xi:Int,Hid (∀ w,Calls Tryz.prog 63 #[.string ⟨#[32,9,10,13,91,93,123,125,44,58,34]⟩,.int .u8 c.toNat] w fun r w'=>r=.returned (.int .i64 xi)∧w'=w)∧decide (xi<0)=!isMk c:=⟨_,fun w=>sib_any mkE (c.toNat:Int) w,mk_idx c⟩
  cases hm:isMk c with
  | false =>
   rw [hm] at hxi
   simp only [Bool.not_false,Bool.false_eq_true,if_false] at hxi ⊢
   have C2:=hide (fun w m (h1:RM w r g m s2)=>holdWord_r h1 c)
   clear hm hd hk1 hk11 hn hq hnn hww hkk
   cases hq2:holdS s2 c with
   | inl E =>
    rw [hq2] at C2
    clear hq2
    go_enter Tryz.func32, Tryz.ntmps32
    go_wp2_with (first
     | (go_at_call 63;refine (SA.out _).mono ?_;rintro e w0 ⟨rfl,hw0⟩;have hws:=hw0.symm;clear hw0;subst hws)
     | (go_at_call 64;refine (C2.out _ _ M1.out).mono ?_;rintro q w2 ⟨hp1,rfl,hp2⟩;have F2:=hide hp1;have M2:=hide hp2;clear hp1 hp2))
    exact ⟨rfl,RP.trans F1.out O1.out (⟨F2.out,rfl,M2.out⟩)⟩
   | inr x =>
    rw [hq2] at C2
    clear hq2
    go_enter Tryz.func32, Tryz.ntmps32
    go_wp2_with (first
     | (go_at_call 63;refine (SA.out _).mono ?_;rintro e w0 ⟨rfl,hw0⟩;have hws:=hw0.symm;clear hw0;subst hws)
     | (go_at_call 64;refine (C2.out _ _ M1.out).mono ?_;rintro q w2 ⟨hp1,rfl,m2,hp2,hp3⟩;have F2:=hide hp1;have M2:=hide hp2;have O2:=hide hp3;clear hp1 hp2 hp3))
    go_end0
    exact RP.trans F1.out O1.out (⟨F2.out,rfl,m2,M2.out,O2.out⟩)
  | true =>
   rw [hm] at hxi
   simp only [Bool.not_true,if_true] at hxi ⊢
   have C2:=hide (fun w m (h1:RM w r g m s2)=>endWord_r h1 (by omega))
   cases hq2:endWordS s2 with
   | inl E =>
    rw [hq2] at C2
    clear hq2 hm hd hk1 hk11 hn hq hnn hww hkk
    simp only [bnd]
    go_enter Tryz.func32, Tryz.ntmps32
    go_wp2_with (first
     | (go_at_call 63;refine (SA.out _).mono ?_;rintro e w0 ⟨rfl,hw0⟩;have hws:=hw0.symm;clear hw0;subst hws)
     | (go_at_call 65;refine (C2.out _ _ M1.out).mono ?_;rintro q w2 ⟨hp1,rfl,hp2⟩;have F2:=hide hp1;have M2:=hide hp2;clear hp1 hp2))
    exact ⟨rfl,RP.trans F1.out O1.out (⟨F2.out,rfl,M2.out⟩)⟩
   | inr x2 =>
    rw [hq2] at C2
    obtain ⟨k1,k2,k3,_⟩:=facts_endWordS hq2 (by rw [hww,hkk];exact hk1) (by rw [hww,hkk];exact hk11)
    simp only [bnd]
    have C3:=hide (fun w m (h1:RM w r g m x2)=>takeMark_r h1 c k2 k3 (by omega))
    clear hq2 hm hd hk1 hk11 hn hq hnn hww hkk k1 k2 k3
    cases hq3:markS x2 c with
    | inl E =>
     rw [hq3] at C3
     clear hq3
     go_enter Tryz.func32, Tryz.ntmps32
     go_wp2_with (first
      | (go_at_call 63;refine (SA.out _).mono ?_;rintro e w0 ⟨rfl,hw0⟩;have hws:=hw0.symm;clear hw0;subst hws)
      | (go_at_call 65;refine (C2.out _ _ M1.out).mono ?_;rintro q w2 ⟨hp1,rfl,m2,hp2,hp3⟩;have F2:=hide hp1;have M2:=hide hp2;have O2:=hide hp3;clear hp1 hp2 hp3)
      | (go_at_call 66;refine (C3.out _ _ M2.out).mono ?_;rintro q w3 ⟨hp1,rfl,hp2⟩;have F3:=hide hp1;have M3:=hide hp2;clear hp1 hp2))
     exact ⟨rfl,RP.trans F1.out O1.out (RP.trans F2.out O2.out (⟨F3.out,rfl,M3.out⟩))⟩
    | inr x3 =>
     rw [hq3] at C3
     clear hq3
     go_enter Tryz.func32, Tryz.ntmps32
     go_wp2_with (first
      | (go_at_call 63;refine (SA.out _).mono ?_;rintro e w0 ⟨rfl,hw0⟩;have hws:=hw0.symm;clear hw0;subst hws)
      | (go_at_call 65;refine (C2.out _ _ M1.out).mono ?_;rintro q w2 ⟨hp1,rfl,m2,hp2,hp3⟩;have F2:=hide hp1;have M2:=hide hp2;have O2:=hide hp3;clear hp1 hp2 hp3)
      | (go_at_call 66;refine (C3.out _ _ M2.out).mono ?_;rintro q w3 ⟨hp1,rfl,m3,hp2,hp3⟩;have F3:=hide hp1;have M3:=hide hp2;have O3:=hide hp3;clear hp1 hp2 hp3))
     go_end0
     exact RP.trans F1.out O1.out (RP.trans F2.out O2.out (⟨F3.out,rfl,m3,M3.out,O3.out⟩))
 ·rw [if_pos hp0]
  have ep:((s2.q.place:Int) != 0)=true:=by simp;omega
  have ep2:((s2.q.place:Int)==0)=false:=by simp;omega
  have k4:W.cell? ⟨r,4,none⟩=some (.int .i64 s2.q.place):=by rw [c4,hq]
  clear c4
  unfold quoS
  have C2:=hide (fun w m (h1:RM w r g m s2)=>qtake_r h1 (by rw [hq];exact hd) c)
  cases hq2:takeQ s2.q c with
  | inl E =>
   rw [hq2] at C2
   clear hq2 hd hk1 hk11 hn hq hnn hww hkk
   simp only [bnd]
   go_enter Tryz.func32, Tryz.ntmps32
   go_wp2_with (go_at_call 60;refine (C2.out _ _ M1.out).mono ?_;rintro q w2 ⟨hp1,rfl,hp2⟩;have F2:=hide hp1;have M2:=hide hp2;clear hp1 hp2)
   exact ⟨rfl,RP.trans F1.out O1.out (⟨F2.out,rfl,M2.out⟩)⟩
  | inr x2 =>
   rw [hq2] at C2
   have hb:=takeQ_bool hq2
   clear hq2
   obtain ⟨v2,q2⟩:=x2
   simp only [bnd] at hb ⊢
   rcases hb with rfl|rfl
   ·simp only
    have C3:=hide (fun w m (h1:RM w r g m {s2 with q:=q2})=>qtext_r h1)
    simp only [textQ] at C3 ⊢
    cases hok:Ut.okT (Ut.bl (mkB q2.held)) with
    | false =>
     rw [hok] at C3
     simp only [Bool.false_eq_true,if_false] at C3 ⊢
     clear hok hd hk1 hk11 hn hq hnn hww hkk
     go_enter Tryz.func32, Tryz.ntmps32
     go_wp2_with (first
      | (go_at_call 60;refine (C2.out _ _ M1.out).mono ?_;rintro q w2 ⟨hp1,rfl,m2,hp2,hp3⟩;have F2:=hide hp1;have M2:=hide hp2;have O2:=hide hp3;clear hp1 hp2 hp3)
      | (go_at_call 61;refine (C3.out _ _ M2.out).mono ?_;rintro q w3 ⟨hp1,rfl,hp2⟩;have F3:=hide hp1;have M3:=hide hp2;clear hp1 hp2))
     exact ⟨rfl,RP.trans F1.out O1.out (RP.trans F2.out O2.out (⟨F3.out,rfl,M3.out⟩))⟩
    | true =>
     rw [hok] at C3
     simp only [if_true] at C3 ⊢
     have C4:=hide (fun w m (h1:RM w r g m {s2 with q:=q0}) (hl:q2.held.length≤8192)=>takeText_r h1 (mkB q2.held) (by rw [←bl_length,bl_mkB];omega) (show s2.n≤199980 by omega))
     clear hok hd hk1 hk11 hn hq hnn hww hkk
     obtain ⟨o4,ho4⟩:∃ o,textS {s2 with q:=q0} (mkB q2.held)=o:=⟨_,rfl⟩
     rw [ho4] at C4 ⊢
     clear ho4
     cases o4 with
     | inl E =>
      go_enter Tryz.func32, Tryz.ntmps32
      go_wp2_with (first
       | (go_at_call 60;refine (C2.out _ _ M1.out).mono ?_;rintro q w2 ⟨hp1,rfl,m2,hp2,hp3⟩;have F2:=hide hp1;have M2:=hide hp2;have O2:=hide hp3;clear hp1 hp2 hp3)
       | (go_at_call 61;refine (C3.out _ _ M2.out).mono ?_;rintro q w3 ⟨hp1,rfl,m3,hp2,hp3⟩;have F3:=hide hp1;have M3:=hide hp2;have O3:=hide hp3;clear hp1 hp2 hp3;have hl3:Hid (q2.held.length≤8192):=M3.out.qf.len;have Z3:=hide M3.out.z5;have x3_4:w3.frozen? ⟨r,4,none⟩=false:=M3.out.rd.frz 4;have y3_4:w3.cell? ⟨r,4,none⟩=some (.int .i64 q2.place):=(M3.out.rd.cell 4).trans rfl;have x3_5:w3.frozen? ⟨r,5,none⟩=false:=M3.out.rd.frz 5;have y3_5:w3.cell? ⟨r,5,none⟩=some (m3.held):=(M3.out.rd.cell 5).trans rfl;have x3_6:w3.frozen? ⟨r,6,none⟩=false:=M3.out.rd.frz 6;have y3_6:w3.cell? ⟨r,6,none⟩=some (.int .i64 q2.digits):=(M3.out.rd.cell 6).trans rfl;have x3_7:w3.frozen? ⟨r,7,none⟩=false:=M3.out.rd.frz 7;have y3_7:w3.cell? ⟨r,7,none⟩=some (.int .i64 q2.number):=(M3.out.rd.cell 7).trans rfl;have x3_8:w3.frozen? ⟨r,8,none⟩=false:=M3.out.rd.frz 8;have y3_8:w3.cell? ⟨r,8,none⟩=some (.int .i64 q2.high):=(M3.out.rd.cell 8).trans rfl)
       | (go_at_call 62;refine (C4.out _ _ Z3.out.1 hl3.out).mono ?_;rintro q w4 ⟨hp1,rfl,hp2⟩;have F4:=hide hp1;have M4:=hide hp2;clear hp1 hp2))
      exact ⟨rfl,RP.trans F1.out O1.out (RP.trans F2.out O2.out (RP.trans F3.out O3.out (RP.trans Z3.out.2.1 Z3.out.2.2 (⟨F4.out,rfl,M4.out⟩))))⟩
     | inr x4 =>
      go_enter Tryz.func32, Tryz.ntmps32
      go_wp2_with (first
       | (go_at_call 60;refine (C2.out _ _ M1.out).mono ?_;rintro q w2 ⟨hp1,rfl,m2,hp2,hp3⟩;have F2:=hide hp1;have M2:=hide hp2;have O2:=hide hp3;clear hp1 hp2 hp3)
       | (go_at_call 61;refine (C3.out _ _ M2.out).mono ?_;rintro q w3 ⟨hp1,rfl,m3,hp2,hp3⟩;have F3:=hide hp1;have M3:=hide hp2;have O3:=hide hp3;clear hp1 hp2 hp3;have hl3:Hid (q2.held.length≤8192):=M3.out.qf.len;have Z3:=hide M3.out.z5;have x3_4:w3.frozen? ⟨r,4,none⟩=false:=M3.out.rd.frz 4;have y3_4:w3.cell? ⟨r,4,none⟩=some (.int .i64 q2.place):=(M3.out.rd.cell 4).trans rfl;have x3_5:w3.frozen? ⟨r,5,none⟩=false:=M3.out.rd.frz 5;have y3_5:w3.cell? ⟨r,5,none⟩=some (m3.held):=(M3.out.rd.cell 5).trans rfl;have x3_6:w3.frozen? ⟨r,6,none⟩=false:=M3.out.rd.frz 6;have y3_6:w3.cell? ⟨r,6,none⟩=some (.int .i64 q2.digits):=(M3.out.rd.cell 6).trans rfl;have x3_7:w3.frozen? ⟨r,7,none⟩=false:=M3.out.rd.frz 7;have y3_7:w3.cell? ⟨r,7,none⟩=some (.int .i64 q2.number):=(M3.out.rd.cell 7).trans rfl;have x3_8:w3.frozen? ⟨r,8,none⟩=false:=M3.out.rd.frz 8;have y3_8:w3.cell? ⟨r,8,none⟩=some (.int .i64 q2.high):=(M3.out.rd.cell 8).trans rfl)
       | (go_at_call 62;refine (C4.out _ _ Z3.out.1 hl3.out).mono ?_;rintro q w4 ⟨hp1,rfl,m4,hp2,hp3⟩;have F4:=hide hp1;have M4:=hide hp2;have O4:=hide hp3;clear hp1 hp2 hp3))
      go_end0
      exact RP.trans F1.out O1.out (RP.trans F2.out O2.out (RP.trans F3.out O3.out (RP.trans Z3.out.2.1 Z3.out.2.2 (⟨F4.out,rfl,m4,M4.out,O4.out⟩))))
   ·simp only
    clear hd hk1 hk11 hn hq hnn hww hkk
    go_enter Tryz.func32, Tryz.ntmps32
    go_wp2_with (go_at_call 60;refine (C2.out _ _ M1.out).mono ?_;rintro q w2 ⟨hp1,rfl,m2,hp2,hp3⟩;have F2:=hide hp1;have M2:=hide hp2;have O2:=hide hp3;clear hp1 hp2 hp3)
    go_end0
    exact RP.trans F1.out O1.out (⟨F2.out,rfl,m2,M2.out,O2.out⟩)
end
section
variable {W W1 W2 : World} {r : Nat} {g : Gv} {m : Mv} {st : St}
set_option maxRecDepth 100000 in
theorem take_a (h:RM W r g m st) (c:UInt8) (hd:st.q.place=3→st.q.digits<4) (hk1:st.wait=1→st.ks≠[]) (hk11:st.wait=11→st.ks≠[]) (hn:st.n≤199900) (ht:st.total≤1000000) (hp:st.passed=true):Calls Tryz.prog 32 #[.pointer (some ⟨r,0,none⟩),.int .u8 c.toNat] W fun q w'=>RP W r g m (bnd (passS {st with total:=st.total + 1}) fun x=>goS x c) q w':=by
 have H:=hide h
 have c1:W.cell? ⟨r,1,none⟩=some (.int .i64 st.total):=(h.rd.cell 1).trans rfl
 have f1:W.frozen? ⟨r,1,none⟩=false:=h.rd.frz 1
 have c2:W.cell? ⟨r,2,none⟩=some (.bool st.passed):=(h.rd.cell 2).trans rfl
 have c4:W.cell? ⟨r,4,none⟩=some (.int .i64 st.q.place):=(h.rd.cell 4).trans rfl
 have hw:IntKind.i64.wrap ((st.total:Int) + 1)=(st.total:Int) + 1:=by rw [IntKind.wrap_i64] <;> omega
 have M0:=hide h.w1
 have F0:=hide (RF.w1 h)
 clear h
 rw [hp] at c2
 clear hp ht
 have C0:=hide (pass_r M0.out)
 cases hq0:passS {st with total:=st.total + 1} with
 | inl E =>
  rw [hq0] at C0
  clear hq0 hd hk1 hk11 hn
  simp only [bnd]
  go_enter Tryz.func32, Tryz.ntmps32
  go_wp2_with (go_at_call 59;refine C0.out.mono ?_;rintro q w1 ⟨hp1,rfl,hp2⟩;have F1:Hid (RF g m W w1):=F0.out.trans (OM.refl _ _) hp1;have M1:=hide hp2;clear hp1 hp2)
  exact ⟨rfl,F1.out,rfl,M1.out⟩
 | inr s2 =>
  rw [hq0] at C0
  obtain ⟨hnn,hkk,hww,hq,_⟩:=facts_passS hq0
  simp only at hnn hkk hww hq
  clear hq0
  simp only [bnd]
  unfold goS
  by_cases hp0:s2.q.place=0
  ·rw [if_neg (fun o=>o hp0)]
   have k4:W.cell? ⟨r,4,none⟩=some (.int .i64 0):=by rw [c4,←hq,hp0];rfl
   clear c4
   obtain ⟨xi,SA,hxi⟩:∃ xi:Int,Hid (∀ w,Calls Tryz.prog 63 #[.string ⟨#[32,9,10,13,91,93,123,125,44,58,34]⟩,.int .u8 c.toNat] w fun r w'=>r=.returned (.int .i64 xi)∧w'=w)∧decide (xi<0)=!isMk c:=⟨_,fun w=>sib_any mkE (c.toNat:Int) w,mk_idx c⟩
   cases hm:isMk c with
   | false =>
    rw [hm] at hxi
    simp only [Bool.not_false,Bool.false_eq_true,if_false] at hxi ⊢
    have C2:=hide (fun w m (h1:RM w r g m s2)=>holdWord_r h1 c)
    clear hm hd hk1 hk11 hn hq hnn hww hkk
    cases hq2:holdS s2 c with
    | inl E =>
     rw [hq2] at C2
     clear hq2
     go_enter Tryz.func32, Tryz.ntmps32
     go_wp2_with (first
      | (go_at_call 59;refine C0.out.mono ?_;rintro q w1 ⟨hp1,rfl,m1,hp2,hp3⟩;have F1:Hid (RF g m W w1):=F0.out.trans (OM.refl _ _) hp1;have M1:=hide hp2;have O1:Hid (OM W m m1):=(OM.refl _ _).trans hp3 F0.out.below.size;clear hp1 hp2 hp3;have e4:w1.cell? ⟨r,4,none⟩=some (.int .i64 0):=(M1.out.rd.cell 4).trans (by show some (Value.int .i64 (s2.q.place:Int))=_;rw [hp0];rfl))
      | (go_at_call 63;refine (SA.out _).mono ?_;rintro e w0 ⟨rfl,hw0⟩;have hws:=hw0.symm;clear hw0;subst hws)
      | (go_at_call 64;refine (C2.out _ _ M1.out).mono ?_;rintro q w2 ⟨hp1,rfl,hp2⟩;have F2:=hide hp1;have M2:=hide hp2;clear hp1 hp2))
     exact ⟨rfl,RP.trans F1.out O1.out (⟨F2.out,rfl,M2.out⟩)⟩
    | inr x =>
     rw [hq2] at C2
     clear hq2
     go_enter Tryz.func32, Tryz.ntmps32
     go_wp2_with (first
      | (go_at_call 59;refine C0.out.mono ?_;rintro q w1 ⟨hp1,rfl,m1,hp2,hp3⟩;have F1:Hid (RF g m W w1):=F0.out.trans (OM.refl _ _) hp1;have M1:=hide hp2;have O1:Hid (OM W m m1):=(OM.refl _ _).trans hp3 F0.out.below.size;clear hp1 hp2 hp3;have e4:w1.cell? ⟨r,4,none⟩=some (.int .i64 0):=(M1.out.rd.cell 4).trans (by show some (Value.int .i64 (s2.q.place:Int))=_;rw [hp0];rfl))
      | (go_at_call 63;refine (SA.out _).mono ?_;rintro e w0 ⟨rfl,hw0⟩;have hws:=hw0.symm;clear hw0;subst hws)
      | (go_at_call 64;refine (C2.out _ _ M1.out).mono ?_;rintro q w2 ⟨hp1,rfl,m2,hp2,hp3⟩;have F2:=hide hp1;have M2:=hide hp2;have O2:=hide hp3;clear hp1 hp2 hp3))
     go_end0
     exact RP.trans F1.out O1.out (⟨F2.out,rfl,m2,M2.out,O2.out⟩)
   | true =>
    rw [hm] at hxi
    simp only [Bool.not_true,if_true] at hxi ⊢
    have C2:=hide (fun w m (h1:RM w r g m s2)=>endWord_r h1 (by omega))
    cases hq2:endWordS s2 with
    | inl E =>
     rw [hq2] at C2
     clear hq2 hm hd hk1 hk11 hn hq hnn hww hkk
     simp only [bnd]
     go_enter Tryz.func32, Tryz.ntmps32
     go_wp2_with (first
      | (go_at_call 59;refine C0.out.mono ?_;rintro q w1 ⟨hp1,rfl,m1,hp2,hp3⟩;have F1:Hid (RF g m W w1):=F0.out.trans (OM.refl _ _) hp1;have M1:=hide hp2;have O1:Hid (OM W m m1):=(OM.refl _ _).trans hp3 F0.out.below.size;clear hp1 hp2 hp3;have e4:w1.cell? ⟨r,4,none⟩=some (.int .i64 0):=(M1.out.rd.cell 4).trans (by show some (Value.int .i64 (s2.q.place:Int))=_;rw [hp0];rfl))
      | (go_at_call 63;refine (SA.out _).mono ?_;rintro e w0 ⟨rfl,hw0⟩;have hws:=hw0.symm;clear hw0;subst hws)
      | (go_at_call 65;refine (C2.out _ _ M1.out).mono ?_;rintro q w2 ⟨hp1,rfl,hp2⟩;have F2:=hide hp1;have M2:=hide hp2;clear hp1 hp2))
     exact ⟨rfl,RP.trans F1.out O1.out (⟨F2.out,rfl,M2.out⟩)⟩
    | inr x2 =>
     rw [hq2] at C2
     obtain ⟨k1,k2,k3,_⟩:=facts_endWordS hq2 (by rw [hww,hkk];exact hk1) (by rw [hww,hkk];exact hk11)
     simp only [bnd]
     have C3:=hide (fun w m (h1:RM w r g m x2)=>takeMark_r h1 c k2 k3 (by omega))
     clear hq2 hm hd hk1 hk11 hn hq hnn hww hkk k1 k2 k3
     cases hq3:markS x2 c with
     | inl E =>
      rw [hq3] at C3
      clear hq3
      go_enter Tryz.func32, Tryz.ntmps32
      go_wp2_with (first
       | (go_at_call 59;refine C0.out.mono ?_;rintro q w1 ⟨hp1,rfl,m1,hp2,hp3⟩;have F1:Hid (RF g m W w1):=F0.out.trans (OM.refl _ _) hp1;have M1:=hide hp2;have O1:Hid (OM W m m1):=(OM.refl _ _).trans hp3 F0.out.below.size;clear hp1 hp2 hp3;have e4:w1.cell? ⟨r,4,none⟩=some (.int .i64 0):=(M1.out.rd.cell 4).trans (by show some (Value.int .i64 (s2.q.place:Int))=_;rw [hp0];rfl))
       | (go_at_call 63;refine (SA.out _).mono ?_;rintro e w0 ⟨rfl,hw0⟩;have hws:=hw0.symm;clear hw0;subst hws)
       | (go_at_call 65;refine (C2.out _ _ M1.out).mono ?_;rintro q w2 ⟨hp1,rfl,m2,hp2,hp3⟩;have F2:=hide hp1;have M2:=hide hp2;have O2:=hide hp3;clear hp1 hp2 hp3)
       | (go_at_call 66;refine (C3.out _ _ M2.out).mono ?_;rintro q w3 ⟨hp1,rfl,hp2⟩;have F3:=hide hp1;have M3:=hide hp2;clear hp1 hp2))
      exact ⟨rfl,RP.trans F1.out O1.out (RP.trans F2.out O2.out (⟨F3.out,rfl,M3.out⟩))⟩
     | inr x3 =>
      rw [hq3] at C3
      clear hq3
      go_enter Tryz.func32, Tryz.ntmps32
      go_wp2_with (first
       | (go_at_call 59;refine C0.out.mono ?_;rintro q w1 ⟨hp1,rfl,m1,hp2,hp3⟩;have F1:Hid (RF g m W w1):=F0.out.trans (OM.refl _ _) hp1;have M1:=hide hp2;have O1:Hid (OM W m m1):=(OM.refl _ _).trans hp3 F0.out.below.size;clear hp1 hp2 hp3;have e4:w1.cell? ⟨r,4,none⟩=some (.int .i64 0):=(M1.out.rd.cell 4).trans (by show some (Value.int .i64 (s2.q.place:Int))=_;rw [hp0];rfl))
       | (go_at_call 63;refine (SA.out _).mono ?_;rintro e w0 ⟨rfl,hw0⟩;have hws:=hw0.symm;clear hw0;subst hws)
       | (go_at_call 65;refine (C2.out _ _ M1.out).mono ?_;rintro q w2 ⟨hp1,rfl,m2,hp2,hp3⟩;have F2:=hide hp1;have M2:=hide hp2;have O2:=hide hp3;clear hp1 hp2 hp3)
       | (go_at_call 66;refine (C3.out _ _ M2.out).mono ?_;rintro q w3 ⟨hp1,rfl,m3,hp2,hp3⟩;have F3:=hide hp1;have M3:=hide hp2;have O3:=hide hp3;clear hp1 hp2 hp3))
      go_end0
      exact RP.trans F1.out O1.out (RP.trans F2.out O2.out (⟨F3.out,rfl,m3,M3.out,O3.out⟩))
  ·rw [if_pos hp0]
   have ep:((s2.q.place:Int) != 0)=true:=by simp;omega
   have ep2:((s2.q.place:Int)==0)=false:=by simp;omega
   have k4:W.cell? ⟨r,4,none⟩=some (.int .i64 s2.q.place):=by rw [c4,hq]
   clear c4
   unfold quoS
   have C2:=hide (fun w m (h1:RM w r g m s2)=>qtake_r h1 (by rw [hq];exact hd) c)
   cases hq2:takeQ s2.q c with
   | inl E =>
    rw [hq2] at C2
    clear hq2 hd hk1 hk11 hn hq hnn hww hkk
    simp only [bnd]
    go_enter Tryz.func32, Tryz.ntmps32
    go_wp2_with (first
     | (go_at_call 59;refine C0.out.mono ?_;rintro q w1 ⟨hp1,rfl,m1,hp2,hp3⟩;have F1:Hid (RF g m W w1):=F0.out.trans (OM.refl _ _) hp1;have M1:=hide hp2;have O1:Hid (OM W m m1):=(OM.refl _ _).trans hp3 F0.out.below.size;clear hp1 hp2 hp3;have e4:w1.cell? ⟨r,4,none⟩=some (.int .i64 s2.q.place):=(M1.out.rd.cell 4).trans rfl)
     | (go_at_call 60;refine (C2.out _ _ M1.out).mono ?_;rintro q w2 ⟨hp1,rfl,hp2⟩;have F2:=hide hp1;have M2:=hide hp2;clear hp1 hp2))
    exact ⟨rfl,RP.trans F1.out O1.out (⟨F2.out,rfl,M2.out⟩)⟩
   | inr x2 =>
    rw [hq2] at C2
    have hb:=takeQ_bool hq2
    clear hq2
    obtain ⟨v2,q2⟩:=x2
    simp only [bnd] at hb ⊢
    rcases hb with rfl|rfl
    ·simp only
     have C3:=hide (fun w m (h1:RM w r g m {s2 with q:=q2})=>qtext_r h1)
     simp only [textQ] at C3 ⊢
     cases hok:Ut.okT (Ut.bl (mkB q2.held)) with
     | false =>
      rw [hok] at C3
      simp only [Bool.false_eq_true,if_false] at C3 ⊢
      clear hok hd hk1 hk11 hn hq hnn hww hkk
      go_enter Tryz.func32, Tryz.ntmps32
      go_wp2_with (first
       | (go_at_call 59;refine C0.out.mono ?_;rintro q w1 ⟨hp1,rfl,m1,hp2,hp3⟩;have F1:Hid (RF g m W w1):=F0.out.trans (OM.refl _ _) hp1;have M1:=hide hp2;have O1:Hid (OM W m m1):=(OM.refl _ _).trans hp3 F0.out.below.size;clear hp1 hp2 hp3;have e4:w1.cell? ⟨r,4,none⟩=some (.int .i64 s2.q.place):=(M1.out.rd.cell 4).trans rfl)
       | (go_at_call 60;refine (C2.out _ _ M1.out).mono ?_;rintro q w2 ⟨hp1,rfl,m2,hp2,hp3⟩;have F2:=hide hp1;have M2:=hide hp2;have O2:=hide hp3;clear hp1 hp2 hp3)
       | (go_at_call 61;refine (C3.out _ _ M2.out).mono ?_;rintro q w3 ⟨hp1,rfl,hp2⟩;have F3:=hide hp1;have M3:=hide hp2;clear hp1 hp2))
      exact ⟨rfl,RP.trans F1.out O1.out (RP.trans F2.out O2.out (⟨F3.out,rfl,M3.out⟩))⟩
     | true =>
      rw [hok] at C3
      simp only [if_true] at C3 ⊢
      have C4:=hide (fun w m (h1:RM w r g m {s2 with q:=q0}) (hl:q2.held.length≤8192)=>takeText_r h1 (mkB q2.held) (by rw [←bl_length,bl_mkB];omega) (show s2.n≤199980 by omega))
      clear hok hd hk1 hk11 hn hq hnn hww hkk
      obtain ⟨o4,ho4⟩:∃ o,textS {s2 with q:=q0} (mkB q2.held)=o:=⟨_,rfl⟩
      rw [ho4] at C4 ⊢
      clear ho4
      cases o4 with
      | inl E =>
       go_enter Tryz.func32, Tryz.ntmps32
       go_wp2_with (first
        | (go_at_call 59;refine C0.out.mono ?_;rintro q w1 ⟨hp1,rfl,m1,hp2,hp3⟩;have F1:Hid (RF g m W w1):=F0.out.trans (OM.refl _ _) hp1;have M1:=hide hp2;have O1:Hid (OM W m m1):=(OM.refl _ _).trans hp3 F0.out.below.size;clear hp1 hp2 hp3;have e4:w1.cell? ⟨r,4,none⟩=some (.int .i64 s2.q.place):=(M1.out.rd.cell 4).trans rfl)
        | (go_at_call 60;refine (C2.out _ _ M1.out).mono ?_;rintro q w2 ⟨hp1,rfl,m2,hp2,hp3⟩;have F2:=hide hp1;have M2:=hide hp2;have O2:=hide hp3;clear hp1 hp2 hp3)
        | (go_at_call 61;refine (C3.out _ _ M2.out).mono ?_;rintro q w3 ⟨hp1,rfl,m3,hp2,hp3⟩;have F3:=hide hp1;have M3:=hide hp2;have O3:=hide hp3;clear hp1 hp2 hp3;have hl3:Hid (q2.held.length≤8192):=M3.out.qf.len;have Z3:=hide M3.out.z5;have x3_4:w3.frozen? ⟨r,4,none⟩=false:=M3.out.rd.frz 4;have y3_4:w3.cell? ⟨r,4,none⟩=some (.int .i64 q2.place):=(M3.out.rd.cell 4).trans rfl;have x3_5:w3.frozen? ⟨r,5,none⟩=false:=M3.out.rd.frz 5;have y3_5:w3.cell? ⟨r,5,none⟩=some (m3.held):=(M3.out.rd.cell 5).trans rfl;have x3_6:w3.frozen? ⟨r,6,none⟩=false:=M3.out.rd.frz 6;have y3_6:w3.cell? ⟨r,6,none⟩=some (.int .i64 q2.digits):=(M3.out.rd.cell 6).trans rfl;have x3_7:w3.frozen? ⟨r,7,none⟩=false:=M3.out.rd.frz 7;have y3_7:w3.cell? ⟨r,7,none⟩=some (.int .i64 q2.number):=(M3.out.rd.cell 7).trans rfl;have x3_8:w3.frozen? ⟨r,8,none⟩=false:=M3.out.rd.frz 8;have y3_8:w3.cell? ⟨r,8,none⟩=some (.int .i64 q2.high):=(M3.out.rd.cell 8).trans rfl)
        | (go_at_call 62;refine (C4.out _ _ Z3.out.1 hl3.out).mono ?_;rintro q w4 ⟨hp1,rfl,hp2⟩;have F4:=hide hp1;have M4:=hide hp2;clear hp1 hp2))
       exact ⟨rfl,RP.trans F1.out O1.out (RP.trans F2.out O2.out (RP.trans F3.out O3.out (RP.trans Z3.out.2.1 Z3.out.2.2 (⟨F4.out,rfl,M4.out⟩))))⟩
      | inr x4 =>
       go_enter Tryz.func32, Tryz.ntmps32
       go_wp2_with (first
        | (go_at_call 59;refine C0.out.mono ?_;rintro q w1 ⟨hp1,rfl,m1,hp2,hp3⟩;have F1:Hid (RF g m W w1):=F0.out.trans (OM.refl _ _) hp1;have M1:=hide hp2;have O1:Hid (OM W m m1):=(OM.refl _ _).trans hp3 F0.out.below.size;clear hp1 hp2 hp3;have e4:w1.cell? ⟨r,4,none⟩=some (.int .i64 s2.q.place):=(M1.out.rd.cell 4).trans rfl)
        | (go_at_call 60;refine (C2.out _ _ M1.out).mono ?_;rintro q w2 ⟨hp1,rfl,m2,hp2,hp3⟩;have F2:=hide hp1;have M2:=hide hp2;have O2:=hide hp3;clear hp1 hp2 hp3)
        | (go_at_call 61;refine (C3.out _ _ M2.out).mono ?_;rintro q w3 ⟨hp1,rfl,m3,hp2,hp3⟩;have F3:=hide hp1;have M3:=hide hp2;have O3:=hide hp3;clear hp1 hp2 hp3;have hl3:Hid (q2.held.length≤8192):=M3.out.qf.len;have Z3:=hide M3.out.z5;have x3_4:w3.frozen? ⟨r,4,none⟩=false:=M3.out.rd.frz 4;have y3_4:w3.cell? ⟨r,4,none⟩=some (.int .i64 q2.place):=(M3.out.rd.cell 4).trans rfl;have x3_5:w3.frozen? ⟨r,5,none⟩=false:=M3.out.rd.frz 5;have y3_5:w3.cell? ⟨r,5,none⟩=some (m3.held):=(M3.out.rd.cell 5).trans rfl;have x3_6:w3.frozen? ⟨r,6,none⟩=false:=M3.out.rd.frz 6;have y3_6:w3.cell? ⟨r,6,none⟩=some (.int .i64 q2.digits):=(M3.out.rd.cell 6).trans rfl;have x3_7:w3.frozen? ⟨r,7,none⟩=false:=M3.out.rd.frz 7;have y3_7:w3.cell? ⟨r,7,none⟩=some (.int .i64 q2.number):=(M3.out.rd.cell 7).trans rfl;have x3_8:w3.frozen? ⟨r,8,none⟩=false:=M3.out.rd.frz 8;have y3_8:w3.cell? ⟨r,8,none⟩=some (.int .i64 q2.high):=(M3.out.rd.cell 8).trans rfl)
        | (go_at_call 62;refine (C4.out _ _ Z3.out.1 hl3.out).mono ?_;rintro q w4 ⟨hp1,rfl,m4,hp2,hp3⟩;have F4:=hide hp1;have M4:=hide hp2;have O4:=hide hp3;clear hp1 hp2 hp3))
       go_end0
       exact RP.trans F1.out O1.out (RP.trans F2.out O2.out (RP.trans F3.out O3.out (RP.trans Z3.out.2.1 Z3.out.2.2 (⟨F4.out,rfl,m4,M4.out,O4.out⟩))))
    ·simp only
     clear hd hk1 hk11 hn hq hnn hww hkk
     go_enter Tryz.func32, Tryz.ntmps32
     go_wp2_with (first
      | (go_at_call 59;refine C0.out.mono ?_;rintro q w1 ⟨hp1,rfl,m1,hp2,hp3⟩;have F1:Hid (RF g m W w1):=F0.out.trans (OM.refl _ _) hp1;have M1:=hide hp2;have O1:Hid (OM W m m1):=(OM.refl _ _).trans hp3 F0.out.below.size;clear hp1 hp2 hp3;have e4:w1.cell? ⟨r,4,none⟩=some (.int .i64 s2.q.place):=(M1.out.rd.cell 4).trans rfl)
      | (go_at_call 60;refine (C2.out _ _ M1.out).mono ?_;rintro q w2 ⟨hp1,rfl,m2,hp2,hp3⟩;have F2:=hide hp1;have M2:=hide hp2;have O2:=hide hp3;clear hp1 hp2 hp3))
     go_end0
     exact RP.trans F1.out O1.out (⟨F2.out,rfl,m2,M2.out,O2.out⟩)
end
end Go.Proofs.YtpimjkdakjhoaaaGreatDoor
