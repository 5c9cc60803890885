/- Merged by program: KqRead, KmWord. -/
import Derived.Test.YtpimjkdakjhoaaaGreatDoorZw33
namespace Go.Proofs.YtpimjkdakjhoaaaGreatDoor
open Go.RowKit
set_option linter.unusedSimpArgs false
set_option linter.unusedVariables false
set_option maxHeartbeats 8000000
section
variable {W W1 W2 : World} {r : Nat} {g : Gv} {m : Mv} {st : St}
theorem facts_tellS {st x:St} {e:Hd} (h:tellS st e=.inr x):x.n=st.n + 1∧x.ks=st.ks∧x.wait=st.wait:=⟨(tellS_n h).1,(tellS_n h).2.1,(tellS_n h).2.2.1⟩
theorem facts_beginS {st x:St} {e:Hd} (h:beginS st e=.inr x):x.n=st.n + 1∧x.ks=st.ks++[e.kind]∧x.wait=st.wait:=by
 unfold beginS at h
 cases ht:tellS st e with
 | inl E=>rw [ht] at h;cases h
 | inr y =>
  rw [ht] at h
  cases h
  exact ⟨(tellS_n ht).1,by show y.ks++_=_;rw [(tellS_n ht).2.1],(tellS_n ht).2.2.1⟩
theorem facts_endS {st x:St} (h:endS st=.inr x):x.n=st.n + 1∧x.ks=st.ks.dropLast∧x.wait=st.wait:=by
 unfold endS at h
 cases ht:tellS st evE with
 | inl E=>rw [ht] at h;cases h
 | inr y =>
  rw [ht] at h
  cases h
  exact ⟨(tellS_n ht).1,by show y.ks.dropLast=_;rw [(tellS_n ht).2.1],(tellS_n ht).2.2.1⟩
theorem z1:EvZ (zr 1):=⟨by decide,by decide,rfl⟩
theorem z7:EvZ (zr 7):=⟨by decide,by decide,rfl⟩
theorem z8:EvZ (zr 8):=⟨by decide,by decide,rfl⟩
theorem lastK_ne {ks:List Int} {k:Int} (h:lastK ks=k) (hk:k≠0):ks≠[]:=fun e=>hk (by rw [←h,e];rfl)
set_option maxRecDepth 100000 in
theorem openList_r (h:RM W r g m st) (hn:st.n≤199980):Calls Tryz.prog 99 #[.pointer (some ⟨r,0,none⟩)] W fun x w'=>RP W r g m (openL st) x w':=by
 have H:=hide h
 have c9:W.cell? ⟨r,9,none⟩=some (.int .i64 st.wait):=(h.rd.cell 9).trans rfl
 have f9:W.frozen? ⟨r,9,none⟩=false:=h.rd.frz 9
 clear h
 unfold openL
 by_cases hw0:st.wait=0
 ·rw [if_pos (Or.inl hw0)]
  rw [hw0] at c9
  clear hw0
  have M0:=H
  have C1:=hide (fun w m (h1:RM w r g m st)=>begin_q h1 (zr 7) z7 (by omega))
  cases hq1:beginS st (zr 7) with
  | inl E =>
   rw [hq1] at C1
   clear hq1 hn 
   try simp only [bnd]
   try simp only [evs,zr,evE,evN,evNum,evFlag,evText,evFloat,evBytes,evTag] at C1
   go_enter Tryz.func99, Tryz.ntmps99
   go_wp2_with (go_at_call 96;refine (C1.out _ _ M0.out).mono ?_;rintro q w1 ⟨hp1,rfl,hp2⟩;have F1:=hide hp1;have M1:=hide hp2;clear hp1 hp2)
   exact ⟨rfl,⟨F1.out,rfl,M1.out⟩⟩
  | inr x1 =>
   rw [hq1] at C1
   try simp only [bnd]
   clear hq1 hn 
   try simp only [evs,zr,evE,evN,evNum,evFlag,evText,evFloat,evBytes,evTag] at C1
   go_enter Tryz.func99, Tryz.ntmps99
   go_wp2_with (go_at_call 96;refine (C1.out _ _ M0.out).mono ?_;rintro q w1 ⟨hp1,rfl,m1,hp2,hp3⟩;have F1:=hide hp1;have M1:=hide hp2;have O1:=hide hp3;clear hp1 hp2 hp3;have d9:=(M1.out.rd.cell 9).trans rfl;have g9:w1.frozen? ⟨r,9,none⟩=false:=M1.out.rd.frz 9;have d10:=(M1.out.rd.cell 10).trans rfl;have g10:w1.frozen? ⟨r,10,none⟩=false:=M1.out.rd.frz 10;simp only [St.rv] at d9 d10)
   go_end0
   exact RP.trans F1.out O1.out (RP.setw M1.out 1 0)
 by_cases hw1:st.wait=1
 ·rw [if_pos (Or.inr hw1)]
  rw [hw1] at c9
  clear hw0 hw1
  have M0:=H
  have C1:=hide (fun w m (h1:RM w r g m st)=>begin_q h1 (zr 7) z7 (by omega))
  cases hq1:beginS st (zr 7) with
  | inl E =>
   rw [hq1] at C1
   clear hq1 hn 
   try simp only [bnd]
   try simp only [evs,zr,evE,evN,evNum,evFlag,evText,evFloat,evBytes,evTag] at C1
   go_enter Tryz.func99, Tryz.ntmps99
   go_wp2_with (go_at_call 96;refine (C1.out _ _ M0.out).mono ?_;rintro q w1 ⟨hp1,rfl,hp2⟩;have F1:=hide hp1;have M1:=hide hp2;clear hp1 hp2)
   exact ⟨rfl,⟨F1.out,rfl,M1.out⟩⟩
  | inr x1 =>
   rw [hq1] at C1
   try simp only [bnd]
   clear hq1 hn 
   try simp only [evs,zr,evE,evN,evNum,evFlag,evText,evFloat,evBytes,evTag] at C1
   go_enter Tryz.func99, Tryz.ntmps99
   go_wp2_with (go_at_call 96;refine (C1.out _ _ M0.out).mono ?_;rintro q w1 ⟨hp1,rfl,m1,hp2,hp3⟩;have F1:=hide hp1;have M1:=hide hp2;have O1:=hide hp3;clear hp1 hp2 hp3;have d9:=(M1.out.rd.cell 9).trans rfl;have g9:w1.frozen? ⟨r,9,none⟩=false:=M1.out.rd.frz 9;have d10:=(M1.out.rd.cell 10).trans rfl;have g10:w1.frozen? ⟨r,10,none⟩=false:=M1.out.rd.frz 10;simp only [St.rv] at d9 d10)
   go_end0
   exact RP.trans F1.out O1.out (RP.setw M1.out 1 0)
 rw [if_neg (fun o=>o.elim hw0 hw1)]
 by_cases hw8:st.wait=8
 ·rw [if_pos hw8]
  rw [hw8] at c9
  clear hw0 hw1 hw8 hn
  go_enter Tryz.func99, Tryz.ntmps99
  go_wp2
  go_end0
  exact RP.setw H.out 9 0
 ·rw [if_neg hw8]
  have e0:((st.wait:Int)==0)=false:=by simp;omega
  have en0:((st.wait:Int) != 0)=true:=by simp;omega
  have e1:((st.wait:Int)==1)=false:=by simp;omega
  have en1:((st.wait:Int) != 1)=true:=by simp;omega
  have e8:((st.wait:Int)==8)=false:=by simp;omega
  have en8:((st.wait:Int) != 8)=true:=by simp;omega
  clear hw0 hw1 hw8 hn
  go_enter Tryz.func99, Tryz.ntmps99
  go_wp2_with fail
  exact ⟨rfl,RP.pan H.out 70 0⟩
set_option maxRecDepth 100000 in
theorem closeList_r (h:RM W r g m st) (hk1:st.wait=1→st.ks≠[]) (hk11:st.wait=11→st.ks≠[]) (hn:st.n≤199980):Calls Tryz.prog 100 #[.pointer (some ⟨r,0,none⟩)] W fun x w'=>RP W r g m (closeL st) x w':=by
 have H:=hide h
 have c9:W.cell? ⟨r,9,none⟩=some (.int .i64 st.wait):=(h.rd.cell 9).trans rfl
 have f9:W.frozen? ⟨r,9,none⟩=false:=h.rd.frz 9
 have IN:=hide (inner_q h.rd h.opn (Nat.le_trans h.kl (by omega)))
 clear h
 unfold closeL
 by_cases hw1:st.wait=1
 ·rw [if_pos (Or.inl hw1)]
  have hks:=hk1 hw1
  rw [hw1] at c9
  clear hw1 hk1 hk11 IN
  have M0:=H
  have C1:=hide (fun w m (h1:RM w r g m st)=>end_q h1 hks (by omega))
  cases hq1:endS st with
  | inl E =>
   rw [hq1] at C1
   clear hq1 hn hks 
   try simp only [bnd]
   try simp only [evs,zr,evE,evN,evNum,evFlag,evText,evFloat,evBytes,evTag] at C1
   go_enter Tryz.func100, Tryz.ntmps100
   go_wp2_with (go_at_call 127;refine (C1.out _ _ M0.out).mono ?_;rintro q w1 ⟨hp1,rfl,hp2⟩;have F1:=hide hp1;have M1:=hide hp2;clear hp1 hp2)
   exact ⟨rfl,⟨F1.out,rfl,M1.out⟩⟩
  | inr x1 =>
   rw [hq1] at C1
   try simp only [bnd]
   have N1:=facts_endS hq1
   clear hq1
   have C2:=hide (fun w m (h1:RM w r g m x1)=>endValue_r h1 (by have:=N1.1;omega))
   obtain ⟨x2,hx2⟩:∃ x,endV x1=x:=⟨_,rfl⟩
   rw [hx2] at C2 ⊢
   clear hx2
   clear  hn hks N1
   try simp only [evs,zr,evE,evN,evNum,evFlag,evText,evFloat,evBytes,evTag] at C1 C2
   go_enter Tryz.func100, Tryz.ntmps100
   go_wp2_with (first
    | (go_at_call 127;refine (C1.out _ _ M0.out).mono ?_;rintro q w1 ⟨hp1,rfl,m1,hp2,hp3⟩;have F1:=hide hp1;have M1:=hide hp2;have O1:=hide hp3;clear hp1 hp2 hp3;have d9:=(M1.out.rd.cell 9).trans rfl;have g9:w1.frozen? ⟨r,9,none⟩=false:=M1.out.rd.frz 9;have d10:=(M1.out.rd.cell 10).trans rfl;have g10:w1.frozen? ⟨r,10,none⟩=false:=M1.out.rd.frz 10;simp only [St.rv] at d9 d10)
    | (go_at_call 91;refine (C2.out _ _ M1.out).mono ?_;rintro q w2 ⟨hp1,rfl,m2,hp2,hp3⟩;have F2:=hide hp1;have M2:=hide hp2;have O2:=hide hp3;clear hp1 hp2 hp3;have d9:=(M2.out.rd.cell 9).trans rfl;have g9:w2.frozen? ⟨r,9,none⟩=false:=M2.out.rd.frz 9;have d10:=(M2.out.rd.cell 10).trans rfl;have g10:w2.frozen? ⟨r,10,none⟩=false:=M2.out.rd.frz 10;simp only [St.rv] at d9 d10))
   go_end0
   exact RP.trans F1.out O1.out (⟨F2.out,rfl,m2,M2.out,O2.out⟩)
 by_cases hw2:st.wait=2
 ·rw [hw2] at c9
  by_cases hk:lastK st.ks=7
  ·rw [if_pos (Or.inr ⟨hw2,hk⟩)]
   have hks:=lastK_ne hk (by decide)
   rw [hk] at IN
   have hw2:=hide hw2
   clear hw1 hk1 hk11 hk
   have C1:=hide (fun w m (h1:RM w r g m st)=>end_q h1 hks (by omega))
   cases hq1:endS st with
   | inl E =>
    rw [hq1] at C1
    clear hq1 hn hks 
    try simp only [bnd]
    try simp only [evs,zr,evE,evN,evNum,evFlag,evText,evFloat,evBytes,evTag] at C1
    go_enter Tryz.func100, Tryz.ntmps100
    go_wp2_with (first
     | (go_at_call 121;refine IN.out.mono ?_;rintro e w0 ⟨rfl,k0,hw0⟩;have M0:=hide (H.out.then (W1:=w0) (by rw [hw0];exact dn_b _ _));have F0:Hid (RF g m W w0):=RF.of (by rw [hw0];exact dn_b _ _) H.out.lo;clear hw0;have d9:w0.cell? ⟨r,9,none⟩=some (.int .i64 2):=(M0.out.rd.cell 9).trans (by rw [show (st.rv g m).cells[9]?=some (.int .i64 st.wait) from rfl,hw2.out];rfl);have g9:w0.frozen? ⟨r,9,none⟩=false:=M0.out.rd.frz 9)
     | (go_at_call 127;refine (C1.out _ _ M0.out).mono ?_;rintro q w1 ⟨hp1,rfl,hp2⟩;have F1:=hide hp1;have M1:=hide hp2;clear hp1 hp2))
    exact ⟨rfl,RP.trans F0.out (OM.refl _ _) (⟨F1.out,rfl,M1.out⟩)⟩
   | inr x1 =>
    rw [hq1] at C1
    try simp only [bnd]
    have N1:=facts_endS hq1
    clear hq1
    have C2:=hide (fun w m (h1:RM w r g m x1)=>endValue_r h1 (by have:=N1.1;omega))
    obtain ⟨x2,hx2⟩:∃ x,endV x1=x:=⟨_,rfl⟩
    rw [hx2] at C2 ⊢
    clear hx2
    clear  hn hks N1
    try simp only [evs,zr,evE,evN,evNum,evFlag,evText,evFloat,evBytes,evTag] at C1 C2
    go_enter Tryz.func100, Tryz.ntmps100
    go_wp2_with (first
     | (go_at_call 121;refine IN.out.mono ?_;rintro e w0 ⟨rfl,k0,hw0⟩;have M0:=hide (H.out.then (W1:=w0) (by rw [hw0];exact dn_b _ _));have F0:Hid (RF g m W w0):=RF.of (by rw [hw0];exact dn_b _ _) H.out.lo;clear hw0;have d9:w0.cell? ⟨r,9,none⟩=some (.int .i64 2):=(M0.out.rd.cell 9).trans (by rw [show (st.rv g m).cells[9]?=some (.int .i64 st.wait) from rfl,hw2.out];rfl);have g9:w0.frozen? ⟨r,9,none⟩=false:=M0.out.rd.frz 9)
     | (go_at_call 127;refine (C1.out _ _ M0.out).mono ?_;rintro q w1 ⟨hp1,rfl,m1,hp2,hp3⟩;have F1:=hide hp1;have M1:=hide hp2;have O1:=hide hp3;clear hp1 hp2 hp3;have d9:=(M1.out.rd.cell 9).trans rfl;have g9:w1.frozen? ⟨r,9,none⟩=false:=M1.out.rd.frz 9;have d10:=(M1.out.rd.cell 10).trans rfl;have g10:w1.frozen? ⟨r,10,none⟩=false:=M1.out.rd.frz 10;simp only [St.rv] at d9 d10)
     | (go_at_call 91;refine (C2.out _ _ M1.out).mono ?_;rintro q w2 ⟨hp1,rfl,m2,hp2,hp3⟩;have F2:=hide hp1;have M2:=hide hp2;have O2:=hide hp3;clear hp1 hp2 hp3;have d9:=(M2.out.rd.cell 9).trans rfl;have g9:w2.frozen? ⟨r,9,none⟩=false:=M2.out.rd.frz 9;have d10:=(M2.out.rd.cell 10).trans rfl;have g10:w2.frozen? ⟨r,10,none⟩=false:=M2.out.rd.frz 10;simp only [St.rv] at d9 d10))
    go_end0
    exact RP.trans F0.out (OM.refl _ _) (RP.trans F1.out O1.out (⟨F2.out,rfl,m2,M2.out,O2.out⟩))
  ·rw [if_neg (fun o=>o.elim hw1 (fun q=>hk q.2)),if_neg (by omega)]
   have e7:(lastK st.ks==7)=false:=by simpa using hk
   have hw2:=hide hw2
   clear hw1 hk1 hk11 hk hn
   generalize lastK st.ks=k at IN e7
   go_enter Tryz.func100, Tryz.ntmps100
   go_wp2_with (go_at_call 121;refine IN.out.mono ?_;rintro e w0 ⟨rfl,k0,hw0⟩;have M0:=hide (H.out.then (W1:=w0) (by rw [hw0];exact dn_b _ _));have F0:Hid (RF g m W w0):=RF.of (by rw [hw0];exact dn_b _ _) H.out.lo;clear hw0;have d9:w0.cell? ⟨r,9,none⟩=some (.int .i64 2):=(M0.out.rd.cell 9).trans (by rw [show (st.rv g m).cells[9]?=some (.int .i64 st.wait) from rfl,hw2.out];rfl);have g9:w0.frozen? ⟨r,9,none⟩=false:=M0.out.rd.frz 9)
   exact ⟨rfl,RP.trans F0.out (OM.refl _ _) (RP.pan M0.out 70 0)⟩
 rw [if_neg (fun o=>o.elim hw1 (fun q=>hw2 q.1))]
 by_cases hw11:st.wait=11
 ·rw [if_pos hw11]
  have hks:=hk11 hw11
  rw [hw11] at c9
  clear hw1 hw2 hw11 hk1 hk11 IN
  have M0:=H
  have C1:=hide (fun w m (h1:RM w r g m st)=>end_q h1 hks (by omega))
  cases hq1:endS st with
  | inl E =>
   rw [hq1] at C1
   clear hq1 hn hks 
   try simp only [bnd]
   try simp only [evs,zr,evE,evN,evNum,evFlag,evText,evFloat,evBytes,evTag] at C1
   go_enter Tryz.func100, Tryz.ntmps100
   go_wp2_with (go_at_call 127;refine (C1.out _ _ M0.out).mono ?_;rintro q w1 ⟨hp1,rfl,hp2⟩;have F1:=hide hp1;have M1:=hide hp2;clear hp1 hp2)
   exact ⟨rfl,⟨F1.out,rfl,M1.out⟩⟩
  | inr x1 =>
   rw [hq1] at C1
   try simp only [bnd]
   clear hq1 hn hks 
   try simp only [evs,zr,evE,evN,evNum,evFlag,evText,evFloat,evBytes,evTag] at C1
   go_enter Tryz.func100, Tryz.ntmps100
   go_wp2_with (go_at_call 127;refine (C1.out _ _ M0.out).mono ?_;rintro q w1 ⟨hp1,rfl,m1,hp2,hp3⟩;have F1:=hide hp1;have M1:=hide hp2;have O1:=hide hp3;clear hp1 hp2 hp3;have d9:=(M1.out.rd.cell 9).trans rfl;have g9:w1.frozen? ⟨r,9,none⟩=false:=M1.out.rd.frz 9;have d10:=(M1.out.rd.cell 10).trans rfl;have g10:w1.frozen? ⟨r,10,none⟩=false:=M1.out.rd.frz 10;simp only [St.rv] at d9 d10)
   go_end0
   exact RP.trans F1.out O1.out (RP.setw M1.out 12 0)
 ·rw [if_neg hw11]
  have e1:((st.wait:Int)==1)=false:=by simp;omega
  have en1:((st.wait:Int) != 1)=true:=by simp;omega
  have e2:((st.wait:Int)==2)=false:=by simp;omega
  have en2:((st.wait:Int) != 2)=true:=by simp;omega
  have e11:((st.wait:Int)==11)=false:=by simp;omega
  have en11:((st.wait:Int) != 11)=true:=by simp;omega
  clear hw1 hw2 hw11 hk1 hk11 IN hn
  go_enter Tryz.func100, Tryz.ntmps100
  go_wp2_with fail
  exact ⟨rfl,RP.pan H.out 70 0⟩
set_option maxRecDepth 100000 in
theorem closeObject_r (h:RM W r g m st) (hn:st.n≤199980):Calls Tryz.prog 102 #[.pointer (some ⟨r,0,none⟩)] W fun x w'=>RP W r g m (closeO st) x w':=by
 have H:=hide h
 have c9:W.cell? ⟨r,9,none⟩=some (.int .i64 st.wait):=(h.rd.cell 9).trans rfl
 have f9:W.frozen? ⟨r,9,none⟩=false:=h.rd.frz 9
 have IN:=hide (inner_q h.rd h.opn (Nat.le_trans h.kl (by omega)))
 clear h
 unfold closeO
 by_cases hw3:st.wait=3
 ·rw [if_pos hw3]
  rw [hw3] at c9
  clear hw3 IN
  have M0:=H
  have C1:=hide (fun w m (h1:RM w r g m st)=>begin_q h1 (zr 8) z8 (by omega))
  cases hq1:beginS st (zr 8) with
  | inl E =>
   rw [hq1] at C1
   clear hq1 hn 
   try simp only [bnd]
   try simp only [evs,zr,evE,evN,evNum,evFlag,evText,evFloat,evBytes,evTag] at C1
   go_enter Tryz.func102, Tryz.ntmps102
   go_wp2_with (go_at_call 96;refine (C1.out _ _ M0.out).mono ?_;rintro q w1 ⟨hp1,rfl,hp2⟩;have F1:=hide hp1;have M1:=hide hp2;clear hp1 hp2)
   exact ⟨rfl,⟨F1.out,rfl,M1.out⟩⟩
  | inr x1 =>
   rw [hq1] at C1
   try simp only [bnd]
   have N1:=facts_beginS hq1
   clear hq1
   have C2:=hide (fun w m (h1:RM w r g m x1)=>end_q h1 (by rw [N1.2.1];simp) (by have:=N1.1;omega))
   cases hq2:endS x1 with
   | inl E =>
    rw [hq2] at C2
    clear hq2 hn N1
    try simp only [bnd]
    try simp only [evs,zr,evE,evN,evNum,evFlag,evText,evFloat,evBytes,evTag] at C1 C2
    go_enter Tryz.func102, Tryz.ntmps102
    go_wp2_with (first
     | (go_at_call 96;refine (C1.out _ _ M0.out).mono ?_;rintro q w1 ⟨hp1,rfl,m1,hp2,hp3⟩;have F1:=hide hp1;have M1:=hide hp2;have O1:=hide hp3;clear hp1 hp2 hp3;have d9:=(M1.out.rd.cell 9).trans rfl;have g9:w1.frozen? ⟨r,9,none⟩=false:=M1.out.rd.frz 9;have d10:=(M1.out.rd.cell 10).trans rfl;have g10:w1.frozen? ⟨r,10,none⟩=false:=M1.out.rd.frz 10;simp only [St.rv] at d9 d10)
     | (go_at_call 127;refine (C2.out _ _ M1.out).mono ?_;rintro q w2 ⟨hp1,rfl,hp2⟩;have F2:=hide hp1;have M2:=hide hp2;clear hp1 hp2))
    exact ⟨rfl,RP.trans F1.out O1.out (⟨F2.out,rfl,M2.out⟩)⟩
   | inr x2 =>
    rw [hq2] at C2
    try simp only [bnd]
    have N2:=facts_endS hq2
    clear hq2
    have C3:=hide (fun w m (h1:RM w r g m x2)=>endValue_r h1 (by have:=N1.1;have:=N2.1;omega))
    obtain ⟨x3,hx3⟩:∃ x,endV x2=x:=⟨_,rfl⟩
    rw [hx3] at C3 ⊢
    clear hx3
    clear  hn N1 N2
    try simp only [evs,zr,evE,evN,evNum,evFlag,evText,evFloat,evBytes,evTag] at C1 C2 C3
    go_enter Tryz.func102, Tryz.ntmps102
    go_wp2_with (first
     | (go_at_call 96;refine (C1.out _ _ M0.out).mono ?_;rintro q w1 ⟨hp1,rfl,m1,hp2,hp3⟩;have F1:=hide hp1;have M1:=hide hp2;have O1:=hide hp3;clear hp1 hp2 hp3;have d9:=(M1.out.rd.cell 9).trans rfl;have g9:w1.frozen? ⟨r,9,none⟩=false:=M1.out.rd.frz 9;have d10:=(M1.out.rd.cell 10).trans rfl;have g10:w1.frozen? ⟨r,10,none⟩=false:=M1.out.rd.frz 10;simp only [St.rv] at d9 d10)
     | (go_at_call 127;refine (C2.out _ _ M1.out).mono ?_;rintro q w2 ⟨hp1,rfl,m2,hp2,hp3⟩;have F2:=hide hp1;have M2:=hide hp2;have O2:=hide hp3;clear hp1 hp2 hp3;have d9:=(M2.out.rd.cell 9).trans rfl;have g9:w2.frozen? ⟨r,9,none⟩=false:=M2.out.rd.frz 9;have d10:=(M2.out.rd.cell 10).trans rfl;have g10:w2.frozen? ⟨r,10,none⟩=false:=M2.out.rd.frz 10;simp only [St.rv] at d9 d10)
     | (go_at_call 91;refine (C3.out _ _ M2.out).mono ?_;rintro q w3 ⟨hp1,rfl,m3,hp2,hp3⟩;have F3:=hide hp1;have M3:=hide hp2;have O3:=hide hp3;clear hp1 hp2 hp3;have d9:=(M3.out.rd.cell 9).trans rfl;have g9:w3.frozen? ⟨r,9,none⟩=false:=M3.out.rd.frz 9;have d10:=(M3.out.rd.cell 10).trans rfl;have g10:w3.frozen? ⟨r,10,none⟩=false:=M3.out.rd.frz 10;simp only [St.rv] at d9 d10))
    go_end0
    exact RP.trans F1.out O1.out (RP.trans F2.out O2.out (⟨F3.out,rfl,m3,M3.out,O3.out⟩))
 rw [if_neg hw3]
 by_cases hw2:st.wait=2
 ·rw [hw2] at c9
  by_cases hk:lastK st.ks=8
  ·rw [if_pos ⟨hw2,hk⟩]
   have hks:=lastK_ne hk (by decide)
   rw [hk] at IN
   have hw2:=hide hw2
   clear hw3 hk
   have C1:=hide (fun w m (h1:RM w r g m st)=>end_q h1 hks (by omega))
   cases hq1:endS st with
   | inl E =>
    rw [hq1] at C1
    clear hq1 hn hks 
    try simp only [bnd]
    try simp only [evs,zr,evE,evN,evNum,evFlag,evText,evFloat,evBytes,evTag] at C1
    go_enter Tryz.func102, Tryz.ntmps102
    go_wp2_with (first
     | (go_at_call 121;refine IN.out.mono ?_;rintro e w0 ⟨rfl,k0,hw0⟩;have M0:=hide (H.out.then (W1:=w0) (by rw [hw0];exact dn_b _ _));have F0:Hid (RF g m W w0):=RF.of (by rw [hw0];exact dn_b _ _) H.out.lo;clear hw0;have d9:w0.cell? ⟨r,9,none⟩=some (.int .i64 2):=(M0.out.rd.cell 9).trans (by rw [show (st.rv g m).cells[9]?=some (.int .i64 st.wait) from rfl,hw2.out];rfl);have g9:w0.frozen? ⟨r,9,none⟩=false:=M0.out.rd.frz 9)
     | (go_at_call 127;refine (C1.out _ _ M0.out).mono ?_;rintro q w1 ⟨hp1,rfl,hp2⟩;have F1:=hide hp1;have M1:=hide hp2;clear hp1 hp2))
    exact ⟨rfl,RP.trans F0.out (OM.refl _ _) (⟨F1.out,rfl,M1.out⟩)⟩
   | inr x1 =>
    rw [hq1] at C1
    try simp only [bnd]
    have N1:=facts_endS hq1
    clear hq1
    have C2:=hide (fun w m (h1:RM w r g m x1)=>endValue_r h1 (by have:=N1.1;omega))
    obtain ⟨x2,hx2⟩:∃ x,endV x1=x:=⟨_,rfl⟩
    rw [hx2] at C2 ⊢
    clear hx2
    clear  hn hks N1
    try simp only [evs,zr,evE,evN,evNum,evFlag,evText,evFloat,evBytes,evTag] at C1 C2
    go_enter Tryz.func102, Tryz.ntmps102
    go_wp2_with (first
     | (go_at_call 121;refine IN.out.mono ?_;rintro e w0 ⟨rfl,k0,hw0⟩;have M0:=hide (H.out.then (W1:=w0) (by rw [hw0];exact dn_b _ _));have F0:Hid (RF g m W w0):=RF.of (by rw [hw0];exact dn_b _ _) H.out.lo;clear hw0;have d9:w0.cell? ⟨r,9,none⟩=some (.int .i64 2):=(M0.out.rd.cell 9).trans (by rw [show (st.rv g m).cells[9]?=some (.int .i64 st.wait) from rfl,hw2.out];rfl);have g9:w0.frozen? ⟨r,9,none⟩=false:=M0.out.rd.frz 9)
     | (go_at_call 127;refine (C1.out _ _ M0.out).mono ?_;rintro q w1 ⟨hp1,rfl,m1,hp2,hp3⟩;have F1:=hide hp1;have M1:=hide hp2;have O1:=hide hp3;clear hp1 hp2 hp3;have d9:=(M1.out.rd.cell 9).trans rfl;have g9:w1.frozen? ⟨r,9,none⟩=false:=M1.out.rd.frz 9;have d10:=(M1.out.rd.cell 10).trans rfl;have g10:w1.frozen? ⟨r,10,none⟩=false:=M1.out.rd.frz 10;simp only [St.rv] at d9 d10)
     | (go_at_call 91;refine (C2.out _ _ M1.out).mono ?_;rintro q w2 ⟨hp1,rfl,m2,hp2,hp3⟩;have F2:=hide hp1;have M2:=hide hp2;have O2:=hide hp3;clear hp1 hp2 hp3;have d9:=(M2.out.rd.cell 9).trans rfl;have g9:w2.frozen? ⟨r,9,none⟩=false:=M2.out.rd.frz 9;have d10:=(M2.out.rd.cell 10).trans rfl;have g10:w2.frozen? ⟨r,10,none⟩=false:=M2.out.rd.frz 10;simp only [St.rv] at d9 d10))
    go_end0
    exact RP.trans F0.out (OM.refl _ _) (RP.trans F1.out O1.out (⟨F2.out,rfl,m2,M2.out,O2.out⟩))
  ·rw [if_neg (fun o=>hk o.2),if_neg (by omega)]
   have e8:(lastK st.ks==8)=false:=by simpa using hk
   have hw2:=hide hw2
   clear hw3 hk hn
   generalize lastK st.ks=k at IN e8
   go_enter Tryz.func102, Tryz.ntmps102
   go_wp2_with (go_at_call 121;refine IN.out.mono ?_;rintro e w0 ⟨rfl,k0,hw0⟩;have M0:=hide (H.out.then (W1:=w0) (by rw [hw0];exact dn_b _ _));have F0:Hid (RF g m W w0):=RF.of (by rw [hw0];exact dn_b _ _) H.out.lo;clear hw0;have d9:w0.cell? ⟨r,9,none⟩=some (.int .i64 2):=(M0.out.rd.cell 9).trans (by rw [show (st.rv g m).cells[9]?=some (.int .i64 st.wait) from rfl,hw2.out];rfl);have g9:w0.frozen? ⟨r,9,none⟩=false:=M0.out.rd.frz 9)
   exact ⟨rfl,RP.trans F0.out (OM.refl _ _) (RP.pan M0.out 70 0)⟩
 rw [if_neg (fun o=>hw2 o.1)]
 by_cases hw12:st.wait=12
 ·rw [if_pos hw12]
  rw [hw12] at c9
  clear hw2 hw3 hw12 IN
  have M0:=H
  have C1:=hide (fun w m (h1:RM w r g m st)=>endValue_r h1 (by omega))
  obtain ⟨x1,hx1⟩:∃ x,endV st=x:=⟨_,rfl⟩
  rw [hx1] at C1 ⊢
  clear hx1
  clear  hn 
  try simp only [evs,zr,evE,evN,evNum,evFlag,evText,evFloat,evBytes,evTag] at C1
  go_enter Tryz.func102, Tryz.ntmps102
  go_wp2_with (go_at_call 91;refine (C1.out _ _ M0.out).mono ?_;rintro q w1 ⟨hp1,rfl,m1,hp2,hp3⟩;have F1:=hide hp1;have M1:=hide hp2;have O1:=hide hp3;clear hp1 hp2 hp3;have d9:=(M1.out.rd.cell 9).trans rfl;have g9:w1.frozen? ⟨r,9,none⟩=false:=M1.out.rd.frz 9;have d10:=(M1.out.rd.cell 10).trans rfl;have g10:w1.frozen? ⟨r,10,none⟩=false:=M1.out.rd.frz 10;simp only [St.rv] at d9 d10)
  go_end0
  exact ⟨F1.out,rfl,m1,M1.out,O1.out⟩
 ·rw [if_neg hw12]
  have e2:((st.wait:Int)==2)=false:=by simp;omega
  have en2:((st.wait:Int) != 2)=true:=by simp;omega
  have e3:((st.wait:Int)==3)=false:=by simp;omega
  have en3:((st.wait:Int) != 3)=true:=by simp;omega
  have e12:((st.wait:Int)==12)=false:=by simp;omega
  have en12:((st.wait:Int) != 12)=true:=by simp;omega
  clear hw2 hw3 hw12 IN hn
  go_enter Tryz.func102, Tryz.ntmps102
  go_wp2_with fail
  exact ⟨rfl,RP.pan H.out 70 0⟩
theorem u8ne {c:UInt8} {v:Nat} (h:¬ c=UInt8.ofNat v):((c.toNat:Int)==(v:Int))=false:=by
 have:¬ (c.toNat:Int)=(v:Int):=fun e=>h (by
  have:c.toNat=v:=by omega
  rw [←this];simp)
 simpa using this
theorem RM.setp (h:RM W r g m st):RP W r g m (.inr {st with q:={st.q with place:=1} }) (.returned (.tuple #[])) (W.setCell ⟨r,4,none⟩ (.int .i64 1)):=by
 have F:RdF r m.held W (W.setCell ⟨r,4,none⟩ (.int .i64 1)):=RdF.refl.set 4 _
 exact ⟨RF.ofF h F,rfl,m,h.ofQ F (h.q.setp 1) (OB.refl _ _),OM.refl _ _⟩
set_option maxRecDepth 100000 in
theorem takeMark_r (h:RM W r g m st) (c:UInt8) (hk1:st.wait=1→st.ks≠[]) (hk11:st.wait=11→st.ks≠[]) (hn:st.n≤199980):Calls Tryz.prog 66 #[.pointer (some ⟨r,0,none⟩),.int .u8 c.toNat] W fun x w'=>RP W r g m (markS st c) x w':=by
 have H:=hide h
 have c4:W.cell? ⟨r,4,none⟩=some (.int .i64 st.q.place):=(h.rd.cell 4).trans rfl
 have f4:W.frozen? ⟨r,4,none⟩=false:=h.rd.frz 4
 clear h
 unfold markS
 by_cases hc34:c=34
 ·subst hc34
  rw [if_pos rfl]
  clear hk1 hk11 hn
  go_enter Tryz.func66, Tryz.ntmps66
  go_wp2
  go_end0
  exact H.out.setp
 rw [if_neg hc34]
 by_cases hc91:c=91
 ·subst hc91
  rw [if_pos rfl]
  clear hc34
  have C1:=hide (openList_r H.out hn)
  cases hq:openL st with
  | inl E =>
   rw [hq] at C1
   clear hq hk1 hk11 hn
   go_enter Tryz.func66, Tryz.ntmps66
   go_wp2_with (go_at_call 99;refine C1.out.mono ?_;rintro q w1 ⟨hp1,rfl,hp2⟩;have F1:=hide hp1;have M1:=hide hp2;clear hp1 hp2)
   exact ⟨rfl,F1.out,rfl,M1.out⟩
  | inr x =>
   rw [hq] at C1
   clear hq hk1 hk11 hn
   go_enter Tryz.func66, Tryz.ntmps66
   go_wp2_with (go_at_call 99;refine C1.out.mono ?_;rintro q w1 ⟨hp1,rfl,hp2⟩;have F1:=hide hp1;have M1:=hide hp2;clear hp1 hp2)
   go_end0
   exact ⟨F1.out,rfl,M1.out⟩
 rw [if_neg hc91]
 by_cases hc93:c=93
 ·subst hc93
  rw [if_pos rfl]
  clear hc34 hc91
  have C1:=hide (closeList_r H.out hk1 hk11 hn)
  cases hq:closeL st with
  | inl E =>
   rw [hq] at C1
   clear hq hk1 hk11 hn
   go_enter Tryz.func66, Tryz.ntmps66
   go_wp2_with (go_at_call 100;refine C1.out.mono ?_;rintro q w1 ⟨hp1,rfl,hp2⟩;have F1:=hide hp1;have M1:=hide hp2;clear hp1 hp2)
   exact ⟨rfl,F1.out,rfl,M1.out⟩
  | inr x =>
   rw [hq] at C1
   clear hq hk1 hk11 hn
   go_enter Tryz.func66, Tryz.ntmps66
   go_wp2_with (go_at_call 100;refine C1.out.mono ?_;rintro q w1 ⟨hp1,rfl,hp2⟩;have F1:=hide hp1;have M1:=hide hp2;clear hp1 hp2)
   go_end0
   exact ⟨F1.out,rfl,M1.out⟩
 rw [if_neg hc93]
 by_cases hc123:c=123
 ·subst hc123
  rw [if_pos rfl]
  clear hc34 hc91 hc93
  have C1:=hide (openObject_r H.out)
  cases hq:openO st with
  | inl E =>
   rw [hq] at C1
   clear hq hk1 hk11 hn
   go_enter Tryz.func66, Tryz.ntmps66
   go_wp2_with (go_at_call 101;refine C1.out.mono ?_;rintro q w1 ⟨hp1,rfl,hp2⟩;have F1:=hide hp1;have M1:=hide hp2;clear hp1 hp2)
   exact ⟨rfl,F1.out,rfl,M1.out⟩
  | inr x =>
   rw [hq] at C1
   clear hq hk1 hk11 hn
   go_enter Tryz.func66, Tryz.ntmps66
   go_wp2_with (go_at_call 101;refine C1.out.mono ?_;rintro q w1 ⟨hp1,rfl,hp2⟩;have F1:=hide hp1;have M1:=hide hp2;clear hp1 hp2)
   go_end0
   exact ⟨F1.out,rfl,M1.out⟩
 rw [if_neg hc123]
 by_cases hc125:c=125
 ·subst hc125
  rw [if_pos rfl]
  clear hc34 hc91 hc93 hc123
  have C1:=hide (closeObject_r H.out hn)
  cases hq:closeO st with
  | inl E =>
   rw [hq] at C1
   clear hq hk1 hk11 hn
   go_enter Tryz.func66, Tryz.ntmps66
   go_wp2_with (go_at_call 102;refine C1.out.mono ?_;rintro q w1 ⟨hp1,rfl,hp2⟩;have F1:=hide hp1;have M1:=hide hp2;clear hp1 hp2)
   exact ⟨rfl,F1.out,rfl,M1.out⟩
  | inr x =>
   rw [hq] at C1
   clear hq hk1 hk11 hn
   go_enter Tryz.func66, Tryz.ntmps66
   go_wp2_with (go_at_call 102;refine C1.out.mono ?_;rintro q w1 ⟨hp1,rfl,hp2⟩;have F1:=hide hp1;have M1:=hide hp2;clear hp1 hp2)
   go_end0
   exact ⟨F1.out,rfl,M1.out⟩
 rw [if_neg hc125]
 by_cases hc44:c=44
 ·subst hc44
  rw [if_pos rfl]
  clear hc34 hc91 hc93 hc123 hc125
  have C1:=hide (takeComma_r H.out (by omega))
  cases hq:commaS st with
  | inl E =>
   rw [hq] at C1
   clear hq hk1 hk11 hn
   go_enter Tryz.func66, Tryz.ntmps66
   go_wp2_with (go_at_call 103;refine C1.out.mono ?_;rintro q w1 ⟨hp1,rfl,hp2⟩;have F1:=hide hp1;have M1:=hide hp2;clear hp1 hp2)
   exact ⟨rfl,F1.out,rfl,M1.out⟩
  | inr x =>
   rw [hq] at C1
   clear hq hk1 hk11 hn
   go_enter Tryz.func66, Tryz.ntmps66
   go_wp2_with (go_at_call 103;refine C1.out.mono ?_;rintro q w1 ⟨hp1,rfl,hp2⟩;have F1:=hide hp1;have M1:=hide hp2;clear hp1 hp2)
   go_end0
   exact ⟨F1.out,rfl,M1.out⟩
 rw [if_neg hc44]
 by_cases hc58:c=58
 ·subst hc58
  rw [if_pos rfl]
  clear hc34 hc91 hc93 hc123 hc125 hc44
  have C1:=hide (takeColon_r H.out)
  cases hq:colonS st with
  | inl E =>
   rw [hq] at C1
   clear hq hk1 hk11 hn
   go_enter Tryz.func66, Tryz.ntmps66
   go_wp2_with (go_at_call 104;refine C1.out.mono ?_;rintro q w1 ⟨hp1,rfl,hp2⟩;have F1:=hide hp1;have M1:=hide hp2;clear hp1 hp2)
   exact ⟨rfl,F1.out,rfl,M1.out⟩
  | inr x =>
   rw [hq] at C1
   clear hq hk1 hk11 hn
   go_enter Tryz.func66, Tryz.ntmps66
   go_wp2_with (go_at_call 104;refine C1.out.mono ?_;rintro q w1 ⟨hp1,rfl,hp2⟩;have F1:=hide hp1;have M1:=hide hp2;clear hp1 hp2)
   go_end0
   exact ⟨F1.out,rfl,M1.out⟩
 rw [if_neg hc58]
 have e34:((c.toNat:Int)==34)=false:=u8ne hc34
 have e91:((c.toNat:Int)==91)=false:=u8ne hc91
 have e93:((c.toNat:Int)==93)=false:=u8ne hc93
 have e123:((c.toNat:Int)==123)=false:=u8ne hc123
 have e125:((c.toNat:Int)==125)=false:=u8ne hc125
 have e44:((c.toNat:Int)==44)=false:=u8ne hc44
 have e58:((c.toNat:Int)==58)=false:=u8ne hc58
 clear hk1 hk11 hn hc34 hc91 hc93 hc123 hc125 hc44 hc58
 go_enter Tryz.func66, Tryz.ntmps66
 go_wp2
 go_end0
 exact RP.same H.out 0
end
theorem app_b {w:World} {ops:Array Oper} {rest:List Oper} {o:Oper} {a:Act} {Q:Exit→Act→World→Prop} (hgd:o.guard=none) (s x:Operand) (ho:o.op=.call {callee:=.builtin .append,args:=#[s,x],argTypes:=#[32,32]})
  (B:Nat) (v:Value) (l:List UInt8) (hs:a.eval s=v) (hown:Own w B v l) (ad:Addr) (c:Nat) (hx:a.eval x=.slice (some ad) 1 c) (k:UInt8)
  (hnews:∀ j u,[Value.int .u8 (k.toNat:Int)][j]?=some u→w.cell? (ad.add j)=some u) (hm:l.length≤300000) (hB:B≤w.heap.size)
  (h:∀ av c' w',Hid (Own w' B (.slice av (l.length + 1) c') (l++[k]))→Hid (w.grownBy w' v.ownBlock)→Hid ((Value.slice av (l.length + 1) c').ownBlock=v.ownBlock∨(Value.slice av (l.length + 1) c').ownBlock=some w.heap.size)→wpList Tryz.prog ops Q rest (a.put o.dst (.slice av (l.length + 1) c')) w'):wpList Tryz.prog ops Q (o :: rest) a w:=by
 obtain ⟨i0,hi,hz0,hz1,hz2⟩:=info_parts info5
 refine wpList_append_own_at w hgd s x 32 ho B 5 i0 _ 1 1 Tryz.underlying32 hi hz0 hz1 hz2 rfl (by decide) v l.length (bcs l) hs hown ad 1 c [.int .u8 k.toNat] hx rfl hnews ?_ ?_ ?_ hB ?_
 ·intro u hu
  simp only [List.mem_cons,List.not_mem_nil,or_false] at hu
  subst hu;rfl
 ·unfold maxLen;omega
 ·omega
 ·intro v' w' h1 h2 h3 h4
  have h1':Own w' B v' (l++[k]):=by
   unfold Own
   rw [bcs_append,List.length_append,List.length_singleton]
   exact h1
  rcases h1.2 with ⟨rfl,e⟩|⟨g',cap,cur,rfl,_⟩
  ·omega
  ·exact h _ _ w' h1' h2 h4
theorem news1b (w W:World) (T:TypeId) (k:Int) (hW:W.heap=(w.alloc (.cells #[.int .u8 k] T)).heap):∀ j u,[Value.int .u8 k][j]?=some u→W.cell? ((⟨w.heap.size,0,none⟩:Addr).add j)=some u:=by
 intro j u hj
 rw [show W.cell? ((⟨w.heap.size,0,none⟩:Addr).add j)=(w.alloc (.cells #[.int .u8 k] T)).cell? ((⟨w.heap.size,0,none⟩:Addr).add j) by unfold World.cell?;rw [hW]]
 exact cell_one_new w _ T j u hj
section
variable {W W1 W2 : World} {r : Nat} {g : Gv} {m : Mv} {st : St}
theorem RM.shW (h:RM W r g m st):∃ a c,m.word=.slice a st.word.length c:=by
 rcases h.word.2 with ⟨e1,e⟩|⟨g,cap,cur,e1,_⟩
 ·exact ⟨none,0,by rw [e1,e]⟩
 ·exact ⟨_,_,e1⟩
theorem RM.pushW (h:RM W r g m st) {v v':Value} {k:UInt8} (hT:m.word=v) (hb:Below W.heap.size W W1) (hg:W1.grownBy W2 v.ownBlock) (ho:Own W2 (r + 1) v' (st.word++[k])) (hat:v'.ownBlock=v.ownBlock∨v'.ownBlock=some W1.heap.size) (hl:st.word.length + 1≤512) :
  RP W r g m (.inr {st with word:=st.word++[k]}) (.returned (.tuple #[])) (W2.setCell ⟨r,3,none⟩ v'):=by
 subst hT
 have hlt:=h.lt
 have hll:=World.ownsRow.lt h.word
 have F:RdF r m.word W (W2.setCell ⟨r,3,none⟩ v'):=((RdF.refl.then hb (Nat.le_of_lt hlt)).grown hg (by have:=hb.size;omega) (fun k hk=>by have:=(hll k hk).1;omega)).set 3 _
 have hr2:RdB W2 r (st.rv g m):=(h.rd.same (hb.block r hlt)).same (hg.block r (by have:=hb.size;omega) (fun q=>by have:=(hll r q.symm).1;omega))
 have ob:OB W m.word v':=by
  rcases hat with e|e
  ·exact Or.inl e
  ·exact Or.inr fun k hk=>by rw [e] at hk;cases hk;exact hb.size
 exact ⟨RF.ofWord h F,rfl,{m with word:=v' },h.ofWord F (hr2.set 3 _ _ rfl) (own_of ho fun k hk _=>Below.heap_setCell _ _ _ _ (by have:=(World.ownsRow.lt ho k hk).1;show k≠r;omega)) (by simpa using hl) ob,⟨ob,OB.refl _ _,OB.refl _ _⟩⟩
theorem RM.setn (h:RM W r g m st) (a b k:Nat):RP W r g m (.inr {st with wait:=a,behind:=b}) (.returned (.tuple #[])) (((W.drewN k).setCell ⟨r,9,none⟩ (.int .i64 a)).setCell ⟨r,10,none⟩ (.int .i64 b)):=by
 have ho:RdO r W (((W.drewN k).setCell ⟨r,9,none⟩ (.int .i64 a)).setCell ⟨r,10,none⟩ (.int .i64 b)) :=
  ⟨(RdO.set9 (W:=W) (r:=r) _ k).1.setCell (p:=⟨r,10,none⟩) (Nat.le_refl _) _,fun q hl hq=>(Below.heap_setCell _ _ _ _ hq).trans ((RdO.set9 (W:=W) (r:=r) _ k).2 q hl hq)⟩
 exact ⟨RF.ofO h ho,rfl,m,h.sc (RdB.set (RdB.set (W:=W.drewN k) (h.rd.same rfl) 9 (.int .i64 a) (({st with wait:=a}:St).rv g m) rfl) 10 _ _ rfl) ho,OM.refl _ _⟩
set_option maxRecDepth 100000 in
theorem holdWord_r (h:RM W r g m st) (c:UInt8):Calls Tryz.prog 64 #[.pointer (some ⟨r,0,none⟩),.int .u8 c.toNat] W fun x w'=>RP W r g m (holdS st c) x w':=by
 have hlt:=h.lt
 obtain ⟨wa,wc,hw⟩:=h.shW
 have c3:W.cell? ⟨r,3,none⟩=some (.slice wa st.word.length wc):=(h.rd.cell 3).trans (by rw [←hw];rfl)
 have f3:W.frozen? ⟨r,3,none⟩=false:=h.rd.frz 3
 have wl:=h.wl
 have O:=h.word
 rw [hw] at O
 have O':=hide O
 have H:=hide h
 have Hw:=hide hw
 clear h hw O
 unfold holdS
 by_cases hl:st.word.length=512
 ·rw [if_pos hl]
  rw [hl] at c3
  clear hl
  go_enter Tryz.func64, Tryz.ntmps64
  go_wp2_with fail
  exact ⟨rfl,RP.pan H.out 2 0⟩
 ·rw [if_neg hl]
  have e5:((st.word.length:Int)==512)=false:=by simp;omega
  have hl5:Hid (st.word.length + 1≤512):=(by omega:st.word.length + 1≤512)
  clear hl wl
  go_enter Tryz.func64, Tryz.ntmps64
  have gk:=hide H.out.gk
  have hl6:st.word.length≤512:=H.out.wl
  go_wp2_with (at_builtin;refine Sto.out ?_)
  refine Sto.mk ?_
  refine app_b rfl (.tmp 15) (.tmp 17) rfl (r + 1) (.slice wa st.word.length wc) st.word rfl (own_of O'.out fun k hk hlt=>Below.heap_alloc _ _ _ hlt) ⟨W.heap.size,0,none⟩ 1 rfl c (news1b W _ _ c.toNat rfl) (by omega) (by simp;omega) ?_
  intro av5 c5 w5 ho5 hg5 hat5
  have P5:=hide (H.out.pushW (k:=c) Hw.out (below_al (Below.refl _ _)) hg5.out ho5.out hat5.out hl5.out)
  have K5:RdB w5 r _:=((H.out.then (below_al (Below.refl _ _))).rd.same (hg5.out.block r (by simp;omega) (fun e=>by have:=(World.ownsRow.lt O'.out r e.symm).1;omega)))
  have l3:=(K5.cell 3).trans (show _=some (.slice wa st.word.length wc) by rw [←Hw.out];rfl)
  have n3:w5.frozen? ⟨r,3,none⟩=false:=K5.frz 3
  clear c3 f3 K5
  go_wp2_with fail
  go_end0
  exact P5.out
end
end Go.Proofs.YtpimjkdakjhoaaaGreatDoor
