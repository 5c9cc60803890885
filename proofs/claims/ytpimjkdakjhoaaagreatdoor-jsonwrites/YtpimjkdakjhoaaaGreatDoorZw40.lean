/- Merged by program: KtWord, KuFin. -/
import Derived.Test.YtpimjkdakjhoaaaGreatDoorZw39
namespace Go.Proofs.YtpimjkdakjhoaaaGreatDoor
open Go.RowKit
set_option linter.unusedSimpArgs false
set_option linter.unusedVariables false
set_option maxHeartbeats 8000000
section
variable {W W1 W2 : World} {r : Nat} {g : Gv} {m : Mv} {st : St}
theorem zFl (b:Bool):EvZ (evFlag b):=⟨by show (ByteArray.size ⟨#[]⟩)≤_;decide,by show (ByteArray.size ⟨#[]⟩)≤_;decide,rfl⟩
theorem wordE_other {s:ByteArray} (h1:¬ s=nullB) (h2:¬ s=trueB) (h3:¬ s=falseB):wordE st s=numS st s:=by
 unfold wordE
 rw [if_neg h1,if_neg h2,if_neg h3]
set_option maxRecDepth 100000 in
theorem takeWord_r (h:RM W r g m st) (s:ByteArray) (hs:s.size≤100000) (hn:st.n≤199980):Calls Tryz.prog 98 #[.pointer (some ⟨r,0,none⟩),.string s] W fun x w'=>RP W r g m (wordS st s) x w':=by
 have H:=hide h
 have c9:W.cell? ⟨r,9,none⟩=some (.int .i64 st.wait):=(h.rd.cell 9).trans rfl
 have f9:W.frozen? ⟨r,9,none⟩=false:=h.rd.frz 9
 clear h
 unfold wordS
 by_cases hw0:st.wait=0
 ·rw [if_pos (Or.inl hw0)]
  rw [hw0] at c9
  clear hw0
  by_cases h1:s=nullB
  ·have hE:wordE st s=.inr (zr 1,st):=by
    unfold wordE
    rw [if_pos h1]
   rw [hE]
   subst h1
   simp only [bnd]
   clear hE hs
   simp only [nullB]
   have M0:=H
   have C1:=hide (fun w m (h1:RM w r g m st)=>tell_q h1 (zr 1) (z1) (by omega))
   cases hq1:tellS st (zr 1) with
   | inl E =>
    rw [hq1] at C1
    clear hq1 hn 
    try simp only [bnd]
    try simp only [evs,zr,evE,evN,evNum,evFlag,evText,evFloat,evBytes,evTag] at C1
    go_enter Tryz.func98, Tryz.ntmps98
    go_wp2_with (go_at_call 90;refine (C1.out _ _ M0.out).mono ?_;rintro q w1 ⟨hp1,rfl,hp2⟩;have F1:=hide hp1;have M1:=hide hp2;clear hp1 hp2)
    exact ⟨rfl,⟨F1.out,rfl,M1.out⟩⟩
   | inr x1 =>
    rw [hq1] at C1
    try simp only [bnd]
    have N1:=facts_tellS hq1
    clear hq1
    have C2:=hide (fun w m (h1:RM w r g m x1)=>endValue_r h1 (by have:=N1.1;omega))
    obtain ⟨x2,hx2⟩:∃ x,endV x1=x:=⟨_,rfl⟩
    rw [hx2] at C2 ⊢
    clear hx2
    clear  hn N1
    try simp only [evs,zr,evE,evN,evNum,evFlag,evText,evFloat,evBytes,evTag] at C1 C2
    go_enter Tryz.func98, Tryz.ntmps98
    go_wp2_with (first
     | (go_at_call 90;refine (C1.out _ _ M0.out).mono ?_;rintro q w1 ⟨hp1,rfl,m1,hp2,hp3⟩;have F1:=hide hp1;have M1:=hide hp2;have O1:=hide hp3;clear hp1 hp2 hp3;have d9:=(M1.out.rd.cell 9).trans rfl;have g9:w1.frozen? ⟨r,9,none⟩=false:=M1.out.rd.frz 9;have d10:=(M1.out.rd.cell 10).trans rfl;have g10:w1.frozen? ⟨r,10,none⟩=false:=M1.out.rd.frz 10;simp only [St.rv] at d9 d10)
     | (go_at_call 91;refine (C2.out _ _ M1.out).mono ?_;rintro q w2 ⟨hp1,rfl,m2,hp2,hp3⟩;have F2:=hide hp1;have M2:=hide hp2;have O2:=hide hp3;clear hp1 hp2 hp3;have d9:=(M2.out.rd.cell 9).trans rfl;have g9:w2.frozen? ⟨r,9,none⟩=false:=M2.out.rd.frz 9;have d10:=(M2.out.rd.cell 10).trans rfl;have g10:w2.frozen? ⟨r,10,none⟩=false:=M2.out.rd.frz 10;simp only [St.rv] at d9 d10))
    go_end0
    exact RP.trans F1.out O1.out (⟨F2.out,rfl,m2,M2.out,O2.out⟩)
  by_cases h2:s=trueB
  ·have hE:wordE st s=.inr (evFlag true,st):=by
    unfold wordE
    rw [if_neg h1,if_pos h2]
   rw [hE]
   subst h2
   simp only [bnd]
   clear hE hs h1
   simp only [trueB]
   have M0:=H
   have C1:=hide (fun w m (h1:RM w r g m st)=>tell_q h1 (evFlag true) (zFl true) (by omega))
   cases hq1:tellS st (evFlag true) with
   | inl E =>
    rw [hq1] at C1
    clear hq1 hn 
    try simp only [bnd]
    try simp only [evs,zr,evE,evN,evNum,evFlag,evText,evFloat,evBytes,evTag] at C1
    go_enter Tryz.func98, Tryz.ntmps98
    go_wp2_with (go_at_call 90;refine (C1.out _ _ M0.out).mono ?_;rintro q w1 ⟨hp1,rfl,hp2⟩;have F1:=hide hp1;have M1:=hide hp2;clear hp1 hp2)
    exact ⟨rfl,⟨F1.out,rfl,M1.out⟩⟩
   | inr x1 =>
    rw [hq1] at C1
    try simp only [bnd]
    have N1:=facts_tellS hq1
    clear hq1
    have C2:=hide (fun w m (h1:RM w r g m x1)=>endValue_r h1 (by have:=N1.1;omega))
    obtain ⟨x2,hx2⟩:∃ x,endV x1=x:=⟨_,rfl⟩
    rw [hx2] at C2 ⊢
    clear hx2
    clear  hn N1
    try simp only [evs,zr,evE,evN,evNum,evFlag,evText,evFloat,evBytes,evTag] at C1 C2
    go_enter Tryz.func98, Tryz.ntmps98
    go_wp2_with (first
     | (go_at_call 90;refine (C1.out _ _ M0.out).mono ?_;rintro q w1 ⟨hp1,rfl,m1,hp2,hp3⟩;have F1:=hide hp1;have M1:=hide hp2;have O1:=hide hp3;clear hp1 hp2 hp3;have d9:=(M1.out.rd.cell 9).trans rfl;have g9:w1.frozen? ⟨r,9,none⟩=false:=M1.out.rd.frz 9;have d10:=(M1.out.rd.cell 10).trans rfl;have g10:w1.frozen? ⟨r,10,none⟩=false:=M1.out.rd.frz 10;simp only [St.rv] at d9 d10)
     | (go_at_call 91;refine (C2.out _ _ M1.out).mono ?_;rintro q w2 ⟨hp1,rfl,m2,hp2,hp3⟩;have F2:=hide hp1;have M2:=hide hp2;have O2:=hide hp3;clear hp1 hp2 hp3;have d9:=(M2.out.rd.cell 9).trans rfl;have g9:w2.frozen? ⟨r,9,none⟩=false:=M2.out.rd.frz 9;have d10:=(M2.out.rd.cell 10).trans rfl;have g10:w2.frozen? ⟨r,10,none⟩=false:=M2.out.rd.frz 10;simp only [St.rv] at d9 d10))
    go_end0
    exact RP.trans F1.out O1.out (⟨F2.out,rfl,m2,M2.out,O2.out⟩)
  by_cases h3:s=falseB
  ·have hE:wordE st s=.inr (evFlag false,st):=by
    unfold wordE
    rw [if_neg h1,if_neg h2,if_pos h3]
   rw [hE]
   subst h3
   simp only [bnd]
   clear hE hs h1 h2
   simp only [falseB]
   have M0:=H
   have C1:=hide (fun w m (h1:RM w r g m st)=>tell_q h1 (evFlag false) (zFl false) (by omega))
   cases hq1:tellS st (evFlag false) with
   | inl E =>
    rw [hq1] at C1
    clear hq1 hn 
    try simp only [bnd]
    try simp only [evs,zr,evE,evN,evNum,evFlag,evText,evFloat,evBytes,evTag] at C1
    go_enter Tryz.func98, Tryz.ntmps98
    go_wp2_with (go_at_call 90;refine (C1.out _ _ M0.out).mono ?_;rintro q w1 ⟨hp1,rfl,hp2⟩;have F1:=hide hp1;have M1:=hide hp2;clear hp1 hp2)
    exact ⟨rfl,⟨F1.out,rfl,M1.out⟩⟩
   | inr x1 =>
    rw [hq1] at C1
    try simp only [bnd]
    have N1:=facts_tellS hq1
    clear hq1
    have C2:=hide (fun w m (h1:RM w r g m x1)=>endValue_r h1 (by have:=N1.1;omega))
    obtain ⟨x2,hx2⟩:∃ x,endV x1=x:=⟨_,rfl⟩
    rw [hx2] at C2 ⊢
    clear hx2
    clear  hn N1
    try simp only [evs,zr,evE,evN,evNum,evFlag,evText,evFloat,evBytes,evTag] at C1 C2
    go_enter Tryz.func98, Tryz.ntmps98
    go_wp2_with (first
     | (go_at_call 90;refine (C1.out _ _ M0.out).mono ?_;rintro q w1 ⟨hp1,rfl,m1,hp2,hp3⟩;have F1:=hide hp1;have M1:=hide hp2;have O1:=hide hp3;clear hp1 hp2 hp3;have d9:=(M1.out.rd.cell 9).trans rfl;have g9:w1.frozen? ⟨r,9,none⟩=false:=M1.out.rd.frz 9;have d10:=(M1.out.rd.cell 10).trans rfl;have g10:w1.frozen? ⟨r,10,none⟩=false:=M1.out.rd.frz 10;simp only [St.rv] at d9 d10)
     | (go_at_call 91;refine (C2.out _ _ M1.out).mono ?_;rintro q w2 ⟨hp1,rfl,m2,hp2,hp3⟩;have F2:=hide hp1;have M2:=hide hp2;have O2:=hide hp3;clear hp1 hp2 hp3;have d9:=(M2.out.rd.cell 9).trans rfl;have g9:w2.frozen? ⟨r,9,none⟩=false:=M2.out.rd.frz 9;have d10:=(M2.out.rd.cell 10).trans rfl;have g10:w2.frozen? ⟨r,10,none⟩=false:=M2.out.rd.frz 10;simp only [St.rv] at d9 d10))
    go_end0
    exact RP.trans F1.out O1.out (⟨F2.out,rfl,m2,M2.out,O2.out⟩)
  rw [wordE_other h1 h2 h3]
  have n1:=ba_neq h1
  have n2:=ba_neq h2
  have n3:=ba_neq h3
  simp only [nullB,trueB,falseB] at n1 n2 n3
  have WZ:=fun x (hx:numS st s=.inr x)=>wordE_z (show wordE st s=.inr x by rw [wordE_other h1 h2 h3];exact hx)
  clear h1 h2 h3
  have C1:=hide (number_r H.out s hs)
  cases hq1:numS st s with
  | inl E =>
   rw [hq1] at C1
   clear hq1 hs hn WZ
   simp only [bnd]
   go_enter Tryz.func98, Tryz.ntmps98
   go_wp2_with (go_at_call 126;refine C1.out.mono ?_;rintro q w1 ⟨hp1,rfl,hp2⟩;have F1:=hide hp1;have M1:=hide hp2;clear hp1 hp2)
   exact ⟨rfl,F1.out,rfl,M1.out⟩
  | inr x1 =>
   obtain ⟨e1,y1⟩:=x1
   rw [hq1] at C1
   obtain ⟨hz1,hyn,_⟩:=WZ _ hq1
   simp only at hz1 hyn
   clear hq1 WZ hs
   simp only [bnd]
   have C2:=hide (fun w m (h1:RM w r g m y1)=>tell_q h1 e1 hz1 (by omega))
   clear hz1
   cases hq2:tellS y1 e1 with
   | inl E =>
    rw [hq2] at C2
    clear hq2 hn hyn
    simp only [NP,evs] at C1 C2
    go_enter Tryz.func98, Tryz.ntmps98
    go_wp2_with (first|(go_at_call 126;refine C1.out.mono ?_;rintro q w1 ⟨hp1,rfl,m1,hp2,hp3⟩;have F1:=hide hp1;have M1:=hide hp2;have O1:=hide hp3;clear hp1 hp2 hp3)|(go_at_call 90;refine (C2.out _ _ M1.out).mono ?_;rintro q w2 ⟨hp1,rfl,hp2⟩;have F2:=hide hp1;have M2:=hide hp2;clear hp1 hp2))
    exact ⟨rfl,RP.trans F1.out O1.out ⟨F2.out,rfl,M2.out⟩⟩
   | inr x2 =>
    rw [hq2] at C2
    have N2:=facts_tellS hq2
    clear hq2
    have C3:=hide (fun w m (h1:RM w r g m x2)=>endValue_r h1 (by have:=N2.1;omega))
    obtain ⟨x3,hx3⟩:∃ x,endV x2=x:=⟨_,rfl⟩
    simp only at C3 ⊢
    rw [hx3] at C3 ⊢
    clear hx3 N2 hn hyn
    simp only [NP,evs] at C1 C2
    go_enter Tryz.func98, Tryz.ntmps98
    go_wp2_with (first|(go_at_call 126;refine C1.out.mono ?_;rintro q w1 ⟨hp1,rfl,m1,hp2,hp3⟩;have F1:=hide hp1;have M1:=hide hp2;have O1:=hide hp3;clear hp1 hp2 hp3)|(go_at_call 90;refine (C2.out _ _ M1.out).mono ?_;rintro q w2 ⟨hp1,rfl,m2,hp2,hp3⟩;have F2:=hide hp1;have M2:=hide hp2;have O2:=hide hp3;clear hp1 hp2 hp3;have d9:=(M2.out.rd.cell 9).trans rfl;have g9:w2.frozen? ⟨r,9,none⟩=false:=M2.out.rd.frz 9;have d10:=(M2.out.rd.cell 10).trans rfl;have g10:w2.frozen? ⟨r,10,none⟩=false:=M2.out.rd.frz 10;simp only [St.rv] at d9 d10)|(go_at_call 91;refine (C3.out _ _ M2.out).mono ?_;rintro q w3 ⟨hp1,rfl,m3,hp2,hp3⟩;have F3:=hide hp1;have M3:=hide hp2;have O3:=hide hp3;clear hp1 hp2 hp3;have d9:=(M3.out.rd.cell 9).trans rfl;have g9:w3.frozen? ⟨r,9,none⟩=false:=M3.out.rd.frz 9;have d10:=(M3.out.rd.cell 10).trans rfl;have g10:w3.frozen? ⟨r,10,none⟩=false:=M3.out.rd.frz 10;simp only [St.rv] at d9 d10))
    go_end0
    exact RP.trans F1.out O1.out (RP.trans F2.out O2.out ⟨F3.out,rfl,m3,M3.out,O3.out⟩)
 by_cases hw1:st.wait=1
 ·rw [if_pos (Or.inr hw1)]
  rw [hw1] at c9
  clear hw0 hw1
  by_cases h1:s=nullB
  ·have hE:wordE st s=.inr (zr 1,st):=by
    unfold wordE
    rw [if_pos h1]
   rw [hE]
   subst h1
   simp only [bnd]
   clear hE hs
   simp only [nullB]
   have M0:=H
   have C1:=hide (fun w m (h1:RM w r g m st)=>tell_q h1 (zr 1) (z1) (by omega))
   cases hq1:tellS st (zr 1) with
   | inl E =>
    rw [hq1] at C1
    clear hq1 hn 
    try simp only [bnd]
    try simp only [evs,zr,evE,evN,evNum,evFlag,evText,evFloat,evBytes,evTag] at C1
    go_enter Tryz.func98, Tryz.ntmps98
    go_wp2_with (go_at_call 90;refine (C1.out _ _ M0.out).mono ?_;rintro q w1 ⟨hp1,rfl,hp2⟩;have F1:=hide hp1;have M1:=hide hp2;clear hp1 hp2)
    exact ⟨rfl,⟨F1.out,rfl,M1.out⟩⟩
   | inr x1 =>
    rw [hq1] at C1
    try simp only [bnd]
    have N1:=facts_tellS hq1
    clear hq1
    have C2:=hide (fun w m (h1:RM w r g m x1)=>endValue_r h1 (by have:=N1.1;omega))
    obtain ⟨x2,hx2⟩:∃ x,endV x1=x:=⟨_,rfl⟩
    rw [hx2] at C2 ⊢
    clear hx2
    clear  hn N1
    try simp only [evs,zr,evE,evN,evNum,evFlag,evText,evFloat,evBytes,evTag] at C1 C2
    go_enter Tryz.func98, Tryz.ntmps98
    go_wp2_with (first
     | (go_at_call 90;refine (C1.out _ _ M0.out).mono ?_;rintro q w1 ⟨hp1,rfl,m1,hp2,hp3⟩;have F1:=hide hp1;have M1:=hide hp2;have O1:=hide hp3;clear hp1 hp2 hp3;have d9:=(M1.out.rd.cell 9).trans rfl;have g9:w1.frozen? ⟨r,9,none⟩=false:=M1.out.rd.frz 9;have d10:=(M1.out.rd.cell 10).trans rfl;have g10:w1.frozen? ⟨r,10,none⟩=false:=M1.out.rd.frz 10;simp only [St.rv] at d9 d10)
     | (go_at_call 91;refine (C2.out _ _ M1.out).mono ?_;rintro q w2 ⟨hp1,rfl,m2,hp2,hp3⟩;have F2:=hide hp1;have M2:=hide hp2;have O2:=hide hp3;clear hp1 hp2 hp3;have d9:=(M2.out.rd.cell 9).trans rfl;have g9:w2.frozen? ⟨r,9,none⟩=false:=M2.out.rd.frz 9;have d10:=(M2.out.rd.cell 10).trans rfl;have g10:w2.frozen? ⟨r,10,none⟩=false:=M2.out.rd.frz 10;simp only [St.rv] at d9 d10))
    go_end0
    exact RP.trans F1.out O1.out (⟨F2.out,rfl,m2,M2.out,O2.out⟩)
  by_cases h2:s=trueB
  ·have hE:wordE st s=.inr (evFlag true,st):=by
    unfold wordE
    rw [if_neg h1,if_pos h2]
   rw [hE]
   subst h2
   simp only [bnd]
   clear hE hs h1
   simp only [trueB]
   have M0:=H
   have C1:=hide (fun w m (h1:RM w r g m st)=>tell_q h1 (evFlag true) (zFl true) (by omega))
   cases hq1:tellS st (evFlag true) with
   | inl E =>
    rw [hq1] at C1
    clear hq1 hn 
    try simp only [bnd]
    try simp only [evs,zr,evE,evN,evNum,evFlag,evText,evFloat,evBytes,evTag] at C1
    go_enter Tryz.func98, Tryz.ntmps98
    go_wp2_with (go_at_call 90;refine (C1.out _ _ M0.out).mono ?_;rintro q w1 ⟨hp1,rfl,hp2⟩;have F1:=hide hp1;have M1:=hide hp2;clear hp1 hp2)
    exact ⟨rfl,⟨F1.out,rfl,M1.out⟩⟩
   | inr x1 =>
    rw [hq1] at C1
    try simp only [bnd]
    have N1:=facts_tellS hq1
    clear hq1
    have C2:=hide (fun w m (h1:RM w r g m x1)=>endValue_r h1 (by have:=N1.1;omega))
    obtain ⟨x2,hx2⟩:∃ x,endV x1=x:=⟨_,rfl⟩
    rw [hx2] at C2 ⊢
    clear hx2
    clear  hn N1
    try simp only [evs,zr,evE,evN,evNum,evFlag,evText,evFloat,evBytes,evTag] at C1 C2
    go_enter Tryz.func98, Tryz.ntmps98
    go_wp2_with (first
     | (go_at_call 90;refine (C1.out _ _ M0.out).mono ?_;rintro q w1 ⟨hp1,rfl,m1,hp2,hp3⟩;have F1:=hide hp1;have M1:=hide hp2;have O1:=hide hp3;clear hp1 hp2 hp3;have d9:=(M1.out.rd.cell 9).trans rfl;have g9:w1.frozen? ⟨r,9,none⟩=false:=M1.out.rd.frz 9;have d10:=(M1.out.rd.cell 10).trans rfl;have g10:w1.frozen? ⟨r,10,none⟩=false:=M1.out.rd.frz 10;simp only [St.rv] at d9 d10)
     | (go_at_call 91;refine (C2.out _ _ M1.out).mono ?_;rintro q w2 ⟨hp1,rfl,m2,hp2,hp3⟩;have F2:=hide hp1;have M2:=hide hp2;have O2:=hide hp3;clear hp1 hp2 hp3;have d9:=(M2.out.rd.cell 9).trans rfl;have g9:w2.frozen? ⟨r,9,none⟩=false:=M2.out.rd.frz 9;have d10:=(M2.out.rd.cell 10).trans rfl;have g10:w2.frozen? ⟨r,10,none⟩=false:=M2.out.rd.frz 10;simp only [St.rv] at d9 d10))
    go_end0
    exact RP.trans F1.out O1.out (⟨F2.out,rfl,m2,M2.out,O2.out⟩)
  by_cases h3:s=falseB
  ·have hE:wordE st s=.inr (evFlag false,st):=by
    unfold wordE
    rw [if_neg h1,if_neg h2,if_pos h3]
   rw [hE]
   subst h3
   simp only [bnd]
   clear hE hs h1 h2
   simp only [falseB]
   have M0:=H
   have C1:=hide (fun w m (h1:RM w r g m st)=>tell_q h1 (evFlag false) (zFl false) (by omega))
   cases hq1:tellS st (evFlag false) with
   | inl E =>
    rw [hq1] at C1
    clear hq1 hn 
    try simp only [bnd]
    try simp only [evs,zr,evE,evN,evNum,evFlag,evText,evFloat,evBytes,evTag] at C1
    go_enter Tryz.func98, Tryz.ntmps98
    go_wp2_with (go_at_call 90;refine (C1.out _ _ M0.out).mono ?_;rintro q w1 ⟨hp1,rfl,hp2⟩;have F1:=hide hp1;have M1:=hide hp2;clear hp1 hp2)
    exact ⟨rfl,⟨F1.out,rfl,M1.out⟩⟩
   | inr x1 =>
    rw [hq1] at C1
    try simp only [bnd]
    have N1:=facts_tellS hq1
    clear hq1
    have C2:=hide (fun w m (h1:RM w r g m x1)=>endValue_r h1 (by have:=N1.1;omega))
    obtain ⟨x2,hx2⟩:∃ x,endV x1=x:=⟨_,rfl⟩
    rw [hx2] at C2 ⊢
    clear hx2
    clear  hn N1
    try simp only [evs,zr,evE,evN,evNum,evFlag,evText,evFloat,evBytes,evTag] at C1 C2
    go_enter Tryz.func98, Tryz.ntmps98
    go_wp2_with (first
     | (go_at_call 90;refine (C1.out _ _ M0.out).mono ?_;rintro q w1 ⟨hp1,rfl,m1,hp2,hp3⟩;have F1:=hide hp1;have M1:=hide hp2;have O1:=hide hp3;clear hp1 hp2 hp3;have d9:=(M1.out.rd.cell 9).trans rfl;have g9:w1.frozen? ⟨r,9,none⟩=false:=M1.out.rd.frz 9;have d10:=(M1.out.rd.cell 10).trans rfl;have g10:w1.frozen? ⟨r,10,none⟩=false:=M1.out.rd.frz 10;simp only [St.rv] at d9 d10)
     | (go_at_call 91;refine (C2.out _ _ M1.out).mono ?_;rintro q w2 ⟨hp1,rfl,m2,hp2,hp3⟩;have F2:=hide hp1;have M2:=hide hp2;have O2:=hide hp3;clear hp1 hp2 hp3;have d9:=(M2.out.rd.cell 9).trans rfl;have g9:w2.frozen? ⟨r,9,none⟩=false:=M2.out.rd.frz 9;have d10:=(M2.out.rd.cell 10).trans rfl;have g10:w2.frozen? ⟨r,10,none⟩=false:=M2.out.rd.frz 10;simp only [St.rv] at d9 d10))
    go_end0
    exact RP.trans F1.out O1.out (⟨F2.out,rfl,m2,M2.out,O2.out⟩)
  rw [wordE_other h1 h2 h3]
  have n1:=ba_neq h1
  have n2:=ba_neq h2
  have n3:=ba_neq h3
  simp only [nullB,trueB,falseB] at n1 n2 n3
  have WZ:=fun x (hx:numS st s=.inr x)=>wordE_z (show wordE st s=.inr x by rw [wordE_other h1 h2 h3];exact hx)
  clear h1 h2 h3
  have C1:=hide (number_r H.out s hs)
  cases hq1:numS st s with
  | inl E =>
   rw [hq1] at C1
   clear hq1 hs hn WZ
   simp only [bnd]
   go_enter Tryz.func98, Tryz.ntmps98
   go_wp2_with (go_at_call 126;refine C1.out.mono ?_;rintro q w1 ⟨hp1,rfl,hp2⟩;have F1:=hide hp1;have M1:=hide hp2;clear hp1 hp2)
   exact ⟨rfl,F1.out,rfl,M1.out⟩
  | inr x1 =>
   obtain ⟨e1,y1⟩:=x1
   rw [hq1] at C1
   obtain ⟨hz1,hyn,_⟩:=WZ _ hq1
   simp only at hz1 hyn
   clear hq1 WZ hs
   simp only [bnd]
   have C2:=hide (fun w m (h1:RM w r g m y1)=>tell_q h1 e1 hz1 (by omega))
   clear hz1
   cases hq2:tellS y1 e1 with
   | inl E =>
    rw [hq2] at C2
    clear hq2 hn hyn
    simp only [NP,evs] at C1 C2
    go_enter Tryz.func98, Tryz.ntmps98
    go_wp2_with (first|(go_at_call 126;refine C1.out.mono ?_;rintro q w1 ⟨hp1,rfl,m1,hp2,hp3⟩;have F1:=hide hp1;have M1:=hide hp2;have O1:=hide hp3;clear hp1 hp2 hp3)|(go_at_call 90;refine (C2.out _ _ M1.out).mono ?_;rintro q w2 ⟨hp1,rfl,hp2⟩;have F2:=hide hp1;have M2:=hide hp2;clear hp1 hp2))
    exact ⟨rfl,RP.trans F1.out O1.out ⟨F2.out,rfl,M2.out⟩⟩
   | inr x2 =>
    rw [hq2] at C2
    have N2:=facts_tellS hq2
    clear hq2
    have C3:=hide (fun w m (h1:RM w r g m x2)=>endValue_r h1 (by have:=N2.1;omega))
    obtain ⟨x3,hx3⟩:∃ x,endV x2=x:=⟨_,rfl⟩
    simp only at C3 ⊢
    rw [hx3] at C3 ⊢
    clear hx3 N2 hn hyn
    simp only [NP,evs] at C1 C2
    go_enter Tryz.func98, Tryz.ntmps98
    go_wp2_with (first|(go_at_call 126;refine C1.out.mono ?_;rintro q w1 ⟨hp1,rfl,m1,hp2,hp3⟩;have F1:=hide hp1;have M1:=hide hp2;have O1:=hide hp3;clear hp1 hp2 hp3)|(go_at_call 90;refine (C2.out _ _ M1.out).mono ?_;rintro q w2 ⟨hp1,rfl,m2,hp2,hp3⟩;have F2:=hide hp1;have M2:=hide hp2;have O2:=hide hp3;clear hp1 hp2 hp3;have d9:=(M2.out.rd.cell 9).trans rfl;have g9:w2.frozen? ⟨r,9,none⟩=false:=M2.out.rd.frz 9;have d10:=(M2.out.rd.cell 10).trans rfl;have g10:w2.frozen? ⟨r,10,none⟩=false:=M2.out.rd.frz 10;simp only [St.rv] at d9 d10)|(go_at_call 91;refine (C3.out _ _ M2.out).mono ?_;rintro q w3 ⟨hp1,rfl,m3,hp2,hp3⟩;have F3:=hide hp1;have M3:=hide hp2;have O3:=hide hp3;clear hp1 hp2 hp3;have d9:=(M3.out.rd.cell 9).trans rfl;have g9:w3.frozen? ⟨r,9,none⟩=false:=M3.out.rd.frz 9;have d10:=(M3.out.rd.cell 10).trans rfl;have g10:w3.frozen? ⟨r,10,none⟩=false:=M3.out.rd.frz 10;simp only [St.rv] at d9 d10))
    go_end0
    exact RP.trans F1.out O1.out (RP.trans F2.out O2.out ⟨F3.out,rfl,m3,M3.out,O3.out⟩)
 rw [if_neg (fun o=>o.elim hw0 hw1)]
 have e0:((st.wait:Int)==0)=false:=by simp;omega
 have en0:((st.wait:Int) != 0)=true:=by simp;omega
 have e1:((st.wait:Int)==1)=false:=by simp;omega
 have en1:((st.wait:Int) != 1)=true:=by simp;omega
 clear hw0 hw1 hn hs
 go_enter Tryz.func98, Tryz.ntmps98
 go_wp2_with fail
 exact ⟨rfl,RP.pan H.out 70 0⟩
theorem RM.w3 (h:RM W r g m st) (k:Nat):RM ((W.drewN k).setCell ⟨r,3,none⟩ (.slice none 0 0)) r g {m with word:=.slice none 0 0} {st with word:=[]}∧RF g m W ((W.drewN k).setCell ⟨r,3,none⟩ (.slice none 0 0))∧OM W m {m with word:=.slice none 0 0}:=by
 have F:RdF r m.word W ((W.drewN k).setCell ⟨r,3,none⟩ (.slice none 0 0)):=(RdF.refl.then (dn_b W k) (Nat.le_of_lt h.lt)).set 3 _
 have ob:OB W m.word (.slice none 0 0):=Or.inr fun q hq=>by cases hq
 exact ⟨h.ofWord F (RdB.set (W:=W.drewN k) (h.rd.same rfl) 3 _ _ rfl) (own_nil _ _) (by simp) ob,RF.ofWord h F,⟨ob,OB.refl _ _,OB.refl _ _⟩⟩
set_option maxRecDepth 100000 in
theorem endWord_r (h:RM W r g m st) (hn:st.n≤199980):Calls Tryz.prog 65 #[.pointer (some ⟨r,0,none⟩)] W fun x w'=>RP W r g m (endWordS st) x w':=by
 have H:=hide h
 obtain ⟨wa,wc,hw⟩:=h.shW
 have c3:W.cell? ⟨r,3,none⟩=some (.slice wa st.word.length wc):=(h.rd.cell 3).trans (by rw [←hw];rfl)
 have f3:W.frozen? ⟨r,3,none⟩=false:=h.rd.frz 3
 have hcv:=own_conv h.word
 rw [hw] at hcv
 have wl:=h.wl
 clear h hw
 unfold endWordS
 by_cases hl:st.word=[]
 ·rw [if_pos hl]
  rw [hl] at c3
  simp only [List.length_nil] at c3
  clear hl hcv wl hn
  go_enter Tryz.func65, Tryz.ntmps65
  go_wp2
  exact bodyPost_ret (results_none rfl _ _ _) rfl (RP.same H.out 0)
 ·rw [if_neg hl]
  have e0:((st.word.length:Int)==0)=false:=by
   have:st.word.length≠0:=fun e=>hl (List.length_eq_zero_iff.1 e)
   simp;omega
  have hsz:(mkB st.word).size≤100000:=by rw [←bl_length,bl_mkB];omega
  obtain ⟨M1,F1,O1⟩:=H.out.w3 0
  have M1:=hide M1
  have F1:=hide F1
  have O1:=hide O1
  have C1:=hide (takeWord_r M1.out (mkB st.word) hsz hn)
  clear hl wl hsz hn
  generalize mkB st.word=s at C1 hcv ⊢
  obtain ⟨o,ho⟩:∃ o,wordS {st with word:=[]} s=o:=⟨_,rfl⟩
  rw [ho] at C1 ⊢
  clear ho
  cases o with
  | inl E =>
   go_enter Tryz.func65, Tryz.ntmps65
   go_wp2_with (go_at_call 98;refine C1.out.mono ?_;rintro q w1 ⟨hp1,rfl,hp2⟩;have F2:=hide hp1;have M2:=hide hp2;clear hp1 hp2)
   exact ⟨rfl,RP.trans F1.out O1.out ⟨F2.out,rfl,M2.out⟩⟩
  | inr x =>
   go_enter Tryz.func65, Tryz.ntmps65
   go_wp2_with (go_at_call 98;refine C1.out.mono ?_;rintro q w1 ⟨hp1,rfl,hp2⟩;have F2:=hide hp1;have M2:=hide hp2;clear hp1 hp2)
   go_end0
   exact RP.trans F1.out O1.out ⟨F2.out,rfl,M2.out⟩
end
section
variable {W W1 W2 : World} {r : Nat} {g : Gv} {m : Mv} {st : St}
theorem RdO.setj (j:Nat) (u:Value):RdO r W (W.setCell ⟨r,j,none⟩ u) :=
 ⟨(Below.refl r W).setCell (p:=⟨r,j,none⟩) (Nat.le_refl _) _,fun q _ hq=>Below.heap_setCell _ _ _ _ hq⟩
theorem RM.w1 (h:RM W r g m st):RM (W.setCell ⟨r,1,none⟩ (.int .i64 ((st.total:Int) + 1))) r g m {st with total:=st.total + 1}:=h.sc (h.rd.set 1 _ _ rfl) (RdO.setj _ _)
theorem RF.w1 (h:RM W r g m st):RF g m W (W.setCell ⟨r,1,none⟩ (.int .i64 ((st.total:Int) + 1))):=RF.ofO h (RdO.setj _ _)
theorem RM.z5 (h:RM W r g m st):RM (((((W.setCell ⟨r,4,none⟩ (.int .i64 0)).setCell ⟨r,5,none⟩ (.slice none 0 0)).setCell ⟨r,6,none⟩ (.int .i64 0)).setCell ⟨r,7,none⟩ (.int .i64 0)).setCell ⟨r,8,none⟩ (.int .i64 0)) r g {m with held:=.slice none 0 0} {st with q:=q0}∧RF g m W (((((W.setCell ⟨r,4,none⟩ (.int .i64 0)).setCell ⟨r,5,none⟩ (.slice none 0 0)).setCell ⟨r,6,none⟩ (.int .i64 0)).setCell ⟨r,7,none⟩ (.int .i64 0)).setCell ⟨r,8,none⟩ (.int .i64 0))∧OM W m {m with held:=.slice none 0 0}:=by
 have F:RdF r m.held W (((((W.setCell ⟨r,4,none⟩ (.int .i64 0)).setCell ⟨r,5,none⟩ (.slice none 0 0)).setCell ⟨r,6,none⟩ (.int .i64 0)).setCell ⟨r,7,none⟩ (.int .i64 0)).setCell ⟨r,8,none⟩ (.int .i64 0)):=((((RdF.refl.set 4 _).set 5 _).set 6 _).set 7 _).set 8 _
 have ob:OB W m.held (.slice none 0 0):=Or.inr fun q hq=>by cases hq
 have r1:=h.rd.set 4 (.int .i64 0) {st.rv g m with place:=0} rfl
 have r2:=r1.set 5 (.slice none 0 0) {st.rv g m with place:=0,held:=.slice none 0 0} rfl
 have r3:=r2.set 6 (.int .i64 0) {st.rv g m with place:=0,held:=.slice none 0 0,digits:=0} rfl
 have r4:=r3.set 7 (.int .i64 0) {st.rv g m with place:=0,held:=.slice none 0 0,digits:=0,number:=0} rfl
 have r5:=r4.set 8 (.int .i64 0) {st.rv g m with place:=0,held:=.slice none 0 0,digits:=0,number:=0,high:=0} rfl
 exact ⟨h.ofQ F ⟨r5,own_nil _ _,by simp [q0],by simp [q0],Or.inl rfl,by simp [q0]⟩ ob,RF.ofF h F,⟨OB.refl _ _,ob,OB.refl _ _⟩⟩
def QW (w:World) (r:Nat) (g:Gv) (m:Mv) (st:St) (o:Sum Int (Value×Qa)) (e:Ending) (w':World):Prop :=
 RF g m w w'∧match o with
 | .inl E=>e=.panicked (pan E)∧∃ s,RdB w' r s
 | .inr x=>e=.returned x.1∧∃ m',RM w' r g m' {st with q:=x.2}∧OM w m m'
theorem QW.of (h:RM W r g m st) {o:Sum Int (Value×Qa)} {e:Ending} (k:QP W r (st.rv g m) m.held o e W1):QW W r g m st o e W1:=by
 obtain ⟨h1,h2⟩:=k
 refine ⟨RF.ofF h h1,?_⟩
 cases o with
 | inl E=>exact h2
 | inr x =>
  obtain ⟨h3,v',h4,h5⟩:=h2
  exact ⟨h3,{m with held:=v' },h.ofQ h1 h4 h5,⟨OB.refl _ _,h5,OB.refl _ _⟩⟩
theorem qtake_r (h:RM W r g m st) (hd:st.q.place=3→st.q.digits<4) (c:UInt8):Calls Tryz.prog 60 #[.pointer (some ⟨r,4,none⟩),.int .u8 c.toNat] W fun e w'=>QW W r g m st (takeQ st.q c) e w' :=
 (take_q h.q hd c).mono fun e w' k=>QW.of h k
theorem qtext_r (h:RM W r g m st):Calls Tryz.prog 61 #[.pointer (some ⟨r,4,none⟩)] W fun e w'=>QW W r g m st (textQ st.q) e w' :=
 (text_q h.q h.gu).mono fun e w' k=>QW.of h k
theorem facts_endWordS {x:St} (h:endWordS st=.inr x) (h1:st.wait=1→st.ks≠[]) (h11:st.wait=11→st.ks≠[]):x.n≤st.n + 1∧(x.wait=1→x.ks≠[])∧(x.wait=11→x.ks≠[])∧x.q=st.q∧x.behind=st.behind∧x.total=st.total:=by
 unfold endWordS at h
 split at h
 ·cases h;exact ⟨Nat.le_succ _,h1,h11,rfl,rfl,rfl⟩
 ·unfold wordS at h
  split at h
  ·cases hq:wordE {st with word:=[]} (mkB st.word) with
   | inl E=>rw [hq] at h;cases h
   | inr y =>
    rw [hq] at h
    simp only [bnd] at h
    obtain ⟨_,a1,a2,a3,a4,a5,a6,a7⟩:=wordE_z hq
    cases ht:tellS y.2 y.1 with
    | inl E=>rw [ht] at h;cases h
    | inr z =>
     rw [ht] at h
     cases h
     obtain ⟨b1,b2,b3,b4,b5,b6,b7⟩:=tellS_n ht
     simp only at a1 a2 a3 a4 a5 a6 a7
     refine ⟨by show z.n≤_;omega,fun q=>?_,fun q=>?_,by show z.q=_;rw [b5,a5],by show z.behind=_;rw [b4,a4],by show z.total=_;rw [b7,a7]⟩
     ·have:endW z.ks=1:=q
      unfold endW at this
      split at this
      ·cases this
      ·split at this <;> cases this
     ·have:endW z.ks=11:=q
      unfold endW at this
      split at this
      ·cases this
      ·split at this
       ·rename_i h9
        exact lastK_ne h9 (by decide)
       ·cases this
  ·cases h
set_option maxRecDepth 100000 in
theorem finish_r (h:RM W r g m st) (hn:st.n≤199980):Calls Tryz.prog 33 #[.pointer (some ⟨r,0,none⟩)] W fun x w'=>RP W r g m (finS st) x w':=by
 have H:=hide h
 have C1:=hide (endWord_r h hn)
 clear h hn
 unfold finS
 cases hq1:endWordS st with
 | inl E =>
  rw [hq1] at C1
  clear hq1
  simp only [bnd]
  go_enter Tryz.func33, Tryz.ntmps33
  go_wp2_with (go_at_call 65;refine C1.out.mono ?_;rintro q w1 ⟨hp1,rfl,hp2⟩;have F1:=hide hp1;have M1:=hide hp2;clear hp1 hp2)
  exact ⟨rfl,F1.out,rfl,M1.out⟩
 | inr x =>
  rw [hq1] at C1
  clear hq1
  simp only [bnd]
  by_cases h13:x.wait=13
  ·by_cases hp0:x.q.place=0
   ·rw [if_neg (fun o=>o.elim (fun q=>q h13) (fun q=>q hp0))]
    cases hp:x.passed with
    | true =>
     simp only [if_true]
     go_enter Tryz.func33, Tryz.ntmps33
     go_wp2_with (go_at_call 65;refine C1.out.mono ?_;rintro q w1 ⟨hp1,rfl,m1,hp2,hp3⟩;have F1:=hide hp1;have M1:=hide hp2;have O1:=hide hp3;clear hp1 hp2 hp3;have d9:w1.cell? ⟨r,9,none⟩=some (.int .i64 x.wait):=(M1.out.rd.cell 9).trans rfl;have d4:w1.cell? ⟨r,4,none⟩=some (.int .i64 x.q.place):=(M1.out.rd.cell 4).trans rfl;have d2:w1.cell? ⟨r,2,none⟩=some (.bool x.passed):=(M1.out.rd.cell 2).trans rfl;rw [h13] at d9;rw [hp0] at d4;rw [hp] at d2)
     exact ⟨rfl,RP.trans F1.out O1.out (RP.pan M1.out 2 0)⟩
    | false =>
     simp only [Bool.false_eq_true,if_false]
     go_enter Tryz.func33, Tryz.ntmps33
     go_wp2_with (go_at_call 65;refine C1.out.mono ?_;rintro q w1 ⟨hp1,rfl,m1,hp2,hp3⟩;have F1:=hide hp1;have M1:=hide hp2;have O1:=hide hp3;clear hp1 hp2 hp3;have d9:w1.cell? ⟨r,9,none⟩=some (.int .i64 x.wait):=(M1.out.rd.cell 9).trans rfl;have d4:w1.cell? ⟨r,4,none⟩=some (.int .i64 x.q.place):=(M1.out.rd.cell 4).trans rfl;have d2:w1.cell? ⟨r,2,none⟩=some (.bool x.passed):=(M1.out.rd.cell 2).trans rfl;rw [h13] at d9;rw [hp0] at d4;rw [hp] at d2)
     go_end0
     exact ⟨F1.out,rfl,m1,M1.out,O1.out⟩
   ·rw [if_pos (Or.inr hp0)]
    have ep:((x.q.place:Int) != 0)=true:=by simp;omega
    have ep2:((x.q.place:Int)==0)=false:=by simp;omega
    go_enter Tryz.func33, Tryz.ntmps33
    go_wp2_with (go_at_call 65;refine C1.out.mono ?_;rintro q w1 ⟨hp1,rfl,m1,hp2,hp3⟩;have F1:=hide hp1;have M1:=hide hp2;have O1:=hide hp3;clear hp1 hp2 hp3;have d9:w1.cell? ⟨r,9,none⟩=some (.int .i64 x.wait):=(M1.out.rd.cell 9).trans rfl;have d4:w1.cell? ⟨r,4,none⟩=some (.int .i64 x.q.place):=(M1.out.rd.cell 4).trans rfl;have d2:w1.cell? ⟨r,2,none⟩=some (.bool x.passed):=(M1.out.rd.cell 2).trans rfl;rw [h13] at d9)
    exact ⟨rfl,RP.trans F1.out O1.out (RP.pan M1.out 70 0)⟩
  ·rw [if_pos (Or.inl h13)]
   have ep:((x.wait:Int) != 13)=true:=by simp;omega
   have ep2:((x.wait:Int)==13)=false:=by simp;omega
   go_enter Tryz.func33, Tryz.ntmps33
   go_wp2_with (go_at_call 65;refine C1.out.mono ?_;rintro q w1 ⟨hp1,rfl,m1,hp2,hp3⟩;have F1:=hide hp1;have M1:=hide hp2;have O1:=hide hp3;clear hp1 hp2 hp3;have d9:w1.cell? ⟨r,9,none⟩=some (.int .i64 x.wait):=(M1.out.rd.cell 9).trans rfl;have d4:w1.cell? ⟨r,4,none⟩=some (.int .i64 x.q.place):=(M1.out.rd.cell 4).trans rfl;have d2:w1.cell? ⟨r,2,none⟩=some (.bool x.passed):=(M1.out.rd.cell 2).trans rfl)
   exact ⟨rfl,RP.trans F1.out O1.out (RP.pan M1.out 70 0)⟩
end
end Go.Proofs.YtpimjkdakjhoaaaGreatDoor
