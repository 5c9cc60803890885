/- Merged by program: KpCut, KrText, KsText. -/
import Derived.Test.YtpimjkdakjhoaaaGreatDoorZw27
import Derived.Test.YtpimjkdakjhoaaaGreatDoorZw35
namespace Go.Proofs.YtpimjkdakjhoaaaGreatDoor
open Go.RowKit
set_option linter.unusedSimpArgs false
set_option linter.unusedVariables false
set_option maxHeartbeats 8000000
theorem ext1 {s:ByteArray} {t:List UInt8} (h:bl s=36 :: t):s.extract 1 s.size=mkB t:=by
 have e:s=mkB (36 :: t):=by rw [←h];simp [mkB,bl]
 subst e
 have hd:((mkB (36 :: t)).extract 1 (mkB (36 :: t)).size).data=(mkB t).data:=by
  rw [ByteArray.data_extract]
  simp [mkB,ByteArray.size]
 have:=congrArg ByteArray.mk hd
 exact this
theorem slcut_any (s:ByteArray) (w:World) (hs:s.size≤281474976710656) :
  Calls Tryz.prog 141 #[.string s,.string ⟨#[36]⟩] w fun e w'=>e=.returned (.tuple #[.string (if (bl s).head?==some 36 then s.extract 1 s.size else s),.bool ((bl s).head?==some 36)])∧w'=w:=by
 have ml:maxLen=9223372036854775807:=rfl
 have h1:=hide (hasp_1 s w hs)
 cases hq:((bl s).head?==some 36) with
 | false =>
  rw [hq] at h1
  clear hq
  simp only [Bool.false_eq_true,if_false]
  go_enter Tryz.func141, Tryz.ntmps141
  go_wp2_with (go_at_call 113;refine h1.out.mono ?_;rintro e w1 ⟨rfl,hw⟩;have hws:=hw.symm;clear hw;subst hws)
  exact bodyPost_ret (v:=.tuple #[.string s,.bool false]) (by simp [results,Tryz.results141,go_sem]) rfl ⟨rfl,rfl⟩
 | true =>
  rw [hq] at h1
  have hp:1≤s.size:=by
   rw [←bl_length]
   cases hb:bl s with
   | nil=>rw [hb] at hq;cases hq
   | cons a t=>simp
  clear hq
  simp only [if_true]
  go_enter Tryz.func141, Tryz.ntmps141
  go_wp2_with (go_at_call 113;refine h1.out.mono ?_;rintro e w1 ⟨rfl,hw⟩;have hws:=hw.symm;clear hw;subst hws)
  exact bodyPost_ret (v:=.tuple #[.string (s.extract 1 s.size),.bool true]) (by simp [results,Tryz.results141,go_sem]) rfl ⟨rfl,rfl⟩
theorem cutp_any (s:ByteArray) (w:World) (hs:s.size≤281474976710656) :
  Calls Tryz.prog 122 #[.string s,.string ⟨#[36]⟩] w fun e w'=>e=.returned (.tuple #[.string (if (bl s).head?==some 36 then s.extract 1 s.size else s),.bool ((bl s).head?==some 36)])∧w'=w:=by
 have h1:=hide (slcut_any s w hs)
 generalize (if (bl s).head?==some 36 then s.extract 1 s.size else s)=u at h1 ⊢
 generalize ((bl s).head?==some 36)=q at h1 ⊢
 go_enter Tryz.func122, Tryz.ntmps122
 go_wp2_with (go_at_call 141;refine h1.out.mono ?_;rintro e w1 ⟨rfl,hw⟩;have hws:=hw.symm;clear hw;subst hws)
 exact bodyPost_ret (v:=.tuple #[.string u,.bool q]) (by simp [results,Tryz.results122,go_sem]) rfl ⟨rfl,rfl⟩
section
variable {W W1 W2 : World} {r : Nat} {g : Gv} {m : Mv} {st : St}
theorem zN (s:ByteArray) (h:s.size≤100000):EvZ (evN s):=⟨by show s.size≤_;omega,by show (ByteArray.size ⟨#[]⟩)≤_;decide,rfl⟩
theorem zT (s:ByteArray) (h:s.size≤100000):EvZ (evText s):=⟨by show s.size≤_;omega,by show (ByteArray.size ⟨#[]⟩)≤_;decide,rfl⟩
theorem zB (s:ByteArray) (h:s.size≤100000):EvZ (evBytes s):=⟨by show s.size≤_;omega,by show (ByteArray.size ⟨#[]⟩)≤_;decide,rfl⟩
theorem zG (s:ByteArray) (h:s.size≤100000):EvZ (evTag s):=⟨by show s.size≤_;omega,by show (ByteArray.size ⟨#[]⟩)≤_;decide,rfl⟩
theorem zF (b:Nat):EvZ (evFloat b):=⟨by show (ByteArray.size ⟨#[]⟩)≤_;decide,by show (ByteArray.size ⟨#[]⟩)≤_;decide,rfl⟩
theorem ext1' (s:ByteArray) (hd:(bl s).head?==some 36):s.extract 1 s.size=mkB ((bl s).drop 1):=by
 cases hb:bl s with
 | nil=>rw [hb] at hd;cases hd
 | cons c t =>
  rw [hb] at hd
  have hc:c=36:=by simpa using hd
  subst hc
  rw [ext1 hb]
  rfl
theorem firstS_eq (st:St) (s:ByteArray):firstS st s=if s=floatN then .inr {st with wait:=5,behind:=6} else if s=bytesN then .inr {st with wait:=5,behind:=7} else if s=tagN then .inr {st with wait:=5,behind:=8} else if (bl s).head?==some 36 then (if ((bl s).drop 1).head?==some 36 then recS st (mkB ((bl s).drop 1)) else .inl 70) else recS st s:=by
 unfold firstS
 split
 ·rfl
 split
 ·rfl
 split
 ·rfl
 cases bl s with
 | nil=>rfl
 | cons c t =>
  by_cases hc:c=36
  ·subst hc
   cases t with
   | nil=>rfl
   | cons d u =>
    by_cases hd:d=36
    ·subst hd;rfl
    ·have:(some d==some (36:UInt8))=false:=by simpa using hd
     simp only [List.head?_cons,List.drop_succ_cons,List.drop_zero,this,beq_self_eq_true,if_true,Bool.false_eq_true,if_false]
     split
     ·rename_i h;exact absurd (List.cons.inj h).1 hd
     ·rfl
  ·have:(some c==some (36:UInt8))=false:=by simpa using hc
   simp only [List.head?_cons,this,Bool.false_eq_true,if_false]
   split
   ·rename_i h;exact absurd (List.cons.inj h).1 hc
   ·rfl
theorem RM.w9 (h:RM W r g m st) (a:Nat):RM (W.setCell ⟨r,9,none⟩ (.int .i64 a)) r g m {st with wait:=a}:=h.sc (h.rd.set 9 _ _ rfl) (RdO.set9 _ 0)
theorem RF.w9 (h:RM W r g m st) (a:Nat):RF g m W (W.setCell ⟨r,9,none⟩ (.int .i64 a)):=RF.ofO h (RdO.set9 _ 0)
theorem funh_err (s:ByteArray):(funh s).2=0∨(funh s).2=20:=by
 unfold funh
 split
 ·split
  ·exact Or.inl rfl
  ·exact Or.inr rfl
 ·exact Or.inr rfl
theorem hx2_len:∀ (n:Nat) (l t:List UInt8),l.length≤n→hx2 l=some t→t.length≤l.length
 | _,[],t,_,h=>by cases h;exact Nat.le_refl _
 | _,[a],t,_,h=>by cases h
 | 0,a :: b :: l,t,hn,h=>by simp at hn
 | n + 1,a :: b :: l,t,hn,h=>by
  unfold hx2 at h
  split at h
  ·rename_i x y u _ _ hu
   cases h
   have:=hx2_len n l u (by simp at hn;omega) hu
   simp
   omega
  ·cases h
theorem hx2_size (s:ByteArray) (l:List UInt8) (h:hx2 (bl s)=some l):(mkB l).size≤s.size:=by
 have:=hx2_len _ (bl s) l (Nat.le_refl _) h
 rw [bl_length] at this
 rw [←bl_length,bl_mkB]
 exact this
set_option maxRecDepth 100000 in
theorem name_r (h:RM W r g m st) (s:ByteArray) (hs:s.size≤100000) (hn:st.n≤199990):Calls Tryz.prog 93 #[.pointer (some ⟨r,0,none⟩),.string s] W fun x w'=>RP W r g m (nameS st s) x w':=by
 have H:=hide h
 have c9:W.cell? ⟨r,9,none⟩=some (.int .i64 st.wait):=(h.rd.cell 9).trans rfl
 have f9:W.frozen? ⟨r,9,none⟩=false:=h.rd.frz 9
 clear h c9 f9
 unfold nameS
 have M0:=H
 have C1:=hide (fun w m (h1:RM w r g m st)=>tell_q h1 (evN s) (zN s hs) (by omega))
 cases hq1:tellS st (evN s) with
 | inl E =>
  rw [hq1] at C1
  clear hq1 hn hs 
  try simp only [bnd]
  try simp only [evs,zr,evE,evN,evNum,evFlag,evText,evFloat,evBytes,evTag] at C1
  go_enter Tryz.func93, Tryz.ntmps93
  go_wp2_with (go_at_call 90;refine (C1.out _ _ M0.out).mono ?_;rintro q w1 ⟨hp1,rfl,hp2⟩;have F1:=hide hp1;have M1:=hide hp2;clear hp1 hp2)
  exact ⟨rfl,⟨F1.out,rfl,M1.out⟩⟩
 | inr x1 =>
  rw [hq1] at C1
  try simp only [bnd]
  clear hq1 hn hs 
  try simp only [evs,zr,evE,evN,evNum,evFlag,evText,evFloat,evBytes,evTag] at C1
  go_enter Tryz.func93, Tryz.ntmps93
  go_wp2_with (go_at_call 90;refine (C1.out _ _ M0.out).mono ?_;rintro q w1 ⟨hp1,rfl,m1,hp2,hp3⟩;have F1:=hide hp1;have M1:=hide hp2;have O1:=hide hp3;clear hp1 hp2 hp3;have d9:=(M1.out.rd.cell 9).trans rfl;have g9:w1.frozen? ⟨r,9,none⟩=false:=M1.out.rd.frz 9;have d10:=(M1.out.rd.cell 10).trans rfl;have g10:w1.frozen? ⟨r,10,none⟩=false:=M1.out.rd.frz 10;simp only [St.rv] at d9 d10)
  go_end0
  exact RP.trans F1.out O1.out (RM.setn M1.out 5 0 0)
set_option maxRecDepth 100000 in
theorem float_r (h:RM W r g m st) (s:ByteArray) (hs:s.size≤100000) (hn:st.n≤199990):Calls Tryz.prog 94 #[.pointer (some ⟨r,0,none⟩),.string s] W fun x w'=>RP W r g m (floatS st s) x w':=by
 have H:=hide h
 have c9:W.cell? ⟨r,9,none⟩=some (.int .i64 st.wait):=(h.rd.cell 9).trans rfl
 have f9:W.frozen? ⟨r,9,none⟩=false:=h.rd.frz 9
 have U:=hide (funhex_any s W (by unfold maxLen;omega))
 clear h c9 f9
 unfold floatS
 obtain ⟨⟨b,E⟩,hb⟩:∃ p,funh s=p:=⟨_,rfl⟩
 rw [hb] at U ⊢
 have hE:E=0∨E=20:=by
  have:=funh_err s
  rw [hb] at this
  exact this
 clear hb
 simp only at U ⊢
 rcases hE with rfl|rfl
 ·rw [if_pos rfl]
  have M0:=H
  have C1:=hide (fun w m (h1:RM w r g m st)=>tell_q h1 (evFloat b) (zF b) (by omega))
  cases hq1:tellS st (evFloat b) with
  | inl E =>
   rw [hq1] at C1
   clear hq1 hn hs 
   try simp only [bnd]
   try simp only [evs,zr,evE,evN,evNum,evFlag,evText,evFloat,evBytes,evTag] at C1
   go_enter Tryz.func94, Tryz.ntmps94
   go_wp2_with (first
    | (go_at_call 123;refine U.out.mono ?_;rintro e w0 ⟨rfl,hw0⟩;have hws:=hw0.symm;clear hw0;subst hws)
    | (go_at_call 90;refine (C1.out _ _ M0.out).mono ?_;rintro q w1 ⟨hp1,rfl,hp2⟩;have F1:=hide hp1;have M1:=hide hp2;clear hp1 hp2))
   exact ⟨rfl,⟨F1.out,rfl,M1.out⟩⟩
  | inr x1 =>
   rw [hq1] at C1
   try simp only [bnd]
   clear hq1 hn hs 
   try simp only [evs,zr,evE,evN,evNum,evFlag,evText,evFloat,evBytes,evTag] at C1
   go_enter Tryz.func94, Tryz.ntmps94
   go_wp2_with (first
    | (go_at_call 123;refine U.out.mono ?_;rintro e w0 ⟨rfl,hw0⟩;have hws:=hw0.symm;clear hw0;subst hws)
    | (go_at_call 90;refine (C1.out _ _ M0.out).mono ?_;rintro q w1 ⟨hp1,rfl,m1,hp2,hp3⟩;have F1:=hide hp1;have M1:=hide hp2;have O1:=hide hp3;clear hp1 hp2 hp3;have d9:=(M1.out.rd.cell 9).trans rfl;have g9:w1.frozen? ⟨r,9,none⟩=false:=M1.out.rd.frz 9;have d10:=(M1.out.rd.cell 10).trans rfl;have g10:w1.frozen? ⟨r,10,none⟩=false:=M1.out.rd.frz 10;simp only [St.rv] at d9 d10))
   go_end0
   exact RP.trans F1.out O1.out (RP.setw M1.out 12 0)
 ·rw [if_neg (by decide)]
  clear hn hs
  go_enter Tryz.func94, Tryz.ntmps94
  go_wp2_with (go_at_call 123;refine U.out.mono ?_;rintro e w0 ⟨rfl,hw0⟩;have hws:=hw0.symm;clear hw0;subst hws)
  exact ⟨rfl,RP.pan H.out 70 0⟩
set_option maxRecDepth 100000 in
theorem bytes_r (h:RM W r g m st) (s:ByteArray) (hs:s.size≤100000) (hn:st.n≤199990):Calls Tryz.prog 95 #[.pointer (some ⟨r,0,none⟩),.string s] W fun x w'=>RP W r g m (bytesS st s) x w':=by
 have H:=hide h
 have c9:W.cell? ⟨r,9,none⟩=some (.int .i64 st.wait):=(h.rd.cell 9).trans rfl
 have f9:W.frozen? ⟨r,9,none⟩=false:=h.rd.frz 9
 have U:=hide (unhex_j s W hs)
 have hsz:=hx2_size s
 clear h c9 f9
 unfold bytesS
 unfold uxR at U
 cases hx:hx2 (bl s) with
 | none =>
  rw [hx] at U
  clear hx hn hs hsz
  go_enter Tryz.func95, Tryz.ntmps95
  go_wp2_with (go_at_call 124;refine U.out.mono ?_;rintro e w0 ⟨rfl,hb0⟩;have M0:=hide (H.out.then hb0);have F0:Hid (RF g m W w0):=RF.of hb0 H.out.lo;clear hb0)
  exact ⟨rfl,RP.trans F0.out (OM.refl _ _) (RP.pan M0.out 70 0)⟩
 | some l =>
  rw [hx] at U
  have hl:(mkB l).size≤100000:=Nat.le_trans (hsz l hx) hs
  simp only at U ⊢
  clear hx hs hsz
  generalize mkB l=b at U hl ⊢
  have C1:=hide (fun w m (h1:RM w r g m st)=>tell_q h1 (evBytes b) (zB b hl) (by omega))
  cases hq1:tellS st (evBytes b) with
  | inl E =>
   rw [hq1] at C1
   clear hq1 hn hl 
   try simp only [bnd]
   try simp only [evs,zr,evE,evN,evNum,evFlag,evText,evFloat,evBytes,evTag] at C1
   go_enter Tryz.func95, Tryz.ntmps95
   go_wp2_with (first
    | (go_at_call 124;refine U.out.mono ?_;rintro e w0 ⟨rfl,hb0⟩;have M0:=hide (H.out.then hb0);have F0:Hid (RF g m W w0):=RF.of hb0 H.out.lo;clear hb0)
    | (go_at_call 90;refine (C1.out _ _ M0.out).mono ?_;rintro q w1 ⟨hp1,rfl,hp2⟩;have F1:=hide hp1;have M1:=hide hp2;clear hp1 hp2))
   exact ⟨rfl,RP.trans F0.out (OM.refl _ _) (⟨F1.out,rfl,M1.out⟩)⟩
  | inr x1 =>
   rw [hq1] at C1
   try simp only [bnd]
   clear hq1 hn hl 
   try simp only [evs,zr,evE,evN,evNum,evFlag,evText,evFloat,evBytes,evTag] at C1
   go_enter Tryz.func95, Tryz.ntmps95
   go_wp2_with (first
    | (go_at_call 124;refine U.out.mono ?_;rintro e w0 ⟨rfl,hb0⟩;have M0:=hide (H.out.then hb0);have F0:Hid (RF g m W w0):=RF.of hb0 H.out.lo;clear hb0)
    | (go_at_call 90;refine (C1.out _ _ M0.out).mono ?_;rintro q w1 ⟨hp1,rfl,m1,hp2,hp3⟩;have F1:=hide hp1;have M1:=hide hp2;have O1:=hide hp3;clear hp1 hp2 hp3;have d9:=(M1.out.rd.cell 9).trans rfl;have g9:w1.frozen? ⟨r,9,none⟩=false:=M1.out.rd.frz 9;have d10:=(M1.out.rd.cell 10).trans rfl;have g10:w1.frozen? ⟨r,10,none⟩=false:=M1.out.rd.frz 10;simp only [St.rv] at d9 d10))
   go_end0
   exact RP.trans F0.out (OM.refl _ _) (RP.trans F1.out O1.out (RP.setw M1.out 12 0))
end
theorem ba_neq {s t:ByteArray} (h:¬ s=t):(s.toList==t.data.toList)=false:=by
 have:¬ s.toList=t.data.toList:=fun e=>h (by
  have:s.data.toList=t.data.toList:=by rw [←e,ByteArray.toList_eq]
  have:=Array.toList_inj.1 this
  cases s;cases t;simp_all)
 simpa using this
section
variable {W W1 W2 : World} {r : Nat} {g : Gv} {m : Mv} {st : St}
set_option maxRecDepth 100000 in
theorem firstName_r (h:RM W r g m st) (s:ByteArray) (hs:s.size≤100000) (hn:st.n≤199980):Calls Tryz.prog 92 #[.pointer (some ⟨r,0,none⟩),.string s] W fun x w'=>RP W r g m (firstS st s) x w':=by
 have H:=hide h
 have c9:W.cell? ⟨r,9,none⟩=some (.int .i64 st.wait):=(h.rd.cell 9).trans rfl
 have f9:W.frozen? ⟨r,9,none⟩=false:=h.rd.frz 9
 have c10:W.cell? ⟨r,10,none⟩=some (.int .i64 st.behind):=(h.rd.cell 10).trans rfl
 have f10:W.frozen? ⟨r,10,none⟩=false:=h.rd.frz 10
 have CP:=hide (fun w=>cutp_any s w (by omega))
 have HP:=hide (fun t (ht:t.size≤100000) w=>hasp_any t w (by omega))
 have hdr:(mkB ((bl s).drop 1)).size≤100000:=by rw [←bl_length,bl_mkB,List.length_drop,bl_length];omega
 clear h
 rw [firstS_eq]
 by_cases h0:s=floatN
 ·subst h0
  rw [if_pos rfl]
  clear CP HP hn hs hdr
  simp only [floatN]
  go_enter Tryz.func92, Tryz.ntmps92
  go_wp2
  go_end0
  exact RM.setn H.out 5 6 0
 rw [if_neg h0]
 by_cases h1:s=bytesN
 ·subst h1
  rw [if_pos rfl]
  clear CP HP hn hs hdr h0
  simp only [bytesN]
  go_enter Tryz.func92, Tryz.ntmps92
  go_wp2
  go_end0
  exact RM.setn H.out 5 7 0
 rw [if_neg h1]
 by_cases h2:s=tagN
 ·subst h2
  rw [if_pos rfl]
  clear CP HP hn hs hdr h0 h1
  simp only [tagN]
  go_enter Tryz.func92, Tryz.ntmps92
  go_wp2
  go_end0
  exact RM.setn H.out 5 8 0
 rw [if_neg h2]
 have n0:=ba_neq h0
 have n1:=ba_neq h1
 have n2:=ba_neq h2
 simp only [floatN,bytesN,tagN] at n0 n1 n2
 clear h0 h1 h2
 have M0:=hide (H.out.w9 5)
 have F0:=hide (RF.w9 H.out 5)
 cases hq:((bl s).head?==some 36) with
 | false =>
  rw [hq] at CP
  simp only [Bool.false_eq_true,if_false] at CP ⊢
  clear hq HP hdr
  unfold recS
  obtain ⟨y0,hy0⟩:∃ y,({st with wait:=5}:St)=y:=⟨_,rfl⟩
  rw [hy0] at M0 ⊢
  have hyn:y0.n=st.n:=by rw [←hy0]
  clear hy0
  have C1:=hide (fun w m (h1:RM w r g m y0)=>begin_q h1 (zr 8) z8 (by omega))
  cases hq1:beginS y0 (zr 8) with
  | inl E =>
   rw [hq1] at C1
   clear hq1 hn hyn hs 
   try simp only [bnd]
   try simp only [evs,zr,evE,evN,evNum,evFlag,evText,evFloat,evBytes,evTag] at C1
   go_enter Tryz.func92, Tryz.ntmps92
   go_wp2_with (first
    | (go_at_call 122;refine (CP.out _).mono ?_;rintro e w0 ⟨rfl,hw0⟩;have hws:=hw0.symm;clear hw0;subst hws)
    | (go_at_call 96;refine (C1.out _ _ M0.out).mono ?_;rintro q w1 ⟨hp1,rfl,hp2⟩;have F1:=hide hp1;have M1:=hide hp2;clear hp1 hp2))
   exact ⟨rfl,RP.trans F0.out (OM.refl _ _) (⟨F1.out,rfl,M1.out⟩)⟩
  | inr x1 =>
   rw [hq1] at C1
   try simp only [bnd]
   have N1:=facts_beginS hq1
   clear hq1
   have C2:=hide (fun w m (h1:RM w r g m x1)=>name_r h1 s hs (by have:=N1.1;omega))
   cases hq2:nameS x1 s with
   | inl E =>
    rw [hq2] at C2
    clear hq2 hn hyn hs N1
    try simp only [bnd]
    try simp only [evs,zr,evE,evN,evNum,evFlag,evText,evFloat,evBytes,evTag] at C1 C2
    go_enter Tryz.func92, Tryz.ntmps92
    go_wp2_with (first
     | (go_at_call 122;refine (CP.out _).mono ?_;rintro e w0 ⟨rfl,hw0⟩;have hws:=hw0.symm;clear hw0;subst hws)
     | (go_at_call 96;refine (C1.out _ _ M0.out).mono ?_;rintro q w1 ⟨hp1,rfl,m1,hp2,hp3⟩;have F1:=hide hp1;have M1:=hide hp2;have O1:=hide hp3;clear hp1 hp2 hp3;have d9:=(M1.out.rd.cell 9).trans rfl;have g9:w1.frozen? ⟨r,9,none⟩=false:=M1.out.rd.frz 9;have d10:=(M1.out.rd.cell 10).trans rfl;have g10:w1.frozen? ⟨r,10,none⟩=false:=M1.out.rd.frz 10;simp only [St.rv] at d9 d10)
     | (go_at_call 93;refine (C2.out _ _ M1.out).mono ?_;rintro q w2 ⟨hp1,rfl,hp2⟩;have F2:=hide hp1;have M2:=hide hp2;clear hp1 hp2))
    exact ⟨rfl,RP.trans F0.out (OM.refl _ _) (RP.trans F1.out O1.out (⟨F2.out,rfl,M2.out⟩))⟩
   | inr x2 =>
    rw [hq2] at C2
    try simp only [bnd]
    clear hq2 hn hyn hs N1
    try simp only [evs,zr,evE,evN,evNum,evFlag,evText,evFloat,evBytes,evTag] at C1 C2
    go_enter Tryz.func92, Tryz.ntmps92
    go_wp2_with (first
     | (go_at_call 122;refine (CP.out _).mono ?_;rintro e w0 ⟨rfl,hw0⟩;have hws:=hw0.symm;clear hw0;subst hws)
     | (go_at_call 96;refine (C1.out _ _ M0.out).mono ?_;rintro q w1 ⟨hp1,rfl,m1,hp2,hp3⟩;have F1:=hide hp1;have M1:=hide hp2;have O1:=hide hp3;clear hp1 hp2 hp3;have d9:=(M1.out.rd.cell 9).trans rfl;have g9:w1.frozen? ⟨r,9,none⟩=false:=M1.out.rd.frz 9;have d10:=(M1.out.rd.cell 10).trans rfl;have g10:w1.frozen? ⟨r,10,none⟩=false:=M1.out.rd.frz 10;simp only [St.rv] at d9 d10)
     | (go_at_call 93;refine (C2.out _ _ M1.out).mono ?_;rintro q w2 ⟨hp1,rfl,m2,hp2,hp3⟩;have F2:=hide hp1;have M2:=hide hp2;have O2:=hide hp3;clear hp1 hp2 hp3;have d9:=(M2.out.rd.cell 9).trans rfl;have g9:w2.frozen? ⟨r,9,none⟩=false:=M2.out.rd.frz 9;have d10:=(M2.out.rd.cell 10).trans rfl;have g10:w2.frozen? ⟨r,10,none⟩=false:=M2.out.rd.frz 10;simp only [St.rv] at d9 d10))
    go_end0
    exact RP.trans F0.out (OM.refl _ _) (RP.trans F1.out O1.out (⟨F2.out,rfl,m2,M2.out,O2.out⟩))
 | true =>
  rw [hq] at CP
  simp only [if_true] at CP ⊢
  rw [ext1' s hq] at CP
  have HQ:=hide (HP.out _ hdr)
  rw [bl_mkB] at HQ
  clear hq HP hs
  generalize mkB ((bl s).drop 1)=t at CP HQ hdr ⊢
  cases hq2:(((bl s).drop 1).head?==some 36) with
  | false =>
   rw [hq2] at HQ
   simp only [Bool.false_eq_true,if_false]
   clear hq2 hn hdr
   go_enter Tryz.func92, Tryz.ntmps92
   go_wp2_with (first|(go_at_call 122;refine (CP.out _).mono ?_;rintro e w0 ⟨rfl,hw0⟩;have hws:=hw0.symm;clear hw0;subst hws)|(go_at_call 77;refine (HQ.out _).mono ?_;rintro e w0 ⟨rfl,hw0⟩;have hws:=hw0.symm;clear hw0;subst hws))
   exact ⟨rfl,RP.trans F0.out (OM.refl _ _) (RP.pan M0.out 70 0)⟩
  | true =>
   rw [hq2] at HQ
   simp only [if_true]
   clear hq2
   unfold recS
   obtain ⟨y0,hy0⟩:∃ y,({st with wait:=5}:St)=y:=⟨_,rfl⟩
   rw [hy0] at M0 ⊢
   have hyn:y0.n=st.n:=by rw [←hy0]
   clear hy0
   have C1:=hide (fun w m (h1:RM w r g m y0)=>begin_q h1 (zr 8) z8 (by omega))
   cases hq1:beginS y0 (zr 8) with
   | inl E =>
    rw [hq1] at C1
    clear hq1 hn hyn hdr 
    try simp only [bnd]
    try simp only [evs,zr,evE,evN,evNum,evFlag,evText,evFloat,evBytes,evTag] at C1
    go_enter Tryz.func92, Tryz.ntmps92
    go_wp2_with (first
     | (go_at_call 122;refine (CP.out _).mono ?_;rintro e w0 ⟨rfl,hw0⟩;have hws:=hw0.symm;clear hw0;subst hws)
     | (go_at_call 77;refine (HQ.out _).mono ?_;rintro e w0 ⟨rfl,hw0⟩;have hws:=hw0.symm;clear hw0;subst hws)
     | (go_at_call 96;refine (C1.out _ _ M0.out).mono ?_;rintro q w1 ⟨hp1,rfl,hp2⟩;have F1:=hide hp1;have M1:=hide hp2;clear hp1 hp2))
    exact ⟨rfl,RP.trans F0.out (OM.refl _ _) (⟨F1.out,rfl,M1.out⟩)⟩
   | inr x1 =>
    rw [hq1] at C1
    try simp only [bnd]
    have N1:=facts_beginS hq1
    clear hq1
    have C2:=hide (fun w m (h1:RM w r g m x1)=>name_r h1 t hdr (by have:=N1.1;omega))
    cases hq2:nameS x1 t with
    | inl E =>
     rw [hq2] at C2
     clear hq2 hn hyn hdr N1
     try simp only [bnd]
     try simp only [evs,zr,evE,evN,evNum,evFlag,evText,evFloat,evBytes,evTag] at C1 C2
     go_enter Tryz.func92, Tryz.ntmps92
     go_wp2_with (first
      | (go_at_call 122;refine (CP.out _).mono ?_;rintro e w0 ⟨rfl,hw0⟩;have hws:=hw0.symm;clear hw0;subst hws)
      | (go_at_call 77;refine (HQ.out _).mono ?_;rintro e w0 ⟨rfl,hw0⟩;have hws:=hw0.symm;clear hw0;subst hws)
      | (go_at_call 96;refine (C1.out _ _ M0.out).mono ?_;rintro q w1 ⟨hp1,rfl,m1,hp2,hp3⟩;have F1:=hide hp1;have M1:=hide hp2;have O1:=hide hp3;clear hp1 hp2 hp3;have d9:=(M1.out.rd.cell 9).trans rfl;have g9:w1.frozen? ⟨r,9,none⟩=false:=M1.out.rd.frz 9;have d10:=(M1.out.rd.cell 10).trans rfl;have g10:w1.frozen? ⟨r,10,none⟩=false:=M1.out.rd.frz 10;simp only [St.rv] at d9 d10)
      | (go_at_call 93;refine (C2.out _ _ M1.out).mono ?_;rintro q w2 ⟨hp1,rfl,hp2⟩;have F2:=hide hp1;have M2:=hide hp2;clear hp1 hp2))
     exact ⟨rfl,RP.trans F0.out (OM.refl _ _) (RP.trans F1.out O1.out (⟨F2.out,rfl,M2.out⟩))⟩
    | inr x2 =>
     rw [hq2] at C2
     try simp only [bnd]
     clear hq2 hn hyn hdr N1
     try simp only [evs,zr,evE,evN,evNum,evFlag,evText,evFloat,evBytes,evTag] at C1 C2
     go_enter Tryz.func92, Tryz.ntmps92
     go_wp2_with (first
      | (go_at_call 122;refine (CP.out _).mono ?_;rintro e w0 ⟨rfl,hw0⟩;have hws:=hw0.symm;clear hw0;subst hws)
      | (go_at_call 77;refine (HQ.out _).mono ?_;rintro e w0 ⟨rfl,hw0⟩;have hws:=hw0.symm;clear hw0;subst hws)
      | (go_at_call 96;refine (C1.out _ _ M0.out).mono ?_;rintro q w1 ⟨hp1,rfl,m1,hp2,hp3⟩;have F1:=hide hp1;have M1:=hide hp2;have O1:=hide hp3;clear hp1 hp2 hp3;have d9:=(M1.out.rd.cell 9).trans rfl;have g9:w1.frozen? ⟨r,9,none⟩=false:=M1.out.rd.frz 9;have d10:=(M1.out.rd.cell 10).trans rfl;have g10:w1.frozen? ⟨r,10,none⟩=false:=M1.out.rd.frz 10;simp only [St.rv] at d9 d10)
      | (go_at_call 93;refine (C2.out _ _ M1.out).mono ?_;rintro q w2 ⟨hp1,rfl,m2,hp2,hp3⟩;have F2:=hide hp1;have M2:=hide hp2;have O2:=hide hp3;clear hp1 hp2 hp3;have d9:=(M2.out.rd.cell 9).trans rfl;have g9:w2.frozen? ⟨r,9,none⟩=false:=M2.out.rd.frz 9;have d10:=(M2.out.rd.cell 10).trans rfl;have g10:w2.frozen? ⟨r,10,none⟩=false:=M2.out.rd.frz 10;simp only [St.rv] at d9 d10))
     go_end0
     exact RP.trans F0.out (OM.refl _ _) (RP.trans F1.out O1.out (⟨F2.out,rfl,m2,M2.out,O2.out⟩))
set_option maxRecDepth 100000 in
theorem takeText_r (h:RM W r g m st) (s:ByteArray) (hs:s.size≤100000) (hn:st.n≤199980):Calls Tryz.prog 62 #[.pointer (some ⟨r,0,none⟩),.string s] W fun x w'=>RP W r g m (textS st s) x w':=by
 have H:=hide h
 have c9:W.cell? ⟨r,9,none⟩=some (.int .i64 st.wait):=(h.rd.cell 9).trans rfl
 have f9:W.frozen? ⟨r,9,none⟩=false:=h.rd.frz 9
 clear h
 unfold textS
 by_cases hw0:st.wait=0
 ·rw [if_pos (Or.inl hw0)]
  rw [hw0] at c9
  clear hw0
  have M0:=H
  have C1:=hide (fun w m (h1:RM w r g m st)=>tell_q h1 (evText s) (zT s hs) (by omega))
  cases hq1:tellS st (evText s) with
  | inl E =>
   rw [hq1] at C1
   clear hq1 hn hs 
   try simp only [bnd]
   try simp only [evs,zr,evE,evN,evNum,evFlag,evText,evFloat,evBytes,evTag] at C1
   go_enter Tryz.func62, Tryz.ntmps62
   go_wp2_with (go_at_call 90;refine (C1.out _ _ M0.out).mono ?_;rintro q w1 ⟨hp1,rfl,hp2⟩;have F1:=hide hp1;have M1:=hide hp2;clear hp1 hp2)
   exact ⟨rfl,⟨F1.out,rfl,M1.out⟩⟩
  | inr x1 =>
   rw [hq1] at C1
   try simp only [bnd]
   have N1:=facts_tellS hq1
   clear hq1
   have C2:=hide (fun w m (h1:RM w r g m x1)=>endValue_r h1 (by have:=N1.1;omega))
   obtain ⟨x2,hx2⟩:∃ x,endV x1=x:=⟨_,rfl⟩
   rw [hx2] at C2 ⊢
   clear hx2
   clear  hn hs N1
   try simp only [evs,zr,evE,evN,evNum,evFlag,evText,evFloat,evBytes,evTag] at C1 C2
   go_enter Tryz.func62, Tryz.ntmps62
   go_wp2_with (first
    | (go_at_call 90;refine (C1.out _ _ M0.out).mono ?_;rintro q w1 ⟨hp1,rfl,m1,hp2,hp3⟩;have F1:=hide hp1;have M1:=hide hp2;have O1:=hide hp3;clear hp1 hp2 hp3;have d9:=(M1.out.rd.cell 9).trans rfl;have g9:w1.frozen? ⟨r,9,none⟩=false:=M1.out.rd.frz 9;have d10:=(M1.out.rd.cell 10).trans rfl;have g10:w1.frozen? ⟨r,10,none⟩=false:=M1.out.rd.frz 10;simp only [St.rv] at d9 d10)
    | (go_at_call 91;refine (C2.out _ _ M1.out).mono ?_;rintro q w2 ⟨hp1,rfl,m2,hp2,hp3⟩;have F2:=hide hp1;have M2:=hide hp2;have O2:=hide hp3;clear hp1 hp2 hp3;have d9:=(M2.out.rd.cell 9).trans rfl;have g9:w2.frozen? ⟨r,9,none⟩=false:=M2.out.rd.frz 9;have d10:=(M2.out.rd.cell 10).trans rfl;have g10:w2.frozen? ⟨r,10,none⟩=false:=M2.out.rd.frz 10;simp only [St.rv] at d9 d10))
   go_end0
   exact RP.trans F1.out O1.out (⟨F2.out,rfl,m2,M2.out,O2.out⟩)
 by_cases hw1:st.wait=1
 ·rw [if_pos (Or.inr hw1)]
  rw [hw1] at c9
  clear hw0 hw1
  have M0:=H
  have C1:=hide (fun w m (h1:RM w r g m st)=>tell_q h1 (evText s) (zT s hs) (by omega))
  cases hq1:tellS st (evText s) with
  | inl E =>
   rw [hq1] at C1
   clear hq1 hn hs 
   try simp only [bnd]
   try simp only [evs,zr,evE,evN,evNum,evFlag,evText,evFloat,evBytes,evTag] at C1
   go_enter Tryz.func62, Tryz.ntmps62
   go_wp2_with (go_at_call 90;refine (C1.out _ _ M0.out).mono ?_;rintro q w1 ⟨hp1,rfl,hp2⟩;have F1:=hide hp1;have M1:=hide hp2;clear hp1 hp2)
   exact ⟨rfl,⟨F1.out,rfl,M1.out⟩⟩
  | inr x1 =>
   rw [hq1] at C1
   try simp only [bnd]
   have N1:=facts_tellS hq1
   clear hq1
   have C2:=hide (fun w m (h1:RM w r g m x1)=>endValue_r h1 (by have:=N1.1;omega))
   obtain ⟨x2,hx2⟩:∃ x,endV x1=x:=⟨_,rfl⟩
   rw [hx2] at C2 ⊢
   clear hx2
   clear  hn hs N1
   try simp only [evs,zr,evE,evN,evNum,evFlag,evText,evFloat,evBytes,evTag] at C1 C2
   go_enter Tryz.func62, Tryz.ntmps62
   go_wp2_with (first
    | (go_at_call 90;refine (C1.out _ _ M0.out).mono ?_;rintro q w1 ⟨hp1,rfl,m1,hp2,hp3⟩;have F1:=hide hp1;have M1:=hide hp2;have O1:=hide hp3;clear hp1 hp2 hp3;have d9:=(M1.out.rd.cell 9).trans rfl;have g9:w1.frozen? ⟨r,9,none⟩=false:=M1.out.rd.frz 9;have d10:=(M1.out.rd.cell 10).trans rfl;have g10:w1.frozen? ⟨r,10,none⟩=false:=M1.out.rd.frz 10;simp only [St.rv] at d9 d10)
    | (go_at_call 91;refine (C2.out _ _ M1.out).mono ?_;rintro q w2 ⟨hp1,rfl,m2,hp2,hp3⟩;have F2:=hide hp1;have M2:=hide hp2;have O2:=hide hp3;clear hp1 hp2 hp3;have d9:=(M2.out.rd.cell 9).trans rfl;have g9:w2.frozen? ⟨r,9,none⟩=false:=M2.out.rd.frz 9;have d10:=(M2.out.rd.cell 10).trans rfl;have g10:w2.frozen? ⟨r,10,none⟩=false:=M2.out.rd.frz 10;simp only [St.rv] at d9 d10))
   go_end0
   exact RP.trans F1.out O1.out (⟨F2.out,rfl,m2,M2.out,O2.out⟩)
 rw [if_neg (fun o=>o.elim hw0 hw1)]
 by_cases hw3:st.wait=3
 ·rw [if_pos hw3]
  rw [hw3] at c9
  clear hw0 hw1 hw3
  have M0:=H
  have C1:=hide (fun w m (h1:RM w r g m st)=>firstName_r h1 s hs hn)
  cases hq1:firstS st s with
  | inl E =>
   rw [hq1] at C1
   clear hq1 hn hs 
   try simp only [bnd]
   try simp only [evs,zr,evE,evN,evNum,evFlag,evText,evFloat,evBytes,evTag] at C1
   go_enter Tryz.func62, Tryz.ntmps62
   go_wp2_with (go_at_call 92;refine (C1.out _ _ M0.out).mono ?_;rintro q w1 ⟨hp1,rfl,hp2⟩;have F1:=hide hp1;have M1:=hide hp2;clear hp1 hp2)
   exact ⟨rfl,⟨F1.out,rfl,M1.out⟩⟩
  | inr x1 =>
   rw [hq1] at C1
   try simp only [bnd]
   clear hq1 hn hs 
   try simp only [evs,zr,evE,evN,evNum,evFlag,evText,evFloat,evBytes,evTag] at C1
   go_enter Tryz.func62, Tryz.ntmps62
   go_wp2_with (go_at_call 92;refine (C1.out _ _ M0.out).mono ?_;rintro q w1 ⟨hp1,rfl,m1,hp2,hp3⟩;have F1:=hide hp1;have M1:=hide hp2;have O1:=hide hp3;clear hp1 hp2 hp3;have d9:=(M1.out.rd.cell 9).trans rfl;have g9:w1.frozen? ⟨r,9,none⟩=false:=M1.out.rd.frz 9;have d10:=(M1.out.rd.cell 10).trans rfl;have g10:w1.frozen? ⟨r,10,none⟩=false:=M1.out.rd.frz 10;simp only [St.rv] at d9 d10)
   go_end0
   exact ⟨F1.out,rfl,m1,M1.out,O1.out⟩
 rw [if_neg hw3]
 by_cases hw4:st.wait=4
 ·rw [if_pos hw4]
  rw [hw4] at c9
  clear hw0 hw1 hw3 hw4
  have M0:=H
  have C1:=hide (fun w m (h1:RM w r g m st)=>name_r h1 s hs (by omega))
  cases hq1:nameS st s with
  | inl E =>
   rw [hq1] at C1
   clear hq1 hn hs 
   try simp only [bnd]
   try simp only [evs,zr,evE,evN,evNum,evFlag,evText,evFloat,evBytes,evTag] at C1
   go_enter Tryz.func62, Tryz.ntmps62
   go_wp2_with (go_at_call 93;refine (C1.out _ _ M0.out).mono ?_;rintro q w1 ⟨hp1,rfl,hp2⟩;have F1:=hide hp1;have M1:=hide hp2;clear hp1 hp2)
   exact ⟨rfl,⟨F1.out,rfl,M1.out⟩⟩
  | inr x1 =>
   rw [hq1] at C1
   try simp only [bnd]
   clear hq1 hn hs 
   try simp only [evs,zr,evE,evN,evNum,evFlag,evText,evFloat,evBytes,evTag] at C1
   go_enter Tryz.func62, Tryz.ntmps62
   go_wp2_with (go_at_call 93;refine (C1.out _ _ M0.out).mono ?_;rintro q w1 ⟨hp1,rfl,m1,hp2,hp3⟩;have F1:=hide hp1;have M1:=hide hp2;have O1:=hide hp3;clear hp1 hp2 hp3;have d9:=(M1.out.rd.cell 9).trans rfl;have g9:w1.frozen? ⟨r,9,none⟩=false:=M1.out.rd.frz 9;have d10:=(M1.out.rd.cell 10).trans rfl;have g10:w1.frozen? ⟨r,10,none⟩=false:=M1.out.rd.frz 10;simp only [St.rv] at d9 d10)
   go_end0
   exact ⟨F1.out,rfl,m1,M1.out,O1.out⟩
 rw [if_neg hw4]
 by_cases hw6:st.wait=6
 ·rw [if_pos hw6]
  rw [hw6] at c9
  clear hw0 hw1 hw3 hw4 hw6
  have M0:=H
  have C1:=hide (fun w m (h1:RM w r g m st)=>float_r h1 s hs (by omega))
  cases hq1:floatS st s with
  | inl E =>
   rw [hq1] at C1
   clear hq1 hn hs 
   try simp only [bnd]
   try simp only [evs,zr,evE,evN,evNum,evFlag,evText,evFloat,evBytes,evTag] at C1
   go_enter Tryz.func62, Tryz.ntmps62
   go_wp2_with (go_at_call 94;refine (C1.out _ _ M0.out).mono ?_;rintro q w1 ⟨hp1,rfl,hp2⟩;have F1:=hide hp1;have M1:=hide hp2;clear hp1 hp2)
   exact ⟨rfl,⟨F1.out,rfl,M1.out⟩⟩
  | inr x1 =>
   rw [hq1] at C1
   try simp only [bnd]
   clear hq1 hn hs 
   try simp only [evs,zr,evE,evN,evNum,evFlag,evText,evFloat,evBytes,evTag] at C1
   go_enter Tryz.func62, Tryz.ntmps62
   go_wp2_with (go_at_call 94;refine (C1.out _ _ M0.out).mono ?_;rintro q w1 ⟨hp1,rfl,m1,hp2,hp3⟩;have F1:=hide hp1;have M1:=hide hp2;have O1:=hide hp3;clear hp1 hp2 hp3;have d9:=(M1.out.rd.cell 9).trans rfl;have g9:w1.frozen? ⟨r,9,none⟩=false:=M1.out.rd.frz 9;have d10:=(M1.out.rd.cell 10).trans rfl;have g10:w1.frozen? ⟨r,10,none⟩=false:=M1.out.rd.frz 10;simp only [St.rv] at d9 d10)
   go_end0
   exact ⟨F1.out,rfl,m1,M1.out,O1.out⟩
 rw [if_neg hw6]
 by_cases hw7:st.wait=7
 ·rw [if_pos hw7]
  rw [hw7] at c9
  clear hw0 hw1 hw3 hw4 hw6 hw7
  have M0:=H
  have C1:=hide (fun w m (h1:RM w r g m st)=>bytes_r h1 s hs (by omega))
  cases hq1:bytesS st s with
  | inl E =>
   rw [hq1] at C1
   clear hq1 hn hs 
   try simp only [bnd]
   try simp only [evs,zr,evE,evN,evNum,evFlag,evText,evFloat,evBytes,evTag] at C1
   go_enter Tryz.func62, Tryz.ntmps62
   go_wp2_with (go_at_call 95;refine (C1.out _ _ M0.out).mono ?_;rintro q w1 ⟨hp1,rfl,hp2⟩;have F1:=hide hp1;have M1:=hide hp2;clear hp1 hp2)
   exact ⟨rfl,⟨F1.out,rfl,M1.out⟩⟩
  | inr x1 =>
   rw [hq1] at C1
   try simp only [bnd]
   clear hq1 hn hs 
   try simp only [evs,zr,evE,evN,evNum,evFlag,evText,evFloat,evBytes,evTag] at C1
   go_enter Tryz.func62, Tryz.ntmps62
   go_wp2_with (go_at_call 95;refine (C1.out _ _ M0.out).mono ?_;rintro q w1 ⟨hp1,rfl,m1,hp2,hp3⟩;have F1:=hide hp1;have M1:=hide hp2;have O1:=hide hp3;clear hp1 hp2 hp3;have d9:=(M1.out.rd.cell 9).trans rfl;have g9:w1.frozen? ⟨r,9,none⟩=false:=M1.out.rd.frz 9;have d10:=(M1.out.rd.cell 10).trans rfl;have g10:w1.frozen? ⟨r,10,none⟩=false:=M1.out.rd.frz 10;simp only [St.rv] at d9 d10)
   go_end0
   exact ⟨F1.out,rfl,m1,M1.out,O1.out⟩
 rw [if_neg hw7]
 by_cases hw9:st.wait=9
 ·rw [if_pos hw9]
  rw [hw9] at c9
  clear hw0 hw1 hw3 hw4 hw6 hw7 hw9
  have M0:=H
  have C1:=hide (fun w m (h1:RM w r g m st)=>begin_q h1 (evTag s) (zG s hs) (by omega))
  cases hq1:beginS st (evTag s) with
  | inl E =>
   rw [hq1] at C1
   clear hq1 hn hs 
   try simp only [bnd]
   try simp only [evs,zr,evE,evN,evNum,evFlag,evText,evFloat,evBytes,evTag] at C1
   go_enter Tryz.func62, Tryz.ntmps62
   go_wp2_with (go_at_call 96;refine (C1.out _ _ M0.out).mono ?_;rintro q w1 ⟨hp1,rfl,hp2⟩;have F1:=hide hp1;have M1:=hide hp2;clear hp1 hp2)
   exact ⟨rfl,⟨F1.out,rfl,M1.out⟩⟩
  | inr x1 =>
   rw [hq1] at C1
   try simp only [bnd]
   clear hq1 hn hs 
   try simp only [evs,zr,evE,evN,evNum,evFlag,evText,evFloat,evBytes,evTag] at C1
   go_enter Tryz.func62, Tryz.ntmps62
   go_wp2_with (go_at_call 96;refine (C1.out _ _ M0.out).mono ?_;rintro q w1 ⟨hp1,rfl,m1,hp2,hp3⟩;have F1:=hide hp1;have M1:=hide hp2;have O1:=hide hp3;clear hp1 hp2 hp3;have d9:=(M1.out.rd.cell 9).trans rfl;have g9:w1.frozen? ⟨r,9,none⟩=false:=M1.out.rd.frz 9;have d10:=(M1.out.rd.cell 10).trans rfl;have g10:w1.frozen? ⟨r,10,none⟩=false:=M1.out.rd.frz 10;simp only [St.rv] at d9 d10)
   go_end0
   exact RP.trans F1.out O1.out (RP.setw M1.out 10 0)
 rw [if_neg hw9]
 have e0:((st.wait:Int)==0)=false:=by simp;omega
 have en0:((st.wait:Int) != 0)=true:=by simp;omega
 have e1:((st.wait:Int)==1)=false:=by simp;omega
 have en1:((st.wait:Int) != 1)=true:=by simp;omega
 have e3:((st.wait:Int)==3)=false:=by simp;omega
 have en3:((st.wait:Int) != 3)=true:=by simp;omega
 have e4:((st.wait:Int)==4)=false:=by simp;omega
 have en4:((st.wait:Int) != 4)=true:=by simp;omega
 have e6:((st.wait:Int)==6)=false:=by simp;omega
 have en6:((st.wait:Int) != 6)=true:=by simp;omega
 have e7:((st.wait:Int)==7)=false:=by simp;omega
 have en7:((st.wait:Int) != 7)=true:=by simp;omega
 have e9:((st.wait:Int)==9)=false:=by simp;omega
 have en9:((st.wait:Int) != 9)=true:=by simp;omega
 clear hw0 hw1 hw3 hw4 hw6 hw7 hw9 hn hs
 go_enter Tryz.func62, Tryz.ntmps62
 go_wp2_with fail
 exact ⟨rfl,RP.pan H.out 70 0⟩
end
end Go.Proofs.YtpimjkdakjhoaaaGreatDoor
