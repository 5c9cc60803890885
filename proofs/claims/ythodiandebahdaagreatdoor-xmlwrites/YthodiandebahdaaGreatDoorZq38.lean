/- Merged by program: YmRead. -/
import Derived.Test.YthodiandebahdaaGreatDoorZq37
namespace Go.Proofs.YthodiandebahdaaGreatDoor
open Go.RowKit
set_option linter.unusedSimpArgs false
set_option linter.unusedVariables false
set_option maxHeartbeats 8000000
section
variable {W W1 W2 : World} {r : Nat} {g : Tg} {m m1 : Xm} {st : Xs}
theorem funh_err (s:ByteArray):(funh s).2=0∨(funh s).2=20:=by
 unfold funh
 split
 ·split
  ·exact Or.inl rfl
  ·exact Or.inr rfl
 ·exact Or.inr rfl
theorem hx2_len:∀ (n:Nat)(l t:List UInt8),l.length≤n→hx2 l=some t→t.length≤l.length
 | _,[],t,_,h=>by cases h;exact Nat.le_refl _
 | _,[a],t,_,h=>by cases h
 | 0,a :: b :: l,t,hn,h=>by simp at hn
 | n+1,a :: b :: l,t,hn,h=>by
  unfold hx2 at h
  split at h
  ·rename_i x y u _ _ hu
   cases h
   have:=hx2_len n l u (by simp at hn;omega) hu
   simp
   omega
  ·cases h
theorem hx2_size (s:ByteArray)(l:List UInt8)(h:hx2 (bl s)=some l):(mkB l).size≤s.size:=by
 have:=hx2_len _ (bl s) l (Nat.le_refl _) h
 rw [bl_length] at this
 rw [←bl_length,bl_mkB]
 exact this
theorem tellN_n {E0:Int} {t x:Tl} {s:ByteArray} (h:tellN E0 t s=.inr x):t.n≤x.n:=by
 unfold tellN at h
 split at h
 ·rw [tellT_n h];omega
 ·split at h
  ·cases hp:passT t with
   | inl E=>rw [hp] at h;cases h
   | inr y =>
    rw [hp] at h
    rw [tellT_n h,passT_n hp]
    omega
  ·cases h
theorem parseF_dig (s:ByteArray):(parseF (bl s)).2.1.size≤100000:=by
 by_cases h:(parseF (bl s)).2.2.2=0
 ·obtain ⟨⟨b,d,x,E⟩,hp⟩:∃ p,parseF (bl s)=p:=⟨_,rfl⟩
  rw [hp] at h ⊢
  simp only at h
  subst h
  have:=(isN_len (parseF_isN hp)).1
  show d.size≤_
  omega
 ·rw [parseF_size h];show (ByteArray.size ⟨#[]⟩)≤_;decide
set_option maxRecDepth 100000 in
theorem float_q (h:XM W r g m st)(s:ByteArray)(hs:s.size≤100000)(hn:st.t.n≤199990):Calls Tryz.prog 131 #[.pointer (some ⟨r,0,none⟩),.string s] W fun q w'=>XP W r g m (floatS st s) q w':=by
 have H:=hide h
 have U:=hide (fun w=>funhex_any s w (by unfold maxLen;omega))
 clear h
 unfold floatS
 obtain ⟨⟨b,E⟩,hb⟩:∃ p,funh s=p:=⟨_,rfl⟩
 rw [hb] at U ⊢
 have hE:E=0∨E=20:=by
  have:=funh_err s
  rw [hb] at this
  exact this
 clear hb
 simp only at U ⊢
 rcases hE with rfl|rfl
 ·rw [if_pos rfl]
  have C:=hide (fun w (hb:Below W.heap.size W w)=>elem_q (H.out.then hb) (evFloat b) (zF b) (by show st.t.n≤_;omega))
  obtain ⟨o,ho⟩:∃ o,elemS st (evFloat b)=o:=⟨_,rfl⟩
  rw [ho] at C ⊢
  clear ho hn
  simp only [evs,zr,evE,evN,evNum,evFlag,evText,evFloat,evBytes,evTag] at C
  cases o with
  | inl E =>
   go_enter Tryz.func131, Tryz.ntmps131
   go_wp2_with (first|(go_at_call 150;refine (U.out _).mono ?_;rintro q w1 ⟨rfl,hw1⟩;have hws:=hw1.symm;clear hw1;subst hws)|(go_at_call 106;refine (C.out _ (by repeat (first|exact Below.refl _ _|refine Below.drew ?_|refine below_al ?_))).mono ?_;rintro q w9 hp;have K:=hide (XP.base H.out (by repeat (first|exact Below.refl _ _|refine Below.drew ?_|refine below_al ?_)) hp);obtain ⟨_,rfl,_⟩:=hp))
   exact ⟨rfl,K.out⟩
  | inr x =>
   go_enter Tryz.func131, Tryz.ntmps131
   go_wp2_with (first|(go_at_call 150;refine (U.out _).mono ?_;rintro q w1 ⟨rfl,hw1⟩;have hws:=hw1.symm;clear hw1;subst hws)|(go_at_call 106;refine (C.out _ (by repeat (first|exact Below.refl _ _|refine Below.drew ?_|refine below_al ?_))).mono ?_;rintro q w9 hp;have K:=hide (XP.base H.out (by repeat (first|exact Below.refl _ _|refine Below.drew ?_|refine below_al ?_)) hp);obtain ⟨_,rfl,_⟩:=hp))
   go_end0
   exact K.out
 ·rw [if_neg (by decide)]
  go_enter Tryz.func131, Tryz.ntmps131
  go_wp2_with (go_at_call 150;refine (U.out _).mono ?_;rintro q w1 ⟨rfl,hw1⟩;have hws:=hw1.symm;clear hw1;subst hws)
  exact ⟨rfl,XP.base H.out (by repeat (first|exact Below.refl _ _|refine Below.drew ?_|refine below_al ?_)) ((H.out.then (by repeat (first|exact Below.refl _ _|refine Below.drew ?_|refine below_al ?_))).fail 100)⟩
set_option maxRecDepth 100000 in
theorem bytes_q (h:XM W r g m st)(s:ByteArray)(hs:s.size≤100000)(hn:st.t.n≤199990):Calls Tryz.prog 132 #[.pointer (some ⟨r,0,none⟩),.string s] W fun q w'=>XP W r g m (bytesS st s) q w':=by
 have H:=hide h
 have U:=hide (fun w=>hexB_q s w hs)
 unfold uxR at U
 clear h
 unfold bytesS
 cases hl:hx2 (bl s) with
 | none =>
  rw [hl] at U
  clear hl
  simp only at U ⊢
  go_enter Tryz.func132, Tryz.ntmps132
  go_wp2_with (go_at_call 151;refine (U.out _).mono ?_;rintro q w1 ⟨rfl,hb1⟩;have B1:Hid (Below W.heap.size W w1):=below_then (by repeat (first|exact Below.refl _ _|refine Below.drew ?_|refine below_al ?_)) hb1;clear hb1)
  exact ⟨rfl,XP.base H.out B1.out ((H.out.then B1.out).fail 100)⟩
 | some l =>
  have hsz:=hx2_size s l hl
  rw [hl] at U
  clear hl
  simp only at U ⊢
  have C:=hide (fun w (hb:Below W.heap.size W w)=>elem_q (H.out.then hb) (evBytes (mkB l)) (zB _ (by omega)) (by show st.t.n≤_;omega))
  obtain ⟨o,ho⟩:∃ o,elemS st (evBytes (mkB l))=o:=⟨_,rfl⟩
  rw [ho] at C ⊢
  clear ho hn hsz
  obtain ⟨L,hL⟩:∃ L,mkB l=L:=⟨_,rfl⟩
  rw [hL] at C U
  clear hL
  simp only [evs,zr,evE,evN,evNum,evFlag,evText,evFloat,evBytes,evTag] at C
  cases o with
  | inl E =>
   go_enter Tryz.func132, Tryz.ntmps132
   go_wp2_with (first|(go_at_call 151;refine (U.out _).mono ?_;rintro q w1 ⟨rfl,hb1⟩;have B1:Hid (Below W.heap.size W w1):=below_then (by repeat (first|exact Below.refl _ _|refine Below.drew ?_|refine below_al ?_)) hb1;clear hb1)|(go_at_call 106;refine (C.out _ (below_then B1.out (by repeat (first|exact Below.refl _ _|refine Below.drew ?_|refine below_al ?_)))).mono ?_;rintro q w9 hp;have K:=hide (XP.base H.out (below_then B1.out (by repeat (first|exact Below.refl _ _|refine Below.drew ?_|refine below_al ?_))) hp);obtain ⟨_,rfl,_⟩:=hp))
   exact ⟨rfl,K.out⟩
  | inr x =>
   go_enter Tryz.func132, Tryz.ntmps132
   go_wp2_with (first|(go_at_call 151;refine (U.out _).mono ?_;rintro q w1 ⟨rfl,hb1⟩;have B1:Hid (Below W.heap.size W w1):=below_then (by repeat (first|exact Below.refl _ _|refine Below.drew ?_|refine below_al ?_)) hb1;clear hb1)|(go_at_call 106;refine (C.out _ (below_then B1.out (by repeat (first|exact Below.refl _ _|refine Below.drew ?_|refine below_al ?_)))).mono ?_;rintro q w9 hp;have K:=hide (XP.base H.out (below_then B1.out (by repeat (first|exact Below.refl _ _|refine Below.drew ?_|refine below_al ?_))) hp);obtain ⟨_,rfl,_⟩:=hp))
   go_end0
   exact K.out
set_option maxRecDepth 100000 in
theorem endRow_q (h:XM W r g m st)(k:Int)(hn:st.t.n≤199990):Calls Tryz.prog 107 #[.pointer (some ⟨r,0,none⟩),.int .i64 k] W fun q w'=>XP W r g m (endRowS st k) q w':=by
 have H:=hide h
 have TR:=hide (fun w (hb:Below W.heap.size W w)=>takeRow_q (h.then hb))
 have c2:W.cell? ⟨r,2,none⟩=some (.int .i64 st.rk):=(h.rd.cell 2).trans rfl
 have hhl:=h.row.hl
 clear h
 unfold endRowS
 by_cases hk:st.rk=k
 ·rw [if_neg (by simpa using hk)]
  rw [hk] at c2
  obtain ⟨X,hX⟩:∃ X,mkB st.held=X:=⟨_,rfl⟩
  have hXs:X.size≤100000:=by rw [←hX,mkB_size];omega
  rw [hX] at TR ⊢
  have hn0:(row0 st).t.n≤199990:=hn
  clear hX hhl hk hn
  by_cases k3:k=3
  ·subst k3
   rw [if_pos rfl]
   unfold numS
   have T:Hid (∀ w m1 (h1:XM w r g m1 (row0 st)),Calls Tryz.prog 130 #[.pointer (some ⟨g.t,0,none⟩),.string X] w fun q w'=>XP w r g m1 (liftT (row0 st) (tellN 100 (row0 st).t X)) q w'):=fun w m1 h1=>(tellN_q h1.t X hXs (parseF_dig X) hn0).mono fun q w' hp=>XP.ofT h1 hp fun x hx=>tellN_n hx
   cases ht:tellN 100 (row0 st).t X with
   | inl E =>
    rw [ht] at T
    clear ht
    simp only [liftT,bnd] at T ⊢
    go_enter Tryz.func107, Tryz.ntmps107
    go_wp2_with (first|(go_at_call 129;refine (TR.out _ (by repeat (first|exact Below.refl _ _|refine Below.drew ?_|refine below_al ?_))).mono ?_;rintro q w1 ⟨rfl,hp1,_,m1,hp2,hp3⟩;have F1:Hid (XF g m W w1):=(XF.of (by repeat (first|exact Below.refl _ _|refine Below.drew ?_|refine below_al ?_)) H.out.low).trans (OMx.refl _ _) hp1;have M1:=hide hp2;have O1:Hid (OMx W m m1):=(OMx.refl _ _).trans hp3 (show Below W.heap.size W _ from (by repeat (first|exact Below.refl _ _|refine Below.drew ?_|refine below_al ?_))).size;have d0:w1.cell? ⟨r,0,none⟩=some (.pointer (some ⟨g.t,0,none⟩)):=(hp2.rd.cell 0).trans rfl;clear hp1 hp2 hp3)|(go_at_call 130;refine (T.out _ _ M1.out).mono ?_;rintro q w2 hp;have K:=hide (XP.trans F1.out O1.out hp);obtain ⟨_,rfl,_⟩:=hp))
    exact ⟨rfl,K.out⟩
   | inr x =>
    rw [ht] at T
    clear ht
    simp only [liftT,bnd] at T ⊢
    go_enter Tryz.func107, Tryz.ntmps107
    go_wp2_with (first|(go_at_call 129;refine (TR.out _ (by repeat (first|exact Below.refl _ _|refine Below.drew ?_|refine below_al ?_))).mono ?_;rintro q w1 ⟨rfl,hp1,_,m1,hp2,hp3⟩;have F1:Hid (XF g m W w1):=(XF.of (by repeat (first|exact Below.refl _ _|refine Below.drew ?_|refine below_al ?_)) H.out.low).trans (OMx.refl _ _) hp1;have M1:=hide hp2;have O1:Hid (OMx W m m1):=(OMx.refl _ _).trans hp3 (show Below W.heap.size W _ from (by repeat (first|exact Below.refl _ _|refine Below.drew ?_|refine below_al ?_))).size;have d0:w1.cell? ⟨r,0,none⟩=some (.pointer (some ⟨g.t,0,none⟩)):=(hp2.rd.cell 0).trans rfl;clear hp1 hp2 hp3)|(go_at_call 130;refine (T.out _ _ M1.out).mono ?_;rintro q w2 ⟨hp1,rfl,m2,hp2,hp3⟩;have F2:=hide hp1;have M2:=hide hp2;have O2:=hide hp3;have g6:w2.cell? ⟨r,6,none⟩=some (.bool st.filled):=(hp2.rd.cell 6).trans rfl;have f6:w2.frozen? ⟨r,6,none⟩=false:=hp2.rd.frz 6;clear hp1 hp2 hp3))
    go_end0
    exact XP.trans F1.out O1.out (XP.trans F2.out O2.out (M2.out.setF true))
  have n3:(k==3)=false:=by simpa using k3
  rw [if_neg k3]
  by_cases k4:k=4
  ·subst k4
   rw [if_pos rfl]
   have C:=hide (fun w m1 (h1:XM w r g m1 (row0 st))=>float_q h1 X hXs hn0)
   obtain ⟨o,ho⟩:∃ o,floatS (row0 st) X=o:=⟨_,rfl⟩
   rw [ho] at C ⊢
   clear ho hn0
   cases o with
   | inl E =>
    go_enter Tryz.func107, Tryz.ntmps107
    go_wp2_with (first|(go_at_call 129;refine (TR.out _ (by repeat (first|exact Below.refl _ _|refine Below.drew ?_|refine below_al ?_))).mono ?_;rintro q w1 ⟨rfl,hp1,_,m1,hp2,hp3⟩;have F1:Hid (XF g m W w1):=(XF.of (by repeat (first|exact Below.refl _ _|refine Below.drew ?_|refine below_al ?_)) H.out.low).trans (OMx.refl _ _) hp1;have M1:=hide hp2;have O1:Hid (OMx W m m1):=(OMx.refl _ _).trans hp3 (show Below W.heap.size W _ from (by repeat (first|exact Below.refl _ _|refine Below.drew ?_|refine below_al ?_))).size;have d0:w1.cell? ⟨r,0,none⟩=some (.pointer (some ⟨g.t,0,none⟩)):=(hp2.rd.cell 0).trans rfl;clear hp1 hp2 hp3)|(go_at_call 131;refine (C.out _ _ M1.out).mono ?_;rintro q w9 hp;have K:=hide (XP.trans F1.out O1.out hp);obtain ⟨_,rfl,_⟩:=hp))
    exact ⟨rfl,K.out⟩
   | inr x =>
    go_enter Tryz.func107, Tryz.ntmps107
    go_wp2_with (first|(go_at_call 129;refine (TR.out _ (by repeat (first|exact Below.refl _ _|refine Below.drew ?_|refine below_al ?_))).mono ?_;rintro q w1 ⟨rfl,hp1,_,m1,hp2,hp3⟩;have F1:Hid (XF g m W w1):=(XF.of (by repeat (first|exact Below.refl _ _|refine Below.drew ?_|refine below_al ?_)) H.out.low).trans (OMx.refl _ _) hp1;have M1:=hide hp2;have O1:Hid (OMx W m m1):=(OMx.refl _ _).trans hp3 (show Below W.heap.size W _ from (by repeat (first|exact Below.refl _ _|refine Below.drew ?_|refine below_al ?_))).size;have d0:w1.cell? ⟨r,0,none⟩=some (.pointer (some ⟨g.t,0,none⟩)):=(hp2.rd.cell 0).trans rfl;clear hp1 hp2 hp3)|(go_at_call 131;refine (C.out _ _ M1.out).mono ?_;rintro q w9 hp;have K:=hide (XP.trans F1.out O1.out hp);obtain ⟨_,rfl,_⟩:=hp))
    go_end0
    exact K.out
  have n4:(k==4)=false:=by simpa using k4
  rw [if_neg k4]
  by_cases k5:k=5
  ·subst k5
   rw [if_pos rfl]
   have C:=hide (fun w m1 (h1:XM w r g m1 (row0 st))=>elem_q h1 (evText X) (zT X hXs) (by omega))
   obtain ⟨o,ho⟩:∃ o,elemS (row0 st) (evText X)=o:=⟨_,rfl⟩
   rw [ho] at C ⊢
   clear ho hn0
   simp only [evs,zr,evE,evN,evNum,evFlag,evText,evFloat,evBytes,evTag] at C
   cases o with
   | inl E =>
    go_enter Tryz.func107, Tryz.ntmps107
    go_wp2_with (first|(go_at_call 129;refine (TR.out _ (by repeat (first|exact Below.refl _ _|refine Below.drew ?_|refine below_al ?_))).mono ?_;rintro q w1 ⟨rfl,hp1,_,m1,hp2,hp3⟩;have F1:Hid (XF g m W w1):=(XF.of (by repeat (first|exact Below.refl _ _|refine Below.drew ?_|refine below_al ?_)) H.out.low).trans (OMx.refl _ _) hp1;have M1:=hide hp2;have O1:Hid (OMx W m m1):=(OMx.refl _ _).trans hp3 (show Below W.heap.size W _ from (by repeat (first|exact Below.refl _ _|refine Below.drew ?_|refine below_al ?_))).size;have d0:w1.cell? ⟨r,0,none⟩=some (.pointer (some ⟨g.t,0,none⟩)):=(hp2.rd.cell 0).trans rfl;clear hp1 hp2 hp3)|(go_at_call 106;refine (C.out _ _ M1.out).mono ?_;rintro q w9 hp;have K:=hide (XP.trans F1.out O1.out hp);obtain ⟨_,rfl,_⟩:=hp))
    exact ⟨rfl,K.out⟩
   | inr x =>
    go_enter Tryz.func107, Tryz.ntmps107
    go_wp2_with (first|(go_at_call 129;refine (TR.out _ (by repeat (first|exact Below.refl _ _|refine Below.drew ?_|refine below_al ?_))).mono ?_;rintro q w1 ⟨rfl,hp1,_,m1,hp2,hp3⟩;have F1:Hid (XF g m W w1):=(XF.of (by repeat (first|exact Below.refl _ _|refine Below.drew ?_|refine below_al ?_)) H.out.low).trans (OMx.refl _ _) hp1;have M1:=hide hp2;have O1:Hid (OMx W m m1):=(OMx.refl _ _).trans hp3 (show Below W.heap.size W _ from (by repeat (first|exact Below.refl _ _|refine Below.drew ?_|refine below_al ?_))).size;have d0:w1.cell? ⟨r,0,none⟩=some (.pointer (some ⟨g.t,0,none⟩)):=(hp2.rd.cell 0).trans rfl;clear hp1 hp2 hp3)|(go_at_call 106;refine (C.out _ _ M1.out).mono ?_;rintro q w9 hp;have K:=hide (XP.trans F1.out O1.out hp);obtain ⟨_,rfl,_⟩:=hp))
    go_end0
    exact K.out
  have n5:(k==5)=false:=by simpa using k5
  rw [if_neg k5]
  by_cases k6:k=6
  ·subst k6
   rw [if_pos rfl]
   have C:=hide (fun w m1 (h1:XM w r g m1 (row0 st))=>bytes_q h1 X hXs hn0)
   obtain ⟨o,ho⟩:∃ o,bytesS (row0 st) X=o:=⟨_,rfl⟩
   rw [ho] at C ⊢
   clear ho hn0
   cases o with
   | inl E =>
    go_enter Tryz.func107, Tryz.ntmps107
    go_wp2_with (first|(go_at_call 129;refine (TR.out _ (by repeat (first|exact Below.refl _ _|refine Below.drew ?_|refine below_al ?_))).mono ?_;rintro q w1 ⟨rfl,hp1,_,m1,hp2,hp3⟩;have F1:Hid (XF g m W w1):=(XF.of (by repeat (first|exact Below.refl _ _|refine Below.drew ?_|refine below_al ?_)) H.out.low).trans (OMx.refl _ _) hp1;have M1:=hide hp2;have O1:Hid (OMx W m m1):=(OMx.refl _ _).trans hp3 (show Below W.heap.size W _ from (by repeat (first|exact Below.refl _ _|refine Below.drew ?_|refine below_al ?_))).size;have d0:w1.cell? ⟨r,0,none⟩=some (.pointer (some ⟨g.t,0,none⟩)):=(hp2.rd.cell 0).trans rfl;clear hp1 hp2 hp3)|(go_at_call 132;refine (C.out _ _ M1.out).mono ?_;rintro q w9 hp;have K:=hide (XP.trans F1.out O1.out hp);obtain ⟨_,rfl,_⟩:=hp))
    exact ⟨rfl,K.out⟩
   | inr x =>
    go_enter Tryz.func107, Tryz.ntmps107
    go_wp2_with (first|(go_at_call 129;refine (TR.out _ (by repeat (first|exact Below.refl _ _|refine Below.drew ?_|refine below_al ?_))).mono ?_;rintro q w1 ⟨rfl,hp1,_,m1,hp2,hp3⟩;have F1:Hid (XF g m W w1):=(XF.of (by repeat (first|exact Below.refl _ _|refine Below.drew ?_|refine below_al ?_)) H.out.low).trans (OMx.refl _ _) hp1;have M1:=hide hp2;have O1:Hid (OMx W m m1):=(OMx.refl _ _).trans hp3 (show Below W.heap.size W _ from (by repeat (first|exact Below.refl _ _|refine Below.drew ?_|refine below_al ?_))).size;have d0:w1.cell? ⟨r,0,none⟩=some (.pointer (some ⟨g.t,0,none⟩)):=(hp2.rd.cell 0).trans rfl;clear hp1 hp2 hp3)|(go_at_call 132;refine (C.out _ _ M1.out).mono ?_;rintro q w9 hp;have K:=hide (XP.trans F1.out O1.out hp);obtain ⟨_,rfl,_⟩:=hp))
    go_end0
    exact K.out
  have n6:(k==6)=false:=by simpa using k6
  rw [if_neg k6]
  go_enter Tryz.func107, Tryz.ntmps107
  go_wp2_with (go_at_call 129;refine (TR.out _ (by repeat (first|exact Below.refl _ _|refine Below.drew ?_|refine below_al ?_))).mono ?_;rintro q w1 ⟨rfl,hp1,_,m1,hp2,hp3⟩;have F1:Hid (XF g m W w1):=(XF.of (by repeat (first|exact Below.refl _ _|refine Below.drew ?_|refine below_al ?_)) H.out.low).trans (OMx.refl _ _) hp1;have M1:=hide hp2;have O1:Hid (OMx W m m1):=(OMx.refl _ _).trans hp3 (show Below W.heap.size W _ from (by repeat (first|exact Below.refl _ _|refine Below.drew ?_|refine below_al ?_))).size;have d0:w1.cell? ⟨r,0,none⟩=some (.pointer (some ⟨g.t,0,none⟩)):=(hp2.rd.cell 0).trans rfl;clear hp1 hp2 hp3)
  go_end0
  exact ⟨F1.out,rfl,m1,M1.out,O1.out⟩
 ·rw [if_pos hk]
  have ne:(st.rk != k)=true:=by simpa using hk
  have ne2:(st.rk==k)=false:=by simpa using hk
  clear hk
  go_enter Tryz.func107, Tryz.ntmps107
  go_wp2_with fail
  exact ⟨rfl,H.out.fail 100⟩
set_option maxRecDepth 100000 in
theorem beginName_q (h:XM W r g m st)(k:Int)(hn:st.t.n≤199990):Calls Tryz.prog 109 #[.pointer (some ⟨r,0,none⟩),.int .i64 k] W fun q w'=>XP W r g m (beginNameS st k) q w':=by
 have H:=hide h
 have c2:W.cell? ⟨r,2,none⟩=some (.int .i64 st.rk):=(h.rd.cell 2).trans rfl
 have f2:W.frozen? ⟨r,2,none⟩=false:=h.rd.frz 2
 have hlt:=h.lt
 unfold beginNameS
 by_cases k9:k=9
 ·subst k9
  rw [if_pos rfl]
  have WA:=hide (fun w (hb:Below W.heap.size W w)=>want_q (h.then hb) (by show st.t.n≤_;omega))
  unfold wantS at WA
  clear h hn c2 f2
  cases hw:wantE st with
  | true =>
   rw [hw] at WA
   simp only [if_true] at WA ⊢
   clear hw
   go_enter Tryz.func109, Tryz.ntmps109
   go_wp2_with (go_at_call 105;refine (WA.out _ (by repeat (first|exact Below.refl _ _|refine Below.drew ?_|refine below_al ?_))).mono ?_;rintro q w1 hp;have K:=hide (XP.base H.out (by repeat (first|exact Below.refl _ _|refine Below.drew ?_|refine below_al ?_)) hp);obtain ⟨_,rfl,_⟩:=hp)
   exact ⟨rfl,K.out⟩
  | false =>
   rw [hw] at WA
   simp only [Bool.false_eq_true,if_false] at WA ⊢
   clear hw
   go_enter Tryz.func109, Tryz.ntmps109
   go_wp2_with (go_at_call 105;refine (WA.out _ (by repeat (first|exact Below.refl _ _|refine Below.drew ?_|refine below_al ?_))).mono ?_;rintro q w1 ⟨hp1,rfl,m1,hp2,hp3⟩;have F1:Hid (XF g m W w1):=(XF.of (by repeat (first|exact Below.refl _ _|refine Below.drew ?_|refine below_al ?_)) H.out.low).trans (OMx.refl _ _) hp1;have M1:=hide hp2;have O1:Hid (OMx W m m1):=(OMx.refl _ _).trans hp3 (show Below W.heap.size W _ from (by repeat (first|exact Below.refl _ _|refine Below.drew ?_|refine below_al ?_))).size;have g2:w1.cell? ⟨r,2,none⟩=some (.int .i64 st.rk):=(hp2.rd.cell 2).trans rfl;have f2:w1.frozen? ⟨r,2,none⟩=false:=hp2.rd.frz 2;clear hp1 hp2 hp3)
   go_end0
   exact XP.trans F1.out O1.out (M1.out.setK 9)
 ·rw [if_neg k9]
  have n9:(k==9)=false:=by simpa using k9
  have IN:=hide (fun w (hb:Below W.heap.size W w)=>inner_q (h.then hb) (by show st.t.n≤_;omega))
  clear h hn k9
  by_cases h0:st.rk=0
  ·have c2':=c2
   rw [h0] at c2'
   by_cases h8:lastK st.ks=8
   ·rw [if_neg (by rintro (q|q);exact q h0;exact q h8)]
    rw [h8] at IN
    clear c2 h0 h8
    go_enter Tryz.func109, Tryz.ntmps109
    go_wp2_with (go_at_call 127;refine (IN.out _ (by repeat (first|exact Below.refl _ _|refine Below.drew ?_|refine below_al ?_))).mono ?_;rintro q w1 ⟨rfl,d,hw1⟩;have B1:Hid (Below W.heap.size W w1):=(by rw [hw1];exact below_then (by repeat (first|exact Below.refl _ _|refine Below.drew ?_|refine below_al ?_)) (dn_b _ _));have g2:w1.cell? ⟨r,2,none⟩=some (.int .i64 st.rk):=((H.out.then B1.out).rd.cell 2).trans rfl;have g2f:w1.frozen? ⟨r,2,none⟩=false:=(H.out.then B1.out).rd.frz 2;have g6:w1.cell? ⟨r,6,none⟩=some (.bool st.filled):=((H.out.then B1.out).rd.cell 6).trans rfl;clear hw1)
    go_end0
    exact XP.base H.out B1.out ((H.out.then B1.out).setK k)
   ·rw [if_pos (Or.inr h8)]
    have n8:(lastK st.ks != 8)=true:=by simpa using h8
    have n82:(lastK st.ks==8)=false:=by simpa using h8
    clear c2 h0 h8
    go_enter Tryz.func109, Tryz.ntmps109
    go_wp2_with (go_at_call 127;refine (IN.out _ (by repeat (first|exact Below.refl _ _|refine Below.drew ?_|refine below_al ?_))).mono ?_;rintro q w1 ⟨rfl,d,hw1⟩;have B1:Hid (Below W.heap.size W w1):=(by rw [hw1];exact below_then (by repeat (first|exact Below.refl _ _|refine Below.drew ?_|refine below_al ?_)) (dn_b _ _));have g2:w1.cell? ⟨r,2,none⟩=some (.int .i64 st.rk):=((H.out.then B1.out).rd.cell 2).trans rfl;have g2f:w1.frozen? ⟨r,2,none⟩=false:=(H.out.then B1.out).rd.frz 2;have g6:w1.cell? ⟨r,6,none⟩=some (.bool st.filled):=((H.out.then B1.out).rd.cell 6).trans rfl;clear hw1)
    exact ⟨rfl,XP.base H.out B1.out ((H.out.then B1.out).fail 100)⟩
  ·rw [if_pos (Or.inl h0)]
   have n0:(st.rk != 0)=true:=by simpa using h0
   have n02:(st.rk==0)=false:=by simpa using h0
   clear h0
   go_enter Tryz.func109, Tryz.ntmps109
   go_wp2_with (go_at_call 127;refine (IN.out _ (by repeat (first|exact Below.refl _ _|refine Below.drew ?_|refine below_al ?_))).mono ?_;rintro q w1 ⟨rfl,d,hw1⟩;have B1:Hid (Below W.heap.size W w1):=(by rw [hw1];exact below_then (by repeat (first|exact Below.refl _ _|refine Below.drew ?_|refine below_al ?_)) (dn_b _ _));have g2:w1.cell? ⟨r,2,none⟩=some (.int .i64 st.rk):=((H.out.then B1.out).rd.cell 2).trans rfl;have g2f:w1.frozen? ⟨r,2,none⟩=false:=(H.out.then B1.out).rd.frz 2;have g6:w1.cell? ⟨r,6,none⟩=some (.bool st.filled):=((H.out.then B1.out).rd.cell 6).trans rfl;clear hw1)
   exact ⟨rfl,XP.base H.out (by repeat (first|exact Below.refl _ _|refine Below.drew ?_|refine below_al ?_)) ((H.out.then (by repeat (first|exact Below.refl _ _|refine Below.drew ?_|refine below_al ?_))).fail 100)⟩
set_option maxRecDepth 100000 in
theorem endName_q (h:XM W r g m st)  (hn:st.t.n≤199990):Calls Tryz.prog 110 #[.pointer (some ⟨r,0,none⟩)] W fun q w'=>XP W r g m (endNameS st) q w':=by
 have H:=hide h
 have TR:=hide (fun w (hb:Below W.heap.size W w)=>takeRow_q (h.then hb))
 have c2:W.cell? ⟨r,2,none⟩=some (.int .i64 st.rk):=(h.rd.cell 2).trans rfl
 have hhl:=h.row.hl
 clear h
 unfold endNameS
 obtain ⟨X,hX⟩:∃ X,mkB st.held=X:=⟨_,rfl⟩
 have hXs:X.size≤100000:=by rw [←hX,mkB_size];omega
 rw [hX] at TR ⊢
 have hn0:(row0 st).t.n≤199990:=hn
 clear hX hhl hn
 obtain ⟨k,hk⟩:∃ k,st.rk=k:=⟨_,rfl⟩
 rw [hk] at c2 ⊢
 clear hk
 have C:=hide (fun w m1 (h1:XM w r g m1 (row0 st))=>begin_q h1 {zr k with text:=X} (zK k X hXs) (by omega))
 obtain ⟨o,ho⟩:∃ o,beginS (row0 st) {zr k with text:=X}=o:=⟨_,rfl⟩
 rw [ho] at C ⊢
 clear ho hn0
 simp only [evs,zr,evE,evN,evNum,evFlag,evText,evFloat,evBytes,evTag] at C
 by_cases k10:k=10
 ·subst k10
  rw [if_neg (fun q=>q.1 rfl)]
  cases o with
  | inl E =>
   go_enter Tryz.func110, Tryz.ntmps110
   go_wp2_with (first|(go_at_call 129;refine (TR.out _ (by repeat (first|exact Below.refl _ _|refine Below.drew ?_|refine below_al ?_))).mono ?_;rintro q w1 ⟨rfl,hp1,_,m1,hp2,hp3⟩;have F1:Hid (XF g m W w1):=(XF.of (by repeat (first|exact Below.refl _ _|refine Below.drew ?_|refine below_al ?_)) H.out.low).trans (OMx.refl _ _) hp1;have M1:=hide hp2;have O1:Hid (OMx W m m1):=(OMx.refl _ _).trans hp3 (show Below W.heap.size W _ from (by repeat (first|exact Below.refl _ _|refine Below.drew ?_|refine below_al ?_))).size;have d0:w1.cell? ⟨r,0,none⟩=some (.pointer (some ⟨g.t,0,none⟩)):=(hp2.rd.cell 0).trans rfl;clear hp1 hp2 hp3)|(go_at_call 108;refine (C.out _ _ (M1.out.then (by repeat (first|exact Below.refl _ _|refine Below.drew ?_|refine below_al ?_)))).mono ?_;rintro q w9 hp;have K:=hide (XP.trans F1.out O1.out (XP.base M1.out (by repeat (first|exact Below.refl _ _|refine Below.drew ?_|refine below_al ?_)) hp));obtain ⟨_,rfl,_⟩:=hp))
   exact ⟨rfl,K.out⟩
  | inr x =>
   go_enter Tryz.func110, Tryz.ntmps110
   go_wp2_with (first|(go_at_call 129;refine (TR.out _ (by repeat (first|exact Below.refl _ _|refine Below.drew ?_|refine below_al ?_))).mono ?_;rintro q w1 ⟨rfl,hp1,_,m1,hp2,hp3⟩;have F1:Hid (XF g m W w1):=(XF.of (by repeat (first|exact Below.refl _ _|refine Below.drew ?_|refine below_al ?_)) H.out.low).trans (OMx.refl _ _) hp1;have M1:=hide hp2;have O1:Hid (OMx W m m1):=(OMx.refl _ _).trans hp3 (show Below W.heap.size W _ from (by repeat (first|exact Below.refl _ _|refine Below.drew ?_|refine below_al ?_))).size;have d0:w1.cell? ⟨r,0,none⟩=some (.pointer (some ⟨g.t,0,none⟩)):=(hp2.rd.cell 0).trans rfl;clear hp1 hp2 hp3)|(go_at_call 108;refine (C.out _ _ (M1.out.then (by repeat (first|exact Below.refl _ _|refine Below.drew ?_|refine below_al ?_)))).mono ?_;rintro q w9 hp;have K:=hide (XP.trans F1.out O1.out (XP.base M1.out (by repeat (first|exact Below.refl _ _|refine Below.drew ?_|refine below_al ?_)) hp));obtain ⟨_,rfl,_⟩:=hp))
   go_end0
   exact K.out
 by_cases k9:k=9
 ·subst k9
  rw [if_neg (fun q=>q.2 rfl)]
  cases o with
  | inl E =>
   go_enter Tryz.func110, Tryz.ntmps110
   go_wp2_with (first|(go_at_call 129;refine (TR.out _ (by repeat (first|exact Below.refl _ _|refine Below.drew ?_|refine below_al ?_))).mono ?_;rintro q w1 ⟨rfl,hp1,_,m1,hp2,hp3⟩;have F1:Hid (XF g m W w1):=(XF.of (by repeat (first|exact Below.refl _ _|refine Below.drew ?_|refine below_al ?_)) H.out.low).trans (OMx.refl _ _) hp1;have M1:=hide hp2;have O1:Hid (OMx W m m1):=(OMx.refl _ _).trans hp3 (show Below W.heap.size W _ from (by repeat (first|exact Below.refl _ _|refine Below.drew ?_|refine below_al ?_))).size;have d0:w1.cell? ⟨r,0,none⟩=some (.pointer (some ⟨g.t,0,none⟩)):=(hp2.rd.cell 0).trans rfl;clear hp1 hp2 hp3)|(go_at_call 108;refine (C.out _ _ (M1.out.then (by repeat (first|exact Below.refl _ _|refine Below.drew ?_|refine below_al ?_)))).mono ?_;rintro q w9 hp;have K:=hide (XP.trans F1.out O1.out (XP.base M1.out (by repeat (first|exact Below.refl _ _|refine Below.drew ?_|refine below_al ?_)) hp));obtain ⟨_,rfl,_⟩:=hp))
   exact ⟨rfl,K.out⟩
  | inr x =>
   go_enter Tryz.func110, Tryz.ntmps110
   go_wp2_with (first|(go_at_call 129;refine (TR.out _ (by repeat (first|exact Below.refl _ _|refine Below.drew ?_|refine below_al ?_))).mono ?_;rintro q w1 ⟨rfl,hp1,_,m1,hp2,hp3⟩;have F1:Hid (XF g m W w1):=(XF.of (by repeat (first|exact Below.refl _ _|refine Below.drew ?_|refine below_al ?_)) H.out.low).trans (OMx.refl _ _) hp1;have M1:=hide hp2;have O1:Hid (OMx W m m1):=(OMx.refl _ _).trans hp3 (show Below W.heap.size W _ from (by repeat (first|exact Below.refl _ _|refine Below.drew ?_|refine below_al ?_))).size;have d0:w1.cell? ⟨r,0,none⟩=some (.pointer (some ⟨g.t,0,none⟩)):=(hp2.rd.cell 0).trans rfl;clear hp1 hp2 hp3)|(go_at_call 108;refine (C.out _ _ (M1.out.then (by repeat (first|exact Below.refl _ _|refine Below.drew ?_|refine below_al ?_)))).mono ?_;rintro q w9 hp;have K:=hide (XP.trans F1.out O1.out (XP.base M1.out (by repeat (first|exact Below.refl _ _|refine Below.drew ?_|refine below_al ?_)) hp));obtain ⟨_,rfl,_⟩:=hp))
   go_end0
   exact K.out
 rw [if_pos ⟨k10,k9⟩]
 have n10:(k != 10)=true:=by simpa using k10
 have n9:(k != 9)=true:=by simpa using k9
 have e10:(k==10)=false:=by simpa using k10
 have e9:(k==9)=false:=by simpa using k9
 go_enter Tryz.func110, Tryz.ntmps110
 go_wp2_with fail
 exact ⟨rfl,H.out.fail 100⟩
end
end Go.Proofs.YthodiandebahdaaGreatDoor
