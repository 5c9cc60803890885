/- Merged by program: YtChar, YuRef. -/
import Derived.Test.YthodiandebahdaaGreatDoorZq40
namespace Go.Proofs.YthodiandebahdaaGreatDoor
open Go.RowKit
set_option linter.unusedSimpArgs false
set_option linter.unusedVariables false
set_option maxHeartbeats 8000000
section
open Go.Shelf Go.RowKit
def Ge (q:Prop)(w:World):Prop:=q→∃ ev,w.cell? ⟨3,0,none⟩=some ev∧(ev=.nilIface∨∃ te pe,ev=.iface te pe)
theorem Ge.low {q:Prop} {w w1:World} {L:Nat} (h:Ge q w)(hb:Below L w w1)(hL:8≤L):Ge q w1:=by
 intro hq
 obtain ⟨ev,h1,h2⟩:=h hq
 refine ⟨ev,?_,h2⟩
 unfold World.cell? at h1 ⊢
 rw [hb.block _ (show (3:Nat)<L by omega)]
 exact h1
def puN (s:ByteArray):Option Nat:=if s.size=0 then none else hxN 0 (bl s)
def puP (o:Option Nat)(e:Ending):Prop:=match o with
 | none=>∃ T p,e=.returned (.tuple #[.int .u64 0,.iface T (.pointer (some p))])
 | some n=>e=.returned (.tuple #[.int .u64 (n:Int),.nilIface])
theorem hxN_lt:∀ (l:List UInt8)(a n:Nat),hxN a l=some n→n<(a+1) * 16 ^ l.length
 | [],a,n,h=>by simp [hxN] at h;simp;omega
 | c :: l,a,n,h=>by
  unfold hxN at h
  split at h
  ·cases h
  ·rename_i d hd
   have:=hxN_lt l _ n h
   have hd16:=hxU_lt hd
   rw [List.length_cons,Nat.pow_succ]
   calc n<(16 * a+d+1) * 16 ^ l.length:=this
    _≤(16 * (a+1)) * 16 ^ l.length:=Nat.mul_le_mul_right _ (by omega)
    _=(a+1) * (16 ^ l.length * 16):=by rw [Nat.mul_comm 16 (a+1),Nat.mul_assoc,Nat.mul_comm 16]
set_option maxRecDepth 100000 in
theorem ipu0 (w:World):Calls Tryz.prog 134 #[.string ⟨#[]⟩,.int .i64 16,.int .i64 32] w fun e w'=>e=puE∧Below w.heap.size w w':=by
 unfold puE
 go_enter Tryz.func134, Tryz.ntmps134
 go_wp2
 go_ret2
 exact ⟨rfl,Below.refl _ _⟩
theorem ipu_q (s:ByteArray)(hs:s.size≤7)(w:World):Calls Tryz.prog 134 #[.string s,.int .i64 16,.int .i64 32] w fun e w'=>e=(match puN s with|none=>puE|some n=>.returned (.tuple #[.int .u64 (n:Int),.nilIface]))∧Below w.heap.size w w':=by
 by_cases h0:s.size=0
 ·have hs0:s=⟨#[]⟩:=by
   obtain ⟨d⟩:=s
   have:d.size=0:=h0
   rw [Array.eq_empty_of_size_eq_zero this]
  have:puN s=none:=by unfold puN;rw [if_pos h0]
  rw [this]
  subst hs0
  exact ipu0 w
 ·refine (ipu16 s hs h0 w).mono ?_
  rintro e w' ⟨h1,h2⟩
  refine ⟨?_,h2⟩
  rw [h1]
  unfold puR puN
  rw [if_neg h0,if_neg h0]
  first|done|rfl|(cases hxN 0 (bl s) <;> rfl)
set_option maxRecDepth 100000 in
theorem pu_q (s:ByteArray)(hs:s.size≤7)(w:World)(ge:Ge (puN s=none) w)(hz8:8≤w.heap.size):Calls Tryz.prog 113 #[.string s,.int .i64 16,.int .i64 32] w fun e w'=>puP (puN s) e∧Below w.heap.size w w':=by
 have IP:=hide (fun w=>ipu_q s hs w)
 cases hn:puN s with
 | none =>
  rw [hn] at IP
  simp only [puE] at IP
  have TE:Hid (∀ w1,Below w.heap.size w w1→Calls Tryz.prog 135 #[.string ⟨#[80,97,114,115,101,85,105,110,116]⟩,.string s,.int .i64 16,.int .i64 32,.iface 177 (.int .i64 2)] w1 fun e w'=>∃ T N,e=.returned (.iface T (.pointer (some ⟨N,0,none⟩)))∧Below w1.heap.size w1 w'):=fun w1 hb=>by
   obtain ⟨ev,h1,h2⟩:=ge.low hb hz8 hn
   refine (Any.strconv_toError_syntax laysTE ⟨#[80,97,114,115,101,85,105,110,116]⟩ s 16 32 ev w1 (by omega) h1 h2).mono ?_
   rintro e w' ⟨N,h1,_,_,h3⟩
   exact ⟨_,N,h1,h3⟩
  clear ge hn
  go_enter Tryz.func113, Tryz.ntmps113
  go_wp2_with (first|(go_at_call 134;refine (IP.out _).mono ?_;rintro e w1 ⟨rfl,hb1⟩;have B1:=hide hb1;clear hb1)|(go_at_call 135;refine (TE.out _ B1.out).mono ?_;rintro e w2 ⟨T,N,rfl,hb2⟩;have B2:Hid (Below w.heap.size w w2):=below_then B1.out hb2;clear hb2))
  refine bodyPost_ret (v:=.tuple #[.int .u64 0,.iface T (.pointer (some ⟨N,0,none⟩))]) (by simp [results,Tryz.results113,go_sem]) rfl ⟨⟨_,_,rfl⟩,B2.out⟩
 | some n =>
  rw [hn] at IP
  clear ge hn
  go_enter Tryz.func113, Tryz.ntmps113
  go_wp2_with (go_at_call 134;refine (IP.out _).mono ?_;rintro e w1 ⟨rfl,hb1⟩;have B1:=hide hb1;clear hb1)
  exact bodyPost_ret (v:=.tuple #[.int .u64 (n:Int),.nilIface]) (by simp [results,Tryz.results113,go_sem]) rfl ⟨rfl,B1.out⟩
def ccP (o:Option (List UInt8))(e:Ending):Prop:=match o with
 | none=>e=.panicked (pan 100)
 | some l=>e=.returned (.string (mkB l))
theorem cc_0 (w:World):Calls Tryz.prog 89 #[.string ⟨#[38,108,116,59]⟩] w fun e w'=>e=.returned (.string (mkB [60]))∧Below w.heap.size w w':=by
 go_enter Tryz.func89, Tryz.ntmps89
 go_wp2_with fail
 go_ret
 exact ⟨rfl,Below.refl _ _⟩
theorem cc_1 (w:World):Calls Tryz.prog 89 #[.string ⟨#[38,97,109,112,59]⟩] w fun e w'=>e=.returned (.string (mkB [38]))∧Below w.heap.size w w':=by
 go_enter Tryz.func89, Tryz.ntmps89
 go_wp2_with fail
 go_ret
 exact ⟨rfl,Below.refl _ _⟩
theorem cc_2 (w:World):Calls Tryz.prog 89 #[.string ⟨#[38,113,117,111,116,59]⟩] w fun e w'=>e=.returned (.string (mkB [34]))∧Below w.heap.size w w':=by
 go_enter Tryz.func89, Tryz.ntmps89
 go_wp2_with fail
 go_ret
 exact ⟨rfl,Below.refl _ _⟩
theorem cc_3 (w:World):Calls Tryz.prog 89 #[.string ⟨#[38,103,116,59]⟩] w fun e w'=>e=.returned (.string (mkB [62]))∧Below w.heap.size w w':=by
 go_enter Tryz.func89, Tryz.ntmps89
 go_wp2_with fail
 go_ret
 exact ⟨rfl,Below.refl _ _⟩
theorem refC_num (l:List UInt8)(n0:¬ l=[38,108,116,59])(n1:¬ l=[38,97,109,112,59])(n2:¬ l=[38,113,117,111,116,59])(n3:¬ l=[38,103,116,59])(hl:l.getLast?=some 59)(hz:l.length≤10) :
  (l.take 3=[38,35,120]→refC l=(if ((l.drop 3).dropLast).length=0 then none else match hxN 0 ((l.drop 3).dropLast) with|none=>none|some n=>if Utf8.valid n then some (bl (Utf8.encode n)) else none))∧(¬ l.take 3=[38,35,120]→refC l=none):=by
 unfold refC
 rw [if_neg n0,if_neg n1,if_neg n2,if_neg n3]
 constructor
 ·intro h
  match l,h with
  | [],h=>cases h
  | [_],h=>cases h
  | [_,_],h=>cases h
  | a :: b :: c :: d,h =>
   simp only [List.take_succ_cons,List.take_zero,List.cons.injEq,and_true] at h
   obtain ⟨rfl,rfl,rfl⟩:=h
   simp only [List.drop_succ_cons,List.drop_zero]
   cases hd:d.dropLast with
   | nil=>rfl
   | cons x y =>
    rw [if_neg (by simp)]
    simp only
    cases hxN 0 (x :: y) <;> rfl
 ·intro h
  split
  ·rename_i d
   exact absurd rfl h
  ·rfl
set_option maxRecDepth 100000 in
theorem cc_num (s:ByteArray)(hs:s.size≤10)(hl:(bl s).getLast?=some 59)(n0:¬ bl s=[38,108,116,59])(n1:¬ bl s=[38,97,109,112,59])(n2:¬ bl s=[38,113,117,111,116,59])(n3:¬ bl s=[38,103,116,59])(w:World)(ge:Ge (refC (bl s)=none) w)(hz8:8≤w.heap.size):Calls Tryz.prog 89 #[.string s] w fun e w'=>ccP (refC (bl s)) e∧Below w.heap.size w w':=by
 have m0:=ba_neq2 n0
 have m1:=ba_neq2 n1
 have m2:=ba_neq2 n2
 have m3:=ba_neq2 n3
 obtain ⟨R1,R2⟩:=refC_num (bl s) n0 n1 n2 n3 hl (by rw [bl_length];exact hs)
 have CP:=hide (fun w=>cutp_q s w (by omega))
 clear n0 n1 n2 n3
 by_cases hp:(bl s).take 3=[38,35,120]
 ·have hR:=R1 hp
  have h4:4≤s.size:=by
   have h3:=congrArg List.length hp
   rw [List.length_take,bl_length] at h3
   simp at h3
   by_cases h4:4≤s.size
   ·exact h4
   ·have e3:bl s=[38,35,120]:=by rw [←hp,List.take_of_length_le (by rw [bl_length];omega)]
    rw [e3] at hl
    cases hl
  have hD:bl (s.extract 3 s.size)=(bl s).drop 3:=by rw [bl_ext s 3 s.size (Nat.le_refl _),List.take_of_length_le (Nat.le_of_eq (bl_length s))]
  have hDl:(bl (s.extract 3 s.size)).getLast?=some 59:=by
   rw [hD,List.getLast?_drop,if_neg (by rw [bl_length];omega)]
   exact hl
  have hDs:(s.extract 3 s.size).size=s.size - 3:=by rw [←bl_length,hD,List.length_drop,bl_length]
  rw [if_pos hp] at CP
  obtain ⟨D,hDD⟩:∃ D,s.extract 3 s.size=D:=⟨_,rfl⟩
  rw [hDD] at CP hD hDl hDs
  have TS:=hide (fun w=>trims_q D w (by omega) hDl)
  have hE:bl (D.extract 0 (D.size - 1))=((bl s).drop 3).dropLast:=by rw [bl_ext D 0 _ (by omega),List.drop_zero,←hD,List.dropLast_eq_take,bl_length]
  obtain ⟨X,hX⟩:∃ X,D.extract 0 (D.size - 1)=X:=⟨_,rfl⟩
  rw [hX] at TS hE
  have hXs:X.size≤6:=by rw [←bl_length,hE,List.length_dropLast,List.length_drop,bl_length];omega
  have hpn:puN X=if ((bl s).drop 3).dropLast.length=0 then none else hxN 0 (((bl s).drop 3).dropLast):=by unfold puN;rw [←bl_length,hE]
  have geX:Ge (puN X=none) w:=fun hn=>ge (by
   rw [hR]
   rw [hpn] at hn
   split
   ·rfl
   ·rename_i h
    rw [if_neg h] at hn
    rw [hn])
  have PU:=hide (fun w1 (hb:w1=w)=>pu_q X (by omega) w1 (by rw [hb];exact geX) (by rw [hb];exact hz8))
  clear hDD hX hDl hD hDs h4 hE R1 R2 hp hl ge geX
  cases hn:puN X with
  | none =>
   have hr:refC (bl s)=none:=by
    rw [hR]
    rw [hpn] at hn
    split
    ·rfl
    ·rename_i h
     rw [if_neg h] at hn
     rw [hn]
   rw [hr]
   rw [hn] at PU
   clear hR hr hpn hn
   simp only [puP] at PU
   go_enter Tryz.func89, Tryz.ntmps89
   go_wp2_with (first|(go_at_call 112;refine (CP.out _).mono ?_;rintro e w1 ⟨rfl,hw1⟩;have hws:=hw1.symm;clear hw1;subst hws)|(go_at_call 114;refine (TS.out _).mono ?_;rintro e w1 ⟨rfl,hw1⟩;have hws:=hw1.symm;clear hw1;subst hws)|(go_at_call 113;refine (PU.out _ rfl).mono ?_;rintro e w1 ⟨⟨T,N,rfl⟩,hb1⟩;have B1:=hide hb1;clear hb1))
   exact ⟨rfl,rfl,B1.out⟩
  | some n =>
   have hnl:n<16777216:=by
    have h1:hxN 0 (bl X)=some n:=by
     unfold puN at hn
     split at hn
     ·cases hn
     ·exact hn
    have:=hxN_lt _ _ _ h1
    rw [bl_length] at this
    have h6:16 ^ X.size≤16 ^ 6:=Nat.pow_le_pow_right (by omega) hXs
    have:(16:Nat) ^ 6=16777216:=by decide
    omega
   have EC:=hide (fun w=>Ut.encode_any (n:Int) w (by omega) (by omega))
   have hr:refC (bl s)=if Utf8.valid n then some (bl (Utf8.encode n)) else none:=by
    rw [hR]
    rw [hpn] at hn
    split
    ·rename_i h
     rw [if_pos h] at hn
     cases hn
    ·rename_i h
     rw [if_neg h] at hn
     rw [hn]
   rw [hr]
   rw [hn] at PU
   simp only [puP] at PU
   have hw:IntKind.i64.wrap (n:Int)=(n:Int):=by rw [IntKind.wrap_i64] <;> omega
   clear hR hr hpn hn
   cases hv:Utf8.valid (n:Int) with
   | false =>
    rw [hv] at EC
    simp only [Bool.false_eq_true,if_false] at EC ⊢
    clear hv
    go_enter Tryz.func89, Tryz.ntmps89
    go_wp2_with (first|(go_at_call 112;refine (CP.out _).mono ?_;rintro e w1 ⟨rfl,hw1⟩;have hws:=hw1.symm;clear hw1;subst hws)|(go_at_call 114;refine (TS.out _).mono ?_;rintro e w1 ⟨rfl,hw1⟩;have hws:=hw1.symm;clear hw1;subst hws)|(go_at_call 113;refine (PU.out _ rfl).mono ?_;rintro e w1 ⟨rfl,hb1⟩;have B1:=hide hb1;clear hb1)|(go_at_call 115;refine (EC.out _).mono ?_;rintro e w2 ⟨rfl,hw2⟩;have hws:=hw2.symm;clear hw2;subst hws))
    exact ⟨rfl,rfl,B1.out⟩
   | true =>
    rw [hv] at EC
    simp only [if_true] at EC ⊢
    clear hv
    simp only [ccP,mkB_bl]
    obtain ⟨Z,hZ⟩:∃ Z,Utf8.encode (n:Int)=Z:=⟨_,rfl⟩
    rw [hZ] at EC ⊢
    clear hZ
    go_enter Tryz.func89, Tryz.ntmps89
    go_wp2_with (first|(go_at_call 112;refine (CP.out _).mono ?_;rintro e w1 ⟨rfl,hw1⟩;have hws:=hw1.symm;clear hw1;subst hws)|(go_at_call 114;refine (TS.out _).mono ?_;rintro e w1 ⟨rfl,hw1⟩;have hws:=hw1.symm;clear hw1;subst hws)|(go_at_call 113;refine (PU.out _ rfl).mono ?_;rintro e w1 ⟨rfl,hb1⟩;have B1:=hide hb1;clear hb1)|(go_at_call 115;refine (EC.out _).mono ?_;rintro e w2 ⟨rfl,hw2⟩;have hws:=hw2.symm;clear hw2;subst hws))
    go_ret
    exact ⟨rfl,B1.out⟩
 ·have hR:=R2 hp
  rw [if_neg hp] at CP
  rw [hR]
  clear hR R1 R2 hp hl ge
  go_enter Tryz.func89, Tryz.ntmps89
  go_wp2_with (go_at_call 112;refine (CP.out _).mono ?_;rintro e w1 ⟨rfl,hw1⟩;have hws:=hw1.symm;clear hw1;subst hws)
  exact ⟨rfl,rfl,Below.refl _ _⟩
theorem cc_q (s:ByteArray)(hs:s.size≤10)(hl:(bl s).getLast?=some 59)(w:World)(ge:Ge (refC (bl s)=none) w)(hz8:8≤w.heap.size):Calls Tryz.prog 89 #[.string s] w fun e w'=>ccP (refC (bl s)) e∧Below w.heap.size w w':=by
 by_cases h0:bl s=[38,108,116,59]
 ·have e:s=⟨#[38,108,116,59]⟩:=by rw [←mkB_bl s,h0];rfl
  subst e
  exact cc_0 w
 by_cases h1:bl s=[38,97,109,112,59]
 ·have e:s=⟨#[38,97,109,112,59]⟩:=by rw [←mkB_bl s,h1];rfl
  subst e
  exact cc_1 w
 by_cases h2:bl s=[38,113,117,111,116,59]
 ·have e:s=⟨#[38,113,117,111,116,59]⟩:=by rw [←mkB_bl s,h2];rfl
  subst e
  exact cc_2 w
 by_cases h3:bl s=[38,103,116,59]
 ·have e:s=⟨#[38,103,116,59]⟩:=by rw [←mkB_bl s,h3];rfl
  subst e
  exact cc_3 w
 exact cc_num s hs hl h0 h1 h2 h3 w ge hz8
end
def bdR (st:Xs)(c:UInt8):Prop:=c=59∧refC (st.ref++[c])=none
section
variable {W W1 W2 : World} {r : Nat} {g : Tg} {m m1 : Xm} {st : Xs}
theorem enc_len (r:Int):(Utf8.encode r).size≤4:=by
 unfold Utf8.encode
 obtain ⟨c,hc⟩:∃ c,(if Utf8.valid r then r.toNat else Utf8.runeError)=c:=⟨_,rfl⟩
 rw [hc]
 simp only
 split
 ·exact (show 1≤4 by omega)
 split
 ·exact (show 2≤4 by omega)
 split
 ·exact (show 3≤4 by omega)
 ·exact (show 4≤4 by omega)
theorem refC_len {l t:List UInt8} (h:refC l=some t):t.length≤1000:=by
 unfold refC at h
 split at h
 ·cases h;decide
 split at h
 ·cases h;decide
 split at h
 ·cases h;decide
 split at h
 ·cases h;decide
 split at h
 ·split at h
  ·cases h
  ·split at h
   ·cases h
   ·split at h
    ·have e:=Option.some.inj h
     rw [←e,bl_length]
     exact Nat.le_trans (enc_len _) (by omega)
    ·cases h
 ·cases h
set_option maxRecDepth 100000 in
theorem inRef_q (h:XM W r g m st)(c:UInt8)(ge:Ge (bdR st c) W)(hr9:st.ref.length≤9):Calls Tryz.prog 60 #[.pointer (some ⟨r,2,none⟩),.int .u8 c.toNat] W fun e w'=>XP W r g m (inRefS st c) e w':=by
 have hlt:=h.lt
 have H:=hide h
 obtain ⟨wa,wc,hw⟩:=h.shR
 have c4:W.cell? ⟨r,4,none⟩=some (.slice wa st.ref.length wc):=(h.rd.cell 4).trans (by rw [←hw];rfl)
 have f4W:W.frozen? ⟨r,4,none⟩=false:=h.rd.frz 4
 have O:=h.row.ref
 rw [hw] at O
 have O':=hide O
 have Hw:=hide hw
 have hl5:Hid (st.ref.length + [c].length≤10):=by show _≤_;simp;omega
 have ge0:Hid (c=59→Ge (refC (st.ref++[c])=none) W):=fun h5 u=>ge ⟨h5,u⟩
 have lo8:=hide h.t.gk.low
 clear h hw O ge
 unfold inRefS
 by_cases h59:c=59
 ·rw [if_pos h59]
  have e59:((c.toNat:Int)==59)=true:=by rw [h59];rfl
  have hgl:Hid ((st.ref++[c]).getLast?=some 59):=by show _=_;rw [List.getLast?_concat,h59]
  obtain ⟨q0,ge1,ge2⟩:∃ q0:Prop,Ge q0 W∧∀ w1,Ge q0 w1→Ge (refC (st.ref++[c])=none) w1:=⟨_,ge0.out h59,fun _ h=>h⟩
  have ge':=hide ge1
  have ge3:=hide ge2
  clear ge1 ge2 ge0
  clear h59
  have CQ:Hid (∀ w1,Ge q0 w1→8≤w1.heap.size→Calls Tryz.prog 89 #[.string (mkB (st.ref++[c]))] w1 fun e w'=>ccP (refC (st.ref++[c])) e∧Below w1.heap.size w1 w'):=fun w1 g1 g2=>by
   have:=cc_q (mkB (st.ref++[c])) (by rw [mkB_size,List.length_append];simp;omega) (by rw [bl_mkB];exact hgl.out) w1 (by rw [bl_mkB];exact ge3.out w1 g1) g2
   rw [bl_mkB] at this
   exact this
  have HQ:Hid (∀ l,refC (st.ref++[c])=some l→∀ w m1,XM w r g m1 {st with ref:=[]}→Calls Tryz.prog 90 #[.pointer (some ⟨r,2,none⟩),.string (mkB l)] w fun e w'=>XP w r g m1 (holdS {st with ref:=[]} l) e w'):=fun l hc w m1 h1=>by
   have:=hold_x h1 (mkB l) (by rw [mkB_size];exact refC_len hc)
   rw [bl_mkB] at this
   exact this
  obtain ⟨q,hq⟩:∃ q,refC (st.ref++[c])=q:=⟨_,rfl⟩
  rw [hq] at CQ HQ ⊢
  clear hq
  cases q with
  | none =>
   simp only [ccP] at CQ ⊢
   clear HQ
   go_enter Tryz.func60, Tryz.ntmps60
   go_wp2_with (at_builtin;refine Sto.out ?_)
   refine Sto.mk ?_
   refine app_b rfl (.tmp 9) (.tmp 11) rfl (r+1) (.slice wa st.ref.length wc) st.ref rfl (own_of O'.out fun k hk hlt=>Below.heap_alloc _ _ _ hlt) ⟨W.heap.size,0,none⟩ 1 rfl c (news1b W _ _ c.toNat rfl) (by omega) (by simp;omega) ?_
   intro av5 c5 w5 ho5 hg5 hat5
   have P5:=hide (H.out.pushR (l:=[c]) Hw.out (below_al (Below.refl _ _)) hg5.out ho5.out hat5.out hl5.out)
   have K5:XdB w5 r _:=((H.out.then (below_al (Below.refl _ _))).rd.same (hg5.out.block r (by simp;omega) (fun e=>by have:=(World.ownsRow.lt O'.out r e.symm).1;omega)))
   have l5:=(K5.cell 4).trans (show _=some (.slice wa st.ref.length wc) by rw [←Hw.out];rfl)
   have n5:w5.frozen? ⟨r,4,none⟩=false:=K5.frz 4
   obtain ⟨W6,hW6⟩:∃ W6,w5.setCell ⟨r,4,none⟩ (.slice av5 (st.ref.length+1) c5)=W6:=⟨_,rfl⟩
   rw [hW6] at P5
   obtain ⟨pf,_,m6,pm,po⟩:=P5.out
   have F6:=hide pf
   have M6:=hide pm
   have O6:=hide po
   have d4:W6.cell? ⟨r,4,none⟩=some (.slice av5 (st.ref.length+1) c5):=by rw [←hW6];exact (K5.set 4 (.slice av5 (st.ref.length+1) c5) (({st with ref:=st.ref++[c]}:Xs).xv g {m with ref:=.slice av5 (st.ref.length+1) c5}) rfl).cell 4
   have f4:W6.frozen? ⟨r,4,none⟩=false:=M6.out.rd.frz 4
   have hm6:Hid (m6.ref=.slice av5 (st.ref.length+1) c5):=by
    have:=(M6.out.rd.cell 4).symm.trans d4
    exact Option.some.inj this
   clear P5 pf pm po K5 c4 f4W
   have hcv:(convert 32 9 (.slice av5 (st.ref.length+1) c5)).run Tryz.prog W6=.ok (.string (mkB (st.ref++[c]))) W6:=by
    have:=own_conv (M6.out.row.ref)
    rw [hm6.out] at this
    exact this
   have CC:=hide (CQ.out W6 (ge'.out.low F6.out.below lo8.out) (Nat.le_trans lo8.out M6.out.low))
   clear CQ
   go_wp2_with (go_at_call 89;refine CC.out.mono ?_;rintro e w7 ⟨rfl,hb7⟩;have B7:=hide hb7;clear hb7)
   exact ⟨rfl,XP.trans F6.out O6.out (XP.base M6.out B7.out ((M6.out.then B7.out).fail 100))⟩
  | some l =>
   simp only [ccP] at CQ ⊢
   have HO:=hide (HQ.out l rfl)
   clear HQ
   obtain ⟨L,hL⟩:∃ L,mkB l=L:=⟨_,rfl⟩
   rw [hL] at CQ HO
   clear hL
   obtain ⟨o,ho⟩:∃ o,holdS {st with ref:=[]} l=o:=⟨_,rfl⟩
   rw [ho] at HO ⊢
   clear ho
   cases o with
   | inl E =>
    go_enter Tryz.func60, Tryz.ntmps60
    go_wp2_with (at_builtin;refine Sto.out ?_)
    refine Sto.mk ?_
    refine app_b rfl (.tmp 9) (.tmp 11) rfl (r+1) (.slice wa st.ref.length wc) st.ref rfl (own_of O'.out fun k hk hlt=>Below.heap_alloc _ _ _ hlt) ⟨W.heap.size,0,none⟩ 1 rfl c (news1b W _ _ c.toNat rfl) (by omega) (by simp;omega) ?_
    intro av5 c5 w5 ho5 hg5 hat5
    have P5:=hide (H.out.pushR (l:=[c]) Hw.out (below_al (Below.refl _ _)) hg5.out ho5.out hat5.out hl5.out)
    have K5:XdB w5 r _:=((H.out.then (below_al (Below.refl _ _))).rd.same (hg5.out.block r (by simp;omega) (fun e=>by have:=(World.ownsRow.lt O'.out r e.symm).1;omega)))
    have l5:=(K5.cell 4).trans (show _=some (.slice wa st.ref.length wc) by rw [←Hw.out];rfl)
    have n5:w5.frozen? ⟨r,4,none⟩=false:=K5.frz 4
    obtain ⟨W6,hW6⟩:∃ W6,w5.setCell ⟨r,4,none⟩ (.slice av5 (st.ref.length+1) c5)=W6:=⟨_,rfl⟩
    rw [hW6] at P5
    obtain ⟨pf,_,m6,pm,po⟩:=P5.out
    have F6:=hide pf
    have M6:=hide pm
    have O6:=hide po
    have d4:W6.cell? ⟨r,4,none⟩=some (.slice av5 (st.ref.length+1) c5):=by rw [←hW6];exact (K5.set 4 (.slice av5 (st.ref.length+1) c5) (({st with ref:=st.ref++[c]}:Xs).xv g {m with ref:=.slice av5 (st.ref.length+1) c5}) rfl).cell 4
    have f4:W6.frozen? ⟨r,4,none⟩=false:=M6.out.rd.frz 4
    have hm6:Hid (m6.ref=.slice av5 (st.ref.length+1) c5):=by
     have:=(M6.out.rd.cell 4).symm.trans d4
     exact Option.some.inj this
    clear P5 pf pm po K5 c4 f4W
    have hcv:(convert 32 9 (.slice av5 (st.ref.length+1) c5)).run Tryz.prog W6=.ok (.string (mkB (st.ref++[c]))) W6:=by
     have:=own_conv (M6.out.row.ref)
     rw [hm6.out] at this
     exact this
    have nil4:Hid (∀ w7,Below W6.heap.size W6 w7→XP W6 r g m6 (.inr {st with ref:=[]}) (.returned (.tuple #[])) (w7.setCell ⟨r,4,none⟩ (.slice none 0 0))):=fun w7 hb=>by
     have h7:=M6.out.then hb
     have O7:TdO r w7 (w7.setCell ⟨r,4,none⟩ (.slice none 0 0)):=TdO.refl.set 4 _
     refine XP.base M6.out hb ⟨XF.ofO h7 O7,rfl,{m6 with ref:=.slice none 0 0},h7.blk O7 (h7.rd.set 4 (.slice none 0 0) (({st with ref:=[]}:Xs).xv g {m6 with ref:=.slice none 0 0}) rfl) ⟨h7.row.mark,h7.row.held,own_nil _ _,h7.row.opn,h7.row.d1,(fun k _ e=>by cases e),(fun k _ e=>by cases e),h7.row.ml,h7.row.hl,Nat.zero_le _,h7.row.kl⟩ rfl rfl,⟨OB.refl _ _,OB.refl _ _,Or.inr (fun k e=>by cases e),OB.refl _ _⟩⟩
    have CC:=hide (CQ.out W6 (ge'.out.low F6.out.below lo8.out) (Nat.le_trans lo8.out M6.out.low))
    clear CQ
    go_wp2_with (first|(go_at_call 89;refine CC.out.mono ?_;rintro e w7 ⟨rfl,hb7⟩;have M7:=hide (M6.out.then hb7);have d47:w7.cell? ⟨r,4,none⟩=some (.slice av5 (st.ref.length+1) c5):=(M7.out.rd.cell 4).trans (by rw [←hm6.out];rfl);have f47:w7.frozen? ⟨r,4,none⟩=false:=M7.out.rd.frz 4;obtain ⟨pf,_,m8,pm,po⟩:=nil4.out w7 hb7;have F8:=hide pf;have M8:=hide pm;have O8:=hide po;clear hb7 pf pm po)|(go_at_call 90;refine (HO.out _ _ M8.out).mono ?_;rintro q w9 hp;have K:=hide (XP.trans F6.out O6.out (XP.trans F8.out O8.out hp));obtain ⟨_,rfl,_⟩:=hp))
    exact ⟨rfl,K.out⟩
   | inr x =>
    go_enter Tryz.func60, Tryz.ntmps60
    go_wp2_with (at_builtin;refine Sto.out ?_)
    refine Sto.mk ?_
    refine app_b rfl (.tmp 9) (.tmp 11) rfl (r+1) (.slice wa st.ref.length wc) st.ref rfl (own_of O'.out fun k hk hlt=>Below.heap_alloc _ _ _ hlt) ⟨W.heap.size,0,none⟩ 1 rfl c (news1b W _ _ c.toNat rfl) (by omega) (by simp;omega) ?_
    intro av5 c5 w5 ho5 hg5 hat5
    have P5:=hide (H.out.pushR (l:=[c]) Hw.out (below_al (Below.refl _ _)) hg5.out ho5.out hat5.out hl5.out)
    have K5:XdB w5 r _:=((H.out.then (below_al (Below.refl _ _))).rd.same (hg5.out.block r (by simp;omega) (fun e=>by have:=(World.ownsRow.lt O'.out r e.symm).1;omega)))
    have l5:=(K5.cell 4).trans (show _=some (.slice wa st.ref.length wc) by rw [←Hw.out];rfl)
    have n5:w5.frozen? ⟨r,4,none⟩=false:=K5.frz 4
    obtain ⟨W6,hW6⟩:∃ W6,w5.setCell ⟨r,4,none⟩ (.slice av5 (st.ref.length+1) c5)=W6:=⟨_,rfl⟩
    rw [hW6] at P5
    obtain ⟨pf,_,m6,pm,po⟩:=P5.out
    have F6:=hide pf
    have M6:=hide pm
    have O6:=hide po
    have d4:W6.cell? ⟨r,4,none⟩=some (.slice av5 (st.ref.length+1) c5):=by rw [←hW6];exact (K5.set 4 (.slice av5 (st.ref.length+1) c5) (({st with ref:=st.ref++[c]}:Xs).xv g {m with ref:=.slice av5 (st.ref.length+1) c5}) rfl).cell 4
    have f4:W6.frozen? ⟨r,4,none⟩=false:=M6.out.rd.frz 4
    have hm6:Hid (m6.ref=.slice av5 (st.ref.length+1) c5):=by
     have:=(M6.out.rd.cell 4).symm.trans d4
     exact Option.some.inj this
    clear P5 pf pm po K5 c4 f4W
    have hcv:(convert 32 9 (.slice av5 (st.ref.length+1) c5)).run Tryz.prog W6=.ok (.string (mkB (st.ref++[c]))) W6:=by
     have:=own_conv (M6.out.row.ref)
     rw [hm6.out] at this
     exact this
    have nil4:Hid (∀ w7,Below W6.heap.size W6 w7→XP W6 r g m6 (.inr {st with ref:=[]}) (.returned (.tuple #[])) (w7.setCell ⟨r,4,none⟩ (.slice none 0 0))):=fun w7 hb=>by
     have h7:=M6.out.then hb
     have O7:TdO r w7 (w7.setCell ⟨r,4,none⟩ (.slice none 0 0)):=TdO.refl.set 4 _
     refine XP.base M6.out hb ⟨XF.ofO h7 O7,rfl,{m6 with ref:=.slice none 0 0},h7.blk O7 (h7.rd.set 4 (.slice none 0 0) (({st with ref:=[]}:Xs).xv g {m6 with ref:=.slice none 0 0}) rfl) ⟨h7.row.mark,h7.row.held,own_nil _ _,h7.row.opn,h7.row.d1,(fun k _ e=>by cases e),(fun k _ e=>by cases e),h7.row.ml,h7.row.hl,Nat.zero_le _,h7.row.kl⟩ rfl rfl,⟨OB.refl _ _,OB.refl _ _,Or.inr (fun k e=>by cases e),OB.refl _ _⟩⟩
    have CC:=hide (CQ.out W6 (ge'.out.low F6.out.below lo8.out) (Nat.le_trans lo8.out M6.out.low))
    clear CQ
    go_wp2_with (first|(go_at_call 89;refine CC.out.mono ?_;rintro e w7 ⟨rfl,hb7⟩;have M7:=hide (M6.out.then hb7);have d47:w7.cell? ⟨r,4,none⟩=some (.slice av5 (st.ref.length+1) c5):=(M7.out.rd.cell 4).trans (by rw [←hm6.out];rfl);have f47:w7.frozen? ⟨r,4,none⟩=false:=M7.out.rd.frz 4;obtain ⟨pf,_,m8,pm,po⟩:=nil4.out w7 hb7;have F8:=hide pf;have M8:=hide pm;have O8:=hide po;clear hb7 pf pm po)|(go_at_call 90;refine (HO.out _ _ M8.out).mono ?_;rintro q w9 hp;have K:=hide (XP.trans F6.out O6.out (XP.trans F8.out O8.out hp));obtain ⟨_,rfl,_⟩:=hp))
    go_end0
    exact K.out
 ·rw [if_neg h59]
  have e59:((c.toNat:Int)==59)=false:=u8_ne (k:=59) (by decide) h59
  clear h59
  by_cases h10:st.ref.length+1=10
  ·rw [if_pos h10]
   have e10:(((st.ref.length:Int)+1)==10)=true:=by simp;omega
   clear h10
   go_enter Tryz.func60, Tryz.ntmps60
   go_wp2_with (at_builtin;refine Sto.out ?_)
   refine Sto.mk ?_
   refine app_b rfl (.tmp 9) (.tmp 11) rfl (r+1) (.slice wa st.ref.length wc) st.ref rfl (own_of O'.out fun k hk hlt=>Below.heap_alloc _ _ _ hlt) ⟨W.heap.size,0,none⟩ 1 rfl c (news1b W _ _ c.toNat rfl) (by omega) (by simp;omega) ?_
   intro av5 c5 w5 ho5 hg5 hat5
   have P5:=hide (H.out.pushR (l:=[c]) Hw.out (below_al (Below.refl _ _)) hg5.out ho5.out hat5.out hl5.out)
   have K5:XdB w5 r _:=((H.out.then (below_al (Below.refl _ _))).rd.same (hg5.out.block r (by simp;omega) (fun e=>by have:=(World.ownsRow.lt O'.out r e.symm).1;omega)))
   have l5:=(K5.cell 4).trans (show _=some (.slice wa st.ref.length wc) by rw [←Hw.out];rfl)
   have n5:w5.frozen? ⟨r,4,none⟩=false:=K5.frz 4
   obtain ⟨W6,hW6⟩:∃ W6,w5.setCell ⟨r,4,none⟩ (.slice av5 (st.ref.length+1) c5)=W6:=⟨_,rfl⟩
   rw [hW6] at P5
   obtain ⟨pf,_,m6,pm,po⟩:=P5.out
   have F6:=hide pf
   have M6:=hide pm
   have O6:=hide po
   have d4:W6.cell? ⟨r,4,none⟩=some (.slice av5 (st.ref.length+1) c5):=by rw [←hW6];exact (K5.set 4 (.slice av5 (st.ref.length+1) c5) (({st with ref:=st.ref++[c]}:Xs).xv g {m with ref:=.slice av5 (st.ref.length+1) c5}) rfl).cell 4
   have f4:W6.frozen? ⟨r,4,none⟩=false:=M6.out.rd.frz 4
   have hm6:Hid (m6.ref=.slice av5 (st.ref.length+1) c5):=by
    have:=(M6.out.rd.cell 4).symm.trans d4
    exact Option.some.inj this
   clear P5 pf pm po K5 c4 f4W
   go_wp2_with fail
   exact ⟨rfl,XP.trans F6.out O6.out (M6.out.fail 100)⟩
  ·rw [if_neg h10]
   have e10:(((st.ref.length:Int)+1)==10)=false:=by simp;omega
   clear h10
   go_enter Tryz.func60, Tryz.ntmps60
   go_wp2_with (at_builtin;refine Sto.out ?_)
   refine Sto.mk ?_
   refine app_b rfl (.tmp 9) (.tmp 11) rfl (r+1) (.slice wa st.ref.length wc) st.ref rfl (own_of O'.out fun k hk hlt=>Below.heap_alloc _ _ _ hlt) ⟨W.heap.size,0,none⟩ 1 rfl c (news1b W _ _ c.toNat rfl) (by omega) (by simp;omega) ?_
   intro av5 c5 w5 ho5 hg5 hat5
   have P5:=hide (H.out.pushR (l:=[c]) Hw.out (below_al (Below.refl _ _)) hg5.out ho5.out hat5.out hl5.out)
   have K5:XdB w5 r _:=((H.out.then (below_al (Below.refl _ _))).rd.same (hg5.out.block r (by simp;omega) (fun e=>by have:=(World.ownsRow.lt O'.out r e.symm).1;omega)))
   have l5:=(K5.cell 4).trans (show _=some (.slice wa st.ref.length wc) by rw [←Hw.out];rfl)
   have n5:w5.frozen? ⟨r,4,none⟩=false:=K5.frz 4
   obtain ⟨W6,hW6⟩:∃ W6,w5.setCell ⟨r,4,none⟩ (.slice av5 (st.ref.length+1) c5)=W6:=⟨_,rfl⟩
   rw [hW6] at P5
   obtain ⟨pf,_,m6,pm,po⟩:=P5.out
   have F6:=hide pf
   have M6:=hide pm
   have O6:=hide po
   have d4:W6.cell? ⟨r,4,none⟩=some (.slice av5 (st.ref.length+1) c5):=by rw [←hW6];exact (K5.set 4 (.slice av5 (st.ref.length+1) c5) (({st with ref:=st.ref++[c]}:Xs).xv g {m with ref:=.slice av5 (st.ref.length+1) c5}) rfl).cell 4
   have f4:W6.frozen? ⟨r,4,none⟩=false:=M6.out.rd.frz 4
   have hm6:Hid (m6.ref=.slice av5 (st.ref.length+1) c5):=by
    have:=(M6.out.rd.cell 4).symm.trans d4
    exact Option.some.inj this
   clear P5 pf pm po K5 c4 f4W
   go_wp2_with fail
   go_end0
   exact ⟨F6.out,rfl,m6,M6.out,O6.out⟩
end
end Go.Proofs.YthodiandebahdaaGreatDoor
