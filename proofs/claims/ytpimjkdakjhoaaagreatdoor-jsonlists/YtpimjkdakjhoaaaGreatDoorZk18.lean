/- Merged by program: JxQuote, JyQuote, JzQuote, KaQuote, KbRead, KcRead, KdRead, KeRead. -/
import Derived.Test.YtpimjkdakjhoaaaGreatDoorZk17
namespace Go.Proofs.YtpimjkdakjhoaaaGreatDoor
open Go.RowKit
set_option linter.unusedSimpArgs false
set_option linter.unusedVariables false
set_option maxHeartbeats 8000000
def hxD (c:UInt8):Option (Fin 16) :=
 if h:48≤c.toNat∧c.toNat≤57 then some ⟨c.toNat - 48,by omega⟩ else if h:97≤c.toNat∧c.toNat≤102 then some ⟨c.toNat - 87,by omega⟩ else none
def hxE:ByteArray:=⟨#[48,49,50,51,52,53,54,55,56,57,97,98,99,100,101,102]⟩
set_option maxRecDepth 100000 in
theorem hx_idx_n:∀ n,n<256→firstIdx hxE n.toUInt8=(match hxD n.toUInt8 with|none=>-1|some i=>(i.val:Int)):=by decide +kernel
theorem hx_idx (c:UInt8):firstIdx hxE ((c.toNat:Int).toNat.toUInt8)=(match hxD c with|none=>-1|some i=>(i.val:Int)):=by
 have h:=hx_idx_n c.toNat c.toNat_lt
 have e:c.toNat.toUInt8=c:=by simp
 rw [Int.toNat_natCast,h,e]
def lowC (c:UInt8):UInt8:=if 65≤c.toNat∧c.toNat≤70 then c + 32 else c
def digQ (q:Qa) (c:UInt8):Sum Int (Value×Qa) :=
 match hxD (lowC c) with
 | none=>.inl 70
 | some d =>
  let q1:Qa:={q with digits:=q.digits + 1,number:=q.number * 16 + d.val}
  if q.digits=3 then (match endQ q1 with | .inl E=>.inl E | .inr x=>.inr (.tuple #[],{x.2 with place:=1})) else .inr (.tuple #[],q1)
theorem or16 (n d:Nat) (hn:n<65536) (hd:d<16):bits .or .i64 ((n:Int) * 16) (d:Int)=((n * 16 + d:Nat):Int):=by
 have hx:n * 16 ||| d=n * 16 + d:=nat_join 4 _ _ (Nat.mul_mod_left _ _) hd
 have e:(n:Int) * 16=((n * 16:Nat):Int):=by omega
 rw [e]
 show IntKind.i64.wrap ((BitVec.ofInt 64 ((n * 16:Nat):Int) ||| BitVec.ofInt 64 (d:Int)).toNat:Int)=_
 rw [BitVec.toNat_or,BitVec.ofInt_natCast,BitVec.ofInt_natCast,BitVec.toNat_ofNat,BitVec.toNat_ofNat,Nat.mod_eq_of_lt (by omega:n * 16<2 ^ 64),Nat.mod_eq_of_lt (by omega:d<2 ^ 64),hx,IntKind.wrap_i64] <;> omega
section
variable {W W1 W2 : World} {r : Nat} {s : Rv} {q : Qa} {v : Value}
theorem QM.dg (h:QM W r s q v) (d:Nat) (hd:d<16) (hq:q.digits<4):QM ((W.setCell ⟨r,6,none⟩ (.int .i64 ((q.digits:Int) + 1))).setCell ⟨r,7,none⟩ (.int .i64 ((q.number * 16 + d:Nat):Int))) r s {q with digits:=q.digits + 1,number:=q.number * 16 + d} v :=
 ⟨(h.rd.set 6 (.int .i64 ((q.digits:Int) + 1)) (s.q {q with digits:=q.digits + 1} v) rfl).set 7 _ _ rfl,own_of h.own fun k hk _=>by
   have hkr:k≠r:=by have:=(World.ownsRow.lt h.own k hk).1;omega
   rw [Below.heap_setCell _ _ _ _ hkr,Below.heap_setCell _ _ _ _ hkr],h.len,(by
   show q.number * 16 + d<16 ^ (q.digits + 1)
   have:=h.num
   rw [Nat.pow_succ]
   omega),h.hig,(by show q.digits + 1≤4;omega)⟩
set_option maxRecDepth 20000 in
theorem digit_any (h:QM W r s q v) (hd:q.digits<4) (c:UInt8) (hc:¬ (65≤c.toNat∧c.toNat≤70)):Calls Tryz.prog 87 #[.pointer (some ⟨r,4,none⟩),.int .u8 c.toNat] W fun e w'=>QP W r s v (digQ q c) e w':=by
 have H:=hide h
 have hlt:=h.rd.lt
 have hnum:=h.num
 have c4:W.cell? ⟨r,4,none⟩=some (.int .i64 q.place):=(h.rd.cell 4).trans rfl
 have c6:W.cell? ⟨r,6,none⟩=some (.int .i64 q.digits):=(h.rd.cell 6).trans rfl
 have c7:W.cell? ⟨r,7,none⟩=some (.int .i64 q.number):=(h.rd.cell 7).trans rfl
 have f4:W.frozen? ⟨r,4,none⟩=false:=h.rd.frz 4
 have f6:W.frozen? ⟨r,6,none⟩=false:=h.rd.frz 6
 have f7:W.frozen? ⟨r,7,none⟩=false:=h.rd.frz 7
 clear h
 have SI:=hide (fun w=>sib_any hxE c.toNat w)
 rw [hx_idx] at SI
 have hlow:lowC c=c:=by unfold lowC;rw [if_neg hc]
 cases hi:hxD c with
 | none =>
  rw [hi] at SI
  have hq:digQ q c=.inl 70:=by unfold digQ;rw [hlow,hi]
  rw [hq]
  by_cases h65:65≤c.toNat
  ·have d1:decide ((65:Int)≤(c.toNat:Int))=true:=by simp;omega
   have d2:decide ((c.toNat:Int)≤70)=false:=by simp;omega
   clear hi hq hlow hc h65 hnum hd
   go_enter Tryz.func87, Tryz.ntmps87
   go_wp2_with (go_at_call 63;refine (SI.out _).mono ?_;rintro e w1 ⟨rfl,hw1⟩;have hw1s:=hw1.symm;clear hw1;subst hw1s)
   exact ⟨rfl,RdF.refl,rfl,_,H.out.rd⟩
  ·have d1:decide ((65:Int)≤(c.toNat:Int))=false:=by simp;omega
   clear hi hq hlow hc h65 hnum hd
   go_enter Tryz.func87, Tryz.ntmps87
   go_wp2_with (go_at_call 63;refine (SI.out _).mono ?_;rintro e w1 ⟨rfl,hw1⟩;have hw1s:=hw1.symm;clear hw1;subst hw1s)
   exact ⟨rfl,RdF.refl,rfl,_,H.out.rd⟩
 | some d =>
  rw [hi] at SI
  have hn4:q.number<65536:=H.out.num4
  have hd0:decide ((d.val:Int)<0)=false:=by simp
  have w1:IntKind.i64.wrap ((q.digits:Int) + 1)=(q.digits:Int) + 1:=by rw [IntKind.wrap_i64] <;> omega
  have w2:IntKind.i64.wrap ((q.number:Int) * 16)=(q.number:Int) * 16:=by rw [IntKind.wrap_i64] <;> omega
  have hor:bits .or .i64 ((q.number:Int) * 16) (d.val:Int)=((q.number * 16 + d.val:Nat):Int):=or16 q.number d.val hn4 d.isLt
  have M2:=hide (H.out.dg d.val d.isLt hd)
  have EN:=hide (endNumber_any M2.out)
  have hq:digQ q c=if q.digits=3 then (match endQ {q with digits:=q.digits + 1,number:=q.number * 16 + d.val} with | .inl E=>.inl E | .inr x=>.inr (.tuple #[],{x.2 with place:=1})) else .inr (.tuple #[],{q with digits:=q.digits + 1,number:=q.number * 16 + d.val}):=by unfold digQ;rw [hlow,hi]
  rw [hq]
  clear hq
  by_cases h3:q.digits=3
  ·rw [if_pos h3]
   have e3:((q.digits:Int) + 1==4)=true:=by simp;omega
   clear h3
   by_cases h65:65≤c.toNat
   ·have d1:decide ((65:Int)≤(c.toNat:Int))=true:=by simp;omega
    have d2:decide ((c.toNat:Int)≤70)=false:=by simp;omega
    clear hi hlow hc h65 hnum hd hn4
    cases he:endQ {q with digits:=q.digits + 1,number:=q.number * 16 + d.val} with
    | inl E =>
     rw [he] at EN
     go_enter Tryz.func87, Tryz.ntmps87
     go_wp2_with (first|(go_at_call 63;refine (SI.out _).mono ?_;rintro e w1 ⟨rfl,hw1⟩;have hw1s:=hw1.symm;clear hw1;subst hw1s)|(go_at_call 118;refine EN.out.mono ?_;rintro e w1 ⟨F1,rfl,M1⟩;have F:=hide F1;have M:=hide M1;clear F1 M1))
     exact ⟨rfl,F.out.pre8.pre8,rfl,M.out⟩
    | inr x =>
     rw [he] at EN
     go_enter Tryz.func87, Tryz.ntmps87
     go_wp2_with (first|(go_at_call 63;refine (SI.out _).mono ?_;rintro e w1 ⟨rfl,hw1⟩;have hw1s:=hw1.symm;clear hw1;subst hw1s)|(go_at_call 118;refine EN.out.mono ?_;rintro e w1 ⟨F1,rfl,v1,M1,O1⟩;have F:=hide F1;have M:=hide M1;have O:=hide O1;have d4:w1.cell? ⟨r,4,none⟩=some (.int .i64 x.2.place):=(M1.rd.cell 4).trans rfl;have g4:w1.frozen? ⟨r,4,none⟩=false:=M1.rd.frz 4;clear F1 M1 O1))
     go_end0
     exact ⟨F.out.pre8.pre8.set 4 _,rfl,v1,M.out.setp 1,O.out.imp id (fun f g hg=>by have:=f g hg;simpa using this)⟩
   ·have d1:decide ((65:Int)≤(c.toNat:Int))=false:=by simp;omega
    clear hi hlow hc h65 hnum hd hn4
    cases he:endQ {q with digits:=q.digits + 1,number:=q.number * 16 + d.val} with
    | inl E =>
     rw [he] at EN
     go_enter Tryz.func87, Tryz.ntmps87
     go_wp2_with (first|(go_at_call 63;refine (SI.out _).mono ?_;rintro e w1 ⟨rfl,hw1⟩;have hw1s:=hw1.symm;clear hw1;subst hw1s)|(go_at_call 118;refine EN.out.mono ?_;rintro e w1 ⟨F1,rfl,M1⟩;have F:=hide F1;have M:=hide M1;clear F1 M1))
     exact ⟨rfl,F.out.pre8.pre8,rfl,M.out⟩
    | inr x =>
     rw [he] at EN
     go_enter Tryz.func87, Tryz.ntmps87
     go_wp2_with (first|(go_at_call 63;refine (SI.out _).mono ?_;rintro e w1 ⟨rfl,hw1⟩;have hw1s:=hw1.symm;clear hw1;subst hw1s)|(go_at_call 118;refine EN.out.mono ?_;rintro e w1 ⟨F1,rfl,v1,M1,O1⟩;have F:=hide F1;have M:=hide M1;have O:=hide O1;have d4:w1.cell? ⟨r,4,none⟩=some (.int .i64 x.2.place):=(M1.rd.cell 4).trans rfl;have g4:w1.frozen? ⟨r,4,none⟩=false:=M1.rd.frz 4;clear F1 M1 O1))
     go_end0
     exact ⟨F.out.pre8.pre8.set 4 _,rfl,v1,M.out.setp 1,O.out.imp id (fun f g hg=>by have:=f g hg;simpa using this)⟩
  ·rw [if_neg h3]
   have e3:((q.digits:Int) + 1==4)=false:=by simp;omega
   clear h3
   by_cases h65:65≤c.toNat
   ·have d1:decide ((65:Int)≤(c.toNat:Int))=true:=by simp;omega
    have d2:decide ((c.toNat:Int)≤70)=false:=by simp;omega
    clear hi hlow hc h65 hnum hd hn4 EN
    go_enter Tryz.func87, Tryz.ntmps87
    go_wp2_with (go_at_call 63;refine (SI.out _).mono ?_;rintro e w1 ⟨rfl,hw1⟩;have hw1s:=hw1.symm;clear hw1;subst hw1s)
    go_end0
    exact ⟨(RdF.refl.set 6 _).set 7 _,rfl,v,M2.out,OB.refl _ _⟩
   ·have d1:decide ((65:Int)≤(c.toNat:Int))=false:=by simp;omega
    clear hi hlow hc h65 hnum hd hn4 EN
    go_enter Tryz.func87, Tryz.ntmps87
    go_wp2_with (go_at_call 63;refine (SI.out _).mono ?_;rintro e w1 ⟨rfl,hw1⟩;have hw1s:=hw1.symm;clear hw1;subst hw1s)
    go_end0
    exact ⟨(RdF.refl.set 6 _).set 7 _,rfl,v,M2.out,OB.refl _ _⟩
end
section
variable {W W1 W2 : World} {r : Nat} {s : Rv} {q : Qa} {v : Value}
set_option maxRecDepth 20000 in
theorem digit_big (h:QM W r s q v) (hd:q.digits<4) (c:UInt8) (hc:65≤c.toNat∧c.toNat≤70):Calls Tryz.prog 87 #[.pointer (some ⟨r,4,none⟩),.int .u8 c.toNat] W fun e w'=>QP W r s v (digQ q c) e w':=by
 have H:=hide h
 have hlt:=h.rd.lt
 have c4:W.cell? ⟨r,4,none⟩=some (.int .i64 q.place):=(h.rd.cell 4).trans rfl
 have c6:W.cell? ⟨r,6,none⟩=some (.int .i64 q.digits):=(h.rd.cell 6).trans rfl
 have c7:W.cell? ⟨r,7,none⟩=some (.int .i64 q.number):=(h.rd.cell 7).trans rfl
 have f4:W.frozen? ⟨r,4,none⟩=false:=h.rd.frz 4
 have f6:W.frozen? ⟨r,6,none⟩=false:=h.rd.frz 6
 have f7:W.frozen? ⟨r,7,none⟩=false:=h.rd.frz 7
 clear h
 have hlow:lowC c=c + 32:=by unfold lowC;rw [if_pos hc]
 have h32:((c + 32).toNat:Int)=(c.toNat:Int) + 32:=by rw [UInt8.toNat_add];simp;omega
 have SI:=hide (fun w=>sib_any hxE ((c + 32).toNat:Int) w)
 rw [hx_idx,h32] at SI
 have d1:decide ((65:Int)≤(c.toNat:Int))=true:=by simp;omega
 have d2:decide ((c.toNat:Int)≤70)=true:=by simp;omega
 have w0:IntKind.u8.wrap ((c.toNat:Int) + 32)=(c.toNat:Int) + 32:=by rw [IntKind.wrap_u8'];omega
 obtain ⟨d,hi⟩:∃ d,hxD (c + 32)=some d:=by
  have e:(c + 32).toNat=c.toNat + 32:=by omega
  unfold hxD
  rw [dif_neg (by omega),dif_pos (by omega)]
  exact ⟨_,rfl⟩
 rw [hi] at SI
 have hn4:q.number<65536:=H.out.num4
 have hd0:decide ((d.val:Int)<0)=false:=by simp
 have w1:IntKind.i64.wrap ((q.digits:Int) + 1)=(q.digits:Int) + 1:=by rw [IntKind.wrap_i64] <;> omega
 have w2:IntKind.i64.wrap ((q.number:Int) * 16)=(q.number:Int) * 16:=by rw [IntKind.wrap_i64] <;> omega
 have hor:bits .or .i64 ((q.number:Int) * 16) (d.val:Int)=((q.number * 16 + d.val:Nat):Int):=or16 q.number d.val hn4 d.isLt
 have M2:=hide (H.out.dg d.val d.isLt hd)
 have EN:=hide (endNumber_any M2.out)
 have hq:digQ q c=if q.digits=3 then (match endQ {q with digits:=q.digits + 1,number:=q.number * 16 + d.val} with | .inl E=>.inl E | .inr x=>.inr (.tuple #[],{x.2 with place:=1})) else .inr (.tuple #[],{q with digits:=q.digits + 1,number:=q.number * 16 + d.val}):=by unfold digQ;rw [hlow,hi];try rfl
 rw [hq]
 clear hq
 by_cases h3:q.digits=3
 ·rw [if_pos h3]
  have e3:((q.digits:Int) + 1==4)=true:=by simp;omega
  clear h3
  clear hi hlow hc hd hn4 h32
  cases he:endQ {q with digits:=q.digits + 1,number:=q.number * 16 + d.val} with
  | inl E =>
   rw [he] at EN
   go_enter Tryz.func87, Tryz.ntmps87
   go_wp2_with (first|(go_at_call 63;refine (SI.out _).mono ?_;rintro e w1 ⟨rfl,hw1⟩;have hw1s:=hw1.symm;clear hw1;subst hw1s)|(go_at_call 118;refine EN.out.mono ?_;rintro e w1 ⟨F1,rfl,M1⟩;have F:=hide F1;have M:=hide M1;clear F1 M1))
   exact ⟨rfl,F.out.pre8.pre8,rfl,M.out⟩
  | inr x =>
   rw [he] at EN
   go_enter Tryz.func87, Tryz.ntmps87
   go_wp2_with (first|(go_at_call 63;refine (SI.out _).mono ?_;rintro e w1 ⟨rfl,hw1⟩;have hw1s:=hw1.symm;clear hw1;subst hw1s)|(go_at_call 118;refine EN.out.mono ?_;rintro e w1 ⟨F1,rfl,v1,M1,O1⟩;have F:=hide F1;have M:=hide M1;have O:=hide O1;have d4:w1.cell? ⟨r,4,none⟩=some (.int .i64 x.2.place):=(M1.rd.cell 4).trans rfl;have g4:w1.frozen? ⟨r,4,none⟩=false:=M1.rd.frz 4;clear F1 M1 O1))
   go_end0
   exact ⟨F.out.pre8.pre8.set 4 _,rfl,v1,M.out.setp 1,O.out.imp id (fun f g hg=>by have:=f g hg;simpa using this)⟩
 ·rw [if_neg h3]
  have e3:((q.digits:Int) + 1==4)=false:=by simp;omega
  clear h3
  clear hi hlow hc hd hn4 h32 EN
  go_enter Tryz.func87, Tryz.ntmps87
  go_wp2_with (go_at_call 63;refine (SI.out _).mono ?_;rintro e w1 ⟨rfl,hw1⟩;have hw1s:=hw1.symm;clear hw1;subst hw1s)
  go_end0
  exact ⟨(RdF.refl.set 6 _).set 7 _,rfl,v,M2.out,OB.refl _ _⟩
theorem digit_q (h:QM W r s q v) (hd:q.digits<4) (c:UInt8):Calls Tryz.prog 87 #[.pointer (some ⟨r,4,none⟩),.int .u8 c.toNat] W fun e w'=>QP W r s v (digQ q c) e w':=by
 by_cases hc:65≤c.toNat∧c.toNat≤70
 ·exact digit_big h hd c hc
 ·exact digit_any h hd c hc
end
def retQ (o:Sum Int (Value×Qa)):Sum Int (Value×Qa):=match o with | .inl E=>.inl E | .inr x=>.inr (.bool false,x.2)
def takeQ (q:Qa) (c:UInt8):Sum Int (Value×Qa):=if q.place=2 then retQ (uescQ q c) else if q.place=3 then retQ (digQ q c) else plainQ q c
section
variable {W W1 W2 : World} {r : Nat} {s : Rv} {q : Qa} {v : Value}
set_option maxRecDepth 20000 in
theorem take_q (h:QM W r s q v) (hd:q.place=3→q.digits<4) (c:UInt8):Calls Tryz.prog 60 #[.pointer (some ⟨r,4,none⟩),.int .u8 c.toNat] W fun e w'=>QP W r s v (takeQ q c) e w':=by
 have H:=hide h
 have hlt:=h.rd.lt
 have c4:W.cell? ⟨r,4,none⟩=some (.int .i64 q.place):=(h.rd.cell 4).trans rfl
 unfold takeQ
 by_cases h2:q.place=2
 ·rw [if_pos h2]
  rw [h2] at c4
  have CQ:=hide (escape_any h c)
  clear h hd h2
  cases ho:uescQ q c with
  | inl E =>
   rw [ho] at CQ
   go_enter Tryz.func60, Tryz.ntmps60
   go_wp2_with (go_at_call 86;refine CQ.out.mono ?_;rintro e w1 ⟨F1,rfl,M1⟩;have F:=hide F1;have M:=hide M1;clear F1 M1)
   exact ⟨rfl,F.out,rfl,M.out⟩
  | inr x =>
   rw [ho] at CQ
   go_enter Tryz.func60, Tryz.ntmps60
   go_wp2_with (go_at_call 86;refine CQ.out.mono ?_;rintro e w1 ⟨F1,rfl,M1⟩;have F:=hide F1;have M:=hide M1;clear F1 M1)
   go_ret
   exact ⟨F.out,rfl,M.out⟩
 ·rw [if_neg h2]
  by_cases h3:q.place=3
  ·rw [if_pos h3]
   rw [h3] at c4
   have CQ:=hide (digit_q h (hd h3) c)
   clear h hd h2 h3
   cases ho:digQ q c with
   | inl E =>
    rw [ho] at CQ
    go_enter Tryz.func60, Tryz.ntmps60
    go_wp2_with (go_at_call 87;refine CQ.out.mono ?_;rintro e w1 ⟨F1,rfl,M1⟩;have F:=hide F1;have M:=hide M1;clear F1 M1)
    exact ⟨rfl,F.out,rfl,M.out⟩
   | inr x =>
    rw [ho] at CQ
    go_enter Tryz.func60, Tryz.ntmps60
    go_wp2_with (go_at_call 87;refine CQ.out.mono ?_;rintro e w1 ⟨F1,rfl,M1⟩;have F:=hide F1;have M:=hide M1;clear F1 M1)
    go_ret
    exact ⟨F.out,rfl,M.out⟩
  ·rw [if_neg h3]
   have e2:((q.place:Int)==2)=false:=by simp;omega
   have e3:((q.place:Int)==3)=false:=by simp;omega
   have CQ:=hide (plain_any h c)
   clear h hd h2 h3
   cases ho:plainQ q c with
   | inl E =>
    rw [ho] at CQ
    go_enter Tryz.func60, Tryz.ntmps60
    go_wp2_with (go_at_call 88;refine CQ.out.mono ?_;rintro e w1 ⟨F1,rfl,M1⟩;have F:=hide F1;have M:=hide M1;clear F1 M1)
    exact ⟨rfl,F.out,rfl,M.out⟩
   | inr x =>
    rw [ho] at CQ
    go_enter Tryz.func60, Tryz.ntmps60
    go_wp2_with (go_at_call 88;refine CQ.out.mono ?_;rintro e w1 ⟨F1,rfl,M1⟩;have F:=hide F1;have M:=hide M1;clear F1 M1)
    go_ret
    exact ⟨F.out,rfl,M.out⟩
end
section
variable {W W1 W2 : World} {r : Nat} {s : Rv} {q : Qa} {v : Value}
def textQ (q:Qa):Sum Int (Value×Qa):=if Ut.okT (Ut.bl (mkB q.held)) then .inr (.string (mkB q.held),q) else .inl 70
set_option maxRecDepth 20000 in
theorem text_q (h:QM W r s q v) (g:Ut.Gu W):Calls Tryz.prog 61 #[.pointer (some ⟨r,4,none⟩)] W fun e w'=>QP W r s v (textQ q) e w':=by
 have H:=hide h
 have hlt:=h.rd.lt
 have c5:W.cell? ⟨r,5,none⟩=some v:=(h.rd.cell 5).trans rfl
 have hcv:=own_conv h.own
 have hsz:(mkB q.held).size≤8192:=by rw [←bl_length,bl_mkB];exact h.len
 have VA:=hide (Ut.valid_any (mkB q.held) W g (by omega))
 clear h g
 unfold textQ
 cases hv:Ut.okT (Ut.bl (mkB q.held))
 ·rw [hv] at VA
  rw [if_neg (show ¬ (false=true) by decide)]
  clear hv
  go_enter Tryz.func61, Tryz.ntmps61
  go_wp2_with (go_at_call 89;refine VA.out.mono ?_;rintro e w1 ⟨rfl,hb⟩;have B1:=hide hb;clear hb)
  exact ⟨rfl,RdF.refl.then B1.out (Nat.le_of_lt hlt),rfl,_,H.out.rd.same (B1.out.block r hlt)⟩
 ·rw [hv] at VA
  rw [if_pos rfl]
  clear hv
  go_enter Tryz.func61, Tryz.ntmps61
  go_wp2_with (go_at_call 89;refine VA.out.mono ?_;rintro e w1 ⟨rfl,hb⟩;have B1:=hide hb;clear hb)
  go_ret
  exact ⟨RdF.refl.then B1.out (Nat.le_of_lt hlt),rfl,v,⟨H.out.rd.same (B1.out.block r hlt),own_of H.out.own fun k _ hk=>B1.out.block k hk,H.out.len,H.out.num,H.out.hig,H.out.dig⟩,OB.refl _ _⟩
end
section
variable {W W1 W2 : World} {r : Nat} {s : Rv} {q : Qa} {v : Value}
def RdO (r:Nat) (W w':World):Prop:=Below r W w'∧∀ q,q<W.heap.size→q≠r→w'.heap[q]?=W.heap[q]?
theorem RdO.f (h:RdO r W W1):RdF r v W W1:=⟨h.1,fun q h1 h2 _=>h.2 q h1 h2⟩
theorem pass_any (h:RdB W r s):Calls Tryz.prog 59 #[.pointer (some ⟨r,0,none⟩)] W fun e w' =>
  if 16<s.total then e=.panicked (pan 2)∧w'=W else e=.returned (.tuple #[])∧RdB w' r {s with passed:=true}∧RdO r W w':=by
 have H:=hide h
 have c1:W.cell? ⟨r,1,none⟩=some (.int .i64 s.total):=(h.cell 1).trans rfl
 have c2:W.cell? ⟨r,2,none⟩=some (.bool s.passed):=(h.cell 2).trans rfl
 have f2:W.frozen? ⟨r,2,none⟩=false:=h.frz 2
 clear h
 by_cases ht:16<s.total
 ·simp only [ht,if_true]
  have d:decide ((16:Int)<(s.total:Int))=true:=by simp;omega
  clear ht
  go_enter Tryz.func59, Tryz.ntmps59
  go_wp2_with fail
  exact ⟨rfl,rfl,rfl⟩
 ·simp only [ht,if_false]
  have d:decide ((16:Int)<(s.total:Int))=false:=by simp;omega
  clear ht
  go_enter Tryz.func59, Tryz.ntmps59
  go_wp2
  go_end0
  exact ⟨rfl,H.out.set 2 _ _ rfl,(Below.refl r W).setCell (p:=⟨r,2,none⟩) (Nat.le_refl _) _,fun q _ hq=>Below.heap_setCell _ _ _ _ hq⟩
end
def OwnK (W:World) (B:Nat) (v:Value) (ks:List Int):Prop:=W.ownsRow B 72 1 v ks.length (ks.map (Value.int .i64))
def lastK (ks:List Int):Int:=ks.getLast?.getD 0
section
variable {W W1 W2 : World} {r : Nat} {s : Rv} {v : Value} {ks : List Int}
theorem inner_q (h:RdB W r s) (o:OwnK W (r + 1) s.opn ks) (hl:ks.length≤300000):Calls Tryz.prog 121 #[.pointer (some ⟨r,0,none⟩)] W fun e w'=>e=.returned (.int .i64 (lastK ks))∧∃ m,w'=W.drewN m:=by
 have ml:maxLen=9223372036854775807:=rfl
 have c11:W.cell? ⟨r,11,none⟩=some s.opn:=(h.cell 11).trans rfl
 clear h
 unfold OwnK at o
 rcases List.eq_nil_or_concat ks with rfl|⟨qs,p,rfl⟩
 ·obtain ⟨a,cp,hv⟩:∃ a cp,s.opn=.slice a 0 cp:=by
   rcases o.2 with ⟨e1,e⟩|⟨g,cap,cur,e1,_⟩
   ·exact ⟨none,0,e1⟩
   ·exact ⟨_,_,e1⟩
  rw [hv] at c11
  clear o hv
  go_enter Tryz.func121, Tryz.ntmps121
  go_wp2
  go_ret
  exact ⟨rfl,0,rfl⟩
 ·rw [List.concat_eq_append] at o hl ⊢
  rw [List.length_append,List.length_singleton] at o hl
  rcases o.2 with ⟨_,e⟩|⟨g,cp,cur,hv,h1,h2,h3,h4,h5,h6⟩
  ·omega
  ·rw [hv] at c11 o
   have k0:W.cell? ⟨g,qs.length,none⟩=some (.int .i64 p):=by
    rw [World.ownsRow.cellAt o _ (by omega)];simp
   have hlast:lastK (qs++[p])=p:=by simp [lastK]
   rw [hlast]
   have hw:IntKind.i64.wrap ((qs.length:Int) + 1 - 1)=(qs.length:Int):=by rw [IntKind.wrap_i64] <;> omega
   have hw2:IntKind.i64.wrap ((qs.length:Int))=(qs.length:Int):=by rw [IntKind.wrap_i64] <;> omega
   clear o hv h1 h2 h5 h6 hlast hl
   go_enter Tryz.func121, Tryz.ntmps121
   go_wp2
   go_quiet (fail)
   go_wp2
   go_ret
   exact ⟨by first|rfl|(simp;done)|trace_state,_,rfl⟩
end
def endW (ks:List Int):Nat:=if lastK ks=0 then 13 else if lastK ks=9 then 11 else 2
section
variable {W W1 W2 : World} {r : Nat} {s : Rv} {v : Value} {ks : List Int}
theorem RdO.set9 (u:Value) (m:Nat):RdO r W ((W.drewN m).setCell ⟨r,9,none⟩ u) :=
 ⟨(show Below r W (W.drewN m) from ⟨rfl,rfl,rfl,Nat.le_refl _,fun _ _=>rfl⟩).setCell (p:=⟨r,9,none⟩) (Nat.le_refl _) _,fun q _ hq=>Below.heap_setCell _ _ _ _ hq⟩
theorem endValue_q (h:RdB W r s) (o:OwnK W (r + 1) s.opn ks) (hl:ks.length≤300000):Calls Tryz.prog 91 #[.pointer (some ⟨r,0,none⟩)] W fun e w'=>e=.returned (.tuple #[])∧RdB w' r {s with wait:=endW ks}∧RdO r W w':=by
 have IN:=hide (inner_q h o hl)
 have H:=hide h
 have c9:W.cell? ⟨r,9,none⟩=some (.int .i64 s.wait):=(h.cell 9).trans rfl
 have f9:W.frozen? ⟨r,9,none⟩=false:=h.frz 9
 clear h o hl
 unfold endW
 generalize lastK ks=k at IN ⊢
 by_cases h0:k=0
 ·subst h0
  rw [if_pos rfl]
  go_enter Tryz.func91, Tryz.ntmps91
  go_wp2_with (go_at_call 121;refine IN.out.mono ?_;rintro e w1 ⟨rfl,m1,rfl⟩)
  go_end0
  exact ⟨rfl,RdB.set (W:=W.drewN m1) (H.out.same rfl) 9 _ _ rfl,RdO.set9 _ _⟩
 ·rw [if_neg h0]
  have e0:(k==0)=false:=by simpa using h0
  by_cases h9:k=9
  ·subst h9
   rw [if_pos rfl]
   go_enter Tryz.func91, Tryz.ntmps91
   go_wp2_with (go_at_call 121;refine IN.out.mono ?_;rintro e w1 ⟨rfl,m1,rfl⟩)
   go_end0
   exact ⟨rfl,RdB.set (W:=W.drewN m1) (H.out.same rfl) 9 _ _ rfl,RdO.set9 _ _⟩
  ·rw [if_neg h9]
   have e9:(k==9)=false:=by simpa using h9
   clear h0 h9
   go_enter Tryz.func91, Tryz.ntmps91
   go_wp2_with (go_at_call 121;refine IN.out.mono ?_;rintro e w1 ⟨rfl,m1,rfl⟩)
   go_end0
   exact ⟨rfl,RdB.set (W:=W.drewN m1) (H.out.same rfl) 9 _ _ rfl,RdO.set9 _ _⟩
theorem takeColon_q (h:RdB W r s):Calls Tryz.prog 104 #[.pointer (some ⟨r,0,none⟩)] W fun e w'=>if s.wait=5 then e=.returned (.tuple #[])∧RdB w' r {s with wait:=s.behind}∧RdO r W w' else e=.panicked (pan 70)∧w'=W:=by
 have H:=hide h
 have c9:W.cell? ⟨r,9,none⟩=some (.int .i64 s.wait):=(h.cell 9).trans rfl
 have c10:W.cell? ⟨r,10,none⟩=some (.int .i64 s.behind):=(h.cell 10).trans rfl
 have f9:W.frozen? ⟨r,9,none⟩=false:=h.frz 9
 clear h
 by_cases h5:s.wait=5
 ·simp only [h5,if_true]
  rw [h5] at c9
  clear h5
  go_enter Tryz.func104, Tryz.ntmps104
  go_wp2
  go_end0
  exact ⟨rfl,H.out.set 9 _ _ rfl,RdO.set9 _ 0⟩
 ·simp only [h5,if_false]
  have e5:((s.wait:Int)==5)=false:=by simp;omega
  have e5n:((s.wait:Int) != 5)=true:=by simp;omega
  clear h5
  go_enter Tryz.func104, Tryz.ntmps104
  go_wp2_with fail
  exact ⟨rfl,rfl,rfl⟩
end
section
variable {W W1 W2 : World} {r : Nat} {s : Rv} {v : Value} {ks : List Int}
theorem openObject_q (h:RdB W r s):Calls Tryz.prog 101 #[.pointer (some ⟨r,0,none⟩)] W fun e w'=>if s.wait=0∨s.wait=1 then e=.returned (.tuple #[])∧RdB w' r {s with wait:=3}∧RdO r W w' else e=.panicked (pan 70)∧∃ m,w'=W.drewN m:=by
 have H:=hide h
 have c9:W.cell? ⟨r,9,none⟩=some (.int .i64 s.wait):=(h.cell 9).trans rfl
 have f9:W.frozen? ⟨r,9,none⟩=false:=h.frz 9
 clear h
 by_cases h0:s.wait=0
 ·have hor:(s.wait=0∨s.wait=1)=True:=eq_true (Or.inl h0)
  simp only [hor,if_true]
  clear hor
  rw [h0] at c9
  clear h0
  go_enter Tryz.func101, Tryz.ntmps101
  go_wp2
  go_end0
  exact ⟨rfl,H.out.set 9 _ _ rfl,RdO.set9 _ 0⟩
 ·by_cases h1:s.wait=1
  ·have hor:(s.wait=0∨s.wait=1)=True:=eq_true (Or.inr h1)
   simp only [hor,if_true]
   clear hor
   rw [h1] at c9
   clear h0 h1
   go_enter Tryz.func101, Tryz.ntmps101
   go_wp2
   go_end0
   exact ⟨rfl,H.out.set 9 _ _ rfl,RdO.set9 _ 0⟩
  ·have hor:(s.wait=0∨s.wait=1)=False:=eq_false (fun o=>o.elim h0 h1)
   simp only [hor,if_false]
   clear hor
   have e0:((s.wait:Int) != 0)=true:=by simp;omega
   have e1:((s.wait:Int) != 1)=true:=by simp;omega
   clear h0 h1
   go_enter Tryz.func101, Tryz.ntmps101
   go_wp2_with fail
   exact ⟨rfl,rfl,0,rfl⟩
end
end Go.Proofs.YtpimjkdakjhoaaaGreatDoor
