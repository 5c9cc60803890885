/- Merged by program: JxQuote, JyQuote, JzQuote, KaQuote, KbRead, KcRead, KdRead, KeRead, EgFeed, XgUnl. -/
import Derived.Test.YtpimjkdakjhoaaaGreatDoorZw21
namespace Go.Proofs.YtpimjkdakjhoaaaGreatDoor
open Go.RowKit
set_option linter.unusedSimpArgs false
set_option linter.unusedVariables false
set_option maxHeartbeats 8000000
def hxD (c:UInt8):Option (_root_.Fin 16) :=
 if h:48≤c.toNat∧c.toNat≤57 then some ⟨c.toNat - 48,by omega⟩ else if h:97≤c.toNat∧c.toNat≤102 then some ⟨c.toNat - 87,by omega⟩ else none
def hxE:ByteArray:=⟨#[48,49,50,51,52,53,54,55,56,57,97,98,99,100,101,102]⟩
set_option maxRecDepth 100000 in
theorem hx_idx_n:∀ n,n<256→firstIdx hxE n.toUInt8=(match hxD n.toUInt8 with|none=>-1|some i=>(i.val:Int)):=by decide +kernel
theorem hx_idx (c:UInt8):firstIdx hxE ((c.toNat:Int).toNat.toUInt8)=(match hxD c with|none=>-1|some i=>(i.val:Int)):=by
 have h:=hx_idx_n c.toNat c.toNat_lt
 have e:c.toNat.toUInt8=c:=by simp
 rw [Int.toNat_natCast,h,e]
def lowC (c:UInt8):UInt8:=if 65≤c.toNat∧c.toNat≤70 then c + 32 else c
def digQ (q:Qa) (c:UInt8):Sum Int (Value×Qa) :=
 match hxD (lowC c) with
 | none=>.inl 70
 | some d =>
  let q1:Qa:={q with digits:=q.digits + 1,number:=q.number * 16 + d.val}
  if q.digits=3 then (match endQ q1 with | .inl E=>.inl E | .inr x=>.inr (.tuple #[],{x.2 with place:=1})) else .inr (.tuple #[],q1)
theorem or16 (n d:Nat) (hn:n<65536) (hd:d<16):bits .or .i64 ((n:Int) * 16) (d:Int)=((n * 16 + d:Nat):Int):=by
 have hx:n * 16 ||| d=n * 16 + d:=nat_join 4 _ _ (Nat.mul_mod_left _ _) hd
 have e:(n:Int) * 16=((n * 16:Nat):Int):=by omega
 rw [e]
 show IntKind.i64.wrap ((BitVec.ofInt 64 ((n * 16:Nat):Int) ||| BitVec.ofInt 64 (d:Int)).toNat:Int)=_
 rw [BitVec.toNat_or,BitVec.ofInt_natCast,BitVec.ofInt_natCast,BitVec.toNat_ofNat,BitVec.toNat_ofNat,Nat.mod_eq_of_lt (by omega:n * 16<2 ^ 64),Nat.mod_eq_of_lt (by omega:d<2 ^ 64),hx,IntKind.wrap_i64] <;> omega
section
variable {W W1 W2 : World} {r : Nat} {s : Rv} {q : Qa} {v : Value}
theorem QM.dg (h:QM W r s q v) (d:Nat) (hd:d<16) (hq:q.digits<4):QM ((W.setCell ⟨r,6,none⟩ (.int .i64 ((q.digits:Int) + 1))).setCell ⟨r,7,none⟩ (.int .i64 ((q.number * 16 + d:Nat):Int))) r s {q with digits:=q.digits + 1,number:=q.number * 16 + d} v :=
 ⟨(h.rd.set 6 (.int .i64 ((q.digits:Int) + 1)) (s.q {q with digits:=q.digits + 1} v) rfl).set 7 _ _ rfl,own_of h.own fun k hk _=>by
   have hkr:k≠r:=by have:=(World.ownsRow.lt h.own k hk).1;omega
   rw [Below.heap_setCell _ _ _ _ hkr,Below.heap_setCell _ _ _ _ hkr],h.len,(by
   show q.number * 16 + d<16 ^ (q.digits + 1)
   have:=h.num
   rw [Nat.pow_succ]
   omega),h.hig,(by show q.digits + 1≤4;omega)⟩
set_option maxRecDepth 20000 in
theorem digit_any (h:QM W r s q v) (hd:q.digits<4) (c:UInt8) (hc:¬ (65≤c.toNat∧c.toNat≤70)):Calls Tryz.prog 87 #[.pointer (some ⟨r,4,none⟩),.int .u8 c.toNat] W fun e w'=>QP W r s v (digQ q c) e w':=by
 have H:=hide h
 have hlt:=h.rd.lt
 have hnum:=h.num
 have c4:W.cell? ⟨r,4,none⟩=some (.int .i64 q.place):=(h.rd.cell 4).trans rfl
 have c6:W.cell? ⟨r,6,none⟩=some (.int .i64 q.digits):=(h.rd.cell 6).trans rfl
 have c7:W.cell? ⟨r,7,none⟩=some (.int .i64 q.number):=(h.rd.cell 7).trans rfl
 have f4:W.frozen? ⟨r,4,none⟩=false:=h.rd.frz 4
 have f6:W.frozen? ⟨r,6,none⟩=false:=h.rd.frz 6
 have f7:W.frozen? ⟨r,7,none⟩=false:=h.rd.frz 7
 clear h
 have SI:=hide (fun w=>sib_any hxE c.toNat w)
 rw [hx_idx] at SI
 have hlow:lowC c=c:=by unfold lowC;rw [if_neg hc]
 cases hi:hxD c with
 | none =>
  rw [hi] at SI
  have hq:digQ q c=.inl 70:=by unfold digQ;rw [hlow,hi]
  rw [hq]
  by_cases h65:65≤c.toNat
  ·have d1:decide ((65:Int)≤(c.toNat:Int))=true:=by simp;omega
   have d2:decide ((c.toNat:Int)≤70)=false:=by simp;omega
   clear hi hq hlow hc h65 hnum hd
   go_enter Tryz.func87, Tryz.ntmps87
   go_wp2_with (go_at_call 63;refine (SI.out _).mono ?_;rintro e w1 ⟨rfl,hw1⟩;have hw1s:=hw1.symm;clear hw1;subst hw1s)
   exact ⟨rfl,RdF.refl,rfl,_,H.out.rd⟩
  ·have d1:decide ((65:Int)≤(c.toNat:Int))=false:=by simp;omega
   clear hi hq hlow hc h65 hnum hd
   go_enter Tryz.func87, Tryz.ntmps87
   go_wp2_with (go_at_call 63;refine (SI.out _).mono ?_;rintro e w1 ⟨rfl,hw1⟩;have hw1s:=hw1.symm;clear hw1;subst hw1s)
   exact ⟨rfl,RdF.refl,rfl,_,H.out.rd⟩
 | some d =>
  rw [hi] at SI
  have hn4:q.number<65536:=H.out.num4
  have hd0:decide ((d.val:Int)<0)=false:=by simp
  have w1:IntKind.i64.wrap ((q.digits:Int) + 1)=(q.digits:Int) + 1:=by rw [IntKind.wrap_i64] <;> omega
  have w2:IntKind.i64.wrap ((q.number:Int) * 16)=(q.number:Int) * 16:=by rw [IntKind.wrap_i64] <;> omega
  have hor:bits .or .i64 ((q.number:Int) * 16) (d.val:Int)=((q.number * 16 + d.val:Nat):Int):=or16 q.number d.val hn4 d.isLt
  have M2:=hide (H.out.dg d.val d.isLt hd)
  have EN:=hide (endNumber_any M2.out)
  have hq:digQ q c=if q.digits=3 then (match endQ {q with digits:=q.digits + 1,number:=q.number * 16 + d.val} with | .inl E=>.inl E | .inr x=>.inr (.tuple #[],{x.2 with place:=1})) else .inr (.tuple #[],{q with digits:=q.digits + 1,number:=q.number * 16 + d.val}):=by unfold digQ;rw [hlow,hi]
  rw [hq]
  clear hq
  by_cases h3:q.digits=3
  ·rw [if_pos h3]
   have e3:((q.digits:Int) + 1==4)=true:=by simp;omega
   clear h3
   by_cases h65:65≤c.toNat
   ·have d1:decide ((65:Int)≤(c.toNat:Int))=true:=by simp;omega
    have d2:decide ((c.toNat:Int)≤70)=false:=by simp;omega
    clear hi hlow hc h65 hnum hd hn4
    cases he:endQ {q with digits:=q.digits + 1,number:=q.number * 16 + d.val} with
    | inl E =>
     rw [he] at EN
     go_enter Tryz.func87, Tryz.ntmps87
     go_wp2_with (first|(go_at_call 63;refine (SI.out _).mono ?_;rintro e w1 ⟨rfl,hw1⟩;have hw1s:=hw1.symm;clear hw1;subst hw1s)|(go_at_call 118;refine EN.out.mono ?_;rintro e w1 ⟨F1,rfl,M1⟩;have F:=hide F1;have M:=hide M1;clear F1 M1))
     exact ⟨rfl,F.out.pre8.pre8,rfl,M.out⟩
    | inr x =>
     rw [he] at EN
     go_enter Tryz.func87, Tryz.ntmps87
     go_wp2_with (first|(go_at_call 63;refine (SI.out _).mono ?_;rintro e w1 ⟨rfl,hw1⟩;have hw1s:=hw1.symm;clear hw1;subst hw1s)|(go_at_call 118;refine EN.out.mono ?_;rintro e w1 ⟨F1,rfl,v1,M1,O1⟩;have F:=hide F1;have M:=hide M1;have O:=hide O1;have d4:w1.cell? ⟨r,4,none⟩=some (.int .i64 x.2.place):=(M1.rd.cell 4).trans rfl;have g4:w1.frozen? ⟨r,4,none⟩=false:=M1.rd.frz 4;clear F1 M1 O1))
     go_end0
     exact ⟨F.out.pre8.pre8.set 4 _,rfl,v1,M.out.setp 1,O.out.imp id (fun f g hg=>by have:=f g hg;simpa using this)⟩
   ·have d1:decide ((65:Int)≤(c.toNat:Int))=false:=by simp;omega
    clear hi hlow hc h65 hnum hd hn4
    cases he:endQ {q with digits:=q.digits + 1,number:=q.number * 16 + d.val} with
    | inl E =>
     rw [he] at EN
     go_enter Tryz.func87, Tryz.ntmps87
     go_wp2_with (first|(go_at_call 63;refine (SI.out _).mono ?_;rintro e w1 ⟨rfl,hw1⟩;have hw1s:=hw1.symm;clear hw1;subst hw1s)|(go_at_call 118;refine EN.out.mono ?_;rintro e w1 ⟨F1,rfl,M1⟩;have F:=hide F1;have M:=hide M1;clear F1 M1))
     exact ⟨rfl,F.out.pre8.pre8,rfl,M.out⟩
    | inr x =>
     rw [he] at EN
     go_enter Tryz.func87, Tryz.ntmps87
     go_wp2_with (first|(go_at_call 63;refine (SI.out _).mono ?_;rintro e w1 ⟨rfl,hw1⟩;have hw1s:=hw1.symm;clear hw1;subst hw1s)|(go_at_call 118;refine EN.out.mono ?_;rintro e w1 ⟨F1,rfl,v1,M1,O1⟩;have F:=hide F1;have M:=hide M1;have O:=hide O1;have d4:w1.cell? ⟨r,4,none⟩=some (.int .i64 x.2.place):=(M1.rd.cell 4).trans rfl;have g4:w1.frozen? ⟨r,4,none⟩=false:=M1.rd.frz 4;clear F1 M1 O1))
     go_end0
     exact ⟨F.out.pre8.pre8.set 4 _,rfl,v1,M.out.setp 1,O.out.imp id (fun f g hg=>by have:=f g hg;simpa using this)⟩
  ·rw [if_neg h3]
   have e3:((q.digits:Int) + 1==4)=false:=by simp;omega
   clear h3
   by_cases h65:65≤c.toNat
   ·have d1:decide ((65:Int)≤(c.toNat:Int))=true:=by simp;omega
    have d2:decide ((c.toNat:Int)≤70)=false:=by simp;omega
    clear hi hlow hc h65 hnum hd hn4 EN
    go_enter Tryz.func87, Tryz.ntmps87
    go_wp2_with (go_at_call 63;refine (SI.out _).mono ?_;rintro e w1 ⟨rfl,hw1⟩;have hw1s:=hw1.symm;clear hw1;subst hw1s)
    go_end0
    exact ⟨(RdF.refl.set 6 _).set 7 _,rfl,v,M2.out,OB.refl _ _⟩
   ·have d1:decide ((65:Int)≤(c.toNat:Int))=false:=by simp;omega
    clear hi hlow hc h65 hnum hd hn4 EN
    go_enter Tryz.func87, Tryz.ntmps87
    go_wp2_with (go_at_call 63;refine (SI.out _).mono ?_;rintro e w1 ⟨rfl,hw1⟩;have hw1s:=hw1.symm;clear hw1;subst hw1s)
    go_end0
    exact ⟨(RdF.refl.set 6 _).set 7 _,rfl,v,M2.out,OB.refl _ _⟩
end
section
variable {W W1 W2 : World} {r : Nat} {s : Rv} {q : Qa} {v : Value}
set_option maxRecDepth 20000 in
theorem digit_big (h:QM W r s q v) (hd:q.digits<4) (c:UInt8) (hc:65≤c.toNat∧c.toNat≤70):Calls Tryz.prog 87 #[.pointer (some ⟨r,4,none⟩),.int .u8 c.toNat] W fun e w'=>QP W r s v (digQ q c) e w':=by
 have H:=hide h
 have hlt:=h.rd.lt
 have c4:W.cell? ⟨r,4,none⟩=some (.int .i64 q.place):=(h.rd.cell 4).trans rfl
 have c6:W.cell? ⟨r,6,none⟩=some (.int .i64 q.digits):=(h.rd.cell 6).trans rfl
 have c7:W.cell? ⟨r,7,none⟩=some (.int .i64 q.number):=(h.rd.cell 7).trans rfl
 have f4:W.frozen? ⟨r,4,none⟩=false:=h.rd.frz 4
 have f6:W.frozen? ⟨r,6,none⟩=false:=h.rd.frz 6
 have f7:W.frozen? ⟨r,7,none⟩=false:=h.rd.frz 7
 clear h
 have hlow:lowC c=c + 32:=by unfold lowC;rw [if_pos hc]
 have h32:((c + 32).toNat:Int)=(c.toNat:Int) + 32:=by rw [UInt8.toNat_add];simp;omega
 have SI:=hide (fun w=>sib_any hxE ((c + 32).toNat:Int) w)
 rw [hx_idx,h32] at SI
 have d1:decide ((65:Int)≤(c.toNat:Int))=true:=by simp;omega
 have d2:decide ((c.toNat:Int)≤70)=true:=by simp;omega
 have w0:IntKind.u8.wrap ((c.toNat:Int) + 32)=(c.toNat:Int) + 32:=by rw [IntKind.wrap_u8'];omega
 obtain ⟨d,hi⟩:∃ d,hxD (c + 32)=some d:=by
  have e:(c + 32).toNat=c.toNat + 32:=by omega
  unfold hxD
  rw [dif_neg (by omega),dif_pos (by omega)]
  exact ⟨_,rfl⟩
 rw [hi] at SI
 have hn4:q.number<65536:=H.out.num4
 have hd0:decide ((d.val:Int)<0)=false:=by simp
 have w1:IntKind.i64.wrap ((q.digits:Int) + 1)=(q.digits:Int) + 1:=by rw [IntKind.wrap_i64] <;> omega
 have w2:IntKind.i64.wrap ((q.number:Int) * 16)=(q.number:Int) * 16:=by rw [IntKind.wrap_i64] <;> omega
 have hor:bits .or .i64 ((q.number:Int) * 16) (d.val:Int)=((q.number * 16 + d.val:Nat):Int):=or16 q.number d.val hn4 d.isLt
 have M2:=hide (H.out.dg d.val d.isLt hd)
 have EN:=hide (endNumber_any M2.out)
 have hq:digQ q c=if q.digits=3 then (match endQ {q with digits:=q.digits + 1,number:=q.number * 16 + d.val} with | .inl E=>.inl E | .inr x=>.inr (.tuple #[],{x.2 with place:=1})) else .inr (.tuple #[],{q with digits:=q.digits + 1,number:=q.number * 16 + d.val}):=by unfold digQ;rw [hlow,hi];try rfl
 rw [hq]
 clear hq
 by_cases h3:q.digits=3
 ·rw [if_pos h3]
  have e3:((q.digits:Int) + 1==4)=true:=by simp;omega
  clear h3
  clear hi hlow hc hd hn4 h32
  cases he:endQ {q with digits:=q.digits + 1,number:=q.number * 16 + d.val} with
  | inl E =>
   rw [he] at EN
   go_enter Tryz.func87, Tryz.ntmps87
   go_wp2_with (first|(go_at_call 63;refine (SI.out _).mono ?_;rintro e w1 ⟨rfl,hw1⟩;have hw1s:=hw1.symm;clear hw1;subst hw1s)|(go_at_call 118;refine EN.out.mono ?_;rintro e w1 ⟨F1,rfl,M1⟩;have F:=hide F1;have M:=hide M1;clear F1 M1))
   exact ⟨rfl,F.out.pre8.pre8,rfl,M.out⟩
  | inr x =>
   rw [he] at EN
   go_enter Tryz.func87, Tryz.ntmps87
   go_wp2_with (first|(go_at_call 63;refine (SI.out _).mono ?_;rintro e w1 ⟨rfl,hw1⟩;have hw1s:=hw1.symm;clear hw1;subst hw1s)|(go_at_call 118;refine EN.out.mono ?_;rintro e w1 ⟨F1,rfl,v1,M1,O1⟩;have F:=hide F1;have M:=hide M1;have O:=hide O1;have d4:w1.cell? ⟨r,4,none⟩=some (.int .i64 x.2.place):=(M1.rd.cell 4).trans rfl;have g4:w1.frozen? ⟨r,4,none⟩=false:=M1.rd.frz 4;clear F1 M1 O1))
   go_end0
   exact ⟨F.out.pre8.pre8.set 4 _,rfl,v1,M.out.setp 1,O.out.imp id (fun f g hg=>by have:=f g hg;simpa using this)⟩
 ·rw [if_neg h3]
  have e3:((q.digits:Int) + 1==4)=false:=by simp;omega
  clear h3
  clear hi hlow hc hd hn4 h32 EN
  go_enter Tryz.func87, Tryz.ntmps87
  go_wp2_with (go_at_call 63;refine (SI.out _).mono ?_;rintro e w1 ⟨rfl,hw1⟩;have hw1s:=hw1.symm;clear hw1;subst hw1s)
  go_end0
  exact ⟨(RdF.refl.set 6 _).set 7 _,rfl,v,M2.out,OB.refl _ _⟩
theorem digit_q (h:QM W r s q v) (hd:q.digits<4) (c:UInt8):Calls Tryz.prog 87 #[.pointer (some ⟨r,4,none⟩),.int .u8 c.toNat] W fun e w'=>QP W r s v (digQ q c) e w':=by
 by_cases hc:65≤c.toNat∧c.toNat≤70
 ·exact digit_big h hd c hc
 ·exact digit_any h hd c hc
end
def retQ (o:Sum Int (Value×Qa)):Sum Int (Value×Qa):=match o with | .inl E=>.inl E | .inr x=>.inr (.bool false,x.2)
def takeQ (q:Qa) (c:UInt8):Sum Int (Value×Qa):=if q.place=2 then retQ (uescQ q c) else if q.place=3 then retQ (digQ q c) else plainQ q c
section
variable {W W1 W2 : World} {r : Nat} {s : Rv} {q : Qa} {v : Value}
set_option maxRecDepth 20000 in
theorem take_q (h:QM W r s q v) (hd:q.place=3→q.digits<4) (c:UInt8):Calls Tryz.prog 60 #[.pointer (some ⟨r,4,none⟩),.int .u8 c.toNat] W fun e w'=>QP W r s v (takeQ q c) e w':=by
 have H:=hide h
 have hlt:=h.rd.lt
 have c4:W.cell? ⟨r,4,none⟩=some (.int .i64 q.place):=(h.rd.cell 4).trans rfl
 unfold takeQ
 by_cases h2:q.place=2
 ·rw [if_pos h2]
  rw [h2] at c4
  have CQ:=hide (escape_any h c)
  clear h hd h2
  cases ho:uescQ q c with
  | inl E =>
   rw [ho] at CQ
   go_enter Tryz.func60, Tryz.ntmps60
   go_wp2_with (go_at_call 86;refine CQ.out.mono ?_;rintro e w1 ⟨F1,rfl,M1⟩;have F:=hide F1;have M:=hide M1;clear F1 M1)
   exact ⟨rfl,F.out,rfl,M.out⟩
  | inr x =>
   rw [ho] at CQ
   go_enter Tryz.func60, Tryz.ntmps60
   go_wp2_with (go_at_call 86;refine CQ.out.mono ?_;rintro e w1 ⟨F1,rfl,M1⟩;have F:=hide F1;have M:=hide M1;clear F1 M1)
   go_ret
   exact ⟨F.out,rfl,M.out⟩
 ·rw [if_neg h2]
  by_cases h3:q.place=3
  ·rw [if_pos h3]
   rw [h3] at c4
   have CQ:=hide (digit_q h (hd h3) c)
   clear h hd h2 h3
   cases ho:digQ q c with
   | inl E =>
    rw [ho] at CQ
    go_enter Tryz.func60, Tryz.ntmps60
    go_wp2_with (go_at_call 87;refine CQ.out.mono ?_;rintro e w1 ⟨F1,rfl,M1⟩;have F:=hide F1;have M:=hide M1;clear F1 M1)
    exact ⟨rfl,F.out,rfl,M.out⟩
   | inr x =>
    rw [ho] at CQ
    go_enter Tryz.func60, Tryz.ntmps60
    go_wp2_with (go_at_call 87;refine CQ.out.mono ?_;rintro e w1 ⟨F1,rfl,M1⟩;have F:=hide F1;have M:=hide M1;clear F1 M1)
    go_ret
    exact ⟨F.out,rfl,M.out⟩
  ·rw [if_neg h3]
   have e2:((q.place:Int)==2)=false:=by simp;omega
   have e3:((q.place:Int)==3)=false:=by simp;omega
   have CQ:=hide (plain_any h c)
   clear h hd h2 h3
   cases ho:plainQ q c with
   | inl E =>
    rw [ho] at CQ
    go_enter Tryz.func60, Tryz.ntmps60
    go_wp2_with (go_at_call 88;refine CQ.out.mono ?_;rintro e w1 ⟨F1,rfl,M1⟩;have F:=hide F1;have M:=hide M1;clear F1 M1)
    exact ⟨rfl,F.out,rfl,M.out⟩
   | inr x =>
    rw [ho] at CQ
    go_enter Tryz.func60, Tryz.ntmps60
    go_wp2_with (go_at_call 88;refine CQ.out.mono ?_;rintro e w1 ⟨F1,rfl,M1⟩;have F:=hide F1;have M:=hide M1;clear F1 M1)
    go_ret
    exact ⟨F.out,rfl,M.out⟩
end
section
variable {W W1 W2 : World} {r : Nat} {s : Rv} {q : Qa} {v : Value}
def textQ (q:Qa):Sum Int (Value×Qa):=if Ut.okT (Ut.bl (mkB q.held)) then .inr (.string (mkB q.held),q) else .inl 70
set_option maxRecDepth 20000 in
theorem text_q (h:QM W r s q v) (g:Ut.Gu W):Calls Tryz.prog 61 #[.pointer (some ⟨r,4,none⟩)] W fun e w'=>QP W r s v (textQ q) e w':=by
 have H:=hide h
 have hlt:=h.rd.lt
 have c5:W.cell? ⟨r,5,none⟩=some v:=(h.rd.cell 5).trans rfl
 have hcv:=own_conv h.own
 have hsz:(mkB q.held).size≤8192:=by rw [←bl_length,bl_mkB];exact h.len
 have VA:=hide (Ut.valid_any (mkB q.held) W g (by omega))
 clear h g
 unfold textQ
 cases hv:Ut.okT (Ut.bl (mkB q.held))
 ·rw [hv] at VA
  rw [if_neg (show ¬ (false=true) by decide)]
  clear hv
  go_enter Tryz.func61, Tryz.ntmps61
  go_wp2_with (go_at_call 89;refine VA.out.mono ?_;rintro e w1 ⟨rfl,hb⟩;have B1:=hide hb;clear hb)
  exact ⟨rfl,RdF.refl.then B1.out (Nat.le_of_lt hlt),rfl,_,H.out.rd.same (B1.out.block r hlt)⟩
 ·rw [hv] at VA
  rw [if_pos rfl]
  clear hv
  go_enter Tryz.func61, Tryz.ntmps61
  go_wp2_with (go_at_call 89;refine VA.out.mono ?_;rintro e w1 ⟨rfl,hb⟩;have B1:=hide hb;clear hb)
  go_ret
  exact ⟨RdF.refl.then B1.out (Nat.le_of_lt hlt),rfl,v,⟨H.out.rd.same (B1.out.block r hlt),own_of H.out.own fun k _ hk=>B1.out.block k hk,H.out.len,H.out.num,H.out.hig,H.out.dig⟩,OB.refl _ _⟩
end
section
variable {W W1 W2 : World} {r : Nat} {s : Rv} {q : Qa} {v : Value}
def RdO (r:Nat) (W w':World):Prop:=Below r W w'∧∀ q,q<W.heap.size→q≠r→w'.heap[q]?=W.heap[q]?
theorem RdO.f (h:RdO r W W1):RdF r v W W1:=⟨h.1,fun q h1 h2 _=>h.2 q h1 h2⟩
theorem pass_any (h:RdB W r s):Calls Tryz.prog 59 #[.pointer (some ⟨r,0,none⟩)] W fun e w' =>
  if 16<s.total then e=.panicked (pan 2)∧w'=W else e=.returned (.tuple #[])∧RdB w' r {s with passed:=true}∧RdO r W w':=by
 have H:=hide h
 have c1:W.cell? ⟨r,1,none⟩=some (.int .i64 s.total):=(h.cell 1).trans rfl
 have c2:W.cell? ⟨r,2,none⟩=some (.bool s.passed):=(h.cell 2).trans rfl
 have f2:W.frozen? ⟨r,2,none⟩=false:=h.frz 2
 clear h
 by_cases ht:16<s.total
 ·simp only [ht,if_true]
  have d:decide ((16:Int)<(s.total:Int))=true:=by simp;omega
  clear ht
  go_enter Tryz.func59, Tryz.ntmps59
  go_wp2_with fail
  exact ⟨rfl,rfl,rfl⟩
 ·simp only [ht,if_false]
  have d:decide ((16:Int)<(s.total:Int))=false:=by simp;omega
  clear ht
  go_enter Tryz.func59, Tryz.ntmps59
  go_wp2
  go_end0
  exact ⟨rfl,H.out.set 2 _ _ rfl,(Below.refl r W).setCell (p:=⟨r,2,none⟩) (Nat.le_refl _) _,fun q _ hq=>Below.heap_setCell _ _ _ _ hq⟩
end
def OwnK (W:World) (B:Nat) (v:Value) (ks:List Int):Prop:=W.ownsRow B 72 1 v ks.length (ks.map (Value.int .i64))
def lastK (ks:List Int):Int:=ks.getLast?.getD 0
section
variable {W W1 W2 : World} {r : Nat} {s : Rv} {v : Value} {ks : List Int}
theorem inner_q (h:RdB W r s) (o:OwnK W (r + 1) s.opn ks) (hl:ks.length≤300000):Calls Tryz.prog 121 #[.pointer (some ⟨r,0,none⟩)] W fun e w'=>e=.returned (.int .i64 (lastK ks))∧∃ m,w'=W.drewN m:=by
 have ml:maxLen=9223372036854775807:=rfl
 have c11:W.cell? ⟨r,11,none⟩=some s.opn:=(h.cell 11).trans rfl
 clear h
 unfold OwnK at o
 rcases List.eq_nil_or_concat ks with rfl|⟨qs,p,rfl⟩
 ·obtain ⟨a,cp,hv⟩:∃ a cp,s.opn=.slice a 0 cp:=by
   rcases o.2 with ⟨e1,e⟩|⟨g,cap,cur,e1,_⟩
   ·exact ⟨none,0,e1⟩
   ·exact ⟨_,_,e1⟩
  rw [hv] at c11
  clear o hv
  go_enter Tryz.func121, Tryz.ntmps121
  go_wp2
  go_ret
  exact ⟨rfl,0,rfl⟩
 ·rw [List.concat_eq_append] at o hl ⊢
  rw [List.length_append,List.length_singleton] at o hl
  rcases o.2 with ⟨_,e⟩|⟨g,cp,cur,hv,h1,h2,h3,h4,h5,h6⟩
  ·omega
  ·rw [hv] at c11 o
   have k0:W.cell? ⟨g,qs.length,none⟩=some (.int .i64 p):=by
    rw [World.ownsRow.cellAt o _ (by omega)];simp
   have hlast:lastK (qs++[p])=p:=by simp [lastK]
   rw [hlast]
   have hw:IntKind.i64.wrap ((qs.length:Int) + 1 - 1)=(qs.length:Int):=by rw [IntKind.wrap_i64] <;> omega
   have hw2:IntKind.i64.wrap ((qs.length:Int))=(qs.length:Int):=by rw [IntKind.wrap_i64] <;> omega
   clear o hv h1 h2 h5 h6 hlast hl
   go_enter Tryz.func121, Tryz.ntmps121
   go_wp2
   go_quiet (fail)
   go_wp2
   go_ret
   exact ⟨by first|rfl|(simp;done)|trace_state,_,rfl⟩
end
def endW (ks:List Int):Nat:=if lastK ks=0 then 13 else if lastK ks=9 then 11 else 2
section
variable {W W1 W2 : World} {r : Nat} {s : Rv} {v : Value} {ks : List Int}
theorem RdO.set9 (u:Value) (m:Nat):RdO r W ((W.drewN m).setCell ⟨r,9,none⟩ u) :=
 ⟨(show Below r W (W.drewN m) from ⟨rfl,rfl,rfl,Nat.le_refl _,fun _ _=>rfl⟩).setCell (p:=⟨r,9,none⟩) (Nat.le_refl _) _,fun q _ hq=>Below.heap_setCell _ _ _ _ hq⟩
theorem endValue_q (h:RdB W r s) (o:OwnK W (r + 1) s.opn ks) (hl:ks.length≤300000):Calls Tryz.prog 91 #[.pointer (some ⟨r,0,none⟩)] W fun e w'=>e=.returned (.tuple #[])∧RdB w' r {s with wait:=endW ks}∧RdO r W w':=by
 have IN:=hide (inner_q h o hl)
 have H:=hide h
 have c9:W.cell? ⟨r,9,none⟩=some (.int .i64 s.wait):=(h.cell 9).trans rfl
 have f9:W.frozen? ⟨r,9,none⟩=false:=h.frz 9
 clear h o hl
 unfold endW
 generalize lastK ks=k at IN ⊢
 by_cases h0:k=0
 ·subst h0
  rw [if_pos rfl]
  go_enter Tryz.func91, Tryz.ntmps91
  go_wp2_with (go_at_call 121;refine IN.out.mono ?_;rintro e w1 ⟨rfl,m1,rfl⟩)
  go_end0
  exact ⟨rfl,RdB.set (W:=W.drewN m1) (H.out.same rfl) 9 _ _ rfl,RdO.set9 _ _⟩
 ·rw [if_neg h0]
  have e0:(k==0)=false:=by simpa using h0
  by_cases h9:k=9
  ·subst h9
   rw [if_pos rfl]
   go_enter Tryz.func91, Tryz.ntmps91
   go_wp2_with (go_at_call 121;refine IN.out.mono ?_;rintro e w1 ⟨rfl,m1,rfl⟩)
   go_end0
   exact ⟨rfl,RdB.set (W:=W.drewN m1) (H.out.same rfl) 9 _ _ rfl,RdO.set9 _ _⟩
  ·rw [if_neg h9]
   have e9:(k==9)=false:=by simpa using h9
   clear h0 h9
   go_enter Tryz.func91, Tryz.ntmps91
   go_wp2_with (go_at_call 121;refine IN.out.mono ?_;rintro e w1 ⟨rfl,m1,rfl⟩)
   go_end0
   exact ⟨rfl,RdB.set (W:=W.drewN m1) (H.out.same rfl) 9 _ _ rfl,RdO.set9 _ _⟩
theorem takeColon_q (h:RdB W r s):Calls Tryz.prog 104 #[.pointer (some ⟨r,0,none⟩)] W fun e w'=>if s.wait=5 then e=.returned (.tuple #[])∧RdB w' r {s with wait:=s.behind}∧RdO r W w' else e=.panicked (pan 70)∧w'=W:=by
 have H:=hide h
 have c9:W.cell? ⟨r,9,none⟩=some (.int .i64 s.wait):=(h.cell 9).trans rfl
 have c10:W.cell? ⟨r,10,none⟩=some (.int .i64 s.behind):=(h.cell 10).trans rfl
 have f9:W.frozen? ⟨r,9,none⟩=false:=h.frz 9
 clear h
 by_cases h5:s.wait=5
 ·simp only [h5,if_true]
  rw [h5] at c9
  clear h5
  go_enter Tryz.func104, Tryz.ntmps104
  go_wp2
  go_end0
  exact ⟨rfl,H.out.set 9 _ _ rfl,RdO.set9 _ 0⟩
 ·simp only [h5,if_false]
  have e5:((s.wait:Int)==5)=false:=by simp;omega
  have e5n:((s.wait:Int) != 5)=true:=by simp;omega
  clear h5
  go_enter Tryz.func104, Tryz.ntmps104
  go_wp2_with fail
  exact ⟨rfl,rfl,rfl⟩
end
section
variable {W W1 W2 : World} {r : Nat} {s : Rv} {v : Value} {ks : List Int}
theorem openObject_q (h:RdB W r s):Calls Tryz.prog 101 #[.pointer (some ⟨r,0,none⟩)] W fun e w'=>if s.wait=0∨s.wait=1 then e=.returned (.tuple #[])∧RdB w' r {s with wait:=3}∧RdO r W w' else e=.panicked (pan 70)∧∃ m,w'=W.drewN m:=by
 have H:=hide h
 have c9:W.cell? ⟨r,9,none⟩=some (.int .i64 s.wait):=(h.cell 9).trans rfl
 have f9:W.frozen? ⟨r,9,none⟩=false:=h.frz 9
 clear h
 by_cases h0:s.wait=0
 ·have hor:(s.wait=0∨s.wait=1)=True:=eq_true (Or.inl h0)
  simp only [hor,if_true]
  clear hor
  rw [h0] at c9
  clear h0
  go_enter Tryz.func101, Tryz.ntmps101
  go_wp2
  go_end0
  exact ⟨rfl,H.out.set 9 _ _ rfl,RdO.set9 _ 0⟩
 ·by_cases h1:s.wait=1
  ·have hor:(s.wait=0∨s.wait=1)=True:=eq_true (Or.inr h1)
   simp only [hor,if_true]
   clear hor
   rw [h1] at c9
   clear h0 h1
   go_enter Tryz.func101, Tryz.ntmps101
   go_wp2
   go_end0
   exact ⟨rfl,H.out.set 9 _ _ rfl,RdO.set9 _ 0⟩
  ·have hor:(s.wait=0∨s.wait=1)=False:=eq_false (fun o=>o.elim h0 h1)
   simp only [hor,if_false]
   clear hor
   have e0:((s.wait:Int) != 0)=true:=by simp;omega
   have e1:((s.wait:Int) != 1)=true:=by simp;omega
   clear h0 h1
   go_enter Tryz.func101, Tryz.ntmps101
   go_wp2_with fail
   exact ⟨rfl,rfl,0,rfl⟩
end
theorem take_any {W:World} {i B n:Nat} {st:List Pa} {bg:Bool} (h:Hd) (hz:EvZ h) (c:CkA W i B n st bg) (hi:i<W.heap.size) (hn:n≤200000):Calls Tryz.prog 68 #[.pointer (some ⟨i,0,none⟩),.agg (evs h)] W fun r w'=>TakeP W i B n (stepE st bg h) r w':=by
 by_cases h10:h.kind=10
 ·exact take_10 h hz h10 c hi hn
 ·by_cases h11:h.kind=11
  ·exact take_11 h h11 c hi
  ·exact take_v h h10 h11 c hi hn
def CkS (W:World) (i B n:Nat):Option (List Pa×Bool)→Prop
 | none=>Ck W i B (.slice none 0 0) [] false true
 | some x=>CkA W i B n x.1 x.2
theorem CkS.then {W W1:World} {i B n:Nat} {s:Option (List Pa×Bool)} (h:CkS W i B n s) (hb:Below W.heap.size W W1):CkS W1 i B n s:=by
 cases s with
 | none=>exact Ck.then h hb
 | some x=>exact CkA.then h hb
def feedE (s:Option (List Pa×Bool)) (q:Bool) (h:Hd):Option (List Pa×Bool):=if q then s.bind fun x=>stepE x.1 x.2 h else none
theorem brk {W:World} {i B:Nat} {v:Value} {b1 b2:Bool} (k:KB W i v b1 b2) (h1:i<B) (h2:B≤W.heap.size):Ck (((W.setCell ⟨i,0,none⟩ (.slice none 0 0)).setCell ⟨i,1,none⟩ (.bool false)).setCell ⟨i,2,none⟩ (.bool true)) i B (.slice none 0 0) [] false true :=
 Ck.new (((k.set0 _).set1 _).set2 _) h1 (by simpa using h2)
set_option maxRecDepth 100000 in
theorem cfeed_k {W:World} {i B n:Nat} (s:Option (List Pa×Bool)) (h:Hd) (hz:EvZ h) (c:CkS W i B n s) (hi:i<W.heap.size) (hiB:i<B) (hB:B≤W.heap.size) (hn:n≤200000) (g:Ut.Gu W) (q:Bool) (hq:q=true↔May h) :
  Calls Tryz.prog 34 #[.pointer (some ⟨i,0,none⟩),.agg (evs h)] W fun r w'=>r=.returned (.int .i64 (if (feedE s q h).isSome then 0 else 50))∧CkS w' i B (n + 1) (feedE s q h)∧BK i W w':=by
 have hB0:Hid (∀ o,Below W.heap.size W (W.alloc o)):=fun o=>below_al (Below.refl _ _)
 have E0:=hide (EB.new W h)
 have mb:=hide (fun o=>mayBe_any h hz (W.alloc o) (g.below (below_al (Below.refl _ _))) q hq)
 cases s with
 | none =>
  have c':Ck W i B (.slice none 0 0) [] false true:=c
  obtain ⟨h0,h1,h2,h3,h4,h5⟩:=c'.kb.cells
  have hk:=hide c'.kb
  have hf:feedE none q h=none:=by unfold feedE;cases q <;> rfl
  rw [hf]
  clear c c' hf hq g
  obtain ⟨kd,fl,ng,dg,ex,bt,tx,nm⟩:=h
  simp only [evs]
  go_enter Tryz.func34, Tryz.ntmps34
  go_wp2
  go_ret
  have t1:Ty W i:=hk.out.ty
  refine ⟨rfl,Ck.then (brk hk.out hiB hB) (below_al (Below.refl _ _)),?_⟩
  refine BK.al ?_ (by simp;omega)
  exact (((BK.refl i W).set (p:=⟨i,0,none⟩) (Nat.le_refl i) t1 _).set (p:=⟨i,1,none⟩) (Nat.le_refl i) (t1.set _ _) _).set (p:=⟨i,2,none⟩) (Nat.le_refl i) ((t1.set _ _).set _ _) _
 | some x =>
  obtain ⟨st,bg⟩:=x
  have c':CkA W i B n st bg:=c
  have hkb:∃ v,KB W i v bg false:=by obtain ⟨v,ps,k,_⟩:=c';exact ⟨v,k.kb⟩
  obtain ⟨v0,hk0⟩:=hkb
  obtain ⟨h0,h1,h2,h3,h4,h5⟩:=hk0.cells
  cases q
  ·have hf:feedE (some (st,bg)) false h=none:=rfl
   rw [hf]
   have hk:=hide hk0
   clear c c' hf hq g hk0
   obtain ⟨kd,fl,ng,dg,ex,bt,tx,nm⟩:=h
   simp only [evs] at mb ⊢
   go_enter Tryz.func34, Tryz.ntmps34
   go_wp2_with (go_at_call 67;refine (mb.out _).mono ?_;rintro e w1 ⟨rfl,hb1⟩;have B1:=hide (below_then (hB0.out _) hb1);have K1:=hide (hk.out.same (B1.out.block i hi));clear hb1;obtain ⟨j0,j1,j2,l0,l1,l2⟩:=K1.out.cells)
   go_ret
   refine ⟨rfl,brk K1.out hiB (Nat.le_trans hB B1.out.size),?_⟩
   have t1:Ty w1 i:=K1.out.ty
   exact (((BK.of B1.out (Nat.le_of_lt hi)).set (p:=⟨i,0,none⟩) (Nat.le_refl i) t1 _).set (p:=⟨i,1,none⟩) (Nat.le_refl i) (t1.set _ _) _).set (p:=⟨i,2,none⟩) (Nat.le_refl i) ((t1.set _ _).set _ _) _
  ·have hf:feedE (some (st,bg)) true h=stepE st bg h:=rfl
   rw [hf]
   have tk:=hide (fun W1 (hb:Below W.heap.size W W1)=>take_any h hz (c'.then hb) (Nat.lt_of_lt_of_le hi hb.size) hn)
   have hk:=hide hk0
   clear c c' hf hq g hk0
   obtain ⟨o,ho⟩:∃ o,stepE st bg h=o:=⟨_,rfl⟩
   rw [ho] at tk ⊢
   clear ho
   obtain ⟨kd,fl,ng,dg,ex,bt,tx,nm⟩:=h
   have E0':=E0
   simp only [evs] at mb tk ⊢
   cases o with
   | none =>
    go_enter Tryz.func34, Tryz.ntmps34
    go_wp2_with (first
     | (go_at_call 67;refine (mb.out _).mono ?_;rintro e w1 ⟨rfl,hb1⟩;have B1:=hide (below_then (hB0.out _) hb1);have E1:=hide (E0.out.below hb1);clear hb1;obtain ⟨d0,d1,d2,d3,d4,d5,d6⟩:=E1.out.cells;simp only at d0 d1 d2 d3 d4 d5 d6)
     | (go_at_call 68;refine (tk.out _ B1.out).mono ?_;rintro e w2 ⟨he,hb2,⟨v2,b2,hk2⟩,_⟩;subst he;have B2:=hide hb2;have K2:=hide hk2;clear hb2 hk2;obtain ⟨j0,j1,j2,l0,l1,l2⟩:=K2.out.cells))
    go_ret
    refine ⟨rfl,brk K2.out hiB (Nat.le_trans hB (Nat.le_trans B1.out.size B2.out.below.size)),?_⟩
    have t1:Ty w2 i:=K2.out.ty
    exact ((((BK.of B1.out (Nat.le_of_lt hi)).trans B2.out).set (p:=⟨i,0,none⟩) (Nat.le_refl i) t1 _).set (p:=⟨i,1,none⟩) (Nat.le_refl i) (t1.set _ _) _).set (p:=⟨i,2,none⟩) (Nat.le_refl i) ((t1.set _ _).set _ _) _
   | some x =>
    go_enter Tryz.func34, Tryz.ntmps34
    go_wp2_with (first
     | (go_at_call 67;refine (mb.out _).mono ?_;rintro e w1 ⟨rfl,hb1⟩;have B1:=hide (below_then (hB0.out _) hb1);have E1:=hide (E0.out.below hb1);clear hb1;obtain ⟨d0,d1,d2,d3,d4,d5,d6⟩:=E1.out.cells;simp only at d0 d1 d2 d3 d4 d5 d6)
     | (go_at_call 68;refine (tk.out _ B1.out).mono ?_;rintro e w2 ⟨he,hb2,_,hc2⟩;subst he;have B2:=hide hb2;have C2:=hide (hc2 x rfl);clear hb2 hc2))
    go_ret
    exact ⟨rfl,C2.out,(BK.of B1.out (Nat.le_of_lt hi)).trans B2.out⟩
theorem cfeed_any {W:World} {i B n:Nat} (s:Option (List Pa×Bool)) (h:Hd) (hz:EvZ h) (c:CkS W i B n s) (hi:i<W.heap.size) (hiB:i<B) (hB:B≤W.heap.size) (hn:n≤200000) (g:Ut.Gu W) (q:Bool) (hq:q=true↔May h) :
  Calls Tryz.prog 34 #[.pointer (some ⟨i,0,none⟩),.agg (evs h)] W fun r w'=>r=.returned (.int .i64 (if (feedE s q h).isSome then 0 else 50))∧CkS w' i B (n + 1) (feedE s q h)∧Below i W w':=by
 refine (cfeed_k s h hz c hi hiB hB hn g q hq).mono ?_
 rintro r w' ⟨h1,h2,h3⟩
 exact ⟨h1,h2,h3.below⟩
theorem nodup_more {α:Type} {l:List α} {k:Nat} (h:k<l.length) (hn:(l.take k).Nodup) (hm:∀ j (hj:j<k),l[j]'(by omega)≠l[k]):(l.take (k + 1)).Nodup:=by
 rw [List.take_succ_eq_append_getElem h]
 rw [List.nodup_append]
 refine ⟨hn,by simp,?_⟩
 intro a ha b hb
 rw [List.mem_singleton.1 hb]
 obtain ⟨j,hj,rfl⟩:=List.getElem_of_mem ha
 rw [List.getElem_take]
 exact hm j (by rw [List.length_take] at hj;omega)
set_option maxRecDepth 100000 in
theorem unlike_any (v:Value) (l:List ByteArray) (w:World) (hr:NL w v l) :
  Calls Tryz.prog 115 #[v] w fun e w'=>TB l.Nodup w e w':=by
 obtain ⟨an,cn,rfl,hn1,hn2⟩:=hr.len
 have ml:maxLen=9223372036854775807:=rfl
 replace hr:=hide hr
 go_enter Tryz.func115, Tryz.ntmps115
 go_wp2_with fail
 go_loopw [3] (fun i w'=>∃ k:Nat,i=.int .i64 k∧k≤l.length∧Hid ((l.take k).Nodup∧Below w.heap.size w w')) (fun i _=>l.length - (intOf i).toNat)
 case atStart=>exact ⟨0,rfl,Nat.zero_le _,by simp,Below.refl _ _⟩
 case round =>
  obtain ⟨k,rfl,hk,H⟩:=hrel
  by_cases hkl:k<l.length
  ·have hki:(k:Int)<(l.length:Int):=by omega
   have hk63:(k:Int)<9223372036854775807:=by omega
   go_wp2_with fail
   go_loopw [4] (fun i w'=>∃ j:Nat,i=.int .i64 j∧j≤k∧Hid ((∀ i (hi:i<j) (hik:i<l.length),l[i]≠l[k])∧Below w.heap.size w w')) (fun i _=>k - (intOf i).toNat)
   case atStart=>exact ⟨0,rfl,Nat.zero_le _,(fun i hi=>absurd hi (by omega)),H.out.2⟩
   case round =>
    obtain ⟨j,rfl,hj,J⟩:=hrel
    by_cases hjk:j<k
    ·have hjl:j<l.length:=by omega
     have hjki:(j:Int)<(k:Int):=by omega
     have hjli:(j:Int)<(l.length:Int):=by omega
     have hj63:(j:Int)<9223372036854775807:=by omega
     obtain ⟨b,o,c,he,hbl,hlc,hcm,hcell⟩:=hr.out.at k hkl
     obtain ⟨b',o',c',he',hbl',hlc',hcm',hcell'⟩:=hr.out.at j hjl
     have q1:=Value.slice.inj he
     have q2:=Value.slice.inj he'
     obtain ⟨rfl,_,rfl⟩:=q1
     obtain ⟨q3,_,rfl⟩:=q2
     have q4:=Option.some.inj q3
     simp only [Addr.mk.injEq] at q4
     obtain ⟨rfl,rfl,_⟩:=q4
     clear he he' q3
     have hcell:=(J.out.2.cell (p:=⟨b,o + k,none⟩) hbl).trans hcell
     have hcell':=(J.out.2.cell (p:=⟨b,o + j,none⟩) hbl).trans hcell'
     obtain ⟨s,hs⟩:∃ s,l[k]=s:=⟨_,rfl⟩
     obtain ⟨t,ht⟩:∃ t,l[j]=t:=⟨_,rfl⟩
     simp only [hs] at hcell
     simp only [ht] at hcell'
     by_cases hst:s=t
     ·have hne:¬ l.Nodup:=fun hn=>(List.pairwise_iff_getElem.1 hn j k hjl hkl hjk) (by rw [ht,hs,hst])
      have hne':=hide hne
      subst hst
      clear hne hs ht
      go_wp2_with fail
      go_quiet (fail)
      go_wp2_with fail
      go_ret
      exact TB.no hne'.out (below_dn J.out.2 _)
     ·have hmo:Hid (∀ i (hi:i<j + 1) (hik:i<l.length),l[i]≠l[k]):=fun i hi hik=>by
       rcases Nat.lt_or_ge i j with q|q
       ·exact J.out.1 i q hik
       ·obtain rfl:i=j:=by omega
        rw [ht,hs]
        exact fun e=>hst e.symm
      have hst2:decide (s=t)=false:=decide_eq_false hst
      have hst3:=ba_ne hst
      clear hs ht
      go_wp2_with fail
      go_quiet (fail)
      go_wp2_with fail
      exact ⟨⟨j + 1,by go_num,by omega,hmo.out,below_dn J.out.2 _⟩,by simp [intOf];omega⟩
    ·have hjki:¬ ((j:Int)<(k:Int)):=by omega
     obtain rfl:j=k:=by omega
     have hN:=hide (nodup_more hkl H.out.1 (fun i hi=>J.out.1 i hi (by omega)))
     go_wp2_with fail
     exact ⟨⟨j + 1,by go_num,by omega,hN.out,J.out.2⟩,by simp [intOf];omega⟩
  ·have hki:¬ ((k:Int)<(l.length:Int)):=by omega
   have hE:=H.out.1
   rw [List.take_of_length_le (by omega)] at hE
   have hE':=hide hE
   clear hE
   go_wp2_with fail
   go_ret
   exact TB.yes hE'.out H.out.2
end Go.Proofs.YtpimjkdakjhoaaaGreatDoor
