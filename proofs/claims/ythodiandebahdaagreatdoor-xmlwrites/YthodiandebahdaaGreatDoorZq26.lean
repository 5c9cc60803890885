/- Merged by program: RiSmall, RjPrint. -/
import Derived.Test.YthodiandebahdaaGreatDoorZq23
import Derived.Test.YthodiandebahdaaGreatDoorZq08
namespace Go.Proofs.YthodiandebahdaaGreatDoor
open Go.RowKit
set_option linter.unusedSimpArgs false
set_option linter.unusedVariables false
set_option maxHeartbeats 8000000
def dby (l:List Nat):List UInt8:=l.map fun v=>UInt8.ofNat (v+48)
theorem mkS_dby (l:List Nat):mkS l=mkB (dby l):=by
 rw [←mkB_bl (mkS l),mkS_bl];rfl
structure SmJ (n k m:Nat)(l:List Nat):Prop where
 base:SmI n k m l
 dec:Lib.decDigits n=(if k=0∨0<m then Lib.decDigits m else [])++dby l
theorem SmJ.len {n k m:Nat} {l:List Nat} (h:SmJ n k m l):l.length=k:=h.base.len
theorem SmJ.le {n k m:Nat} {l:List Nat} (h:SmJ n k m l):k≤13:=h.base.le
theorem SmJ.start (n:Nat):SmJ n 0 n []:=⟨⟨rfl,fun x hx=>by simp at hx,by omega,by simp [val]⟩,by simp [dby]⟩
theorem SmJ.step {n k m:Nat} {l:List Nat} (h:SmJ n k m l)(hn:n<10000000000000)(hk:k=0∨0<m):SmJ n (k+1) (m / 10) (m % 10 :: l):=by
 refine ⟨h.base.step hn hk,?_⟩
 rw [h.dec,if_pos hk,Lib.decDigits]
 have e:dby (m % 10 :: l)=UInt8.ofNat (48+m % 10) :: dby l:=by rw [Nat.add_comm];rfl
 rw [e]
 split
 ·rename_i q
  rw [if_neg (by omega),Nat.mod_eq_of_lt q]
  simp
 ·rename_i q
  rw [if_pos (by omega)]
  simp
theorem rsmall_dec (n:Nat)(w:World)(hn:n<10000000000000) :
  Calls Tryz.prog 83 #[.int .i64 n] w fun e w'=>e=.returned (.string (mkB (Lib.decDigits n)))∧w'=w:=by
 go_enter Tryz.func83, Tryz.ntmps83
 go_wp2
 go_loop [0,4] (fun x s=>∃ (k m:Nat) (l:List Nat),m≤n∧x=.int .i64 m∧s=.string (mkS l)∧Hid (SmJ n k m l)) (fun x s=>natOf x+(if lenS s=0 then 1 else 0))
 case atStart=>exact ⟨0,n,[],Nat.le_refl _,rfl,rfl,SmJ.start n⟩
 case round =>
  obtain ⟨k,m,l,hm,rfl,rfl,hI⟩:=hrel
  have hk13:k≤13:=hI.out.le
  have hsz:(mkS l).size=k:=by rw [mkS_size];exact hI.out.len
  have hemp:=mkS_isEmpty l
  by_cases hgo:k=0∨0<m
  ·have hst:=hide (hI.out.step hn hgo)
   obtain ⟨r,hr⟩:∃ r,m % 10=r:=⟨_,rfl⟩
   have hr9:r≤9:=by omega
   have t1:(m:Int).tdiv 10=((m / 10:Nat):Int):=by rw [Int.tdiv_eq_ediv_of_nonneg (by omega)];omega
   have t2:(m:Int).tmod 10=(r:Int):=by rw [Int.tmod_eq_emod_of_nonneg (by omega)];omega
   have hp:=hide (dig_piece r hr9)
   rw [hr] at hst
   have hmeas:=hide (show m / 10<m+(if k=0 then 1 else 0) by
    rcases hgo with rfl|h
    ·simp;omega
    ·split <;> omega)
   have hdiv:=hide (show m / 10≤n by omega)
   have hes:=hide (show (⟨#[48,49,50,51,52,53,54,55,56,57]⟩:ByteArray).extract r (r+1)++mkS l=mkS (r :: l) by rw [hp.out,mkS_app];rfl)
   have hfin:Hid ((∃ (k' m':Nat) (l':List Nat),m'≤n∧Value.int IntKind.i64 ((m:Int) / 10)=.int .i64 m'∧Value.string ((⟨#[48,49,50,51,52,53,54,55,56,57]⟩:ByteArray).extract r (r+1)++mkS l)=.string (mkS l')∧Hid (SmJ n k' m' l')) ∧
     (natOf (Value.int IntKind.i64 ((m:Int) / 10))+if lenS (Value.string ((⟨#[48,49,50,51,52,53,54,55,56,57]⟩:ByteArray).extract r (r+1)++mkS l))=0 then 1 else 0)<natOf (Value.int IntKind.i64 (m:Int))+if lenS (Value.string (mkS l))=0 then 1 else 0):=by
    refine ⟨⟨k+1,m / 10,r :: l,hdiv.out,rfl,congrArg Value.string hes.out,hst.out⟩,?_⟩
    rw [hes.out]
    have e1:lenS (Value.string (mkS (r :: l)))=k+1:=by show (mkS _).size=_;rw [mkS_size];simp [hI.out.len]
    have e2:lenS (Value.string (mkS l))=k:=hsz
    have e3:natOf (Value.int IntKind.i64 ((m:Int) / 10))=m / 10:=by show ((m:Int) / 10).toNat=_;omega
    have e4:natOf (Value.int IntKind.i64 (m:Int))=m:=by show ((m:Int)).toNat=_;omega
    rw [e1,e2,e3,e4,if_neg (by omega)]
    exact hmeas.out
   by_cases hk0:k=0
   ·have hl0:l=[]:=by
     have:=hI.out.len
     rw [hk0] at this
     exact List.length_eq_zero_iff.1 this
    subst hl0
    simp only [List.isEmpty_nil] at hemp
    clear hr hgo
    go_wp2
    exact hfin.out
   ·have hm0:0<m:=by omega
    have hm0':(0:Int)<m:=by omega
    have hne:l.isEmpty=false:=by
     cases l with
     | nil=>have:=hI.out.len;simp at this;omega
     | cons=>rfl
    rw [hne] at hemp
    clear hr hgo hne
    go_wp2
    exact hfin.out
  ·have hm0:m=0:=by omega
   subst hm0
   have hne:l.isEmpty=false:=by
    cases l with
    | nil=>have:=hI.out.len;simp at this;omega
    | cons=>rfl
   rw [hne] at hemp
   have hdec:=hide (show mkS l=mkB (Lib.decDigits n) by rw [hI.out.dec,if_neg hgo,mkS_dby];rfl)
   clear hne hgo
   go_wp2
   go_ret
   refine ⟨?_,rfl⟩
   exact congrArg (fun s=>Ending.returned (Value.string s)) ((mkS_app [] l).trans hdec.out)
theorem rsmall_neg (n:Nat)(w:World)(h0:0<n)(hn:n<10000000000000) :
  Calls Tryz.prog 83 #[.int .i64 (-(n:Int))] w fun e w'=>e=.returned (.string (mkB (45 :: Lib.decDigits n)))∧w'=w:=by
 have h0':(0:Int)<(n:Int):=by omega
 go_enter Tryz.func83, Tryz.ntmps83
 go_wp2
 go_loop [0,4] (fun x s=>∃ (k m:Nat) (l:List Nat),m≤n∧x=.int .i64 m∧s=.string (mkS l)∧Hid (SmJ n k m l)) (fun x s=>natOf x+(if lenS s=0 then 1 else 0))
 case atStart=>exact ⟨0,n,[],Nat.le_refl _,rfl,rfl,SmJ.start n⟩
 case round =>
  obtain ⟨k,m,l,hm,rfl,rfl,hI⟩:=hrel
  have hk13:k≤13:=hI.out.le
  have hsz:(mkS l).size=k:=by rw [mkS_size];exact hI.out.len
  have hemp:=mkS_isEmpty l
  by_cases hgo:k=0∨0<m
  ·have hst:=hide (hI.out.step hn hgo)
   obtain ⟨r,hr⟩:∃ r,m % 10=r:=⟨_,rfl⟩
   have hr9:r≤9:=by omega
   have t1:(m:Int).tdiv 10=((m / 10:Nat):Int):=by rw [Int.tdiv_eq_ediv_of_nonneg (by omega)];omega
   have t2:(m:Int).tmod 10=(r:Int):=by rw [Int.tmod_eq_emod_of_nonneg (by omega)];omega
   have hp:=hide (dig_piece r hr9)
   rw [hr] at hst
   have hmeas:=hide (show m / 10<m+(if k=0 then 1 else 0) by
    rcases hgo with rfl|h
    ·simp;omega
    ·split <;> omega)
   have hdiv:=hide (show m / 10≤n by omega)
   have hes:=hide (show (⟨#[48,49,50,51,52,53,54,55,56,57]⟩:ByteArray).extract r (r+1)++mkS l=mkS (r :: l) by rw [hp.out,mkS_app];rfl)
   have hfin:Hid ((∃ (k' m':Nat) (l':List Nat),m'≤n∧Value.int IntKind.i64 ((m:Int) / 10)=.int .i64 m'∧Value.string ((⟨#[48,49,50,51,52,53,54,55,56,57]⟩:ByteArray).extract r (r+1)++mkS l)=.string (mkS l')∧Hid (SmJ n k' m' l')) ∧
     (natOf (Value.int IntKind.i64 ((m:Int) / 10))+if lenS (Value.string ((⟨#[48,49,50,51,52,53,54,55,56,57]⟩:ByteArray).extract r (r+1)++mkS l))=0 then 1 else 0)<natOf (Value.int IntKind.i64 (m:Int))+if lenS (Value.string (mkS l))=0 then 1 else 0):=by
    refine ⟨⟨k+1,m / 10,r :: l,hdiv.out,rfl,congrArg Value.string hes.out,hst.out⟩,?_⟩
    rw [hes.out]
    have e1:lenS (Value.string (mkS (r :: l)))=k+1:=by show (mkS _).size=_;rw [mkS_size];simp [hI.out.len]
    have e2:lenS (Value.string (mkS l))=k:=hsz
    have e3:natOf (Value.int IntKind.i64 ((m:Int) / 10))=m / 10:=by show ((m:Int) / 10).toNat=_;omega
    have e4:natOf (Value.int IntKind.i64 (m:Int))=m:=by show ((m:Int)).toNat=_;omega
    rw [e1,e2,e3,e4,if_neg (by omega)]
    exact hmeas.out
   by_cases hk0:k=0
   ·have hl0:l=[]:=by
     have:=hI.out.len
     rw [hk0] at this
     exact List.length_eq_zero_iff.1 this
    subst hl0
    simp only [List.isEmpty_nil] at hemp
    clear hr hgo
    go_wp2
    exact hfin.out
   ·have hm0:0<m:=by omega
    have hm0':(0:Int)<m:=by omega
    have hne:l.isEmpty=false:=by
     cases l with
     | nil=>have:=hI.out.len;simp at this;omega
     | cons=>rfl
    rw [hne] at hemp
    clear hr hgo hne
    go_wp2
    exact hfin.out
  ·have hm0:m=0:=by omega
   subst hm0
   have hne:l.isEmpty=false:=by
    cases l with
    | nil=>have:=hI.out.len;simp at this;omega
    | cons=>rfl
   rw [hne] at hemp
   have hdec:=hide (show mkS l=mkB (Lib.decDigits n) by rw [hI.out.dec,if_neg hgo,mkS_dby];rfl)
   clear hne hgo
   go_wp2
   go_ret
   refine ⟨?_,rfl⟩
   refine congrArg (fun s=>Ending.returned (Value.string s)) ?_
   rw [hdec.out]
   exact mkB_app [45] _
theorem rsmall_itoa (n:Int)(w:World)(h0:-10000≤n)(h1:n≤10000) :
  Calls Tryz.prog 83 #[.int .i64 n] w fun e w'=>e=.returned (.string (mkB (Lib.itoa n)))∧w'=w:=by
 by_cases h:n<0
 ·obtain ⟨u,rfl⟩:∃ u:Nat,n=-(u:Int):=⟨n.natAbs,by omega⟩
  rw [Lib.itoa_neg u (by omega)]
  exact rsmall_neg u w (by omega) (by omega)
 ·obtain ⟨u,rfl⟩:∃ u:Nat,n=u:=⟨n.toNat,by omega⟩
  rw [Lib.itoa_nonneg u]
  exact rsmall_dec u w (by omega)
theorem add_run (a b c:ByteArray)(hc:bl a++bl b=bl c)(h:c.size≤100000):∀ w,(Op.stringOp .add a b).run Tryz.prog w=.ok (.string c) w:=fun w=>by
 have e:a++b=c:=by
  rw [←mkB_bl a,←mkB_bl b,mkB_app,hc,mkB_bl]
 have hs:a.size+b.size=c.size:=by rw [←bl_length,←bl_length,←bl_length,←hc,List.length_append]
 rw [←e]
 exact run_string_add_sum w _ _ (by omega)
theorem rprint_no (n:Bool)(s:ByteArray)(x:Int)(w:World)(hs:s.size≤100000)(h:isN n s x=false) :
  Calls Tryz.prog 51 #[.agg #[.bool n,.string s,.int .i64 x]] w fun e w'=>e=.returned (.tuple #[.string ⟨#[]⟩,.int .i64 10])∧Below w.heap.size w w':=by
 have ml:maxLen=2 ^ 63 - 1:=rfl
 have hB:=hide (box_new w n s x)
 go_enter Tryz.func51, Tryz.ntmps51
 go_wp2_with fail
 refine (ris_any n s _ _ (by omega)).mono ?_
 rw [h]
 rintro e w1 ⟨rfl,hb1⟩
 have hb:=hide (below_alloc hb1)
 clear hb1 hB
 go_wp2
 go_ret2
 exact ⟨rfl,hb.out⟩
set_option maxRecDepth 100000 in
theorem rprint_plain_false (s:ByteArray)(k:Nat)(hx21:s.size+k≤21)(w:World)(h:isN false s (k:Int)=true) :
  Calls Tryz.prog 51 #[.agg #[.bool false,.string s,.int .i64 (k:Int)]] w fun e w'=>e=.returned (.tuple #[.string (mkB ([]++(bl s++List.replicate k 48))),.int .i64 0])∧Below w.heap.size w w':=by
 have ml:maxLen=2 ^ 63 - 1:=rfl
 obtain ⟨had,hl1,hl40,hx1,hx2,hdg⟩:=isN_all h
 clear had hdg
 have hB:=hide (box_new w false s (k:Int))
 obtain ⟨R,hR⟩:∃ R,mkB ([]++(bl s++List.replicate k 48))=R:=⟨_,rfl⟩
 rw [hR]
 have hg1:decide ((s.size:Int)+(k:Int)≤21)=true:=decide_eq_true (by omega)
 obtain ⟨A1,hA1⟩:∃ A1,mkB ([]++bl s)=A1:=⟨_,rfl⟩
 have hc1:=add_run ⟨#[]⟩ s A1 (by rw [←hA1,bl_mkB];rfl) (by rw [←hA1,mkB_size,List.length_append,bl_length];simp;omega)
 have hc2:=add_run A1 (mkS (List.replicate k 0)) R (by rw [←hA1,←hR,bl_mkB,bl_mkB,mkS_dby,bl_mkB,dby,List.map_replicate,List.append_assoc];rfl) (by rw [←hR,mkB_size];simp [bl_length];omega)
 clear hA1
 clear hR
 go_enter Tryz.func51, Tryz.ntmps51
 go_wp2_with fail
 refine (ris_any false s _ _ (by omega)).mono ?_
 rw [h]
 rintro e w1 ⟨rfl,hb1⟩
 have hB1:=hide (hB.out.below hb1 (by simp))
 have hlw:=hB1.out.lt
 obtain ⟨c0,c1,c2,f0,f1,f2⟩:=hB1.out.cells
 have hb:=hide (below_alloc hb1)
 clear hb1 hB
 go_wp2_with fail
 go_fit (zeros_any k _ (by omega))
 rintro e w2 ⟨rfl,rfl⟩
 go_wp2
 go_ret2
 exact ⟨rfl,hb.out⟩
set_option maxRecDepth 100000 in
theorem rprint_in_false (s:ByteArray)(bh j:Nat)(hj:s.size=bh+j)(h0:0<bh)(hj0:0<j)(hx21:bh≤21)(w:World)(h:isN false s (-(bh:Int))=true) :
  Calls Tryz.prog 51 #[.agg #[.bool false,.string s,.int .i64 (-(bh:Int))]] w fun e w'=>e=.returned (.tuple #[.string (mkB ([]++((bl s).take j++46 :: (bl s).drop j))),.int .i64 0])∧Below w.heap.size w w':=by
 have ml:maxLen=2 ^ 63 - 1:=rfl
 obtain ⟨had,hl1,hl40,hx1,hx2,hdg⟩:=isN_all h
 clear had hdg
 have hB:=hide (box_new w false s (-(bh:Int)))
 obtain ⟨R,hR⟩:∃ R,mkB ([]++((bl s).take j++46 :: (bl s).drop j))=R:=⟨_,rfl⟩
 rw [hR]
 have hg0:decide ((0:Int)≤-(bh:Int))=false:=decide_eq_false (by omega)
 have hsj:=hide hj
 have hbn:(- -(bh:Int))=(bh:Int):=by omega
 have hg1:decide ((bh:Int)≤21)=true:=decide_eq_true (by omega)
 have hg2:decide ((s.size:Int)≤(bh:Int))=false:=decide_eq_false (by omega)
 have hjs:(s.size:Int) + -(bh:Int)=(j:Int):=by omega
 have hjl:(j:Int)≤(s.size:Int):=by omega
 obtain ⟨A1,hA1⟩:∃ A1,mkB ([]++(bl s).take j)=A1:=⟨_,rfl⟩
 obtain ⟨A2,hA2⟩:∃ A2,mkB ([]++(bl s).take j++[46])=A2:=⟨_,rfl⟩
 have hc1:=add_run ⟨#[]⟩ (s.extract 0 j) A1 (by rw [←hA1,bl_mkB,extract_mkB,bl_mkB];simp;rfl) (by rw [←hA1,mkB_size];simp [bl_length];omega)
 have hc2:=add_run A1 ⟨#[46]⟩ A2 (by rw [←hA1,←hA2,bl_mkB,bl_mkB];rfl) (by rw [←hA2,mkB_size];simp [bl_length];omega)
 have hc3:=add_run A2 (s.extract j s.size) R (by rw [←hA2,←hR,bl_mkB,bl_mkB,drop_mkB,bl_mkB];simp) (by rw [←hR,mkB_size];simp [bl_length];omega)
 clear hA1 hA2
 clear hj
 clear hR
 go_enter Tryz.func51, Tryz.ntmps51
 go_wp2_with fail
 refine (ris_any false s _ _ (by omega)).mono ?_
 rw [h]
 rintro e w1 ⟨rfl,hb1⟩
 have hB1:=hide (hB.out.below hb1 (by simp))
 have hlw:=hB1.out.lt
 obtain ⟨c0,c1,c2,f0,f1,f2⟩:=hB1.out.cells
 have hb:=hide (below_alloc hb1)
 clear hb1 hB
 have hwr:IntKind.i64.wrap ((s.size:Int) + -(bh:Int))=(j:Int):=by rw [IntKind.wrap_i64];have:=hsj.out;omega
 have hj0i:(0:Int)≤(j:Int):=by omega
 go_wp2
 all_goals
  go_region
  all_goals
   go_wp2
   go_ret2
   exact ⟨rfl,hb.out.drew⟩
set_option maxRecDepth 100000 in
theorem rprint_le_false (s:ByteArray)(bh y:Nat)(hy:bh=s.size+y)(h0:0<bh)(hx21:bh≤21)(w:World)(h:isN false s (-(bh:Int))=true) :
  Calls Tryz.prog 51 #[.agg #[.bool false,.string s,.int .i64 (-(bh:Int))]] w fun e w'=>e=.returned (.tuple #[.string (mkB ([]++(48 :: 46 :: (List.replicate y 48++bl s)))),.int .i64 0])∧Below w.heap.size w w':=by
 have ml:maxLen=2 ^ 63 - 1:=rfl
 obtain ⟨had,hl1,hl40,hx1,hx2,hdg⟩:=isN_all h
 clear had hdg
 have hB:=hide (box_new w false s (-(bh:Int)))
 obtain ⟨R,hR⟩:∃ R,mkB ([]++(48 :: 46 :: (List.replicate y 48++bl s)))=R:=⟨_,rfl⟩
 rw [hR]
 have hg0:decide ((0:Int)≤-(bh:Int))=false:=decide_eq_false (by omega)
 have hsj:=hide hy
 have hbn:(- -(bh:Int))=(bh:Int):=by omega
 have hg1:decide ((bh:Int)≤21)=true:=decide_eq_true (by omega)
 have hg2:decide ((s.size:Int)≤(bh:Int))=true:=decide_eq_true (by omega)
 have hg3:(s.size:Int)≤(bh:Int):=by omega
 obtain ⟨z,hz⟩:∃ z:Nat,y+1=z:=⟨_,rfl⟩
 have hzi:(1:Int)+(bh:Int) - (s.size:Int)=(z:Int):=by omega
 have hz100:z≤100:=by omega
 obtain ⟨D,hD⟩:∃ D,mkB (List.replicate (y+1) 48++bl s)=D:=⟨_,rfl⟩
 have hDs:=hide (show D.size=bh+1 by rw [←hD,mkB_size,List.length_append,List.length_replicate,bl_length];omega)
 have hji:(D.size:Int) + -(bh:Int)=1:=by rw [hDs.out];omega
 have hwr:IntKind.i64.wrap ((D.size:Int) + -(bh:Int))=1:=by rw [hji];rfl
 have h1D:(1:Int)≤(D.size:Int):=by rw [hDs.out];omega
 have hc0:=add_run (mkS (List.replicate z 0)) s D (by rw [←hD,←hz,bl_mkB,mkS_dby,bl_mkB,dby,List.map_replicate];rfl) (by rw [hDs.out];omega)
 obtain ⟨A1,hA1⟩:∃ A1,mkB ([]++[48])=A1:=⟨_,rfl⟩
 obtain ⟨A2,hA2⟩:∃ A2,mkB ([]++[48,46])=A2:=⟨_,rfl⟩
 have hc1:=add_run ⟨#[]⟩ (D.extract 0 1) A1 (by rw [←hA1,bl_mkB,extract_mkB,bl_mkB,←hD,bl_mkB,List.replicate_succ];rfl) (by rw [←hA1,mkB_size];simp)
 have hc2:=add_run A1 ⟨#[46]⟩ A2 (by rw [←hA1,←hA2,bl_mkB,bl_mkB];rfl) (by rw [←hA2,mkB_size];simp)
 have hc3:=add_run A2 (D.extract 1 D.size) R (by rw [←hA2,←hR,bl_mkB,bl_mkB,drop_mkB,bl_mkB,←hD,bl_mkB,List.replicate_succ];rfl) (by rw [←hR,mkB_size];simp [bl_length];omega)
 clear hA1 hA2 hD hy hz
 clear hR
 go_enter Tryz.func51, Tryz.ntmps51
 go_wp2_with fail
 refine (ris_any false s _ _ (by omega)).mono ?_
 rw [h]
 rintro e w1 ⟨rfl,hb1⟩
 have hB1:=hide (hB.out.below hb1 (by simp))
 have hlw:=hB1.out.lt
 obtain ⟨c0,c1,c2,f0,f1,f2⟩:=hB1.out.cells
 have hb:=hide (below_alloc hb1)
 clear hb1 hB
 go_wp2_with fail
 go_fit (zeros_any z _ (by omega))
 rintro e w2 ⟨rfl,rfl⟩
 go_wp2
 all_goals
  go_region
  all_goals
   go_wp2
   go_ret2
   exact ⟨rfl,hb.out.drew⟩
set_option maxRecDepth 100000 in
theorem rprint_upm_false (s:ByteArray)(x:Int)(hs1:1<s.size)(hx0:0≤x)(hx21:21<(s.size:Int)+x)(w:World)(h:isN false s x=true) :
  Calls Tryz.prog 51 #[.agg #[.bool false,.string s,.int .i64 x]] w fun e w'=>e=.returned (.tuple #[.string (mkB ([]++((bl s).take 1++46 :: (bl s).drop 1++101 :: Lib.itoa (x+s.size - 1)))),.int .i64 0])∧Below w.heap.size w w':=by
 have ml:maxLen=2 ^ 63 - 1:=rfl
 obtain ⟨had,hl1,hl40,hx1,hx2,hdg⟩:=isN_all h
 clear had hdg
 have hB:=hide (box_new w false s x)
 obtain ⟨R,hR⟩:∃ R,mkB ([]++((bl s).take 1++46 :: (bl s).drop 1++101 :: Lib.itoa (x+s.size - 1)))=R:=⟨_,rfl⟩
 rw [hR]
 have hg0:decide ((0:Int)≤x)=true:=decide_eq_true hx0
 have hg1:decide ((s.size:Int)+x≤21)=false:=decide_eq_false (by omega)
 have hg2:decide (x<0)=false:=decide_eq_false (by omega)
 have hil:=Lib.itoa_length_le (x+s.size - 1) (by omega) (by omega)
 have h1s:(1:Int)≤(s.size:Int):=by omega
 have e1:(bl s).length=s.size:=bl_length s
 have hs1i:(1:Int)<(s.size:Int):=by omega
 obtain ⟨H1,hH1⟩:∃ H1,mkB ((bl s).take 1++[46])=H1:=⟨_,rfl⟩
 obtain ⟨H2,hH2⟩:∃ H2,mkB ((bl s).take 1++46 :: (bl s).drop 1)=H2:=⟨_,rfl⟩
 obtain ⟨A1,hA1⟩:∃ A1,mkB ([]++((bl s).take 1++46 :: (bl s).drop 1))=A1:=⟨_,rfl⟩
 obtain ⟨A2,hA2⟩:∃ A2,mkB ([]++((bl s).take 1++46 :: (bl s).drop 1)++[101])=A2:=⟨_,rfl⟩
 have hc1:=add_run (s.extract 0 1) ⟨#[46]⟩ H1 (by rw [←hH1,bl_mkB,extract_mkB,bl_mkB];rfl) (by rw [←hH1,mkB_size];simp;omega)
 have hc2:=add_run H1 (s.extract 1 s.size) H2 (by rw [←hH1,←hH2,bl_mkB,bl_mkB,drop_mkB,bl_mkB];simp) (by rw [←hH2,mkB_size];simp [e1];omega)
 have hc3:=add_run ⟨#[]⟩ H2 A1 (by rw [←hH2,←hA1,bl_mkB,bl_mkB];rfl) (by rw [←hA1,mkB_size];simp [e1];omega)
 have hc4:=add_run A1 ⟨#[101]⟩ A2 (by rw [←hA1,←hA2,bl_mkB,bl_mkB];rfl) (by rw [←hA2,mkB_size];simp [e1];omega)
 have hc5:=add_run A2 (mkB (Lib.itoa (x+s.size - 1))) R (by rw [←hA2,←hR,bl_mkB,bl_mkB,bl_mkB];simp) (by rw [←hR,mkB_size];simp [e1];omega)
 clear hH1 hH2 hA1 hA2 e1
 clear hR
 go_enter Tryz.func51, Tryz.ntmps51
 go_wp2_with fail
 refine (ris_any false s _ _ (by omega)).mono ?_
 rw [h]
 rintro e w1 ⟨rfl,hb1⟩
 have hB1:=hide (hB.out.below hb1 (by simp))
 have hlw:=hB1.out.lt
 obtain ⟨c0,c1,c2,f0,f1,f2⟩:=hB1.out.cells
 have hb:=hide (below_alloc hb1)
 clear hb1 hB
 go_wp2_with fail
 go_fit (rsmall_itoa (x+s.size - 1) _ (by omega) (by omega))
 rintro e w2 ⟨rfl,rfl⟩
 go_wp2
 go_ret2
 exact ⟨rfl,hb.out⟩
set_option maxRecDepth 100000 in
theorem rprint_upo_false (s:ByteArray)(x:Int)(hs1:s.size=1)(hx0:0≤x)(hx21:21<(s.size:Int)+x)(w:World)(h:isN false s x=true) :
  Calls Tryz.prog 51 #[.agg #[.bool false,.string s,.int .i64 x]] w fun e w'=>e=.returned (.tuple #[.string (mkB ([]++((bl s).take 1++101 :: Lib.itoa (x+s.size - 1)))),.int .i64 0])∧Below w.heap.size w w':=by
 have ml:maxLen=2 ^ 63 - 1:=rfl
 obtain ⟨had,hl1,hl40,hx1,hx2,hdg⟩:=isN_all h
 clear had hdg
 have hB:=hide (box_new w false s x)
 obtain ⟨R,hR⟩:∃ R,mkB ([]++((bl s).take 1++101 :: Lib.itoa (x+s.size - 1)))=R:=⟨_,rfl⟩
 rw [hR]
 have hg0:decide ((0:Int)≤x)=true:=decide_eq_true hx0
 have hg1:decide ((s.size:Int)+x≤21)=false:=decide_eq_false (by omega)
 have hg2:decide (x<0)=false:=decide_eq_false (by omega)
 have hil:=Lib.itoa_length_le (x+s.size - 1) (by omega) (by omega)
 have h1s:(1:Int)≤(s.size:Int):=by omega
 have e1:(bl s).length=s.size:=bl_length s
 obtain ⟨A1,hA1⟩:∃ A1,mkB ([]++(bl s).take 1)=A1:=⟨_,rfl⟩
 obtain ⟨A2,hA2⟩:∃ A2,mkB ([]++(bl s).take 1++[101])=A2:=⟨_,rfl⟩
 have hc3:=add_run ⟨#[]⟩ (s.extract 0 1) A1 (by rw [←hA1,extract_mkB,bl_mkB,bl_mkB];rfl) (by rw [←hA1,mkB_size];simp [e1];omega)
 have hc4:=add_run A1 ⟨#[101]⟩ A2 (by rw [←hA1,←hA2,bl_mkB,bl_mkB];rfl) (by rw [←hA2,mkB_size];simp [e1];omega)
 have hc5:=add_run A2 (mkB (Lib.itoa (x+s.size - 1))) R (by rw [←hA2,←hR,bl_mkB,bl_mkB,bl_mkB];simp) (by rw [←hR,mkB_size];simp [e1];omega)
 have hsn:¬ (1:Int)<(s.size:Int):=by omega
 clear hA1 hA2 e1 hs1
 clear hR
 go_enter Tryz.func51, Tryz.ntmps51
 go_wp2_with fail
 refine (ris_any false s _ _ (by omega)).mono ?_
 rw [h]
 rintro e w1 ⟨rfl,hb1⟩
 have hB1:=hide (hB.out.below hb1 (by simp))
 have hlw:=hB1.out.lt
 obtain ⟨c0,c1,c2,f0,f1,f2⟩:=hB1.out.cells
 have hb:=hide (below_alloc hb1)
 clear hb1 hB
 go_wp2_with fail
 go_fit (rsmall_itoa (x+s.size - 1) _ (by omega) (by omega))
 rintro e w2 ⟨rfl,rfl⟩
 go_wp2
 go_ret2
 exact ⟨rfl,hb.out⟩
set_option maxRecDepth 100000 in
theorem rprint_downm_false (s:ByteArray)(x:Int)(hs1:1<s.size)(hx0:x<0)(hx21:x < -21)(w:World)(h:isN false s x=true) :
  Calls Tryz.prog 51 #[.agg #[.bool false,.string s,.int .i64 x]] w fun e w'=>e=.returned (.tuple #[.string (mkB ([]++((bl s).take 1++46 :: (bl s).drop 1++101 :: Lib.itoa (x+s.size - 1)))),.int .i64 0])∧Below w.heap.size w w':=by
 have ml:maxLen=2 ^ 63 - 1:=rfl
 obtain ⟨had,hl1,hl40,hx1,hx2,hdg⟩:=isN_all h
 clear had hdg
 have hB:=hide (box_new w false s x)
 obtain ⟨R,hR⟩:∃ R,mkB ([]++((bl s).take 1++46 :: (bl s).drop 1++101 :: Lib.itoa (x+s.size - 1)))=R:=⟨_,rfl⟩
 rw [hR]
 have hg0:decide ((0:Int)≤x)=false:=decide_eq_false (by omega)
 have hg1:decide (x<0)=true:=decide_eq_true hx0
 have hg2:decide (-x≤21)=false:=decide_eq_false (by omega)
 have hil:=Lib.itoa_length_le (x+s.size - 1) (by omega) (by omega)
 have h1s:(1:Int)≤(s.size:Int):=by omega
 have e1:(bl s).length=s.size:=bl_length s
 have hs1i:(1:Int)<(s.size:Int):=by omega
 obtain ⟨H1,hH1⟩:∃ H1,mkB ((bl s).take 1++[46])=H1:=⟨_,rfl⟩
 obtain ⟨H2,hH2⟩:∃ H2,mkB ((bl s).take 1++46 :: (bl s).drop 1)=H2:=⟨_,rfl⟩
 obtain ⟨A1,hA1⟩:∃ A1,mkB ([]++((bl s).take 1++46 :: (bl s).drop 1))=A1:=⟨_,rfl⟩
 obtain ⟨A2,hA2⟩:∃ A2,mkB ([]++((bl s).take 1++46 :: (bl s).drop 1)++[101])=A2:=⟨_,rfl⟩
 have hc1:=add_run (s.extract 0 1) ⟨#[46]⟩ H1 (by rw [←hH1,bl_mkB,extract_mkB,bl_mkB];rfl) (by rw [←hH1,mkB_size];simp;omega)
 have hc2:=add_run H1 (s.extract 1 s.size) H2 (by rw [←hH1,←hH2,bl_mkB,bl_mkB,drop_mkB,bl_mkB];simp) (by rw [←hH2,mkB_size];simp [e1];omega)
 have hc3:=add_run ⟨#[]⟩ H2 A1 (by rw [←hH2,←hA1,bl_mkB,bl_mkB];rfl) (by rw [←hA1,mkB_size];simp [e1];omega)
 have hc4:=add_run A1 ⟨#[101]⟩ A2 (by rw [←hA1,←hA2,bl_mkB,bl_mkB];rfl) (by rw [←hA2,mkB_size];simp [e1];omega)
 have hc5:=add_run A2 (mkB (Lib.itoa (x+s.size - 1))) R (by rw [←hA2,←hR,bl_mkB,bl_mkB,bl_mkB];simp) (by rw [←hR,mkB_size];simp [e1];omega)
 clear hH1 hH2 hA1 hA2 e1
 clear hR
 go_enter Tryz.func51, Tryz.ntmps51
 go_wp2_with fail
 refine (ris_any false s _ _ (by omega)).mono ?_
 rw [h]
 rintro e w1 ⟨rfl,hb1⟩
 have hB1:=hide (hB.out.below hb1 (by simp))
 have hlw:=hB1.out.lt
 obtain ⟨c0,c1,c2,f0,f1,f2⟩:=hB1.out.cells
 have hb:=hide (below_alloc hb1)
 clear hb1 hB
 go_wp2_with fail
 go_fit (rsmall_itoa (x+s.size - 1) _ (by omega) (by omega))
 rintro e w2 ⟨rfl,rfl⟩
 go_wp2
 go_ret2
 exact ⟨rfl,hb.out⟩
set_option maxRecDepth 100000 in
theorem rprint_downo_false (s:ByteArray)(x:Int)(hs1:s.size=1)(hx0:x<0)(hx21:x < -21)(w:World)(h:isN false s x=true) :
  Calls Tryz.prog 51 #[.agg #[.bool false,.string s,.int .i64 x]] w fun e w'=>e=.returned (.tuple #[.string (mkB ([]++((bl s).take 1++101 :: Lib.itoa (x+s.size - 1)))),.int .i64 0])∧Below w.heap.size w w':=by
 have ml:maxLen=2 ^ 63 - 1:=rfl
 obtain ⟨had,hl1,hl40,hx1,hx2,hdg⟩:=isN_all h
 clear had hdg
 have hB:=hide (box_new w false s x)
 obtain ⟨R,hR⟩:∃ R,mkB ([]++((bl s).take 1++101 :: Lib.itoa (x+s.size - 1)))=R:=⟨_,rfl⟩
 rw [hR]
 have hg0:decide ((0:Int)≤x)=false:=decide_eq_false (by omega)
 have hg1:decide (x<0)=true:=decide_eq_true hx0
 have hg2:decide (-x≤21)=false:=decide_eq_false (by omega)
 have hil:=Lib.itoa_length_le (x+s.size - 1) (by omega) (by omega)
 have h1s:(1:Int)≤(s.size:Int):=by omega
 have e1:(bl s).length=s.size:=bl_length s
 obtain ⟨A1,hA1⟩:∃ A1,mkB ([]++(bl s).take 1)=A1:=⟨_,rfl⟩
 obtain ⟨A2,hA2⟩:∃ A2,mkB ([]++(bl s).take 1++[101])=A2:=⟨_,rfl⟩
 have hc3:=add_run ⟨#[]⟩ (s.extract 0 1) A1 (by rw [←hA1,extract_mkB,bl_mkB,bl_mkB];rfl) (by rw [←hA1,mkB_size];simp [e1];omega)
 have hc4:=add_run A1 ⟨#[101]⟩ A2 (by rw [←hA1,←hA2,bl_mkB,bl_mkB];rfl) (by rw [←hA2,mkB_size];simp [e1];omega)
 have hc5:=add_run A2 (mkB (Lib.itoa (x+s.size - 1))) R (by rw [←hA2,←hR,bl_mkB,bl_mkB,bl_mkB];simp) (by rw [←hR,mkB_size];simp [e1];omega)
 have hsn:¬ (1:Int)<(s.size:Int):=by omega
 clear hA1 hA2 e1 hs1
 clear hR
 go_enter Tryz.func51, Tryz.ntmps51
 go_wp2_with fail
 refine (ris_any false s _ _ (by omega)).mono ?_
 rw [h]
 rintro e w1 ⟨rfl,hb1⟩
 have hB1:=hide (hB.out.below hb1 (by simp))
 have hlw:=hB1.out.lt
 obtain ⟨c0,c1,c2,f0,f1,f2⟩:=hB1.out.cells
 have hb:=hide (below_alloc hb1)
 clear hb1 hB
 go_wp2_with fail
 go_fit (rsmall_itoa (x+s.size - 1) _ (by omega) (by omega))
 rintro e w2 ⟨rfl,rfl⟩
 go_wp2
 go_ret2
 exact ⟨rfl,hb.out⟩
set_option maxRecDepth 100000 in
theorem rprint_plain_true (s:ByteArray)(k:Nat)(hx21:s.size+k≤21)(w:World)(h:isN true s (k:Int)=true) :
  Calls Tryz.prog 51 #[.agg #[.bool true,.string s,.int .i64 (k:Int)]] w fun e w'=>e=.returned (.tuple #[.string (mkB ([45]++(bl s++List.replicate k 48))),.int .i64 0])∧Below w.heap.size w w':=by
 have ml:maxLen=2 ^ 63 - 1:=rfl
 obtain ⟨had,hl1,hl40,hx1,hx2,hdg⟩:=isN_all h
 clear had hdg
 have hB:=hide (box_new w true s (k:Int))
 obtain ⟨R,hR⟩:∃ R,mkB ([45]++(bl s++List.replicate k 48))=R:=⟨_,rfl⟩
 rw [hR]
 have hg1:decide ((s.size:Int)+(k:Int)≤21)=true:=decide_eq_true (by omega)
 obtain ⟨A1,hA1⟩:∃ A1,mkB ([45]++bl s)=A1:=⟨_,rfl⟩
 have hc1:=add_run ⟨#[45]⟩ s A1 (by rw [←hA1,bl_mkB];rfl) (by rw [←hA1,mkB_size,List.length_append,bl_length];simp;omega)
 have hc2:=add_run A1 (mkS (List.replicate k 0)) R (by rw [←hA1,←hR,bl_mkB,bl_mkB,mkS_dby,bl_mkB,dby,List.map_replicate,List.append_assoc];rfl) (by rw [←hR,mkB_size];simp [bl_length];omega)
 clear hA1
 clear hR
 go_enter Tryz.func51, Tryz.ntmps51
 go_wp2_with fail
 refine (ris_any true s _ _ (by omega)).mono ?_
 rw [h]
 rintro e w1 ⟨rfl,hb1⟩
 have hB1:=hide (hB.out.below hb1 (by simp))
 have hlw:=hB1.out.lt
 obtain ⟨c0,c1,c2,f0,f1,f2⟩:=hB1.out.cells
 have hb:=hide (below_alloc hb1)
 clear hb1 hB
 go_wp2_with fail
 go_fit (zeros_any k _ (by omega))
 rintro e w2 ⟨rfl,rfl⟩
 go_wp2
 go_ret2
 exact ⟨rfl,hb.out⟩
set_option maxRecDepth 100000 in
theorem rprint_in_true (s:ByteArray)(bh j:Nat)(hj:s.size=bh+j)(h0:0<bh)(hj0:0<j)(hx21:bh≤21)(w:World)(h:isN true s (-(bh:Int))=true) :
  Calls Tryz.prog 51 #[.agg #[.bool true,.string s,.int .i64 (-(bh:Int))]] w fun e w'=>e=.returned (.tuple #[.string (mkB ([45]++((bl s).take j++46 :: (bl s).drop j))),.int .i64 0])∧Below w.heap.size w w':=by
 have ml:maxLen=2 ^ 63 - 1:=rfl
 obtain ⟨had,hl1,hl40,hx1,hx2,hdg⟩:=isN_all h
 clear had hdg
 have hB:=hide (box_new w true s (-(bh:Int)))
 obtain ⟨R,hR⟩:∃ R,mkB ([45]++((bl s).take j++46 :: (bl s).drop j))=R:=⟨_,rfl⟩
 rw [hR]
 have hg0:decide ((0:Int)≤-(bh:Int))=false:=decide_eq_false (by omega)
 have hsj:=hide hj
 have hbn:(- -(bh:Int))=(bh:Int):=by omega
 have hg1:decide ((bh:Int)≤21)=true:=decide_eq_true (by omega)
 have hg2:decide ((s.size:Int)≤(bh:Int))=false:=decide_eq_false (by omega)
 have hjs:(s.size:Int) + -(bh:Int)=(j:Int):=by omega
 have hjl:(j:Int)≤(s.size:Int):=by omega
 obtain ⟨A1,hA1⟩:∃ A1,mkB ([45]++(bl s).take j)=A1:=⟨_,rfl⟩
 obtain ⟨A2,hA2⟩:∃ A2,mkB ([45]++(bl s).take j++[46])=A2:=⟨_,rfl⟩
 have hc1:=add_run ⟨#[45]⟩ (s.extract 0 j) A1 (by rw [←hA1,bl_mkB,extract_mkB,bl_mkB];simp;rfl) (by rw [←hA1,mkB_size];simp [bl_length];omega)
 have hc2:=add_run A1 ⟨#[46]⟩ A2 (by rw [←hA1,←hA2,bl_mkB,bl_mkB];rfl) (by rw [←hA2,mkB_size];simp [bl_length];omega)
 have hc3:=add_run A2 (s.extract j s.size) R (by rw [←hA2,←hR,bl_mkB,bl_mkB,drop_mkB,bl_mkB];simp) (by rw [←hR,mkB_size];simp [bl_length];omega)
 clear hA1 hA2
 clear hj
 clear hR
 go_enter Tryz.func51, Tryz.ntmps51
 go_wp2_with fail
 refine (ris_any true s _ _ (by omega)).mono ?_
 rw [h]
 rintro e w1 ⟨rfl,hb1⟩
 have hB1:=hide (hB.out.below hb1 (by simp))
 have hlw:=hB1.out.lt
 obtain ⟨c0,c1,c2,f0,f1,f2⟩:=hB1.out.cells
 have hb:=hide (below_alloc hb1)
 clear hb1 hB
 have hwr:IntKind.i64.wrap ((s.size:Int) + -(bh:Int))=(j:Int):=by rw [IntKind.wrap_i64];have:=hsj.out;omega
 have hj0i:(0:Int)≤(j:Int):=by omega
 go_wp2
 all_goals
  go_region
  all_goals
   go_wp2
   go_ret2
   exact ⟨rfl,hb.out.drew⟩
set_option maxRecDepth 100000 in
theorem rprint_le_true (s:ByteArray)(bh y:Nat)(hy:bh=s.size+y)(h0:0<bh)(hx21:bh≤21)(w:World)(h:isN true s (-(bh:Int))=true) :
  Calls Tryz.prog 51 #[.agg #[.bool true,.string s,.int .i64 (-(bh:Int))]] w fun e w'=>e=.returned (.tuple #[.string (mkB ([45]++(48 :: 46 :: (List.replicate y 48++bl s)))),.int .i64 0])∧Below w.heap.size w w':=by
 have ml:maxLen=2 ^ 63 - 1:=rfl
 obtain ⟨had,hl1,hl40,hx1,hx2,hdg⟩:=isN_all h
 clear had hdg
 have hB:=hide (box_new w true s (-(bh:Int)))
 obtain ⟨R,hR⟩:∃ R,mkB ([45]++(48 :: 46 :: (List.replicate y 48++bl s)))=R:=⟨_,rfl⟩
 rw [hR]
 have hg0:decide ((0:Int)≤-(bh:Int))=false:=decide_eq_false (by omega)
 have hsj:=hide hy
 have hbn:(- -(bh:Int))=(bh:Int):=by omega
 have hg1:decide ((bh:Int)≤21)=true:=decide_eq_true (by omega)
 have hg2:decide ((s.size:Int)≤(bh:Int))=true:=decide_eq_true (by omega)
 have hg3:(s.size:Int)≤(bh:Int):=by omega
 obtain ⟨z,hz⟩:∃ z:Nat,y+1=z:=⟨_,rfl⟩
 have hzi:(1:Int)+(bh:Int) - (s.size:Int)=(z:Int):=by omega
 have hz100:z≤100:=by omega
 obtain ⟨D,hD⟩:∃ D,mkB (List.replicate (y+1) 48++bl s)=D:=⟨_,rfl⟩
 have hDs:=hide (show D.size=bh+1 by rw [←hD,mkB_size,List.length_append,List.length_replicate,bl_length];omega)
 have hji:(D.size:Int) + -(bh:Int)=1:=by rw [hDs.out];omega
 have hwr:IntKind.i64.wrap ((D.size:Int) + -(bh:Int))=1:=by rw [hji];rfl
 have h1D:(1:Int)≤(D.size:Int):=by rw [hDs.out];omega
 have hc0:=add_run (mkS (List.replicate z 0)) s D (by rw [←hD,←hz,bl_mkB,mkS_dby,bl_mkB,dby,List.map_replicate];rfl) (by rw [hDs.out];omega)
 obtain ⟨A1,hA1⟩:∃ A1,mkB ([45]++[48])=A1:=⟨_,rfl⟩
 obtain ⟨A2,hA2⟩:∃ A2,mkB ([45]++[48,46])=A2:=⟨_,rfl⟩
 have hc1:=add_run ⟨#[45]⟩ (D.extract 0 1) A1 (by rw [←hA1,bl_mkB,extract_mkB,bl_mkB,←hD,bl_mkB,List.replicate_succ];rfl) (by rw [←hA1,mkB_size];simp)
 have hc2:=add_run A1 ⟨#[46]⟩ A2 (by rw [←hA1,←hA2,bl_mkB,bl_mkB];rfl) (by rw [←hA2,mkB_size];simp)
 have hc3:=add_run A2 (D.extract 1 D.size) R (by rw [←hA2,←hR,bl_mkB,bl_mkB,drop_mkB,bl_mkB,←hD,bl_mkB,List.replicate_succ];rfl) (by rw [←hR,mkB_size];simp [bl_length];omega)
 clear hA1 hA2 hD hy hz
 clear hR
 go_enter Tryz.func51, Tryz.ntmps51
 go_wp2_with fail
 refine (ris_any true s _ _ (by omega)).mono ?_
 rw [h]
 rintro e w1 ⟨rfl,hb1⟩
 have hB1:=hide (hB.out.below hb1 (by simp))
 have hlw:=hB1.out.lt
 obtain ⟨c0,c1,c2,f0,f1,f2⟩:=hB1.out.cells
 have hb:=hide (below_alloc hb1)
 clear hb1 hB
 go_wp2_with fail
 go_fit (zeros_any z _ (by omega))
 rintro e w2 ⟨rfl,rfl⟩
 go_wp2
 all_goals
  go_region
  all_goals
   go_wp2
   go_ret2
   exact ⟨rfl,hb.out.drew⟩
set_option maxRecDepth 100000 in
theorem rprint_upm_true (s:ByteArray)(x:Int)(hs1:1<s.size)(hx0:0≤x)(hx21:21<(s.size:Int)+x)(w:World)(h:isN true s x=true) :
  Calls Tryz.prog 51 #[.agg #[.bool true,.string s,.int .i64 x]] w fun e w'=>e=.returned (.tuple #[.string (mkB ([45]++((bl s).take 1++46 :: (bl s).drop 1++101 :: Lib.itoa (x+s.size - 1)))),.int .i64 0])∧Below w.heap.size w w':=by
 have ml:maxLen=2 ^ 63 - 1:=rfl
 obtain ⟨had,hl1,hl40,hx1,hx2,hdg⟩:=isN_all h
 clear had hdg
 have hB:=hide (box_new w true s x)
 obtain ⟨R,hR⟩:∃ R,mkB ([45]++((bl s).take 1++46 :: (bl s).drop 1++101 :: Lib.itoa (x+s.size - 1)))=R:=⟨_,rfl⟩
 rw [hR]
 have hg0:decide ((0:Int)≤x)=true:=decide_eq_true hx0
 have hg1:decide ((s.size:Int)+x≤21)=false:=decide_eq_false (by omega)
 have hg2:decide (x<0)=false:=decide_eq_false (by omega)
 have hil:=Lib.itoa_length_le (x+s.size - 1) (by omega) (by omega)
 have h1s:(1:Int)≤(s.size:Int):=by omega
 have e1:(bl s).length=s.size:=bl_length s
 have hs1i:(1:Int)<(s.size:Int):=by omega
 obtain ⟨H1,hH1⟩:∃ H1,mkB ((bl s).take 1++[46])=H1:=⟨_,rfl⟩
 obtain ⟨H2,hH2⟩:∃ H2,mkB ((bl s).take 1++46 :: (bl s).drop 1)=H2:=⟨_,rfl⟩
 obtain ⟨A1,hA1⟩:∃ A1,mkB ([45]++((bl s).take 1++46 :: (bl s).drop 1))=A1:=⟨_,rfl⟩
 obtain ⟨A2,hA2⟩:∃ A2,mkB ([45]++((bl s).take 1++46 :: (bl s).drop 1)++[101])=A2:=⟨_,rfl⟩
 have hc1:=add_run (s.extract 0 1) ⟨#[46]⟩ H1 (by rw [←hH1,bl_mkB,extract_mkB,bl_mkB];rfl) (by rw [←hH1,mkB_size];simp;omega)
 have hc2:=add_run H1 (s.extract 1 s.size) H2 (by rw [←hH1,←hH2,bl_mkB,bl_mkB,drop_mkB,bl_mkB];simp) (by rw [←hH2,mkB_size];simp [e1];omega)
 have hc3:=add_run ⟨#[45]⟩ H2 A1 (by rw [←hH2,←hA1,bl_mkB,bl_mkB];rfl) (by rw [←hA1,mkB_size];simp [e1];omega)
 have hc4:=add_run A1 ⟨#[101]⟩ A2 (by rw [←hA1,←hA2,bl_mkB,bl_mkB];rfl) (by rw [←hA2,mkB_size];simp [e1];omega)
 have hc5:=add_run A2 (mkB (Lib.itoa (x+s.size - 1))) R (by rw [←hA2,←hR,bl_mkB,bl_mkB,bl_mkB];simp) (by rw [←hR,mkB_size];simp [e1];omega)
 clear hH1 hH2 hA1 hA2 e1
 clear hR
 go_enter Tryz.func51, Tryz.ntmps51
 go_wp2_with fail
 refine (ris_any true s _ _ (by omega)).mono ?_
 rw [h]
 rintro e w1 ⟨rfl,hb1⟩
 have hB1:=hide (hB.out.below hb1 (by simp))
 have hlw:=hB1.out.lt
 obtain ⟨c0,c1,c2,f0,f1,f2⟩:=hB1.out.cells
 have hb:=hide (below_alloc hb1)
 clear hb1 hB
 go_wp2_with fail
 go_fit (rsmall_itoa (x+s.size - 1) _ (by omega) (by omega))
 rintro e w2 ⟨rfl,rfl⟩
 go_wp2
 go_ret2
 exact ⟨rfl,hb.out⟩
set_option maxRecDepth 100000 in
theorem rprint_upo_true (s:ByteArray)(x:Int)(hs1:s.size=1)(hx0:0≤x)(hx21:21<(s.size:Int)+x)(w:World)(h:isN true s x=true) :
  Calls Tryz.prog 51 #[.agg #[.bool true,.string s,.int .i64 x]] w fun e w'=>e=.returned (.tuple #[.string (mkB ([45]++((bl s).take 1++101 :: Lib.itoa (x+s.size - 1)))),.int .i64 0])∧Below w.heap.size w w':=by
 have ml:maxLen=2 ^ 63 - 1:=rfl
 obtain ⟨had,hl1,hl40,hx1,hx2,hdg⟩:=isN_all h
 clear had hdg
 have hB:=hide (box_new w true s x)
 obtain ⟨R,hR⟩:∃ R,mkB ([45]++((bl s).take 1++101 :: Lib.itoa (x+s.size - 1)))=R:=⟨_,rfl⟩
 rw [hR]
 have hg0:decide ((0:Int)≤x)=true:=decide_eq_true hx0
 have hg1:decide ((s.size:Int)+x≤21)=false:=decide_eq_false (by omega)
 have hg2:decide (x<0)=false:=decide_eq_false (by omega)
 have hil:=Lib.itoa_length_le (x+s.size - 1) (by omega) (by omega)
 have h1s:(1:Int)≤(s.size:Int):=by omega
 have e1:(bl s).length=s.size:=bl_length s
 obtain ⟨A1,hA1⟩:∃ A1,mkB ([45]++(bl s).take 1)=A1:=⟨_,rfl⟩
 obtain ⟨A2,hA2⟩:∃ A2,mkB ([45]++(bl s).take 1++[101])=A2:=⟨_,rfl⟩
 have hc3:=add_run ⟨#[45]⟩ (s.extract 0 1) A1 (by rw [←hA1,extract_mkB,bl_mkB,bl_mkB];rfl) (by rw [←hA1,mkB_size];simp [e1];omega)
 have hc4:=add_run A1 ⟨#[101]⟩ A2 (by rw [←hA1,←hA2,bl_mkB,bl_mkB];rfl) (by rw [←hA2,mkB_size];simp [e1];omega)
 have hc5:=add_run A2 (mkB (Lib.itoa (x+s.size - 1))) R (by rw [←hA2,←hR,bl_mkB,bl_mkB,bl_mkB];simp) (by rw [←hR,mkB_size];simp [e1];omega)
 have hsn:¬ (1:Int)<(s.size:Int):=by omega
 clear hA1 hA2 e1 hs1
 clear hR
 go_enter Tryz.func51, Tryz.ntmps51
 go_wp2_with fail
 refine (ris_any true s _ _ (by omega)).mono ?_
 rw [h]
 rintro e w1 ⟨rfl,hb1⟩
 have hB1:=hide (hB.out.below hb1 (by simp))
 have hlw:=hB1.out.lt
 obtain ⟨c0,c1,c2,f0,f1,f2⟩:=hB1.out.cells
 have hb:=hide (below_alloc hb1)
 clear hb1 hB
 go_wp2_with fail
 go_fit (rsmall_itoa (x+s.size - 1) _ (by omega) (by omega))
 rintro e w2 ⟨rfl,rfl⟩
 go_wp2
 go_ret2
 exact ⟨rfl,hb.out⟩
set_option maxRecDepth 100000 in
theorem rprint_downm_true (s:ByteArray)(x:Int)(hs1:1<s.size)(hx0:x<0)(hx21:x < -21)(w:World)(h:isN true s x=true) :
  Calls Tryz.prog 51 #[.agg #[.bool true,.string s,.int .i64 x]] w fun e w'=>e=.returned (.tuple #[.string (mkB ([45]++((bl s).take 1++46 :: (bl s).drop 1++101 :: Lib.itoa (x+s.size - 1)))),.int .i64 0])∧Below w.heap.size w w':=by
 have ml:maxLen=2 ^ 63 - 1:=rfl
 obtain ⟨had,hl1,hl40,hx1,hx2,hdg⟩:=isN_all h
 clear had hdg
 have hB:=hide (box_new w true s x)
 obtain ⟨R,hR⟩:∃ R,mkB ([45]++((bl s).take 1++46 :: (bl s).drop 1++101 :: Lib.itoa (x+s.size - 1)))=R:=⟨_,rfl⟩
 rw [hR]
 have hg0:decide ((0:Int)≤x)=false:=decide_eq_false (by omega)
 have hg1:decide (x<0)=true:=decide_eq_true hx0
 have hg2:decide (-x≤21)=false:=decide_eq_false (by omega)
 have hil:=Lib.itoa_length_le (x+s.size - 1) (by omega) (by omega)
 have h1s:(1:Int)≤(s.size:Int):=by omega
 have e1:(bl s).length=s.size:=bl_length s
 have hs1i:(1:Int)<(s.size:Int):=by omega
 obtain ⟨H1,hH1⟩:∃ H1,mkB ((bl s).take 1++[46])=H1:=⟨_,rfl⟩
 obtain ⟨H2,hH2⟩:∃ H2,mkB ((bl s).take 1++46 :: (bl s).drop 1)=H2:=⟨_,rfl⟩
 obtain ⟨A1,hA1⟩:∃ A1,mkB ([45]++((bl s).take 1++46 :: (bl s).drop 1))=A1:=⟨_,rfl⟩
 obtain ⟨A2,hA2⟩:∃ A2,mkB ([45]++((bl s).take 1++46 :: (bl s).drop 1)++[101])=A2:=⟨_,rfl⟩
 have hc1:=add_run (s.extract 0 1) ⟨#[46]⟩ H1 (by rw [←hH1,bl_mkB,extract_mkB,bl_mkB];rfl) (by rw [←hH1,mkB_size];simp;omega)
 have hc2:=add_run H1 (s.extract 1 s.size) H2 (by rw [←hH1,←hH2,bl_mkB,bl_mkB,drop_mkB,bl_mkB];simp) (by rw [←hH2,mkB_size];simp [e1];omega)
 have hc3:=add_run ⟨#[45]⟩ H2 A1 (by rw [←hH2,←hA1,bl_mkB,bl_mkB];rfl) (by rw [←hA1,mkB_size];simp [e1];omega)
 have hc4:=add_run A1 ⟨#[101]⟩ A2 (by rw [←hA1,←hA2,bl_mkB,bl_mkB];rfl) (by rw [←hA2,mkB_size];simp [e1];omega)
 have hc5:=add_run A2 (mkB (Lib.itoa (x+s.size - 1))) R (by rw [←hA2,←hR,bl_mkB,bl_mkB,bl_mkB];simp) (by rw [←hR,mkB_size];simp [e1];omega)
 clear hH1 hH2 hA1 hA2 e1
 clear hR
 go_enter Tryz.func51, Tryz.ntmps51
 go_wp2_with fail
 refine (ris_any true s _ _ (by omega)).mono ?_
 rw [h]
 rintro e w1 ⟨rfl,hb1⟩
 have hB1:=hide (hB.out.below hb1 (by simp))
 have hlw:=hB1.out.lt
 obtain ⟨c0,c1,c2,f0,f1,f2⟩:=hB1.out.cells
 have hb:=hide (below_alloc hb1)
 clear hb1 hB
 go_wp2_with fail
 go_fit (rsmall_itoa (x+s.size - 1) _ (by omega) (by omega))
 rintro e w2 ⟨rfl,rfl⟩
 go_wp2
 go_ret2
 exact ⟨rfl,hb.out⟩
set_option maxRecDepth 100000 in
theorem rprint_downo_true (s:ByteArray)(x:Int)(hs1:s.size=1)(hx0:x<0)(hx21:x < -21)(w:World)(h:isN true s x=true) :
  Calls Tryz.prog 51 #[.agg #[.bool true,.string s,.int .i64 x]] w fun e w'=>e=.returned (.tuple #[.string (mkB ([45]++((bl s).take 1++101 :: Lib.itoa (x+s.size - 1)))),.int .i64 0])∧Below w.heap.size w w':=by
 have ml:maxLen=2 ^ 63 - 1:=rfl
 obtain ⟨had,hl1,hl40,hx1,hx2,hdg⟩:=isN_all h
 clear had hdg
 have hB:=hide (box_new w true s x)
 obtain ⟨R,hR⟩:∃ R,mkB ([45]++((bl s).take 1++101 :: Lib.itoa (x+s.size - 1)))=R:=⟨_,rfl⟩
 rw [hR]
 have hg0:decide ((0:Int)≤x)=false:=decide_eq_false (by omega)
 have hg1:decide (x<0)=true:=decide_eq_true hx0
 have hg2:decide (-x≤21)=false:=decide_eq_false (by omega)
 have hil:=Lib.itoa_length_le (x+s.size - 1) (by omega) (by omega)
 have h1s:(1:Int)≤(s.size:Int):=by omega
 have e1:(bl s).length=s.size:=bl_length s
 obtain ⟨A1,hA1⟩:∃ A1,mkB ([45]++(bl s).take 1)=A1:=⟨_,rfl⟩
 obtain ⟨A2,hA2⟩:∃ A2,mkB ([45]++(bl s).take 1++[101])=A2:=⟨_,rfl⟩
 have hc3:=add_run ⟨#[45]⟩ (s.extract 0 1) A1 (by rw [←hA1,extract_mkB,bl_mkB,bl_mkB];rfl) (by rw [←hA1,mkB_size];simp [e1];omega)
 have hc4:=add_run A1 ⟨#[101]⟩ A2 (by rw [←hA1,←hA2,bl_mkB,bl_mkB];rfl) (by rw [←hA2,mkB_size];simp [e1];omega)
 have hc5:=add_run A2 (mkB (Lib.itoa (x+s.size - 1))) R (by rw [←hA2,←hR,bl_mkB,bl_mkB,bl_mkB];simp) (by rw [←hR,mkB_size];simp [e1];omega)
 have hsn:¬ (1:Int)<(s.size:Int):=by omega
 clear hA1 hA2 e1 hs1
 clear hR
 go_enter Tryz.func51, Tryz.ntmps51
 go_wp2_with fail
 refine (ris_any true s _ _ (by omega)).mono ?_
 rw [h]
 rintro e w1 ⟨rfl,hb1⟩
 have hB1:=hide (hB.out.below hb1 (by simp))
 have hlw:=hB1.out.lt
 obtain ⟨c0,c1,c2,f0,f1,f2⟩:=hB1.out.cells
 have hb:=hide (below_alloc hb1)
 clear hb1 hB
 go_wp2_with fail
 go_fit (rsmall_itoa (x+s.size - 1) _ (by omega) (by omega))
 rintro e w2 ⟨rfl,rfl⟩
 go_wp2
 go_ret2
 exact ⟨rfl,hb.out⟩
end Go.Proofs.YthodiandebahdaaGreatDoor
