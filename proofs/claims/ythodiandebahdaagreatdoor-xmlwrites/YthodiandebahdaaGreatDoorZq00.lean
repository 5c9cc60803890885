/- Merged by program: NaPlain, NbCount, NtText, NeArr, OaAppend, WaTree, WbSize. -/
import Derived.Test.YthodiandebahdaaGreatDoorRows
import Derived.WalkSpells
import Derived.WalkLawsBesides
import Derived.Deep.RegionWith
import Derived.Lib.Strings
import Derived.Deep.MidRow
import Derived.Deep.WholeRow
namespace Go.Proofs.YthodiandebahdaaGreatDoor
open Go.RowKit
set_option linter.unusedSimpArgs false
set_option linter.unusedVariables false
set_option maxHeartbeats 8000000
theorem ret_int {k:IntKind} {a b:Int} (h:a=b):Ending.returned (.int k a)=.returned (.int k b):=by rw [h]
theorem hide {p:Prop} (h:p):Hid p:=h
theorem below_alloc {w w1:World} {o:Obj} (h:Below (w.alloc o).heap.size (w.alloc o) w1):Below w.heap.size w w1 :=
 ((Below.refl _ w).alloc (Nat.le_refl _) o).trans (h.mono (by simp))
theorem below_then {w w1 w2:World} (h:Below w.heap.size w w1)(h2:Below w1.heap.size w1 w2):Below w.heap.size w w2:=h.trans (h2.mono h.size)
theorem below_al {w w1:World} {o:Obj} (h:Below w.heap.size w w1):Below w.heap.size w (w1.alloc o):=h.alloc h.size o
theorem bcell {W w1:World} (hb:Below W.heap.size W w1):(∀ b o,b<W.heap.size→w1.cell? ⟨b,o,none⟩=W.cell? ⟨b,o,none⟩)∧(∀ b o,b<W.heap.size→w1.frozen? ⟨b,o,none⟩=W.frozen? ⟨b,o,none⟩) :=
 ⟨fun b o h=>hb.cell (p:=⟨b,o,none⟩) h,fun b o h=>hb.frozen (p:=⟨b,o,none⟩) h⟩
theorem ret_bool {a b:Bool} (h:a=b):Ending.returned (.bool a)=.returned (.bool b):=by rw [h]
def bl (s:ByteArray):List UInt8:=s.data.toList
theorem bl_length (s:ByteArray):(bl s).length=s.size:=by show s.data.toList.length=s.data.size;simp
theorem bl_get (s:ByteArray)(k:Nat)(h:k<s.size):(bl s)[k]'(by rw [bl_length];exact h)=s[k]:=by
 simp [bl];rfl
def isDig (c:UInt8):Bool:=48≤c && c≤57
theorem isDig_iff (c:UInt8):isDig c=true↔48≤(c.toNat:Int)∧(c.toNat:Int)≤57:=by
 simp [isDig,UInt8.le_iff_toNat_le];omega
def cntD (l:List UInt8):Nat:=(l.takeWhile isDig).length
theorem cntD_le (l:List UInt8):cntD l≤l.length:=by
 unfold cntD
 induction l with
 | nil=>simp
 | cons a l ih=>by_cases h:isDig a=true <;> simp [h] <;> omega
theorem takeWhile_of {α:Type} (p:α→Bool):∀ (l:List α)(k:Nat),k≤l.length→(∀ j (h:j<l.length),j<k→p l[j]=true)→(∀ h:k<l.length,p l[k]=false)→(l.takeWhile p).length=k
 | [],k,hk,_,_=>by simp at hk;simp [hk]
 | a :: l,0,_,_,h=>by have:=h (by simp);simp at this;simp [this]
 | a :: l,k+1,hk,h1,h2=>by
  have ha:=h1 0 (by simp) (by omega)
  simp at ha
  simp only [List.takeWhile_cons,ha,if_true,List.length_cons]
  rw [takeWhile_of p l k (by simpa using hk) (fun j h hj=>by have:=h1 (j+1) (by simpa using h) (by omega);simpa using this) (fun h=>by have:=h2 (by simpa using h);simpa using this)]
theorem cntD_of (s:ByteArray)(k:Nat)(hk:k≤s.size)(h1:∀ j (_:j<k)(h:j<s.size),isDig s[j]=true)(h2:∀ h:k<s.size,isDig s[k]=false):cntD (bl s)=k:=by
 refine takeWhile_of isDig (bl s) k (by rw [bl_length];exact hk) (fun j h hj=>?_) (fun h=>?_)
 ·rw [bl_length] at h;rw [bl_get s j h];exact h1 j hj h
 ·rw [bl_length] at h;rw [bl_get s k h];exact h2 h
def allD (l:List UInt8):Bool:=l.all isDig
theorem cntD_all (l:List UInt8):(cntD l=l.length)↔allD l=true:=by
 unfold cntD allD
 induction l with
 | nil=>simp
 | cons a l ih =>
  have hle:=cntD_le l
  unfold cntD at hle
  by_cases h:isDig a=true
  ·simp [h] ;simpa using ih
  ·simp [h]
def isZ (neg:Bool)(s:ByteArray)(x:Int):Bool:=!neg && bl s==[48] && x==0
def isO (l:List UInt8)(x:Int):Bool:=decide (1≤l.length) && decide (l.length≤40) && decide (-400≤x∧x≤400) && allD l && l.head? != some 48 && l.getLast? != some 48
def isN (neg:Bool)(s:ByteArray)(x:Int):Bool:=isZ neg s x || isO (bl s) x
theorem head_bl (s:ByteArray)(h:0<s.size):(bl s).head?=some s[0]:=by
 rw [List.head?_eq_getElem?,List.getElem?_eq_getElem (by rw [bl_length];exact h),bl_get s 0 h]
theorem last_bl (s:ByteArray)(h:0<s.size):(bl s).getLast?=some s[s.size - 1]:=by
 rw [List.getLast?_eq_getElem?,bl_length,List.getElem?_eq_getElem (by rw [bl_length];omega),bl_get s _ (by omega)]
theorem u8_eq (c d:UInt8):(c.toNat:Int)=(d.toNat:Int)↔c=d:=by
 constructor
 ·intro h;exact UInt8.toNat_inj.1 (by omega)
 ·intro h;rw [h]
theorem bl_toList (s:ByteArray):s.toList=bl s:=ByteArray.toList_eq s
theorem bne48 (c:UInt8):((c.toNat:Int) != 48)=(c != 48):=by
 rw [Bool.eq_iff_iff];simp only [bne_iff_ne,ne_eq]
 exact not_congr (u8_eq c 48)
theorem isO_at (s:ByteArray)(x:Int)(h:0<s.size):isO (bl s) x=(decide (s.size≤40) && decide (-400≤x∧x≤400) && allD (bl s) && s[0] != 48 && s[s.size - 1] != 48):=by
 unfold isO
 rw [head_bl s h,last_bl s h,bl_length]
 have:decide (1≤s.size)=true:=decide_eq_true h
 rw [this,Bool.true_and]
 rfl
theorem countDigits_any (s:ByteArray)(w:World)(hs:s.size≤maxLen) :
  Calls Tryz.prog 141 #[.string s] w fun e w'=>e=.returned (.int .i64 (cntD (bl s)))∧w'=w:=by
 unfold maxLen at hs
 go_enter Tryz.func141, Tryz.ntmps141
 go_wp2
 go_loop [3] (fun i=>∃ k:Nat,k≤s.size∧i=.int .i64 k∧∀ j (hj:j<k)(h:j<s.size),isDig s[j]=true) (fun i=>s.size - (intOf i).toNat)
 case atStart=>exact ⟨0,Nat.zero_le _,rfl,by omega⟩
 case round =>
  obtain ⟨k,hk,rfl,hall⟩:=hrel
  by_cases hlt:k<s.size
  ·by_cases hd:isDig s[k]=true
   ·have hd':=(isDig_iff _).1 hd
    have h1:=hd'.1
    have h2:=hd'.2
    have HH:Hid (isDig s[k]=true):=hd
    clear hd hd'
    go_wp2
    go_round
    case rel=>exact ⟨k+1,by omega,by go_num,fun j hj h=>by
     by_cases e:j=k
     ·subst e;exact HH.out
     ·exact hall j (by omega) h⟩
    case measure=>simp [intOf];omega
   ·have HH:Hid (isDig s[k]=false):=(Bool.not_eq_true _).mp hd
    have hd':¬ (48≤(s[k].toNat:Int)∧(s[k].toNat:Int)≤57):=fun h=>hd ((isDig_iff _).2 h)
    clear hd
    go_wp2
    all_goals
     go_ret
     exact ⟨ret_int (by rw [cntD_of s k hk hall (fun _=>HH.out)]),rfl⟩
  ·go_wp2
   go_ret
   exact ⟨ret_int (by rw [cntD_of s k hk hall (fun h=>absurd h hlt)]),rfl⟩
theorem areDigits_any (s:ByteArray)(w:World)(hs:s.size≤maxLen) :
  Calls Tryz.prog 123 #[.string s] w fun e w'=>e=.returned (.bool (allD (bl s)))∧w'=w:=by
 have hc:((cntD (bl s):Int)==(s.size:Int))=allD (bl s):=by
  rw [Bool.eq_iff_iff,←cntD_all,bl_length];simp;omega
 go_enter Tryz.func123, Tryz.ntmps123
 go_wp2_with (go_at_call 141;refine (countDigits_any _ _ hs).mono ?_;rintro e w' ⟨rfl,rfl⟩)
 go_ret
 exact ⟨rfl,rfl⟩
theorem expFits_any (x:Int)(w:World) :
  Calls Tryz.prog 122 #[.int .i64 x] w fun e w'=>e=.returned (.bool (decide (-400≤x∧x≤400)))∧w'=w:=by
 by_cases h:-400≤x
 ·go_enter Tryz.func122, Tryz.ntmps122
  go_wp2
  go_ret
  exact ⟨ret_bool (by simp [h]),rfl⟩
 ·go_enter Tryz.func122, Tryz.ntmps122
  go_wp2
  go_ret
  exact ⟨ret_bool (by simp;omega),rfl⟩
theorem isZero_any (neg:Bool)(s:ByteArray)(x:Int)(w:World) :
  Calls Tryz.prog 98 #[.agg #[.bool neg,.string s,.int .i64 x]] w fun e w'=>e=.returned (.bool (isZ neg s x))∧Below w.heap.size w w':=by
 go_enter Tryz.func98, Tryz.ntmps98
 go_wp2
 all_goals
  go_ret
  refine ⟨ret_bool ?_,(Below.refl _ _).alloc (Nat.le_refl _) _⟩
  simp_all [isZ,bl_toList]
theorem isOther_any (neg:Bool)(s:ByteArray)(x:Int)(w:World)(hs:s.size≤maxLen) :
  Calls Tryz.prog 99 #[.agg #[.bool neg,.string s,.int .i64 x]] w fun e w'=>e=.returned (.bool (isO (bl s) x))∧Below w.heap.size w w':=by
 by_cases h1:s.size<1
 ·go_enter Tryz.func99, Tryz.ntmps99
  go_wp2
  go_ret
  exact ⟨ret_bool (by simp [isO,bl_length];omega),(Below.refl _ _).alloc (Nat.le_refl _) _⟩
 have HO:=hide (isO_at s x (by omega))
 by_cases h2:40<s.size
 ·go_enter Tryz.func99, Tryz.ntmps99
  go_wp2
  go_ret
  exact ⟨ret_bool (by rw [HO.out];simp;omega),(Below.refl _ _).alloc (Nat.le_refl _) _⟩
 by_cases h3:-400≤x∧x≤400
 ·have e3:decide (-400≤x∧x≤400)=true:=decide_eq_true h3
  cases h4:allD (bl s)
  all_goals
   go_enter Tryz.func99, Tryz.ntmps99
   go_wp2_with (first|(go_at_call 122;refine (expFits_any _ _).mono ?_;rintro e w' ⟨rfl,rfl⟩)|(go_at_call 123;refine (areDigits_any _ _ hs).mono ?_;rintro e w' ⟨rfl,rfl⟩))
  all_goals
   go_ret
   refine ⟨ret_bool ?_,(Below.refl _ _).alloc (Nat.le_refl _) _⟩
   have h2':s.size≤40:=by omega
   rw [HO.out,h4,e3]
   simp only [←bne48]
   simp [h2', *]
 ·have e3:decide (-400≤x∧x≤400)=false:=decide_eq_false h3
  go_enter Tryz.func99, Tryz.ntmps99
  go_wp2_with (go_at_call 122;refine (expFits_any _ _).mono ?_;rintro e w' ⟨rfl,rfl⟩)
  go_ret
  exact ⟨ret_bool (by rw [HO.out,e3];simp),(Below.refl _ _).alloc (Nat.le_refl _) _⟩
theorem check_ok (neg:Bool)(s:ByteArray)(x:Int)(w:World)(hs:s.size≤maxLen)(h:isN neg s x=true) :
  Calls Tryz.prog 71 #[.agg #[.bool neg,.string s,.int .i64 x]] w fun e w'=>e=.returned (.int .i64 0)∧Below w.heap.size w w':=by
 cases hz:isZ neg s x
 ·have ho:isO (bl s) x=true:=by simpa [isN,hz] using h
  go_enter Tryz.func71, Tryz.ntmps71
  go_wp2_with fail
  refine (isZero_any neg s x _).mono ?_
  rw [hz]
  rintro e w1 ⟨rfl,hb⟩
  obtain ⟨hc,hf⟩:=bcell hb
  go_wp2_with fail
  refine (isOther_any neg s x _ hs).mono ?_
  rw [ho]
  rintro e w2 ⟨rfl,hb2⟩
  go_wp2
  go_ret
  exact ⟨rfl,below_then (below_alloc hb) hb2⟩
 ·go_enter Tryz.func71, Tryz.ntmps71
  go_wp2_with fail
  refine (isZero_any neg s x _).mono ?_
  rw [hz]
  rintro e w1 ⟨rfl,hb⟩
  go_wp2_with fail
  go_ret
  exact ⟨rfl,below_alloc hb⟩
theorem check_no (neg:Bool)(s:ByteArray)(x:Int)(w:World)(hs:s.size≤maxLen)(h:isN neg s x=false) :
  Calls Tryz.prog 71 #[.agg #[.bool neg,.string s,.int .i64 x]] w fun e w'=>e=.returned (.int .i64 10)∧Below w.heap.size w w':=by
 have hz:isZ neg s x=false:=by simp [isN] at h;exact h.1
 have ho:isO (bl s) x=false:=by simp [isN] at h;exact h.2
 go_enter Tryz.func71, Tryz.ntmps71
 go_wp2_with fail
 refine (isZero_any neg s x _).mono ?_
 rw [hz]
 rintro e w1 ⟨rfl,hb⟩
 obtain ⟨hc,hf⟩:=bcell hb
 go_wp2_with fail
 refine (isOther_any neg s x _ hs).mono ?_
 rw [ho]
 rintro e w2 ⟨rfl,hb2⟩
 go_wp2
 go_ret
 exact ⟨rfl,below_then (below_alloc hb) hb2⟩
def mkB (l:List UInt8):ByteArray:=⟨l.toArray⟩
theorem bl_mkB (l:List UInt8):bl (mkB l)=l:=by simp [bl,mkB]
theorem mkB_size (l:List UInt8):(mkB l).size=l.length:=by rw [←bl_length,bl_mkB]
theorem mkB_bl (s:ByteArray):mkB (bl s)=s:=by cases s;simp [bl,mkB]
theorem mkB_nil (l:List UInt8):(mkB l).toList.isEmpty=l.isEmpty:=by rw [bl_toList,bl_mkB]
theorem extract_mkB (s:ByteArray)(a b:Nat):s.extract a b=mkB (((bl s).drop a).take (b - a)):=Lib.extract_eq s a b
theorem drop_mkB (s:ByteArray)(a:Nat):s.extract a s.size=mkB ((bl s).drop a):=by
 rw [extract_mkB,List.take_of_length_le (by rw [List.length_drop,bl_length];omega)]
def hdB (c:UInt8)(l:List UInt8):Bool:=l.head?==some c
def tlB (c:UInt8)(l:List UInt8):List UInt8:=if hdB c l then l.drop 1 else l
theorem hdB_size (c:UInt8)(s:ByteArray)(h:0<s.size):hdB c (bl s)=(s[0]==c):=by
 unfold hdB;rw [head_bl s h];rfl
theorem tlB_length (c:UInt8)(l:List UInt8):(tlB c l).length≤l.length:=by
 unfold tlB;split <;> simp
theorem take_tw (p:UInt8→Bool)(l:List UInt8):l.take (l.takeWhile p).length=l.takeWhile p:=by
 induction l with
 | nil=>rfl
 | cons a l ih=>by_cases h:p a=true <;> simp [h,ih]
theorem drop_tw (p:UInt8→Bool)(l:List UInt8):l.drop (l.takeWhile p).length=l.dropWhile p:=by
 induction l with
 | nil=>rfl
 | cons a l ih=>by_cases h:p a=true <;> simp [h,ih]
theorem cutByte_any (s:ByteArray)(c:UInt8)(ci:Int)(w:World)(hci:ci=c.toNat)(hs:s.size≤100000) :
  Calls Tryz.prog 189 #[.string s,.int .u8 ci] w fun e w'=>e=.returned (.tuple #[.bool (hdB c (bl s)),.string (mkB (tlB c (bl s)))])∧Below w.heap.size w w':=by
 by_cases h0:s.size=0
 ·have hl:bl s=[]:=List.eq_nil_of_length_eq_zero (by rw [bl_length];exact h0)
  have he:s.toList.isEmpty=true:=by rw [bl_toList,hl];rfl
  have e1:=hide (show hdB c (bl s)=false by rw [hl];rfl)
  have e2:=hide (show mkB (tlB c (bl s))=s by rw [tlB,e1.out];simp [mkB_bl])
  clear hl h0
  go_enter Tryz.func189, Tryz.ntmps189
  go_wp2
  go_ret2
  exact ⟨by rw [e1.out,e2.out];rfl,Below.refl _ _⟩
 ·have he:s.toList.isEmpty=false:=by
   rw [bl_toList];cases hb:bl s with
   | nil=>have:=bl_length s;rw [hb] at this;simp at this;omega
   | cons _ _=>rfl
  have hsz:0<s.size:=by omega
  have hsz':(0:Int)<s.size:=by omega
  have hh:=hide (hdB_size c s hsz)
  cases hc:hdB c (bl s)
  ·have hb:((s[0].toNat:Int) != ci)=true:=by
    rw [hh.out] at hc
    rw [bne_iff_ne,hci];intro e
    have:=UInt8.toNat_inj.1 (by omega:s[0].toNat=c.toNat)
    rw [this] at hc;simp at hc
   have e2:=hide (show mkB (tlB c (bl s))=s by rw [tlB,hc];simp [mkB_bl])
   clear hci h0
   go_enter Tryz.func189, Tryz.ntmps189
   go_wp2
   go_ret2
   exact ⟨by rw [e2.out];rfl,Below.refl _ _⟩
  ·have hb:((s[0].toNat:Int) != ci)=false:=by
    rw [hh.out] at hc
    simp only [beq_iff_eq] at hc
    rw [hc,hci];simp
   have e2:=hide (show mkB (tlB c (bl s))=s.extract 1 s.size by rw [drop_mkB,tlB,hc];rfl)
   have h1:(1:Int)≤s.size:=by omega
   clear hci h0
   go_enter Tryz.func189, Tryz.ntmps189
   go_wp2
   go_region
   all_goals
    go_wp2
    go_ret2
    exact ⟨by rw [e2.out];rfl,(Below.refl _ _).drew⟩
theorem cutDigits_any (s:ByteArray)(w:World)(hs:s.size≤100000) :
  Calls Tryz.prog 190 #[.string s] w fun e w'=>e=.returned (.tuple #[.string (mkB ((bl s).takeWhile isDig)),.string (mkB ((bl s).dropWhile isDig))])∧Below w.heap.size w w':=by
 have ml:maxLen=2 ^ 63 - 1:=rfl
 obtain ⟨k,hk⟩:∃ k,cntD (bl s)=k:=⟨_,rfl⟩
 have hle:k≤s.size:=by rw [←hk,←bl_length];exact cntD_le _
 have e0:(bl s).takeWhile isDig++(bl s).dropWhile isDig=bl s:=List.takeWhile_append_dropWhile
 have hl1:((bl s).takeWhile isDig).length=k:=hk
 have e1:=hide (show mkB ((bl s).takeWhile isDig)=s.extract 0 k by
  rw [extract_mkB,List.drop_zero,Nat.sub_zero]
  congr 1
  rw [←hl1];exact (take_tw isDig (bl s)).symm)
 have e2:=hide (show mkB ((bl s).dropWhile isDig)=s.extract k s.size by
  rw [drop_mkB]
  congr 1
  rw [←hl1];exact (drop_tw isDig (bl s)).symm)
 have hk:=hide hk
 clear e0 hl1
 go_enter Tryz.func190, Tryz.ntmps190
 go_wp2_with (go_at_call 141;refine (countDigits_any _ _ (by omega)).mono ?_;rw [hk.out];rintro e w' ⟨rfl,rfl⟩)
 go_region
 all_goals
  go_wp2
  go_ret2
  exact ⟨by rw [e1.out,e2.out];rfl,(Below.refl _ _).drew⟩
def Arr (w:World)(b:Nat)(T:TypeId)(p:List Nat):Prop:=w.heap[b]?=some (.cells (p.map fun v:Nat=>Value.int .u8 (v:Int)).toArray T (0,0))
theorem Arr.cell {w:World} {b:Nat} {T:TypeId} {p:List Nat} (h:Arr w b T p)(i:Nat)(hi:i<p.length):w.cell? ⟨b,i,none⟩=some (.int .u8 (p[i]:Nat)):=by
 unfold Arr at h
 simp [World.cell?,h,List.getElem?_map,hi]
theorem Arr.frozen {w:World} {b:Nat} {T:TypeId} {p:List Nat} (h:Arr w b T p)(i:Nat):w.frozen? ⟨b,i,none⟩=false:=by
 unfold Arr at h
 simp [World.frozen?,h]
theorem Arr.lt {w:World} {b:Nat} {T:TypeId} {p:List Nat} (h:Arr w b T p):b<w.heap.size:=by
 unfold Arr at h
 by_cases hlt:b<w.heap.size
 ·exact hlt
 ·have hn:w.heap[b]?=none:=by simp;omega
  rw [hn] at h;cases h
theorem Arr.drew {w:World} {b:Nat} {T:TypeId} {p:List Nat} (h:Arr w b T p):Arr w.drew b T p:=h
theorem Arr.set {w:World} {b:Nat} {T:TypeId} {p:List Nat} (h:Arr w b T p)(i:Nat)(v:Nat):Arr (w.setCell ⟨b,i,none⟩ (.int .u8 (v:Int))) b T (p.set i v):=by
 unfold Arr at h ⊢
 simp only [World.setCell,Array.getElem?_modify,if_true,h,Option.map_some]
 simp [List.map_set]
structure Only (b:Nat)(w w':World):Prop where
 os:w'.os=w.os
 tape:w'.tape=w.tape
 output:w'.output=w.output
 size:w'.heap.size=w.heap.size
 block:∀ k,k≠b→w'.heap[k]?=w.heap[k]?
theorem Only.refl (b:Nat)(w:World):Only b w w:=⟨rfl,rfl,rfl,rfl,fun _ _=>rfl⟩
theorem Only.trans {b:Nat} {w w1 w2:World} (h:Only b w w1)(k:Only b w1 w2):Only b w w2 :=
 ⟨k.os.trans h.os,k.tape.trans h.tape,k.output.trans h.output,k.size.trans h.size,fun i hi=>(k.block i hi).trans (h.block i hi)⟩
theorem Only.set {b:Nat} {w w1:World} (h:Only b w w1)(i:Nat)(v:Value):Only b w (w1.setCell ⟨b,i,none⟩ v) :=
 h.trans ⟨rfl,rfl,rfl,by simp,fun k hk=>Below.heap_setCell _ _ _ _ hk⟩
theorem Only.below {b B:Nat} {w w1:World} (h:Only b w w1)(hb:B≤b):Below B w w1 :=
 ⟨h.os,h.tape,h.output,by rw [h.size];exact Nat.le_refl _,fun k hk=>h.block k (by omega)⟩
theorem arr_new (w:World)(T:TypeId)(n:Nat)(c:Array Value)(hc:c=((List.replicate n 0).map fun v:Nat=>Value.int .u8 (v:Int)).toArray):Arr (w.alloc (.cells c T)) w.heap.size T (List.replicate n 0):=by
 unfold Arr
 rw [hc]
 show (w.heap.push _)[w.heap.size]?=_
 simp
def bcs (l:List UInt8):List Value:=l.map fun c=>Value.int .u8 (c.toNat:Int)
theorem bcs_length (l:List UInt8):(bcs l).length=l.length:=by simp [bcs]
theorem bcs_append (a b:List UInt8):bcs (a++b)=bcs a++bcs b:=by simp [bcs]
theorem strCells_bcs (s:ByteArray):Lib.strCells s=bcs (bl s):=rfl
def Own (W:World)(B:Nat)(v:Value)(l:List UInt8):Prop:=W.ownsRow B 5 1 v l.length (bcs l)
theorem own_nil (W:World)(B:Nat):Own W B (.slice none 0 0) []:=World.ownsRow_nil _ _ _ _
theorem Own.alloc {W:World} {B:Nat} {v:Value} {l:List UInt8} (h:Own W B v l)(o:Obj):Own (W.alloc o) B v l:=World.ownsRow.alloc h o
theorem Own.row {W:World} {B:Nat} {v:Value} {l:List UInt8} (h:Own W B v l):∀ k,v.ownBlock=some k→B≤k:=by
 obtain ⟨_,h⟩:=h
 rcases h with ⟨rfl,_⟩|⟨g,cap,cur,rfl,hg,_⟩
 ·intro k hk;cases hk
 ·intro k hk;cases hk;exact hg
theorem info5:(Tryz.prog.info? 5).map (fun i=>(i.zero,i.size,i.bytes))=some (some (.int .u8 0),1,1):=by kernel_rfl
section
variable {w : World} {ops : Array Oper} {rest : List Oper} {o : Oper} {a : Act} {Q : Exit → Act → World → Prop}
theorem app_bytes (hgd:o.guard=none)(s x:Operand)(ho:o.op=.call {callee:=.builtin .append,args:=#[s,x],argTypes:=#[32,32]})
  (B:Nat)(v:Value)(l:List UInt8)(hs:a.eval s=v)(hown:Own w B v l)(ad:Addr)(m c:Nat)(news:List UInt8)(hx:a.eval x=.slice (some ad) m c)(hm:news.length=m)
  (hnews:∀ j u,(bcs news)[j]?=some u→w.cell? (ad.add j)=some u)(hl:l.length+m≤100000)(hB:B≤w.heap.size)
  (h:∀ v' w',Hid (Own w' B v' (l++news))→Hid (Below B w w')→w.heap.size≤w'.heap.size→wpList Tryz.prog ops Q rest (a.put o.dst v') w'):wpList Tryz.prog ops Q (o :: rest) a w:=by
 obtain ⟨i0,hi,hz0,hz1,hz2⟩:=info_parts info5
 refine wpList_append_own w hgd s x 32 ho B 5 i0 (.int .u8 0) 1 1 Tryz.underlying32 hi hz0 hz1 hz2 rfl (by decide) v l.length (bcs l) hs hown ad m c (bcs news) hx (by rw [bcs_length,hm];simp) hnews ?_ ?_ ?_ hB ?_
 ·intro u hu
  simp only [bcs,List.mem_map] at hu
  obtain ⟨c,_,rfl⟩:=hu
  rfl
 ·unfold maxLen;omega
 ·omega
 ·intro v' w' h1 h2 _
  refine h v' w' ?_ ?_ h2.size
  ·show Own _ _ _ _
   unfold Own
   rw [bcs_append,List.length_append,hm];exact h1
  ·exact (Below.refl B w).grown h2 hB hown.row
theorem app_str (hgd:o.guard=none)(sl x:Operand)(ho:o.op=.call {callee:=.builtin .append,args:=#[sl,x],argTypes:=#[32,9]})
  (B:Nat)(v:Value)(l:List UInt8)(hs:a.eval sl=v)(hown:Own w B v l)(s:ByteArray)(hx:a.eval x=.string s)(hl:l.length+s.size≤100000)(hB:B≤w.heap.size)
  (h:∀ v' w',Hid (Own w' B v' (l++bl s))→Hid (Below B w w')→w.heap.size≤w'.heap.size→wpList Tryz.prog ops Q rest (a.put o.dst v') w'):wpList Tryz.prog ops Q (o :: rest) a w:=by
 obtain ⟨i0,hi,hz0,hz1,hz2⟩:=info_parts info5
 refine Lib.wpList_append_own_string w hgd sl x 32 9 ho B 5 i0 Tryz.underlying32 Tryz.underlying9 hi hz0 hz1 hz2 v l.length (bcs l) hs hown s hx (by unfold maxLen;omega) (by omega) hB ?_
 intro v' w' h1 h2 _
 refine h v' w' ?_ ?_ h2.size
 ·show Own _ _ _ _
  unfold Own
  rw [bcs_append,List.length_append,bl_length,←strCells_bcs];exact h1
 ·exact (Below.refl B w).grown h2 hB hown.row
end
theorem news_one (w:World)(c:UInt8)(T:TypeId):∀ j u,(bcs [c])[j]?=some u→(w.alloc (.cells #[.int .u8 (c.toNat:Int)] T)).cell? ((⟨w.heap.size,0,none⟩:Addr).add j)=some u:=cell_one_new _ _ _
theorem appendNoughts_any (B:Nat)(v:Value)(l:List UInt8)(k:Int)(w:World)(hown:Own w B v l)(hB:B≤w.heap.size)(hl:l.length≤1000)(hk:k≤1000) :
  Calls Tryz.prog 72 #[v,.int .i64 k] w fun e w'=>∃ v',e=.returned v'∧Hid (Own w' B v' (l++List.replicate k.toNat 48))∧Hid (Below B w w'):=by
 have hown:=hide hown
 go_enter Tryz.func72, Tryz.ntmps72
 go_wp2
 go_loopw [0,6] (fun b i wr=>∃ j:Nat,j≤k.toNat∧i=.int .i64 j∧Hid (Own wr B b (l++List.replicate j 48))∧Hid (Below B w wr)∧B≤wr.heap.size) (fun _ i _=>k.toNat - (intOf i).toNat)
 case atStart=>exact ⟨0,Nat.zero_le _,rfl,by show Own _ _ _ _;simpa using hown.out,Below.refl _ _,hB⟩
 case round =>
  obtain ⟨j,hj,rfl,ho,hb,hBr⟩:=hrel
  by_cases hlt:(j:Int)<k
  ·have hn:=hide (news_one wr 48 5)
   go_wp2_with (at_builtin;refine app_bytes rfl _ _ rfl B _ (l++List.replicate j 48) rfl (ho.out.alloc _) ⟨wr.heap.size,0,none⟩ 1 1 [48] rfl rfl hn.out (by simp;omega) (by simp;omega) ?_;intro v' w' h1 h2 h3)
   refine ⟨⟨j+1,by omega,by go_num,?_,?_,?_⟩,by simp [intOf];omega⟩
   ·show Own _ _ _ _
    rw [List.replicate_succ',←List.append_assoc];exact h1.out
   ·exact (hb.out.alloc hBr _).trans h2.out
   ·simp at h3;omega
  ·go_wp2
   go_ret
   have e:j=k.toNat:=by omega
   subst e
   exact ⟨_,rfl,ho.out,hb.out⟩
theorem news_two (w:World)(c d:UInt8)(T:TypeId):∀ j u,(bcs [c,d])[j]?=some u→(w.alloc (.cells #[.int .u8 (c.toNat:Int),.int .u8 (d.toNat:Int)] T)).cell? ((⟨w.heap.size,0,none⟩:Addr).add j)=some u:=cell_two_new _ _ _ _
def pointed (l:List UInt8)(bh:Nat):List UInt8 :=
 if l.length≤bh then 48 :: 46 :: (List.replicate (bh - l.length) 48++l) else l.take (l.length - bh)++46 :: l.drop (l.length - bh)
theorem appendPointed_le (B:Nat)(v:Value)(l:List UInt8)(s:ByteArray)(bh:Nat)(w:World)(hown:Own w B v l)(hB:B≤w.heap.size)(hl:l.length≤100)(hs:s.size≤bh)(hbh:bh≤100) :
  Calls Tryz.prog 73 #[v,.string s,.int .i64 bh] w fun e w'=>∃ v',e=.returned v'∧Hid (Own w' B v' (l++pointed (bl s) bh))∧Hid (Below B w w'):=by
 have hown:=hide hown
 have hn:=hide (news_two w 48 46 5)
 have hfin:=hide (show l++pointed (bl s) bh=l++[48,46]++List.replicate (bh - s.size) 48++bl s by
  unfold pointed;rw [bl_length,if_pos hs];simp)
 have hc:((s.size:Int) - (bh:Int)≤0):=by omega
 go_enter Tryz.func73, Tryz.ntmps73
 go_wp2_with (at_builtin;refine app_bytes rfl (.tmp 14) (.tmp 15) rfl B _ l rfl (hown.out.alloc _) ⟨w.heap.size,0,none⟩ 2 2 [48,46] rfl rfl hn.out (by omega) (by simp;omega) ?_;intro v1 w1 h1 h2 h3)
 simp at h3
 go_wp2_with fail
 have hneg:-((s.size:Int) - (bh:Int))=((bh - s.size:Nat):Int):=by omega
 refine (appendNoughts_any B v1 (l++[48,46]) _ w1 h1.out (by omega) (by simp;omega) ?_).mono ?_
 ·omega
 rintro e w2 ⟨v2,rfl,h4,h5⟩
 have h6:B≤w2.heap.size:=by have:=h5.out.size;omega
 have hk:((-((s.size:Int) - (bh:Int))).toNat)=bh - s.size:=by omega
 go_wp2_with (at_builtin;refine app_str rfl (.tmp 21) (.tmp 22) rfl B _ _ rfl h4.out s rfl (by simp;omega) h6 ?_;intro v3 w3 h7 h8 h9)
 go_ret
 refine ⟨_,rfl,?_,?_⟩
 ·show Own _ _ _ _
  rw [hfin.out]
  have:=h7.out
  rw [hk] at this
  exact this
 ·exact (((Below.refl B w).alloc hB _).trans h2.out).trans (h5.out.trans h8.out)
structure Hd where
 kind:Int
 flag:Bool
 neg:Bool
 dig:ByteArray
 exp:Int
 bits:Int
 text:ByteArray
 names:List ByteArray
def VT:Nat→Type
 | 0=>Empty
 | n+1=>Hd×List (VT n)
def vhd:(n:Nat)→VT n→Hd
 | 0,x=>Empty.elim x
 | _+1,x=>x.1
def vals (h:Hd)(ns ls:Value):Array Value:=#[.int .i64 h.kind,.bool h.flag,.bool h.neg,.string h.dig,.int .i64 h.exp,.int .u64 h.bits,.string h.text,ns,ls]
def NL (w:World)(v:Value)(l:List ByteArray):Prop :=
 (v=.slice none 0 0∧l=[])∨∃ (b o c:Nat)(sp:Option Nat),v=.slice (some ⟨b,o,sp⟩) l.length c∧l.length≤c∧c≤maxLen∧(0<l.length→sp=none∧b<w.heap.size)∧∀ i (h:i<l.length),w.cell? ⟨b,o+i,none⟩=some (.string l[i])
def RD:(n:Nat)→World→VT n→Value→Value→Prop
 | 0,_,_,_,_=>False
 | n+1,w,x,ns,ls=>NL w ns x.1.names∧((ls=.slice none 0 0∧x.2=[])∨∃ (b o c:Nat)(sp:Option Nat),ls=.slice (some ⟨b,o,sp⟩) x.2.length c∧x.2.length≤c∧c≤maxLen∧(0<x.2.length→sp=none∧b<w.heap.size) ∧
   ∀ i (h:i<x.2.length),∃ ns' ls',w.rangeAt b (o+i * 9) (vals (vhd n x.2[i]) ns' ls').toList∧RD n w x.2[i] ns' ls')
theorem NL.below {w W:World} {v:Value} {l:List ByteArray} (h:NL w v l)(hb:Below w.heap.size w W):NL W v l:=by
 rcases h with ⟨rfl,rfl⟩|⟨b,o,c,sp,rfl,h1,h2,h3,hc⟩
 ·exact Or.inl ⟨rfl,rfl⟩
 ·refine Or.inr ⟨b,o,c,sp,rfl,h1,h2,fun h=>⟨(h3 h).1,Nat.lt_of_lt_of_le (h3 h).2 hb.size⟩,fun i hi=>?_⟩
  exact (hb.cell (p:=⟨b,o+i,none⟩) (h3 (by omega)).2).trans (hc i hi)
theorem rangeAt_below {w W:World} {b o:Nat} {cs:List Value} (h:w.rangeAt b o cs)(hb:Below w.heap.size w W)(hlt:b<w.heap.size):W.rangeAt b o cs :=
 fun j v hj=>(hb.cell (p:=⟨b,o+j,none⟩) hlt).trans (h j v hj)
theorem RD.below:∀ {n:Nat} {w W:World} {x:VT n} {ns ls:Value},RD n w x ns ls→Below w.heap.size w W→RD n W x ns ls
 | 0,_,_,x,_,_,_,_=>Empty.elim x
 | n+1,w,W,x,ns,ls,h,hb=>by
  obtain ⟨h1,h2⟩:=h
  refine ⟨h1.below hb,?_⟩
  rcases h2 with h2|⟨b,o,c,sp,e,k1,k2,k3,hc⟩
  ·exact Or.inl h2
  ·refine Or.inr ⟨b,o,c,sp,e,k1,k2,fun h=>⟨(k3 h).1,Nat.lt_of_lt_of_le (k3 h).2 hb.size⟩,fun i hi=>?_⟩
   obtain ⟨ns',ls',r1,r2⟩:=hc i hi
   exact ⟨ns',ls',rangeAt_below r1 hb (k3 (by omega)).2,RD.below r2 hb⟩
theorem NL.len {w:World} {v:Value} {l:List ByteArray} (h:NL w v l):∃ a c,v=.slice a l.length c∧l.length≤c∧c≤maxLen:=by
 rcases h with ⟨rfl,rfl⟩|⟨b,o,c,sp,rfl,h1,h2,_⟩
 ·exact ⟨none,0,rfl,Nat.le_refl _,by decide⟩
 ·exact ⟨_,c,rfl,h1,h2⟩
theorem RD.len {n:Nat} {w:World} {x:VT (n+1)} {ns ls:Value} (h:RD (n+1) w x ns ls):∃ a c,ls=.slice a x.2.length c∧x.2.length≤c∧c≤maxLen:=by
 rcases h.2 with ⟨rfl,e⟩|⟨b,o,c,sp,rfl,h1,h2,_⟩
 ·exact ⟨none,0,by rw [e];rfl,by rw [e];exact Nat.le_refl _,by decide⟩
 ·exact ⟨_,c,rfl,h1,h2⟩
theorem RD.at {n:Nat} {w:World} {x:VT (n+1)} {ns ls:Value} (h:RD (n+1) w x ns ls)(i:Nat)(hi:i<x.2.length) :
  ∃ b o c,ls=.slice (some ⟨b,o,none⟩) x.2.length c∧b<w.heap.size∧x.2.length≤c∧c≤maxLen∧∃ ns' ls',w.rangeAt b (o+i * 9) (vals (vhd n x.2[i]) ns' ls').toList∧RD n w x.2[i] ns' ls':=by
 rcases h.2 with ⟨rfl,e⟩|⟨b,o,c,sp,rfl,h1,h2,h3,hc⟩
 ·rw [e] at hi;simp at hi
 ·obtain ⟨rfl,hb⟩:=h3 (by omega)
  exact ⟨b,o,c,rfl,hb,h1,h2,hc i hi⟩
theorem NL.at {w:World} {v:Value} {l:List ByteArray} (h:NL w v l)(i:Nat)(hi:i<l.length) :
  ∃ b o c,v=.slice (some ⟨b,o,none⟩) l.length c∧b<w.heap.size∧l.length≤c∧c≤maxLen∧w.cell? ⟨b,o+i,none⟩=some (.string l[i]):=by
 rcases h with ⟨rfl,rfl⟩|⟨b,o,c,sp,rfl,h1,h2,h3,hc⟩
 ·simp at hi
 ·obtain ⟨rfl,hb⟩:=h3 (by omega)
  exact ⟨b,o,c,rfl,hb,h1,h2,hc i hi⟩
theorem range9 {w:World} {b o:Nat} {h:Hd} {ns ls:Value} (k:w.rangeAt b o (vals h ns ls).toList):w.cell? ⟨b,o,none⟩=some (.int .i64 h.kind)∧w.cell? ⟨b,o+1,none⟩=some (.bool h.flag)∧w.cell? ⟨b,o+2,none⟩=some (.bool h.neg)∧w.cell? ⟨b,o+3,none⟩=some (.string h.dig)∧w.cell? ⟨b,o+4,none⟩=some (.int .i64 h.exp)∧w.cell? ⟨b,o+5,none⟩=some (.int .u64 h.bits)∧w.cell? ⟨b,o+6,none⟩=some (.string h.text)∧w.cell? ⟨b,o+7,none⟩=some ns∧w.cell? ⟨b,o+8,none⟩=some ls :=
 ⟨k 0 _ rfl,k 1 _ rfl,k 2 _ rfl,k 3 _ rfl,k 4 _ rfl,k 5 _ rfl,k 6 _ rfl,k 7 _ rfl,k 8 _ rfl⟩
theorem RD.shape:∀ {n:Nat} {w:World} {x:VT n} {ns ls:Value},RD n w x ns ls→∃ a m c a' m' c',ns=.slice a m c∧ls=.slice a' m' c'
 | 0,_,x,_,_,_=>Empty.elim x
 | n+1,w,x,ns,ls,h=>by
  obtain ⟨a,c,e,_⟩:=h.1.len
  obtain ⟨a',c',e',_⟩:=h.len
  exact ⟨_,_,_,_,_,_,e,e'⟩
structure Bx (W:World)(i:Nat)(h:Hd)(ns ls:Value):Prop where
 at_:W.heap[i]?=some (.cells (vals h ns ls) 29 (0,0))
theorem bx_new (w:World)(h:Hd)(ns ls:Value):Bx (w.alloc (.cells (vals h ns ls) 29)) w.heap.size h ns ls:=⟨heap_alloc_last w _⟩
theorem Bx.lt {W:World} {i:Nat} {h:Hd} {ns ls:Value} (k:Bx W i h ns ls):i<W.heap.size:=by
 have:=k.at_
 by_cases hlt:i<W.heap.size
 ·exact hlt
 ·have hn:W.heap[i]?=none:=by simp;omega
  rw [hn] at this;cases this
theorem Bx.below {W W1:World} {i:Nat} {h:Hd} {ns ls:Value} (k:Bx W i h ns ls)(hb:Below W.heap.size W W1):Bx W1 i h ns ls:=⟨(hb.block _ k.lt).trans k.at_⟩
theorem Bx.cell {W:World} {i:Nat} {h:Hd} {ns ls:Value} (k:Bx W i h ns ls)(j:Nat):W.cell? ⟨i,j,none⟩=(vals h ns ls)[j]?:=by
 unfold World.cell?
 rw [k.at_]
 rfl
theorem Bx.cells {W:World} {i:Nat} {h:Hd} {ns ls:Value} (k:Bx W i h ns ls):W.cell? ⟨i,0,none⟩=some (.int .i64 h.kind)∧W.cell? ⟨i,1,none⟩=some (.bool h.flag)∧W.cell? ⟨i,2,none⟩=some (.bool h.neg)∧W.cell? ⟨i,3,none⟩=some (.string h.dig)∧W.cell? ⟨i,4,none⟩=some (.int .i64 h.exp)∧W.cell? ⟨i,5,none⟩=some (.int .u64 h.bits)∧W.cell? ⟨i,6,none⟩=some (.string h.text)∧W.cell? ⟨i,7,none⟩=some ns∧W.cell? ⟨i,8,none⟩=some ls :=
 ⟨k.cell 0,k.cell 1,k.cell 2,k.cell 3,k.cell 4,k.cell 5,k.cell 6,k.cell 7,k.cell 8⟩
theorem Bx.range {W:World} {i:Nat} {h:Hd} {ns ls:Value} (k:Bx W i h ns ls):W.rangeAt i 0 (vals h ns ls).toList:=by
 intro j v hj
 rw [Nat.zero_add,k.cell j,←hj,Array.getElem?_toList]
def mxl:List Nat→Nat
 | []=>0
 | a :: l=>max a (mxl l)
theorem mxl_app (a b:List Nat):mxl (a++b)=max (mxl a) (mxl b):=by
 induction a with
 | nil=>simp [mxl]
 | cons x a ih=>simp only [List.cons_append,mxl,ih];omega
def suml:List Nat→Nat
 | []=>0
 | a :: l=>a+suml l
theorem suml_app (a b:List Nat):suml (a++b)=suml a+suml b:=by
 induction a with
 | nil=>simp [suml]
 | cons x a ih=>simp only [List.cons_append,suml,ih];omega
theorem mxl_take (l:List Nat)(i:Nat)(h:i<l.length):mxl (l.take (i+1))=max (mxl (l.take i)) l[i]:=by
 rw [List.take_succ_eq_append_getElem h,mxl_app];simp [mxl]
theorem suml_take (l:List Nat)(i:Nat)(h:i<l.length):suml (l.take (i+1))=suml (l.take i)+l[i]:=by
 rw [List.take_succ_eq_append_getElem h,suml_app];simp [suml]
theorem suml_take_le (l:List Nat)(i:Nat):suml (l.take i)≤suml l:=by
 have:=suml_app (l.take i) (l.drop i)
 rw [List.take_append_drop] at this
 omega
theorem mxl_le {l m:List Nat} (h:∀ i (h1:i<l.length)(h2:i<m.length),l[i]≤m[i])(hl:l.length=m.length):mxl l≤suml m:=by
 induction l generalizing m with
 | nil=>exact Nat.zero_le _
 | cons a l ih =>
  cases m with
  | nil=>simp at hl
  | cons b m =>
   have h0:=h 0 (by simp) (by simp)
   have:=ih (m:=m) (fun i h1 h2=>h (i+1) (by simp;omega) (by simp;omega)) (by simpa using hl)
   simp only [List.getElem_cons_zero] at h0
   simp only [mxl,suml];omega
def dep:(n:Nat)→VT n→Nat
 | 0,_=>0
 | n+1,x=>1+mxl (x.2.map (dep n))
def siz:(n:Nat)→VT n→Nat
 | 0,_=>0
 | n+1,x=>1+suml (x.2.map (siz n))
theorem dep_le:∀ (n:Nat)(x:VT n),dep n x≤siz n x
 | 0,x=>Empty.elim x
 | n+1,x=>by
  simp only [dep,siz]
  have:=mxl_le (l:=x.2.map (dep n)) (m:=x.2.map (siz n)) (fun i h1 h2=>by simp only [List.getElem_map];exact dep_le n _) (by simp)
  omega
theorem suml_mem {l:List Nat} {i:Nat} (h:i<l.length):l[i]≤suml l:=by
 have h1:=suml_take l i h
 have h2:=suml_take_le l (i+1)
 omega
theorem siz_mem {n:Nat} {x:VT (n+1)} {i:Nat} (h:i<x.2.length):siz n x.2[i]<siz (n+1) x:=by
 have:=suml_mem (l:=x.2.map (siz n)) (i:=i) (by simpa using h)
 simp only [List.getElem_map] at this
 simp only [siz];omega
set_option maxRecDepth 100000 in
theorem depth_any:∀ (n:Nat)(x:VT n)(ns ls:Value)(w:World),RD n w x ns ls→siz n x≤200000 →
  Calls Tryz.prog 69 #[.agg (vals (vhd n x) ns ls)] w fun e w'=>e=.returned (.int .i64 (dep n x))∧Below w.heap.size w w':=by
 intro n
 induction n with
 | zero=>intro x;exact Empty.elim x
 | succ n ih =>
  intro x ns ls w hr hs
  obtain ⟨h,l⟩:=x
  obtain ⟨al,cl,rfl,hc1,hc2⟩:=hr.len
  have hr:=hide hr
  have ih':=hide ih
  have hs':=hide hs
  clear ih hs
  show Calls _ _ #[.agg #[.int .i64 h.kind,.bool h.flag,.bool h.neg,.string h.dig,.int .i64 h.exp,.int .u64 h.bits,.string h.text,ns,.slice al l.length cl]] _ _
  go_enter Tryz.func69, Tryz.ntmps69
  go_wp2_with fail
  go_loopw [3,9] (fun m i w'=>∃ k:Nat,m=.int .i64 (mxl ((l.map (dep n)).take k):Nat)∧i=.int .i64 k∧k≤l.length∧Hid (Below w.heap.size w w')) (fun _ i _=>l.length - (intOf i).toNat)
  case atStart=>exact ⟨0,rfl,rfl,Nat.zero_le _,below_al (Below.refl _ _)⟩
  case round =>
   obtain ⟨k,rfl,rfl,hk,hb⟩:=hrel
   have ml:maxLen=9223372036854775807:=rfl
   have hk63:(k:Int)≤9223372036854775807:=by omega
   by_cases hkl:k<l.length
   ·obtain ⟨b,o,c,he,hbl,hlc,hcm,ns',ls',hrg,hrd⟩:=hr.out.at k hkl
    have he':=Value.slice.inj he
    obtain ⟨rfl,_,rfl⟩:=he'
    clear he
    have hki:(k:Int)<(l.length:Int):=by omega
    have hk63:(k:Int)<9223372036854775807:=by omega
    obtain ⟨c0,c1,c2,c3,c4,c5,c6,c7,c8⟩:=range9 (rangeAt_below hrg hb.out hbl)
    have hrd':=hide (hrd.below hb.out)
    obtain ⟨a1,m1,d1,a2,m2,d2,rfl,rfl⟩:=hrd.shape
    clear hrg hrd
    have hsk:siz n l[k]≤200000:=by have h1:=siz_mem (x:=(h,l)) hkl;have h2:=hs'.out;simp only at h1;omega
    obtain ⟨D,hD⟩:∃ D,dep n l[k]=D:=⟨_,rfl⟩
    have hmx:=mxl_take (l.map (dep n)) k (by simpa using hkl)
    rw [List.getElem_map,hD] at hmx
    have hcall:=hide (fun o=>ih'.out l[k] (.slice a1 m1 d1) (.slice a2 m2 d2) (wr.alloc o) (hrd'.out.below (below_al (Below.refl _ _))) hsk)
    rw [hD] at hcall
    obtain ⟨M,hM⟩:∃ M,mxl ((l.map (dep n)).take k)=M:=⟨_,rfl⟩
    rw [hM] at hmx ⊢
    have hmx':=hide hmx
    have hD':=hide hD
    have hM':=hide hM
    clear hD hM hsk hmx
    rcases Nat.lt_trichotomy M D with hlt|hlt|hlt
    ·have hdi:(M:Int)<(D:Int):=by omega
     have hdj:¬ ((D:Int)<(M:Int)):=by omega
     go_wp2_with (go_at_call 69;refine (hcall.out _).mono ?_;rintro e w1 ⟨rfl,hb1⟩)
     exact ⟨⟨k+1,by rw [hmx'.out];congr 2;omega,by go_num,by omega,below_then (below_al hb.out) hb1⟩,by simp [intOf];omega⟩
    ·subst hlt
     have hdi:¬ ((M:Int)<(M:Int)):=by omega
     go_wp2_with (go_at_call 69;refine (hcall.out _).mono ?_;rintro e w1 ⟨rfl,hb1⟩)
     exact ⟨⟨k+1,by rw [hmx'.out];congr 2;omega,by go_num,by omega,below_then (below_al hb.out) hb1⟩,by simp [intOf];omega⟩
    ·have hdi:(D:Int)<(M:Int):=by omega
     have hdj:¬ ((M:Int)<(D:Int)):=by omega
     go_wp2_with (go_at_call 69;refine (hcall.out _).mono ?_;rintro e w1 ⟨rfl,hb1⟩)
     exact ⟨⟨k+1,by rw [hmx'.out];congr 2;omega,by go_num,by omega,below_then (below_al hb.out) hb1⟩,by simp [intOf];omega⟩
   ·have hki:¬ ((k:Int)<(l.length:Int)):=by omega
    have hkl2:k=l.length:=by omega
    have hD:dep (n+1) (h,l)=1+mxl ((l.map (dep n)).take k):=by
     simp only [dep]
     rw [List.take_of_length_le (by simp;omega)]
    have hsz:1+mxl ((l.map (dep n)).take k)≤200000:=by
     rw [←hD];exact Nat.le_trans (dep_le _ _) hs'.out
    obtain ⟨M,hM⟩:∃ M,mxl ((l.map (dep n)).take k)=M:=⟨_,rfl⟩
    rw [hM] at hsz hD ⊢
    have hD':=hide hD
    clear hD hM hkl2
    have hM2:(M:Int)<200000:=by omega
    clear hsz
    go_wp2_with fail
    go_ret
    exact ⟨by rw [hD'.out];exact ret_int (by omega),hb.out⟩
set_option maxRecDepth 100000 in
theorem size_any:∀ (n:Nat)(x:VT n)(ns ls:Value)(w:World),RD n w x ns ls→siz n x≤200000 →
  Calls Tryz.prog 70 #[.agg (vals (vhd n x) ns ls)] w fun e w'=>e=.returned (.int .i64 (siz n x))∧Below w.heap.size w w':=by
 intro n
 induction n with
 | zero=>intro x;exact Empty.elim x
 | succ n ih =>
  intro x ns ls w hr hs
  obtain ⟨h,l⟩:=x
  obtain ⟨al,cl,rfl,hc1,hc2⟩:=hr.len
  have hr:=hide hr
  have ih':=hide ih
  have hs':=hide hs
  clear ih hs
  show Calls _ _ #[.agg #[.int .i64 h.kind,.bool h.flag,.bool h.neg,.string h.dig,.int .i64 h.exp,.int .u64 h.bits,.string h.text,ns,.slice al l.length cl]] _ _
  go_enter Tryz.func70, Tryz.ntmps70
  go_wp2_with fail
  go_loopw [3,9] (fun m i w'=>∃ k:Nat,m=.int .i64 (1+suml ((l.map (siz n)).take k):Nat)∧i=.int .i64 k∧k≤l.length∧Hid (Below w.heap.size w w')) (fun _ i _=>l.length - (intOf i).toNat)
  case atStart=>exact ⟨0,rfl,rfl,Nat.zero_le _,below_al (Below.refl _ _)⟩
  case round =>
   obtain ⟨k,rfl,rfl,hk,hb⟩:=hrel
   have ml:maxLen=9223372036854775807:=rfl
   have hk63:(k:Int)≤9223372036854775807:=by omega
   obtain ⟨M,hM⟩:∃ M,1+suml ((l.map (siz n)).take k)=M:=⟨_,rfl⟩
   have hMle:M≤200000:=by
    have h1:=suml_take_le (l.map (siz n)) k
    have h2:=hs'.out
    simp only [siz] at h2
    omega
   by_cases hkl:k<l.length
   ·obtain ⟨b,o,c,he,hbl,hlc,hcm,ns',ls',hrg,hrd⟩:=hr.out.at k hkl
    have he':=Value.slice.inj he
    obtain ⟨rfl,_,rfl⟩:=he'
    clear he
    have hki:(k:Int)<(l.length:Int):=by omega
    have hk63:(k:Int)<9223372036854775807:=by omega
    obtain ⟨c0,c1,c2,c3,c4,c5,c6,c7,c8⟩:=range9 (rangeAt_below hrg hb.out hbl)
    have hrd':=hide (hrd.below hb.out)
    obtain ⟨a1,m1,d1,a2,m2,d2,rfl,rfl⟩:=hrd.shape
    clear hrg hrd
    have hsk:siz n l[k]≤200000:=by have h1:=siz_mem (x:=(h,l)) hkl;have h2:=hs'.out;simp only at h1;omega
    obtain ⟨D,hD⟩:∃ D,siz n l[k]=D:=⟨_,rfl⟩
    have hmx:=suml_take (l.map (siz n)) k (by simpa using hkl)
    rw [List.getElem_map,hD] at hmx
    have hcall:=hide (fun o=>ih'.out l[k] (.slice a1 m1 d1) (.slice a2 m2 d2) (wr.alloc o) (hrd'.out.below (below_al (Below.refl _ _))) hsk)
    rw [hD] at hcall hsk
    have hmx:1+suml ((l.map (siz n)).take (k+1))=M+D:=by omega
    rw [hM]
    have hmx':=hide hmx
    have hD1:(D:Int)≤200000:=by omega
    have hM1:(M:Int)≤200000:=by omega
    clear hD hM hsk hmx hMle
    go_wp2_with (go_at_call 70;refine (hcall.out _).mono ?_;rintro e w1 ⟨rfl,hb1⟩)
    exact ⟨⟨k+1,by rw [hmx'.out];first|rfl|(congr 1),by go_num,by omega,below_then (below_al hb.out) hb1⟩,by simp [intOf];omega⟩
   ·have hki:¬ ((k:Int)<(l.length:Int)):=by omega
    have hD:siz (n+1) (h,l)=M:=by
     rw [←hM]
     simp only [siz]
     rw [List.take_of_length_le (by simp;omega)]
    rw [hM]
    have hD':=hide hD
    clear hD hM hMle
    go_wp2_with fail
    go_ret
    exact ⟨by rw [hD'.out];rfl,hb.out⟩
end Go.Proofs.YthodiandebahdaaGreatDoor
