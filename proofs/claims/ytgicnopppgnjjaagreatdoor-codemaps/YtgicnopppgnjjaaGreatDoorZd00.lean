/- Merged by program: NaPlain, NbCount, NtText, NeArr, NuSplit, NvSplit, NmMath, NxLay, NfTrim, NhForm. -/
import Derived.WalkKit
import Derived.Test.YtgicnopppgnjjaaGreatDoorRows
import Derived.WalkSpells
import Derived.WalkLawsBesides
import Derived.Deep.RegionWith
import Derived.Outline
import Derived.Lib.Strings
set_option linter.unusedSimpArgs false
set_option linter.unusedVariables false
namespace Go.Proofs.YtgicnopppgnjjaaGreatDoor
open Go.RowKit
theorem ret_int {k:IntKind} {a b:Int} (h:a=b):Ending.returned (.int k a)=.returned (.int k b):=by rw [h]
theorem hide {p:Prop} (h:p):Hid p:=h
theorem below_alloc {w w1:World} {o:Obj} (h:Below (w.alloc o).heap.size (w.alloc o) w1):Below w.heap.size w w1 :=
 ((Below.refl _ w).alloc (Nat.le_refl _) o).trans (h.mono (by simp))
theorem below_then {w w1 w2:World} (h:Below w.heap.size w w1) (h2:Below w1.heap.size w1 w2):Below w.heap.size w w2:=h.trans (h2.mono h.size)
theorem below_al {w w1:World} {o:Obj} (h:Below w.heap.size w w1):Below w.heap.size w (w1.alloc o):=h.alloc h.size o
theorem bcell {W w1:World} (hb:Below W.heap.size W w1):(∀ b o,b<W.heap.size→w1.cell? ⟨b,o,none⟩=W.cell? ⟨b,o,none⟩)∧(∀ b o,b<W.heap.size→w1.frozen? ⟨b,o,none⟩=W.frozen? ⟨b,o,none⟩) :=
 ⟨fun b o h=>hb.cell (p:=⟨b,o,none⟩) h,fun b o h=>hb.frozen (p:=⟨b,o,none⟩) h⟩
theorem ret_bool {a b:Bool} (h:a=b):Ending.returned (.bool a)=.returned (.bool b):=by rw [h]
def bl (s:ByteArray):List UInt8:=s.data.toList
theorem bl_length (s:ByteArray):(bl s).length=s.size:=by show s.data.toList.length=s.data.size;simp
theorem bl_get (s:ByteArray) (k:Nat) (h:k<s.size):(bl s)[k]'(by rw [bl_length];exact h)=s[k]:=by
 simp [bl];rfl
def isDig (c:UInt8):Bool:=48≤c && c≤57
theorem isDig_iff (c:UInt8):isDig c=true↔48≤(c.toNat:Int)∧(c.toNat:Int)≤57:=by
 simp [isDig,UInt8.le_iff_toNat_le];omega
def cntD (l:List UInt8):Nat:=(l.takeWhile isDig).length
theorem cntD_le (l:List UInt8):cntD l≤l.length:=by
 unfold cntD
 induction l with
 | nil=>simp
 | cons a l ih=>by_cases h:isDig a=true <;> simp [h] <;> omega
theorem takeWhile_of {α:Type} (p:α→Bool):∀ (l:List α) (k:Nat),k≤l.length→(∀ j (h:j<l.length),j<k→p l[j]=true)→(∀ h:k<l.length,p l[k]=false)→(l.takeWhile p).length=k
 | [],k,hk,_,_=>by simp at hk;simp [hk]
 | a :: l,0,_,_,h=>by have:=h (by simp);simp at this;simp [this]
 | a :: l,k + 1,hk,h1,h2=>by
  have ha:=h1 0 (by simp) (by omega)
  simp at ha
  simp only [List.takeWhile_cons,ha,if_true,List.length_cons]
  rw [takeWhile_of p l k (by simpa using hk) (fun j h hj=>by have:=h1 (j + 1) (by simpa using h) (by omega);simpa using this) (fun h=>by have:=h2 (by simpa using h);simpa using this)]
theorem cntD_of (s:ByteArray) (k:Nat) (hk:k≤s.size) (h1:∀ j (_:j<k) (h:j<s.size),isDig s[j]=true) (h2:∀ h:k<s.size,isDig s[k]=false):cntD (bl s)=k:=by
 refine takeWhile_of isDig (bl s) k (by rw [bl_length];exact hk) (fun j h hj=>?_) (fun h=>?_)
 ·rw [bl_length] at h;rw [bl_get s j h];exact h1 j hj h
 ·rw [bl_length] at h;rw [bl_get s k h];exact h2 h
def allD (l:List UInt8):Bool:=l.all isDig
theorem cntD_all (l:List UInt8):(cntD l=l.length)↔allD l=true:=by
 unfold cntD allD
 induction l with
 | nil=>simp
 | cons a l ih =>
  have hle:=cntD_le l
  unfold cntD at hle
  by_cases h:isDig a=true
  ·simp [h] ;simpa using ih
  ·simp [h]
def isZ (neg:Bool) (s:ByteArray) (x:Int):Bool:=!neg && bl s==[48] && x==0
def isO (l:List UInt8) (x:Int):Bool:=decide (1≤l.length) && decide (l.length≤40) && decide (-400≤x∧x≤400) && allD l && l.head? != some 48 && l.getLast? != some 48
def isN (neg:Bool) (s:ByteArray) (x:Int):Bool:=isZ neg s x || isO (bl s) x
theorem head_bl (s:ByteArray) (h:0<s.size):(bl s).head?=some s[0]:=by
 rw [List.head?_eq_getElem?,List.getElem?_eq_getElem (by rw [bl_length];exact h),bl_get s 0 h]
theorem last_bl (s:ByteArray) (h:0<s.size):(bl s).getLast?=some s[s.size - 1]:=by
 rw [List.getLast?_eq_getElem?,bl_length,List.getElem?_eq_getElem (by rw [bl_length];omega),bl_get s _ (by omega)]
theorem u8_eq (c d:UInt8):(c.toNat:Int)=(d.toNat:Int)↔c=d:=by
 constructor
 ·intro h;exact UInt8.toNat_inj.1 (by omega)
 ·intro h;rw [h]
theorem bl_toList (s:ByteArray):s.toList=bl s:=ByteArray.toList_eq s
theorem bne48 (c:UInt8):((c.toNat:Int) != 48)=(c != 48):=by
 rw [Bool.eq_iff_iff];simp only [bne_iff_ne,ne_eq]
 exact not_congr (u8_eq c 48)
theorem isO_at (s:ByteArray) (x:Int) (h:0<s.size):isO (bl s) x=(decide (s.size≤40) && decide (-400≤x∧x≤400) && allD (bl s) && s[0] != 48 && s[s.size - 1] != 48):=by
 unfold isO
 rw [head_bl s h,last_bl s h,bl_length]
 have:decide (1≤s.size)=true:=decide_eq_true h
 rw [this,Bool.true_and]
 rfl
end Go.Proofs.YtgicnopppgnjjaaGreatDoor
namespace Go.Proofs.YtgicnopppgnjjaaGreatDoor
open Go.RowKit
set_option maxHeartbeats 400000 in
theorem countDigits_any (s:ByteArray) (w:World) (hs:s.size≤maxLen) :
  Calls Tryz.prog 241 #[.string s] w fun e w'=>e=.returned (.int .i64 (cntD (bl s)))∧w'=w:=by
 unfold maxLen at hs
 go_enter Tryz.func241, Tryz.ntmps241
 go_wp2
 go_loop [3] (fun i=>∃ k:Nat,k≤s.size∧i=.int .i64 k∧∀ j (hj:j<k) (h:j<s.size),isDig s[j]=true) (fun i=>s.size - (intOf i).toNat)
 case atStart=>exact ⟨0,Nat.zero_le _,rfl,by omega⟩
 case round =>
  obtain ⟨k,hk,rfl,hall⟩:=hrel
  by_cases hlt:k<s.size
  ·by_cases hd:isDig s[k]=true
   ·have hd':=(isDig_iff _).1 hd
    have h1:=hd'.1
    have h2:=hd'.2
    have HH:Hid (isDig s[k]=true):=hd
    clear hd hd'
    go_wp2
    go_round
    case rel=>exact ⟨k + 1,by omega,by go_num,fun j hj h=>by
     by_cases e:j=k
     ·subst e;exact HH.out
     ·exact hall j (by omega) h⟩
    case measure=>simp [intOf];omega
   ·have HH:Hid (isDig s[k]=false):=(Bool.not_eq_true _).mp hd
    have hd':¬ (48≤(s[k].toNat:Int)∧(s[k].toNat:Int)≤57):=fun h=>hd ((isDig_iff _).2 h)
    clear hd
    go_wp2
    all_goals
     go_ret
     exact ⟨ret_int (by rw [cntD_of s k hk hall (fun _=>HH.out)]),rfl⟩
  ·go_wp2
   go_ret
   exact ⟨ret_int (by rw [cntD_of s k hk hall (fun h=>absurd h hlt)]),rfl⟩
theorem areDigits_any (s:ByteArray) (w:World) (hs:s.size≤maxLen) :
  Calls Tryz.prog 242 #[.string s] w fun e w'=>e=.returned (.bool (allD (bl s)))∧w'=w:=by
 have hc:((cntD (bl s):Int)==(s.size:Int))=allD (bl s):=by
  rw [Bool.eq_iff_iff,←cntD_all,bl_length];simp;omega
 go_enter Tryz.func242, Tryz.ntmps242
 go_wp2_with (go_at_call 241;refine (countDigits_any _ _ hs).mono ?_;rintro e w' ⟨rfl,rfl⟩)
 go_ret
 exact ⟨rfl,rfl⟩
theorem expFits_any (x:Int) (w:World) :
  Calls Tryz.prog 224 #[.int .i64 x] w fun e w'=>e=.returned (.bool (decide (-400≤x∧x≤400)))∧w'=w:=by
 by_cases h:-400≤x
 ·go_enter Tryz.func224, Tryz.ntmps224
  go_wp2
  go_ret
  exact ⟨ret_bool (by simp [h]),rfl⟩
 ·go_enter Tryz.func224, Tryz.ntmps224
  go_wp2
  go_ret
  exact ⟨ret_bool (by simp;omega),rfl⟩
theorem isZero_any (neg:Bool) (s:ByteArray) (x:Int) (w:World) :
  Calls Tryz.prog 232 #[.agg #[.bool neg,.string s,.int .i64 x]] w fun e w'=>e=.returned (.bool (isZ neg s x))∧Below w.heap.size w w':=by
 go_enter Tryz.func232, Tryz.ntmps232
 go_wp2
 all_goals
  go_ret
  refine ⟨ret_bool ?_,(Below.refl _ _).alloc (Nat.le_refl _) _⟩
  simp_all [isZ,bl_toList]
set_option maxHeartbeats 1000000 in
theorem isOther_any (neg:Bool) (s:ByteArray) (x:Int) (w:World) (hs:s.size≤maxLen) :
  Calls Tryz.prog 233 #[.agg #[.bool neg,.string s,.int .i64 x]] w fun e w'=>e=.returned (.bool (isO (bl s) x))∧Below w.heap.size w w':=by
 by_cases h1:s.size<1
 ·go_enter Tryz.func233, Tryz.ntmps233
  go_wp2
  go_ret
  exact ⟨ret_bool (by simp [isO,bl_length];omega),(Below.refl _ _).alloc (Nat.le_refl _) _⟩
 have HO:=hide (isO_at s x (by omega))
 by_cases h2:40<s.size
 ·go_enter Tryz.func233, Tryz.ntmps233
  go_wp2
  go_ret
  exact ⟨ret_bool (by rw [HO.out];simp;omega),(Below.refl _ _).alloc (Nat.le_refl _) _⟩
 by_cases h3:-400≤x∧x≤400
 ·have e3:decide (-400≤x∧x≤400)=true:=decide_eq_true h3
  cases h4:allD (bl s)
  all_goals
   go_enter Tryz.func233, Tryz.ntmps233
   go_wp2_with (first|(go_at_call 224;refine (expFits_any _ _).mono ?_;rintro e w' ⟨rfl,rfl⟩)|(go_at_call 242;refine (areDigits_any _ _ hs).mono ?_;rintro e w' ⟨rfl,rfl⟩))
  all_goals
   go_ret
   refine ⟨ret_bool ?_,(Below.refl _ _).alloc (Nat.le_refl _) _⟩
   have h2':s.size≤40:=by omega
   rw [HO.out,h4,e3]
   simp only [←bne48]
   simp [h2', *]
 ·have e3:decide (-400≤x∧x≤400)=false:=decide_eq_false h3
  go_enter Tryz.func233, Tryz.ntmps233
  go_wp2_with (go_at_call 224;refine (expFits_any _ _).mono ?_;rintro e w' ⟨rfl,rfl⟩)
  go_ret
  exact ⟨ret_bool (by rw [HO.out,e3];simp),(Below.refl _ _).alloc (Nat.le_refl _) _⟩
set_option maxHeartbeats 1000000 in
theorem check_ok (neg:Bool) (s:ByteArray) (x:Int) (w:World) (hs:s.size≤maxLen) (h:isN neg s x=true) :
  Calls Tryz.prog 208 #[.agg #[.bool neg,.string s,.int .i64 x]] w fun e w'=>e=.returned (.int .i64 0)∧Below w.heap.size w w':=by
 cases hz:isZ neg s x
 ·have ho:isO (bl s) x=true:=by simpa [isN,hz] using h
  go_enter Tryz.func208, Tryz.ntmps208
  go_wp2_with fail
  refine (isZero_any neg s x _).mono ?_
  rw [hz]
  rintro e w1 ⟨rfl,hb⟩
  obtain ⟨hc,hf⟩:=bcell hb
  go_wp2_with fail
  refine (isOther_any neg s x _ hs).mono ?_
  rw [ho]
  rintro e w2 ⟨rfl,hb2⟩
  go_wp2
  go_ret
  exact ⟨rfl,below_then (below_alloc hb) hb2⟩
 ·go_enter Tryz.func208, Tryz.ntmps208
  go_wp2_with fail
  refine (isZero_any neg s x _).mono ?_
  rw [hz]
  rintro e w1 ⟨rfl,hb⟩
  go_wp2_with fail
  go_ret
  exact ⟨rfl,below_alloc hb⟩
set_option maxHeartbeats 1000000 in
theorem check_no (neg:Bool) (s:ByteArray) (x:Int) (w:World) (hs:s.size≤maxLen) (h:isN neg s x=false) :
  Calls Tryz.prog 208 #[.agg #[.bool neg,.string s,.int .i64 x]] w fun e w'=>e=.returned (.int .i64 10)∧Below w.heap.size w w':=by
 have hz:isZ neg s x=false:=by simp [isN] at h;exact h.1
 have ho:isO (bl s) x=false:=by simp [isN] at h;exact h.2
 go_enter Tryz.func208, Tryz.ntmps208
 go_wp2_with fail
 refine (isZero_any neg s x _).mono ?_
 rw [hz]
 rintro e w1 ⟨rfl,hb⟩
 obtain ⟨hc,hf⟩:=bcell hb
 go_wp2_with fail
 refine (isOther_any neg s x _ hs).mono ?_
 rw [ho]
 rintro e w2 ⟨rfl,hb2⟩
 go_wp2
 go_ret
 exact ⟨rfl,below_then (below_alloc hb) hb2⟩
end Go.Proofs.YtgicnopppgnjjaaGreatDoor
namespace Go.Proofs.YtgicnopppgnjjaaGreatDoor
open Go.RowKit
def mkB (l:List UInt8):ByteArray:=⟨l.toArray⟩
theorem bl_mkB (l:List UInt8):bl (mkB l)=l:=by simp [bl,mkB]
theorem mkB_size (l:List UInt8):(mkB l).size=l.length:=by rw [←bl_length,bl_mkB]
theorem mkB_bl (s:ByteArray):mkB (bl s)=s:=by cases s;simp [bl,mkB]
theorem mkB_nil (l:List UInt8):(mkB l).toList.isEmpty=l.isEmpty:=by rw [bl_toList,bl_mkB]
theorem extract_mkB (s:ByteArray) (a b:Nat):s.extract a b=mkB (((bl s).drop a).take (b - a)):=Lib.extract_eq s a b
theorem drop_mkB (s:ByteArray) (a:Nat):s.extract a s.size=mkB ((bl s).drop a):=by
 rw [extract_mkB,List.take_of_length_le (by rw [List.length_drop,bl_length];omega)]
def hdB (c:UInt8) (l:List UInt8):Bool:=l.head?==some c
def tlB (c:UInt8) (l:List UInt8):List UInt8:=if hdB c l then l.drop 1 else l
theorem hdB_size (c:UInt8) (s:ByteArray) (h:0<s.size):hdB c (bl s)=(s[0]==c):=by
 unfold hdB;rw [head_bl s h];rfl
theorem tlB_length (c:UInt8) (l:List UInt8):(tlB c l).length≤l.length:=by
 unfold tlB;split <;> simp
theorem take_tw (p:UInt8→Bool) (l:List UInt8):l.take (l.takeWhile p).length=l.takeWhile p:=by
 induction l with
 | nil=>rfl
 | cons a l ih=>by_cases h:p a=true <;> simp [h,ih]
theorem drop_tw (p:UInt8→Bool) (l:List UInt8):l.drop (l.takeWhile p).length=l.dropWhile p:=by
 induction l with
 | nil=>rfl
 | cons a l ih=>by_cases h:p a=true <;> simp [h,ih]
theorem cutByte_any (s:ByteArray) (c:UInt8) (ci:Int) (w:World) (hci:ci=c.toNat) (hs:s.size≤100000) :
  Calls Tryz.prog 220 #[.string s,.int .u8 ci] w fun e w'=>e=.returned (.tuple #[.bool (hdB c (bl s)),.string (mkB (tlB c (bl s)))])∧Below w.heap.size w w':=by
 by_cases h0:s.size=0
 ·have hl:bl s=[]:=List.eq_nil_of_length_eq_zero (by rw [bl_length];exact h0)
  have he:s.toList.isEmpty=true:=by rw [bl_toList,hl];rfl
  have e1:=hide (show hdB c (bl s)=false by rw [hl];rfl)
  have e2:=hide (show mkB (tlB c (bl s))=s by rw [tlB,e1.out];simp [mkB_bl])
  clear hl h0
  go_enter Tryz.func220, Tryz.ntmps220
  go_wp2
  go_ret2
  exact ⟨by rw [e1.out,e2.out];rfl,Below.refl _ _⟩
 ·have he:s.toList.isEmpty=false:=by
   rw [bl_toList];cases hb:bl s with
   | nil=>have:=bl_length s;rw [hb] at this;simp at this;omega
   | cons _ _=>rfl
  have hsz:0<s.size:=by omega
  have hsz':(0:Int)<s.size:=by omega
  have hh:=hide (hdB_size c s hsz)
  cases hc:hdB c (bl s)
  ·have hb:((s[0].toNat:Int) != ci)=true:=by
    rw [hh.out] at hc
    rw [bne_iff_ne,hci];intro e
    have:=UInt8.toNat_inj.1 (by omega:s[0].toNat=c.toNat)
    rw [this] at hc;simp at hc
   have e2:=hide (show mkB (tlB c (bl s))=s by rw [tlB,hc];simp [mkB_bl])
   clear hci h0
   go_enter Tryz.func220, Tryz.ntmps220
   go_wp2
   go_ret2
   exact ⟨by rw [e2.out];rfl,Below.refl _ _⟩
  ·have hb:((s[0].toNat:Int) != ci)=false:=by
    rw [hh.out] at hc
    simp only [beq_iff_eq] at hc
    rw [hc,hci];simp
   have e2:=hide (show mkB (tlB c (bl s))=s.extract 1 s.size by rw [drop_mkB,tlB,hc];rfl)
   have h1:(1:Int)≤s.size:=by omega
   clear hci h0
   go_enter Tryz.func220, Tryz.ntmps220
   go_wp2
   go_region
   all_goals
    go_wp2
    go_ret2
    exact ⟨by rw [e2.out];rfl,(Below.refl _ _).drew⟩
theorem cutDigits_any (s:ByteArray) (w:World) (hs:s.size≤100000) :
  Calls Tryz.prog 221 #[.string s] w fun e w'=>e=.returned (.tuple #[.string (mkB ((bl s).takeWhile isDig)),.string (mkB ((bl s).dropWhile isDig))])∧Below w.heap.size w w':=by
 have ml:maxLen=2 ^ 63 - 1:=rfl
 obtain ⟨k,hk⟩:∃ k,cntD (bl s)=k:=⟨_,rfl⟩
 have hle:k≤s.size:=by rw [←hk,←bl_length];exact cntD_le _
 have e0:(bl s).takeWhile isDig++(bl s).dropWhile isDig=bl s:=List.takeWhile_append_dropWhile
 have hl1:((bl s).takeWhile isDig).length=k:=hk
 have e1:=hide (show mkB ((bl s).takeWhile isDig)=s.extract 0 k by
  rw [extract_mkB,List.drop_zero,Nat.sub_zero]
  congr 1
  rw [←hl1];exact (take_tw isDig (bl s)).symm)
 have e2:=hide (show mkB ((bl s).dropWhile isDig)=s.extract k s.size by
  rw [drop_mkB]
  congr 1
  rw [←hl1];exact (drop_tw isDig (bl s)).symm)
 have hk:=hide hk
 clear e0 hl1
 go_enter Tryz.func221, Tryz.ntmps221
 go_wp2_with (go_at_call 241;refine (countDigits_any _ _ (by omega)).mono ?_;rw [hk.out];rintro e w' ⟨rfl,rfl⟩)
 go_region
 all_goals
  go_wp2
  go_ret2
  exact ⟨by rw [e1.out,e2.out];rfl,(Below.refl _ _).drew⟩
end Go.Proofs.YtgicnopppgnjjaaGreatDoor
namespace Go.Proofs.YtgicnopppgnjjaaGreatDoor
open Go.RowKit
def Arr (w:World) (b:Nat) (T:TypeId) (p:List Nat):Prop:=w.heap[b]?=some (.cells (p.map fun v:Nat=>Value.int .u8 (v:Int)).toArray T (0,0))
theorem Arr.cell {w:World} {b:Nat} {T:TypeId} {p:List Nat} (h:Arr w b T p) (i:Nat) (hi:i<p.length):w.cell? ⟨b,i,none⟩=some (.int .u8 (p[i]:Nat)):=by
 unfold Arr at h
 simp [World.cell?,h,List.getElem?_map,hi]
theorem Arr.frozen {w:World} {b:Nat} {T:TypeId} {p:List Nat} (h:Arr w b T p) (i:Nat):w.frozen? ⟨b,i,none⟩=false:=by
 unfold Arr at h
 simp [World.frozen?,h]
theorem Arr.lt {w:World} {b:Nat} {T:TypeId} {p:List Nat} (h:Arr w b T p):b<w.heap.size:=by
 unfold Arr at h
 by_cases hlt:b<w.heap.size
 ·exact hlt
 ·have hn:w.heap[b]?=none:=by simp;omega
  rw [hn] at h;cases h
theorem Arr.drew {w:World} {b:Nat} {T:TypeId} {p:List Nat} (h:Arr w b T p):Arr w.drew b T p:=h
theorem Arr.set {w:World} {b:Nat} {T:TypeId} {p:List Nat} (h:Arr w b T p) (i:Nat) (v:Nat):Arr (w.setCell ⟨b,i,none⟩ (.int .u8 (v:Int))) b T (p.set i v):=by
 unfold Arr at h ⊢
 simp only [World.setCell,Array.getElem?_modify,if_true,h,Option.map_some]
 simp [List.map_set]
structure Only (b:Nat) (w w':World):Prop where
 os:w'.os=w.os
 tape:w'.tape=w.tape
 output:w'.output=w.output
 size:w'.heap.size=w.heap.size
 block:∀ k,k≠b→w'.heap[k]?=w.heap[k]?
theorem Only.refl (b:Nat) (w:World):Only b w w:=⟨rfl,rfl,rfl,rfl,fun _ _=>rfl⟩
theorem Only.trans {b:Nat} {w w1 w2:World} (h:Only b w w1) (k:Only b w1 w2):Only b w w2 :=
 ⟨k.os.trans h.os,k.tape.trans h.tape,k.output.trans h.output,k.size.trans h.size,fun i hi=>(k.block i hi).trans (h.block i hi)⟩
theorem Only.set {b:Nat} {w w1:World} (h:Only b w w1) (i:Nat) (v:Value):Only b w (w1.setCell ⟨b,i,none⟩ v) :=
 h.trans ⟨rfl,rfl,rfl,by simp,fun k hk=>Below.heap_setCell _ _ _ _ hk⟩
theorem Only.below {b B:Nat} {w w1:World} (h:Only b w w1) (hb:B≤b):Below B w w1 :=
 ⟨h.os,h.tape,h.output,by rw [h.size];exact Nat.le_refl _,fun k hk=>h.block k (by omega)⟩
theorem arr_new (w:World) (T:TypeId) (n:Nat) (c:Array Value) (hc:c=((List.replicate n 0).map fun v:Nat=>Value.int .u8 (v:Int)).toArray):Arr (w.alloc (.cells c T)) w.heap.size T (List.replicate n 0):=by
 unfold Arr
 rw [hc]
 show (w.heap.push _)[w.heap.size]?=_
 simp
end Go.Proofs.YtgicnopppgnjjaaGreatDoor
namespace Go.Proofs.YtgicnopppgnjjaaGreatDoor
open Go.RowKit
def PBox (W:World) (i:Nat) (n:Bool) (wh fr:ByteArray) (pn:Bool) (pw:ByteArray):Prop:=W.heap[i]?=some (.cells #[.bool n,.string wh,.string fr,.bool pn,.string pw] 194 (0,0))
section
variable {W W1 : World} {i j o B b : Nat} {n n' pn pn' : Bool} {wh wh' fr fr' pw pw' : ByteArray} {v : Value}
theorem PBox.cells (h:PBox W i n wh fr pn pw) :
  W.cell? ⟨i,0,none⟩=some (.bool n)∧W.cell? ⟨i,1,none⟩=some (.string wh)∧W.cell? ⟨i,2,none⟩=some (.string fr)∧W.cell? ⟨i,3,none⟩=some (.bool pn)∧W.cell? ⟨i,4,none⟩=some (.string pw) ∧
  W.frozen? ⟨i,0,none⟩=false∧W.frozen? ⟨i,1,none⟩=false∧W.frozen? ⟨i,2,none⟩=false∧W.frozen? ⟨i,3,none⟩=false∧W.frozen? ⟨i,4,none⟩=false:=by
 unfold PBox at h
 simp [World.cell?,World.frozen?,h]
theorem PBox.lt (h:PBox W i n wh fr pn pw):i<W.heap.size:=by
 unfold PBox at h
 by_cases hlt:i<W.heap.size
 ·exact hlt
 ·have hn:W.heap[i]?=none:=by simp;omega
  rw [hn] at h;cases h
theorem PBox.below (h:PBox W i n wh fr pn pw) (hb:Below B W W1) (hi:i<B):PBox W1 i n wh fr pn pw:=by
 unfold PBox at h ⊢;rw [hb.block i hi];exact h
theorem PBox.only (h:PBox W i n wh fr pn pw) (hb:Only b W W1) (hi:i≠b):PBox W1 i n wh fr pn pw:=by
 unfold PBox at h ⊢;rw [hb.block i hi];exact h
theorem PBox.other (h:PBox W i n wh fr pn pw) (hij:i≠j):PBox (W.setCell ⟨j,o,none⟩ v) i n wh fr pn pw:=by
 unfold PBox at h ⊢;rw [Below.heap_setCell _ _ _ _ hij];exact h
theorem PBox.drew (h:PBox W i n wh fr pn pw):PBox W.drew i n wh fr pn pw:=h
theorem PBox.set0 (h:PBox W i n wh fr pn pw):PBox (W.setCell ⟨i,0,none⟩ (.bool n')) i n' wh fr pn pw:=by
 unfold PBox at h ⊢
 simp only [World.setCell,Array.getElem?_modify,if_true,h,Option.map_some]
 simp
theorem PBox.set1 (h:PBox W i n wh fr pn pw):PBox (W.setCell ⟨i,1,none⟩ (.string wh')) i n wh' fr pn pw:=by
 unfold PBox at h ⊢
 simp only [World.setCell,Array.getElem?_modify,if_true,h,Option.map_some]
 simp
theorem PBox.set2 (h:PBox W i n wh fr pn pw):PBox (W.setCell ⟨i,2,none⟩ (.string fr')) i n wh fr' pn pw:=by
 unfold PBox at h ⊢
 simp only [World.setCell,Array.getElem?_modify,if_true,h,Option.map_some]
 simp
theorem PBox.alloc (h:PBox W i n wh fr pn pw) (o:Obj):PBox (W.alloc o) i n wh fr pn pw:=by
 have hl:=h.lt
 unfold PBox at h ⊢
 rw [←h]
 exact Below.heap_alloc W o i hl
end
theorem pbox_new (w:World) (n:Bool) (wh fr:ByteArray) (pn:Bool) (pw:ByteArray):PBox (w.alloc (.cells #[.bool n,.string wh,.string fr,.bool pn,.string pw] 194)) w.heap.size n wh fr pn pw:=by
 unfold PBox
 show (w.heap.push _)[w.heap.size]?=_
 simp
structure Two5 (w W:World) (n:Bool) (wh fr:ByteArray) (pn:Bool) (pw:ByteArray) (n':Bool) (wh' fr':ByteArray) (pn':Bool) (pw':ByteArray):Prop where
 below:Below w.heap.size w W
 b0:PBox W w.heap.size n wh fr pn pw
 b1:PBox W (w.heap.size + 1) n' wh' fr' pn' pw'
section
variable {w W W1 : World} {n n' pn pn' : Bool} {wh wh' fr fr' pw pw' : ByteArray}
theorem Two5.then (h:Two5 w W n wh fr pn pw n' wh' fr' pn' pw') (hb:Below W.heap.size W W1):Two5 w W1 n wh fr pn pw n' wh' fr' pn' pw' :=
 ⟨below_then h.below hb,h.b0.below hb h.b0.lt,h.b1.below hb h.b1.lt⟩
theorem Two5.drew (h:Two5 w W n wh fr pn pw n' wh' fr' pn' pw'):Two5 w W.drew n wh fr pn pw n' wh' fr' pn' pw':=⟨h.below.drew,h.b0,h.b1⟩
end
theorem two5_new (w:World) (n:Bool) (wh fr:ByteArray) (pn:Bool) (pw:ByteArray) (n':Bool) (wh' fr':ByteArray) (pn':Bool) (pw':ByteArray) :
  Two5 w ((w.alloc (.cells #[.bool n,.string wh,.string fr,.bool pn,.string pw] 194)).alloc (.cells #[.bool n',.string wh',.string fr',.bool pn',.string pw'] 194)) n wh fr pn pw n' wh' fr' pn' pw':=by
 refine ⟨below_al (below_al (Below.refl _ _)),(pbox_new w n wh fr pn pw).alloc _,?_⟩
 have:=pbox_new (w.alloc (.cells #[.bool n,.string wh,.string fr,.bool pn,.string pw] 194)) n' wh' fr' pn' pw'
 simpa using this
theorem below_set {w W:World} {i o:Nat} {v:Value} (h:Below w.heap.size w W) (hi:w.heap.size≤i):Below w.heap.size w (W.setCell ⟨i,o,none⟩ v):=h.setCell hi v
def spPn (l:List UInt8):Bool:=if hdB 43 l then false else hdB 45 l
def spL (l:List UInt8):List UInt8:=if hdB 43 l then tlB 43 l else tlB 45 l
def spOk (l:List UInt8):Bool:=!(spL l).isEmpty && allD (spL l)
theorem tlB_no {c:UInt8} {l:List UInt8} (h:hdB c l=false):tlB c l=l:=by unfold tlB;rw [h];rfl
def partsE (ok:Bool) (n:Bool) (wh fr:ByteArray) (pn:Bool) (pw:ByteArray):Ending :=
 if ok then .returned (.tuple #[.agg #[.bool n,.string wh,.string fr,.bool pn,.string pw],.bool true]) else .returned (.tuple #[.agg #[.bool false,.string ⟨#[]⟩,.string ⟨#[]⟩,.bool false,.string ⟨#[]⟩],.bool false])
set_option maxHeartbeats 1000000 in
theorem splitPower_any (n:Bool) (wh fr pw:ByteArray) (s:ByteArray) (w:World) (hs:s.size≤100000) (ok:Bool) (hok:spOk (bl s)=ok) :
  Calls Tryz.prog 222 #[.agg #[.bool n,.string wh,.string fr,.bool false,.string pw],.string s] w fun e w' =>
   e=partsE ok n wh fr (spPn (bl s)) (mkB (spL (bl s)))∧Below w.heap.size w w':=by
 have ml:maxLen=2 ^ 63 - 1:=rfl
 have HT:=hide (two5_new w n wh fr false pw false ⟨#[]⟩ ⟨#[]⟩ false ⟨#[]⟩)
 cases hp:hdB 43 (bl s)
 ·have hL:spL (bl s)=tlB 45 (bl s):=by unfold spL;rw [hp];rfl
  have hP:spPn (bl s)=hdB 45 (bl s):=by unfold spPn;rw [hp];rfl
  have hok':Hid ((!(tlB 45 (bl s)).isEmpty && allD (tlB 45 (bl s)))=ok):=by rw [←hok,spOk,hL];exact rfl
  rw [hL,hP]
  have hlen:=tlB_length 45 (bl s)
  rw [bl_length] at hlen
  have hsz:=mkB_size (tlB 45 (bl s))
  have hnil:=mkB_nil (tlB 45 (bl s))
  have t43:=hide (tlB_no hp)
  clear hok hL hP
  obtain ⟨l,hl⟩:∃ l,tlB 45 (bl s)=l:=⟨_,rfl⟩
  rw [hl] at hok' hlen hsz hnil ⊢
  have hl:=hide hl
  cases hem:l.isEmpty
  ·rw [hem] at hnil
   cases had:allD l
   ·have hf:ok=false:=by rw [←hok'.out,hem,had];rfl
    subst hf
    clear hok'
    go_enter Tryz.func222, Tryz.ntmps222
    go_wp2_with fail
    refine (cutByte_any s 43 _ _ rfl hs).mono ?_
    rw [hp,t43.out,mkB_bl]
    rintro e w1 ⟨rfl,hb1⟩
    have H1:=hide (HT.out.then hb1)
    clear HT hb1
    obtain ⟨c0,c1,c2,c3,c4,f0,f1,f2,f3,f4⟩:=H1.out.b0.cells
    obtain ⟨d0,d1,d2,d3,d4,g0,g1,g2,g3,g4⟩:=H1.out.b1.cells
    go_wp2_with fail
    refine (cutByte_any s 45 _ _ rfl hs).mono ?_
    rw [hl.out]
    rintro e w2 ⟨rfl,hb2⟩
    have H2:=hide (H1.out.then hb2)
    clear c0 c1 c2 c3 c4 f0 f1 f2 f3 f4 d0 d1 d2 d3 d4 g0 g1 g2 g3 g4 H1 hb2
    obtain ⟨c0,c1,c2,c3,c4,f0,f1,f2,f3,f4⟩:=H2.out.b0.cells
    obtain ⟨d0,d1,d2,d3,d4,g0,g1,g2,g3,g4⟩:=H2.out.b1.cells
    have hadb:=hide had
    go_wp2_with (go_at_call 242;refine (areDigits_any _ _ (by omega)).mono ?_;rw [bl_mkB,hadb.out];rintro e w3 ⟨rfl,rfl⟩)
    refine bodyPost_ret (v:=.tuple #[.agg #[.bool false,.string ⟨#[]⟩,.string ⟨#[]⟩,.bool false,.string ⟨#[]⟩],.bool false]) (by simp [results,Tryz.results222,go_sem,d0,d1,d2,d3,d4]) rfl ⟨rfl,?_⟩
    iterate 6 refine below_set ?_ (by omega)
    exact H2.out.below
   ·have hf:ok=true:=by rw [←hok'.out,hem,had];rfl
    subst hf
    clear hok'
    go_enter Tryz.func222, Tryz.ntmps222
    go_wp2_with fail
    refine (cutByte_any s 43 _ _ rfl hs).mono ?_
    rw [hp,t43.out,mkB_bl]
    rintro e w1 ⟨rfl,hb1⟩
    have H1:=hide (HT.out.then hb1)
    clear HT hb1
    obtain ⟨c0,c1,c2,c3,c4,f0,f1,f2,f3,f4⟩:=H1.out.b0.cells
    obtain ⟨d0,d1,d2,d3,d4,g0,g1,g2,g3,g4⟩:=H1.out.b1.cells
    go_wp2_with fail
    refine (cutByte_any s 45 _ _ rfl hs).mono ?_
    rw [hl.out]
    rintro e w2 ⟨rfl,hb2⟩
    have H2:=hide (H1.out.then hb2)
    clear c0 c1 c2 c3 c4 f0 f1 f2 f3 f4 d0 d1 d2 d3 d4 g0 g1 g2 g3 g4 H1 hb2
    obtain ⟨c0,c1,c2,c3,c4,f0,f1,f2,f3,f4⟩:=H2.out.b0.cells
    obtain ⟨d0,d1,d2,d3,d4,g0,g1,g2,g3,g4⟩:=H2.out.b1.cells
    have hadb:=hide had
    go_wp2_with (go_at_call 242;refine (areDigits_any _ _ (by omega)).mono ?_;rw [bl_mkB,hadb.out];rintro e w3 ⟨rfl,rfl⟩)
    refine bodyPost_ret (v:=.tuple #[.agg #[.bool n,.string wh,.string fr,.bool (hdB 45 (bl s)),.string (mkB l)],.bool true]) (by simp [results,Tryz.results222,go_sem,d0,d1,d2,d3,d4]) rfl ⟨rfl,?_⟩
    iterate 7 refine below_set ?_ (by omega)
    exact H2.out.below
  ·rw [hem] at hnil
   have hf:ok=false:=by rw [←hok'.out,hem];rfl
   subst hf
   clear hok'
   go_enter Tryz.func222, Tryz.ntmps222
   go_wp2_with fail
   refine (cutByte_any s 43 _ _ rfl hs).mono ?_
   rw [hp,t43.out,mkB_bl]
   rintro e w1 ⟨rfl,hb1⟩
   have H1:=hide (HT.out.then hb1)
   clear HT hb1
   obtain ⟨c0,c1,c2,c3,c4,f0,f1,f2,f3,f4⟩:=H1.out.b0.cells
   obtain ⟨d0,d1,d2,d3,d4,g0,g1,g2,g3,g4⟩:=H1.out.b1.cells
   go_wp2_with fail
   refine (cutByte_any s 45 _ _ rfl hs).mono ?_
   rw [hl.out]
   rintro e w2 ⟨rfl,hb2⟩
   have H2:=hide (H1.out.then hb2)
   clear c0 c1 c2 c3 c4 f0 f1 f2 f3 f4 d0 d1 d2 d3 d4 g0 g1 g2 g3 g4 H1 hb2
   obtain ⟨c0,c1,c2,c3,c4,f0,f1,f2,f3,f4⟩:=H2.out.b0.cells
   obtain ⟨d0,d1,d2,d3,d4,g0,g1,g2,g3,g4⟩:=H2.out.b1.cells
   go_wp2
   refine bodyPost_ret (v:=.tuple #[.agg #[.bool false,.string ⟨#[]⟩,.string ⟨#[]⟩,.bool false,.string ⟨#[]⟩],.bool false]) (by simp [results,Tryz.results222,go_sem,d0,d1,d2,d3,d4]) rfl ⟨rfl,?_⟩
   iterate 6 refine below_set ?_ (by omega)
   exact H2.out.below
 ·have hL:spL (bl s)=tlB 43 (bl s):=by unfold spL;rw [hp];rfl
  have hP:spPn (bl s)=false:=by unfold spPn;rw [hp];rfl
  have hok':Hid ((!(tlB 43 (bl s)).isEmpty && allD (tlB 43 (bl s)))=ok):=by rw [←hok,spOk,hL];exact rfl
  rw [hL,hP]
  have hlen:=tlB_length 43 (bl s)
  rw [bl_length] at hlen
  have hsz:=mkB_size (tlB 43 (bl s))
  have hnil:=mkB_nil (tlB 43 (bl s))
  clear hok hL hP
  obtain ⟨l,hl⟩:∃ l,tlB 43 (bl s)=l:=⟨_,rfl⟩
  rw [hl] at hok' hlen hsz hnil ⊢
  have hl:=hide hl
  cases hem:l.isEmpty
  ·rw [hem] at hnil
   cases had:allD l
   ·have hf:ok=false:=by rw [←hok'.out,hem,had];rfl
    subst hf
    clear hok'
    go_enter Tryz.func222, Tryz.ntmps222
    go_wp2_with fail
    refine (cutByte_any s 43 _ _ rfl hs).mono ?_
    rw [hp,hl.out]
    rintro e w1 ⟨rfl,hb1⟩
    have H1:=hide (HT.out.then hb1)
    clear HT hb1
    obtain ⟨c0,c1,c2,c3,c4,f0,f1,f2,f3,f4⟩:=H1.out.b0.cells
    obtain ⟨d0,d1,d2,d3,d4,g0,g1,g2,g3,g4⟩:=H1.out.b1.cells
    have hadb:=hide had
    go_wp2_with (go_at_call 242;refine (areDigits_any _ _ (by omega)).mono ?_;rw [bl_mkB,hadb.out];rintro e w3 ⟨rfl,rfl⟩)
    refine bodyPost_ret (v:=.tuple #[.agg #[.bool false,.string ⟨#[]⟩,.string ⟨#[]⟩,.bool false,.string ⟨#[]⟩],.bool false]) (by simp [results,Tryz.results222,go_sem,d0,d1,d2,d3,d4]) rfl ⟨rfl,?_⟩
    iterate 5 refine below_set ?_ (by omega)
    exact H1.out.below
   ·have hf:ok=true:=by rw [←hok'.out,hem,had];rfl
    subst hf
    clear hok'
    go_enter Tryz.func222, Tryz.ntmps222
    go_wp2_with fail
    refine (cutByte_any s 43 _ _ rfl hs).mono ?_
    rw [hp,hl.out]
    rintro e w1 ⟨rfl,hb1⟩
    have H1:=hide (HT.out.then hb1)
    clear HT hb1
    obtain ⟨c0,c1,c2,c3,c4,f0,f1,f2,f3,f4⟩:=H1.out.b0.cells
    obtain ⟨d0,d1,d2,d3,d4,g0,g1,g2,g3,g4⟩:=H1.out.b1.cells
    have hadb:=hide had
    go_wp2_with (go_at_call 242;refine (areDigits_any _ _ (by omega)).mono ?_;rw [bl_mkB,hadb.out];rintro e w3 ⟨rfl,rfl⟩)
    refine bodyPost_ret (v:=.tuple #[.agg #[.bool n,.string wh,.string fr,.bool false,.string (mkB l)],.bool true]) (by simp [results,Tryz.results222,go_sem,d0,d1,d2,d3,d4]) rfl ⟨rfl,?_⟩
    iterate 6 refine below_set ?_ (by omega)
    exact H1.out.below
  ·rw [hem] at hnil
   have hf:ok=false:=by rw [←hok'.out,hem];rfl
   subst hf
   clear hok'
   go_enter Tryz.func222, Tryz.ntmps222
   go_wp2_with fail
   refine (cutByte_any s 43 _ _ rfl hs).mono ?_
   rw [hp,hl.out]
   rintro e w1 ⟨rfl,hb1⟩
   have H1:=hide (HT.out.then hb1)
   clear HT hb1
   obtain ⟨c0,c1,c2,c3,c4,f0,f1,f2,f3,f4⟩:=H1.out.b0.cells
   obtain ⟨d0,d1,d2,d3,d4,g0,g1,g2,g3,g4⟩:=H1.out.b1.cells
   go_wp2
   refine bodyPost_ret (v:=.tuple #[.agg #[.bool false,.string ⟨#[]⟩,.string ⟨#[]⟩,.bool false,.string ⟨#[]⟩],.bool false]) (by simp [results,Tryz.results222,go_sem,d0,d1,d2,d3,d4]) rfl ⟨rfl,?_⟩
   iterate 5 refine below_set ?_ (by omega)
   exact H1.out.below
end Go.Proofs.YtgicnopppgnjjaaGreatDoor
namespace Go.Proofs.YtgicnopppgnjjaaGreatDoor
open Go.RowKit
def badW (l:List UInt8):Bool:=l.isEmpty || (decide (1<l.length) && l.head?==some 48)
def splitT (n:Bool) (wh fr l4:List UInt8):Option (Bool×List UInt8×List UInt8×Bool×List UInt8) :=
 match l4 with
 | []=>some (n,wh,fr,false,[])
 | c :: r=>if c==101 || c==69 then (if spOk r then some (n,wh,fr,spPn r,spL r) else none) else none
def splitL (l:List UInt8):Option (Bool×List UInt8×List UInt8×Bool×List UInt8) :=
 if badW ((tlB 45 l).takeWhile isDig) then none
 else if hdB 46 ((tlB 45 l).dropWhile isDig) then
  if ((tlB 46 ((tlB 45 l).dropWhile isDig)).takeWhile isDig).isEmpty then none
  else splitT (hdB 45 l) ((tlB 45 l).takeWhile isDig) ((tlB 46 ((tlB 45 l).dropWhile isDig)).takeWhile isDig) ((tlB 46 ((tlB 45 l).dropWhile isDig)).dropWhile isDig)
 else splitT (hdB 45 l) ((tlB 45 l).takeWhile isDig) [] ((tlB 45 l).dropWhile isDig)
def splitE:Option (Bool×List UInt8×List UInt8×Bool×List UInt8)→Ending
 | none=>partsE false false ⟨#[]⟩ ⟨#[]⟩ false ⟨#[]⟩
 | some (n,wh,fr,pn,pw)=>partsE true n (mkB wh) (mkB fr) pn (mkB pw)
theorem takeWhile_len (l:List UInt8):(l.takeWhile isDig).length≤l.length:=(List.takeWhile_prefix _).length_le
theorem dropWhile_len (l:List UInt8):(l.dropWhile isDig).length≤l.length:=(List.dropWhile_suffix _).length_le
theorem get0_mkB (c:UInt8) (r:List UInt8) (h:0<(mkB (c :: r)).size):(mkB (c :: r))[0]=c:=by
 rw [←bl_get (mkB (c :: r)) 0 h]
 simp only [bl_mkB,List.getElem_cons_zero]
set_option maxHeartbeats 1000000 in
theorem split_empty (s:ByteArray) (w:World) (hs:s.size≤100000) (hbw:((tlB 45 (bl s)).takeWhile isDig).isEmpty=true) :
  Calls Tryz.prog 196 #[.string s] w fun e w'=>e=partsE false false ⟨#[]⟩ ⟨#[]⟩ false ⟨#[]⟩∧Below w.heap.size w w':=by
 have ml:maxLen=2 ^ 63 - 1:=rfl
 have HT:=hide (two5_new w false ⟨#[]⟩ ⟨#[]⟩ false ⟨#[]⟩ false ⟨#[]⟩ ⟨#[]⟩ false ⟨#[]⟩)
 have q1:=tlB_length 45 (bl s)
 rw [bl_length] at q1
 have q2:=takeWhile_len (tlB 45 (bl s))
 have q3:=dropWhile_len (tlB 45 (bl s))
 obtain ⟨n,hn⟩:∃ n,hdB 45 (bl s)=n:=⟨_,rfl⟩
 obtain ⟨l1,hl1⟩:∃ l1,tlB 45 (bl s)=l1:=⟨_,rfl⟩
 rw [hl1] at q1 q2 q3
 obtain ⟨wh,hwh⟩:∃ wh,l1.takeWhile isDig=wh:=⟨_,rfl⟩
 obtain ⟨l2,hl2⟩:∃ l2,l1.dropWhile isDig=l2:=⟨_,rfl⟩
 rw [hwh] at q2
 rw [hl2] at q3
 rw [hl1,hwh] at hbw
 have hw0:(mkB wh).toList.isEmpty=true:=by rw [mkB_nil];exact hbw
 have hn:=hide hn
 have hl1:=hide hl1
 have hwh:=hide hwh
 have hl2:=hide hl2
 clear hbw
 go_enter Tryz.func196, Tryz.ntmps196
 go_wp2_with fail
 refine (cutByte_any s 45 _ _ rfl (by omega)).mono ?_
 rw [hn.out,hl1.out]
 rintro e w1 ⟨rfl,hb1⟩
 have H1:=hide (HT.out.then hb1)
 clear HT hb1
 obtain ⟨c0,c1,c2,c3,c4,f0,f1,f2,f3,f4⟩:=H1.out.b1.cells
 go_wp2_with fail
 refine (cutDigits_any (mkB l1) _ (by rw [mkB_size];omega)).mono ?_
 rw [bl_mkB,hwh.out,hl2.out]
 rintro e w2 ⟨rfl,hb2⟩
 have H2:Hid (Two5 w w2 false ⟨#[]⟩ ⟨#[]⟩ false ⟨#[]⟩ n ⟨#[]⟩ ⟨#[]⟩ false ⟨#[]⟩):=by
  have h:=H1.out
  have h':Two5 w (w1.setCell ⟨w.heap.size + 1,0,none⟩ (.bool n)) false ⟨#[]⟩ ⟨#[]⟩ false ⟨#[]⟩ n ⟨#[]⟩ ⟨#[]⟩ false ⟨#[]⟩:=⟨below_set h.below (by omega),h.b0.other (by omega),h.b1.set0⟩
  exact h'.then hb2
 clear H1 hb2 c0 c1 c2 c3 c4 f0 f1 f2 f3 f4
 obtain ⟨c0,c1,c2,c3,c4,f0,f1,f2,f3,f4⟩:=H2.out.b1.cells
 obtain ⟨d0,d1,d2,d3,d4,g0,g1,g2,g3,g4⟩:=H2.out.b0.cells
 go_wp2
 refine bodyPost_ret (v:=.tuple #[.agg #[.bool false,.string ⟨#[]⟩,.string ⟨#[]⟩,.bool false,.string ⟨#[]⟩],.bool false]) (by simp [results,Tryz.results196,go_sem,d0,d1,d2,d3,d4]) rfl ⟨rfl,?_⟩
 iterate 6 refine below_set ?_ (by omega)
 exact H2.out.below
set_option maxHeartbeats 1000000 in
theorem split_lead (s:ByteArray) (w:World) (hs:s.size≤100000) (hbw:1<((tlB 45 (bl s)).takeWhile isDig).length∧((tlB 45 (bl s)).takeWhile isDig).head?=some 48) :
  Calls Tryz.prog 196 #[.string s] w fun e w'=>e=partsE false false ⟨#[]⟩ ⟨#[]⟩ false ⟨#[]⟩∧Below w.heap.size w w':=by
 have ml:maxLen=2 ^ 63 - 1:=rfl
 have HT:=hide (two5_new w false ⟨#[]⟩ ⟨#[]⟩ false ⟨#[]⟩ false ⟨#[]⟩ ⟨#[]⟩ false ⟨#[]⟩)
 have q1:=tlB_length 45 (bl s)
 rw [bl_length] at q1
 have q2:=takeWhile_len (tlB 45 (bl s))
 have q3:=dropWhile_len (tlB 45 (bl s))
 obtain ⟨n,hn⟩:∃ n,hdB 45 (bl s)=n:=⟨_,rfl⟩
 obtain ⟨l1,hl1⟩:∃ l1,tlB 45 (bl s)=l1:=⟨_,rfl⟩
 rw [hl1] at q1 q2 q3
 obtain ⟨wh,hwh⟩:∃ wh,l1.takeWhile isDig=wh:=⟨_,rfl⟩
 obtain ⟨l2,hl2⟩:∃ l2,l1.dropWhile isDig=l2:=⟨_,rfl⟩
 rw [hwh] at q2
 rw [hl2] at q3
 rw [hl1,hwh] at hbw
 have hw0:(mkB wh).toList.isEmpty=false:=by rw [mkB_nil];cases wh with|nil=>simp at hbw|cons _ _=>rfl
 have hw1:(1:Int)<(mkB wh).size:=by rw [mkB_size];omega
 have hw1':0<(mkB wh).size:=by rw [mkB_size];omega
 have hw2:(((mkB wh)[0].toNat:Int)==48)=true:=by
  have:=head_bl (mkB wh) hw1'
  rw [bl_mkB,hbw.2] at this
  rw [←Option.some.inj this];rfl
 have hn:=hide hn
 have hl1:=hide hl1
 have hwh:=hide hwh
 have hl2:=hide hl2
 clear hbw
 go_enter Tryz.func196, Tryz.ntmps196
 go_wp2_with fail
 refine (cutByte_any s 45 _ _ rfl (by omega)).mono ?_
 rw [hn.out,hl1.out]
 rintro e w1 ⟨rfl,hb1⟩
 have H1:=hide (HT.out.then hb1)
 clear HT hb1
 obtain ⟨c0,c1,c2,c3,c4,f0,f1,f2,f3,f4⟩:=H1.out.b1.cells
 go_wp2_with fail
 refine (cutDigits_any (mkB l1) _ (by rw [mkB_size];omega)).mono ?_
 rw [bl_mkB,hwh.out,hl2.out]
 rintro e w2 ⟨rfl,hb2⟩
 have H2:Hid (Two5 w w2 false ⟨#[]⟩ ⟨#[]⟩ false ⟨#[]⟩ n ⟨#[]⟩ ⟨#[]⟩ false ⟨#[]⟩):=by
  have h:=H1.out
  have h':Two5 w (w1.setCell ⟨w.heap.size + 1,0,none⟩ (.bool n)) false ⟨#[]⟩ ⟨#[]⟩ false ⟨#[]⟩ n ⟨#[]⟩ ⟨#[]⟩ false ⟨#[]⟩:=⟨below_set h.below (by omega),h.b0.other (by omega),h.b1.set0⟩
  exact h'.then hb2
 clear H1 hb2 c0 c1 c2 c3 c4 f0 f1 f2 f3 f4
 obtain ⟨c0,c1,c2,c3,c4,f0,f1,f2,f3,f4⟩:=H2.out.b1.cells
 obtain ⟨d0,d1,d2,d3,d4,g0,g1,g2,g3,g4⟩:=H2.out.b0.cells
 go_wp2
 refine bodyPost_ret (v:=.tuple #[.agg #[.bool false,.string ⟨#[]⟩,.string ⟨#[]⟩,.bool false,.string ⟨#[]⟩],.bool false]) (by simp [results,Tryz.results196,go_sem,d0,d1,d2,d3,d4]) rfl ⟨rfl,?_⟩
 iterate 6 refine below_set ?_ (by omega)
 exact H2.out.below
end Go.Proofs.YtgicnopppgnjjaaGreatDoor
namespace Go.Proofs.YtgicnopppgnjjaaGreatDoor
def val:List Nat→Nat
 | []=>0
 | d :: l=>d * 10 ^ l.length + val l
def Dgs (l:List Nat):Prop:=∀ d∈l,d≤9
def dg (s:ByteArray):List Nat:=(bl s).map fun c=>c.toNat - 48
theorem dg_length (s:ByteArray):(dg s).length=s.size:=by simp [dg,bl_length]
theorem dg_get (s:ByteArray) (k:Nat) (h:k<s.size):(dg s)[k]'(by rw [dg_length];exact h)=s[k].toNat - 48:=by
 simp only [dg,List.getElem_map]
 rw [bl_get s k h]
theorem dg_dgs (s:ByteArray) (h:allD (bl s)=true):Dgs (dg s):=by
 intro d hd
 simp only [dg,List.mem_map] at hd
 obtain ⟨c,hc,rfl⟩:=hd
 have:=(isDig_iff c).1 ((List.all_eq_true.1 h) c hc)
 omega
theorem allD_get (s:ByteArray) (h:allD (bl s)=true) (k:Nat) (hk:k<s.size):48≤s[k].toNat∧s[k].toNat≤57:=by
 have h1:s[k]∈bl s:=by rw [←bl_get s k hk];exact List.getElem_mem _
 have:=(isDig_iff s[k]).1 ((List.all_eq_true.1 h) _ h1)
 omega
end Go.Proofs.YtgicnopppgnjjaaGreatDoor
namespace Go.Proofs.YtgicnopppgnjjaaGreatDoor
open Go.RowKit
def pwA (acc:Nat):List UInt8→Nat
 | []=>acc
 | c :: l=>if acc≤912 then pwA (acc * 10 + (c.toNat - 48)) l else acc
theorem pwA_far (acc:Nat) (l:List UInt8) (h:¬ acc≤912):pwA acc l=acc:=by cases l <;> simp [pwA,h]
def powF (pn:Bool) (l:List UInt8):Int:=if pn then -(pwA 0 l:Int) else pwA 0 l
theorem pwA_le:∀ (l:List UInt8) (acc:Nat),allD l=true→acc≤9129→pwA acc l≤9129
 | [],acc,_,h=>h
 | c :: l,acc,hd,h=>by
  simp only [allD,List.all_cons,Bool.and_eq_true] at hd
  have:=(isDig_iff c).1 hd.1
  unfold pwA
  split
  ·exact pwA_le l _ hd.2 (by omega)
  ·exact h
set_option maxHeartbeats 1000000 in
theorem powerOf_any (n:Bool) (wh fr:ByteArray) (pn:Bool) (pw:ByteArray) (w:World) (hs:pw.size≤100000) (hd:allD (bl pw)=true) :
  Calls Tryz.prog 199 #[.agg #[.bool n,.string wh,.string fr,.bool pn,.string pw]] w fun e w'=>e=.returned (.int .i64 (powF pn (bl pw)))∧Below w.heap.size w w':=by
 have hd:=hide hd
 go_enter Tryz.func199, Tryz.ntmps199
 go_wp2
 go_loop [3,4] (fun p i=>∃ k acc:Nat,k≤pw.size∧i=.int .i64 k∧p=.int .i64 acc∧acc≤9129∧Hid (pwA 0 (bl pw)=pwA acc ((bl pw).drop k))) (fun _ i=>pw.size - (intOf i).toNat)
 case atStart=>exact ⟨0,0,Nat.zero_le _,rfl,rfl,by omega,rfl⟩
 case round =>
  obtain ⟨k,acc,hk,rfl,rfl,hacc,hp⟩:=hrel
  by_cases hlt:k<pw.size
  ·have hdrop:(bl pw).drop k=pw[k] :: (bl pw).drop (k + 1):=by
    rw [List.drop_eq_getElem_cons (by rw [bl_length];exact hlt),bl_get pw k hlt]
   have hdg:=allD_get pw hd.out k hlt
   by_cases hf:acc≤912
   ·have hp':Hid (pwA 0 (bl pw)=pwA (acc * 10 + (pw[k].toNat - 48)) ((bl pw).drop (k + 1))):=by
     show _=_
     rw [hp.out,hdrop];simp [pwA,hf]
    clear hdrop
    go_wp2
    go_round
    case rel=>exact ⟨k + 1,acc * 10 + (pw[k].toNat - 48),by omega,by go_num,by
     show Value.int _ _=Value.int _ _
     congr 1
     omega,by omega,hp'.out⟩
    case measure=>simp [intOf];omega
   ·have hp':Hid (pwA 0 (bl pw)=acc):=by
     show _=_
     rw [hp.out,pwA_far acc _ hf]
    have hf':decide ((acc:Int)≤912)=false:=decide_eq_false (by omega)
    clear hdrop
    cases pn
    all_goals
     go_wp2
     go_ret
     refine ⟨ret_int ?_,(Below.refl _ _).alloc (Nat.le_refl _) _⟩
     simp [powF,hp'.out]
  ·have hp':Hid (pwA 0 (bl pw)=acc):=by
    show _=_
    rw [hp.out,List.drop_of_length_le (by rw [bl_length];omega)];rfl
   cases pn
   all_goals
    go_wp2
    go_ret
    refine ⟨ret_int ?_,(Below.refl _ _).alloc (Nat.le_refl _) _⟩
    simp [powF,hp'.out]
def layR (p:List Nat) (o:Nat) (d:List Nat):List Nat:=p.take o++d++p.drop (o + d.length)
theorem layR_len (p:List Nat) (o:Nat) (d:List Nat) (h:o + d.length≤p.length):(layR p o d).length=p.length:=by
 unfold layR;simp;omega
theorem layR_step (p:List Nat) (o k:Nat) (d:List Nat) (hk:k<d.length) (h:o + d.length≤p.length):(layR p o (d.take k)).set (o + k) d[k]=layR p o (d.take (k + 1)):=by
 have hl:(p.take o++d.take k).length=o + k:=by simp;omega
 unfold layR
 rw [List.set_append_right _ _ (by rw [hl];exact Nat.le_refl _),hl,Nat.sub_self]
 have e1:(d.take k).length=k:=by simp;omega
 have e2:(d.take (k + 1)).length=k + 1:=by simp;omega
 rw [e1,e2,List.drop_eq_getElem_cons (by omega),List.set_cons_zero,List.take_succ_eq_append_getElem hk]
 simp only [List.append_assoc,List.cons_append,List.nil_append,Nat.add_assoc]
set_option maxHeartbeats 1000000 in
theorem lay_any (b o n c:Nat) (T:TypeId) (p:List Nat) (s:ByteArray) (w:World) (hA:Arr w b T p) (hsn:s.size≤n) (hon:o + n≤p.length) (hd:allD (bl s)=true) (hn:p.length≤100000) :
  Calls Tryz.prog 197 #[.slice (some ⟨b,o,none⟩) n c,.string s] w fun e w'=>e=.returned (.int .i64 s.size)∧Arr w' b T (layR p o (dg s))∧Only b w w':=by
 have hd:=hide hd
 have hA:=hide hA
 go_enter Tryz.func197, Tryz.ntmps197
 go_wp2
 go_loopw [8] (fun i wr=>∃ k:Nat,k≤s.size∧i=.int .i64 k∧Hid (Arr wr b T (layR p o ((dg s).take k)))∧Hid (Only b w wr)) (fun i _=>s.size - (intOf i).toNat)
 case atStart=>exact ⟨0,Nat.zero_le _,rfl,by show Arr _ _ _ _;simpa [layR] using hA.out,Only.refl _ _⟩
 case round =>
  obtain ⟨k,hk,rfl,hAr,hO⟩:=hrel
  by_cases hlt:k<s.size
  ·have hdg:=allD_get s hd.out k hlt
   have hl:(layR p o ((dg s).take k)).length=p.length:=layR_len _ _ _ (by simp [dg_length];omega)
   have hcl:=hAr.out.cell (o + k) (by omega)
   have hfz:=hAr.out.frozen (o + k)
   have hst:=hide (layR_step p o k (dg s) (by rw [dg_length];exact hlt) (by rw [dg_length];omega))
   have hdk:=hide (dg_get s k hlt)
   go_wp2
   refine ⟨⟨k + 1,by omega,by go_num,?_,?_⟩,by simp [intOf];omega⟩
   ·show Arr _ _ _ _
    rw [←hst.out,hdk.out]
    have:=hAr.out.set (o + k) (s[k].toNat - 48)
    rw [show (((s[k].toNat - 48:Nat):Int))=(s[k].toNat:Int) - 48 by omega] at this
    exact this
   ·exact hO.out.set _ _
  ·have htk:(dg s).take k=dg s:=List.take_of_length_le (by rw [dg_length];omega)
   rw [htk] at hAr
   clear htk
   go_wp2
   go_ret
   exact ⟨rfl,hAr.out,hO.out⟩
theorem lay_none (v:Value) (s:ByteArray) (w:World) (hs:s.size=0) :
  Calls Tryz.prog 197 #[v,.string s] w fun e w'=>e=.returned (.int .i64 0)∧w'=w:=by
 have hs':(s.size:Int)=0:=by omega
 go_enter Tryz.func197, Tryz.ntmps197
 go_wp2
 refine wp_loop_rounds 1 ?_
 rw [rounds_succ]
 go_wp2
 go_ret
 exact ⟨rfl,rfl⟩
end Go.Proofs.YtgicnopppgnjjaaGreatDoor
namespace Go.Proofs.YtgicnopppgnjjaaGreatDoor
open Go.RowKit
def lz (d:List Nat):Nat:=(d.takeWhile (·==0)).length
theorem lz_of (d:List Nat) (k:Nat) (hk:k≤d.length) (h1:∀ i (h:i<d.length),i<k→d[i]=0) (h2:∀ h:k<d.length,d[k]≠0):lz d=k :=
 takeWhile_of _ d k hk (fun j h hj=>by simp [h1 j h hj]) (fun h=>by simpa using h2 h)
def lenOf:Value→Nat | .slice _ m _=>m|_=>0
set_option maxHeartbeats 400000 in
theorem trimByte_any (b o n c:Nat) (d:List Nat) (w:World) (hd:d.length=n) (hn0:0<n) (hn:n≤100000) (hc:n≤c) (hc':c≤100000)
  (hcell:∀ i (h:i<d.length),w.cell? ⟨b,o + i,none⟩=some (.int .u8 (d[i]:Nat))) :
  Calls Tryz.prog 243 #[.slice (some ⟨b,o,none⟩) n c,.int .u8 0] w fun e w'=>(lz d<n→e=.returned (.slice (some ⟨b,o + lz d,none⟩) (n - lz d) (c - lz d)))∧(lz d=n→e=.returned (.slice none 0 0))∧w'=w:=by
 go_enter Tryz.func243, Tryz.ntmps243
 go_wp2
 go_loop [0] (fun s=>∃ k:Nat,k≤n∧(∀ i (h:i<d.length),i<k→d[i]=0)∧((k<n∧s=.slice (some ⟨b,o + k,none⟩) (n - k) (c - k))∨(k=n∧∃ a cc,s=.slice a 0 cc))) (fun s=>lenOf s)
 case atStart=>exact ⟨0,Nat.zero_le _,fun i h hi=>by omega,Or.inl ⟨hn0,rfl⟩⟩
 case round =>
  obtain ⟨k,hk,hz,hs⟩:=hrel
  rcases hs with ⟨hlt,rfl⟩|⟨rfl,a,cc,rfl⟩
  ·have hck:=hcell k (by omega)
   by_cases h0:d[k]'(by omega)=0
   ·rw [h0] at hck
    have hz':∀ i (h:i<d.length),i<k + 1→d[i]=0:=fun i h hi=>by
     by_cases e:i=k
     ·subst e;exact h0
     ·exact hz i h (by omega)
    have hz':=hide hz'
    go_wp2
    refine ⟨⟨k + 1,by omega,hz'.out,?_⟩,by simp [lenOf];omega⟩
    by_cases hl:k + 1<n
    ·exact Or.inl ⟨hl,by rw [if_neg (by omega)];simp [Nat.sub_sub,Nat.add_assoc]⟩
    ·exact Or.inr ⟨by omega,_,_,by rw [show n - k - 1=0 by omega]⟩
   ·have h1:((d[k]'(by omega):Int)==0)=false:=by simp;exact h0
    have h2:(((n - k:Nat):Int)==0)=false:=by simp;omega
    have hl:=hide (lz_of d k (by omega) hz (fun _=>h0))
    clear h0
    go_wp2
    go_ret
    exact ⟨fun _=>by rw [hl.out];rfl,fun h=>by rw [hl.out] at h;omega,rfl⟩
  ·have hl:=hide (lz_of d k (by omega) hz (fun h=>by omega))
   go_wp2
   go_ret
   exact ⟨fun h=>by rw [hl.out] at h;omega,fun h=>rfl,rfl⟩
set_option maxRecDepth 100000 in
theorem trimLeft_any (b o n c:Nat) (d:List Nat) (w:World) (hd:d.length=n) (hn0:0<n) (hn:n≤100000) (hc:n≤c) (hc':c≤100000)
  (hcell:∀ i (h:i<d.length),w.cell? ⟨b,o + i,none⟩=some (.int .u8 (d[i]:Nat))) :
  Calls Tryz.prog 223 #[.slice (some ⟨b,o,none⟩) n c,.string ⟨#[0]⟩] w fun e w'=>(lz d<n→e=.returned (.slice (some ⟨b,o + lz d,none⟩) (n - lz d) (c - lz d)))∧(lz d=n→e=.returned (.slice none 0 0))∧w'=w:=by
 have h2:((n:Int)==0)=false:=by simp;omega
 have hcell:=hide hcell
 by_cases hl:lz d<n
 ·go_enter Tryz.func223, Tryz.ntmps223
  go_wp2_with (go_at_call 243;refine (trimByte_any b o n c d _ hd hn0 hn hc hc' hcell.out).mono ?_;rintro e w' ⟨h1,_,rfl⟩;obtain rfl:=h1 hl)
  go_ret
  exact ⟨fun _=>rfl,fun h=>by omega,rfl⟩
 ·have hl':Hid (lz d=n):=by
   have:lz d≤n:=by
    unfold lz;rw [←hd];exact (List.takeWhile_prefix _).length_le
   show lz d=n
   omega
  go_enter Tryz.func223, Tryz.ntmps223
  go_wp2_with (go_at_call 243;refine (trimByte_any b o n c d _ hd hn0 hn hc hc' hcell.out).mono ?_;rintro e w' ⟨_,h1,rfl⟩;obtain rfl:=h1 hl'.out)
  go_ret
  exact ⟨fun h=>by omega,fun _=>rfl,rfl⟩
end Go.Proofs.YtgicnopppgnjjaaGreatDoor
namespace Go.Proofs.YtgicnopppgnjjaaGreatDoor
open Go.RowKit
def mkS (l:List Nat):ByteArray:=strOfNums (l.map fun v:Nat=>((v:Int) + 48))
def formE (ok neg:Bool) (s:ByteArray) (x:Int):Ending :=
 if ok then .returned (.tuple #[.agg #[.bool neg,.string s,.int .i64 x],.int .i64 0]) else .returned (.tuple #[.agg #[.bool false,.string ⟨#[]⟩,.int .i64 0],.int .i64 2])
def tz (d:List Nat):Nat:=lz d.reverse
theorem tz_of (d:List Nat) (m k:Nat) (hm:d.length=m) (hk:k<m) (h1:∀ i (h:i<d.length),m - k≤i→d[i]=0) (h2:d[m - k - 1]'(by omega)≠0):tz d=k:=by
 refine lz_of d.reverse k (by simp;omega) (fun i h hi=>?_) (fun h=>?_)
 ·rw [List.getElem_reverse]
  exact h1 _ _ (by simp at h;omega)
 ·rw [List.getElem_reverse]
  have e:d.length - 1 - k=m - k - 1:=by omega
  simp only [e];exact h2
theorem lz_ne (d:List Nat) (h:lz d<d.length):d[lz d]≠0:=by
 intro h0
 have key:∀ (l:List Nat) (h:(l.takeWhile (·==0)).length<l.length),l[(l.takeWhile (·==0)).length]≠0:=by
  intro l
  induction l with
  | nil=>intro h;simp at h
  | cons a l ih =>
   intro h
   by_cases ha:a=0
   ·subst ha
    simp only [List.takeWhile_cons,beq_self_eq_true,if_true,List.length_cons,List.getElem_cons_succ]
    exact ih (by simpa using h)
   ·simp [ha]
 exact key d h h0
set_option maxHeartbeats 1000000 in
set_option maxRecDepth 100000 in
theorem form_zero (neg:Bool) (b o n c:Nat) (d:List Nat) (x:Int) (w:World) (hd:d.length=n) (hn0:0<n) (hn:n≤100000) (hc:n≤c) (hc':c≤100000) (hb:b<w.heap.size)
  (hcell:∀ i (h:i<d.length),w.cell? ⟨b,o + i,none⟩=some (.int .u8 (d[i]:Nat))) (hz:lz d=n) :
  Calls Tryz.prog 198 #[.bool neg,.slice (some ⟨b,o,none⟩) n c,.int .i64 x] w fun e w'=>e=.returned (.tuple #[.agg #[.bool false,.string ⟨#[48]⟩,.int .i64 0],.int .i64 0])∧Below w.heap.size w w':=by
 have hcell':∀ cs T,∀ i (h:i<d.length),(w.alloc (.cells cs T)).cell? ⟨b,o + i,none⟩=some (.int .u8 (d[i]:Nat)):=fun cs T i h=>by
  rw [←hcell i h];exact ((Below.refl w.heap.size w).alloc (Nat.le_refl _) _).cell (p:=⟨b,o + i,none⟩) hb
 have hcell':=hide hcell'
 have hz:=hide hz
 clear hcell
 go_enter Tryz.func198, Tryz.ntmps198
 go_wp2_with (go_at_call 223;refine (trimLeft_any b o n c d _ hd hn0 hn hc hc' (hcell'.out _ _)).mono ?_;rintro e w' ⟨_,h1,rfl⟩;obtain rfl:=h1 hz.out)
 exact bodyPost_ret (v:=.tuple #[.agg #[.bool false,.string ⟨#[48]⟩,.int .i64 0],.int .i64 0]) (by simp [results,Tryz.results198,go_sem]) rfl ⟨rfl,(Below.refl _ _).alloc (Nat.le_refl _) _⟩
set_option maxHeartbeats 2000000 in
set_option maxRecDepth 100000 in
theorem form_some (neg:Bool) (b o n c:Nat) (d d1 d2:List Nat) (m k1:Nat) (x:Int) (w:World) (hd:d.length=n) (hn:n≤100000) (hc:n≤c) (hc':c≤100000) (hb:b<w.heap.size)
  (hcell:∀ i (h:i<d.length),w.cell? ⟨b,o + i,none⟩=some (.int .u8 (d[i]:Nat))) (hz:lz d<n) (hx:-1000000≤x) (hx':x≤1000000)
  (hd1:d1=d.drop (lz d)) (hm:m=n - lz d) (hk1:k1=tz d1) (hd2:d2=d1.take (m - k1)) (hdg:Dgs d) (fit:Bool) (hfit:fit=decide (d2.length≤40∧-400≤x + k1∧x + k1≤400)) :
  Calls Tryz.prog 198 #[.bool neg,.slice (some ⟨b,o,none⟩) n c,.int .i64 x] w fun e w'=>
   e=formE fit neg (mkS d2) (x + k1)∧Below w.heap.size w w':=by
 have hcell':∀ cs T,∀ i (h:i<d.length),(w.alloc (.cells cs T)).cell? ⟨b,o + i,none⟩=some (.int .u8 (d[i]:Nat)):=fun cs T i h=>by
  rw [←hcell i h];exact ((Below.refl w.heap.size w).alloc (Nat.le_refl _) _).cell (p:=⟨b,o + i,none⟩) hb
 have hcell':=hide hcell'
 clear hcell
 have hne:Hid (d1[0]?≠some 0):=by
  show d1[0]?≠some 0
  rw [hd1,List.getElem?_drop,List.getElem?_eq_getElem (by omega)]
  have:=lz_ne d (by omega)
  simpa using this
 have hg1:Hid (∀ i (h:i<d1.length) (h':lz d + i<d.length),d1[i]=d[lz d + i]):=by
  show ∀ i (h:i<d1.length) (h':lz d + i<d.length),d1[i]=d[lz d + i]
  intro i h h'
  simp only [hd1,List.getElem_drop]
 have hdd1:=hide hd1
 have hmm:=hide hm
 have hmn:m≤n:=by omega
 have hm0:0<m:=by omega
 have hnc:m + lz d=n:=by omega
 have hz':=hide hz
 have hd1l:d1.length=m:=by rw [hd1,List.length_drop];omega
 obtain ⟨z,hzz⟩:∃ z,lz d=z:=⟨_,rfl⟩
 have hhk:=hide hk1
 have hhd2:=hide hd2
 have hhfit:=hide hfit
 have hdg:=hide hdg
 clear hd1 hk1 hd2 hfit
 have ec:Hid (n - lz d=m∧c - lz d=c - z):=by constructor <;> omega
 rw [hzz] at hnc
 have hzz:=hide hzz
 clear hm hz
 go_enter Tryz.func198, Tryz.ntmps198
 go_wp2_with (go_at_call 223;refine (trimLeft_any b o n c d _ hd (by omega) hn hc hc' (hcell'.out _ _)).mono ?_;rintro e w' ⟨h1,_,rfl⟩;have h1:=h1 hz'.out;rw [ec.out.1,ec.out.2,hzz.out] at h1;obtain rfl:=h1)
 have hmz:((m:Int)==0)=false:=by simp;omega
 go_loop [1,2] (fun s e=>∃ k:Nat,k<m∧s=.slice (some ⟨b,o + z,none⟩) (m - k) (c - z)∧e=.int .i64 (x + k)∧Hid (∀ i (h:i<d1.length),m - k≤i→d1[i]=0)) (fun s _=>lenOf s)
 case atStart=>exact ⟨0,hm0,rfl,by simp,fun i h hi=>by omega⟩
 case round =>
  obtain ⟨k,hk,rfl,rfl,hzr⟩:=hrel
  obtain ⟨q,hq⟩:∃ q,d1[m - k - 1]'(by omega)=q:=⟨_,rfl⟩
  have hcl:=hcell'.out #[Value.bool false,Value.string {data:=#[]},Value.int IntKind.i64 0] 27 (z + (m - k - 1)) (by omega)
  have hq':d[z + (m - k - 1)]'(by omega)=q:=by
   rw [←hq,hg1.out (m - k - 1) (by omega) (by rw [hzz.out];omega)]
   simp only [hzz.out]
  rw [hq',←Nat.add_assoc] at hcl
  have hq:=hide hq
  clear hq'
  by_cases h0:q=0
  ·subst h0
   have hzr':Hid (∀ i (h:i<d1.length),m - (k + 1)≤i→d1[i]=0):=by
    show ∀ i (h:i<d1.length),m - (k + 1)≤i→d1[i]=0
    intro i h hi
    by_cases e:i=m - k - 1
    ·subst e;exact hq.out
    ·exact hzr.out i h (by omega)
   have hk':k + 1<m:=by
    by_cases e:k + 1<m
    ·exact e
    ·have h1:=hzr'.out 0 (by omega) (by omega)
     exact absurd (by rw [List.getElem?_eq_getElem (by omega),h1]) hne.out
   go_wp2
   refine ⟨⟨k + 1,hk',by rw [Nat.sub_sub],?_,hzr'.out⟩,by simp [lenOf];omega⟩
   show Value.int _ _=Value.int _ _
   congr 1
   omega
  ·have h0':((q:Int)==0)=false:=by simp;exact h0
   have hkk:k1=k:=by rw [hhk.out];exact tz_of d1 m k hd1l hk hzr.out (by rw [hq.out];exact h0)
   have hl2:d2.length=m - k:=by rw [hhd2.out,List.length_take,hkk];omega
   subst hkk
   have hl2':=hide hl2
   clear h0
   by_cases h40:40<m - k1
   ·go_wp2
    exact bodyPost_ret (v:=.tuple #[.agg #[.bool false,.string ⟨#[]⟩,.int .i64 0],.int .i64 2]) (by simp [results,Tryz.results198,go_sem]) rfl ⟨by
     have:fit=false:=by rw [hhfit.out];exact decide_eq_false (by omega)
     rw [this];rfl,(Below.refl _ _).alloc (Nat.le_refl _) _⟩
   by_cases he:-400≤x + k1∧x + k1≤400
   ·have e3:decide (-400≤x + k1∧x + k1≤400)=true:=decide_eq_true he
    have hft:Hid (fit=true):=by
     show fit=true
     rw [hhfit.out];exact decide_eq_true ⟨by omega,he⟩
    go_wp2_with (go_at_call 224;refine (expFits_any _ _).mono ?_;rintro e w' ⟨rfl,rfl⟩;rw [e3])
    have hg2:Hid (∀ i (h:i<d2.length) (h':z + i<d.length),d2[i]=d[z + i]):=by
     show ∀ i (h:i<d2.length) (h':z + i<d.length),d2[i]=d[z + i]
     intro i h h'
     simp only [hhd2.out,List.getElem_take]
     rw [hg1.out i (by omega) (by rw [hzz.out];exact h')]
     simp only [hzz.out]
    go_loopw [42] (fun i wr=>∃ k:Nat,k≤m - k1∧i=.int .i64 k∧Hid (Arr wr (w.heap.size + 1) 223 ((d2.take k).map (fun v=>48 + v)++List.replicate (40 - k) 0))∧Hid (Below (w.heap.size + 1) (w.alloc (.cells #[Value.bool false,Value.string {data:=#[]},Value.int IntKind.i64 0] 27)) wr)) (fun i _=>m - k1 - (intOf i).toNat)
    case atStart =>
     refine ⟨0,Nat.zero_le _,rfl,?_,?_⟩
     ·show Arr _ _ _ _
      rw [show w.heap.size + 1=(w.alloc (.cells #[Value.bool false,Value.string {data:=#[]},Value.int IntKind.i64 0] 27)).heap.size from by simp]
      exact arr_new _ _ 40 _ rfl
     ·exact (Below.refl _ _).alloc (by simp) _
    case round =>
     obtain ⟨k,hk,rfl,hAr,hB⟩:=hrel
     by_cases hlt:k<m - k1
     ·have hcl:=hcell'.out #[Value.bool false,Value.string {data:=#[]},Value.int IntKind.i64 0] 27 (z + k) (by omega)
      rw [←hB.out.cell (p:=⟨b,o + (z + k),none⟩) (by show b<_;omega),←hg2.out k (by omega) (by omega),←Nat.add_assoc] at hcl
      have hv9:d2[k]'(by omega)≤9:=by rw [hg2.out k (by omega) (by omega)];exact hdg.out _ (List.getElem_mem _)
      obtain ⟨v,hv⟩:∃ v,d2[k]'(by omega)=v:=⟨_,rfl⟩
      rw [hv] at hcl hv9
      have hcs:=hAr.out.cell k (by simp;omega)
      have hfz:=hAr.out.frozen k
      have hv:=hide hv
      have hset:Hid (((d2.take k).map (fun v=>48 + v)++List.replicate (40 - k) 0).set k (48 + v)=(d2.take (k + 1)).map (fun v=>48 + v)++List.replicate (40 - (k + 1)) 0):=by
       show _=_
       have hlen:((d2.take k).map (fun v=>48 + v)).length=k:=by simp;omega
       rw [List.set_append_right _ _ (by omega),hlen,Nat.sub_self,show 40 - k=(40 - (k + 1)) + 1 by omega,List.replicate_succ,List.set_cons_zero,List.take_succ_eq_append_getElem (by omega),List.map_append,hv.out]
       simp
      go_wp2
      refine ⟨⟨k + 1,by omega,by go_num,?_,?_⟩,by simp [intOf];omega⟩
      ·show Arr _ _ _ _
       rw [←hset.out]
       exact hAr.out.set k (48 + v)
      ·exact hB.out.setCell (Nat.le_refl _) _
     ·have hke:k=m - k1:=by omega
      subst hke
      have htk:d2.take (m - k1)=d2:=List.take_of_length_le (by omega)
      rw [htk] at hAr
      have hconv:(convert 124 9 (.slice (some ⟨w.heap.size + 1,0,none⟩) (m - k1) 40)).run Tryz.prog wr=.ok (.string (mkS d2)) wr:=by
       refine run_convert_bytes_arg (P:=Tryz.prog) wr 124 5 Tryz.underlying124 Tryz.underlying5 (w.heap.size + 1) 0 (m - k1) 40 (d2.map fun v:Nat=>((v:Int) + 48)) (by simp;omega) (fun i hi=>?_) 9 Tryz.underlying9
       rw [Nat.zero_add,hAr.out.cell i (by simp;omega)]
       congr 2
       rw [List.getElem_append_left (by simp;omega),List.getElem_map,List.getD_eq_getElem?_getD,List.getElem?_map,List.getElem?_eq_getElem (by omega)]
       simp;omega
      have hr0:=hB.out.cell (p:=⟨w.heap.size,0,none⟩) (Nat.lt_succ_self _)
      have hr1:=hB.out.cell (p:=⟨w.heap.size,1,none⟩) (Nat.lt_succ_self _)
      have hr2:=hB.out.cell (p:=⟨w.heap.size,2,none⟩) (Nat.lt_succ_self _)
      have hf0:=hB.out.frozen (p:=⟨w.heap.size,0,none⟩) (Nat.lt_succ_self _)
      have hf1:=hB.out.frozen (p:=⟨w.heap.size,1,none⟩) (Nat.lt_succ_self _)
      have hf2:=hB.out.frozen (p:=⟨w.heap.size,2,none⟩) (Nat.lt_succ_self _)
      simp [go_sem] at hr0 hr1 hr2 hf0 hf1 hf2
      clear htk
      go_wp2
      refine bodyPost_ret (v:=.tuple #[.agg #[.bool neg,.string (mkS d2),.int .i64 (x + k1)],.int .i64 0]) (by simp [results,Tryz.results198,go_sem,hr0,hr1,hr2]) rfl ⟨by rw [hft.out];rfl,?_⟩
      exact ((((((Below.refl _ w).alloc (Nat.le_refl _) _).trans (hB.out.mono (Nat.le_succ _))).setCell (Nat.le_refl _) _).setCell (Nat.le_refl _) _).setCell (Nat.le_refl _) _)
   ·have e3:decide (-400≤x + k1∧x + k1≤400)=false:=decide_eq_false he
    have hft:Hid (fit=false):=by
     show fit=false
     rw [hhfit.out];exact decide_eq_false (fun h=>he h.2)
    go_wp2_with (go_at_call 224;refine (expFits_any _ _).mono ?_;rintro e w' ⟨rfl,rfl⟩;rw [e3])
    exact bodyPost_ret (v:=.tuple #[.agg #[.bool false,.string ⟨#[]⟩,.int .i64 0],.int .i64 2]) (by simp [results,Tryz.results198,go_sem]) rfl ⟨by
     rw [hft.out];rfl,(Below.refl _ _).alloc (Nat.le_refl _) _⟩
end Go.Proofs.YtgicnopppgnjjaaGreatDoor
