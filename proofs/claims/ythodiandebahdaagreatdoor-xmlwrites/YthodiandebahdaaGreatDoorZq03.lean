/- Merged by program: JcHex, JdText, JeFhex, JfSmall, QaRef, QbZeros, QdMath, NuSplit, NxLay, ReText. -/
import Derived.Test.YthodiandebahdaaGreatDoorZq02
namespace Go.Proofs.YthodiandebahdaaGreatDoor
open Go.RowKit
set_option linter.unusedSimpArgs false
set_option linter.unusedVariables false
set_option maxHeartbeats 8000000
set_option maxRecDepth 100000 in
theorem jhex_any (s:ByteArray)(w:World)(hs:s.size≤40000) :
  Calls Tryz.prog 46 #[.string s] w fun e w'=>e=.returned (.string (mkB (hexL (bl s))))∧Below w.heap.size w w':=by
 have hw:IntKind.i64.wrap (2 * (s.size:Int))=2 * (s.size:Int):=by rw [IntKind.wrap_i64] <;> omega
 obtain ⟨i0,hi,hz0,hz1,hz2⟩:=info_parts info5
 go_enter Tryz.func46, Tryz.ntmps46
 go_wp2_with (refine wpList_make_own w rfl _ _ 32 rfl w.heap.size 5 i0 (.int .u8 0) 1 Tryz.underlying32 hi hz0 hz1 .i64 .i64 _ (2 * s.size) rfl rfl (by simp) (by rw [hz2];omega) (by unfold maxLen;omega) (Nat.le_refl _) ?_;refine Sto.out ?_)
 refine Sto.mk ?_
 intro w1 ho1 hg1
 have O1:Hid (Own w1 w.heap.size (.slice (some ⟨w.heap.size,0,none⟩) 0 (2 * s.size)) []):=ho1
 have B1:Hid (Below w.heap.size w w1):=(Below.refl _ w).grown hg1 (Nat.le_refl _) (fun k hk=>by cases hk)
 clear ho1 hg1 hi hz0 hz1 hz2
 go_wp2_with fail
 go_loopw [3,11] (fun b i W=>∃ (k:Nat)(a:Option Addr)(cp:Nat),i=.int .i64 k∧b=.slice a (2 * k) cp∧k≤s.size∧Hid (Own W w.heap.size (.slice a (2 * k) cp) (hexL ((bl s).take k))∧Below w.heap.size w W)) (fun _ i _=>s.size - (intOf i).toNat)
 case atStart=>exact ⟨0,_,_,rfl,rfl,Nat.zero_le _,hide ⟨by simpa [hexL] using O1.out,B1.out⟩⟩
 case round =>
  obtain ⟨k,a,cp,rfl,rfl,hk,HH⟩:=hrel
  obtain ⟨hO,hB⟩:=HH.out
  have OR:=hide hO
  have BR:=hide hB
  clear HH hO hB O1 B1
  have zr1:w.heap.size≤wr.heap.size:=BR.out.size
  by_cases hkl:k<s.size
  ·have hki:(k:Int)<(s.size:Int):=by omega
   have hst:=hide (show hexL ((bl s).take (k+1))=hexL ((bl s).take k)++[hx (s[k].toNat / 16),hx (s[k].toNat % 16)] by
    rw [List.take_succ_eq_append_getElem (by rw [bl_length];exact hkl),hexL_snoc,bl_get s k hkl])
   have hlen:(hexL ((bl s).take k)).length=2 * k:=by rw [hexL_len,List.length_take,bl_length];omega
   obtain ⟨c,hc⟩:∃ c,s[k]=c:=⟨_,rfl⟩
   have hcl:c.toNat<256:=c.toNat_lt
   have hm:bits .and .u8 (c.toNat:Int) 15=((c.toNat % 16:Nat):Int):=by
    have:=u8_and_nat c.toNat 15 hcl (by omega)
    rw [nat_mask4] at this
    exact this
   have hd1:c.toNat / 16<16:=by omega
   have hd2:c.toNat % 16<16:=by omega
   have hds1:c.toNat / 16<(⟨#[48,49,50,51,52,53,54,55,56,57,97,98,99,100,101,102]⟩:ByteArray).size:=hd1
   have hds2:c.toNat % 16<(⟨#[48,49,50,51,52,53,54,55,56,57,97,98,99,100,101,102]⟩:ByteArray).size:=hd2
   have hg1:=hxd_get (c.toNat / 16) hd1 hds1
   have hg2:=hxd_get (c.toNat % 16) hd2 hds2
   rw [hc] at hst
   have hlen':=hide hlen
   clear hlen
   have hn:=hide (news_two wr (hx (c.toNat / 16)) (hx (c.toNat % 16)) 5)
   have hq1:((c.toNat:Int) / 16).toNat=c.toNat / 16:=by omega
   have hq2:(0:Int)≤(c.toNat:Int) / 16:=by omega
   have hq3:(c.toNat:Int) / 16<16:=by omega
   have hq4:((c.toNat:Int) % 16).toNat=c.toNat % 16:=by omega
   have hq5:(0:Int)≤(c.toNat:Int) % 16:=by omega
   have hq6:(c.toNat:Int) % 16<16:=by omega
   go_wp2_with fail
   go_region_law (refine step_bytes rfl (.tmp 14) (.tmp 25) rfl w.heap.size (.slice a (2 * k) cp) (hexL ((bl s).take k)) rfl (ownsRow_of OR.out fun g hg hlt=>(show Below wr.heap.size wr _ by repeat (first|exact Below.refl _ _|refine Below.drew ?_|refine below_al ?_)).block g hlt) ⟨wr.heap.size,0,none⟩ 2 2 [hx (c.toNat / 16),hx (c.toNat % 16)] rfl rfl hn.out (by rw [hlen'.out];omega) (by simp;omega) (by omega) ?_;intro av c' w' ho hb hz;have hO':=hide ho.out;have hB':Hid (Below w.heap.size w w'):=(BR.out.trans ((show Below wr.heap.size wr _ by repeat (first|exact Below.refl _ _|refine Below.drew ?_|refine below_al ?_)).mono zr1)).trans hb.out;clear ho hb)
   all_goals
    go_wp2_with fail
    refine ⟨⟨k+1,av,c',by go_num,by rw [hlen'.out];rfl,hkl,hide ⟨?_,hB'.out⟩⟩,by simp [intOf];omega⟩
    rw [hst.out]
    have h1:=hO'.out
    rw [hlen'.out] at h1
    exact h1
  ·have hki:¬ ((k:Int)<(s.size:Int)):=by omega
   have hke:k=s.size:=by omega
   have hcv:=own_conv OR.out
   rw [List.take_of_length_le (by rw [bl_length];omega)] at hcv
   clear hkl hke
   go_wp2_with fail
   go_ret
   exact ⟨rfl,BR.out⟩
def escB (c:UInt8):List UInt8:=if c=34∨c=92 then [92,c] else if c.toNat<32 then [92,117,48,48,hx (c.toNat / 16),hx (c.toNat % 16)] else [c]
def escL (l:List UInt8):List UInt8:=l.flatMap escB
def quo (l:List UInt8):List UInt8:=34 :: (escL l++[34])
theorem bless (c:UInt8):Op.bytesLess [c] [32]=decide (c.toNat<32):=by
 simp [Op.bytesLess,UInt8.lt_iff_toNat_lt]
theorem WO.trans {i:Nat} {A T U:List UInt8} {W w1 w2:World} {e:Ending} (h1:FW i W w1)(hA:A.length+T.length≤65536)(h2:WO i (A++T) U w1 e w2):WO i A (T++U) W e w2:=by
 obtain ⟨hb,h⟩:=h2
 refine ⟨h1.trans hb,?_⟩
 rcases h with ⟨q1,q2,q3⟩|⟨q1,q2⟩
 ·exact Or.inl ⟨by simp at q1 ⊢;omega,q2,by simpa using q3⟩
 ·exact Or.inr ⟨by simp at q1 ⊢;omega,q2⟩
theorem byte_str (s:ByteArray)(k:Nat)(h:k<s.size):s.extract k (k+1)=mkB [s[k]]:=by
 apply ByteArray.ext
 simp [mkB,ByteArray.data_extract]
 apply Array.ext
 ·simp;omega
 ·intro i h1 h2
  simp at h1 h2
  have:i=0:=by omega
  subst this
  simp
  rfl
theorem jcat_run (a b c:ByteArray)(w:World)(h:a++b=c)(hs:a.size+b.size≤100000):(Op.stringOp .add a b).run Tryz.prog w=.ok (.string c) w:=by
 rw [←h];exact run_string_add_sum w a b (by omega)
theorem WB.below {W W1:World} {i:Nat} {A:List UInt8} (h:WB W i A)(hb:Below W.heap.size W W1):WB W1 i A:=by
 have hlt:=h.lt
 obtain ⟨v,h1,h2⟩:=h
 exact ⟨v,(hb.block i hlt).trans h1,ownsRow_of h2 fun g _ hg=>hb.block g hg⟩
def fhd (d:Nat):Nat:=if d<10 then 48+d else 87+d
def flowL (b:Nat):Nat→List Nat
 | 0=>[]
 | k+1=>fhd (b / 16 ^ k % 16) :: flowL b k
theorem flowL_len (b k:Nat):(flowL b k).length=k:=by
 induction k with
 | zero=>rfl
 | succ k ih=>simp [flowL,ih]
def fhexS (b:Nat):ByteArray:=strOfNums ((flowL b 16).map fun v:Nat=>(v:Int))
theorem fhexd_get (d:Nat)(h:d<16)(h':d<(⟨#[48,49,50,51,52,53,54,55,56,57,97,98,99,100,101,102]⟩:ByteArray).size):((⟨#[48,49,50,51,52,53,54,55,56,57,97,98,99,100,101,102]⟩:ByteArray)[d]).toNat=fhd d:=by
 have:d=0∨d=1∨d=2∨d=3∨d=4∨d=5∨d=6∨d=7∨d=8∨d=9∨d=10∨d=11∨d=12∨d=13∨d=14∨d=15:=by omega
 rcases this with rfl|rfl|rfl|rfl|rfl|rfl|rfl|rfl|rfl|rfl|rfl|rfl|rfl|rfl|rfl|rfl <;> rfl
theorem fhex_any (b:Nat)(w:World)(hb:b<18446744073709551616) :
  Calls Tryz.prog 44 #[.int .u64 b] w fun e w'=>e=.returned (.string (fhexS b))∧Below w.heap.size w w':=by
 go_enter Tryz.func44, Tryz.ntmps44
 go_wp2
 go_loopw [0,5] (fun x i wr=>∃ k:Nat,k≤16∧i=.int .i64 k∧x=.int .u64 (b / 16 ^ k:Nat)∧Hid (Arr wr w.heap.size 108 (List.replicate (16 - k) 0++flowL b k))∧Hid (Below w.heap.size w wr)) (fun x i _=>16 - (intOf i).toNat)
 case atStart =>
  refine ⟨0,by omega,rfl,by simp,?_,?_⟩
  ·exact arr_new _ _ 16 _ rfl
  ·exact below_al (Below.refl _ _)
 case round =>
  obtain ⟨k,hk,rfl,rfl,hAr,hB⟩:=hrel
  obtain ⟨y,hy⟩:∃ y,b / 16 ^ k=y:=⟨_,rfl⟩
  have hyb:y<18446744073709551616:=by rw [←hy];exact Nat.lt_of_le_of_lt (Nat.div_le_self _ _) hb
  have hy1:=hide (show b / 16 ^ (k+1)=y / 16 by rw [Nat.pow_succ,←Nat.div_div_eq_div_mul,hy])
  rw [hy]
  by_cases hlt:k<16
  ·obtain ⟨d,hdd⟩:∃ d,y % 16=d:=⟨_,rfl⟩
   have hd16:d<16:=by omega
   have hm:bits .and .u64 (y:Int) 15=(d:Int):=by
    have:=u64_and_nat y 15 hyb (by omega)
    rw [nat_mask4,hdd] at this
    exact this
   have hds:d<(⟨#[48,49,50,51,52,53,54,55,56,57,97,98,99,100,101,102]⟩:ByteArray).size:=hd16
   have hg:=fhexd_get d hd16 hds
   have hcs:=hAr.out.cell (15 - k) (by simp;omega)
   have hfz:=hAr.out.frozen (15 - k)
   have hlow:=hide (show flowL b (k+1)=fhd d :: flowL b k by simp only [flowL];rw [hy,hdd])
   have hy:=hide hy
   have hi1:(0:Int)≤15 - (k:Int):=by omega
   have hi2:(15:Int) - (k:Int)<16:=by omega
   have hi3:((15:Int) - (k:Int)).toNat=15 - k:=by omega
   have hset:Hid ((List.replicate (16 - k) 0++flowL b k).set (15 - k) (fhd d)=List.replicate (16 - (k+1)) 0++flowL b (k+1)):=by
    show _=_
    rw [hlow.out,show 16 - k=(16 - (k+1))+1 by omega,List.replicate_succ',List.append_assoc,List.set_append_right _ _ (by simp <;> omega),List.length_replicate,show 15 - k - (16 - (k+1))=0 by omega]
    rfl
   go_wp2
   refine ⟨⟨k+1,by omega,by go_num,by rw [hy1.out];rfl,?_,?_⟩,by simp [intOf];omega⟩
   ·show Arr _ _ _ _
    rw [←hset.out]
    exact hAr.out.set (15 - k) (fhd d)
   ·exact hB.out.setCell (Nat.le_refl _) _
  ·have hke:k=16:=by omega
   subst hke
   have hAr':Hid (Arr wr w.heap.size 108 (flowL b 16)):=by
    have:=hAr.out
    show Arr _ _ _ _
    simpa using this
   have hl:=flowL_len b 16
   have hconv:(convert 32 9 (.slice (some ⟨w.heap.size,0,none⟩) 16 16)).run Tryz.prog wr=.ok (.string (fhexS b)) wr:=by
    refine run_convert_bytes_arg (P:=Tryz.prog) wr 32 5 Tryz.underlying32 Tryz.underlying5 w.heap.size 0 16 16 ((flowL b 16).map fun v:Nat=>(v:Int)) (by simp [hl]) (fun i hi=>?_) 9 Tryz.underlying9
    rw [Nat.zero_add,hAr'.out.cell i (by omega)]
    congr 2
    rw [List.getD_eq_getElem?_getD,List.getElem?_map,List.getElem?_eq_getElem (by omega)]
    rfl
   clear hl
   go_wp2
   go_ret
   exact ⟨rfl,hB.out⟩
def nmd (a b:List UInt8):List UInt8:=[123]++(quo a++([58]++(quo b++[125])))
def flgL (b:Bool):List UInt8:=bif b then [116,114,117,101] else [102,97,108,115,101]
def cmL (n:Nat):List UInt8:=bif n==0 then [] else [44]
theorem allD_of (s:ByteArray)(h:∀ j (h:j<s.size),isDig s[j]=true):allD (bl s)=true:=by
 unfold allD;rw [List.all_eq_true]
 intro c hc
 obtain ⟨i,hi,rfl⟩:=List.getElem_of_mem hc
 rw [bl_length] at hi
 rw [bl_get s i hi];exact h i hi
theorem rall_any (s:ByteArray)(w:World)(hs:s.size≤maxLen) :
  Calls Tryz.prog 104 #[.string s] w fun e w'=>e=.returned (.bool (allD (bl s) && decide (0<s.size)))∧w'=w:=by
 unfold maxLen at hs
 go_enter Tryz.func104, Tryz.ntmps104
 go_wp2
 go_loop [3] (fun i=>∃ k:Nat,k≤s.size∧i=.int .i64 k∧Hid (∀ j (hj:j<k)(h:j<s.size),isDig s[j]=true)) (fun i=>s.size - (intOf i).toNat)
 case atStart=>exact ⟨0,Nat.zero_le _,rfl,fun j hj=>by omega⟩
 case round =>
  obtain ⟨k,hk,rfl,hall⟩:=hrel
  by_cases hlt:k<s.size
  ·by_cases hd:isDig s[k]=true
   ·have hd':=(isDig_iff _).1 hd
    have h1:=hd'.1
    have h2:=hd'.2
    have HH:=hide hd
    clear hd hd'
    go_wp2
    go_round
    case rel=>exact ⟨k+1,by omega,by go_num,fun j hj h=>by
     by_cases e:j=k
     ·subst e;exact HH.out
     ·exact hall.out j (by omega) h⟩
    case measure=>simp [intOf];omega
   ·have hno:=hide (show allD (bl s)=false by
     cases ha:allD (bl s)
     ·rfl
     ·exfalso;apply hd
      have:=allD_get s ha k hlt
      rw [isDig_iff];omega)
    have hd':¬ (48≤(s[k].toNat:Int)∧(s[k].toNat:Int)≤57):=fun h=>hd ((isDig_iff _).2 h)
    clear hd
    go_wp2
    all_goals
     go_ret
     exact ⟨ret_bool (by rw [hno.out];rfl),rfl⟩
  ·have hyes:=hide (allD_of s (fun j h=>hall.out j (by omega) h))
   go_wp2
   go_ret
   refine ⟨ret_bool ?_,rfl⟩
   rw [hyes.out,Bool.true_and]
theorem isN_zero_digits (n:Bool)(s:ByteArray)(x:Int)(h:s.toList=[48]):isN n s x=(!n && x==0):=by
 rw [bl_toList] at h
 have ho:isO [48] x=false:=by unfold isO;simp
 simp [isN,isZ,h,ho]
theorem isN_other (n:Bool)(s:ByteArray)(x:Int)(h:¬ s.toList=[48]):isN n s x=isO (bl s) x:=by
 rw [bl_toList] at h
 have hz:isZ n s x=false:=by simp [isZ,h]
 simp [isN,hz]
theorem ris_any (n:Bool)(s:ByteArray)(x:Int)(w:World)(hs:s.size≤maxLen) :
  Calls Tryz.prog 81 #[.agg #[.bool n,.string s,.int .i64 x]] w fun e w'=>e=.returned (.bool (isN n s x))∧Below w.heap.size w w':=by
 by_cases hz:s.toList=[48]
 ·have hr:=hide (isN_zero_digits n s x hz)
  cases n
  all_goals
   go_enter Tryz.func81, Tryz.ntmps81
   go_wp2
   go_ret
   exact ⟨ret_bool (by rw [hr.out];rfl),(Below.refl _ _).alloc (Nat.le_refl _) _⟩
 ·have hr:=hide (isN_other n s x hz)
  have hzb:(s.toList==[48])=false:=by simpa using hz
  clear hz
  by_cases h0:0<s.size
  ·have hO:=hide (isO_at s x h0)
   have h0i:(0:Int)<s.size:=by omega
   cases had:allD (bl s)
   ·have had':=hide (show (allD (bl s) && decide (0<s.size))=false by rw [had];rfl)
    go_enter Tryz.func81, Tryz.ntmps81
    go_wp2_with (go_at_call 104;go_fit (rall_any s _ hs);rw [had'.out];rintro e w' ⟨rfl,rfl⟩)
    go_ret
    exact ⟨ret_bool (by rw [hr.out,hO.out,had];simp),(Below.refl _ _).alloc (Nat.le_refl _) _⟩
   ·have had':=hide (show (allD (bl s) && decide (0<s.size))=true by rw [had];simp [h0])
    by_cases h40:(s.size:Int)≤40
    ·by_cases hx1:-400≤x
     ·go_enter Tryz.func81, Tryz.ntmps81
      go_wp2_with (go_at_call 104;go_fit (rall_any s _ hs);rw [had'.out];rintro e w' ⟨rfl,rfl⟩)
      all_goals
       go_ret
       refine ⟨ret_bool ?_,(Below.refl _ _).alloc (Nat.le_refl _) _⟩
       have h40':s.size≤40:=by omega
       rw [hr.out,hO.out,had]
       simp only [←bne48]
       simp [h40',hx1, *]
       try rw [Bool.and_comm,Bool.and_assoc]
     ·have hx1':decide (-400≤x)=false:=decide_eq_false hx1
      go_enter Tryz.func81, Tryz.ntmps81
      go_wp2_with (go_at_call 104;go_fit (rall_any s _ hs);rw [had'.out];rintro e w' ⟨rfl,rfl⟩)
      all_goals
       go_ret
       refine ⟨ret_bool ?_,(Below.refl _ _).alloc (Nat.le_refl _) _⟩
       rw [hr.out,hO.out,had]
       simp
       intros
       omega
    ·have h40':decide ((s.size:Int)≤40)=false:=decide_eq_false h40
     go_enter Tryz.func81, Tryz.ntmps81
     go_wp2_with (go_at_call 104;go_fit (rall_any s _ hs);rw [had'.out];rintro e w' ⟨rfl,rfl⟩)
     go_ret
     refine ⟨ret_bool ?_,(Below.refl _ _).alloc (Nat.le_refl _) _⟩
     rw [hr.out,hO.out,had]
     simp;omega
  ·have hOz:=hide (show isO (bl s) x=false by unfold isO;rw [bl_length];simp;omega)
   have had':=hide (show (allD (bl s) && decide (0<s.size))=false by simp [h0])
   go_enter Tryz.func81, Tryz.ntmps81
   go_wp2_with (go_at_call 104;go_fit (rall_any s _ hs);rw [had'.out];rintro e w' ⟨rfl,rfl⟩)
   go_ret
   exact ⟨ret_bool (by rw [hr.out,hOz.out]),(Below.refl _ _).alloc (Nat.le_refl _) _⟩
def lenS:Value→Nat | .string s=>s.size|_=>0
theorem mkB_app (a b:List UInt8):mkB a++mkB b=mkB (a++b):=by
 apply ByteArray.ext
 simp [mkB]
theorem mkS_mkB (l:List Nat):mkS l=mkB (l.map fun v=>UInt8.ofNat (v+48)):=by rw [←mkS_bl,mkB_bl]
theorem mkS_app (a b:List Nat):mkS a++mkS b=mkS (a++b):=by rw [mkS_mkB,mkS_mkB,mkS_mkB,mkB_app,List.map_append]
theorem mkS_0:mkS [0]=⟨#[48]⟩:=rfl
theorem zeros_any (n:Nat)(w:World)(hn:n≤100000) :
  Calls Tryz.prog 82 #[.int .i64 n] w fun e w'=>e=.returned (.string (mkS (List.replicate n 0)))∧w'=w:=by
 go_enter Tryz.func82, Tryz.ntmps82
 go_wp2
 go_loop [3,4] (fun s i=>∃ k:Nat,k≤n∧i=.int .i64 k∧s=.string (mkS (List.replicate k 0))) (fun s i=>n - (intOf i).toNat)
 case atStart=>exact ⟨0,Nat.zero_le _,rfl,rfl⟩
 case round =>
  obtain ⟨k,hk,rfl,rfl⟩:=hrel
  by_cases hlt:k<n
  ·have hsz:(mkS (List.replicate k 0)).size=k:=by rw [mkS_size,List.length_replicate]
   go_wp2
   refine ⟨⟨k+1,by omega,by go_num,?_⟩,by simp [intOf];omega⟩
   show Value.string _=Value.string _
   congr 1
   rw [←mkS_0,mkS_app,←List.replicate_succ']
  ·have hke:k=n:=by omega
   subst hke
   go_wp2
   go_ret
   exact ⟨rfl,rfl⟩
theorem Dgs.put {d:Nat} {l:List Nat} (h:d≤9)(hl:Dgs l):Dgs (d :: l):=by
 intro x hx
 rcases List.mem_cons.1 hx with e|e
 ·rw [e];exact h
 ·exact hl x e
theorem dig_piece (r:Nat)(h:r≤9):(⟨#[48,49,50,51,52,53,54,55,56,57]⟩:ByteArray).extract r (r+1)=mkS [r]:=by
 have:r=0∨r=1∨r=2∨r=3∨r=4∨r=5∨r=6∨r=7∨r=8∨r=9:=by omega
 rcases this with rfl|rfl|rfl|rfl|rfl|rfl|rfl|rfl|rfl|rfl <;> rfl
def PBox (W:World)(i:Nat)(n:Bool)(wh fr:ByteArray)(pn:Bool)(pw:ByteArray):Prop:=W.heap[i]?=some (.cells #[.bool n,.string wh,.string fr,.bool pn,.string pw] 194 (0,0))
section
variable {W W1 : World} {i j o B b : Nat} {n n' pn pn' : Bool} {wh wh' fr fr' pw pw' : ByteArray} {v : Value}
theorem PBox.cells (h:PBox W i n wh fr pn pw) :
  W.cell? ⟨i,0,none⟩=some (.bool n)∧W.cell? ⟨i,1,none⟩=some (.string wh)∧W.cell? ⟨i,2,none⟩=some (.string fr)∧W.cell? ⟨i,3,none⟩=some (.bool pn)∧W.cell? ⟨i,4,none⟩=some (.string pw) ∧
  W.frozen? ⟨i,0,none⟩=false∧W.frozen? ⟨i,1,none⟩=false∧W.frozen? ⟨i,2,none⟩=false∧W.frozen? ⟨i,3,none⟩=false∧W.frozen? ⟨i,4,none⟩=false:=by
 unfold PBox at h
 simp [World.cell?,World.frozen?,h]
theorem PBox.lt (h:PBox W i n wh fr pn pw):i<W.heap.size:=by
 unfold PBox at h
 by_cases hlt:i<W.heap.size
 ·exact hlt
 ·have hn:W.heap[i]?=none:=by simp;omega
  rw [hn] at h;cases h
theorem PBox.below (h:PBox W i n wh fr pn pw)(hb:Below B W W1)(hi:i<B):PBox W1 i n wh fr pn pw:=by
 unfold PBox at h ⊢;rw [hb.block i hi];exact h
theorem PBox.only (h:PBox W i n wh fr pn pw)(hb:Only b W W1)(hi:i≠b):PBox W1 i n wh fr pn pw:=by
 unfold PBox at h ⊢;rw [hb.block i hi];exact h
theorem PBox.other (h:PBox W i n wh fr pn pw)(hij:i≠j):PBox (W.setCell ⟨j,o,none⟩ v) i n wh fr pn pw:=by
 unfold PBox at h ⊢;rw [Below.heap_setCell _ _ _ _ hij];exact h
theorem PBox.drew (h:PBox W i n wh fr pn pw):PBox W.drew i n wh fr pn pw:=h
theorem PBox.set0 (h:PBox W i n wh fr pn pw):PBox (W.setCell ⟨i,0,none⟩ (.bool n')) i n' wh fr pn pw:=by
 unfold PBox at h ⊢
 simp only [World.setCell,Array.getElem?_modify,if_true,h,Option.map_some]
 simp
theorem PBox.set1 (h:PBox W i n wh fr pn pw):PBox (W.setCell ⟨i,1,none⟩ (.string wh')) i n wh' fr pn pw:=by
 unfold PBox at h ⊢
 simp only [World.setCell,Array.getElem?_modify,if_true,h,Option.map_some]
 simp
theorem PBox.set2 (h:PBox W i n wh fr pn pw):PBox (W.setCell ⟨i,2,none⟩ (.string fr')) i n wh fr' pn pw:=by
 unfold PBox at h ⊢
 simp only [World.setCell,Array.getElem?_modify,if_true,h,Option.map_some]
 simp
theorem PBox.alloc (h:PBox W i n wh fr pn pw)(o:Obj):PBox (W.alloc o) i n wh fr pn pw:=by
 have hl:=h.lt
 unfold PBox at h ⊢
 rw [←h]
 exact Below.heap_alloc W o i hl
end
theorem pbox_new (w:World)(n:Bool)(wh fr:ByteArray)(pn:Bool)(pw:ByteArray):PBox (w.alloc (.cells #[.bool n,.string wh,.string fr,.bool pn,.string pw] 194)) w.heap.size n wh fr pn pw:=by
 unfold PBox
 show (w.heap.push _)[w.heap.size]?=_
 simp
structure Two5 (w W:World)(n:Bool)(wh fr:ByteArray)(pn:Bool)(pw:ByteArray)(n':Bool)(wh' fr':ByteArray)(pn':Bool)(pw':ByteArray):Prop where
 below:Below w.heap.size w W
 b0:PBox W w.heap.size n wh fr pn pw
 b1:PBox W (w.heap.size+1) n' wh' fr' pn' pw'
section
variable {w W W1 : World} {n n' pn pn' : Bool} {wh wh' fr fr' pw pw' : ByteArray}
theorem Two5.then (h:Two5 w W n wh fr pn pw n' wh' fr' pn' pw')(hb:Below W.heap.size W W1):Two5 w W1 n wh fr pn pw n' wh' fr' pn' pw' :=
 ⟨below_then h.below hb,h.b0.below hb h.b0.lt,h.b1.below hb h.b1.lt⟩
theorem Two5.drew (h:Two5 w W n wh fr pn pw n' wh' fr' pn' pw'):Two5 w W.drew n wh fr pn pw n' wh' fr' pn' pw':=⟨h.below.drew,h.b0,h.b1⟩
end
theorem two5_new (w:World)(n:Bool)(wh fr:ByteArray)(pn:Bool)(pw:ByteArray)(n':Bool)(wh' fr':ByteArray)(pn':Bool)(pw':ByteArray) :
  Two5 w ((w.alloc (.cells #[.bool n,.string wh,.string fr,.bool pn,.string pw] 194)).alloc (.cells #[.bool n',.string wh',.string fr',.bool pn',.string pw'] 194)) n wh fr pn pw n' wh' fr' pn' pw':=by
 refine ⟨below_al (below_al (Below.refl _ _)),(pbox_new w n wh fr pn pw).alloc _,?_⟩
 have:=pbox_new (w.alloc (.cells #[.bool n,.string wh,.string fr,.bool pn,.string pw] 194)) n' wh' fr' pn' pw'
 simpa using this
theorem below_set {w W:World} {i o:Nat} {v:Value} (h:Below w.heap.size w W)(hi:w.heap.size≤i):Below w.heap.size w (W.setCell ⟨i,o,none⟩ v):=h.setCell hi v
def spPn (l:List UInt8):Bool:=if hdB 43 l then false else hdB 45 l
def spL (l:List UInt8):List UInt8:=if hdB 43 l then tlB 43 l else tlB 45 l
def spOk (l:List UInt8):Bool:=!(spL l).isEmpty && allD (spL l)
theorem tlB_no {c:UInt8} {l:List UInt8} (h:hdB c l=false):tlB c l=l:=by unfold tlB;rw [h];rfl
def partsE (ok:Bool)(n:Bool)(wh fr:ByteArray)(pn:Bool)(pw:ByteArray):Ending :=
 if ok then .returned (.tuple #[.agg #[.bool n,.string wh,.string fr,.bool pn,.string pw],.bool true]) else .returned (.tuple #[.agg #[.bool false,.string ⟨#[]⟩,.string ⟨#[]⟩,.bool false,.string ⟨#[]⟩],.bool false])
theorem splitPower_any (n:Bool)(wh fr pw:ByteArray)(s:ByteArray)(w:World)(hs:s.size≤100000)(ok:Bool)(hok:spOk (bl s)=ok) :
  Calls Tryz.prog 191 #[.agg #[.bool n,.string wh,.string fr,.bool false,.string pw],.string s] w fun e w' =>
   e=partsE ok n wh fr (spPn (bl s)) (mkB (spL (bl s)))∧Below w.heap.size w w':=by
 have ml:maxLen=2 ^ 63 - 1:=rfl
 have HT:=hide (two5_new w n wh fr false pw false ⟨#[]⟩ ⟨#[]⟩ false ⟨#[]⟩)
 cases hp:hdB 43 (bl s)
 ·have hL:spL (bl s)=tlB 45 (bl s):=by unfold spL;rw [hp];rfl
  have hP:spPn (bl s)=hdB 45 (bl s):=by unfold spPn;rw [hp];rfl
  have hok':Hid ((!(tlB 45 (bl s)).isEmpty && allD (tlB 45 (bl s)))=ok):=by rw [←hok,spOk,hL];exact rfl
  rw [hL,hP]
  have hlen:=tlB_length 45 (bl s)
  rw [bl_length] at hlen
  have hsz:=mkB_size (tlB 45 (bl s))
  have hnil:=mkB_nil (tlB 45 (bl s))
  have t43:=hide (tlB_no hp)
  clear hok hL hP
  obtain ⟨l,hl⟩:∃ l,tlB 45 (bl s)=l:=⟨_,rfl⟩
  rw [hl] at hok' hlen hsz hnil ⊢
  have hl:=hide hl
  cases hem:l.isEmpty
  ·rw [hem] at hnil
   cases had:allD l
   ·have hf:ok=false:=by rw [←hok'.out,hem,had];rfl
    subst hf
    clear hok'
    go_enter Tryz.func191, Tryz.ntmps191
    go_wp2_with fail
    refine (cutByte_any s 43 _ _ rfl hs).mono ?_
    rw [hp,t43.out,mkB_bl]
    rintro e w1 ⟨rfl,hb1⟩
    have H1:=hide (HT.out.then hb1)
    clear HT hb1
    obtain ⟨c0,c1,c2,c3,c4,f0,f1,f2,f3,f4⟩:=H1.out.b0.cells
    obtain ⟨d0,d1,d2,d3,d4,g0,g1,g2,g3,g4⟩:=H1.out.b1.cells
    go_wp2_with fail
    refine (cutByte_any s 45 _ _ rfl hs).mono ?_
    rw [hl.out]
    rintro e w2 ⟨rfl,hb2⟩
    have H2:=hide (H1.out.then hb2)
    clear c0 c1 c2 c3 c4 f0 f1 f2 f3 f4 d0 d1 d2 d3 d4 g0 g1 g2 g3 g4 H1 hb2
    obtain ⟨c0,c1,c2,c3,c4,f0,f1,f2,f3,f4⟩:=H2.out.b0.cells
    obtain ⟨d0,d1,d2,d3,d4,g0,g1,g2,g3,g4⟩:=H2.out.b1.cells
    have hadb:=hide had
    go_wp2_with (go_at_call 123;refine (areDigits_any _ _ (by omega)).mono ?_;rw [bl_mkB,hadb.out];rintro e w3 ⟨rfl,rfl⟩)
    refine bodyPost_ret (v:=.tuple #[.agg #[.bool false,.string ⟨#[]⟩,.string ⟨#[]⟩,.bool false,.string ⟨#[]⟩],.bool false]) (by simp [results,Tryz.results191,go_sem,d0,d1,d2,d3,d4]) rfl ⟨rfl,?_⟩
    iterate 6 refine below_set ?_ (by omega)
    exact H2.out.below
   ·have hf:ok=true:=by rw [←hok'.out,hem,had];rfl
    subst hf
    clear hok'
    go_enter Tryz.func191, Tryz.ntmps191
    go_wp2_with fail
    refine (cutByte_any s 43 _ _ rfl hs).mono ?_
    rw [hp,t43.out,mkB_bl]
    rintro e w1 ⟨rfl,hb1⟩
    have H1:=hide (HT.out.then hb1)
    clear HT hb1
    obtain ⟨c0,c1,c2,c3,c4,f0,f1,f2,f3,f4⟩:=H1.out.b0.cells
    obtain ⟨d0,d1,d2,d3,d4,g0,g1,g2,g3,g4⟩:=H1.out.b1.cells
    go_wp2_with fail
    refine (cutByte_any s 45 _ _ rfl hs).mono ?_
    rw [hl.out]
    rintro e w2 ⟨rfl,hb2⟩
    have H2:=hide (H1.out.then hb2)
    clear c0 c1 c2 c3 c4 f0 f1 f2 f3 f4 d0 d1 d2 d3 d4 g0 g1 g2 g3 g4 H1 hb2
    obtain ⟨c0,c1,c2,c3,c4,f0,f1,f2,f3,f4⟩:=H2.out.b0.cells
    obtain ⟨d0,d1,d2,d3,d4,g0,g1,g2,g3,g4⟩:=H2.out.b1.cells
    have hadb:=hide had
    go_wp2_with (go_at_call 123;refine (areDigits_any _ _ (by omega)).mono ?_;rw [bl_mkB,hadb.out];rintro e w3 ⟨rfl,rfl⟩)
    refine bodyPost_ret (v:=.tuple #[.agg #[.bool n,.string wh,.string fr,.bool (hdB 45 (bl s)),.string (mkB l)],.bool true]) (by simp [results,Tryz.results191,go_sem,d0,d1,d2,d3,d4]) rfl ⟨rfl,?_⟩
    iterate 7 refine below_set ?_ (by omega)
    exact H2.out.below
  ·rw [hem] at hnil
   have hf:ok=false:=by rw [←hok'.out,hem];rfl
   subst hf
   clear hok'
   go_enter Tryz.func191, Tryz.ntmps191
   go_wp2_with fail
   refine (cutByte_any s 43 _ _ rfl hs).mono ?_
   rw [hp,t43.out,mkB_bl]
   rintro e w1 ⟨rfl,hb1⟩
   have H1:=hide (HT.out.then hb1)
   clear HT hb1
   obtain ⟨c0,c1,c2,c3,c4,f0,f1,f2,f3,f4⟩:=H1.out.b0.cells
   obtain ⟨d0,d1,d2,d3,d4,g0,g1,g2,g3,g4⟩:=H1.out.b1.cells
   go_wp2_with fail
   refine (cutByte_any s 45 _ _ rfl hs).mono ?_
   rw [hl.out]
   rintro e w2 ⟨rfl,hb2⟩
   have H2:=hide (H1.out.then hb2)
   clear c0 c1 c2 c3 c4 f0 f1 f2 f3 f4 d0 d1 d2 d3 d4 g0 g1 g2 g3 g4 H1 hb2
   obtain ⟨c0,c1,c2,c3,c4,f0,f1,f2,f3,f4⟩:=H2.out.b0.cells
   obtain ⟨d0,d1,d2,d3,d4,g0,g1,g2,g3,g4⟩:=H2.out.b1.cells
   go_wp2
   refine bodyPost_ret (v:=.tuple #[.agg #[.bool false,.string ⟨#[]⟩,.string ⟨#[]⟩,.bool false,.string ⟨#[]⟩],.bool false]) (by simp [results,Tryz.results191,go_sem,d0,d1,d2,d3,d4]) rfl ⟨rfl,?_⟩
   iterate 6 refine below_set ?_ (by omega)
   exact H2.out.below
 ·have hL:spL (bl s)=tlB 43 (bl s):=by unfold spL;rw [hp];rfl
  have hP:spPn (bl s)=false:=by unfold spPn;rw [hp];rfl
  have hok':Hid ((!(tlB 43 (bl s)).isEmpty && allD (tlB 43 (bl s)))=ok):=by rw [←hok,spOk,hL];exact rfl
  rw [hL,hP]
  have hlen:=tlB_length 43 (bl s)
  rw [bl_length] at hlen
  have hsz:=mkB_size (tlB 43 (bl s))
  have hnil:=mkB_nil (tlB 43 (bl s))
  clear hok hL hP
  obtain ⟨l,hl⟩:∃ l,tlB 43 (bl s)=l:=⟨_,rfl⟩
  rw [hl] at hok' hlen hsz hnil ⊢
  have hl:=hide hl
  cases hem:l.isEmpty
  ·rw [hem] at hnil
   cases had:allD l
   ·have hf:ok=false:=by rw [←hok'.out,hem,had];rfl
    subst hf
    clear hok'
    go_enter Tryz.func191, Tryz.ntmps191
    go_wp2_with fail
    refine (cutByte_any s 43 _ _ rfl hs).mono ?_
    rw [hp,hl.out]
    rintro e w1 ⟨rfl,hb1⟩
    have H1:=hide (HT.out.then hb1)
    clear HT hb1
    obtain ⟨c0,c1,c2,c3,c4,f0,f1,f2,f3,f4⟩:=H1.out.b0.cells
    obtain ⟨d0,d1,d2,d3,d4,g0,g1,g2,g3,g4⟩:=H1.out.b1.cells
    have hadb:=hide had
    go_wp2_with (go_at_call 123;refine (areDigits_any _ _ (by omega)).mono ?_;rw [bl_mkB,hadb.out];rintro e w3 ⟨rfl,rfl⟩)
    refine bodyPost_ret (v:=.tuple #[.agg #[.bool false,.string ⟨#[]⟩,.string ⟨#[]⟩,.bool false,.string ⟨#[]⟩],.bool false]) (by simp [results,Tryz.results191,go_sem,d0,d1,d2,d3,d4]) rfl ⟨rfl,?_⟩
    iterate 5 refine below_set ?_ (by omega)
    exact H1.out.below
   ·have hf:ok=true:=by rw [←hok'.out,hem,had];rfl
    subst hf
    clear hok'
    go_enter Tryz.func191, Tryz.ntmps191
    go_wp2_with fail
    refine (cutByte_any s 43 _ _ rfl hs).mono ?_
    rw [hp,hl.out]
    rintro e w1 ⟨rfl,hb1⟩
    have H1:=hide (HT.out.then hb1)
    clear HT hb1
    obtain ⟨c0,c1,c2,c3,c4,f0,f1,f2,f3,f4⟩:=H1.out.b0.cells
    obtain ⟨d0,d1,d2,d3,d4,g0,g1,g2,g3,g4⟩:=H1.out.b1.cells
    have hadb:=hide had
    go_wp2_with (go_at_call 123;refine (areDigits_any _ _ (by omega)).mono ?_;rw [bl_mkB,hadb.out];rintro e w3 ⟨rfl,rfl⟩)
    refine bodyPost_ret (v:=.tuple #[.agg #[.bool n,.string wh,.string fr,.bool false,.string (mkB l)],.bool true]) (by simp [results,Tryz.results191,go_sem,d0,d1,d2,d3,d4]) rfl ⟨rfl,?_⟩
    iterate 6 refine below_set ?_ (by omega)
    exact H1.out.below
  ·rw [hem] at hnil
   have hf:ok=false:=by rw [←hok'.out,hem];rfl
   subst hf
   clear hok'
   go_enter Tryz.func191, Tryz.ntmps191
   go_wp2_with fail
   refine (cutByte_any s 43 _ _ rfl hs).mono ?_
   rw [hp,hl.out]
   rintro e w1 ⟨rfl,hb1⟩
   have H1:=hide (HT.out.then hb1)
   clear HT hb1
   obtain ⟨c0,c1,c2,c3,c4,f0,f1,f2,f3,f4⟩:=H1.out.b0.cells
   obtain ⟨d0,d1,d2,d3,d4,g0,g1,g2,g3,g4⟩:=H1.out.b1.cells
   go_wp2
   refine bodyPost_ret (v:=.tuple #[.agg #[.bool false,.string ⟨#[]⟩,.string ⟨#[]⟩,.bool false,.string ⟨#[]⟩],.bool false]) (by simp [results,Tryz.results191,go_sem,d0,d1,d2,d3,d4]) rfl ⟨rfl,?_⟩
   iterate 5 refine below_set ?_ (by omega)
   exact H1.out.below
def pwA (acc:Nat):List UInt8→Nat
 | []=>acc
 | c :: l=>if acc≤912 then pwA (acc * 10+(c.toNat - 48)) l else acc
theorem pwA_far (acc:Nat)(l:List UInt8)(h:¬ acc≤912):pwA acc l=acc:=by cases l <;> simp [pwA,h]
def powF (pn:Bool)(l:List UInt8):Int:=if pn then -(pwA 0 l:Int) else pwA 0 l
theorem pwA_le:∀ (l:List UInt8)(acc:Nat),allD l=true→acc≤9129→pwA acc l≤9129
 | [],acc,_,h=>h
 | c :: l,acc,hd,h=>by
  simp only [allD,List.all_cons,Bool.and_eq_true] at hd
  have:=(isDig_iff c).1 hd.1
  unfold pwA
  split
  ·exact pwA_le l _ hd.2 (by omega)
  ·exact h
theorem powerOf_any (n:Bool)(wh fr:ByteArray)(pn:Bool)(pw:ByteArray)(w:World)(hs:pw.size≤100000)(hd:allD (bl pw)=true) :
  Calls Tryz.prog 178 #[.agg #[.bool n,.string wh,.string fr,.bool pn,.string pw]] w fun e w'=>e=.returned (.int .i64 (powF pn (bl pw)))∧Below w.heap.size w w':=by
 have hd:=hide hd
 go_enter Tryz.func178, Tryz.ntmps178
 go_wp2
 go_loop [3,4] (fun p i=>∃ k acc:Nat,k≤pw.size∧i=.int .i64 k∧p=.int .i64 acc∧acc≤9129∧Hid (pwA 0 (bl pw)=pwA acc ((bl pw).drop k))) (fun _ i=>pw.size - (intOf i).toNat)
 case atStart=>exact ⟨0,0,Nat.zero_le _,rfl,rfl,by omega,rfl⟩
 case round =>
  obtain ⟨k,acc,hk,rfl,rfl,hacc,hp⟩:=hrel
  by_cases hlt:k<pw.size
  ·have hdrop:(bl pw).drop k=pw[k] :: (bl pw).drop (k+1):=by
    rw [List.drop_eq_getElem_cons (by rw [bl_length];exact hlt),bl_get pw k hlt]
   have hdg:=allD_get pw hd.out k hlt
   by_cases hf:acc≤912
   ·have hp':Hid (pwA 0 (bl pw)=pwA (acc * 10+(pw[k].toNat - 48)) ((bl pw).drop (k+1))):=by
     show _=_
     rw [hp.out,hdrop];simp [pwA,hf]
    clear hdrop
    go_wp2
    go_round
    case rel=>exact ⟨k+1,acc * 10+(pw[k].toNat - 48),by omega,by go_num,by
     show Value.int _ _=Value.int _ _
     congr 1
     omega,by omega,hp'.out⟩
    case measure=>simp [intOf];omega
   ·have hp':Hid (pwA 0 (bl pw)=acc):=by
     show _=_
     rw [hp.out,pwA_far acc _ hf]
    have hf':decide ((acc:Int)≤912)=false:=decide_eq_false (by omega)
    clear hdrop
    cases pn
    all_goals
     go_wp2
     go_ret
     refine ⟨ret_int ?_,(Below.refl _ _).alloc (Nat.le_refl _) _⟩
     simp [powF,hp'.out]
  ·have hp':Hid (pwA 0 (bl pw)=acc):=by
    show _=_
    rw [hp.out,List.drop_of_length_le (by rw [bl_length];omega)];rfl
   cases pn
   all_goals
    go_wp2
    go_ret
    refine ⟨ret_int ?_,(Below.refl _ _).alloc (Nat.le_refl _) _⟩
    simp [powF,hp'.out]
def layR (p:List Nat)(o:Nat)(d:List Nat):List Nat:=p.take o++d++p.drop (o+d.length)
theorem layR_len (p:List Nat)(o:Nat)(d:List Nat)(h:o+d.length≤p.length):(layR p o d).length=p.length:=by
 unfold layR;simp;omega
theorem layR_step (p:List Nat)(o k:Nat)(d:List Nat)(hk:k<d.length)(h:o+d.length≤p.length):(layR p o (d.take k)).set (o+k) d[k]=layR p o (d.take (k+1)):=by
 have hl:(p.take o++d.take k).length=o+k:=by simp;omega
 unfold layR
 rw [List.set_append_right _ _ (by rw [hl];exact Nat.le_refl _),hl,Nat.sub_self]
 have e1:(d.take k).length=k:=by simp;omega
 have e2:(d.take (k+1)).length=k+1:=by simp;omega
 rw [e1,e2,List.drop_eq_getElem_cons (by omega),List.set_cons_zero,List.take_succ_eq_append_getElem hk]
 simp only [List.append_assoc,List.cons_append,List.nil_append,Nat.add_assoc]
theorem lay_any (b o n c:Nat)(T:TypeId)(p:List Nat)(s:ByteArray)(w:World)(hA:Arr w b T p)(hsn:s.size≤n)(hon:o+n≤p.length)(hd:allD (bl s)=true)(hn:p.length≤100000) :
  Calls Tryz.prog 176 #[.slice (some ⟨b,o,none⟩) n c,.string s] w fun e w'=>e=.returned (.int .i64 s.size)∧Arr w' b T (layR p o (dg s))∧Only b w w':=by
 have hd:=hide hd
 have hA:=hide hA
 go_enter Tryz.func176, Tryz.ntmps176
 go_wp2
 go_loopw [8] (fun i wr=>∃ k:Nat,k≤s.size∧i=.int .i64 k∧Hid (Arr wr b T (layR p o ((dg s).take k)))∧Hid (Only b w wr)) (fun i _=>s.size - (intOf i).toNat)
 case atStart=>exact ⟨0,Nat.zero_le _,rfl,by show Arr _ _ _ _;simpa [layR] using hA.out,Only.refl _ _⟩
 case round =>
  obtain ⟨k,hk,rfl,hAr,hO⟩:=hrel
  by_cases hlt:k<s.size
  ·have hdg:=allD_get s hd.out k hlt
   have hl:(layR p o ((dg s).take k)).length=p.length:=layR_len _ _ _ (by simp [dg_length];omega)
   have hcl:=hAr.out.cell (o+k) (by omega)
   have hfz:=hAr.out.frozen (o+k)
   have hst:=hide (layR_step p o k (dg s) (by rw [dg_length];exact hlt) (by rw [dg_length];omega))
   have hdk:=hide (dg_get s k hlt)
   go_wp2
   refine ⟨⟨k+1,by omega,by go_num,?_,?_⟩,by simp [intOf];omega⟩
   ·show Arr _ _ _ _
    rw [←hst.out,hdk.out]
    have:=hAr.out.set (o+k) (s[k].toNat - 48)
    rw [show (((s[k].toNat - 48:Nat):Int))=(s[k].toNat:Int) - 48 by omega] at this
    exact this
   ·exact hO.out.set _ _
  ·have htk:(dg s).take k=dg s:=List.take_of_length_le (by rw [dg_length];omega)
   rw [htk] at hAr
   clear htk
   go_wp2
   go_ret
   exact ⟨rfl,hAr.out,hO.out⟩
theorem lay_none (v:Value)(s:ByteArray)(w:World)(hs:s.size=0) :
  Calls Tryz.prog 176 #[v,.string s] w fun e w'=>e=.returned (.int .i64 0)∧w'=w:=by
 have hs':(s.size:Int)=0:=by omega
 go_enter Tryz.func176, Tryz.ntmps176
 go_wp2
 refine wp_loop_rounds 1 ?_
 rw [rounds_succ]
 go_wp2
 go_ret
 exact ⟨rfl,rfl⟩
set_option maxRecDepth 100000 in
theorem appendPointed_gt (B:Nat)(v:Value)(l:List UInt8)(s:ByteArray)(bh:Nat)(w:World)(hown:Own w B v l)(hB:B≤w.heap.size)(hl:l.length≤100)(hs:bh<s.size)(hs1:s.size≤100) :
  Calls Tryz.prog 73 #[v,.string s,.int .i64 bh] w fun e w'=>∃ v',e=.returned v'∧Hid (Own w' B v' (l++pointed (bl s) bh))∧Hid (Below B w w'):=by
 have hown:=hide hown
 obtain ⟨k,hk⟩:∃ k:Nat,s.size=bh+k:=⟨s.size - bh,by omega⟩
 have hfin:=hide (show l++pointed (bl s) bh=l++bl (s.extract 0 k)++[46]++bl (s.extract k s.size) by
  unfold pointed;rw [bl_length,if_neg (by omega),drop_mkB,extract_mkB,bl_mkB,bl_mkB,show s.size - bh=k by omega];simp)
 have hx1:=hide (show (s.extract 0 k).size=k by rw [extract_mkB,mkB_size];simp [bl_length];omega)
 have hx2:=hide (show (s.extract k s.size).size=bh by rw [drop_mkB,mkB_size];simp [bl_length];omega)
 have hx1b:=hide (show (bl (s.extract 0 k)).length=k by rw [bl_length];exact hx1.out)
 have hki:(s.size:Int) - (bh:Int)=(k:Int):=by omega
 have hkk:=hide hk
 clear hk
 have hkp:(0:Int)<(k:Int):=by have:=hkk.out;omega
 have hc:¬ ((k:Int)≤0):=by omega
 have hkl:(k:Int)≤s.size:=by have:=hkk.out;omega
 go_enter Tryz.func73, Tryz.ntmps73
 go_wp2_with (first|(at_builtin;refine app_str rfl (.tmp 24) (.tmp 27) rfl B _ l rfl hown.out (s.extract 0 k) rfl (by rw [hx1.out];omega) hB ?_;intro v1 w1 h1 h2 h3;have hn1:=hide (news_one w1 46 5);have hB1:B≤w1.heap.size:=(by omega))|(at_builtin;refine app_bytes rfl (.tmp 29) (.tmp 30) rfl B _ _ rfl (h1.out.alloc _) ⟨w1.heap.size,0,none⟩ 1 1 [46] rfl rfl hn1.out (by rw [List.length_append,hx1b.out];omega) (by simp;omega) ?_;intro v2 w2 h4 h5 h6;simp at h6;have hB2:B≤w2.heap.size:=(by omega))|(at_builtin;refine app_str rfl (.tmp 32) (.tmp 35) rfl B _ _ rfl h4.out (s.extract k s.size) rfl (by rw [hx2.out,List.length_append,List.length_append,hx1b.out,List.length_singleton];omega) hB2 ?_;intro v3 w3 h7 h8 h9))
 go_ret
 refine ⟨_,rfl,?_,?_⟩
 ·show Own _ _ _ _
  rw [hfin.out];exact h7.out
 ·exact (((((Below.refl B w).trans h2.out).alloc hB1 _).trans h5.out).trans h8.out)
theorem appendPointed_any (B:Nat)(v:Value)(l:List UInt8)(s:ByteArray)(bh:Nat)(w:World)(hown:Own w B v l)(hB:B≤w.heap.size)(hl:l.length≤100)(hs1:s.size≤100)(hbh:bh≤100) :
  Calls Tryz.prog 73 #[v,.string s,.int .i64 bh] w fun e w'=>∃ v',e=.returned v'∧Hid (Own w' B v' (l++pointed (bl s) bh))∧Hid (Below B w w'):=by
 by_cases h:s.size≤bh
 ·exact appendPointed_le B v l s bh w hown hB hl h hbh
 ·exact appendPointed_gt B v l s bh w hown hB hl (by omega) hs1
end Go.Proofs.YthodiandebahdaaGreatDoor
