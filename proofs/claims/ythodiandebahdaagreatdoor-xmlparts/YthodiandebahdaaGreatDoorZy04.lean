/- Merged by program: KgUnhex, NvSplit. -/
import Derived.Test.YthodiandebahdaaGreatDoorZy02
namespace Go.Proofs.YthodiandebahdaaGreatDoor
open Go.RowKit
set_option linter.unusedSimpArgs false
set_option linter.unusedVariables false
set_option maxHeartbeats 8000000
def fhv (c:UInt8):Option Nat:=if 48≤c.toNat∧c.toNat≤57 then some (c.toNat - 48) else if 97≤c.toNat∧c.toNat≤102 then some (c.toNat - 87) else none
theorem fhv_lt {c:UInt8} {d:Nat} (h:fhv c=some d):d<16:=by
 unfold fhv at h
 split at h
 ·have:=Option.some.inj h;omega
 ·split at h
  ·have:=Option.some.inj h;omega
  ·cases h
theorem fhexDigit_some (c:UInt8) (d:Nat) (w:World) (h:fhv c=some d) :
  Calls Tryz.prog 179 #[.int .u8 c.toNat] w fun e w'=>e=.returned (.tuple #[.int .u64 d,.bool true])∧w'=w:=by
 unfold fhv at h
 by_cases c1:48≤c.toNat∧c.toNat≤57
 ·rw [if_pos c1] at h
  have hd:=hide (Option.some.inj h)
  obtain ⟨c1,c2⟩:=c1
  have c1':(48:Int)≤c.toNat:=by omega
  have c2':(c.toNat:Int)≤57:=by omega
  clear h
  go_enter Tryz.func179, Tryz.ntmps179
  go_wp2
  exact bodyPost_ret (v:=.tuple #[.int .u64 ((c.toNat:Int) - 48),.bool true]) (by simp [results,Tryz.results179,go_sem]) rfl ⟨by rw [←hd.out,show (c.toNat:Int) - 48=((c.toNat - 48:Nat):Int) by omega],rfl⟩
 ·rw [if_neg c1] at h
  by_cases c3:97≤c.toNat∧c.toNat≤102
  ·rw [if_pos c3] at h
   have hd:=hide (Option.some.inj h)
   obtain ⟨c3,c4⟩:=c3
   have c3':(97:Int)≤c.toNat:=by omega
   have c4':(c.toNat:Int)≤102:=by omega
   clear h
   go_enter Tryz.func179, Tryz.ntmps179
   go_wp2
   exact bodyPost_ret (v:=.tuple #[.int .u64 ((c.toNat:Int) - 97 + 10),.bool true]) (by simp [results,Tryz.results179,go_sem]) rfl ⟨by rw [←hd.out,show (c.toNat:Int) - 97 + 10=((c.toNat - 87:Nat):Int) by omega],rfl⟩
  ·rw [if_neg c3] at h;cases h
theorem fhexDigit_none (c:UInt8) (w:World) (h:fhv c=none) :
  Calls Tryz.prog 179 #[.int .u8 c.toNat] w fun e w'=>e=.returned (.tuple #[.int .u64 0,.bool false])∧w'=w:=by
 unfold fhv at h
 have c1:¬ (48≤c.toNat∧c.toNat≤57):=by intro q;rw [if_pos q] at h;cases h
 rw [if_neg c1] at h
 have c3:¬ (97≤c.toNat∧c.toNat≤102):=by intro q;rw [if_pos q] at h;cases h
 clear h
 by_cases a1:c.toNat<48
 ·go_enter Tryz.func179, Tryz.ntmps179
  go_wp2
  exact bodyPost_ret (v:=.tuple #[.int .u64 0,.bool false]) (by simp [results,Tryz.results179,go_sem]) rfl ⟨rfl,rfl⟩
 ·by_cases a2:c.toNat<97
  ·have a1':(48:Int)≤c.toNat:=by omega
   have a3:¬ ((c.toNat:Int)≤57):=by omega
   have a2':¬ (97:Int)≤c.toNat:=by omega
   go_enter Tryz.func179, Tryz.ntmps179
   go_wp2
   exact bodyPost_ret (v:=.tuple #[.int .u64 0,.bool false]) (by simp [results,Tryz.results179,go_sem]) rfl ⟨rfl,rfl⟩
  ·have a3:¬ ((c.toNat:Int)≤57):=by omega
   have a2':(97:Int)≤c.toNat:=by omega
   have a4:¬ ((c.toNat:Int)≤102):=by omega
   go_enter Tryz.func179, Tryz.ntmps179
   go_wp2
   exact bodyPost_ret (v:=.tuple #[.int .u64 0,.bool false]) (by simp [results,Tryz.results179,go_sem]) rfl ⟨rfl,rfl⟩
def fuhS (o:Option Nat) (c:UInt8):Option Nat:=match o,fhv c with
 | some a,some d=>some (a * 16 + d)
 | _,_=>none
def fuh (l:List UInt8):Option Nat:=l.foldl fuhS (some 0)
theorem fuh_snoc (l:List UInt8) (c:UInt8):fuh (l++[c])=fuhS (fuh l) c:=by simp [fuh]
theorem fuh_none (l m:List UInt8) (h:fuh l=none):fuh (l++m)=none:=by
 unfold fuh at h ⊢
 rw [List.foldl_append,h]
 induction m with
 | nil=>rfl
 | cons a m ih=>exact ih
theorem fuh_take (s:ByteArray) (k:Nat) (h:k<s.size):fuh ((bl s).take (k + 1))=fuhS (fuh ((bl s).take k)) s[k]:=by
 rw [List.take_succ_eq_append_getElem (by rw [bl_length];exact h),fuh_snoc,bl_get s k h]
def funh (s:ByteArray):Nat×Nat:=if s.size=16 then (match fuh (bl s) with|some b=>(b,0)|none=>(0,20)) else (0,20)
theorem funh_len (s:ByteArray) (h:s.size≠16):funh s=(0,20):=by unfold funh;rw [if_neg h]
theorem funh_some (s:ByteArray) (h:s.size=16) (b:Nat) (hb:fuh (bl s)=some b):funh s=(b,0):=by unfold funh;rw [if_pos h,hb]
theorem funh_none (s:ByteArray) (h:s.size=16) (hb:fuh (bl s)=none):funh s=(0,20):=by unfold funh;rw [if_pos h,hb]
theorem funhex_any (s:ByteArray) (w:World) (hs:s.size≤maxLen) :
  Calls Tryz.prog 150 #[.string s] w fun e w'=>e=.returned (.tuple #[.int .u64 (funh s).1,.int .i64 (funh s).2])∧w'=w:=by
 unfold maxLen at hs
 by_cases h16:s.size=16
 ·have H16:=hide h16
  go_enter Tryz.func150, Tryz.ntmps150
  go_wp2
  go_loop [4,13] (fun b i=>∃ k a:Nat,k≤16∧a<16 ^ k∧i=.int .i64 k∧b=.int .u64 a∧Hid (fuh ((bl s).take k)=some a)) (fun b i=>16 - (intOf i).toNat)
  case atStart=>exact ⟨0,0,by omega,by omega,rfl,rfl,rfl⟩
  case round =>
   obtain ⟨k,a,hk,ha,rfl,rfl,hu⟩:=hrel
   by_cases hlt:k<16
   ·have hks:k<s.size:=by omega
    have hks':(k:Int)<s.size:=by omega
    have ht:=hide (fuh_take s k hks)
    rw [hu.out] at ht
    cases hc:fhv s[k] with
    | none =>
     have hr:=hide (show funh s=(0,20) by
      refine funh_none s h16 ?_
      have:=fuh_none ((bl s).take (k + 1)) ((bl s).drop (k + 1)) (by rw [ht.out];unfold fuhS;rw [hc])
      rw [List.take_append_drop] at this
      exact this)
     go_wp2_with (go_at_call 179;refine (fhexDigit_none s[k] _ hc).mono ?_;rintro e w' ⟨rfl,rfl⟩)
     exact bodyPost_ret (v:=.tuple #[.int .u64 0,.int .i64 20]) (by simp [results,Tryz.results150,go_sem]) rfl ⟨by rw [hr.out];rfl,rfl⟩
    | some d =>
     have hd:=fhv_lt hc
     have hp:16 ^ k≤16 ^ 15:=Nat.pow_le_pow_right (by decide) (by omega)
     have hp2:=hide (show 16 ^ (k + 1)=16 ^ k * 16 from Nat.pow_succ ..)
     have hv16:(16:Nat) ^ 15=1152921504606846976:=rfl
     rw [hv16] at hp
     have ha':a<1152921504606846976:=by omega
     have hor:bits .or .u64 ((a:Int) * 16) (d:Int)=((a * 16 + d:Nat):Int):=by
      have:=u64_or_nat (a * 16) d (by omega) (by omega)
      rw [nat_join 4 (a * 16) d (by show _ % 16=0;omega) (by show _<16;omega)] at this
      rw [←this];rfl
     have hn:=hide (show fuh ((bl s).take (k + 1))=some (a * 16 + d) by rw [ht.out];unfold fuhS;rw [hc])
     have hA:=hide ha
     clear hp hv16 ha
     go_wp2_with (go_at_call 179;refine (fhexDigit_some s[k] d _ hc).mono ?_;rintro e w' ⟨rfl,rfl⟩)
     refine ⟨⟨k + 1,a * 16 + d,by omega,?_,by go_num,rfl,hn.out⟩,by simp [intOf];omega⟩
     rw [hp2.out]
     have:=hA.out
     omega
   ·have hke:k=16:=by omega
    subst hke
    have hr:=hide (show funh s=(a,0) by
     refine funh_some s h16 a ?_
     have:=hu.out
     rw [List.take_of_length_le (by rw [bl_length,h16];exact Nat.le_refl _)] at this
     exact this)
    go_wp2
    exact bodyPost_ret (v:=.tuple #[.int .u64 a,.int .i64 0]) (by simp [results,Tryz.results150,go_sem]) rfl ⟨by rw [hr.out];rfl,rfl⟩
 ·have hr:=hide (funh_len s h16)
  have h16':¬ ((s.size:Int)=16):=by omega
  go_enter Tryz.func150, Tryz.ntmps150
  go_wp2
  exact bodyPost_ret (v:=.tuple #[.int .u64 0,.int .i64 20]) (by simp [results,Tryz.results150,go_sem]) rfl ⟨by rw [hr.out];rfl,rfl⟩
def badW (l:List UInt8):Bool:=l.isEmpty || (decide (1<l.length) && l.head?==some 48)
def splitT (n:Bool) (wh fr l4:List UInt8):Option (Bool×List UInt8×List UInt8×Bool×List UInt8) :=
 match l4 with
 | []=>some (n,wh,fr,false,[])
 | c :: r=>if c==101 || c==69 then (if spOk r then some (n,wh,fr,spPn r,spL r) else none) else none
def splitL (l:List UInt8):Option (Bool×List UInt8×List UInt8×Bool×List UInt8) :=
 if badW ((tlB 45 l).takeWhile isDig) then none
 else if hdB 46 ((tlB 45 l).dropWhile isDig) then
  if ((tlB 46 ((tlB 45 l).dropWhile isDig)).takeWhile isDig).isEmpty then none
  else splitT (hdB 45 l) ((tlB 45 l).takeWhile isDig) ((tlB 46 ((tlB 45 l).dropWhile isDig)).takeWhile isDig) ((tlB 46 ((tlB 45 l).dropWhile isDig)).dropWhile isDig)
 else splitT (hdB 45 l) ((tlB 45 l).takeWhile isDig) [] ((tlB 45 l).dropWhile isDig)
def splitE:Option (Bool×List UInt8×List UInt8×Bool×List UInt8)→Ending
 | none=>partsE false false ⟨#[]⟩ ⟨#[]⟩ false ⟨#[]⟩
 | some (n,wh,fr,pn,pw)=>partsE true n (mkB wh) (mkB fr) pn (mkB pw)
theorem takeWhile_len (l:List UInt8):(l.takeWhile isDig).length≤l.length:=(List.takeWhile_prefix _).length_le
theorem dropWhile_len (l:List UInt8):(l.dropWhile isDig).length≤l.length:=(List.dropWhile_suffix _).length_le
theorem get0_mkB (c:UInt8) (r:List UInt8) (h:0<(mkB (c :: r)).size):(mkB (c :: r))[0]=c:=by
 rw [←bl_get (mkB (c :: r)) 0 h]
 simp only [bl_mkB,List.getElem_cons_zero]
theorem split_empty (s:ByteArray) (w:World) (hs:s.size≤100000) (hbw:((tlB 45 (bl s)).takeWhile isDig).isEmpty=true) :
  Calls Tryz.prog 175 #[.string s] w fun e w'=>e=partsE false false ⟨#[]⟩ ⟨#[]⟩ false ⟨#[]⟩∧Below w.heap.size w w':=by
 have ml:maxLen=2 ^ 63 - 1:=rfl
 have HT:=hide (two5_new w false ⟨#[]⟩ ⟨#[]⟩ false ⟨#[]⟩ false ⟨#[]⟩ ⟨#[]⟩ false ⟨#[]⟩)
 have q1:=tlB_length 45 (bl s)
 rw [bl_length] at q1
 have q2:=takeWhile_len (tlB 45 (bl s))
 have q3:=dropWhile_len (tlB 45 (bl s))
 obtain ⟨n,hn⟩:∃ n,hdB 45 (bl s)=n:=⟨_,rfl⟩
 obtain ⟨l1,hl1⟩:∃ l1,tlB 45 (bl s)=l1:=⟨_,rfl⟩
 rw [hl1] at q1 q2 q3
 obtain ⟨wh,hwh⟩:∃ wh,l1.takeWhile isDig=wh:=⟨_,rfl⟩
 obtain ⟨l2,hl2⟩:∃ l2,l1.dropWhile isDig=l2:=⟨_,rfl⟩
 rw [hwh] at q2
 rw [hl2] at q3
 rw [hl1,hwh] at hbw
 have hw0:(mkB wh).toList.isEmpty=true:=by rw [mkB_nil];exact hbw
 have hn:=hide hn
 have hl1:=hide hl1
 have hwh:=hide hwh
 have hl2:=hide hl2
 clear hbw
 go_enter Tryz.func175, Tryz.ntmps175
 go_wp2_with fail
 refine (cutByte_any s 45 _ _ rfl (by omega)).mono ?_
 rw [hn.out,hl1.out]
 rintro e w1 ⟨rfl,hb1⟩
 have H1:=hide (HT.out.then hb1)
 clear HT hb1
 obtain ⟨c0,c1,c2,c3,c4,f0,f1,f2,f3,f4⟩:=H1.out.b1.cells
 go_wp2_with fail
 refine (cutDigits_any (mkB l1) _ (by rw [mkB_size];omega)).mono ?_
 rw [bl_mkB,hwh.out,hl2.out]
 rintro e w2 ⟨rfl,hb2⟩
 have H2:Hid (Two5 w w2 false ⟨#[]⟩ ⟨#[]⟩ false ⟨#[]⟩ n ⟨#[]⟩ ⟨#[]⟩ false ⟨#[]⟩):=by
  have h:=H1.out
  have h':Two5 w (w1.setCell ⟨w.heap.size + 1,0,none⟩ (.bool n)) false ⟨#[]⟩ ⟨#[]⟩ false ⟨#[]⟩ n ⟨#[]⟩ ⟨#[]⟩ false ⟨#[]⟩:=⟨below_set h.below (by omega),h.b0.other (by omega),h.b1.set0⟩
  exact h'.then hb2
 clear H1 hb2 c0 c1 c2 c3 c4 f0 f1 f2 f3 f4
 obtain ⟨c0,c1,c2,c3,c4,f0,f1,f2,f3,f4⟩:=H2.out.b1.cells
 obtain ⟨d0,d1,d2,d3,d4,g0,g1,g2,g3,g4⟩:=H2.out.b0.cells
 go_wp2
 refine bodyPost_ret (v:=.tuple #[.agg #[.bool false,.string ⟨#[]⟩,.string ⟨#[]⟩,.bool false,.string ⟨#[]⟩],.bool false]) (by simp [results,Tryz.results175,go_sem,d0,d1,d2,d3,d4]) rfl ⟨rfl,?_⟩
 iterate 6 refine below_set ?_ (by omega)
 exact H2.out.below
theorem split_lead (s:ByteArray) (w:World) (hs:s.size≤100000) (hbw:1<((tlB 45 (bl s)).takeWhile isDig).length∧((tlB 45 (bl s)).takeWhile isDig).head?=some 48) :
  Calls Tryz.prog 175 #[.string s] w fun e w'=>e=partsE false false ⟨#[]⟩ ⟨#[]⟩ false ⟨#[]⟩∧Below w.heap.size w w':=by
 have ml:maxLen=2 ^ 63 - 1:=rfl
 have HT:=hide (two5_new w false ⟨#[]⟩ ⟨#[]⟩ false ⟨#[]⟩ false ⟨#[]⟩ ⟨#[]⟩ false ⟨#[]⟩)
 have q1:=tlB_length 45 (bl s)
 rw [bl_length] at q1
 have q2:=takeWhile_len (tlB 45 (bl s))
 have q3:=dropWhile_len (tlB 45 (bl s))
 obtain ⟨n,hn⟩:∃ n,hdB 45 (bl s)=n:=⟨_,rfl⟩
 obtain ⟨l1,hl1⟩:∃ l1,tlB 45 (bl s)=l1:=⟨_,rfl⟩
 rw [hl1] at q1 q2 q3
 obtain ⟨wh,hwh⟩:∃ wh,l1.takeWhile isDig=wh:=⟨_,rfl⟩
 obtain ⟨l2,hl2⟩:∃ l2,l1.dropWhile isDig=l2:=⟨_,rfl⟩
 rw [hwh] at q2
 rw [hl2] at q3
 rw [hl1,hwh] at hbw
 have hw0:(mkB wh).toList.isEmpty=false:=by rw [mkB_nil];cases wh with|nil=>simp at hbw|cons _ _=>rfl
 have hw1:(1:Int)<(mkB wh).size:=by rw [mkB_size];omega
 have hw1':0<(mkB wh).size:=by rw [mkB_size];omega
 have hw2:(((mkB wh)[0].toNat:Int)==48)=true:=by
  have:=head_bl (mkB wh) hw1'
  rw [bl_mkB,hbw.2] at this
  rw [←Option.some.inj this];rfl
 have hn:=hide hn
 have hl1:=hide hl1
 have hwh:=hide hwh
 have hl2:=hide hl2
 clear hbw
 go_enter Tryz.func175, Tryz.ntmps175
 go_wp2_with fail
 refine (cutByte_any s 45 _ _ rfl (by omega)).mono ?_
 rw [hn.out,hl1.out]
 rintro e w1 ⟨rfl,hb1⟩
 have H1:=hide (HT.out.then hb1)
 clear HT hb1
 obtain ⟨c0,c1,c2,c3,c4,f0,f1,f2,f3,f4⟩:=H1.out.b1.cells
 go_wp2_with fail
 refine (cutDigits_any (mkB l1) _ (by rw [mkB_size];omega)).mono ?_
 rw [bl_mkB,hwh.out,hl2.out]
 rintro e w2 ⟨rfl,hb2⟩
 have H2:Hid (Two5 w w2 false ⟨#[]⟩ ⟨#[]⟩ false ⟨#[]⟩ n ⟨#[]⟩ ⟨#[]⟩ false ⟨#[]⟩):=by
  have h:=H1.out
  have h':Two5 w (w1.setCell ⟨w.heap.size + 1,0,none⟩ (.bool n)) false ⟨#[]⟩ ⟨#[]⟩ false ⟨#[]⟩ n ⟨#[]⟩ ⟨#[]⟩ false ⟨#[]⟩:=⟨below_set h.below (by omega),h.b0.other (by omega),h.b1.set0⟩
  exact h'.then hb2
 clear H1 hb2 c0 c1 c2 c3 c4 f0 f1 f2 f3 f4
 obtain ⟨c0,c1,c2,c3,c4,f0,f1,f2,f3,f4⟩:=H2.out.b1.cells
 obtain ⟨d0,d1,d2,d3,d4,g0,g1,g2,g3,g4⟩:=H2.out.b0.cells
 go_wp2
 refine bodyPost_ret (v:=.tuple #[.agg #[.bool false,.string ⟨#[]⟩,.string ⟨#[]⟩,.bool false,.string ⟨#[]⟩],.bool false]) (by simp [results,Tryz.results175,go_sem,d0,d1,d2,d3,d4]) rfl ⟨rfl,?_⟩
 iterate 6 refine below_set ?_ (by omega)
 exact H2.out.below
end Go.Proofs.YthodiandebahdaaGreatDoor
