/- Merged by program: UcStep, UdWholeV, UeThruV, UfTextV. -/
import Derived.Test.YtgicnopppgnjjaaGreatDoorUZd03
import Derived.Deep.RegionHeld3
import Derived.Laws.Rows
import Derived.Lib.Strings
import Derived.Deep.RegionWith
import Derived.WalkSmall
set_option linter.unusedSimpArgs false
set_option linter.unusedVariables false
namespace Go.Proofs.YtgicnopppgnjjaaGreatDoor.Ut
open Go.RowKit
def rowV:Nat→Value
 | 0=>sp 194 223 128 191 0 0 0 0
 | 1=>sp 224 224 160 191 128 191 0 0
 | 2=>sp 225 236 128 191 128 191 0 0
 | 3=>sp 237 237 128 159 128 191 0 0
 | 4=>sp 238 239 128 191 128 191 0 0
 | 5=>sp 240 240 144 191 128 191 128 191
 | 6=>sp 241 243 128 191 128 191 128 191
 | _=>sp 244 244 128 143 128 191 128 191
def rowN (k n:Nat):Option St:=match k with
 | 0=>if 194≤n∧n≤223 then some .i16 else none
 | 1=>if 224≤n∧n≤224 then some .u8 else none
 | 2=>if 225≤n∧n≤236 then some .i32 else none
 | 3=>if 237≤n∧n≤237 then some .u16 else none
 | 4=>if 238≤n∧n≤239 then some .i32 else none
 | 5=>if 240≤n∧n≤240 then some .u32 else none
 | 6=>if 241≤n∧n≤243 then some .i64 else none
 | _=>if 244≤n∧n≤244 then some .u64 else none
def LG:Value:=.agg lgC
theorem ix_long (k:Nat) (h:k<8) (w:World):(Instr.index 228 LG (.int .i64 k)).run Tryz.prog w=.ok (rowV k) w:=by
 match k,h with
 | 0,_=>exact (show (Instr.index 228 LG (.int .i64 0)).run Tryz.prog w=.ok (rowV 0) w by kernel_rfl)
 | 1,_=>exact (show (Instr.index 228 LG (.int .i64 1)).run Tryz.prog w=.ok (rowV 1) w by kernel_rfl)
 | 2,_=>exact (show (Instr.index 228 LG (.int .i64 2)).run Tryz.prog w=.ok (rowV 2) w by kernel_rfl)
 | 3,_=>exact (show (Instr.index 228 LG (.int .i64 3)).run Tryz.prog w=.ok (rowV 3) w by kernel_rfl)
 | 4,_=>exact (show (Instr.index 228 LG (.int .i64 4)).run Tryz.prog w=.ok (rowV 4) w by kernel_rfl)
 | 5,_=>exact (show (Instr.index 228 LG (.int .i64 5)).run Tryz.prog w=.ok (rowV 5) w by kernel_rfl)
 | 6,_=>exact (show (Instr.index 228 LG (.int .i64 6)).run Tryz.prog w=.ok (rowV 6) w by kernel_rfl)
 | 7,_=>exact (show (Instr.index 228 LG (.int .i64 7)).run Tryz.prog w=.ok (rowV 7) w by kernel_rfl)
theorem next_row (k n:Nat) (h:k<8) (w:World) :
  Calls Tryz.prog 236 #[rowV k,.int .u8 n] w fun r w'=>r=.returned (stV (rowN k n))∧Below w.heap.size w w':=by
 have key:∀ (a b c d e f g h:Nat) (o:Option St),(stV o=.tuple (if a≤n∧n≤b then #[sp c d e f g h 0 0,.bool true] else #[sp 0 0 0 0 0 0 0 0,.bool false]))→Calls Tryz.prog 236 #[sp a b c d e f g h,.int .u8 n] w fun r w'=>r=.returned (stV o)∧Below w.heap.size w w':=by
  intro a b c d e f g h o ho
  rw [ho]
  exact next_any a b c d e f g h n w
 match k,h with
 | 0,_=>exact key _ _ _ _ _ _ _ _ _ (by simp only [rowN];split <;> rfl)
 | 1,_=>exact key _ _ _ _ _ _ _ _ _ (by simp only [rowN];split <;> rfl)
 | 2,_=>exact key _ _ _ _ _ _ _ _ _ (by simp only [rowN];split <;> rfl)
 | 3,_=>exact key _ _ _ _ _ _ _ _ _ (by simp only [rowN];split <;> rfl)
 | 4,_=>exact key _ _ _ _ _ _ _ _ _ (by simp only [rowN];split <;> rfl)
 | 5,_=>exact key _ _ _ _ _ _ _ _ _ (by simp only [rowN];split <;> rfl)
 | 6,_=>exact key _ _ _ _ _ _ _ _ _ (by simp only [rowN];split <;> rfl)
 | 7,_=>exact key _ _ _ _ _ _ _ _ _ (by simp only [rowN];split <;> rfl)
theorem row_some {k n:Nat} {q:St} (hk:k<8) (h:rowN k n=some q):nx .i8 n=some q:=by
 match k,hk with
 | 0,_=>simp only [rowN] at h;split at h <;> simp only [Option.some.injEq,reduceCtorEq] at h;subst h;simp only [nx];repeat (first|rfl|rw [if_pos (by omega)]|rw [if_neg (by omega)])
 | 1,_=>simp only [rowN] at h;split at h <;> simp only [Option.some.injEq,reduceCtorEq] at h;subst h;simp only [nx];repeat (first|rfl|rw [if_pos (by omega)]|rw [if_neg (by omega)])
 | 2,_=>simp only [rowN] at h;split at h <;> simp only [Option.some.injEq,reduceCtorEq] at h;subst h;simp only [nx];repeat (first|rfl|rw [if_pos (by omega)]|rw [if_neg (by omega)])
 | 3,_=>simp only [rowN] at h;split at h <;> simp only [Option.some.injEq,reduceCtorEq] at h;subst h;simp only [nx];repeat (first|rfl|rw [if_pos (by omega)]|rw [if_neg (by omega)])
 | 4,_=>simp only [rowN] at h;split at h <;> simp only [Option.some.injEq,reduceCtorEq] at h;subst h;simp only [nx];repeat (first|rfl|rw [if_pos (by omega)]|rw [if_neg (by omega)])
 | 5,_=>simp only [rowN] at h;split at h <;> simp only [Option.some.injEq,reduceCtorEq] at h;subst h;simp only [nx];repeat (first|rfl|rw [if_pos (by omega)]|rw [if_neg (by omega)])
 | 6,_=>simp only [rowN] at h;split at h <;> simp only [Option.some.injEq,reduceCtorEq] at h;subst h;simp only [nx];repeat (first|rfl|rw [if_pos (by omega)]|rw [if_neg (by omega)])
 | 7,_=>simp only [rowN] at h;split at h <;> simp only [Option.some.injEq,reduceCtorEq] at h;subst h;simp only [nx];repeat (first|rfl|rw [if_pos (by omega)]|rw [if_neg (by omega)])
theorem row_none {n:Nat} (h8:128≤n) (h:∀ k<8,rowN k n=none):nx .i8 n=none:=by
 have k:∀ {p:Prop} [Decidable p] {q:St},(if p then some q else none)=none→¬ p:=by intro p _ q h hp;rw [if_pos hp] at h;cases h
 have h0:=k (h 0 (by omega));have h1:=k (h 1 (by omega));have h2:=k (h 2 (by omega));have h3:=k (h 3 (by omega))
 have h4:=k (h 4 (by omega));have h5:=k (h 5 (by omega));have h6:=k (h 6 (by omega));have h7:=k (h 7 (by omega))
 simp only [nx]
 repeat' split
 all_goals first|rfl|omega
theorem row_ex (k:Nat) (hk:k<8):∃ a b c d e f g h:Nat,rowV k=.agg #[.int .u8 a,.int .u8 b,.int .u8 c,.int .u8 d,.int .u8 e,.int .u8 f,.int .u8 g,.int .u8 h]:=by
 match k,hk with
 | 0,_=>exact ⟨_,_,_,_,_,_,_,_,rfl⟩
 | 1,_=>exact ⟨_,_,_,_,_,_,_,_,rfl⟩
 | 2,_=>exact ⟨_,_,_,_,_,_,_,_,rfl⟩
 | 3,_=>exact ⟨_,_,_,_,_,_,_,_,rfl⟩
 | 4,_=>exact ⟨_,_,_,_,_,_,_,_,rfl⟩
 | 5,_=>exact ⟨_,_,_,_,_,_,_,_,rfl⟩
 | 6,_=>exact ⟨_,_,_,_,_,_,_,_,rfl⟩
 | 7,_=>exact ⟨_,_,_,_,_,_,_,_,rfl⟩
theorem Gu.long2 {w:World} (g:Gu w):∃ t fr,∀ o1 o2,((w.alloc o1).alloc o2).heap[6]?=some (.cells lgC t fr):=by
 obtain ⟨t,fr,h⟩:=g.lg
 have:=g.sz
 refine ⟨t,fr,fun o1 o2=>?_⟩
 rw [(below_al (below_al (Below.refl w.heap.size w))).block _ g.lt]
 exact h
structure Sw (w:World) (W:World):Prop where
 below:Below w.heap.size w W
 sb:SB W (w.heap.size + 1) 0 0 0 0 0 0 0 0
set_option maxHeartbeats 1000000 in
set_option maxRecDepth 100000 in
theorem step_b0 (n:Nat) (w:World) (g:Gu w) (h8:128≤n) :
  Calls Tryz.prog 214 #[spV .i8,.int .u8 n] w fun r w'=>r=.returned (stV (nx .i8 n))∧Below w.heap.size w w':=by
 obtain ⟨b0,b1,b2,b3,b4,b5,b6,b7⟩:=g.two
 obtain ⟨lt,lfr,lh⟩:=g.long2
 have hsz:=g.sz
 clear g
 have heq:∀ w,(Op.equalIn 10000 181 (.agg #[.int .u8 0,.int .u8 0,.int .u8 0,.int .u8 0,.int .u8 0,.int .u8 0,.int .u8 0,.int .u8 0]) (.agg #[.int .u8 0,.int .u8 0,.int .u8 0,.int .u8 0,.int .u8 0,.int .u8 0,.int .u8 0,.int .u8 0])).run Tryz.prog w=.ok true w:=fun w=>eq_sp .i8 w
 have h8':=hide h8
 clear h8
 simp only [spV,sp]
 have S0:Hid (Sw w ((w.alloc (.cells #[.int .u8 0,.int .u8 0,.int .u8 0,.int .u8 0,.int .u8 0,.int .u8 0,.int .u8 0,.int .u8 0] 181)).alloc (.cells #[.int .u8 0,.int .u8 0,.int .u8 0,.int .u8 0,.int .u8 0,.int .u8 0,.int .u8 0,.int .u8 0] 181))):=⟨below_al (below_al (Below.refl _ _)),sb_new2 w _ 0 0 0 0 0 0 0 0⟩
 go_enter Tryz.func214, Tryz.ntmps214
 go_wp2_with (refine wpList_load_row rfl 228 _ rfl 6 rfl lt lgC lfr _ (lh _ _) Tryz.underlying228 rfl (by kernel_rfl) ?_)
 clear b0 b1 b2 b3 b4 b5 b6 b7 lh
 go_loopw [19] (fun i w'=>∃ k:Nat,k≤8∧i=.int .i64 k∧Hid (∀ j<k,rowN j n=none)∧Hid (Sw w w')) (fun i _=>(8 - intOf i).toNat)
 case atStart=>exact ⟨0,by omega,rfl,fun j hj=>by omega,S0.out⟩
 case round =>
  obtain ⟨k,hk,rfl,hno,S⟩:=hrel
  by_cases hk8:k<8
  ·have hix:∀ w,(Instr.index 228 (.agg lgC) (.int .i64 k)).run Tryz.prog w=.ok (rowV k) w:=ix_long k hk8
   have hrow:=hide (next_row k n hk8)
   obtain ⟨a,b,c,d,e,f,g,h,e1⟩:=row_ex k hk8
   rw [e1] at hix hrow
   cases hr:rowN k n with
   | none =>
    rw [hr] at hrow
    simp only [stV,sp] at hrow
    have hno':=hide (show ∀ j<k + 1,rowN j n=none from fun j hj=>by
     rcases Nat.lt_or_ge j k with h|h
     ·exact hno.out j h
     ·obtain rfl:j=k:=by omega
      exact hr)
    go_wp2_with (go_at_call 236;refine (hrow.out _).mono ?_;rintro r w1 ⟨rfl,hb1⟩;have S1:Hid (Sw w w1):=⟨below_then (below_al S.out.below) hb1,(S.out.sb.alloc _).below hb1 (S.out.sb.alloc _).lt⟩;clear hb1)
    refine ⟨⟨k + 1,by omega,by go_num,hno'.out,?_⟩,by simp [intOf];omega⟩
    refine ⟨?_,?_⟩
    ·have:=S1.out.below.size
     have:=below_al (o:=.cells #[.int .u8 0,.int .u8 0,.int .u8 0,.int .u8 0,.int .u8 0,.int .u8 0,.int .u8 0,.int .u8 0] 181) S1.out.below
     first|exact this|((iterate 8 refine below_set ?_ (by omega));exact this)
    ·have:=S1.out.sb.alloc (.cells #[.int .u8 0,.int .u8 0,.int .u8 0,.int .u8 0,.int .u8 0,.int .u8 0,.int .u8 0,.int .u8 0] 181)
     have hl:=S1.out.sb.lt
     first|exact this|((iterate 8 refine SB.other ?_ (by omega));exact this)
   | some q =>
    rw [hr] at hrow
    have hq:=row_some hk8 hr
    obtain ⟨a',b',c',d',e',f',g',h',e2,_⟩:=spV_ex q
    simp only [stV,e2,sp] at hrow
    have hfin:=hide (show stV (nx .i8 n)=.tuple #[.agg #[.int .u8 a',.int .u8 b',.int .u8 c',.int .u8 d',.int .u8 e',.int .u8 f',.int .u8 g',.int .u8 h'],.bool true] by rw [hq];simp only [stV,e2,sp])
    clear hq e2 hr
    go_wp2_with (go_at_call 236;refine (hrow.out _).mono ?_;rintro r w1 ⟨rfl,hb1⟩;have S1:Hid (Sw w w1):=⟨below_then (below_al S.out.below) hb1,(S.out.sb.alloc _).below hb1 (S.out.sb.alloc _).lt⟩;clear hb1;have hlt:=S1.out.sb.lt;obtain ⟨c0,c1,c2,c3,c4,c5,c6,c7,f0,f1,f2,f3,f4,f5,f6,f7⟩:=S1.out.sb.cells)
    exact bodyPost_ret (v:=.tuple #[.agg #[.int .u8 a',.int .u8 b',.int .u8 c',.int .u8 d',.int .u8 e',.int .u8 f',.int .u8 g',.int .u8 h'],.bool true]) (res_sb Tryz.results214 _ _ (w.heap.size + 1) _ rfl rfl (S1.out.sb.set.alloc _)) rfl ⟨by rw [hfin.out],by have:=S1.out.below;refine below_al ?_;(iterate 8 refine below_set ?_ (by omega));exact this⟩
  ·have hk8':k=8:=by omega
   subst hk8'
   have hfin:=hide (show stV (nx .i8 n)=.tuple #[.agg #[.int .u8 0,.int .u8 0,.int .u8 0,.int .u8 0,.int .u8 0,.int .u8 0,.int .u8 0,.int .u8 0],.bool false] by rw [row_none h8'.out hno.out];rfl)
   obtain ⟨c0,c1,c2,c3,c4,c5,c6,c7,f0,f1,f2,f3,f4,f5,f6,f7⟩:=S.out.sb.cells
   go_wp2_with fail
   exact bodyPost_ret (v:=.tuple #[.agg #[.int .u8 0,.int .u8 0,.int .u8 0,.int .u8 0,.int .u8 0,.int .u8 0,.int .u8 0,.int .u8 0],.bool false]) (res_sb Tryz.results214 _ _ (w.heap.size + 1) _ rfl rfl S.out.sb.set) rfl ⟨by rw [hfin.out],by have:=S.out.below;(iterate 8 refine below_set ?_ (by omega));exact this⟩
end Go.Proofs.YtgicnopppgnjjaaGreatDoor.Ut
namespace Go.Proofs.YtgicnopppgnjjaaGreatDoor.Ut
open Go.RowKit
def whole (r:Nat) (l:List UInt8):Bool:=r != 65533 || Lib.hasPrefix l [239,191,189]
theorem pre_eq (s:ByteArray) (h:3≤s.size):((s.extract 0 3).toList==[239,191,189])=Lib.hasPrefix (bl s) [239,191,189]:=by
 have e:(s.extract 0 3).toList=(bl s).take 3:=by
  rw [Lib.toList_data]
  show (s.extract 0 3).data.toList=_
  rw [ByteArray.data_extract]
  simp [bl]
 rw [e]
 unfold Lib.hasPrefix
 have hl:3≤(bl s).length:=by rw [bl_length];exact h
 match hb:bl s,hl with
 | a :: b :: c :: r,_ =>
  simp only [List.take_succ_cons,List.take_zero,List.isPrefixOf,Bool.and_true]
  rw [Bool.eq_iff_iff]
  simp
  constructor
  ·rintro ⟨rfl,rfl,rfl⟩;exact ⟨rfl,rfl,rfl⟩
  ·rintro ⟨rfl,rfl,rfl⟩;exact ⟨rfl,rfl,rfl⟩
theorem pre_short (s:ByteArray) (h:s.size<3):Lib.hasPrefix (bl s) [239,191,189]=false:=by
 unfold Lib.hasPrefix
 have hl:(bl s).length<3:=by rw [bl_length];exact h
 match hb:bl s,hl with
 | [],_=>rfl
 | [a],_=>simp [List.isPrefixOf]
 | [a,b],_=>simp [List.isPrefixOf]
theorem pre_in (s:ByteArray) (w:World):Calls Tryz.prog 249 #[.string s,.string ⟨#[239,191,189]⟩] w fun e w'=>e=.returned (.bool (Lib.hasPrefix (bl s) [239,191,189]))∧w'=w:=by
 by_cases h:(3:Int)≤(s.size:Int)
 ·have hb:(3:Nat)≤s.size:=by omega
  have e:=hide (pre_eq s hb)
  go_enter Tryz.func249, Tryz.ntmps249
  go_wp2
  go_ret
  exact ⟨by rw [←e.out];rfl,rfl⟩
 ·have e:=hide (pre_short s (by omega))
  go_enter Tryz.func249, Tryz.ntmps249
  go_wp2
  go_ret
  exact ⟨by rw [←e.out];rfl,rfl⟩
theorem hasPrefix_any (s:ByteArray) (w:World):Calls Tryz.prog 235 #[.string s,.string ⟨#[239,191,189]⟩] w fun e w'=>e=.returned (.bool (Lib.hasPrefix (bl s) [239,191,189]))∧w'=w:=by
 go_enter Tryz.func235, Tryz.ntmps235
 go_wp2_with (go_at_call 249;refine (pre_in s _).mono ?_;rintro e w' ⟨rfl,rfl⟩)
 go_ret
 exact ⟨rfl,rfl⟩
theorem isWhole_any (r:Nat) (s:ByteArray) (w:World) (b:Bool) (hb:whole r (bl s)=b):Calls Tryz.prog 213 #[.int .i32 r,.string s] w fun e w'=>e=.returned (.bool b)∧w'=w:=by
 have hb:=hide hb
 have hp:=hide (hasPrefix_any s)
 by_cases h:r=65533
 ·subst h
  go_enter Tryz.func213, Tryz.ntmps213
  go_wp2_with (go_at_call 235;refine (hp.out _).mono ?_;rintro e w' ⟨rfl,rfl⟩)
  go_ret
  refine ⟨?_,rfl⟩
  rw [←hb.out]
  rfl
 ·have h':((r:Int)==65533)=false:=by rw [beq_eq_false_iff_ne];omega
  have h2:decide ((r:Int)=65533)=false:=decide_eq_false (by omega)
  go_enter Tryz.func213, Tryz.ntmps213
  go_wp2_with (go_at_call 235;refine (hp.out _).mono ?_;rintro e w' ⟨rfl,rfl⟩)
  go_ret
  refine ⟨?_,rfl⟩
  rw [←hb.out]
  simp [whole,h]
end Go.Proofs.YtgicnopppgnjjaaGreatDoor.Ut
namespace Go.Proofs.YtgicnopppgnjjaaGreatDoor.Ut
open Go.RowKit
theorem hasPrefix_fffd (l:List UInt8):Lib.hasPrefix l [239,191,189]=true↔∃ t,l=239 :: 191 :: 189 :: t:=by
 unfold Lib.hasPrefix
 rw [List.isPrefixOf_iff_prefix]
 constructor
 ·rintro ⟨t,rfl⟩;exact ⟨t,rfl⟩
 ·rintro ⟨t,rfl⟩;exact ⟨t,rfl⟩
theorem whole_some {l:List UInt8} {r n:Nat} (h:chr l=some (r,n)):whole r l=true:=by
 unfold whole
 by_cases hr:r=65533
 ·subst hr
  rw [Bool.or_eq_true]
  right
  rw [hasPrefix_fffd]
  rcases chr_cases h with ⟨a,t,rfl,rfl,h1,h2⟩|⟨a,b,t,rfl,rfl,h1,h2,hb,hr⟩|⟨a,b,c,t,rfl,rfl,h1,h2,hb,hc,g0,g1,hr⟩|⟨a,b,c,d,t,rfl,rfl,h1,h2,hb,hc,hd,g0,g1,hr⟩
  ·omega
  ·omega
  ·refine ⟨t,?_⟩
   have ha:a.toNat=239:=by omega
   have hb:b.toNat=191:=by omega
   have hc:c.toNat=189:=by omega
   rw [show a=239 from UInt8.toNat_inj.1 ha,show b=191 from UInt8.toNat_inj.1 hb,show c=189 from UInt8.toNat_inj.1 hc]
  ·omega
 ·simp [hr]
theorem whole_none {l:List UInt8} (h:chr l=none):whole 65533 l=false:=by
 unfold whole
 cases hp:Lib.hasPrefix l [239,191,189]
 ·rfl
 ·obtain ⟨t,rfl⟩:=(hasPrefix_fffd l).1 hp
  have:=chr_3 239 191 189 t (by decide) (by decide) (by decide) (by decide) (by decide) (by decide)
  rw [this] at h
  cases h
theorem nx_within {q:St} (hq:q≠.i8) {n:Nat} (h:n<128∨192≤n):nx q n=none:=by
 cases q
 ·exact absurd rfl hq
 all_goals (simp only [nx];rw [if_neg (by omega)])
theorem chr_first {a:UInt8} {l:List UInt8} {r n:Nat} (h:chr (a :: l)=some (r,n)):a.toNat<128∨192≤a.toNat:=by
 rcases chr_cases h with ⟨a,t,e,rfl,h1,h2⟩|⟨a,b,t,e,rfl,h1,h2,hb,hr⟩|⟨a,b,c,t,e,rfl,h1,h2,hb,hc,g0,g1,hr⟩|⟨a,b,c,d,t,e,rfl,h1,h2,hb,hc,hd,g0,g1,hr⟩ <;> (cases e;omega)
theorem chr_high {a:UInt8} {l:List UInt8} (h:chr (a :: l)=none):128≤a.toNat:=by
 rcases Nat.lt_or_ge a.toNat 128 with q|q
 ·rw [chr_1 a l q] at h;cases h
 ·exact q
theorem drop_cons (s:ByteArray) (pos:Nat) (h:pos<s.size):(bl s).drop pos=s[pos] :: (bl s).drop (pos + 1):=by
 rw [List.drop_eq_getElem_cons (by rw [bl_length];exact h),bl_get s pos h]
theorem run_take {p q q':St} {l:List UInt8} {pos n:Nat} (h:run p (l.take pos)=some q) (h2:run q ((l.drop pos).take n)=some q'):run p (l.take (pos + n))=some q':=by
 rw [List.take_add,run_app h];exact h2
theorem run_take_no {p q:St} {l:List UInt8} {pos:Nat} (h:run p (l.take pos)=some q) (h2:run q (l.drop pos)=none):run p l=none:=by
 rw [←List.take_append_drop pos l,run_app h];exact h2
theorem it_set {W:World} {i j o:Nat} {v:Value} {x:Obj} (h:W.heap[i]?=some x) (hij:i≠j):(W.setCell ⟨j,o,none⟩ v).heap[i]?=some x:=by
 rw [Below.heap_setCell _ _ _ _ hij];exact h
structure Th (w:World) (s:ByteArray) (p:St) (pos:Nat) (q:St) (W:World):Prop where
 below:Below w.heap.size w W
 sbp:∃ a b c d e f g h:Nat,spV q=sp a b c d e f g h∧SB W w.heap.size a b c d e f g h
 sbr:SB W (w.heap.size + 1) 0 0 0 0 0 0 0 0
 it:W.heap[w.heap.size + 1 + 1]?=some (.stringIter s pos)
 le:pos≤s.size
 hr:run p ((bl s).take pos)=some q
set_option maxHeartbeats 1000000 in
set_option maxRecDepth 100000 in
theorem through_any (p:St) (s:ByteArray) (w:World) (g:Gu w) (hs:s.size<9223372036854775807) :
  Calls Tryz.prog 181 #[spV p,.string s] w fun r w'=>r=.returned (stV (run p (bl s)))∧Below w.heap.size w w':=by
 have g:=hide g
 obtain ⟨x0,x1,x2,x3,x4,x5,x6,x7,e1,heq⟩:=spV_ex p
 have T0:Hid (Th w s p 0 p (((w.alloc (.cells #[.int .u8 x0,.int .u8 x1,.int .u8 x2,.int .u8 x3,.int .u8 x4,.int .u8 x5,.int .u8 x6,.int .u8 x7] 181)).alloc (.cells #[.int .u8 0,.int .u8 0,.int .u8 0,.int .u8 0,.int .u8 0,.int .u8 0,.int .u8 0,.int .u8 0] 181)).iter s 0)):=by
  refine ⟨below_al (below_al (below_al (Below.refl _ _))),⟨x0,x1,x2,x3,x4,x5,x6,x7,e1,((sb_new w x0 x1 x2 x3 x4 x5 x6 x7).alloc _).alloc _⟩,(sb_new2 w _ 0 0 0 0 0 0 0 0).alloc _,?_,Nat.zero_le _,rfl⟩
  have:=World.iter_heap ((w.alloc (.cells #[.int .u8 x0,.int .u8 x1,.int .u8 x2,.int .u8 x3,.int .u8 x4,.int .u8 x5,.int .u8 x6,.int .u8 x7] 181)).alloc (.cells #[.int .u8 0,.int .u8 0,.int .u8 0,.int .u8 0,.int .u8 0,.int .u8 0,.int .u8 0,.int .u8 0] 181)) s 0
  simpa using this
 rw [e1]
 clear e1 heq
 unfold sp
 go_enter Tryz.func181, Tryz.ntmps181
 go_wp2_with fail
 go_loopw [5] (fun ok w'=>∃ (pos:Nat) (q:St),ok=.bool false∧Hid (Th w s p pos q w')) (fun _ w'=>s.size - w'.iterPos (w.heap.size + 1 + 1))
 case atStart=>exact ⟨0,p,rfl,T0.out⟩
 case round =>
  obtain ⟨pos,q,rfl,T⟩:=hrel
  clear T0
  by_cases hp:pos<s.size
  ·obtain ⟨W1,hW1⟩:∃ W1,wr.iterAt (w.heap.size + 1 + 1) s (pos + (Utf8.decode s pos).2)=W1:=⟨_,rfl⟩
   have hnx:∀ ty,(Instr.next (.pointer (some ⟨w.heap.size + 1 + 1,0,none⟩)) true ty).run Tryz.prog wr=.ok (.tuple #[.bool true,.int .i64 pos,.int .i32 (Utf8.decode s pos).1]) W1:=fun ty=>by rw [←hW1];exact Lib.run_next_any_at wr _ s pos ty T.out.it hp
   have hbW:Below w.heap.size w W1:=by rw [←hW1];exact Lib.below_iterAt T.out.below (by omega) _ _
   have hitW:W1.heap[w.heap.size + 1 + 1]?=some (.stringIter s (pos + (Utf8.decode s pos).2)):=by rw [←hW1];exact Lib.iterAt_heap wr _ s pos _ T.out.it
   have hoth:∀ j,j≠w.heap.size + 1 + 1→W1.heap[j]?=wr.heap[j]?:=fun j hj=>by rw [←hW1];exact Lib.iterAt_other wr _ j s _ hj
   obtain ⟨a,b,c,d,e,f,g2,h,e1,sb⟩:=T.out.sbp
   have hsp:SB W1 w.heap.size a b c d e f g2 h:=by unfold SB at sb ⊢;rw [hoth _ (by omega)];exact sb
   have hsr:SB W1 (w.heap.size + 1) 0 0 0 0 0 0 0 0:=by have:=T.out.sbr;unfold SB at this ⊢;rw [hoth _ (by omega)];exact this
   have hrun:=hide T.out.hr
   have hposit:=iterPos_of T.out.it
   have hgW:=g.out.below hbW
   have b0:=hgW.btc 0 (by omega);have b1:=hgW.btc 1 (by omega);have b2:=hgW.btc 2 (by omega);have b3:=hgW.btc 3 (by omega)
   have b4:=hgW.btc 4 (by omega);have b5:=hgW.btc 5 (by omega);have b6:=hgW.btc 6 (by omega);have b7:=hgW.btc 7 (by omega)
   obtain ⟨c0,c1,c2,c3,c4,c5,c6,c7,_⟩:=hsp.cells
   have hdr:=drop_cons s pos hp
   have hdec:=decode_chr s pos hp
   have hdl:(bl (s.extract pos s.size))=(bl s).drop pos:=by
    have:=Lib.extract_eq s pos s.size
    rw [this]
    show (((bl s).drop pos).take (s.size - pos))=_
    exact List.take_of_length_le (by rw [List.length_drop,bl_length];omega)
   have heq:∀ w,(Op.equalIn 10000 181 (.agg #[.int .u8 a,.int .u8 b,.int .u8 c,.int .u8 d,.int .u8 e,.int .u8 f,.int .u8 g2,.int .u8 h]) (.agg #[.int .u8 0,.int .u8 0,.int .u8 0,.int .u8 0,.int .u8 0,.int .u8 0,.int .u8 0,.int .u8 0])).run Tryz.prog w=.ok (q==.i8) w:=fun w=>by
    have:=eq_sp q w
    rw [e1] at this
    exact this
   clear hW1 hoth sb T
   have hbW:=hide hbW
   have hitW:=hide hitW
   have hsp:=hide hsp
   have hsr:=hide hsr
   have hgW:=hide hgW
   have e1:=hide e1
   have hqe:(q==IntKind.i8)=decide (q=.i8):=by cases q <;> rfl
   rw [hqe] at heq
   by_cases hq:q=.i8
   ·cases hc:chr ((bl s).drop pos) with
    | some rn =>
     obtain ⟨r,n⟩:=rn
     rw [hc] at hdec
     simp only [Option.getD_some] at hdec
     obtain ⟨n1,n4,nl,hrn,_,_⟩:=chr_some hc
     rw [List.length_drop,bl_length] at nl
     have hwh:=hide (isWhole_any r (s.extract pos s.size))
     have hwt:whole r (bl (s.extract pos s.size))=true:=by rw [hdl];exact whole_some hc
     have hwh:=hide (fun w=>isWhole_any r (s.extract pos s.size) w true hwt)
     have hnext:=hide (show run p ((bl s).take (pos + n))=some .i8 from run_take hrun.out (by rw [hq];exact hrn))
     subst hq
     simp only [decide_true] at heq
     rw [hdec] at hnx hitW
     clear hdr hdec hdl hwt hc hrn
     go_wp2_with (go_at_call 213;refine (hwh.out _).mono ?_;rintro r w2 ⟨rfl,hw2⟩;have hw2s:=hw2.symm;clear hw2;subst hw2s)
     go_roundw
     case rel=>exact ⟨pos + n,.i8,rfl,hbW.out,⟨a,b,c,d,e,f,g2,h,e1.out,hsp.out⟩,hsr.out,hitW.out,by omega,hnext.out⟩
     case measure=>rw [hposit,iterPos_of hitW.out];omega
    | none =>
     rw [hc] at hdec
     simp only [Option.getD_none] at hdec
     have hwt:whole 65533 (bl (s.extract pos s.size))=false:=by rw [hdl];exact whole_none hc
     have hwh:=hide (fun w=>isWhole_any 65533 (s.extract pos s.size) w false hwt)
     have h8:128≤s[pos].toNat:=by rw [hdr] at hc;exact chr_high hc
     have hst:=hide (fun w g=>step_b0 s[pos].toNat w g h8)
     have hst':Hid (∀ (w:World),Gu w→Calls Tryz.prog 214 #[.agg #[.int .u8 a,.int .u8 b,.int .u8 c,.int .u8 d,.int .u8 e,.int .u8 f,.int .u8 g2,.int .u8 h],.int .u8 s[pos].toNat] w fun r w'=>r=.returned (stV (nx q s[pos].toNat))∧Below w.heap.size w w'):=fun w g=>by
      have:=hst.out w g
      rw [←hq,e1.out] at this
      exact this
     clear hst
     have hst:=hst'
     clear hst' h8
     have hqd:decide (q=IntKind.i8)=true:=decide_eq_true hq
     rw [hqd] at heq
     rw [hdec] at hnx hitW
     clear hdec hdl hwt hc hq hqd hqe
     cases hn:nx q s[pos].toNat with
     | none =>
      have hfin:=hide (show stV (run p (bl s))=.tuple #[.agg #[.int .u8 0,.int .u8 0,.int .u8 0,.int .u8 0,.int .u8 0,.int .u8 0,.int .u8 0,.int .u8 0],.bool false] by rw [run_take_no hrun.out (by rw [hdr];exact run_cons_no hn)];rfl)
      rw [hn] at hst
      simp only [stV,sp] at hst
      clear hdr hn
      go_wp2_with (go_at_call 213;refine (hwh.out _).mono ?_;rintro r w2 ⟨rfl,hw2⟩;have hw2s:=hw2.symm;clear hw2;subst hw2s)
      go_region_with (go_at_call 214;refine (hst.out W1.drew hgW.out.drew).mono ?_;rintro r w2 ⟨rfl,hb2⟩;have T2:Hid (Below w.heap.size w w2):=below_then hbW.out.drew hb2;have sp2:Hid (SB w2 w.heap.size a b c d e f g2 h):=hsp.out.drew.below hb2 hsp.out.lt;have sr2:Hid (SB w2 (w.heap.size + 1) 0 0 0 0 0 0 0 0):=hsr.out.drew.below hb2 hsr.out.lt;have it2:=hide ((hb2.block _ (show w.heap.size + 1 + 1<W1.drew.heap.size from (Array.getElem?_eq_some_iff.1 hitW.out).1)).trans hitW.out);clear hb2;obtain ⟨m0,m1,m2,m3,m4,m5,m6,m7,f0,f1,f2,f3,f4,f5,f6,f7⟩:=sp2.out.cells;obtain ⟨r0,r1,r2,r3,r4,r5,r6,r7,k0,k1,k2,k3,k4,k5,k6,k7⟩:=sr2.out.cells)
      all_goals
       go_wp2_with fail
       exact bodyPost_ret (v:=.tuple #[.agg #[.int .u8 0,.int .u8 0,.int .u8 0,.int .u8 0,.int .u8 0,.int .u8 0,.int .u8 0,.int .u8 0],.bool false]) (res_sb Tryz.results181 _ _ (w.heap.size + 1) _ rfl rfl (by refine SB.set (a:=0) (b:=0) (c:=0) (d:=0) (e:=0) (f:=0) (g:=0) (h:=0) ?_;(iterate 8 refine SB.other ?_ (by omega));exact sr2.out)) rfl ⟨by rw [hfin.out],by (iterate 16 refine below_set ?_ (by omega));exact T2.out⟩
     | some q' =>
      obtain ⟨a',b',c',d',e',f',g3,h',e2,_⟩:=spV_ex q'
      have hnext:=hide (show run p ((bl s).take (pos + 1))=some q' from run_take hrun.out (by rw [hdr];simp [run,hn]))
      rw [hn] at hst
      simp only [stV,e2,sp] at hst
      have e2:=hide e2
      clear hdr hn
      go_wp2_with (go_at_call 213;refine (hwh.out _).mono ?_;rintro r w2 ⟨rfl,hw2⟩;have hw2s:=hw2.symm;clear hw2;subst hw2s)
      go_region_with (go_at_call 214;refine (hst.out W1.drew hgW.out.drew).mono ?_;rintro r w2 ⟨rfl,hb2⟩;have T2:Hid (Below w.heap.size w w2):=below_then hbW.out.drew hb2;have sp2:Hid (SB w2 w.heap.size a b c d e f g2 h):=hsp.out.drew.below hb2 hsp.out.lt;have sr2:Hid (SB w2 (w.heap.size + 1) 0 0 0 0 0 0 0 0):=hsr.out.drew.below hb2 hsr.out.lt;have it2:=hide ((hb2.block _ (show w.heap.size + 1 + 1<W1.drew.heap.size from (Array.getElem?_eq_some_iff.1 hitW.out).1)).trans hitW.out);clear hb2;obtain ⟨m0,m1,m2,m3,m4,m5,m6,m7,f0,f1,f2,f3,f4,f5,f6,f7⟩:=sp2.out.cells;obtain ⟨r0,r1,r2,r3,r4,r5,r6,r7,k0,k1,k2,k3,k4,k5,k6,k7⟩:=sr2.out.cells)
      all_goals
       go_wp2_with fail
       go_roundw
       case rel=>exact ⟨pos + 1,q',rfl,by (iterate 8 refine below_set ?_ (by omega));exact T2.out,⟨a',b',c',d',e',f',g3,h',e2.out,sp2.out.set⟩,by (iterate 8 refine SB.other ?_ (by omega));exact sr2.out,by (iterate 8 refine it_set ?_ (by omega));exact it2.out,by omega,hnext.out⟩
       case measure=>rw [hposit,iterPos_of (show _=_ by (iterate 8 refine it_set ?_ (by omega));exact it2.out)];omega
   ·have hw1:(nx q s[pos].toNat=none)∨(Utf8.decode s pos).2=1:=by
     cases hc:chr ((bl s).drop pos) with
     | some rn =>
      left
      rw [hdr] at hc
      exact nx_within hq (chr_first hc)
     | none=>right;rw [hdec,hc];rfl
    have hst:Hid (∀ (w:World),Gu w→Calls Tryz.prog 214 #[.agg #[.int .u8 a,.int .u8 b,.int .u8 c,.int .u8 d,.int .u8 e,.int .u8 f,.int .u8 g2,.int .u8 h],.int .u8 s[pos].toNat] w fun r w'=>r=.returned (stV (nx q s[pos].toNat))∧Below w.heap.size w w'):=fun w g=>by
     have:=step_st q hq s[pos].toNat w g
     rw [e1.out] at this
     exact this
    have hqd:decide (q=IntKind.i8)=false:=decide_eq_false hq
    rw [hqd] at heq
    obtain ⟨D1,hD1⟩:∃ D1,(Utf8.decode s pos).1=D1:=⟨_,rfl⟩
    obtain ⟨D2,hD2⟩:∃ D2,(Utf8.decode s pos).2=D2:=⟨_,rfl⟩
    rw [hD1] at hnx
    rw [hD2] at hitW hw1
    clear hdec hdl hqd hqe hD1 hD2
    cases hn:nx q s[pos].toNat with
    | none =>
     have hfin:=hide (show stV (run p (bl s))=.tuple #[.agg #[.int .u8 0,.int .u8 0,.int .u8 0,.int .u8 0,.int .u8 0,.int .u8 0,.int .u8 0,.int .u8 0],.bool false] by rw [run_take_no hrun.out (by rw [hdr];exact run_cons_no hn)];rfl)
     rw [hn] at hst
     simp only [stV,sp] at hst
     clear hdr hn
     go_wp2_with (fail)
     go_region_with (go_at_call 214;refine (hst.out W1.drew hgW.out.drew).mono ?_;rintro r w2 ⟨rfl,hb2⟩;have T2:Hid (Below w.heap.size w w2):=below_then hbW.out.drew hb2;have sp2:Hid (SB w2 w.heap.size a b c d e f g2 h):=hsp.out.drew.below hb2 hsp.out.lt;have sr2:Hid (SB w2 (w.heap.size + 1) 0 0 0 0 0 0 0 0):=hsr.out.drew.below hb2 hsr.out.lt;have it2:=hide ((hb2.block _ (show w.heap.size + 1 + 1<W1.drew.heap.size from (Array.getElem?_eq_some_iff.1 hitW.out).1)).trans hitW.out);clear hb2;obtain ⟨m0,m1,m2,m3,m4,m5,m6,m7,f0,f1,f2,f3,f4,f5,f6,f7⟩:=sp2.out.cells;obtain ⟨r0,r1,r2,r3,r4,r5,r6,r7,k0,k1,k2,k3,k4,k5,k6,k7⟩:=sr2.out.cells)
     all_goals
      go_wp2_with fail
      exact bodyPost_ret (v:=.tuple #[.agg #[.int .u8 0,.int .u8 0,.int .u8 0,.int .u8 0,.int .u8 0,.int .u8 0,.int .u8 0,.int .u8 0],.bool false]) (res_sb Tryz.results181 _ _ (w.heap.size + 1) _ rfl rfl (by refine SB.set (a:=0) (b:=0) (c:=0) (d:=0) (e:=0) (f:=0) (g:=0) (h:=0) ?_;(iterate 8 refine SB.other ?_ (by omega));exact sr2.out)) rfl ⟨by rw [hfin.out],by (iterate 16 refine below_set ?_ (by omega));exact T2.out⟩
    | some q' =>
     obtain ⟨a',b',c',d',e',f',g3,h',e2,_⟩:=spV_ex q'
     have hnext:=hide (show run p ((bl s).take (pos + 1))=some q' from run_take hrun.out (by rw [hdr];simp [run,hn]))
     have hD:D2=1:=by
      rcases hw1 with h1|h1
      ·rw [hn] at h1;cases h1
      ·exact h1
     subst hD
     clear hw1
     rw [hn] at hst
     simp only [stV,e2,sp] at hst
     have e2:=hide e2
     clear hdr hn
     go_wp2_with (fail)
     go_region_with (go_at_call 214;refine (hst.out W1.drew hgW.out.drew).mono ?_;rintro r w2 ⟨rfl,hb2⟩;have T2:Hid (Below w.heap.size w w2):=below_then hbW.out.drew hb2;have sp2:Hid (SB w2 w.heap.size a b c d e f g2 h):=hsp.out.drew.below hb2 hsp.out.lt;have sr2:Hid (SB w2 (w.heap.size + 1) 0 0 0 0 0 0 0 0):=hsr.out.drew.below hb2 hsr.out.lt;have it2:=hide ((hb2.block _ (show w.heap.size + 1 + 1<W1.drew.heap.size from (Array.getElem?_eq_some_iff.1 hitW.out).1)).trans hitW.out);clear hb2;obtain ⟨m0,m1,m2,m3,m4,m5,m6,m7,f0,f1,f2,f3,f4,f5,f6,f7⟩:=sp2.out.cells;obtain ⟨r0,r1,r2,r3,r4,r5,r6,r7,k0,k1,k2,k3,k4,k5,k6,k7⟩:=sr2.out.cells)
     all_goals
      go_wp2_with fail
      go_roundw
      case rel=>exact ⟨pos + 1,q',rfl,by (iterate 8 refine below_set ?_ (by omega));exact T2.out,⟨a',b',c',d',e',f',g3,h',e2.out,sp2.out.set⟩,by (iterate 8 refine SB.other ?_ (by omega));exact sr2.out,by (iterate 8 refine it_set ?_ (by omega));exact it2.out,by omega,hnext.out⟩
      case measure=>rw [hposit,iterPos_of (show _=_ by (iterate 8 refine it_set ?_ (by omega));exact it2.out)];omega
  ·have hpe:pos=s.size:=by have:=T.out.le;omega
   subst hpe
   have hnx:∀ ty,(Instr.next (.pointer (some ⟨w.heap.size + 1 + 1,0,none⟩)) true ty).run Tryz.prog wr=.ok (.tuple #[.bool false]) wr:=fun ty=>Lib.run_next_end_at wr _ s _ ty T.out.it hp
   obtain ⟨a,b,c,d,e,f,g2,h,e1,sb⟩:=T.out.sbp
   obtain ⟨c0,c1,c2,c3,c4,c5,c6,c7,_⟩:=sb.cells
   obtain ⟨r0,r1,r2,r3,r4,r5,r6,r7,k0,k1,k2,k3,k4,k5,k6,k7⟩:=T.out.sbr.cells
   have hfin:=hide (show stV (run p (bl s))=.tuple #[.agg #[.int .u8 a,.int .u8 b,.int .u8 c,.int .u8 d,.int .u8 e,.int .u8 f,.int .u8 g2,.int .u8 h],.bool true] by
    have:=T.out.hr
    rw [List.take_of_length_le (by rw [bl_length];omega)] at this
    rw [this]
    simp only [stV,e1,sp])
   clear e1
   have sb:=hide sb
   go_wp2_with fail
   exact bodyPost_ret (v:=.tuple #[.agg #[.int .u8 a,.int .u8 b,.int .u8 c,.int .u8 d,.int .u8 e,.int .u8 f,.int .u8 g2,.int .u8 h],.bool true]) (res_sb Tryz.results181 _ _ (w.heap.size + 1) _ rfl rfl T.out.sbr.set) rfl ⟨by rw [hfin.out],by have:=T.out.below;(iterate 8 refine below_set ?_ (by omega));exact this⟩
end Go.Proofs.YtgicnopppgnjjaaGreatDoor.Ut
namespace Go.Proofs.YtgicnopppgnjjaaGreatDoor.Ut
open Go.RowKit
def okT (l:List UInt8):Bool:=decide (run .i8 l=some .i8)
theorem run_ok {o:Option St} {l:List UInt8} (h:run .i8 l=o):okT l=(o.isSome && (o.getD .i16==.i8)):=by
 unfold okT
 rw [h]
 cases o with
 | none=>rfl
 | some q=>cases q <;> rfl
theorem Gu.bts {w:World} (g:Gu w):w.cell? ⟨4,0,none⟩=some (.int .u8 0)∧w.cell? ⟨4,1,none⟩=some (.int .u8 0)∧w.cell? ⟨4,2,none⟩=some (.int .u8 0)∧w.cell? ⟨4,3,none⟩=some (.int .u8 0)∧w.cell? ⟨4,4,none⟩=some (.int .u8 0)∧w.cell? ⟨4,5,none⟩=some (.int .u8 0)∧w.cell? ⟨4,6,none⟩=some (.int .u8 0)∧w.cell? ⟨4,7,none⟩=some (.int .u8 0) :=
 ⟨g.btc 0 (by omega),g.btc 1 (by omega),g.btc 2 (by omega),g.btc 3 (by omega),g.btc 4 (by omega),g.btc 5 (by omega),g.btc 6 (by omega),g.btc 7 (by omega)⟩
theorem Gu.bt1 {w:World} (g:Gu w):(∀ o,(w.alloc o).cell? ⟨4,0,none⟩=some (.int .u8 0))∧(∀ o,(w.alloc o).cell? ⟨4,1,none⟩=some (.int .u8 0))∧(∀ o,(w.alloc o).cell? ⟨4,2,none⟩=some (.int .u8 0))∧(∀ o,(w.alloc o).cell? ⟨4,3,none⟩=some (.int .u8 0))∧(∀ o,(w.alloc o).cell? ⟨4,4,none⟩=some (.int .u8 0))∧(∀ o,(w.alloc o).cell? ⟨4,5,none⟩=some (.int .u8 0))∧(∀ o,(w.alloc o).cell? ⟨4,6,none⟩=some (.int .u8 0))∧(∀ o,(w.alloc o).cell? ⟨4,7,none⟩=some (.int .u8 0)):=by
 have k:∀ o,Gu (w.alloc o):=fun o=>g.below (below_al (Below.refl _ _))
 exact ⟨fun o=>(k o).btc 0 (by omega),fun o=>(k o).btc 1 (by omega),fun o=>(k o).btc 2 (by omega),fun o=>(k o).btc 3 (by omega),fun o=>(k o).btc 4 (by omega),fun o=>(k o).btc 5 (by omega),fun o=>(k o).btc 6 (by omega),fun o=>(k o).btc 7 (by omega)⟩
theorem thru_b0 (s:ByteArray) (w:World) (g:Gu w) (hs:s.size<9223372036854775807) :
  Calls Tryz.prog 181 #[.agg #[.int .u8 0,.int .u8 0,.int .u8 0,.int .u8 0,.int .u8 0,.int .u8 0,.int .u8 0,.int .u8 0],.string s] w fun r w'=>r=.returned (stV (run .i8 (bl s)))∧Below w.heap.size w w':=through_any .i8 s w g hs
set_option maxHeartbeats 1000000 in
theorem valid_any (s:ByteArray) (w:World) (g:Gu w) (hs:s.size<9223372036854775807) :
  Calls Tryz.prog 152 #[.string s] w fun r w'=>r=.returned (.bool (okT (bl s)))∧Below w.heap.size w w':=by
 obtain ⟨b0,b1,b2,b3,b4,b5,b6,b7⟩:=g.bts
 have g:=hide g
 have ht:=hide (thru_b0 s w g.out hs)
 obtain ⟨o,ho⟩:∃ o,run .i8 (bl s)=o:=⟨_,rfl⟩
 rw [run_ok ho]
 rw [ho] at ht
 clear ho
 cases o with
 | none =>
  simp only [stV,sp] at ht
  go_enter Tryz.func152, Tryz.ntmps152
  go_wp2_with (go_at_call 181;refine ht.out.mono ?_;rintro r w1 ⟨rfl,hb1⟩;obtain ⟨d0,d1,d2,d3,d4,d5,d6,d7⟩:=(g.out.below hb1).bt1;have hb1:=hide hb1)
  go_ret
  exact ⟨rfl,below_al hb1.out⟩
 | some q =>
  obtain ⟨a,b,c,d,e,f,g2,h,e1,heq⟩:=spV_ex q
  simp only [stV,e1,sp] at ht
  clear e1
  go_enter Tryz.func152, Tryz.ntmps152
  go_wp2_with (go_at_call 181;refine ht.out.mono ?_;rintro r w1 ⟨rfl,hb1⟩;obtain ⟨d0,d1,d2,d3,d4,d5,d6,d7⟩:=(g.out.below hb1).bt1;have hb1:=hide hb1)
  go_ret
  exact ⟨by simp,below_al hb1.out⟩
theorem isCharacter_any (r:Int) (w:World) (h0:-9223372036854775808≤r) (h1:r≤9223372036854775807) :
  Calls Tryz.prog 259 #[.int .i64 r] w fun e w'=>e=.returned (.bool (Utf8.valid r))∧w'=w:=by
 have e:Utf8.valid r=decide ((0≤r∧r<55296)∨(55295 + 2048<r∧r≤1114111)):=by
  simp only [Utf8.valid]
  rw [Bool.eq_iff_iff]
  simp only [Bool.or_eq_true,Bool.and_eq_true,decide_eq_true_eq]
  omega
 rw [e]
 go_enter Tryz.func259, Tryz.ntmps259
 go_wp2
 all_goals
  go_ret
  refine ⟨congrArg Ending.returned (show Value.bool _=Value.bool _ from congrArg Value.bool ?_),rfl⟩
  first
   | rfl
   | (rw [Bool.eq_iff_iff];simp;omega)
set_option maxHeartbeats 1000000 in
theorem encode_any (r:Int) (w:World) (h0:-9223372036854775808≤r) (h1:r≤9223372036854775807) :
  Calls Tryz.prog 251 #[.int .i64 r] w fun e w'=>e=.returned (.tuple (if Utf8.valid r then #[.string (Utf8.encode r),.int .i64 0] else #[.string ⟨#[]⟩,.int .i64 1]))∧w'=w:=by
 have hc:=hide (fun w=>isCharacter_any r w h0 h1)
 cases hv:Utf8.valid r
 ·rw [hv] at hc
  go_enter Tryz.func251, Tryz.ntmps251
  go_wp2_with (go_at_call 259;refine (hc.out _).mono ?_;rintro e w1 ⟨rfl,rfl⟩)
  go_ret2
  exact ⟨rfl,rfl⟩
 ·rw [hv] at hc
  have hw:IntKind.i32.wrap r=r:=by
   have:0≤r∧r≤1114111:=by
    simp only [Utf8.valid,Bool.or_eq_true,Bool.and_eq_true,decide_eq_true_eq] at hv
    omega
   rw [IntKind.wrap_i32];omega
  clear hv
  go_enter Tryz.func251, Tryz.ntmps251
  go_wp2_with (go_at_call 259;refine (hc.out _).mono ?_;rintro e w1 ⟨rfl,rfl⟩)
  go_ret2
  exact ⟨rfl,rfl⟩
end Go.Proofs.YtgicnopppgnjjaaGreatDoor.Ut
