/- Merged by program: AkUnq, AlCut. -/
import Derived.Test.YtgicnopppgnjjaaGreatDoorZd21
import Derived.Test.YtgicnopppgnjjaaGreatDoorZd06
set_option linter.unusedSimpArgs false
set_option linter.unusedVariables false
namespace Go.Proofs.YtgicnopppgnjjaaGreatDoor
namespace Lx
open Go.RowKit
theorem byN_len {l s:List UInt8} {n:Nat} (h:byN l=some (s,n)):s.length≤n:=by
 unfold byN at h
 split at h
 ·cases h
 ·split at h
  ·cases h
  ·rename_i r _
   split at h
   ·rename_i hv
    simp only [Option.some.injEq,Prod.mk.injEq] at h
    have hc:=Ut.chr_encode r hv []
    have:=(Ut.chr_some hc).2.1
    rw [←h.1,←h.2]
    omega
   ·cases h
theorem chO_len {l s:List UInt8} {n:Nat} (h:chO l=some (s,n)):s.length≤n:=by
 cases l with
 | nil=>cases h
 | cons c l =>
  simp only [chO] at h
  split at h
  ·cases l with
   | nil=>cases h
   | cons d l =>
    simp only [escO] at h
    split at h
    ·cases h;simp
    ·split at h
     ·exact byN_len h
     ·cases h
  ·split at h
   ·cases h
   ·split at h
    ·cases h
    ·cases h
     simp only [List.length_take]
     omega
def addU (A:List UInt8) (p:Nat) (R:Option (List UInt8×Nat)):Option (List UInt8×Nat):=match R with
 | none=>none
 | some (s,m)=>some (A++s,p + m)
def rst (l:List UInt8) (p:Nat):Option (List UInt8×Nat):=unq (l.drop p).length (l.drop p)
theorem rst_end (l:List UInt8) (p:Nat) (h:l.length≤p):rst l p=none:=by
 unfold rst;rw [List.drop_of_length_le h];rfl
theorem rst_34 (l:List UInt8) (p:Nat) (c:UInt8) (t:List UInt8) (h:l.drop p=c :: t) (hc:c.toNat=34):rst l p=some ([],1):=by
 unfold rst;rw [h];simp [unq,hc]
theorem rst_none (l:List UInt8) (p:Nat) (c:UInt8) (t:List UInt8) (h:l.drop p=c :: t) (hc:¬ c.toNat=34) (hn:chO (l.drop p)=none):rst l p=none:=by
 unfold rst;rw [h] at hn ⊢;simp [unq,hc,hn]
theorem rst_some (l:List UInt8) (p:Nat) (c:UInt8) (t:List UInt8) (h:l.drop p=c :: t) (hc:¬ c.toNat=34) {s:List UInt8} {n:Nat} (hn:chO (l.drop p)=some (s,n)):rst l p=addU s n (rst l (p + n)):=by
 have hnn:1≤n∧n≤(c :: t).length:=chO_n (by rw [←h];exact hn)
 have hd:l.drop (p + n)=(c :: t).drop n:=by rw [←List.drop_drop,h]
 unfold rst
 rw [hd,h]
 rw [h] at hn
 simp only [List.length_cons,unq]
 rw [if_neg hc,hn]
 simp only
 rw [unq_more t.length _ (by rw [List.length_drop,List.length_cons];omega)]
 rfl
theorem addU_addU (A s:List UInt8) (p n:Nat) (R:Option (List UInt8×Nat)):addU A p (addU s n R)=addU (A++s) (p + n) R:=by
 cases R with
 | none=>rfl
 | some x=>obtain ⟨a,b⟩:=x;simp [addU,Nat.add_assoc]
theorem quS_rst (c:UInt8) (l:List UInt8) (hc:c.toNat=34):quS (c :: l)=addU [] 1 (rst (c :: l) 1):=by
 unfold rst
 simp only [quS,hc,if_true,List.drop_succ_cons,List.drop_zero]
 cases unq l.length l with
 | none=>rfl
 | some x=>obtain ⟨a,b⟩:=x;simp [addU,Nat.add_comm]
set_option maxHeartbeats 2000000 in
set_option maxRecDepth 100000 in
theorem unq_any (s:ByteArray) (w:World) (g:Gg w) (h0:0<s.size) (hs:s.size≤40000):Calls Tryz.prog 160 #[.string s] w fun e w'=>e=chE (quS (bl s))∧Below w.heap.size w w':=by
 obtain ⟨l,hl⟩:=bl_cons s h0
 have h0i:(0:Int)<(s.size:Int):=by omega
 by_cases h34:s[0].toNat=34
 ·have hq0:quS (bl s)=addU [] 1 (rst (bl s) 1):=by rw [hl];exact quS_rst _ _ h34
  obtain ⟨U,hU⟩:∃ U,quS (bl s)=U:=⟨_,rfl⟩
  rw [hU] at hq0 ⊢
  have i1:((s[0].toNat:Int)==34)=true:=by simp;omega
  have i2:((s[0].toNat:Int) != 34)=false:=by simp;omega
  have g0:=hide g
  have hq0:=hide hq0
  clear hl h34 hU g
  rename_i hqq
  clear hqq
  go_enter Tryz.func160, Tryz.ntmps160
  go_wp2
  go_loopw [4,5] (fun v i W=>∃ (p:Nat) (A:List UInt8),i=.int .i64 (p:Nat)∧p≤s.size∧Hid (Own W w.heap.size v A∧A.length≤p∧U=addU A p (rst (bl s) p)∧Below w.heap.size w W∧1≤p)) (fun _ i _=>s.size - (intOf i).toNat)
  case atStart=>exact ⟨1,[],rfl,by omega,own_nil _ _,by simp,hq0.out,Below.refl _ _,by omega⟩
  case round =>
   obtain ⟨p,A,rfl,hp,H⟩:=hrel
   obtain ⟨hO,hAl,hUp,hB,hp1⟩:=H.out
   have O1:=hide hO
   have B1:=hide hB
   have U1:=hide hUp
   have A1:=hide hAl
   have gr:=hide (g0.out.below hB g0.out.sz)
   clear H hO hB hUp hAl
   by_cases hps:p<s.size
   ·have hpi:(p:Int)<(s.size:Int):=by omega
    have hpl:p<(bl s).length:=by rw [bl_length];exact hps
    have hd:(bl s).drop p=s[p] :: (bl s).drop (p + 1):=by rw [List.drop_eq_getElem_cons hpl];exact congrArg (· :: (bl s).drop (p + 1)) (bl_get s p hps)
    by_cases hc:s[p].toNat=34
    ·have hr:=rst_34 (bl s) p _ _ hd hc
     have U2:Hid (U=some (A,p + 1)):=by show _=_;rw [U1.out,hr];simp [addU]
     have j1:((s[p].toNat:Int)==34)=true:=by simp;omega
     have j2:((s[p].toNat:Int) != 34)=false:=by simp;omega
     have j3:((p:Int)==(s.size:Int))=false:=by simp;omega
     have hcv:=own_conv O1.out
     clear hr hc hd U1
     go_wp2
     go_ret2
     exact ⟨by rw [U2.out];rfl,B1.out⟩
    ·have j1:((s[p].toNat:Int)==34)=false:=by simp;omega
     have j2:((s[p].toNat:Int) != 34)=true:=by simp;omega
     obtain ⟨t,ht⟩:∃ t,s.extract p s.size=t:=⟨_,rfl⟩
     have htb:bl t=(bl s).drop p:=by rw [←ht,drop_mkB,bl_mkB]
     have hts:t.size=s.size - p:=by rw [←bl_length,htb,List.length_drop,bl_length]
     have hch:=hide (char_any t _ gr.out (by omega) (by omega))
     rw [htb] at hch
     cases ho:chO ((bl s).drop p) with
     | none =>
      have hr:=rst_none (bl s) p _ _ hd hc ho
      have U2:Hid (U=none):=by show _=_;rw [U1.out,hr];rfl
      rw [ho] at hch
      simp only [chE_none] at hch
      clear hr hc hd U1 ho htb hts
      go_wp2_with (go_at_call 190;refine hch.out.mono ?_;rintro e w1 ⟨rfl,hb1⟩;have hb1:=hide (below_then B1.out hb1))
      go_ret2
      exact ⟨by rw [U2.out];rfl,hb1.out⟩
     | some x =>
      obtain ⟨c,n⟩:=x
      have hr:=rst_some (bl s) p _ _ hd hc ho
      have U2:Hid (U=addU (A++c) (p + n) (rst (bl s) (p + n))):=by show _=_;rw [U1.out,hr,addU_addU]
      have hnn:1≤n∧n≤s.size - p:=by
       have hh:=chO_n (by rw [←hd];exact ho)
       rw [←hd,List.length_drop,bl_length] at hh
       exact hh
      have hcl:=hide (chO_len ho)
      rw [ho] at hch
      simp only [chE_some] at hch
      have jn1:((n:Int)==0)=false:=by simp;omega
      have hcs:Hid ((mkB c).size=c.length):=mkB_size c
      have hcb:=hide (bl_mkB c)
      obtain ⟨C,hC⟩:∃ C,mkB c=C:=⟨_,rfl⟩
      rw [hC] at hch hcs hcb
      clear hr hc hd U1 ho htb hts hC
      have hsum:∀ W:World,Below w.heap.size w W→w.heap.size≤W.heap.size:=fun W h=>h.size
      have jp:(p:Int) + (n:Int)≤9223372036854775807:=by omega
      go_wp2_with (first|(go_at_call 190;refine hch.out.mono ?_;rintro e w1 ⟨rfl,hb1⟩;have O2:=hide (own_keep O1.out hb1);have hb1:=hide (below_then B1.out hb1))|(at_builtin;refine Sto.out ?_))
      refine Sto.mk ?_
      refine app_str rfl (.tmp 30) (.tmp 31) rfl w.heap.size u4 A rfl O2.out C rfl (by have:=A1.out;have:=hcl.out;have:=hcs.out;omega) (hsum _ hb1.out) ?_
      intro v' w' ho hb hz
      have O3:Hid (Own w' w.heap.size v' (A++c)):=by have:=ho.out;rw [hcb.out] at this;exact this
      have B3:Hid (Below w.heap.size w w'):=hb1.out.trans hb.out
      clear ho hb
      go_wp2
      go_roundw
      case rel=>exact ⟨p + n,A++c,by go_num,by omega,O3.out,by rw [List.length_append];have:=A1.out;have:=hcl.out;omega,U2.out,B3.out,by omega⟩
      case measure=>simp [intOf];omega
   ·have hpi:¬ (p:Int)<(s.size:Int):=by omega
    have hr:=rst_end (bl s) p (by rw [bl_length];omega)
    have U2:Hid (U=none):=by show _=_;rw [U1.out,hr];rfl
    have j3:((p:Int)==(s.size:Int))=true:=by simp;omega
    clear hr U1
    go_wp2
    go_ret2
    exact ⟨by rw [U2.out];rfl,B1.out⟩
 ·have hq0:quS (bl s)=none:=by rw [hl];simp [quS,h34]
  rw [hq0,chE_none]
  have i1:((s[0].toNat:Int)==34)=false:=by simp;omega
  have i2:((s[0].toNat:Int) != 34)=true:=by simp;omega
  clear hq0 hl h34
  go_enter Tryz.func160, Tryz.ntmps160
  go_wp2
  go_ret2
  exact ⟨rfl,Below.refl _ _⟩
end Lx
end Go.Proofs.YtgicnopppgnjjaaGreatDoor
namespace Go.Proofs.YtgicnopppgnjjaaGreatDoor
namespace Lx
open Go.RowKit
def cutE (x:List UInt8×Nat):Ending:=.returned (.tuple #[.string (mkB x.1),.int .i64 (x.2:Nat)])
set_option maxHeartbeats 1000000 in
set_option maxRecDepth 100000 in
theorem cut_any (hP:ParseOk) (k:Nat) (hk:k<5) (s:ByteArray) (w:World) (g:Gg w) (h0:0<s.size) (hs:s.size≤40000∨(k≠3∧s.size≤100000)) :
  Calls Tryz.prog 122 #[.int .i64 (k:Nat),.string s] w fun e w'=>e=cutE (cutK nok k (bl s))∧Below w.heap.size w w':=by
 obtain ⟨l,hl⟩:=bl_cons s h0
 have hs1:s.size≤100000:=by omega
 have hle:=hide (cutK_le nok k s[0] l)
 rw [←hl,bl_length] at hle
 have tk:=take_mk s
 have:k=0∨k=1∨k=2∨k=3∨k=4:=by omega
 rcases this with rfl|rfl|rfl|rfl|rfl
 ·have hc:=hide (xblank_any s w h0 hs1)
  have he:cutK nok 0 (bl s)=([],blS (bl s)):=rfl
  rw [he]
  obtain ⟨n,hn⟩:∃ n,blS (bl s)=n:=⟨_,rfl⟩
  rw [hn] at hc ⊢
  clear hn he hl g tk hle
  go_enter Tryz.func122, Tryz.ntmps122
  go_wp2_with (go_at_call 159;refine hc.out.mono ?_;rintro e w1 ⟨rfl,hw1⟩;have hw1s:=hw1.symm;clear hw1;subst hw1s)
  go_ret2
  exact ⟨rfl,Below.refl _ _⟩
 ·have hc:=hide (xname_any s w h0 hs1)
  have he:cutK nok 1 (bl s)=((bl s).take (nmS (bl s)),nmS (bl s)):=rfl
  rw [he] at hle ⊢
  obtain ⟨n,hn⟩:∃ n,nmS (bl s)=n:=⟨_,rfl⟩
  rw [hn] at hc hle ⊢
  have hni:(0:Int)≤(n:Int)∧(n:Int)≤(s.size:Int):=by have:=hle.out;simp only at this;omega
  obtain ⟨hn0,hn1⟩:=hni
  have ht:=(tk n).symm
  unfold cutE
  simp only
  rw [ht]
  clear hn he hl g tk hle ht
  go_enter Tryz.func122, Tryz.ntmps122
  go_wp2_with (go_at_call 161;refine hc.out.mono ?_;rintro e w1 ⟨rfl,hw1⟩;have hw1s:=hw1.symm;clear hw1;subst hw1s)
  go_ret2
  exact ⟨rfl,Below.refl _ _⟩
 ·have hc:=hide (xnum_any hP s w h0 hs1)
  have he:cutK nok 2 (bl s)=((bl s).take (nuS nok (bl s)),nuS nok (bl s)):=rfl
  rw [he] at hle ⊢
  obtain ⟨n,hn⟩:∃ n,nuS nok (bl s)=n:=⟨_,rfl⟩
  rw [hn] at hc hle ⊢
  have hni:(0:Int)≤(n:Int)∧(n:Int)≤(s.size:Int):=by have:=hle.out;simp only at this;omega
  obtain ⟨hn0,hn1⟩:=hni
  have ht:=(tk n).symm
  unfold cutE
  simp only
  rw [ht]
  clear hn he hl g tk hle ht
  go_enter Tryz.func122, Tryz.ntmps122
  go_wp2_with (go_at_call 162;refine hc.out.mono ?_;rintro e w1 ⟨rfl,hb1⟩;have hb1:=hide hb1)
  go_ret2
  exact ⟨rfl,hb1.out⟩
 ·have hc:=hide (unq_any s w g h0 (by omega))
  have he:cutK nok 3 (bl s)=(quS (bl s)).getD ([],0):=rfl
  rw [he]
  obtain ⟨o,ho⟩:∃ o,quS (bl s)=o:=⟨_,rfl⟩
  rw [ho] at hc ⊢
  clear ho he hl g tk hle
  cases o with
  | none =>
   have hc2:Hid (Calls Tryz.prog 160 #[.string s] w fun e w'=>e=.returned (.tuple #[.string ⟨#[]⟩,.int .i64 0])∧Below w.heap.size w w'):=hc
   clear hc
   go_enter Tryz.func122, Tryz.ntmps122
   go_wp2_with (go_at_call 160;refine hc2.out.mono ?_;rintro e w1 ⟨rfl,hb1⟩;have hb1:=hide hb1)
   go_ret2
   exact ⟨rfl,hb1.out⟩
  | some x =>
   obtain ⟨x1,x2⟩:=x
   have hc2:Hid (Calls Tryz.prog 160 #[.string s] w fun e w'=>e=.returned (.tuple #[.string (mkB x1),.int .i64 (x2:Nat)])∧Below w.heap.size w w'):=hc
   clear hc
   go_enter Tryz.func122, Tryz.ntmps122
   go_wp2_with (go_at_call 160;refine hc2.out.mono ?_;rintro e w1 ⟨rfl,hb1⟩;have hb1:=hide hb1)
   go_ret2
   exact ⟨rfl,hb1.out⟩
 ·have hc:=hide (xmark_any s w h0 hs1)
  have he:cutK nok 4 (bl s)=((bl s).take (mkS (bl s)),mkS (bl s)):=rfl
  rw [he] at hle ⊢
  obtain ⟨n,hn⟩:∃ n,mkS (bl s)=n:=⟨_,rfl⟩
  rw [hn] at hc hle ⊢
  have hni:(0:Int)≤(n:Int)∧(n:Int)≤(s.size:Int):=by have:=hle.out;simp only at this;omega
  obtain ⟨hn0,hn1⟩:=hni
  have ht:=(tk n).symm
  unfold cutE
  simp only
  rw [ht]
  clear hn he hl g tk hle ht
  go_enter Tryz.func122, Tryz.ntmps122
  go_wp2_with (go_at_call 163;refine hc.out.mono ?_;rintro e w1 ⟨rfl,hw1⟩;have hw1s:=hw1.symm;clear hw1;subst hw1s)
  go_ret2
  exact ⟨rfl,Below.refl _ _⟩
end Lx
end Go.Proofs.YtgicnopppgnjjaaGreatDoor
