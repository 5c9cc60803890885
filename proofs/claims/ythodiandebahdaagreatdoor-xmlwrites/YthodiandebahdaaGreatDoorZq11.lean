/- Merged by program: XbRdep. -/
import Derived.Test.YthodiandebahdaaGreatDoorZq00
namespace Go.Proofs.YthodiandebahdaaGreatDoor
open Go.RowKit
set_option linter.unusedSimpArgs false
set_option linter.unusedVariables false
set_option maxHeartbeats 8000000
set_option maxRecDepth 100000 in
theorem rdepth_any:∀ (n:Nat)(x:VT n)(ns ls:Value)(w:World),RD n w x ns ls→siz n x≤200000 →
  Calls Tryz.prog 79 #[.agg (vals (vhd n x) ns ls)] w fun e w'=>e=.returned (.int .i64 (dep n x))∧Below w.heap.size w w':=by
 intro n
 induction n with
 | zero=>intro x;exact Empty.elim x
 | succ n ih =>
  intro x ns ls w hr hs
  obtain ⟨h,l⟩:=x
  obtain ⟨al,cl,rfl,hc1,hc2⟩:=hr.len
  have hB0:=hide (bx_new w h ns (.slice al l.length cl))
  have hr:=hide hr
  have ih':=hide ih
  have hs':=hide hs
  clear ih hs
  show Calls _ _ #[.agg #[.int .i64 h.kind,.bool h.flag,.bool h.neg,.string h.dig,.int .i64 h.exp,.int .u64 h.bits,.string h.text,ns,.slice al l.length cl]] _ _
  go_enter Tryz.func79, Tryz.ntmps79
  go_wp2_with fail
  go_loopw [3,4] (fun m i w'=>∃ k:Nat,m=.int .i64 (mxl ((l.map (dep n)).take k):Nat)∧i=.int .i64 k∧k≤l.length∧Hid (Bx w' w.heap.size h ns (.slice al l.length cl))∧Hid (Below w.heap.size w w')) (fun _ i _=>l.length - (intOf i).toNat)
  case atStart=>exact ⟨0,rfl,rfl,Nat.zero_le _,hB0.out,below_al (Below.refl _ _)⟩
  case round =>
   obtain ⟨k,rfl,rfl,hk,hB,hb⟩:=hrel
   have ml:maxLen=9223372036854775807:=rfl
   have hk63:(k:Int)≤9223372036854775807:=by omega
   have hc8:=hB.out.cells.2.2.2.2.2.2.2.2
   by_cases hkl:k<l.length
   ·obtain ⟨b,o,c,he,hbl,hlc,hcm,ns',ls',hrg,hrd⟩:=hr.out.at k hkl
    have he':=Value.slice.inj he
    obtain ⟨rfl,_,rfl⟩:=he'
    clear he
    have hki:(k:Int)<(l.length:Int):=by omega
    have hk63:(k:Int)<9223372036854775807:=by omega
    obtain ⟨c0,c1,c2,c3,c4,c5,c6,c7,c8⟩:=range9 (rangeAt_below hrg hb.out hbl)
    have hrd':=hide (hrd.below hb.out)
    obtain ⟨a1,m1,d1,a2,m2,d2,rfl,rfl⟩:=hrd.shape
    clear hrg hrd
    have hsk:siz n l[k]≤200000:=by have h1:=siz_mem (x:=(h,l)) hkl;have h2:=hs'.out;simp only at h1;omega
    obtain ⟨D,hD⟩:∃ D,dep n l[k]=D:=⟨_,rfl⟩
    have hmx:=mxl_take (l.map (dep n)) k (by simpa using hkl)
    rw [List.getElem_map,hD] at hmx
    have hcall:=hide (ih'.out l[k] (.slice a1 m1 d1) (.slice a2 m2 d2) wr hrd'.out hsk)
    rw [hD] at hcall
    obtain ⟨M,hM⟩:∃ M,mxl ((l.map (dep n)).take k)=M:=⟨_,rfl⟩
    rw [hM] at hmx ⊢
    have hmx':=hide hmx
    have hD':=hide hD
    have hM':=hide hM
    clear hD hM hsk hmx
    rcases Nat.lt_trichotomy M D with hlt|hlt|hlt
    ·have hdi:(M:Int)<(D:Int):=by omega
     have hdj:¬ ((D:Int)<(M:Int)):=by omega
     go_wp2_with (go_at_call 79;refine hcall.out.mono ?_;rintro e w1 ⟨rfl,hb1⟩)
     exact ⟨⟨k+1,by rw [hmx'.out];congr 2;omega,by go_num,by omega,hB.out.below hb1,below_then hb.out hb1⟩,by simp [intOf];omega⟩
    ·subst hlt
     have hdi:¬ ((M:Int)<(M:Int)):=by omega
     go_wp2_with (go_at_call 79;refine hcall.out.mono ?_;rintro e w1 ⟨rfl,hb1⟩)
     exact ⟨⟨k+1,by rw [hmx'.out];congr 2;omega,by go_num,by omega,hB.out.below hb1,below_then hb.out hb1⟩,by simp [intOf];omega⟩
    ·have hdi:(D:Int)<(M:Int):=by omega
     have hdj:¬ ((M:Int)<(D:Int)):=by omega
     go_wp2_with (go_at_call 79;refine hcall.out.mono ?_;rintro e w1 ⟨rfl,hb1⟩)
     exact ⟨⟨k+1,by rw [hmx'.out];congr 2;omega,by go_num,by omega,hB.out.below hb1,below_then hb.out hb1⟩,by simp [intOf];omega⟩
   ·have hki:¬ ((k:Int)<(l.length:Int)):=by omega
    have hkl2:k=l.length:=by omega
    have hD:dep (n+1) (h,l)=1+mxl ((l.map (dep n)).take k):=by
     simp only [dep]
     rw [List.take_of_length_le (by simp;omega)]
    have hsz:1+mxl ((l.map (dep n)).take k)≤200000:=by
     rw [←hD];exact Nat.le_trans (dep_le _ _) hs'.out
    obtain ⟨M,hM⟩:∃ M,mxl ((l.map (dep n)).take k)=M:=⟨_,rfl⟩
    rw [hM] at hsz hD ⊢
    have hD':=hide hD
    clear hD hM hkl2
    have hM2:(M:Int)<200000:=by omega
    clear hsz
    go_wp2_with fail
    go_ret
    exact ⟨by rw [hD'.out];exact ret_int (by omega),hb.out⟩
set_option maxRecDepth 100000 in
theorem rsize_any:∀ (n:Nat)(x:VT n)(ns ls:Value)(w:World),RD n w x ns ls→siz n x≤200000 →
  Calls Tryz.prog 80 #[.agg (vals (vhd n x) ns ls)] w fun e w'=>e=.returned (.int .i64 (siz n x))∧Below w.heap.size w w':=by
 intro n
 induction n with
 | zero=>intro x;exact Empty.elim x
 | succ n ih =>
  intro x ns ls w hr hs
  obtain ⟨h,l⟩:=x
  obtain ⟨al,cl,rfl,hc1,hc2⟩:=hr.len
  have hB0:=hide (bx_new w h ns (.slice al l.length cl))
  have hr:=hide hr
  have ih':=hide ih
  have hs':=hide hs
  clear ih hs
  show Calls _ _ #[.agg #[.int .i64 h.kind,.bool h.flag,.bool h.neg,.string h.dig,.int .i64 h.exp,.int .u64 h.bits,.string h.text,ns,.slice al l.length cl]] _ _
  go_enter Tryz.func80, Tryz.ntmps80
  go_wp2_with fail
  go_loopw [3,4] (fun m i w'=>∃ k:Nat,m=.int .i64 (1+suml ((l.map (siz n)).take k):Nat)∧i=.int .i64 k∧k≤l.length∧Hid (Bx w' w.heap.size h ns (.slice al l.length cl))∧Hid (Below w.heap.size w w')) (fun _ i _=>l.length - (intOf i).toNat)
  case atStart=>exact ⟨0,rfl,rfl,Nat.zero_le _,hB0.out,below_al (Below.refl _ _)⟩
  case round =>
   obtain ⟨k,rfl,rfl,hk,hB,hb⟩:=hrel
   have ml:maxLen=9223372036854775807:=rfl
   have hk63:(k:Int)≤9223372036854775807:=by omega
   have hc8:=hB.out.cells.2.2.2.2.2.2.2.2
   obtain ⟨M,hM⟩:∃ M,1+suml ((l.map (siz n)).take k)=M:=⟨_,rfl⟩
   have hMle:M≤200000:=by
    have h1:=suml_take_le (l.map (siz n)) k
    have h2:=hs'.out
    simp only [siz] at h2
    omega
   by_cases hkl:k<l.length
   ·obtain ⟨b,o,c,he,hbl,hlc,hcm,ns',ls',hrg,hrd⟩:=hr.out.at k hkl
    have he':=Value.slice.inj he
    obtain ⟨rfl,_,rfl⟩:=he'
    clear he
    have hki:(k:Int)<(l.length:Int):=by omega
    have hk63:(k:Int)<9223372036854775807:=by omega
    obtain ⟨c0,c1,c2,c3,c4,c5,c6,c7,c8⟩:=range9 (rangeAt_below hrg hb.out hbl)
    have hrd':=hide (hrd.below hb.out)
    obtain ⟨a1,m1,d1,a2,m2,d2,rfl,rfl⟩:=hrd.shape
    clear hrg hrd
    have hsk:siz n l[k]≤200000:=by have h1:=siz_mem (x:=(h,l)) hkl;have h2:=hs'.out;simp only at h1;omega
    obtain ⟨D,hD⟩:∃ D,siz n l[k]=D:=⟨_,rfl⟩
    have hmx:=suml_take (l.map (siz n)) k (by simpa using hkl)
    rw [List.getElem_map,hD] at hmx
    have hcall:=hide (ih'.out l[k] (.slice a1 m1 d1) (.slice a2 m2 d2) wr hrd'.out hsk)
    rw [hD] at hcall hsk
    have hmx:1+suml ((l.map (siz n)).take (k+1))=M+D:=by omega
    rw [hM]
    have hmx':=hide hmx
    have hD1:(D:Int)≤200000:=by omega
    have hM1:(M:Int)≤200000:=by omega
    clear hD hM hsk hmx hMle
    go_wp2_with (go_at_call 80;refine hcall.out.mono ?_;rintro e w1 ⟨rfl,hb1⟩)
    exact ⟨⟨k+1,by rw [hmx'.out];first|rfl|(congr 1),by go_num,by omega,hB.out.below hb1,below_then hb.out hb1⟩,by simp [intOf];omega⟩
   ·have hki:¬ ((k:Int)<(l.length:Int)):=by omega
    have hD:siz (n+1) (h,l)=M:=by
     rw [←hM]
     simp only [siz]
     rw [List.take_of_length_le (by simp;omega)]
    rw [hM]
    have hD':=hide hD
    clear hD hM hMle
    go_wp2_with fail
    go_ret
    exact ⟨by rw [hD'.out];rfl,hb.out⟩
end Go.Proofs.YthodiandebahdaaGreatDoor
