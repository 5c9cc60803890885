/- Merged by program: UvBegins, UgDecodeV, UwDecode. -/
import Derived.Test.YthodiandebahdaaGreatDoorUZq14
import Derived.Lib.RuneCount
import Derived.Shelf.Unicode.DecodeAny
import Derived.BigQuiet
namespace Go.Proofs.YthodiandebahdaaGreatDoor.Ut
open Go.RowKit
set_option linter.unusedSimpArgs false
set_option linter.unusedVariables false
set_option maxHeartbeats 8000000
theorem append_mkB' (a b:List UInt8):mkB a++mkB b=mkB (a++b):=by
 apply ByteArray.ext
 simp [mkB,ByteArray.data_append]
theorem cat_run' (a b c:ByteArray)(w:World)(h:a++b=c)(hs:a.size+b.size≤1000000):(Op.stringOp .add a b).run Tryz.prog w=.ok (.string c) w:=by
 rw [←h];exact run_string_add_sum w a b (by omega)
theorem rep_snoc (l:List UInt8)(k:Nat)(x:UInt8):mkB (l++List.replicate k x)++mkB [x]=mkB (l++List.replicate (k+1) x):=by
 rw [append_mkB',List.append_assoc,List.replicate_succ']
def least (n:Nat):Nat:=if n=2 then 128 else if n=3 then 2048 else 65536
theorem least_valid (n:Nat):Utf8.valid (least n:Int)=true:=by
 unfold least
 split
 ·decide
 ·split <;> decide
theorem str_ne (a b:ByteArray)(h:a.size≠b.size):(a.toList==b.toList)=false:=by
 rw [beq_eq_false_iff_ne]
 intro e
 apply h
 rw [Lib.toList_data,Lib.toList_data] at e
 have:=congrArg List.length e
 simpa using this
theorem str_take (u s:ByteArray)(l:List UInt8)(hs:s=mkB l):((u.extract 0 l.length).toList==s.toList)=((bl u).take l.length==l):=by
 rw [Lib.toList_data,Lib.toList_data]
 have e1:(u.extract 0 l.length).data.toList=(bl u).take l.length:=by
  have:=Lib.extract_eq u 0 l.length
  rw [this]
  simp [bl]
 have e2:s.data.toList=l:=by rw [hs];simp [mkB]
 rw [e1,e2]
def szOf:Value→Nat | .string x=>x.size|_=>0
set_option maxRecDepth 100000 in
theorem begins_any (s:ByteArray)(n:Nat)(w:World)(hm:1≤s.size)(hn:lng s[0].toNat=n)(hmn:s.size<n)(h4:n≤4) :
  Calls Tryz.prog 171 #[.string s] w fun e w'=>e=.returned (.bool (run .i8 (bl s)).isSome)∧Below w.heap.size w w':=by
 obtain ⟨l,hl⟩:∃ l,bl s=l:=⟨_,rfl⟩
 have hsm:s=mkB l:=by rw [←hl,mkB_bl]
 have hll:l.length=s.size:=by rw [←hl,bl_length]
 obtain ⟨d,hd⟩:∃ d,n=s.size+d:=⟨n - s.size,by omega⟩
 obtain ⟨A,hA⟩:∃ A,numV (l++List.replicate d 128) n=A:=⟨_,rfl⟩
 obtain ⟨B,hB⟩:∃ B,numV (l++List.replicate d 191) n=B:=⟨_,rfl⟩
 have hA1:A≤200000000:=by rw [←hA];exact numV_le _ n (by omega) h4
 have hB1:B≤200000000:=by rw [←hB];exact numV_le _ n (by omega) h4
 have hlo:=hide (fun w=>rnumber_any (mkB (l++List.replicate d 128)) n w (by omega) h4 (by rw [mkB_size,List.length_append,List.length_replicate];omega) (by rw [mkB_size,List.length_append,List.length_replicate];omega))
 have hhi:=hide (fun w=>rnumber_any (mkB (l++List.replicate d 191)) n w (by omega) h4 (by rw [mkB_size,List.length_append,List.length_replicate];omega) (by rw [mkB_size,List.length_append,List.length_replicate];omega))
 rw [bl_mkB,hA] at hlo
 rw [bl_mkB,hB] at hhi
 have hlong:=hide (fun w=>rlong_any s[0].toNat w (by have:=s[0].toNat_lt;omega))
 rw [hn] at hlong
 have hz0:(0:Int)<(s.size:Int):=by omega
 have key:Hid ((run .i8 l).isSome=true→cnd l n A=true∨cnd l n B=true):=by
  show _→_
  intro h
  cases hlc:l with
  | nil=>rw [hlc] at hll;simp at hll;omega
  | cons a t =>
   have ha:a=s[0]:=by
    have:=bl_get s 0 (by omega)
    simp only [hl,hlc,List.getElem_cons_zero] at this
    exact this
   rw [hlc] at h hll
   have hla:lng a.toNat=n:=by rw [ha];exact hn
   have h5:=some_cnd (a:=a) (t:=t) h (by rw [hla];omega)
   rw [hla,show n - (a :: t).length=d by omega,←hlc,hA,hB] at h5
   rw [hlc] at h5
   exact h5
 clear hA hB
 rw [hl]
 have hd1:=hide hd
 have hll1:=hide hll
 have hsm1:=hide hsm
 have hmn1:(s.size:Int)<(n:Int):=by omega
 clear hd hll hsm hl hn
 go_enter Tryz.func171, Tryz.ntmps171
 go_wp2_with (go_at_call 167;refine (hlong.out _).mono ?_;rintro e w1 ⟨rfl,hw1⟩;have hw1s:=hw1.symm;clear hw1;subst hw1s)
 go_loopw [4,5] (fun lo hi w'=>∃ k:Nat,k≤d∧lo=.string (mkB (l++List.replicate k 128))∧hi=.string (mkB (l++List.replicate k 191))∧w'=w) (fun lo _ _=>10 - szOf lo)
 case atStart=>exact ⟨0,Nat.zero_le _,by rw [List.replicate_zero,List.append_nil,←hsm1.out],by rw [List.replicate_zero,List.append_nil,←hsm1.out],rfl⟩
 case round =>
  obtain ⟨k,hk,rfl,rfl,hwr⟩:=hrel
  have hwrs:=hwr.symm
  clear hwr
  subst hwrs
  have hd:=hd1.out
  have hll:=hll1.out
  have hsl:(mkB (l++List.replicate k 128)).size=s.size+k:=by rw [mkB_size,List.length_append,List.length_replicate,hll]
  have hsh:(mkB (l++List.replicate k 191)).size=s.size+k:=by rw [mkB_size,List.length_append,List.length_replicate,hll]
  by_cases hkd:k<d
  ·obtain ⟨X,hX⟩:∃ X,mkB (l++List.replicate k 128)=X:=⟨_,rfl⟩
   obtain ⟨Y,hY⟩:∃ Y,mkB (l++List.replicate k 191)=Y:=⟨_,rfl⟩
   obtain ⟨X',hX'⟩:∃ X',mkB (l++List.replicate (k+1) 128)=X':=⟨_,rfl⟩
   obtain ⟨Y',hY'⟩:∃ Y',mkB (l++List.replicate (k+1) 191)=Y':=⟨_,rfl⟩
   have r1:∀ w,(Op.stringOp .add X ⟨#[128]⟩).run Tryz.prog w=.ok (.string X') w:=fun w=>cat_run' _ _ _ w (by rw [←hX,←hX'];exact rep_snoc l k 128) (by rw [←hX,hsl];show _+1≤_;omega)
   have r2:∀ w,(Op.stringOp .add Y ⟨#[191]⟩).run Tryz.prog w=.ok (.string Y') w:=fun w=>cat_run' _ _ _ w (by rw [←hY,←hY'];exact rep_snoc l k 191) (by rw [←hY,hsh];show _+1≤_;omega)
   have hs':X'.size=s.size+k+1:=by rw [←hX',mkB_size,List.length_append,List.length_replicate,hll];omega
   rw [hX] at hsl ⊢
   rw [hY] at hsh ⊢
   have hXi:(X.size:Int)<(n:Int):=by omega
   have hX1:=hide hX'
   have hY1:=hide hY'
   have hs1:=hide hs'
   clear hX hY hX' hY' hs' hsh hd hll
   go_wp2
   refine ⟨⟨k+1,by omega,by rw [hX1.out],by rw [hY1.out],by first|rfl|trivial⟩,?_⟩
   have:=hs1.out
   simp [szOf]
   omega
  ·obtain rfl:k=d:=by omega
   have hXi:¬ (((mkB (l++List.replicate k 128)).size:Int)<(n:Int)):=by omega
   clear hd hll hsl hsh
   go_wp2_with (first|(go_at_call 168;first|(go_fit (hlo.out _);rintro e w2 ⟨rfl,hb2⟩;have hb2:=hide hb2)|(go_fit (hhi.out _);rintro e w3 ⟨rfl,hb3⟩;have hb3:=hide (below_then hb2.out hb3))))
   have T0:=hide hb3.out
   go_loopw [8] (fun i w'=>∃ k:Nat,k≤2∧i=.int .i64 k∧Hid (∀ j<k,cnd l n (if j=0 then A else B)=false)∧Hid (Below w.heap.size w w')) (fun i _=>2 - (intOf i).toNat)
   case atStart=>exact ⟨0,by omega,rfl,fun j hj=>by omega,T0.out⟩
   case round =>
    obtain ⟨k',hk',rfl,hno,T⟩:=hrel
    rcases (show k'=0∨k'=1∨k'=2 by omega) with rfl|rfl|rfl
    ·have hIs:=hide (fun w=>ris_any (A:Int) w (by omega) (by omega))
     cases hv:Utf8.valid (A:Int)
     ·rw [hv] at hIs
      have hno1:=hide (show ∀ j<1,cnd l n (if j=0 then A else B)=false from fun j hj=>by
       rcases Nat.lt_or_ge j 0 with q|q
       ·exact hno.out j q
       ·obtain rfl:j=0:=by omega
        show cnd l n A=false
        unfold cnd;rw [hv];rfl)
      clear hv
      go_wp2_with (first|(go_at_call 169;refine (hIs.out _).mono ?_;rintro e x1 ⟨rfl,hx1⟩;have hx1s:=hx1.symm;clear hx1;subst hx1s)|(go_at_call 170;first|(refine (hBy.out y2).mono ?_;rintro e y3 ⟨rfl,hy3⟩;have T3:=hide (below_then T2.out hy3);clear hy3)|(refine (hBy.out y1).mono ?_;rintro e y2 ⟨rfl,hy2⟩;have T2:=hide (below_then T1.out hy2);clear hy2)|(refine (hBy.out _).mono ?_;rintro e y1 ⟨rfl,hy1⟩;have T1:=hide (below_then (below_al T.out) hy1);clear hy1)))
      refine ⟨⟨1,by omega,by first|rfl|go_num,?_,below_al T.out⟩,by simp [intOf]⟩
      show ∀ j<1,_
      exact hno1.out
     ·rw [hv] at hIs
      have hBy:=hide (fun w=>rbytes_any A w hv)
      have h3:=chr_encode A hv []
      rw [List.append_nil] at h3
      have h4s:=(chr_some h3).2.1
      rw [bl_length] at h4s
      obtain ⟨u,hu⟩:∃ u,Utf8.encode (A:Int)=u:=⟨_,rfl⟩
      have hcd:cnd l n A=(((bl u).take l.length==l) && decide (u.size=n)):=by unfold cnd;rw [hv,hu];rfl
      rw [hu] at hBy h4s
      have hcd:=hide hcd
      clear h3 hu hv
      have hll:=hll1.out
      rcases Nat.lt_or_ge u.size s.size with hus|hus
      ·have hno1:=hide (show ∀ j<1,cnd l n (if j=0 then A else B)=false from fun j hj=>by
        rcases Nat.lt_or_ge j 0 with q|q
        ·exact hno.out j q
        ·obtain rfl:j=0:=by omega
         show cnd l n A=false
         rw [hcd.out,Bool.and_eq_false_iff]
         left
         rw [beq_eq_false_iff_ne]
         intro e
         have:=congrArg List.length e
         rw [List.length_take,bl_length] at this
         omega)
       have hlti:¬ ((s.size:Int)<(u.size:Int)):=by omega
       have hmin:min (s.size:Int) (u.size:Int)=u.size:=by omega
       have heq0:(u.toList==s.toList)=false:=str_ne _ _ (by omega)
       have hui:(u.size:Int)≤(u.size:Int):=by omega
       have heq:((u.extract 0 u.size).toList==s.toList)=false:=str_ne _ _ (by simp;omega)
       clear hll hus
       go_wp2_with (first|(go_at_call 169;refine (hIs.out _).mono ?_;rintro e x1 ⟨rfl,hx1⟩;have hx1s:=hx1.symm;clear hx1;subst hx1s)|(go_at_call 170;first|(refine (hBy.out y2).mono ?_;rintro e y3 ⟨rfl,hy3⟩;have T3:=hide (below_then T2.out hy3);clear hy3)|(refine (hBy.out y1).mono ?_;rintro e y2 ⟨rfl,hy2⟩;have T2:=hide (below_then T1.out hy2);clear hy2)|(refine (hBy.out _).mono ?_;rintro e y1 ⟨rfl,hy1⟩;have T1:=hide (below_then (below_al T.out) hy1);clear hy1)))
       refine ⟨⟨1,by omega,by first|rfl|go_num,?_,T2.out⟩,by simp [intOf]⟩
       show ∀ j<1,_
       exact hno1.out
      ·obtain ⟨bb,hbb⟩:∃ bb,((bl u).take l.length==l)=bb:=⟨_,rfl⟩
       have heq:((u.extract 0 s.size).toList==s.toList)=bb:=by rw [←hbb,←hll];exact str_take u s l hsm1.out
       have hmin:min (s.size:Int) (u.size:Int)=s.size:=by omega
       have hui:(s.size:Int)≤(u.size:Int):=by omega
       rw [hbb] at hcd
       clear hbb hll
       cases bb
       ·have hno1:=hide (show ∀ j<1,cnd l n (if j=0 then A else B)=false from fun j hj=>by
         rcases Nat.lt_or_ge j 0 with q|q
         ·exact hno.out j q
         ·obtain rfl:j=0:=by omega
          show cnd l n A=false
          rw [hcd.out];rfl)
        rcases Nat.lt_or_ge s.size u.size with hlt|hge
        ·have hlti:(s.size:Int)<(u.size:Int):=by omega
         go_wp2_with (first|(go_at_call 169;refine (hIs.out _).mono ?_;rintro e x1 ⟨rfl,hx1⟩;have hx1s:=hx1.symm;clear hx1;subst hx1s)|(go_at_call 170;first|(refine (hBy.out y2).mono ?_;rintro e y3 ⟨rfl,hy3⟩;have T3:=hide (below_then T2.out hy3);clear hy3)|(refine (hBy.out y1).mono ?_;rintro e y2 ⟨rfl,hy2⟩;have T2:=hide (below_then T1.out hy2);clear hy2)|(refine (hBy.out _).mono ?_;rintro e y1 ⟨rfl,hy1⟩;have T1:=hide (below_then (below_al T.out) hy1);clear hy1)))
         refine ⟨⟨1,by omega,by first|rfl|go_num,?_,T2.out⟩,by simp [intOf]⟩
         show ∀ j<1,_
         exact hno1.out
        ·have hue:u.size=s.size:=by omega
         have hlti:¬ ((s.size:Int)<(u.size:Int)):=by omega
         have hue1:=hide hue
         clear hue hge hus
         have heq2:((u.extract 0 u.size).toList==s.toList)=false:=by rw [hue1.out];exact heq
         go_wp2_with (first|(go_at_call 169;refine (hIs.out _).mono ?_;rintro e x1 ⟨rfl,hx1⟩;have hx1s:=hx1.symm;clear hx1;subst hx1s)|(go_at_call 170;first|(refine (hBy.out y2).mono ?_;rintro e y3 ⟨rfl,hy3⟩;have T3:=hide (below_then T2.out hy3);clear hy3)|(refine (hBy.out y1).mono ?_;rintro e y2 ⟨rfl,hy2⟩;have T2:=hide (below_then T1.out hy2);clear hy2)|(refine (hBy.out _).mono ?_;rintro e y1 ⟨rfl,hy1⟩;have T1:=hide (below_then (below_al T.out) hy1);clear hy1)))
         refine ⟨⟨1,by omega,by first|rfl|go_num,?_,T2.out⟩,by simp [intOf]⟩
         show ∀ j<1,_
         exact hno1.out
       ·by_cases hun:u.size=n
        ·have hfin:=hide (show (run .i8 l).isSome=true from by
          have hc1:cnd l n A=true:=by rw [hcd.out,decide_eq_true hun];rfl
          unfold cnd at hc1
          simp only [Bool.and_eq_true,beq_iff_eq] at hc1
          exact cnd_some (n:=n) hc1.1.1 hc1.1.2)
         have hlti:(s.size:Int)<(u.size:Int):=by omega
         subst hun
         clear hus
         go_wp2_with (first|(go_at_call 169;refine (hIs.out _).mono ?_;rintro e x1 ⟨rfl,hx1⟩;have hx1s:=hx1.symm;clear hx1;subst hx1s)|(go_at_call 170;first|(refine (hBy.out y2).mono ?_;rintro e y3 ⟨rfl,hy3⟩;have T3:=hide (below_then T2.out hy3);clear hy3)|(refine (hBy.out y1).mono ?_;rintro e y2 ⟨rfl,hy2⟩;have T2:=hide (below_then T1.out hy2);clear hy2)|(refine (hBy.out _).mono ?_;rintro e y1 ⟨rfl,hy1⟩;have T1:=hide (below_then (below_al T.out) hy1);clear hy1)))
         go_ret
         refine ⟨?_,T3.out⟩
         rw [hfin.out]
         first|rfl|simp
        ·have hno1:=hide (show ∀ j<1,cnd l n (if j=0 then A else B)=false from fun j hj=>by
          rcases Nat.lt_or_ge j 0 with q|q
          ·exact hno.out j q
          ·obtain rfl:j=0:=by omega
           show cnd l n A=false
           rw [hcd.out,decide_eq_false hun];rfl)
         have huni:¬ ((u.size:Int)=(n:Int)):=by omega
         have hune:((u.size:Int)==(n:Int))=false:=by rw [beq_eq_false_iff_ne];exact huni
         rcases Nat.lt_or_ge s.size u.size with hlt|hge
         ·have hlti:(s.size:Int)<(u.size:Int):=by omega
          go_wp2_with (first|(go_at_call 169;refine (hIs.out _).mono ?_;rintro e x1 ⟨rfl,hx1⟩;have hx1s:=hx1.symm;clear hx1;subst hx1s)|(go_at_call 170;first|(refine (hBy.out y2).mono ?_;rintro e y3 ⟨rfl,hy3⟩;have T3:=hide (below_then T2.out hy3);clear hy3)|(refine (hBy.out y1).mono ?_;rintro e y2 ⟨rfl,hy2⟩;have T2:=hide (below_then T1.out hy2);clear hy2)|(refine (hBy.out _).mono ?_;rintro e y1 ⟨rfl,hy1⟩;have T1:=hide (below_then (below_al T.out) hy1);clear hy1)))
          refine ⟨⟨1,by omega,by first|rfl|go_num,?_,T3.out⟩,by simp [intOf]⟩
          show ∀ j<1,_
          exact hno1.out
         ·have hue:u.size=s.size:=by omega
          have hlti:¬ ((s.size:Int)<(u.size:Int)):=by omega
          have hue1:=hide hue
          clear hue hge hus
          have heq2:((u.extract 0 u.size).toList==s.toList)=true:=by rw [hue1.out];exact heq
          go_wp2_with (first|(go_at_call 169;refine (hIs.out _).mono ?_;rintro e x1 ⟨rfl,hx1⟩;have hx1s:=hx1.symm;clear hx1;subst hx1s)|(go_at_call 170;first|(refine (hBy.out y2).mono ?_;rintro e y3 ⟨rfl,hy3⟩;have T3:=hide (below_then T2.out hy3);clear hy3)|(refine (hBy.out y1).mono ?_;rintro e y2 ⟨rfl,hy2⟩;have T2:=hide (below_then T1.out hy2);clear hy2)|(refine (hBy.out _).mono ?_;rintro e y1 ⟨rfl,hy1⟩;have T1:=hide (below_then (below_al T.out) hy1);clear hy1)))
          refine ⟨⟨1,by omega,by first|rfl|go_num,?_,T3.out⟩,by simp [intOf]⟩
          show ∀ j<1,_
          exact hno1.out
    ·have hIs:=hide (fun w=>ris_any (B:Int) w (by omega) (by omega))
     cases hv:Utf8.valid (B:Int)
     ·rw [hv] at hIs
      have hno1:=hide (show ∀ j<2,cnd l n (if j=0 then A else B)=false from fun j hj=>by
       rcases Nat.lt_or_ge j 1 with q|q
       ·exact hno.out j q
       ·obtain rfl:j=1:=by omega
        show cnd l n B=false
        unfold cnd;rw [hv];rfl)
      clear hv
      go_wp2_with (first|(go_at_call 169;refine (hIs.out _).mono ?_;rintro e x1 ⟨rfl,hx1⟩;have hx1s:=hx1.symm;clear hx1;subst hx1s)|(go_at_call 170;first|(refine (hBy.out y2).mono ?_;rintro e y3 ⟨rfl,hy3⟩;have T3:=hide (below_then T2.out hy3);clear hy3)|(refine (hBy.out y1).mono ?_;rintro e y2 ⟨rfl,hy2⟩;have T2:=hide (below_then T1.out hy2);clear hy2)|(refine (hBy.out _).mono ?_;rintro e y1 ⟨rfl,hy1⟩;have T1:=hide (below_then (below_al T.out) hy1);clear hy1)))
      refine ⟨⟨2,by omega,by first|rfl|go_num,?_,below_al T.out⟩,by simp [intOf]⟩
      show ∀ j<2,_
      exact hno1.out
     ·rw [hv] at hIs
      have hBy:=hide (fun w=>rbytes_any B w hv)
      have h3:=chr_encode B hv []
      rw [List.append_nil] at h3
      have h4s:=(chr_some h3).2.1
      rw [bl_length] at h4s
      obtain ⟨u,hu⟩:∃ u,Utf8.encode (B:Int)=u:=⟨_,rfl⟩
      have hcd:cnd l n B=(((bl u).take l.length==l) && decide (u.size=n)):=by unfold cnd;rw [hv,hu];rfl
      rw [hu] at hBy h4s
      have hcd:=hide hcd
      clear h3 hu hv
      have hll:=hll1.out
      rcases Nat.lt_or_ge u.size s.size with hus|hus
      ·have hno1:=hide (show ∀ j<2,cnd l n (if j=0 then A else B)=false from fun j hj=>by
        rcases Nat.lt_or_ge j 1 with q|q
        ·exact hno.out j q
        ·obtain rfl:j=1:=by omega
         show cnd l n B=false
         rw [hcd.out,Bool.and_eq_false_iff]
         left
         rw [beq_eq_false_iff_ne]
         intro e
         have:=congrArg List.length e
         rw [List.length_take,bl_length] at this
         omega)
       have hlti:¬ ((s.size:Int)<(u.size:Int)):=by omega
       have hmin:min (s.size:Int) (u.size:Int)=u.size:=by omega
       have heq0:(u.toList==s.toList)=false:=str_ne _ _ (by omega)
       have hui:(u.size:Int)≤(u.size:Int):=by omega
       have heq:((u.extract 0 u.size).toList==s.toList)=false:=str_ne _ _ (by simp;omega)
       clear hll hus
       go_wp2_with (first|(go_at_call 169;refine (hIs.out _).mono ?_;rintro e x1 ⟨rfl,hx1⟩;have hx1s:=hx1.symm;clear hx1;subst hx1s)|(go_at_call 170;first|(refine (hBy.out y2).mono ?_;rintro e y3 ⟨rfl,hy3⟩;have T3:=hide (below_then T2.out hy3);clear hy3)|(refine (hBy.out y1).mono ?_;rintro e y2 ⟨rfl,hy2⟩;have T2:=hide (below_then T1.out hy2);clear hy2)|(refine (hBy.out _).mono ?_;rintro e y1 ⟨rfl,hy1⟩;have T1:=hide (below_then (below_al T.out) hy1);clear hy1)))
       refine ⟨⟨2,by omega,by first|rfl|go_num,?_,T2.out⟩,by simp [intOf]⟩
       show ∀ j<2,_
       exact hno1.out
      ·obtain ⟨bb,hbb⟩:∃ bb,((bl u).take l.length==l)=bb:=⟨_,rfl⟩
       have heq:((u.extract 0 s.size).toList==s.toList)=bb:=by rw [←hbb,←hll];exact str_take u s l hsm1.out
       have hmin:min (s.size:Int) (u.size:Int)=s.size:=by omega
       have hui:(s.size:Int)≤(u.size:Int):=by omega
       rw [hbb] at hcd
       clear hbb hll
       cases bb
       ·have hno1:=hide (show ∀ j<2,cnd l n (if j=0 then A else B)=false from fun j hj=>by
         rcases Nat.lt_or_ge j 1 with q|q
         ·exact hno.out j q
         ·obtain rfl:j=1:=by omega
          show cnd l n B=false
          rw [hcd.out];rfl)
        rcases Nat.lt_or_ge s.size u.size with hlt|hge
        ·have hlti:(s.size:Int)<(u.size:Int):=by omega
         go_wp2_with (first|(go_at_call 169;refine (hIs.out _).mono ?_;rintro e x1 ⟨rfl,hx1⟩;have hx1s:=hx1.symm;clear hx1;subst hx1s)|(go_at_call 170;first|(refine (hBy.out y2).mono ?_;rintro e y3 ⟨rfl,hy3⟩;have T3:=hide (below_then T2.out hy3);clear hy3)|(refine (hBy.out y1).mono ?_;rintro e y2 ⟨rfl,hy2⟩;have T2:=hide (below_then T1.out hy2);clear hy2)|(refine (hBy.out _).mono ?_;rintro e y1 ⟨rfl,hy1⟩;have T1:=hide (below_then (below_al T.out) hy1);clear hy1)))
         refine ⟨⟨2,by omega,by first|rfl|go_num,?_,T2.out⟩,by simp [intOf]⟩
         show ∀ j<2,_
         exact hno1.out
        ·have hue:u.size=s.size:=by omega
         have hlti:¬ ((s.size:Int)<(u.size:Int)):=by omega
         have hue1:=hide hue
         clear hue hge hus
         have heq2:((u.extract 0 u.size).toList==s.toList)=false:=by rw [hue1.out];exact heq
         go_wp2_with (first|(go_at_call 169;refine (hIs.out _).mono ?_;rintro e x1 ⟨rfl,hx1⟩;have hx1s:=hx1.symm;clear hx1;subst hx1s)|(go_at_call 170;first|(refine (hBy.out y2).mono ?_;rintro e y3 ⟨rfl,hy3⟩;have T3:=hide (below_then T2.out hy3);clear hy3)|(refine (hBy.out y1).mono ?_;rintro e y2 ⟨rfl,hy2⟩;have T2:=hide (below_then T1.out hy2);clear hy2)|(refine (hBy.out _).mono ?_;rintro e y1 ⟨rfl,hy1⟩;have T1:=hide (below_then (below_al T.out) hy1);clear hy1)))
         refine ⟨⟨2,by omega,by first|rfl|go_num,?_,T2.out⟩,by simp [intOf]⟩
         show ∀ j<2,_
         exact hno1.out
       ·by_cases hun:u.size=n
        ·have hfin:=hide (show (run .i8 l).isSome=true from by
          have hc1:cnd l n B=true:=by rw [hcd.out,decide_eq_true hun];rfl
          unfold cnd at hc1
          simp only [Bool.and_eq_true,beq_iff_eq] at hc1
          exact cnd_some (n:=n) hc1.1.1 hc1.1.2)
         have hlti:(s.size:Int)<(u.size:Int):=by omega
         subst hun
         clear hus
         go_wp2_with (first|(go_at_call 169;refine (hIs.out _).mono ?_;rintro e x1 ⟨rfl,hx1⟩;have hx1s:=hx1.symm;clear hx1;subst hx1s)|(go_at_call 170;first|(refine (hBy.out y2).mono ?_;rintro e y3 ⟨rfl,hy3⟩;have T3:=hide (below_then T2.out hy3);clear hy3)|(refine (hBy.out y1).mono ?_;rintro e y2 ⟨rfl,hy2⟩;have T2:=hide (below_then T1.out hy2);clear hy2)|(refine (hBy.out _).mono ?_;rintro e y1 ⟨rfl,hy1⟩;have T1:=hide (below_then (below_al T.out) hy1);clear hy1)))
         go_ret
         refine ⟨?_,T3.out⟩
         rw [hfin.out]
         first|rfl|simp
        ·have hno1:=hide (show ∀ j<2,cnd l n (if j=0 then A else B)=false from fun j hj=>by
          rcases Nat.lt_or_ge j 1 with q|q
          ·exact hno.out j q
          ·obtain rfl:j=1:=by omega
           show cnd l n B=false
           rw [hcd.out,decide_eq_false hun];rfl)
         have huni:¬ ((u.size:Int)=(n:Int)):=by omega
         have hune:((u.size:Int)==(n:Int))=false:=by rw [beq_eq_false_iff_ne];exact huni
         rcases Nat.lt_or_ge s.size u.size with hlt|hge
         ·have hlti:(s.size:Int)<(u.size:Int):=by omega
          go_wp2_with (first|(go_at_call 169;refine (hIs.out _).mono ?_;rintro e x1 ⟨rfl,hx1⟩;have hx1s:=hx1.symm;clear hx1;subst hx1s)|(go_at_call 170;first|(refine (hBy.out y2).mono ?_;rintro e y3 ⟨rfl,hy3⟩;have T3:=hide (below_then T2.out hy3);clear hy3)|(refine (hBy.out y1).mono ?_;rintro e y2 ⟨rfl,hy2⟩;have T2:=hide (below_then T1.out hy2);clear hy2)|(refine (hBy.out _).mono ?_;rintro e y1 ⟨rfl,hy1⟩;have T1:=hide (below_then (below_al T.out) hy1);clear hy1)))
          refine ⟨⟨2,by omega,by first|rfl|go_num,?_,T3.out⟩,by simp [intOf]⟩
          show ∀ j<2,_
          exact hno1.out
         ·have hue:u.size=s.size:=by omega
          have hlti:¬ ((s.size:Int)<(u.size:Int)):=by omega
          have hue1:=hide hue
          clear hue hge hus
          have heq2:((u.extract 0 u.size).toList==s.toList)=true:=by rw [hue1.out];exact heq
          go_wp2_with (first|(go_at_call 169;refine (hIs.out _).mono ?_;rintro e x1 ⟨rfl,hx1⟩;have hx1s:=hx1.symm;clear hx1;subst hx1s)|(go_at_call 170;first|(refine (hBy.out y2).mono ?_;rintro e y3 ⟨rfl,hy3⟩;have T3:=hide (below_then T2.out hy3);clear hy3)|(refine (hBy.out y1).mono ?_;rintro e y2 ⟨rfl,hy2⟩;have T2:=hide (below_then T1.out hy2);clear hy2)|(refine (hBy.out _).mono ?_;rintro e y1 ⟨rfl,hy1⟩;have T1:=hide (below_then (below_al T.out) hy1);clear hy1)))
          refine ⟨⟨2,by omega,by first|rfl|go_num,?_,T3.out⟩,by simp [intOf]⟩
          show ∀ j<2,_
          exact hno1.out
    ·have hsome:=hide (show (run .i8 l).isSome=false from by
      cases hq:(run .i8 l).isSome
      ·rfl
      ·rcases key.out hq with h|h
       ·have:=hno.out 0 (by omega)
        simp only [if_true] at this
        rw [h] at this;exact this
       ·have:=hno.out 1 (by omega)
        simp only [if_neg (show ¬ (1=0) by omega)] at this
        rw [h] at this;exact this)
     have hBy:=hide (fun w=>rbytes_any (least n) w (least_valid n))
     have h3:=chr_encode (least n) (least_valid n) []
     rw [List.append_nil] at h3
     obtain ⟨u,hu⟩:∃ u,Utf8.encode (least n:Int)=u:=⟨_,rfl⟩
     have hus:u.size=n:=by
      rw [←hu]
      rcases (show n=2∨n=3∨n=4 by omega) with rfl|rfl|rfl <;> decide
     rw [hu] at hBy h3
     have heq:((u.extract 0 s.size).toList==s.toList)=false:=by
      rw [←hll1.out,str_take u s l hsm1.out,beq_eq_false_iff_ne]
      intro e
      have h7:=cnd_some (n:=n) (least_valid n) (by rw [hu];exact e)
      rw [hsome.out] at h7
      exact absurd h7 (by decide)
     have hui:(s.size:Int)≤(u.size:Int):=by omega
     have hA2:=hide hA1
     have hB2:=hide hB1
     rcases (show n=2∨n=3∨n=4 by omega) with hn2|hn2|hn2
     ·have hln:least n=128:=by rw [hn2];rfl
      rw [hln] at hBy
      clear hu h3 hus hA1 hB1 hln key hlo hhi hno
      subst hn2
      rw [show ((128:Nat):Int)=128 from rfl] at hBy
      have c1:(decide ((A:Int)≤128)=true∧((A:Int)≤128)=True)∨(decide ((A:Int)≤128)=false∧((A:Int)≤128)=False):=by
       by_cases h:(A:Int)≤128
       ·exact .inl ⟨decide_eq_true h,eq_true h⟩
       ·exact .inr ⟨decide_eq_false h,eq_false h⟩
      have c2:(decide (128≤(B:Int))=true∧(128≤(B:Int))=True)∨(decide (128≤(B:Int))=false∧(128≤(B:Int))=False):=by
       by_cases h:128≤(B:Int)
       ·exact .inl ⟨decide_eq_true h,eq_true h⟩
       ·exact .inr ⟨decide_eq_false h,eq_false h⟩
      rcases c1 with ⟨d1,e1⟩|⟨d1,e1⟩ <;> rcases c2 with ⟨d2,e2⟩|⟨d2,e2⟩
      ·go_wp2_with (go_at_call 170;refine (hBy.out _).mono ?_;rintro e y1 ⟨rfl,hy1⟩;have T1:=hide (below_then (below_al T.out) hy1);clear hy1)
       go_ret
       refine ⟨?_,T1.out⟩
       rw [hsome.out]
       first|rfl|simp
      all_goals
       go_wp2
       go_ret
       refine ⟨?_,below_al T.out⟩
       rw [hsome.out]
       first|rfl|simp
     ·have hln:least n=2048:=by rw [hn2];rfl
      rw [hln] at hBy
      clear hu h3 hus hA1 hB1 hln key hlo hhi hno
      subst hn2
      rw [show ((2048:Nat):Int)=2048 from rfl] at hBy
      have c1:(decide ((A:Int)≤2048)=true∧((A:Int)≤2048)=True)∨(decide ((A:Int)≤2048)=false∧((A:Int)≤2048)=False):=by
       by_cases h:(A:Int)≤2048
       ·exact .inl ⟨decide_eq_true h,eq_true h⟩
       ·exact .inr ⟨decide_eq_false h,eq_false h⟩
      have c2:(decide (2048≤(B:Int))=true∧(2048≤(B:Int))=True)∨(decide (2048≤(B:Int))=false∧(2048≤(B:Int))=False):=by
       by_cases h:2048≤(B:Int)
       ·exact .inl ⟨decide_eq_true h,eq_true h⟩
       ·exact .inr ⟨decide_eq_false h,eq_false h⟩
      rcases c1 with ⟨d1,e1⟩|⟨d1,e1⟩ <;> rcases c2 with ⟨d2,e2⟩|⟨d2,e2⟩
      ·go_wp2_with (go_at_call 170;refine (hBy.out _).mono ?_;rintro e y1 ⟨rfl,hy1⟩;have T1:=hide (below_then (below_al T.out) hy1);clear hy1)
       go_ret
       refine ⟨?_,T1.out⟩
       rw [hsome.out]
       first|rfl|simp
      all_goals
       go_wp2
       go_ret
       refine ⟨?_,below_al T.out⟩
       rw [hsome.out]
       first|rfl|simp
     ·have hln:least n=65536:=by rw [hn2];rfl
      rw [hln] at hBy
      clear hu h3 hus hA1 hB1 hln key hlo hhi hno
      subst hn2
      rw [show ((65536:Nat):Int)=65536 from rfl] at hBy
      have c1:(decide ((A:Int)≤65536)=true∧((A:Int)≤65536)=True)∨(decide ((A:Int)≤65536)=false∧((A:Int)≤65536)=False):=by
       by_cases h:(A:Int)≤65536
       ·exact .inl ⟨decide_eq_true h,eq_true h⟩
       ·exact .inr ⟨decide_eq_false h,eq_false h⟩
      have c2:(decide (65536≤(B:Int))=true∧(65536≤(B:Int))=True)∨(decide (65536≤(B:Int))=false∧(65536≤(B:Int))=False):=by
       by_cases h:65536≤(B:Int)
       ·exact .inl ⟨decide_eq_true h,eq_true h⟩
       ·exact .inr ⟨decide_eq_false h,eq_false h⟩
      rcases c1 with ⟨d1,e1⟩|⟨d1,e1⟩ <;> rcases c2 with ⟨d2,e2⟩|⟨d2,e2⟩
      ·go_wp2_with (go_at_call 170;refine (hBy.out _).mono ?_;rintro e y1 ⟨rfl,hy1⟩;have T1:=hide (below_then (below_al T.out) hy1);clear hy1)
       go_ret
       refine ⟨?_,T1.out⟩
       rw [hsome.out]
       first|rfl|simp
      all_goals
       go_wp2
       go_ret
       refine ⟨?_,below_al T.out⟩
       rw [hsome.out]
       first|rfl|simp
def wid (l:List UInt8):Nat:=((chr l).getD (65533,1)).2
def cnt:Nat→List UInt8→Nat
 | 0,_=>0
 | _+1,[]=>0
 | f+1,a :: l=>1+cnt f ((a :: l).drop (wid (a :: l)))
theorem wid_pos (l:List UInt8):1≤wid l:=by
 unfold wid
 cases h:chr l with
 | none=>simp
 | some rn=>obtain ⟨r,n⟩:=rn;exact (chr_some h).1
theorem wid_le {l:List UInt8} (h:l≠[]):wid l≤l.length:=by
 unfold wid
 cases hc:chr l with
 | none=>cases l with
  | nil=>exact absurd rfl h
  | cons a l=>simp
 | some rn=>obtain ⟨r,n⟩:=rn;exact (chr_some hc).2.2.1
theorem cnt_more:∀ (f:Nat)(l:List UInt8),l.length≤f→cnt f l=cnt l.length l
 | 0,l,h=>by have:l=[]:=List.length_eq_zero_iff.1 (by omega);subst this;rfl
 | f+1,[],h=>rfl
 | f+1,a :: l,h=>by
  have hw:=wid_pos (a :: l)
  have hd:((a :: l).drop (wid (a :: l))).length≤l.length:=by rw [List.length_drop,List.length_cons];omega
  simp only [List.length_cons] at h
  simp only [cnt,List.length_cons]
  rw [cnt_more f _ (by omega),cnt_more l.length _ hd]
def chars (l:List UInt8):Nat:=cnt l.length l
theorem chars_nil:chars []=0:=rfl
theorem chars_step {l:List UInt8} (h:l≠[]):chars l=1+chars (l.drop (wid l)):=by
 cases l with
 | nil=>exact absurd rfl h
 | cons a l =>
  unfold chars
  have hw:=wid_pos (a :: l)
  have hd:((a :: l).drop (wid (a :: l))).length≤l.length:=by rw [List.length_drop,List.length_cons];omega
  simp only [List.length_cons,cnt]
  rw [cnt_more l.length _ hd]
theorem decode_wid (s:ByteArray)(i:Nat)(h:i<s.size):(Utf8.decode s i).2=wid ((bl s).drop i):=by rw [decode_chr s i h];rfl
def decF (l:List UInt8):Nat×Nat×Nat:=match chr l with
 | some (r,n)=>(r,n,0)
 | none=>if (run .i8 l).isSome then (0,0,31) else (0,0,30)
def decA (l:List UInt8)(at':Int):Nat×Nat×Nat:=if 0≤at'∧at'<l.length then decF (l.drop at'.toNat) else (0,0,1)
theorem extract_bl (s:ByteArray)(pos:Nat):bl (s.extract pos s.size)=(bl s).drop pos:=by
 have:=Lib.extract_eq s pos s.size
 rw [this]
 show (((bl s).drop pos).take (s.size - pos))=_
 exact List.take_of_length_le (by rw [List.length_drop,bl_length];omega)
theorem below_dn {B:Nat} {w W:World} (h:Below B w W)(n:Nat):Below B w (W.drewN n):=⟨h.os,h.tape,h.output,h.size,h.block⟩
theorem lng_le (x:Nat):lng x≤4:=by
 unfold lng
 repeat' split
 all_goals omega
theorem str_head (u t:ByteArray)(n:Nat):(u.toList==(t.extract 0 n).toList)=(bl u==(bl t).take n):=by
 rw [Lib.toList_data,Lib.toList_data]
 have e1:(t.extract 0 n).data.toList=(bl t).take n:=by
  have:=Lib.extract_eq t 0 n
  rw [this]
  simp [bl]
 rw [e1]
 rfl
theorem bl_cons (t:ByteArray)(h:0<t.size):∃ q,bl t=t[0] :: q:=by
 have:=drop_cons t 0 h
 rw [List.drop_zero] at this
 exact ⟨_,this⟩
set_option maxRecDepth 100000 in
theorem rdecode_any (s:ByteArray)(at':Int)(w:World)(hs:s.size≤281474976710656) :
  Calls Tryz.prog 147 #[.string s,.int .i64 at'] w fun r w'=>r=.returned (.tuple #[.int .i64 (decA (bl s) at').1,.int .i64 (decA (bl s) at').2.1,.int .i64 (decA (bl s) at').2.2])∧Below w.heap.size w w':=by
 unfold decA
 rw [bl_length]
 by_cases hr:0≤at'∧at'<(s.size:Int)
 ·rw [if_pos hr]
  obtain ⟨pos,rfl⟩:=Int.eq_ofNat_of_zero_le hr.1
  rw [Int.toNat_natCast]
  have hp:pos<s.size:=by omega
  obtain ⟨t,ht⟩:∃ t,s.extract pos s.size=t:=⟨_,rfl⟩
  have htb:bl t=(bl s).drop pos:=by rw [←ht];exact extract_bl s pos
  have hts:t.size=s.size - pos:=by rw [←bl_length,htb,List.length_drop,bl_length]
  rw [←htb]
  have hh:(0:Int)≤(pos:Int)∧¬ ((pos:Int)<0)∧¬ ((s.size:Int)≤(pos:Int)):=by omega
  obtain ⟨g1,g2,g3⟩:=hh
  have ht0:0<t.size:=by omega
  have htm:t.size≤281474976710656:=by omega
  obtain ⟨q,hq⟩:=bl_cons t ht0
  obtain ⟨n,hn⟩:∃ n,lng t[0].toNat=n:=⟨_,rfl⟩
  have h4:n≤4:=by rw [←hn];exact lng_le _
  have hlong:=hide (fun w=>rlong_any t[0].toNat w (by have:=t[0].toNat_lt;omega))
  rw [hn] at hlong
  have hz0:(0:Int)<(t.size:Int):=by omega
  have hnone:t.size<n∨n=0→chr (bl t)=none:=by
   intro h
   cases hc:chr (bl t) with
   | none=>rfl
   | some rn =>
    obtain ⟨r,k⟩:=rn
    obtain ⟨n1,n4',nl,_⟩:=chr_some hc
    rw [hq] at hc
    have:=(chr_num hc).1
    rw [bl_length] at nl
    omega
  have hfull:chr (bl t)=none→n≤t.size→run .i8 (bl t)=none:=by
   intro h1 h2
   have:=bl_length t
   rw [hq] at h1 this ⊢
   exact full_none h1 (by omega)
  clear htb hr
  rcases Nat.eq_zero_or_pos n with hn0|hn1
  ·have hd:decF (bl t)=(0,0,30):=by
    unfold decF
    rw [hnone (.inr hn0),hfull (hnone (.inr hn0)) (by omega)]
    rfl
   rw [hd]
   clear hd hnone hfull hq hn hts
   subst hn0
   go_enter Tryz.func147, Tryz.ntmps147
   go_wp2_with (go_at_call 167;refine (hlong.out _).mono ?_;rintro e w1 ⟨rfl,hw1⟩;have hw1s:=hw1.symm;clear hw1;subst hw1s)
   go_ret3
   exact ⟨rfl,Below.refl _ _⟩
  ·rcases Nat.lt_or_ge t.size n with hlt|hge
   ·have hcn:=hnone (.inl hlt)
    have hbg:=hide (fun w=>begins_any t n w ht0 hn hlt h4)
    obtain ⟨o,ho⟩:∃ o,(run .i8 (bl t)).isSome=o:=⟨_,rfl⟩
    have hd:decF (bl t)=if o then (0,0,31) else (0,0,30):=by
     unfold decF
     rw [hcn,←ho]
    rw [hd]
    rw [ho] at hbg
    have i1:(0:Int)<(n:Int):=by omega
    have i2:¬ ((n:Int)≤(t.size:Int)):=by omega
    have i3:(t.size:Int)<(n:Int):=by omega
    clear hd hnone hfull hq hn hts hcn ho hlt hn1
    cases o
    ·go_enter Tryz.func147, Tryz.ntmps147
     go_wp2_with (first|(go_at_call 167;refine (hlong.out _).mono ?_;rintro e w1 ⟨rfl,hw1⟩;have hw1s:=hw1.symm;clear hw1;subst hw1s)|(go_at_call 171;refine (hbg.out _).mono ?_;rintro e w2 ⟨rfl,hb2⟩))
     go_ret3
     exact ⟨rfl,hb2⟩
    ·go_enter Tryz.func147, Tryz.ntmps147
     go_wp2_with (first|(go_at_call 167;refine (hlong.out _).mono ?_;rintro e w1 ⟨rfl,hw1⟩;have hw1s:=hw1.symm;clear hw1;subst hw1s)|(go_at_call 171;refine (hbg.out _).mono ?_;rintro e w2 ⟨rfl,hb2⟩))
     go_ret3
     exact ⟨rfl,hb2⟩
   ·have hnum:=hide (fun w=>rnumber_any t n w hn1 h4 hge (by omega))
    have hR1:numV (bl t) n≤200000000:=numV_le _ n hn1 h4
    have hcs:∀ r k,chr (bl t)=some (r,k)→k=n∧r=numV (bl t) n:=by
     intro r k h
     have h':=h
     rw [hq] at h'
     obtain ⟨e1,e2⟩:=chr_num h'
     rw [hn] at e1
     subst e1
     rw [←hq] at e2
     exact ⟨rfl,e2⟩
    obtain ⟨R,hR⟩:∃ R,numV (bl t) n=R:=⟨_,rfl⟩
    rw [hR] at hnum hR1 hcs
    have hIs:=hide (fun w=>ris_any (R:Int) w (by omega) (by omega))
    have i1:(0:Int)<(n:Int):=by omega
    have i2:(n:Int)≤(t.size:Int):=by omega
    have i3:¬ ((t.size:Int)<(n:Int)):=by omega
    cases hv:Utf8.valid (R:Int)
    ·have hcn:chr (bl t)=none:=by
      cases hc:chr (bl t) with
      | none=>rfl
      | some rk =>
       obtain ⟨r,k⟩:=rk
       have e:=(hcs r k hc).2
       have:=(chr_some hc).2.2.2.2.1
       rw [e,hv] at this
       cases this
     have hd:decF (bl t)=(0,0,30):=by
      unfold decF
      rw [hcn,hfull hcn hge]
      rfl
     rw [hd]
     rw [hv] at hIs
     clear hd hnone hfull hq hn hts hcn hcs hR hv hge hn1
     go_enter Tryz.func147, Tryz.ntmps147
     go_wp2_with (first|(go_at_call 167;refine (hlong.out _).mono ?_;rintro e w1 ⟨rfl,hw1⟩;have hw1s:=hw1.symm;clear hw1;subst hw1s)|(go_at_call 168;refine (hnum.out _).mono ?_;rintro e w2 ⟨rfl,hb2⟩;have hb2:=hide hb2))
     go_quiet (first|(go_at_call 169;exact Calls.quiet_of_same (hIs.out _)))
     go_wp2
     go_ret3
     exact ⟨rfl,below_dn hb2.out _⟩
    ·have hBy:=hide (fun w=>rbytes_any R w hv)
     rw [hv] at hIs
     cases hc:chr (bl t) with
     | none =>
      have hd:decF (bl t)=(0,0,30):=by
       unfold decF
       rw [hc,hfull hc hge]
       rfl
      rw [hd]
      obtain ⟨u,hu⟩:∃ u,Utf8.encode (R:Int)=u:=⟨_,rfl⟩
      have heq:(u.toList==(t.extract 0 n).toList)=false:=by
       rw [str_head,beq_eq_false_iff_ne]
       intro e
       have:=chr_of_bytes (l:=bl t) (n:=n) hv (by rw [hu];exact e) (by rw [bl_length];exact hge)
       rw [hc] at this
       cases this
      rw [hu] at hBy
      clear hd hnone hfull hq hn hts hc hcs hR hv hge hn1 hu
      go_enter Tryz.func147, Tryz.ntmps147
      go_wp2_with (first|(go_at_call 167;refine (hlong.out _).mono ?_;rintro e w1 ⟨rfl,hw1⟩;have hw1s:=hw1.symm;clear hw1;subst hw1s)|(go_at_call 168;refine (hnum.out _).mono ?_;rintro e w2 ⟨rfl,hb2⟩;have hb2:=hide hb2))
      go_region_held3 (fun _=>True) (first|trivial|go_keep) (first|(go_at_call 169;refine (hIs.out _).mono ?_;rintro e w3 ⟨rfl,hw3⟩;have hw3s:=hw3.symm;clear hw3;subst hw3s)|(go_at_call 170;refine (hBy.out _).mono ?_;rintro e w4 ⟨rfl,hb4⟩;have hb4:=hide hb4))
      go_wp2
      go_ret3
      exact ⟨rfl,below_then hb2.out.drew hb4.out⟩
     | some rk =>
      obtain ⟨r,k⟩:=rk
      obtain ⟨e1,e2⟩:=hcs r k hc
      have hb:=(chr_some hc).2.2.2.2.2
      subst e1 e2
      have hd:decF (bl t)=(r,k,0):=by
       unfold decF
       rw [hc]
      rw [hd]
      obtain ⟨u,hu⟩:∃ u,Utf8.encode (r:Int)=u:=⟨_,rfl⟩
      rw [hu] at hBy hb
      have heq:(u.toList==(t.extract 0 k).toList)=true:=by
       rw [str_head,hb]
       exact beq_self_eq_true _
      clear hd hnone hfull hq hn hts hc hcs hR hv hge hn1 hu hb
      go_enter Tryz.func147, Tryz.ntmps147
      go_wp2_with (first|(go_at_call 167;refine (hlong.out _).mono ?_;rintro e w1 ⟨rfl,hw1⟩;have hw1s:=hw1.symm;clear hw1;subst hw1s)|(go_at_call 168;refine (hnum.out _).mono ?_;rintro e w2 ⟨rfl,hb2⟩;have hb2:=hide hb2))
      go_region_held3 (fun _=>True) (first|trivial|go_keep) (first|(go_at_call 169;refine (hIs.out _).mono ?_;rintro e w3 ⟨rfl,hw3⟩;have hw3s:=hw3.symm;clear hw3;subst hw3s)|(go_at_call 170;refine (hBy.out _).mono ?_;rintro e w4 ⟨rfl,hb4⟩;have hb4:=hide hb4))
      go_wp2
      go_ret3
      exact ⟨rfl,below_then hb2.out.drew hb4.out⟩
 ·rw [if_neg hr]
  by_cases h1:at'<0
  ·go_enter Tryz.func147, Tryz.ntmps147
   go_wp2
   go_ret3
   exact ⟨rfl,Below.refl _ _⟩
  ·have h2:(s.size:Int)≤at':=by omega
   have h3:(0:Int)≤at':=by omega
   clear hr
   go_enter Tryz.func147, Tryz.ntmps147
   go_wp2
   go_ret3
   exact ⟨rfl,Below.refl _ _⟩
end Go.Proofs.YthodiandebahdaaGreatDoor.Ut
