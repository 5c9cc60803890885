/- Merged by program: TmTok, TnBetw, ToMap, TpNamed, TqPipe. -/
import Derived.Test.YtgicnopppgnjjaaGreatDoorZd30
import Derived.Test.YtgicnopppgnjjaaGreatDoorZd26
import Derived.Test.YtgicnopppgnjjaaGreatDoorZd23
import Derived.Laws.OwnMore
import Derived.Test.YtgicnopppgnjjaaGreatDoorZd28
import Derived.Test.YtgicnopppgnjjaaGreatDoorZd27
set_option linter.unusedSimpArgs false
set_option linter.unusedVariables false
namespace Go.Proofs.YtgicnopppgnjjaaGreatDoor
namespace Lx
open Go.RowKit
set_option maxHeartbeats 4000000 in
set_option maxRecDepth 100000 in
theorem printL_any (hP:ParseOk) (u:Value) (l:List Tk) (w:World) (hu:TS w u l) (g:Gg w) (hzs:∀ t∈l,t.s.length≤70000) (hl7:l.length≤2000000):Calls Tryz.prog 48 #[u] w fun e w'=>e=prE (prR l)∧Below w.heap.size w w':=by
 obtain ⟨au,cu,rfl,hu1,hu2⟩:=hu.shape
 have hu:=hide hu
 have g0:=hide g
 have hP0:=hide hP
 have ml:maxLen=9223372036854775807:=rfl
 have hzt:=hide hzs
 clear hzs
 obtain ⟨U,hU⟩:∃ U,prR l=U:=⟨_,rfl⟩
 rw [hU]
 have HU:=hide hU
 clear hU g hP
 go_enter Tryz.func48, Tryz.ntmps48
 go_wp2
 go_loopw [11] (fun i W=>∃ k:Nat,i=.int .i64 k∧k≤l.length∧Hid ((∀ j (h:j<l.length),j<k→isT nok l[j].w l[j].s=true)∧Below w.heap.size w W)) (fun i _=>l.length - (intOf i).toNat)
 case atStart=>exact ⟨0,rfl,Nat.zero_le _,fun j h1 h2=>by omega,Below.refl _ _⟩
 case round =>
  obtain ⟨k,rfl,hk,H⟩:=hrel
  by_cases hkl:k<l.length
  ·have hki:(k:Int)<(l.length:Int):=by omega
   obtain ⟨hA,hB⟩:=H.out
   have A1:=hide hA
   have B1:=hide hB
   have gr:=hide (g0.out.below hB g0.out.sz)
   obtain ⟨b,o,rfl,hb,p1,p2,p3⟩:=(hu.out.below hB).at k hkl
   have hti:Hid (∀ W,Below wr.heap.size wr W→Calls Tryz.prog 105 #[.agg #[.int .i64 l[k].w,.string (mkB l[k].s),.int .i64 l[k].p]] W fun e w'=>e=.returned (.bool (isT nok l[k].w l[k].s))∧Below W.heap.size W w'):=(fun W hb=>isTok_any hP0.out l[k] W (gr.out.below hb gr.out.sz) (hzt.out _ (List.getElem_mem _)))
   clear H hA hB
   obtain ⟨x,hx⟩:∃ x,l[k].w=x:=⟨_,rfl⟩
   obtain ⟨y,hy⟩:∃ y,mkB l[k].s=y:=⟨_,rfl⟩
   obtain ⟨z,hz⟩:∃ z,l[k].p=z:=⟨_,rfl⟩
   obtain ⟨q,hq⟩:∃ q,isT nok l[k].w l[k].s=q:=⟨_,rfl⟩
   rw [hq] at hti
   rw [hx] at p1 hti
   rw [hy] at p2 hti
   rw [hz] at p3 hti
   have hq:=hide hq
   clear hx hy hz
   rename_i hqq
   clear hqq
   go_wp2_with fail
   refine (hti.out _ (below_al (Below.refl _ _))).mono ?_
   rintro e w1 ⟨rfl,hb1⟩
   have B2:=hide (below_then (below_al B1.out) hb1)
   clear hb1
   cases q
   ·have U2:Hid (U=(1,[])):=by
     show _=_
     rw [←HU.out]
     unfold prR
     rw [if_pos (fun h=>by have:=h _ (List.getElem_mem hkl);rw [hq.out] at this;cases this)]
    go_wp2
    go_ret2
    exact ⟨by rw [U2.out];rfl,B2.out⟩
   ·have A2:Hid (∀ j (h:j<l.length),j<k + 1→isT nok l[j].w l[j].s=true):=fun j h1 h2=>by
     by_cases hjk:j=k
     ·subst hjk;exact hq.out
     ·exact A1.out j h1 (by omega)
    clear A1 hq
    go_wp2
    go_roundw
    case rel=>exact ⟨k + 1,by go_num,by omega,A2.out,B2.out⟩
    case measure=>simp [intOf];omega
  ·have hki:¬ (k:Int)<(l.length:Int):=by omega
   have hall:Hid (∀ t∈l,isT nok t.w t.s=true):=fun t ht=>by
    obtain ⟨j,hj,rfl⟩:=List.mem_iff_getElem.1 ht
    exact H.out.1 j hj (by omega)
   have B0:=hide H.out.2
   have U1:Hid (U=if 1024<l.length∨(∃ t∈l,lon t=true)∨4096<(jn (l.map splT)).length then (2,[]) else (0,jn (l.map splT))):=by
    show _=_
    rw [←HU.out]
    unfold prR
    rw [if_neg (fun h=>h hall.out)]
   clear H HU
   by_cases hbig:1024<l.length
   ·have ib:(1024:Int)<(l.length:Int):=by omega
    have U2:Hid (U=(2,[])):=by show _=_;rw [U1.out,if_pos (Or.inl hbig)]
    go_wp2
    go_ret2
    exact ⟨by rw [U2.out];rfl,B0.out⟩
   ·have ib:¬ (1024:Int)<(l.length:Int):=by omega
    go_wp2
    clear hkl hki hk
    go_loopw [6,24] (fun v i W=>∃ k:Nat,i=.int .i64 k∧k≤l.length∧Hid (Own W w.heap.size v (jn ((l.take k).map splT))∧(∀ j (h:j<l.length),j<k→lon l[j]=false)∧(jn ((l.take k).map splT)).length≤4096∧Below w.heap.size w W)) (fun _ i _=>l.length - (intOf i).toNat)
    case atStart=>exact ⟨0,rfl,Nat.zero_le _,own_nil _ _,fun j h1 h2=>by omega,by simp [jn],B0.out⟩
    case round =>
     obtain ⟨k,rfl,hk,H⟩:=hrel
     obtain ⟨hO,hA,hL,hB⟩:=H.out
     have O1:=hide hO
     have A1:=hide hA
     have L1:=hide hL
     have B1:=hide hB
     clear H hO hA hL hB
     by_cases hkl:k<l.length
     ·have hki:(k:Int)<(l.length:Int):=by omega
      have gr:=hide (g0.out.below B1.out g0.out.sz)
      obtain ⟨b,o,rfl,hb,p1,p2,p3⟩:=(hu.out.below B1.out).at k hkl
      obtain ⟨T,hT⟩:∃ T,l[k]=T:=⟨_,rfl⟩
      have hTm:Hid (T∈l):=by rw [←hT];exact List.getElem_mem _
      have hTk:=hide hT
      have hjt:Hid ((l.take (k + 1)).map splT=(l.take k).map splT++[splT T]):=by
       show _=_
       rw [List.take_succ_eq_append_getElem hkl,List.map_append,hT]
       rfl
      have hTis:Hid (isT nok T.w T.s=true):=hall.out T hTm.out
      rw [hT] at p1 p2 p3
      obtain ⟨x,ys,z⟩:=T
      simp only at p1 p2 p3
      have hys:Hid ((mkB ys).size=ys.length):=mkB_size ys
      have hko:Hid (∀ o n,Calls Tryz.prog 106 #[.int .i64 x] ((wr.alloc o).drewN n) fun e w'=>e=.returned (.int .i64 (kdW x:Nat))∧w'=(wr.alloc o).drewN n):=fun o n=>kindOf_any x _ (gr.out.below (below_then (below_al (Below.refl _ _)) (below_drewN _ _ _)) gr.out.sz)
      have hk5:kdW x<5:=by unfold kdW;(repeat' split) <;> omega
      have hlo:∀ o,(wr.alloc o).cell? ⟨1,kdW x,none⟩=some (.int .i64 (lgK (kdW x):Nat)):=fun o=>(gr.out.below (below_al (Below.refl _ _)) gr.out.sz).lo _ hk5
      have hlon:Hid (lon ⟨x,ys,z⟩=decide (lgK (kdW x)<ys.length)):=rfl
      have hlg:lgK (kdW x)≤4096:=by unfold lgK;(repeat' split) <;> omega
      have hsp:Hid (ys.length≤4096→∀ W,Calls Tryz.prog 107 #[.agg #[.int .i64 x,.string (mkB ys),.int .i64 z]] W fun e w'=>e=.returned (.string (mkB (splT ⟨x,ys,z⟩)))∧Below W.heap.size W w'):=fun h W=>spell_any ⟨x,ys,z⟩ W (by simp only;omega)
      obtain ⟨q,hq⟩:∃ q,kdW x=q:=⟨_,rfl⟩
      obtain ⟨m,hm⟩:∃ m,lgK q=m:=⟨_,rfl⟩
      rw [hq] at hko hk5 hlo hlon hlg
      rw [hm] at hlo hlon hlg
      have hq0:(0:Int)≤(q:Int):=by omega
      have hq5:(q:Int)<5:=by omega
      obtain ⟨y,hy⟩:∃ y,mkB ys=y:=⟨_,rfl⟩
      rw [hy] at p2 hys hsp
      have hspl:Hid ((splT ⟨x,ys,z⟩).length≤6 * ys.length + 2):=by
       show _≤_
       unfold splT spl
       simp only
       split
       ·have:=esc_len ys;simp only [quo,List.length_cons,List.length_append,List.length_nil];omega
       ·omega
      clear hT hm hq hy
      by_cases hlg2:m<ys.length
      ·have U2:Hid (U=(2,[])):=by
        show _=_
        rw [U1.out,if_pos (Or.inr (Or.inl ⟨_,hTm.out,by rw [hlon.out];exact decide_eq_true hlg2⟩))]
       have i1:((m:Nat):Int)<((y.size:Nat):Int):=by rw [hys.out];omega
       clear hlg2 hlg hk5 hspl hsp
       go_wp2_with fail
       go_quiet (first|(go_at_call 106;exact Calls.quiet_of_same (hko.out _ _)))
       go_wp2
       go_ret2
       exact ⟨by rw [U2.out];rfl,below_then (below_al B1.out) (below_drewN _ _ _)⟩
      ·have i1:¬ ((m:Nat):Int)<((y.size:Nat):Int):=by rw [hys.out];omega
       have hsp2:=hide (hsp.out (by omega))
       have A2:Hid (∀ j (h:j<l.length),j<k + 1→lon l[j]=false):=fun j h1 h2=>by
        by_cases hjk:j=k
        ·subst hjk;rw [hTk.out,hlon.out];exact decide_eq_false hlg2
        ·exact A1.out j h1 (by omega)
       have hS:Hid (mkB (splT ⟨x,ys,z⟩)=mkB (splT ⟨x,ys,z⟩)):=rfl
       have hyl:Hid (ys.length≤4096):=by show _≤_;omega
       obtain ⟨S,hSd⟩:∃ S,splT ⟨x,ys,z⟩=S:=⟨_,rfl⟩
       rw [hSd] at hjt hspl hsp2
       have hSb:=hide (bl_mkB S)
       have hSz:Hid ((mkB S).size=S.length):=mkB_size S
       obtain ⟨Sb,hSbd⟩:∃ Sb,mkB S=Sb:=⟨_,rfl⟩
       rw [hSbd] at hSb hSz hsp2
       obtain ⟨J,hJ⟩:∃ J,jn ((l.take k).map splT)=J:=⟨_,rfl⟩
       rw [hJ] at O1 L1
       have hJn:Hid (jn ((l.take (k + 1)).map splT)=if k=0 then S else J++32 :: S):=by
        show _=_
        rw [hjt.out,jn_snoc,hJ]
        by_cases hk0:k=0
        ·subst hk0;simp
        ·rw [if_neg hk0,if_neg]
         intro e
         have:=congrArg List.length e
         rw [List.length_map,List.length_take,List.length_nil] at this
         omega
       have hJe0:Hid (k=0→J=[]):=fun e=>by rw [←hJ,e];rfl
       have i1n:¬ m<y.size:=by rw [hys.out];exact hlg2
       have hJle:Hid ((jn ((l.take (k + 1)).map splT)).length≤(jn (l.map splT)).length):=by
        show _≤_
        rw [List.map_take]
        exact jn_take _ _
       obtain ⟨J2,hJ2⟩:∃ J2,jn ((l.take (k + 1)).map splT)=J2:=⟨_,rfl⟩
       rw [hJ2] at hJn hJle
       have hJ2:=hide hJ2
       clear hlg2 hlg hk5 A1 hsp hS hSd hSbd hjt hJ
       rename_i hJ2q
       clear hJ2q
       have hk0':k=0∨0<k:=by omega
       rcases hk0' with hk0|hk0
       ·have ik:¬ (0:Int)<(k:Int):=by omega
        have hJ0:Hid (J2=S):=by have:=hJn.out;rw [if_pos hk0] at this;exact this
        have hJe:Hid (J=[]):=hJe0.out hk0
        clear hJn hk0 hJe0
        go_wp2_with fail
        go_quiet (first|(go_at_call 106;exact Calls.quiet_of_same (hko.out _ _)))
        have BW:Hid (Below wr.heap.size wr ((wr.alloc (Obj.cells #[Value.int IntKind.i64 x,Value.string y,Value.int IntKind.i64 z] 110)).drewN nq)):=below_then (below_al (Below.refl _ _)) (below_drewN _ _ _)
        go_wp2_with (first|(go_at_call 107;refine (hsp2.out _).mono ?_;rintro e w2 ⟨rfl,hb2⟩;have B2':=hide (below_then BW.out hb2);clear hb2)|(at_builtin;refine Sto.out ?_))
        refine Sto.mk ?_
        have O2:=hide (own_keep O1.out B2'.out)
        have B2:=hide (below_then B1.out B2'.out)
        refine app_str rfl (.tmp 43) (.tmp 45) rfl w.heap.size u6 J rfl O2.out Sb rfl (by have:=L1.out;have:=hSz.out;have:=hspl.out;have:=hyl.out;omega) B2.out.size ?_
        intro v3 w3 ho3 hb3 hz3
        have O3:Hid (Own w3 w.heap.size v3 J2):=by have:=ho3.out;rw [hSb.out,hJe.out,List.nil_append,←hJ0.out] at this;exact this
        have B3:Hid (Below w.heap.size w w3):=B2.out.trans hb3.out
        obtain ⟨a3,c3,rfl⟩:=own_shape O3.out
        clear ho3 hb3 hz3 hlo
        by_cases h4096:4096<J2.length
        ·have j4:(4096:Int)<(J2.length:Int):=by omega
         have U2:Hid (U=(2,[])):=by show _=_;rw [U1.out,if_pos (Or.inr (Or.inr (by have:=hJle.out;omega)))]
         go_wp2
         go_ret2
         exact ⟨by rw [U2.out];rfl,B3.out⟩
        ·have j4:¬ (4096:Int)<(J2.length:Int):=by omega
         go_wp2
         go_roundw
         case rel=>exact ⟨k + 1,by go_num,by omega,by rw [hJ2.out];exact O3.out,A2.out,by rw [hJ2.out];omega,B3.out⟩
         case measure=>simp [intOf];omega
       ·have ik:(0:Int)<(k:Int):=by omega
        have hJ0:Hid (J2=J++32 :: S):=by have:=hJn.out;rw [if_neg (by omega)] at this;exact this
        clear hJn hk0 hJe0
        go_wp2_with fail
        go_quiet (first|(go_at_call 106;exact Calls.quiet_of_same (hko.out _ _)))
        have BW:Hid (Below wr.heap.size wr ((wr.alloc (Obj.cells #[Value.int IntKind.i64 x,Value.string y,Value.int IntKind.i64 z] 110)).drewN nq)):=below_then (below_al (Below.refl _ _)) (below_drewN _ _ _)
        obtain ⟨W1,hW1⟩:∃ W1,W1=((wr.alloc (Obj.cells #[Value.int IntKind.i64 x,Value.string y,Value.int IntKind.i64 z] 110)).drewN nq):=⟨_,rfl⟩
        have c0:Hid (W1.heap[wr.heap.size]?=some (Obj.cells #[Value.int IntKind.i64 x,Value.string y,Value.int IntKind.i64 z] 110)):=by
         show _=_
         rw [hW1]
         exact Array.getElem?_push_size
        have z1:Hid (W1.heap.size=wr.heap.size + 1):=by show _=_;rw [hW1];simp
        rw [←hW1] at BW ⊢
        clear hW1
        have hn:=hide (news_one W1 32 5)
        have OW:=hide (own_keep O1.out BW.out)
        have hll:=hide (World.ownsRow.lt O1.out)
        go_wp2_with (at_builtin;refine Sto.out ?_)
        refine Sto.mk ?_
        refine app_bytes2 rfl (.tmp 40) (.tmp 41) rfl w.heap.size u6 J rfl (OW.out.alloc _) ⟨W1.heap.size,0,none⟩ 1 1 [32] rfl rfl hn.out (by have:=L1.out;omega) (by have:=B1.out.size;have:=z1.out;simp;omega) ?_
        intro v2 w2 ho2 hg2
        have cB:Hid (w2.heap[wr.heap.size]?=some (Obj.cells #[Value.int IntKind.i64 x,Value.string y,Value.int IntKind.i64 z] 110)):=by
         show _=_
         rw [hg2.out.block wr.heap.size (by have:=z1.out;simp;omega) (fun q=>by have:=(hll.out _ q.symm).2;omega),Below.heap_alloc _ _ _ (by have:=z1.out;omega)]
         exact c0.out
        have d0:w2.cell? ⟨wr.heap.size,0,none⟩=some (.int .i64 x):=by simp [World.cell?,cB.out]
        have d1:w2.cell? ⟨wr.heap.size,1,none⟩=some (.string y):=by simp [World.cell?,cB.out]
        have d2:w2.cell? ⟨wr.heap.size,2,none⟩=some (.int .i64 z):=by simp [World.cell?,cB.out]
        have B2:Hid (Below w.heap.size w w2):=(below_al (below_then B1.out BW.out)).grown hg2.out (by have:=B1.out.size;have:=z1.out;simp;omega) (fun q hq=>(hll.out q hq).1)
        have O2:Hid (Own w2 w.heap.size v2 (J++[32])):=ho2.out
        clear ho2 hg2 hn OW hlo
        go_wp2_with (first|(go_at_call 107;refine (hsp2.out _).mono ?_;rintro e w4 ⟨rfl,hb4⟩;have B4':=hide hb4;clear hb4)|(at_builtin;refine Sto.out ?_))
        refine Sto.mk ?_
        have O4:=hide (own_keep O2.out B4'.out)
        have B4:=hide (below_then B2.out B4'.out)
        refine app_str rfl (.tmp 43) (.tmp 45) rfl w.heap.size v2 (J++[32]) rfl O4.out Sb rfl (by have:=L1.out;have:=hSz.out;have:=hspl.out;have:=hyl.out;simp;omega) B4.out.size ?_
        intro v3 w3 ho3 hb3 hz3
        have O3:Hid (Own w3 w.heap.size v3 J2):=by have:=ho3.out;rw [hSb.out,List.append_assoc,List.singleton_append,←hJ0.out] at this;exact this
        have B3:Hid (Below w.heap.size w w3):=B4.out.trans hb3.out
        obtain ⟨a3,c3,rfl⟩:=own_shape O3.out
        clear ho3 hb3 hz3 d0 d1 d2
        by_cases h4096:4096<J2.length
        ·have j4:(4096:Int)<(J2.length:Int):=by omega
         have U2:Hid (U=(2,[])):=by show _=_;rw [U1.out,if_pos (Or.inr (Or.inr (by have:=hJle.out;omega)))]
         go_wp2
         go_ret2
         exact ⟨by rw [U2.out];rfl,B3.out⟩
        ·have j4:¬ (4096:Int)<(J2.length:Int):=by omega
         go_wp2
         go_roundw
         case rel=>exact ⟨k + 1,by go_num,by omega,by rw [hJ2.out];exact O3.out,A2.out,by rw [hJ2.out];omega,B3.out⟩
         case measure=>simp [intOf];omega
     ·have hki:¬ (k:Int)<(l.length:Int):=by omega
      have hcv:=own_conv O1.out
      obtain ⟨J,hJ⟩:∃ J,jn ((l.take k).map splT)=J:=⟨_,rfl⟩
      rw [hJ] at hcv
      have htk:l.take k=l:=List.take_of_length_le (by omega)
      have U2:Hid (U=(0,J)):=by
       show _=_
       rw [U1.out,←hJ,htk,if_neg]
       intro h
       rcases h with h|⟨t,ht,h⟩|h
       ·omega
       ·obtain ⟨j,hj,rfl⟩:=List.mem_iff_getElem.1 ht
        have:=A1.out j hj (by omega)
        rw [h] at this;cases this
       ·have:=L1.out
        rw [htk] at this
        omega
      clear htk hJ
      go_wp2
      go_ret2
      exact ⟨by rw [U2.out];rfl,B1.out⟩
theorem ot_new (W:World) (B:Nat) (l:List Tk) (hB:B≤W.heap.size) (h1:l.length≤1000000):OT (W.alloc (.cells (tcs l).toArray 110)) B (.slice (some ⟨W.heap.size,0,none⟩) l.length l.length) l:=by
 have e:(tcs l).length=l.length * 3:=by rw [tcs_len];omega
 exact ⟨e,Or.inr ⟨W.heap.size,l.length,(tcs l).toArray,rfl,hB,heap_alloc_new W _,Nat.le_refl _,by unfold maxLen;omega,by simpa using e,by simpa using List.take_of_length_le (by rw [e];exact Nat.le_refl _)⟩⟩
theorem OT.low {W:World} {B C:Nat} {v:Value} {l:List Tk} (h:OT W B v l) (hc:C≤B):OT W C v l:=by
 refine ⟨h.1,?_⟩
 rcases h.2 with h|⟨g,cap,cur,rfl,h1,h2⟩
 ·exact Or.inl h
 ·exact Or.inr ⟨g,cap,cur,rfl,by omega,h2⟩
theorem OT.below {W W1:World} {B:Nat} {v:Value} {l:List Tk} (h:OT W B v l) (hb:Below W.heap.size W W1):OT W1 B v l:=h.keep hb
section
variable {W : World} {ops : Array Oper} {rest : List Oper} {o : Oper} {a : Act} {Q : Exit → Act → World → Prop}
theorem row_newsT {W:World} {B T sz g n cap:Nat} {xs:List Value} (h:W.ownsRow B T sz (.slice (some ⟨g,0,none⟩) n cap) n xs):∀ j u,xs[j]?=some u→W.cell? ((⟨g,0,none⟩:Addr).add j)=some u:=World.ownsRow.cells h (g:=g) rfl
theorem app_tksG (hgd:o.guard=none) (s x:Operand) (ho:o.op=.call {callee:=.builtin .append,args:=#[s,x],argTypes:=#[71,71]})
  (B:Nat) (v:Value) (l:List Tk) (hs:a.eval s=v) (hown:OT W B v l) (C:Nat) (u:Value) (m:List Tk) (hx:a.eval x=u) (hu:OT W C u m) (hk:l.length + m.length≤3000000) (hB:B≤W.heap.size)
  (h:∀ ta tn tc w',Hid (OT w' B (.slice ta tn tc) (l++m))→Hid (Below B W w')→Hid (∀ k,k<W.heap.size→v.ownBlock≠some k→w'.heap[k]?=W.heap[k]?)→wpList Tryz.prog ops Q rest (a.put o.dst (.slice ta tn tc)) w'):wpList Tryz.prog ops Q (o :: rest) a W:=by
 obtain ⟨i0,hi,hz0,hz1,hz2⟩:=info_parts infoK
 rcases id hu.2 with ⟨hu0,e0⟩|⟨g,cap,cur,hu0,_⟩
 ·have hf:m=[]:=List.eq_nil_of_length_eq_zero (by rw [←e0])
  subst hf
  refine wpList_plain hgd fun K hK=>?_
  have hr:=run_append_owned_none (P:=Tryz.prog) W B 71 o.type 110 i0 3 Tryz.underlying71 hi v l.length (tcs l) hown
  rw [hu0] at hx
  unfold Oper.wp execOp
  simp only [ho,resolve,invoke,builtin,Sem.run_bind,Sem.run_pure,Result.andThen_ok,List.map_toArray,List.map_cons,List.map_nil,hs,hx,hr]
  obtain ⟨ta,tc,rfl⟩:=hown.shape
  exact hK _ _ (h ta _ tc W (show OT _ _ _ _ by simpa using hown) (Below.refl _ _) (fun _ _ _=>rfl))
 ·have hu2:=hu
  unfold OT at hu2
  rw [hu0] at hx hu2
  refine wpList_append_own_at W hgd s x 71 ho B 110 i0 _ 3 32 Tryz.underlying71 hi hz0 hz1 hz2 rfl (by decide) v l.length (tcs l) hs hown ⟨g,0,none⟩ m.length cap (tcs m) hx (by rw [tcs_len];omega) (row_newsT hu2) (tcs_cell _) (by unfold maxLen;omega) (by omega) hB ?_
  intro v' w' h1 h2 _ _
  rw [←tcs_app] at h1
  have h1':OT w' B v' (l++m):=by unfold OT;rw [List.length_append];exact h1
  obtain ⟨ta,tc,rfl⟩:=h1'.shape
  exact h ta _ tc w' h1' ((Below.refl B W).grown h2 hB fun k hk=>(World.ownsRow.lt hown k hk).1) (fun k hk hne=>h2.block k hk fun e=>hne e.symm)
theorem app_tks (hgd:o.guard=none) (s x:Operand) (ho:o.op=.call {callee:=.builtin .append,args:=#[s,x],argTypes:=#[71,71]})
  (B:Nat) (v:Value) (l:List Tk) (hs:a.eval s=v) (hown:OT W B v l) (C:Nat) (u:Value) (m:List Tk) (hx:a.eval x=u) (hu:OT W C u m) (hk:l.length + m.length≤3000000) (hB:B≤W.heap.size)
  (h:∀ ta tn tc w',Hid (OT w' B (.slice ta tn tc) (l++m))→Hid (Below B W w')→wpList Tryz.prog ops Q rest (a.put o.dst (.slice ta tn tc)) w'):wpList Tryz.prog ops Q (o :: rest) a W :=
 app_tksG hgd s x ho B v l hs hown C u m hx hu hk hB fun ta tn tc w' h1 h2 _=>h ta tn tc w' h1 h2
end
def TokP (l:List Tk) (w:World) (e:Ending) (w':World):Prop:=∃ v,e=.returned v∧OT w' w.heap.size v l∧Below w.heap.size w w'
set_option maxHeartbeats 1000000 in
set_option maxRecDepth 100000 in
theorem mark_any (s:ByteArray) (w:World):Calls Tryz.prog 144 #[.string s] w fun e w'=>e=.returned (.agg #[.int .i64 4,.string s,.int .i64 0])∧Below w.heap.size w w':=by
 go_enter Tryz.func144, Tryz.ntmps144
 go_wp2_with fail
 refine bodyPost_ret (v:=.agg #[.int .i64 4,.string s,.int .i64 0]) (by simp [results,Tryz.results144,go_sem, *]) rfl ⟨rfl,below_al (Below.refl _ _)⟩
set_option maxHeartbeats 1000000 in
set_option maxRecDepth 100000 in
theorem word_any (s:ByteArray) (w:World):Calls Tryz.prog 108 #[.string s] w fun e w'=>e=.returned (.agg #[.int .i64 1,.string s,.int .i64 0])∧Below w.heap.size w w':=by
 go_enter Tryz.func108, Tryz.ntmps108
 go_wp2_with fail
 refine bodyPost_ret (v:=.agg #[.int .i64 1,.string s,.int .i64 0]) (by simp [results,Tryz.results108,go_sem, *]) rfl ⟨rfl,below_al (Below.refl _ _)⟩
end Lx
end Go.Proofs.YtgicnopppgnjjaaGreatDoor
namespace Go.Proofs.YtgicnopppgnjjaaGreatDoor
namespace Lx
open Go.RowKit
theorem tk_new (W:World) (B:Nat) (t:Tk) (hB:B≤W.heap.size):OT (W.alloc (.cells #[.int .i64 t.w,.string (mkB t.s),.int .i64 t.p] 110)) B (.slice (some ⟨W.heap.size,0,none⟩) 1 1) [t]:=ot_new W B [t] hB (by simp)
theorem tk_new2 (W:World) (B:Nat) (t u:Tk) (hB:B≤W.heap.size):OT (W.alloc (.cells #[.int .i64 t.w,.string (mkB t.s),.int .i64 t.p,.int .i64 u.w,.string (mkB u.s),.int .i64 u.p] 110)) B (.slice (some ⟨W.heap.size,0,none⟩) 2 2) [t,u]:=ot_new W B [t,u] hB (by simp)
set_option maxHeartbeats 2000000 in
set_option maxRecDepth 100000 in
theorem name_any2 (hP:ParseOk) (s:ByteArray) (w:World) (g:Gg w) (hs:s.size≤60000):Calls Tryz.prog 145 #[.string s] w fun e w'=>e=.returned (tkV (ntk (bl s)))∧Below w.heap.size w w':=by
 have es:mkB (bl s)=s:=mkB_bl s
 have hp:=hide (fun (W:World) (hb:Below w.heap.size w W) (v:Value) (h:OT W w.heap.size v [wd (bl s)])=>printL_any hP v [wd (bl s)] W (h.ts (by simp)) (g.below hb g.sz) (fun t ht=>by rw [List.mem_singleton.1 ht];show (bl s).length≤_;rw [bl_length];omega) (by simp))
 have Z0:=hide (show (w.alloc (.cells #[.int .i64 0,.string ⟨#[]⟩,.int .i64 0] 110)).heap[w.heap.size]?=some (.cells #[.int .i64 0,.string ⟨#[]⟩,.int .i64 0] 110 (0,0)) from Array.getElem?_push_size)
 obtain ⟨b,hb⟩:∃ b,(prR [wd (bl s)]).1=b:=⟨_,rfl⟩
 have hn:Hid (ntk (bl s)=if b=0 then wd (bl s) else ⟨2,bl s,0⟩):=by show _=_;rw [←hb];rfl
 obtain ⟨N,hN⟩:∃ N,ntk (bl s)=N:=⟨_,rfl⟩
 rw [hN] at hn ⊢
 unfold prE at hp
 rw [hb] at hp
 obtain ⟨U,hU⟩:∃ U,(prR [wd (bl s)]).2=U:=⟨_,rfl⟩
 rw [hU] at hp
 have ES:=hide es
 clear hP g hb hN hU es hs
 go_enter Tryz.func145, Tryz.ntmps145
 go_wp2_with (go_at_call 108;refine Sto.out ?_)
 refine Sto.mk ?_
 refine (word_any s _).mono ?_
 rintro e w1 ⟨rfl,hb1⟩
 have B1:=hide (below_then (below_al (Below.refl _ _)) hb1)
 have Z1:=hide ((hb1.block w.heap.size (by simp)).trans Z0.out)
 have z1:w.heap.size<w1.heap.size:=by have:=hb1.size;simp only [World.size_alloc] at this;omega
 clear hb1 Z0
 have T1:Hid ((w1.alloc (.cells #[.int .i64 1,.string s,.int .i64 0] 110)).heap[w1.heap.size]?=some (.cells #[.int .i64 1,.string s,.int .i64 0] 110 (0,0))):=Array.getElem?_push_size
 have O2:Hid (OT ((w1.alloc (.cells #[.int .i64 1,.string s,.int .i64 0] 110)).alloc (.cells #[.int .i64 1,.string s,.int .i64 0] 110)) w.heap.size (.slice (some ⟨w1.heap.size + 1,0,none⟩) 1 1) [wd (bl s)]):=by
  have:=tk_new (w1.alloc (.cells #[.int .i64 1,.string s,.int .i64 0] 110)) w.heap.size (wd (bl s)) (by simp;omega)
  simp only [wd,ES.out,World.size_alloc] at this
  exact this
 have hp2:=hide (hp.out _ (below_al (below_al B1.out)) _ O2.out)
 clear hp O2
 go_wp2_with (go_at_call 48;refine Sto.out ?_)
 refine Sto.mk ?_
 refine hp2.out.mono ?_
 rintro e w2 ⟨rfl,hb2⟩
 have B2:=hide (below_then (below_al (below_al B1.out)) hb2)
 have Z2:=hide ((hb2.block w.heap.size (by simp;omega)).trans ((Below.heap_alloc _ _ _ (by simp;omega)).trans ((Below.heap_alloc _ _ _ z1).trans Z1.out)))
 have T2:=hide ((hb2.block w1.heap.size (by simp;omega)).trans ((Below.heap_alloc _ _ _ (by simp)).trans T1.out))
 clear hb2 hp2 Z1 T1
 have k0:w2.cell? ⟨w.heap.size,0,none⟩=some (.int .i64 0)∧w2.cell? ⟨w.heap.size,1,none⟩=some (.string ⟨#[]⟩)∧w2.cell? ⟨w.heap.size,2,none⟩=some (.int .i64 0):=by
  refine ⟨?_,?_,?_⟩ <;> (unfold World.cell?;rw [Z2.out];rfl)
 have kf:∀ j,w2.frozen? ⟨w.heap.size,j,none⟩=false:=fun j=>by have:=Z2.out;simp [World.frozen?,this]
 have t0:w2.cell? ⟨w1.heap.size,0,none⟩=some (.int .i64 1)∧w2.cell? ⟨w1.heap.size,1,none⟩=some (.string s)∧w2.cell? ⟨w1.heap.size,2,none⟩=some (.int .i64 0):=by
  refine ⟨?_,?_,?_⟩ <;> (unfold World.cell?;rw [T2.out];rfl)
 have tf:∀ j,w2.frozen? ⟨w1.heap.size,j,none⟩=false:=fun j=>by have:=T2.out;simp [World.frozen?,this]
 have hne:w.heap.size≠w1.heap.size:=by omega
 have hne2:w1.heap.size≠w.heap.size:=by omega
 by_cases h0:b=0
 ·subst h0
  have en:Hid (N=wd (bl s)):=by show _=_;rw [hn.out,if_pos rfl]
  go_wp2_with fail
  refine bodyPost_ret (v:=tkV N) (by rw [en.out];simp [results,Tryz.results145,go_sem,tkV,wd,ES.out, *]) rfl ⟨rfl,?_⟩
  (iterate 3 (refine Below.setCell ?_ (by show w.heap.size≤w.heap.size;omega) _))
  exact B2.out
 ·have en:Hid (N=⟨2,bl s,0⟩):=by show _=_;rw [hn.out,if_neg h0]
  have b0:((b:Int)==0)=false:=by simp;omega
  go_wp2_with fail
  refine bodyPost_ret (v:=tkV N) (by rw [en.out];simp [results,Tryz.results145,go_sem,tkV,wd,ES.out, *]) rfl ⟨rfl,?_⟩
  (iterate 3 (refine Below.setCell ?_ (by show w.heap.size≤w.heap.size;omega) _))
  refine Below.setCell B2.out (by show w.heap.size≤w1.heap.size;omega) _
set_option maxHeartbeats 2000000 in
set_option maxRecDepth 100000 in
theorem between_any (o s:List UInt8) (v:Value) (l:List Tk) (C:Nat) (w:World) (h:OT w C v l) (hl:l.length≤1000000):Calls Tryz.prog 109 #[.string (mkB o),v,.string (mkB s)] w fun e w'=>TokP (btw o l s) w e w':=by
 obtain ⟨a,c,rfl⟩:=h.shape
 have H:=hide h
 clear h
 go_enter Tryz.func109, Tryz.ntmps109
 go_wp2_with (go_at_call 144;refine Sto.out ?_)
 refine Sto.mk ?_
 refine (mark_any (mkB o) _).mono ?_
 rintro e w1 ⟨rfl,hb1⟩
 have B1:=hide hb1
 have O1:=hide (tk_new w1 w.heap.size (mk o) hb1.size)
 have H1:=hide ((H.out.below hb1).below (below_al (o:=.cells #[.int .i64 4,.string (mkB o),.int .i64 0] 110) (Below.refl _ _)))
 clear hb1 H
 go_wp2_with (at_builtin;refine Sto.out ?_)
 refine Sto.mk ?_
 refine app_tks rfl (.tmp 9) (.tmp 10) rfl w.heap.size (.slice (some ⟨w1.heap.size,0,none⟩) 1 1) [mk o] rfl O1.out C (.slice a l.length c) l rfl H1.out (by simp;omega) (by simp;have:=B1.out.size;omega) ?_
 intro ta tn tc w2 o2 b2
 have B2:=hide ((B1.out.alloc (by have:=B1.out.size;omega) _).trans b2.out)
 go_wp2_with (go_at_call 144;refine Sto.out ?_)
 refine Sto.mk ?_
 refine (mark_any (mkB s) _).mono ?_
 rintro e w3 ⟨rfl,hb3⟩
 have B3:=hide (below_then B2.out hb3)
 have O3:=hide ((o2.out.below hb3).below (below_al (o:=.cells #[.int .i64 4,.string (mkB s),.int .i64 0] 110) (Below.refl _ _)))
 have M3:=hide (tk_new w3 w.heap.size (mk s) B3.out.size)
 clear hb3 o2 b2 O1 H1
 go_wp2_with (at_builtin;refine Sto.out ?_)
 refine Sto.mk ?_
 refine app_tks rfl (.tmp 11) (.tmp 14) rfl w.heap.size (.slice ta tn tc) ([mk o]++l) rfl O3.out w.heap.size (.slice (some ⟨w3.heap.size,0,none⟩) 1 1) [mk s] rfl M3.out (by simp;omega) (by simp;have:=B3.out.size;omega) ?_
 intro tb tm td w4 o4 b4
 have B4:=hide ((B3.out.alloc B3.out.size _).trans b4.out)
 go_wp2_with fail
 go_ret
 refine ⟨_,rfl,?_,B4.out⟩
 have:=o4.out
 simpa [btw] using this
end Lx
end Go.Proofs.YtgicnopppgnjjaaGreatDoor
namespace Go.Proofs.YtgicnopppgnjjaaGreatDoor
namespace Lx
open Go.RowKit
structure Gs (w:World):Prop where
 gg:Gg w
 gp:Gp w
 tb:Tab w.heap.size w
theorem Gs.below {w W:World} (g:Gs w) (hb:Below w.heap.size w W):Gs W:=⟨g.gg.below hb g.gg.sz,g.gp.below hb,Tab.up (g.tb.on hb) hb.size⟩
set_option maxHeartbeats 2000000 in
set_option maxRecDepth 100000 in
theorem const_tok (h:Hd) (a1:Option Addr) (m1 d1:Nat) (a2:Option Addr) (m2 d2:Nat) (w:World) (g:Gs w) (hn:h.kind=3→isN h.neg h.dig h.exp=true):Calls Tryz.prog 146 #[.agg (vals h (.slice a1 m1 d1) (.slice a2 m2 d2))] w fun e w'=>e=.returned (tkV (ctk h))∧Below w.heap.size w w':=by
 have eT:mkB (bl h.text)=h.text:=mkB_bl _
 have Z0:=hide (show ∀ o,((w.alloc o).alloc (.cells #[.int .i64 0,.string ⟨#[]⟩,.int .i64 0] 110)).heap[w.heap.size + 1]?=some (.cells #[.int .i64 0,.string ⟨#[]⟩,.int .i64 0] 110 (0,0)) from fun o=>by have:=Array.getElem?_push_size (xs:=(w.alloc o).heap) (x:=Obj.cells #[.int .i64 0,.string ⟨#[]⟩,.int .i64 0] 110 (0,0));rw [show (w.alloc o).heap.size=w.heap.size + 1 from World.size_alloc _ _] at this;exact this)
 have hp:=hide (fun W (hb:Below w.heap.size w W) (k:h.kind=3)=>Go.Proofs.YtgicnopppgnjjaaGreatDoor.print_any h.neg h.dig h.exp W (hn k) (g.below hb).tb)
 have G:=hide g
 clear hn g
 obtain ⟨kd,fl,ng,dg,ex,bt,tx,nm⟩:=h
 simp only at eT hp
 have ET:=hide eT
 clear eT
 have fin:Hid (∀ (t:Tk) W,Below w.heap.size w W→ctk ⟨kd,fl,ng,dg,ex,bt,tx,nm⟩=t→Below w.heap.size w W∧ctk ⟨kd,fl,ng,dg,ex,bt,tx,nm⟩=t):=fun t W a b=>⟨a,b⟩
 obtain ⟨R,hR⟩:∃ R,ctk ⟨kd,fl,ng,dg,ex,bt,tx,nm⟩=R:=⟨_,rfl⟩
 rw [hR]
 have HR:=hide hR
 clear hR fin
 show Calls _ _ #[.agg #[.int .i64 kd,.bool fl,.bool ng,.string dg,.int .i64 ex,.int .u64 bt,.string tx,.slice a1 m1 d1,.slice a2 m2 d2]] _ _
 have keyW:Hid (∀ (W:World) (s:List UInt8),(W.heap[w.heap.size + 1]?=some (.cells #[.int .i64 0,.string ⟨#[]⟩,.int .i64 0] 110 (0,0)))→(W.cell? ⟨w.heap.size + 1,0,none⟩=some (.int .i64 0)∧W.cell? ⟨w.heap.size + 1,1,none⟩=some (.string ⟨#[]⟩)∧W.cell? ⟨w.heap.size + 1,2,none⟩=some (.int .i64 0))∧∀ j,W.frozen? ⟨w.heap.size + 1,j,none⟩=false):=fun W s k=>by
  refine ⟨⟨?_,?_,?_⟩,fun j=>by simp [World.frozen?,k]⟩ <;> (unfold World.cell?;rw [k];rfl)
 by_cases k5:kd=5
 ·subst k5
  have e2:Hid (R=⟨2,bl tx,0⟩):=by show _=_;rw [←HR.out];rfl
  go_enter Tryz.func146, Tryz.ntmps146
  go_wp2_with fail
  refine bodyPost_ret (v:=tkV R) (by rw [e2.out];simp [results,Tryz.results146,go_sem,tkV,ET.out, *]) rfl ⟨rfl,?_⟩
  first|(iterate 3 (refine Below.setCell ?_ (by show w.heap.size≤w.heap.size + 1;omega) _);exact below_al (below_al (Below.refl _ _)))|exact below_al (below_al (Below.refl _ _))
 by_cases k3:kd=3
 ·subst k3
  have e2:Hid (R=⟨3,printL ng (bl dg) ex,0⟩):=by show _=_;rw [←HR.out];rfl
  have Z1:=hide (Z0.out (.cells #[.int .i64 3,.bool fl,.bool ng,.string dg,.int .i64 ex,.int .u64 bt,.string tx,.slice a1 m1 d1,.slice a2 m2 d2] 31))
  clear Z0
  go_enter Tryz.func146, Tryz.ntmps146
  go_wp2_with (go_at_call 177;refine Sto.out ?_)
  refine Sto.mk ?_
  refine (hp.out _ (below_al (below_al (Below.refl _ _))) (by first|rfl|trivial)).mono ?_
  rintro e w1 ⟨rfl,hb1⟩
  have B1:=hide (below_then (below_al (below_al (Below.refl _ _))) hb1)
  have Z2:=hide ((hb1.block (w.heap.size + 1) (by simp)).trans Z1.out)
  obtain ⟨k0,kf⟩:=keyW.out w1 [] Z2.out
  clear hb1 Z1
  go_wp2_with fail
  refine bodyPost_ret (v:=tkV R) (by rw [e2.out];simp [results,Tryz.results146,go_sem,tkV, *]) rfl ⟨rfl,?_⟩
  (iterate 3 (refine Below.setCell ?_ (by show w.heap.size≤w.heap.size + 1;omega) _))
  exact B1.out
 have fin:Hid (∀ (s:List UInt8) (W:World),R=wd s→True):=fun _ _ _=>trivial
 by_cases k1:kd=1
 ·subst k1
  have e2:Hid (R=wd [110,117,108,108]):=by show _=_;rw [←HR.out];rfl
  have Z1:=hide (Z0.out (.cells #[.int .i64 1,.bool fl,.bool ng,.string dg,.int .i64 ex,.int .u64 bt,.string tx,.slice a1 m1 d1,.slice a2 m2 d2] 31))
  clear Z0 hp
  go_enter Tryz.func146, Tryz.ntmps146
  go_wp2_with (go_at_call 108;refine Sto.out ?_)
  refine Sto.mk ?_
  refine (word_any _ _).mono ?_
  rintro e w1 ⟨rfl,hb1⟩
  have B1:=hide (below_then (below_al (below_al (Below.refl _ _))) hb1)
  have Z2:=hide ((hb1.block (w.heap.size + 1) (by simp)).trans Z1.out)
  obtain ⟨k0,kf⟩:=keyW.out w1 [] Z2.out
  clear hb1 Z1
  go_wp2_with fail
  refine bodyPost_ret (v:=tkV R) (by rw [e2.out];simp [results,Tryz.results146,go_sem,tkV,wd,mkB, *]) rfl ⟨rfl,?_⟩
  (iterate 3 (refine Below.setCell ?_ (by show w.heap.size≤w.heap.size + 1;omega) _))
  exact B1.out
 have Z1:=hide (Z0.out (.cells #[.int .i64 kd,.bool fl,.bool ng,.string dg,.int .i64 ex,.int .u64 bt,.string tx,.slice a1 m1 d1,.slice a2 m2 d2] 31))
 clear Z0 hp
 have b5:((kd:Int)==5)=false:=by simp [k5]
 have b3:((kd:Int)==3)=false:=by simp [k3]
 have b1:((kd:Int)==1)=false:=by simp [k1]
 cases fl
 ·have e2:Hid (R=wd [102,97,108,115,101]):=by show _=_;rw [←HR.out];simp [ctk,k5,k3,k1]
  go_enter Tryz.func146, Tryz.ntmps146
  go_wp2_with (go_at_call 108;refine Sto.out ?_)
  refine Sto.mk ?_
  refine (word_any _ _).mono ?_
  rintro e w1 ⟨rfl,hb1⟩
  have B1:=hide (below_then (below_al (below_al (Below.refl _ _))) hb1)
  have Z2:=hide ((hb1.block (w.heap.size + 1) (by simp)).trans Z1.out)
  obtain ⟨k0,kf⟩:=keyW.out w1 [] Z2.out
  clear hb1 Z1
  go_wp2_with fail
  refine bodyPost_ret (v:=tkV R) (by rw [e2.out];simp [results,Tryz.results146,go_sem,tkV,wd,mkB, *]) rfl ⟨rfl,?_⟩
  (iterate 3 (refine Below.setCell ?_ (by show w.heap.size≤w.heap.size + 1;omega) _))
  exact B1.out
 ·have e2:Hid (R=wd [116,114,117,101]):=by show _=_;rw [←HR.out];simp [ctk,k5,k3,k1]
  go_enter Tryz.func146, Tryz.ntmps146
  go_wp2_with (go_at_call 108;refine Sto.out ?_)
  refine Sto.mk ?_
  refine (word_any _ _).mono ?_
  rintro e w1 ⟨rfl,hb1⟩
  have B1:=hide (below_then (below_al (below_al (Below.refl _ _))) hb1)
  have Z2:=hide ((hb1.block (w.heap.size + 1) (by simp)).trans Z1.out)
  obtain ⟨k0,kf⟩:=keyW.out w1 [] Z2.out
  clear hb1 Z1
  go_wp2_with fail
  refine bodyPost_ret (v:=tkV R) (by rw [e2.out];simp [results,Tryz.results146,go_sem,tkV,wd,mkB, *]) rfl ⟨rfl,?_⟩
  (iterate 3 (refine Below.setCell ?_ (by show w.heap.size≤w.heap.size + 1;omega) _))
  exact B1.out
end Lx
end Go.Proofs.YtgicnopppgnjjaaGreatDoor
namespace Go.Proofs.YtgicnopppgnjjaaGreatDoor
namespace Lx
open Go.RowKit
def PrE:(n:Nat)→ET n→Prop
 | 0,_=>True
 | n + 1,x=>1≤x.1.op∧x.1.op≤12∧(x.1.op=4→x.2.length=1)∧(x.1.op=3∨x.1.op=6→x.1.names.length=x.2.length)∧x.1.name.size≤60000∧(∀ s∈x.1.names,s.size≤60000)∧((vhd x.1.vn x.1.val).kind=3→isN (vhd x.1.vn x.1.val).neg (vhd x.1.vn x.1.val).dig (vhd x.1.vn x.1.val).exp=true)∧x.2.length≤100000∧∀ y∈x.2,PrE n y
def ToOk (n:Nat):Prop:=∀ (x:ET n) (q:Sl) (w:World),RE n w x q→PrE n x→(mtk n x).length≤1000000→Gs w→Calls Tryz.prog 86 #[.agg (ecl (ehd n x) q)] w fun e w'=>TokP (mtk n x) w e w'
theorem sep_take (c:Tk) (L:List (List Tk)) (k:Nat) (h:k<L.length):sepT c (L.take (k + 1))=(if k=0 then L[k] else sepT c (L.take k)++c :: L[k]):=by
 rw [List.take_succ_eq_append_getElem h,sep_snoc]
 by_cases h0:k=0
 ·subst h0;simp
 ·rw [if_neg (by intro e;have:=congrArg List.length e;rw [List.length_take,List.length_nil] at this;omega),if_neg h0]
theorem sep_mem (c:Tk):∀ (L:List (List Tk)) (k:Nat),(sepT c (L.take k)).length≤(sepT c L).length
 | [],k=>by simp [sepT]
 | [a],k=>by
  cases k with
  | zero=>simp [sepT]
  | succ k=>simp
 | a :: b :: r,k=>by
  cases k with
  | zero=>simp [sepT]
  | succ k =>
   cases k with
   | zero=>simp [sepT]
   | succ k =>
    have:=sep_mem c (b :: r) (k + 1)
    simp only [List.take_succ_cons] at this ⊢
    simp only [sepT,List.length_append,List.length_cons]
    omega
theorem sep_get (c:Tk) (L:List (List Tk)) (k:Nat) (h:k<L.length):L[k].length≤(sepT c L).length:=by
 have h1:=sep_take c L k h
 have h2:=sep_mem c L (k + 1)
 rw [h1] at h2
 split at h2
 ·exact h2
 ·simp only [List.length_append,List.length_cons] at h2;omega
theorem itm_len (m:List UInt8) (ns:List ByteArray) (ks:List (List Tk)) (h:ns.length=ks.length):(itm m ns ks).length=ns.length:=by
 simp [itm,h]
theorem itm_get (m:List UInt8) (ns:List ByteArray) (ks:List (List Tk)) (k:Nat) (h1:k<ns.length) (h2:k<ks.length) (h:k<(itm m ns ks).length):(itm m ns ks)[k]=ntk (bl ns[k]) :: mk m :: ks[k]:=by
 simp [itm]
set_option maxHeartbeats 4000000 in
set_option maxRecDepth 100000 in
theorem namedTok_any {n:Nat} (ih:ToOk n) (hP:ParseOk) (m:List UInt8) (nv v:Value) (nms:List ByteArray) (l:List (ET n)) (w:World) (g:Gs w) (hn:NL w nv nms) (hl:EL n w v l) (hlen:nms.length=l.length) (hs:∀ s∈nms,s.size≤60000) (hp:∀ y∈l,PrE n y) (hz:(nmd m nms (l.map (mtk n))).length≤1000000) (hl9:l.length≤100000) :
  Calls Tryz.prog 147 #[nv,.string (mkB m),v,.func (.func 86) #[] #[]] w fun e w'=>TokP (nmd m nms (l.map (mtk n))) w e w':=by
 obtain ⟨na,nc,rfl,hn1,hn2⟩:=hn.len
 obtain ⟨la,lc,rfl,hl1,hl2⟩:=hl.len
 obtain ⟨I,hI⟩:∃ I,itm m nms (l.map (mtk n))=I:=⟨_,rfl⟩
 have hIl:I.length=nms.length:=by rw [←hI];exact itm_len _ _ _ (by simp [hlen])
 have hIg:Hid (∀ k (h1:k<nms.length) (h2:k<l.length) (h:k<I.length),I[k]=ntk (bl nms[k]) :: mk m :: mtk n l[k]):=fun k h1 h2 h=>by
  subst hI
  rw [itm_get m nms _ k h1 (by simpa using h2)]
  simp
 have hN:nmd m nms (l.map (mtk n))=btw [123] (sepT (mk [44]) I) [125]:=by rw [←hI];rfl
 rw [hN] at hz ⊢
 have hz2:Hid ((sepT (mk [44]) I).length≤1000000):=by
  show _≤_
  simp only [btw,List.length_cons,List.length_append] at hz
  omega
 obtain ⟨N,hNN⟩:∃ N,nms.length=N:=⟨_,rfl⟩
 have HN:=hide hn
 have HL:=hide hl
 have HG:=hide g
 have HS:=hide hs
 have HP:=hide hp
 have IH:=hide ih
 have HPO:=hide hP
 have hN9:N≤100000:=by omega
 have hIl2:=hide (hIl.trans hNN)
 have hlN:=hide (hlen.symm.trans hNN)
 have hnN:=hide hNN
 rw [hNN]
 rw [hlen.symm.trans hNN]
 clear hn hl g hs hp ih hP hI hN hz hIl hlen hn1 hn2 hl1 hl2 hl9
 clear hNN
 go_enter Tryz.func147, Tryz.ntmps147
 go_wp2_with fail
 go_loopw [9,10,11,14] (fun t _ _ i W=>∃ k:Nat,i=.int .i64 k∧k≤N∧Hid (OT W w.heap.size t (sepT (mk [44]) (I.take k))∧Below w.heap.size w W)) (fun _ _ _ i _=>N - (intOf i).toNat)
 case atStart=>exact ⟨0,rfl,Nat.zero_le _,by simpa [sepT] using OT.nil _ _,Below.refl _ _⟩
 case round =>
  obtain ⟨k,rfl,hk,H⟩:=hrel
  have B0:=hide H.out.2
  have O0:=hide H.out.1
  obtain ⟨ta,tc,rfl⟩:=H.out.1.shape
  have hlen0:Hid ((sepT (mk [44]) (I.take k)).length≤1000000):=by show _≤_;exact Nat.le_trans (sep_mem _ _ _) hz2.out
  clear H
  by_cases hkN:k<N
  ·have hki:(k:Int)<(N:Int):=by omega
   have hkl:k<l.length:=by rw [hlN.out];exact hkN
   have hkn:k<nms.length:=by rw [hnN.out];exact hkN
   obtain ⟨nb,no,nc9,hne,hnb,hnc1,hnc2,hcell⟩:=HN.out.at k hkn
   have hne':=Value.slice.inj hne
   obtain ⟨rfl,_,rfl⟩:=hne'
   clear hne
   have hcell2:=(World.cell?_of_block (w:=w) (a:=⟨nb,no + k,none⟩) (B0.out.block nb hnb)).trans hcell
   have hmk:Hid ((mtk n (l[k]'(hkl))).length≤1000000):=by
    have h1:=sep_get (mk [44]) I k (by rw [hIl2.out];exact hkN)
    rw [hIg.out k hkn hkl (by rw [hIl2.out];exact hkN)] at h1
    have:=hz2.out
    show _≤_
    simp only [List.length_cons] at h1
    omega
   have HNB:=hide hnb
   have HCL:=hide hcell
   clear hcell hnb hnc1 hnc2
   obtain ⟨s0,hnk⟩:∃ s0,nms[k]'(hkn)=s0:=⟨_,rfl⟩
   have hS0:=hide hnk
   rw [hnk] at hcell2
   by_cases hk0:k=0
   ·have hk1:¬ (0:Int)<(k:Int):=by omega
    have ek:sepT (mk [44]) (I.take k)=[]:=by rw [hk0];simp [sepT]
    have e0:(sepT (mk [44]) (I.take k)).length=0:=by rw [ek];rfl
    rw [ek] at O0
    have O1:Hid (OT wr w.heap.size (.slice ta 0 tc) ([]:List Tk)):=O0
    have hlenP:Hid ((([]:List Tk)++[ntk (bl s0),mk m]).length≤1000000):=by show _≤_;simp
    rw [e0]
    have HK0:=hide hk0
    clear O0 hlen0 e0 ek hk0
    have GA:=hide (HG.out.below B0.out)
    have hnt:=hide (name_any2 HPO.out nms[k] _ GA.out.gg (HS.out _ (List.getElem_mem _)))
    rw [hnk] at hnt
    go_wp2_with (go_at_call 145;refine Sto.out ?_)
    refine Sto.mk ?_
    refine hnt.out.mono ?_
    rintro e wa ⟨rfl,hba⟩
    have BA:=hide (below_then B0.out hba)
    have OA:=hide (O1.out.below hba)
    clear hba hnt
    unfold tkV
    go_wp2_with (go_at_call 144;refine Sto.out ?_)
    refine Sto.mk ?_
    refine (mark_any _ _).mono ?_
    rintro e wb ⟨rfl,hbb⟩
    have BB:=hide (below_then BA.out hbb)
    have OB:=hide ((OA.out.below hbb).below (below_al (o:=.cells #[.int .i64 (ntk (bl s0)).w,.string (mkB (ntk (bl s0)).s),.int .i64 (ntk (bl s0)).p,.int .i64 4,.string (mkB m),.int .i64 0] 110) (Below.refl _ _)))
    have NB:=hide (tk_new2 wb w.heap.size (ntk (bl s0)) (mk m) BB.out.size)
    clear hbb OA BA
    go_wp2_with (at_builtin;refine Sto.out ?_)
    refine Sto.mk ?_
    refine app_tks rfl (.tmp 25) (.tmp 30) rfl w.heap.size (.slice ta 0 tc) ([]:List Tk) rfl OB.out w.heap.size (.slice (some ⟨wb.heap.size,0,none⟩) 2 2) [ntk (bl s0),mk m] rfl NB.out (by have:=hlenP.out;simp only [List.length_append,List.length_cons,List.length_nil] at this ⊢;omega) (by simp only [World.size_alloc];have:=BB.out.size;omega) ?_
    intro va vn vc wc oc bc
    have BC:=hide ((BB.out.alloc BB.out.size _).trans bc.out)
    have OC:=hide oc.out
    clear oc bc OB NB BB
    obtain ⟨lb,lo,lc9,hle,hlb,hlc1,hlc2,q,hrg,hrd⟩:=HL.out.at k (by rw [hlN.out];exact hkN)
    have hle':=Value.slice.inj hle
    obtain ⟨rfl,_,rfl⟩:=hle'
    clear hle
    obtain ⟨b1,b2,b3,b4,b5,b6,b7,b8,b9,b10,b11,b12,hqs⟩:=hrd.shape
    subst hqs
    have q0:=range13 (rangeAt_below hrg BC.out hlb)
    have hcall:=hide (IH.out (l[k]'(hkl)) _ wc (hrd.below BC.out) (HP.out _ (List.getElem_mem _)) hmk.out (HG.out.below BC.out))
    clear hrg hrd hlb
    unfold ecl at hcall
    unfold TokP at hcall
    go_wp2_with (go_at_call 86;refine Sto.out ?_)
    refine Sto.mk ?_
    refine hcall.out.mono ?_
    rintro e wd1 ⟨v2,rfl,hO2,hb2⟩
    have BD:=hide (below_then BC.out hb2)
    have OD:=hide (OC.out.below hb2)
    have O2:=hide hO2
    clear hb2 hO2 hcall q0 OC
    go_wp2_with (at_builtin;refine Sto.out ?_)
    refine Sto.mk ?_
    refine app_tks rfl (.tmp 32) (.tmp 38) rfl w.heap.size (.slice va vn vc) (([]:List Tk)++[ntk (bl s0),mk m]) rfl OD.out wc.heap.size v2 (mtk n (l[k]'(hkl))) rfl O2.out (by have h1:=hlenP.out;have h2:=hmk.out;simp only [List.length_append,List.length_cons,List.length_nil] at h1 h2 ⊢;omega) BD.out.size ?_
    intro ua un uc we oe be
    have BE:=hide (BD.out.trans be.out)
    go_wp2_with fail
    refine ⟨⟨k + 1,by go_num,by omega,?_,BE.out⟩,by simp [intOf];omega⟩
    rw [sep_take _ I k (by rw [hIl2.out];exact hkN),if_pos HK0.out,hIg.out k (by rw [hnN.out];exact hkN) hkl (by rw [hIl2.out];exact hkN),hS0.out]
    have:=oe.out
    simpa using this
   ·have hk1:(0:Int)<(k:Int):=by omega
    obtain ⟨T0,hT0⟩:∃ T0,sepT (mk [44]) (I.take k)=T0:=⟨_,rfl⟩
    have HT0:=hide hT0
    rw [hT0] at O0 hlen0 ⊢
    have hlenP:Hid (((T0++[mk [44]])++[ntk (bl s0),mk m]).length≤1000005):=by show _≤_;have:=hlen0.out;simp only [List.length_append,List.length_cons,List.length_nil];omega
    clear hT0
    go_wp2_with (go_at_call 144;refine Sto.out ?_)
    refine Sto.mk ?_
    refine (mark_any _ _).mono ?_
    rintro e wm ⟨rfl,hbm⟩
    have BM:=hide (below_then B0.out hbm)
    have OM:=hide ((O0.out.below hbm).below (below_al (o:=.cells #[.int .i64 4,.string ⟨#[44]⟩,.int .i64 0] 110) (Below.refl _ _)))
    have NM:=hide (tk_new wm w.heap.size (mk [44]) BM.out.size)
    clear hbm O0
    go_wp2_with (at_builtin;refine Sto.out ?_)
    refine Sto.mk ?_
    refine app_tks rfl (.tmp 21) (.tmp 23) rfl w.heap.size (.slice ta T0.length tc) T0 rfl OM.out w.heap.size (.slice (some ⟨wm.heap.size,0,none⟩) 1 1) [mk [44]] rfl NM.out (by have:=hlen0.out;simp only [List.length_cons,List.length_nil];omega) (by simp only [World.size_alloc];have:=BM.out.size;omega) ?_
    intro sa sn sc ws os bs
    have BS:=hide ((BM.out.alloc BM.out.size _).trans bs.out)
    have O1:=hide os.out
    clear os bs OM NM BM B0
    have hcell3:=(World.cell?_of_block (w:=w) (a:=⟨nb,no + k,none⟩) (BS.out.block nb HNB.out)).trans HCL.out
    have GA:=hide (HG.out.below BS.out)
    have hnt:=hide (name_any2 HPO.out nms[k] _ GA.out.gg (HS.out _ (List.getElem_mem _)))
    rw [hnk] at hnt
    go_wp2_with (go_at_call 145;refine Sto.out ?_)
    refine Sto.mk ?_
    refine hnt.out.mono ?_
    rintro e wa ⟨rfl,hba⟩
    have BA:=hide (below_then BS.out hba)
    have OA:=hide (O1.out.below hba)
    clear hba hnt
    unfold tkV
    go_wp2_with (go_at_call 144;refine Sto.out ?_)
    refine Sto.mk ?_
    refine (mark_any _ _).mono ?_
    rintro e wb ⟨rfl,hbb⟩
    have BB:=hide (below_then BA.out hbb)
    have OB:=hide ((OA.out.below hbb).below (below_al (o:=.cells #[.int .i64 (ntk (bl s0)).w,.string (mkB (ntk (bl s0)).s),.int .i64 (ntk (bl s0)).p,.int .i64 4,.string (mkB m),.int .i64 0] 110) (Below.refl _ _)))
    have NB:=hide (tk_new2 wb w.heap.size (ntk (bl s0)) (mk m) BB.out.size)
    clear hbb OA BA
    go_wp2_with (at_builtin;refine Sto.out ?_)
    refine Sto.mk ?_
    refine app_tks rfl (.tmp 25) (.tmp 30) rfl w.heap.size (.slice sa sn sc) (T0++[mk [44]]) rfl OB.out w.heap.size (.slice (some ⟨wb.heap.size,0,none⟩) 2 2) [ntk (bl s0),mk m] rfl NB.out (by have:=hlenP.out;simp only [List.length_append,List.length_cons,List.length_nil] at this ⊢;omega) (by simp only [World.size_alloc];have:=BB.out.size;omega) ?_
    intro va vn vc wc oc bc
    have BC:=hide ((BB.out.alloc BB.out.size _).trans bc.out)
    have OC:=hide oc.out
    clear oc bc OB NB BB
    obtain ⟨lb,lo,lc9,hle,hlb,hlc1,hlc2,q,hrg,hrd⟩:=HL.out.at k (by rw [hlN.out];exact hkN)
    have hle':=Value.slice.inj hle
    obtain ⟨rfl,_,rfl⟩:=hle'
    clear hle
    obtain ⟨b1,b2,b3,b4,b5,b6,b7,b8,b9,b10,b11,b12,hqs⟩:=hrd.shape
    subst hqs
    have q0:=range13 (rangeAt_below hrg BC.out hlb)
    have hcall:=hide (IH.out (l[k]'(hkl)) _ wc (hrd.below BC.out) (HP.out _ (List.getElem_mem _)) hmk.out (HG.out.below BC.out))
    clear hrg hrd hlb
    unfold ecl at hcall
    unfold TokP at hcall
    go_wp2_with (go_at_call 86;refine Sto.out ?_)
    refine Sto.mk ?_
    refine hcall.out.mono ?_
    rintro e wd1 ⟨v2,rfl,hO2,hb2⟩
    have BD:=hide (below_then BC.out hb2)
    have OD:=hide (OC.out.below hb2)
    have O2:=hide hO2
    clear hb2 hO2 hcall q0 OC
    go_wp2_with (at_builtin;refine Sto.out ?_)
    refine Sto.mk ?_
    refine app_tks rfl (.tmp 32) (.tmp 38) rfl w.heap.size (.slice va vn vc) ((T0++[mk [44]])++[ntk (bl s0),mk m]) rfl OD.out wc.heap.size v2 (mtk n (l[k]'(hkl))) rfl O2.out (by have h1:=hlenP.out;have h2:=hmk.out;simp only [List.length_append,List.length_cons,List.length_nil] at h1 h2 ⊢;omega) BD.out.size ?_
    intro ua un uc we oe be
    have BE:=hide (BD.out.trans be.out)
    go_wp2_with fail
    refine ⟨⟨k + 1,by go_num,by omega,?_,BE.out⟩,by simp [intOf];omega⟩
    rw [sep_take _ I k (by rw [hIl2.out];exact hkN),if_neg hk0,hIg.out k (by rw [hnN.out];exact hkN) hkl (by rw [hIl2.out];exact hkN),hS0.out,HT0.out]
    have:=oe.out
    simpa using this
  ·have hki:¬ (k:Int)<(N:Int):=by omega
   have hkN2:k=N:=by omega
   subst hkN2
   have OF:Hid (OT wr w.heap.size (.slice ta (sepT (mk [44]) (I.take k)).length tc) (sepT (mk [44]) I)):=by
    have h:=O0.out
    have e:I.take k=I:=List.take_of_length_le (by rw [hIl2.out];exact Nat.le_refl _)
    show OT _ _ _ _
    rw [e] at h ⊢
    exact h
   have hbt:=hide (between_any [123] [125] _ _ _ wr OF.out hz2.out)
   unfold TokP at hbt
   clear OF O0
   go_wp2_with (go_at_call 109;refine Sto.out ?_)
   refine Sto.mk ?_
   refine hbt.out.mono ?_
   rintro e w9 ⟨v9,rfl,hO9,hb9⟩
   have H9:=hide hO9
   have B9:=hide (below_then B0.out hb9)
   have hz9:=B0.out.size
   clear hO9 hb9 hbt
   go_wp2_with fail
   go_ret
   exact ⟨_,rfl,H9.out.low hz9,B9.out⟩
end Lx
end Go.Proofs.YtgicnopppgnjjaaGreatDoor
namespace Go.Proofs.YtgicnopppgnjjaaGreatDoor
namespace Lx
open Go.RowKit
def stk (n:Nat) (y:ET n):List Tk:=if (ehd n y).op=12 then btw [40] (mtk n y) [41] else mtk n y
set_option maxHeartbeats 4000000 in
set_option maxRecDepth 100000 in
theorem pipeTok_any {n:Nat} (ih:ToOk n) (v:Value) (l:List (ET n)) (w:World) (g:Gs w) (hl:EL n w v l) (hp:∀ y∈l,PrE n y) (hz:(sepT (mk [59]) (l.map (stk n))).length≤1000000) (hl9:l.length≤100000) :
  Calls Tryz.prog 148 #[v] w fun e w'=>TokP (sepT (mk [59]) (l.map (stk n))) w e w':=by
 obtain ⟨la,lc,rfl,hl1,hl2⟩:=hl.len
 obtain ⟨I,hI⟩:∃ I,l.map (stk n)=I:=⟨_,rfl⟩
 have hIl:I.length=l.length:=by rw [←hI];simp
 have hIg:Hid (∀ k (h2:k<l.length) (h:k<I.length),I[k]=stk n l[k]):=fun k h2 h=>by
  subst hI
  simp
 rw [hI] at hz ⊢
 have hz2:=hide hz
 obtain ⟨N,hNN⟩:∃ N,l.length=N:=⟨_,rfl⟩
 have HL:=hide hl
 have HG:=hide g
 have HP:=hide hp
 have IH:=hide ih
 have hN9:N≤100000:=by omega
 have hIl2:=hide (hIl.trans hNN)
 have hlN:=hide hNN
 rw [hNN]
 clear hl g hp ih hI hz hIl hl1 hl2 hl9 hNN
 go_enter Tryz.func148, Tryz.ntmps148
 go_wp2_with fail
 go_loopw [3,4,5,6,9] (fun t _ _ _ i W=>∃ k:Nat,i=.int .i64 k∧k≤N∧Hid (OT W w.heap.size t (sepT (mk [59]) (I.take k))∧Below w.heap.size w W)) (fun _ _ _ _ i _=>N - (intOf i).toNat)
 case atStart=>exact ⟨0,rfl,Nat.zero_le _,by simpa [sepT] using OT.nil _ _,Below.refl _ _⟩
 case round =>
  obtain ⟨k,rfl,hk,H⟩:=hrel
  have B0:=hide H.out.2
  have O0:=hide H.out.1
  obtain ⟨ta,tc,rfl⟩:=H.out.1.shape
  have hlen0:Hid ((sepT (mk [59]) (I.take k)).length≤1000000):=by show _≤_;exact Nat.le_trans (sep_mem _ _ _) hz2.out
  clear H
  by_cases hkN:k<N
  ·have hki:(k:Int)<(N:Int):=by omega
   have hkl:k<l.length:=by rw [hlN.out];exact hkN
   have hmk:Hid ((stk n (l[k]'(hkl))).length≤1000000):=by
    have h1:=sep_get (mk [59]) I k (by rw [hIl2.out];exact hkN)
    rw [hIg.out k hkl (by rw [hIl2.out];exact hkN)] at h1
    have:=hz2.out
    show _≤_
    omega
   have hmk2:Hid ((mtk n (l[k]'(hkl))).length≤1000000):=by
    have h1:=hmk.out
    show _≤_
    unfold stk at h1
    split at h1
    ·simp only [btw,List.length_cons,List.length_append] at h1;omega
    ·exact h1
   obtain ⟨lb,lo,lc9,hle,hlb,hlc1,hlc2,q,hrg,hrd⟩:=HL.out.at k hkl
   have hle':=Value.slice.inj hle
   obtain ⟨rfl,_,rfl⟩:=hle'
   clear hle
   obtain ⟨b1,b2,b3,b4,b5,b6,b7,b8,b9,b10,b11,b12,hqs⟩:=hrd.shape
   subst hqs
   have q0:=range13 (rangeAt_below hrg B0.out hlb)
   have X0:=hide (ex_new wr (ehd n l[k]) ⟨.slice b1 b2 b3,.slice b4 b5 b6,.slice b7 b8 b9,.slice b10 b11 b12⟩)
   have hcall:=hide (fun W (hb:Below w.heap.size w W)=>IH.out (l[k]'(hkl)) _ W (hrd.below hb) (HP.out _ (List.getElem_mem _)) hmk2.out (HG.out.below hb))
   have hstk:Hid (stk n (l[k]'(hkl))=if (ehd n (l[k]'(hkl))).op=12 then btw [40] (mtk n (l[k]'(hkl))) [41] else mtk n (l[k]'(hkl))):=rfl
   have hwr:=B0.out.size
   have OW:=hide (World.ownsRow.lt O0.out)
   have O0:=hide (O0.out.below (below_al (o:=.cells (ecl (ehd n l[k]) ⟨.slice b1 b2 b3,.slice b4 b5 b6,.slice b7 b8 b9,.slice b10 b11 b12⟩) 33) (Below.refl _ _)))
   rename_i O00
   have B0':=hide (below_al (o:=.cells (ecl (ehd n l[k]) ⟨.slice b1 b2 b3,.slice b4 b5 b6,.slice b7 b8 b9,.slice b10 b11 b12⟩) 33) (Below.refl wr.heap.size wr))
   have B1:=hide (below_then B0.out B0'.out)
   clear hrg hrd hlb O00 B0'
   obtain ⟨h,hh⟩:∃ h,ehd n (l[k]'(hkl))=h:=⟨_,rfl⟩
   have HH:=hide hh
   rw [hh] at X0 q0 hcall hstk O0 B1
   unfold TokP at hcall
   unfold ecl at X0 hcall O0 B1
   dsimp only at X0 hcall O0 B1
   clear hh
   by_cases hk0:k=0
   ·have hk1:¬ (0:Int)<(k:Int):=by omega
    have ek:sepT (mk [59]) (I.take k)=[]:=by rw [hk0];simp [sepT]
    have e0:(sepT (mk [59]) (I.take k)).length=0:=by rw [ek];rfl
    rw [ek] at O0
    have O1:=O0
    have hlenP:Hid ((([]:List Tk)).length≤1000005):=by show _≤_;simp
    have HK0:=hide hk0
    rw [e0]
    rw [show ([]:List Tk).length=0 from rfl] at O1
    clear O0 hlen0 e0 ek hk0
    go_wp2_with (go_at_call 86;refine Sto.out ?_)
    refine Sto.mk ?_
    refine (hcall.out _ B1.out).mono ?_
    rintro e wd1 ⟨v2,rfl,hO2,hb2⟩
    have BD:=hide (below_then B1.out hb2)
    have OD:=hide (O1.out.below hb2)
    have XD:=hide (X0.out.below hb2)
    have O2:=hide hO2
    have x0:=XD.out.cells
    have zb:=B1.out.size
    clear hb2 hO2 hcall
    by_cases h12:h.op=12
    ·have es:Hid (stk n (l[k]'(hkl))=btw [40] (mtk n (l[k]'(hkl))) [41]):=by show _=_;rw [hstk.out,if_pos h12]
     rw [h12] at x0
     have H12:=hide h12
     have hbt:=hide (between_any [40] [41] _ _ _ wd1 O2.out hmk2.out)
     unfold TokP at hbt
     clear h12
     go_wp2_with (go_at_call 109;refine Sto.out ?_)
     refine Sto.mk ?_
     refine hbt.out.mono ?_
     rintro e wf ⟨v3,rfl,hO3,hb3⟩
     have BF:=hide (below_then BD.out hb3)
     have OF:=hide (OD.out.below hb3)
     have O3:=hide hO3
     clear hb3 hO3 hbt O2 OD x0 XD
     go_wp2_with (at_builtin;refine Sto.out ?_)
     refine Sto.mk ?_
     refine app_tks rfl (.tmp 27) (.tmp 28) rfl w.heap.size (.slice ta 0 tc) ([]:List Tk) rfl OF.out wd1.heap.size v3 (btw [40] (mtk n (l[k]'(hkl))) [41]) rfl O3.out (by have h1:=hlenP.out;have h2:=hmk.out;rw [es.out] at h2;omega) BF.out.size ?_
     intro ua un uc we oe be
     have BE:=hide (BF.out.trans be.out)
     go_wp2_with fail
     refine ⟨⟨k + 1,by go_num,by omega,?_,BE.out⟩,by simp [intOf];omega⟩
     rw [sep_take _ I k (by rw [hIl2.out];exact hkN),if_pos HK0.out,hIg.out k hkl (by rw [hIl2.out];exact hkN),es.out]
     have:=oe.out
     simpa using this
    ·have es:Hid (stk n (l[k]'(hkl))=mtk n (l[k]'(hkl))):=by show _=_;rw [hstk.out,if_neg h12]
     have b12:(h.op==12)=false:=by simp [h12]
     clear h12
     go_wp2_with (at_builtin;refine Sto.out ?_)
     refine Sto.mk ?_
     refine app_tks rfl (.tmp 27) (.tmp 28) rfl w.heap.size (.slice ta 0 tc) ([]:List Tk) rfl OD.out _ v2 (mtk n (l[k]'(hkl))) rfl O2.out (by have h1:=hlenP.out;have h2:=hmk2.out;omega) BD.out.size ?_
     intro ua un uc we oe be
     have BE:=hide (BD.out.trans be.out)
     go_wp2_with fail
     refine ⟨⟨k + 1,by go_num,by omega,?_,BE.out⟩,by simp [intOf];omega⟩
     rw [sep_take _ I k (by rw [hIl2.out];exact hkN),if_pos HK0.out,hIg.out k hkl (by rw [hIl2.out];exact hkN),es.out]
     have:=oe.out
     simpa using this
   ·have hk1:(0:Int)<(k:Int):=by omega
    obtain ⟨T0,hT0⟩:∃ T0,sepT (mk [59]) (I.take k)=T0:=⟨_,rfl⟩
    have HT0:=hide hT0
    rw [hT0] at O0 hlen0 OW ⊢
    have hlenP:Hid ((T0++[mk [59]]).length≤1000005):=by show _≤_;have:=hlen0.out;simp only [List.length_append,List.length_cons,List.length_nil];omega
    clear hT0
    go_wp2_with (go_at_call 144;refine Sto.out ?_)
    refine Sto.mk ?_
    refine (mark_any _ _).mono ?_
    rintro e wm ⟨rfl,hbm⟩
    have BM:=hide (below_then B1.out hbm)
    have XM:=hide ((X0.out.below hbm).below (below_al (o:=.cells #[.int .i64 4,.string ⟨#[59]⟩,.int .i64 0] 110) (Below.refl _ _)))
    have OM:=hide ((O0.out.below hbm).below (below_al (o:=.cells #[.int .i64 4,.string ⟨#[59]⟩,.int .i64 0] 110) (Below.refl _ _)))
    have NM:=hide (tk_new wm w.heap.size (mk [59]) BM.out.size)
    have hzm:=hbm.size
    simp only [World.size_alloc] at hzm
    clear hbm O0 X0
    go_wp2_with (at_builtin;refine Sto.out ?_)
    refine Sto.mk ?_
    refine app_tksG rfl (.tmp 16) (.tmp 18) rfl w.heap.size (.slice ta T0.length tc) T0 rfl OM.out w.heap.size (.slice (some ⟨wm.heap.size,0,none⟩) 1 1) [mk [59]] rfl NM.out (by have:=hlen0.out;simp only [List.length_cons,List.length_nil];omega) (by simp only [World.size_alloc];have:=BM.out.size;omega) ?_
    intro sa sn sc ws os bs gs
    have BS:=hide ((BM.out.alloc BM.out.size _).trans bs.out)
    have O1:=hide os.out
    have XS:Hid (Ex ws wr.heap.size h ⟨.slice b1 b2 b3,.slice b4 b5 b6,.slice b7 b8 b9,.slice b10 b11 b12⟩):=⟨(gs.out wr.heap.size (by simp only [World.size_alloc];omega) (fun e=>by have:=(OW.out _ e).2;omega)).trans XM.out.at_⟩
    have xk:=XS.out.cells
    clear os bs OM NM BM XM gs
    go_wp2_with (go_at_call 86;refine Sto.out ?_)
    refine Sto.mk ?_
    refine (hcall.out _ BS.out).mono ?_
    rintro e wd1 ⟨v2,rfl,hO2,hb2⟩
    have BD:=hide (below_then BS.out hb2)
    have OD:=hide (O1.out.below hb2)
    have XD:=hide (XS.out.below hb2)
    have O2:=hide hO2
    have x0:=XD.out.cells
    have zb:=BS.out.size
    clear hb2 hO2 hcall
    by_cases h12:h.op=12
    ·have es:Hid (stk n (l[k]'(hkl))=btw [40] (mtk n (l[k]'(hkl))) [41]):=by show _=_;rw [hstk.out,if_pos h12]
     rw [h12] at x0
     have H12:=hide h12
     have hbt:=hide (between_any [40] [41] _ _ _ wd1 O2.out hmk2.out)
     unfold TokP at hbt
     clear h12
     go_wp2_with (go_at_call 109;refine Sto.out ?_)
     refine Sto.mk ?_
     refine hbt.out.mono ?_
     rintro e wf ⟨v3,rfl,hO3,hb3⟩
     have BF:=hide (below_then BD.out hb3)
     have OF:=hide (OD.out.below hb3)
     have O3:=hide hO3
     clear hb3 hO3 hbt O2 OD x0 XD
     go_wp2_with (at_builtin;refine Sto.out ?_)
     refine Sto.mk ?_
     refine app_tks rfl (.tmp 27) (.tmp 28) rfl w.heap.size (.slice sa sn sc) (T0++[mk [59]]) rfl OF.out wd1.heap.size v3 (btw [40] (mtk n (l[k]'(hkl))) [41]) rfl O3.out (by have h1:=hlenP.out;have h2:=hmk.out;rw [es.out] at h2;omega) BF.out.size ?_
     intro ua un uc we oe be
     have BE:=hide (BF.out.trans be.out)
     go_wp2_with fail
     refine ⟨⟨k + 1,by go_num,by omega,?_,BE.out⟩,by simp [intOf];omega⟩
     rw [sep_take _ I k (by rw [hIl2.out];exact hkN),if_neg hk0,hIg.out k hkl (by rw [hIl2.out];exact hkN),es.out,HT0.out]
     have:=oe.out
     simpa using this
    ·have es:Hid (stk n (l[k]'(hkl))=mtk n (l[k]'(hkl))):=by show _=_;rw [hstk.out,if_neg h12]
     have b12:(h.op==12)=false:=by simp [h12]
     clear h12
     go_wp2_with (at_builtin;refine Sto.out ?_)
     refine Sto.mk ?_
     refine app_tks rfl (.tmp 27) (.tmp 28) rfl w.heap.size (.slice sa sn sc) (T0++[mk [59]]) rfl OD.out _ v2 (mtk n (l[k]'(hkl))) rfl O2.out (by have h1:=hlenP.out;have h2:=hmk2.out;omega) BD.out.size ?_
     intro ua un uc we oe be
     have BE:=hide (BD.out.trans be.out)
     go_wp2_with fail
     refine ⟨⟨k + 1,by go_num,by omega,?_,BE.out⟩,by simp [intOf];omega⟩
     rw [sep_take _ I k (by rw [hIl2.out];exact hkN),if_neg hk0,hIg.out k hkl (by rw [hIl2.out];exact hkN),es.out,HT0.out]
     have:=oe.out
     simpa using this
  ·have hki:¬ (k:Int)<(N:Int):=by omega
   have hkN2:k=N:=by omega
   subst hkN2
   have e:I.take k=I:=List.take_of_length_le (by rw [hIl2.out];exact Nat.le_refl _)
   rw [e] at O0 ⊢
   go_wp2_with fail
   go_ret
   exact ⟨_,rfl,O0.out,B0.out⟩
end Lx
end Go.Proofs.YtgicnopppgnjjaaGreatDoor
