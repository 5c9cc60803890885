/- Merged by program: MiRef, MjRef, JhRec. -/
import Derived.Test.YtpimjkdakjhoaaaGreatDoorZw26
namespace Go.Proofs.YtpimjkdakjhoaaaGreatDoor
open Go.RowKit
set_option linter.unusedSimpArgs false
set_option linter.unusedVariables false
set_option maxHeartbeats 8000000
set_option maxRecDepth 100000 in
theorem rtx_8 (n:Nat) (rt:RTx n) (h:Hd) (l:List (VT n)) (ns ls:Value) (w:World) (hc:Tc (n + 1) ((h,l):VT (n + 1)) ns ls w) (hk:h.kind=8) :
  Calls Tryz.prog 27 #[.agg (vals h ns ls)] w fun e w'=>TxP w (jtx (n + 1) ((h,l):VT (n + 1))) e w':=by
 obtain ⟨al,cl,rfl,hl1,hl2⟩:=hc.rd.len
 obtain ⟨an,cn,rfl,hn1,hn2⟩:=hc.rd.1.len
 have hj:jtx (n + 1) ((h,l):VT (n + 1))=[123]++(jrc n h.names l l.length++[125]):=by
  show (if h.kind=1 then _ else _)=_
  rw [if_neg (show ¬ h.kind=1 by omega),if_neg (show ¬ h.kind=2 by omega),if_neg (show ¬ h.kind=3 by omega),if_neg (show ¬ h.kind=4 by omega),if_neg (show ¬ h.kind=5 by omega),if_neg (show ¬ h.kind=6 by omega),if_neg (show ¬ h.kind=7 by omega),if_pos hk]
  rfl
 have hlen:=hc.lo
 rw [hj] at hlen ⊢
 have hl256:l.length≤256:=hc.vo.2.1.2.1
 have hjl:(jrc n h.names l l.length).length≤100000000000000:=by simp at hlen;omega
 have hnl:=hide (hc.vo.1.2.1.2.2.1 hk).1
 have hnm:=hide hc.vo.2.1.2.2.1
 have hc':=hide hc
 have hjl':=hide hjl
 have rt':=hide rt
 clear hc hlen hj hjl rt
 obtain ⟨kd,fl,ng,dg,ex,bt,tx,nm⟩:=h
 simp only at hk hn1 hn2 hl1 hl2 hnl hnm hjl'
 subst hk
 show Calls _ _ #[.agg #[.int .i64 8,.bool fl,.bool ng,.string dg,.int .i64 ex,.int .u64 bt,.string tx,.slice an nm.length cn,.slice al l.length cl]] _ _
 have T0:Hid (To w ⟨8,fl,ng,dg,ex,bt,tx,nm⟩ (.slice an nm.length cn) (.slice al l.length cl) (.slice none 0 0) [] _):=⟨Tw.new w _ _ _,own_nil _ _⟩
 simp only [vals] at T0
 obtain ⟨v0,v1,v2,v3,v4,v5,v6,v7,v8⟩:=T0.out.tw.bx.cells
 go_enter Tryz.func27, Tryz.ntmps27
 go_wp2_with fail
 clear v0 v1 v2 v3 v4 v5 v6 v7 v8
 go_loopw [5,6] (fun b i W=>∃ (k nn:Nat) (a:Option Addr) (cp:Nat) (L:List UInt8),i=.int .i64 k∧b=.slice a nn cp∧k≤l.length∧Hid (L=jrc n nm l k∧nn=L.length∧To w ⟨8,fl,ng,dg,ex,bt,tx,nm⟩ (.slice an nm.length cn) (.slice al l.length cl) (.slice a nn cp) L W)) (fun _ i _=>l.length - (intOf i).toNat)
 case atStart=>exact ⟨0,0,none,0,[],rfl,rfl,Nat.zero_le _,hide ⟨rfl,rfl,T0.out⟩⟩
 case round =>
  obtain ⟨k,nn,a,cp,L,rfl,rfl,hk,HH⟩:=hrel
  obtain ⟨hL,hn,hT⟩:=HH.out
  have TR:=hide hT
  have hL':=hide hL
  have hln':=hide hn.symm
  have zr1:w.heap.size + 1≤wr.heap.size:=hT.lt
  obtain ⟨v0,v1,v2,v3,v4,v5,v6,v7,v8⟩:=hT.tw.bx.cells
  clear HH hT hL hn T0
  by_cases hkl:k<l.length
  ·have hki:(k:Int)<(l.length:Int):=by omega
   have hsu:=hide (jrc_succ n nm l k hkl (by have q:nm.length=l.length:=hnl.out;omega))
   have hle:=(jrc_le n nm l (k:=k + 1) (m:=l.length) hkl).length_le
   rw [hsu.out,←hL'.out,List.length_append,List.length_append,List.length_append,List.length_append] at hle
   have hle':=hjl'.out
   obtain ⟨b,o,c,he,hbl,hlc,hcm2,ns',ls',hrg,hrd⟩:=hc'.out.rd.at k hkl
   have he':=Value.slice.inj he
   obtain ⟨rfl,_,rfl⟩:=he'
   clear he
   have hkn:k<nm.length:=by have q:nm.length=l.length:=hnl.out;omega
   have hkni:(k:Int)<(nm.length:Int):=by omega
   obtain ⟨bn,on,cn',hen,hbn,hln,hcn,hsn⟩:=hc'.out.rd.1.at k hkn
   have hen':=Value.slice.inj hen
   obtain ⟨rfl,_,rfl⟩:=hen'
   clear hen
   obtain ⟨t,htt⟩:∃ t,nm[k]=t:=⟨_,rfl⟩
   have hsn2:Hid (w.cell? ⟨bn,on + k,none⟩=some (.string t)):=by show _=_;rw [←htt];exact hsn
   have htz:t.size≤64:=by rw [←htt];exact hnm.out _ (List.getElem_mem hkn)
   rw [htt] at hsu hle
   have sN:Hid (∀ W,Below w.heap.size w W→W.cell? ⟨bn,on + k,none⟩=some (.string t)):=fun W hb=>(hb.cell (p:=⟨bn,on + k,none⟩) hbn).trans hsn2.out
   obtain ⟨Q,hQ⟩:∃ Q,quo (nmD k (bl t))=Q:=⟨_,rfl⟩
   rw [hQ] at hsu hle
   have hQs:(mkB Q).size=Q.length:=mkB_size Q
   clear htt hsn
   obtain ⟨a1,m1,d1,a2,m2,d2,rfl,rfl⟩:=hrd.shape
   obtain ⟨J,hJ⟩:∃ J,jtx n l[k]=J:=⟨_,rfl⟩
   rw [hJ] at hle hsu
   have hJz:J.length≤100000000000000:=by omega
   have hJs:(mkB J).size=J.length:=mkB_size J
   have tg:=hide (fun W (hb:Below w.heap.size w W)=>rt'.out l[k] _ _ W (hc'.out.kid k hkl _ _ (hrd.below hb) (by rw [hJ];exact hJz)))
   rw [hJ] at tg
   have HRG:=hide hrg
   obtain ⟨g,hg⟩:∃ g,vhd n l[k]=g:=⟨_,rfl⟩
   have hg2:vhd n ((⟨8,fl,ng,dg,ex,bt,tx,nm⟩,l):VT (n + 1)).2[k]=g:=hg
   rw [hg2] at HRG
   rw [hg] at tg
   simp only [vals] at tg
   have hLn:nn + (cmL k).length + (Q.length + (1 + J.length))≤100000000000000:=by rw [←hln'.out];simp only [List.length_singleton] at hle;omega
   clear hg hg2 hrd hrg hJ hle hle'
   by_cases hk0:k=0
   ·have hk0i:¬ (0:Int)<(k:Int):=by omega
    have dk2:((k:Int)==0)=true:=by simp;omega
    have hcm:Hid (cmL k=[]):=by show _=_;rw [hk0];rfl
    rw [hcm.out] at hLn
    simp only [List.length_nil] at hLn
    by_cases hz:t.size=0
    ·have hzi:¬ (0:Int)<(t.size:Int):=by omega
     have hnd:(k==0 && (bl t).head?==some 36)=false:=by
      have:bl t=[]:=List.eq_nil_of_length_eq_zero (by rw [bl_length];exact hz)
      rw [this];simp
     have hk0':=hide hk0
     have hz':=hide hz
     clear hk0 hz
     have hQS:quo (bl t)=Q:=by rw [←hQ];unfold nmD;rw [hnd];rfl
     clear hQ hnd
     have qu:=hide (fun W=>rquo_any t W (by omega))
     rw [hQS] at qu
     have s0:=sN.out _ TR.out.tw.be
     go_wp2_with (go_at_call 55;refine Sto.out ?_)
     refine Sto.mk ((qu.out _).mono ?_)
     rintro e w7 ⟨rfl,hb7⟩
     have T7:=hide (TR.out.then hb7)
     clear hb7 s0 v0 v1 v2 v3 v4 v5 v6 v7 v8
     go_wp2_with (at_builtin;refine Sto.out ?_)
     refine Sto.mk ?_
     refine app_st rfl (.tmp 93) (.tmp 95) rfl (w.heap.size + 1) (.slice a nn cp) L rfl T7.out.own (mkB Q) rfl (by rw [hln'.out,hQs];omega) T7.out.lt ?_
     intro av8 c8 w8 ho hb
     rw [hln'.out,hQs] at ho ⊢
     have T8a:=T7.out.on hb.out ho.out
     rw [bl_mkB] at T8a
     have h8a:(L++Q).length=nn + Q.length:=by rw [List.length_append,hln'.out]
     clear ho hb
     obtain ⟨n8,hn8⟩:∃ n8,nn + Q.length=n8:=⟨_,rfl⟩
     obtain ⟨L8,hL8⟩:∃ L8,L++Q=L8:=⟨_,rfl⟩
     rw [hn8] at T8a h8a ⊢
     rw [hL8] at T8a h8a
     have T8:=hide T8a
     have hl8:=hide h8a
     have hL8':=hide hL8
     clear T8a h8a hL8
     go_wp2_with (at_builtin;refine Sto.out ?_)
     refine Sto.mk ?_
     refine app_bs rfl (.tmp 97) (.tmp 98) rfl (w.heap.size + 1) (.slice av8 n8 c8) L8 rfl T8.out.al.own ⟨w8.heap.size,0,none⟩ 1 1 [58] rfl rfl (news_any w8 _ [58] 5 rfl) (by rw [hl8.out];omega) T8.out.al.lt (Nat.succ_pos _) ?_
     intro av9 c9 w9 ho hb
     rw [hl8.out] at ho ⊢
     have T9a:=T8.out.al.on hb.out ho.out
     have h9a:(L8++[58]).length=n8 + 1:=by rw [List.length_append,hl8.out];rfl
     clear ho hb
     obtain ⟨n9,hn9⟩:∃ n9,n8 + 1=n9:=⟨_,rfl⟩
     obtain ⟨L9,hL9⟩:∃ L9,L8++[58]=L9:=⟨_,rfl⟩
     rw [hn9] at T9a h9a ⊢
     rw [hL9] at T9a h9a
     have T9:=hide T9a
     have hl9:=hide h9a
     have hL9':=hide hL9
     clear T9a h9a hL9
     obtain ⟨v0,v1,v2,v3,v4,v5,v6,v7,v8⟩:=T9.out.tw.bx.cells
     obtain ⟨e0,e1,e2,e3,e4,e5,e6,e7,e8⟩:=range9 (rangeAt_below HRG.out T9.out.tw.be hbl)
     go_wp2_with (go_at_call 27;refine Sto.out ?_)
     refine Sto.mk ((tg.out _ T9.out.tw.be).mono ?_)
     rintro e w5 ⟨rfl,hb5⟩
     have T5:=hide (T9.out.then hb5)
     clear hb5 e0 e1 e2 e3 e4 e5 e6 e7 e8 v0 v1 v2 v3 v4 v5 v6 v7 v8
     go_wp2_with (at_builtin;refine Sto.out ?_)
     refine Sto.mk ?_
     refine app_st rfl (.tmp 100) (.tmp 106) rfl (w.heap.size + 1) (.slice av9 n9 c9) L9 rfl T5.out.own (mkB J) rfl (by rw [hl9.out,hJs];omega) T5.out.lt ?_
     intro av6 c6 w6 ho hb
     rw [hl9.out,hJs] at ho ⊢
     have T6:=hide (T5.out.on hb.out ho.out)
     clear ho hb
     obtain ⟨v0,v1,v2,v3,v4,v5,v6,v7,v8⟩:=T6.out.tw.bx.cells
     go_wp2_with fail
     refine ⟨⟨k + 1,n9 + J.length,av6,c6,L9++bl (mkB J),by go_num,rfl,hkl,hide ⟨by rw [hsu.out,hcm.out,bl_mkB,←hL9'.out,←hL8'.out,←hL'.out];simp,by rw [List.length_append,hl9.out,bl_length,hJs],T6.out⟩⟩,by simp [intOf];omega⟩
    ·have hzi:(0:Int)<(t.size:Int):=by omega
     have hz0:0<t.size:=by omega
     obtain ⟨c0,hc0⟩:∃ c0,t[0]=c0:=⟨_,rfl⟩
     have hhd:(bl t).head?=some c0:=by
      rw [List.head?_eq_getElem?,List.getElem?_eq_getElem (by rw [bl_length];exact hz0),bl_get t 0 hz0,hc0]
     by_cases h36:c0=36
     ·have hnd:(k==0 && (bl t).head?==some 36)=true:=by rw [hhd,h36,hk0];rfl
      have q36:((c0.toNat:Int)==36)=true:=by rw [h36];rfl
      have hk0':=hide hk0
      have hz':=hide hz
      clear hk0 hz hhd
      obtain ⟨S,hS⟩:∃ S,mkB (36 :: bl t)=S:=⟨_,rfl⟩
      have hSb:bl S=36 :: bl t:=by rw [←hS,bl_mkB]
      have hSz:S.size≤100:=by rw [←bl_length,hSb,List.length_cons,bl_length];omega
      have r0:=cat_run ⟨#[36]⟩ t (36 :: bl t) rfl (by rw [List.length_cons,bl_length];omega)
      rw [hS] at r0
      have hQS:quo (bl S)=Q:=by rw [←hQ,hSb];unfold nmD;rw [hnd];rfl
      clear hQ hnd hS hSb h36
      have qu:=hide (fun W=>rquo_any S W (by omega))
      rw [hQS] at qu
      have s0:=sN.out _ TR.out.tw.be
      go_wp2_with (go_at_call 55;refine Sto.out ?_)
      refine Sto.mk ((qu.out _).mono ?_)
      rintro e w7 ⟨rfl,hb7⟩
      have T7:=hide (TR.out.then hb7)
      clear hb7 s0 v0 v1 v2 v3 v4 v5 v6 v7 v8
      go_wp2_with (at_builtin;refine Sto.out ?_)
      refine Sto.mk ?_
      refine app_st rfl (.tmp 93) (.tmp 95) rfl (w.heap.size + 1) (.slice a nn cp) L rfl T7.out.own (mkB Q) rfl (by rw [hln'.out,hQs];omega) T7.out.lt ?_
      intro av8 c8 w8 ho hb
      rw [hln'.out,hQs] at ho ⊢
      have T8a:=T7.out.on hb.out ho.out
      rw [bl_mkB] at T8a
      have h8a:(L++Q).length=nn + Q.length:=by rw [List.length_append,hln'.out]
      clear ho hb
      obtain ⟨n8,hn8⟩:∃ n8,nn + Q.length=n8:=⟨_,rfl⟩
      obtain ⟨L8,hL8⟩:∃ L8,L++Q=L8:=⟨_,rfl⟩
      rw [hn8] at T8a h8a ⊢
      rw [hL8] at T8a h8a
      have T8:=hide T8a
      have hl8:=hide h8a
      have hL8':=hide hL8
      clear T8a h8a hL8
      go_wp2_with (at_builtin;refine Sto.out ?_)
      refine Sto.mk ?_
      refine app_bs rfl (.tmp 97) (.tmp 98) rfl (w.heap.size + 1) (.slice av8 n8 c8) L8 rfl T8.out.al.own ⟨w8.heap.size,0,none⟩ 1 1 [58] rfl rfl (news_any w8 _ [58] 5 rfl) (by rw [hl8.out];omega) T8.out.al.lt (Nat.succ_pos _) ?_
      intro av9 c9 w9 ho hb
      rw [hl8.out] at ho ⊢
      have T9a:=T8.out.al.on hb.out ho.out
      have h9a:(L8++[58]).length=n8 + 1:=by rw [List.length_append,hl8.out];rfl
      clear ho hb
      obtain ⟨n9,hn9⟩:∃ n9,n8 + 1=n9:=⟨_,rfl⟩
      obtain ⟨L9,hL9⟩:∃ L9,L8++[58]=L9:=⟨_,rfl⟩
      rw [hn9] at T9a h9a ⊢
      rw [hL9] at T9a h9a
      have T9:=hide T9a
      have hl9:=hide h9a
      have hL9':=hide hL9
      clear T9a h9a hL9
      obtain ⟨v0,v1,v2,v3,v4,v5,v6,v7,v8⟩:=T9.out.tw.bx.cells
      obtain ⟨e0,e1,e2,e3,e4,e5,e6,e7,e8⟩:=range9 (rangeAt_below HRG.out T9.out.tw.be hbl)
      go_wp2_with (go_at_call 27;refine Sto.out ?_)
      refine Sto.mk ((tg.out _ T9.out.tw.be).mono ?_)
      rintro e w5 ⟨rfl,hb5⟩
      have T5:=hide (T9.out.then hb5)
      clear hb5 e0 e1 e2 e3 e4 e5 e6 e7 e8 v0 v1 v2 v3 v4 v5 v6 v7 v8
      go_wp2_with (at_builtin;refine Sto.out ?_)
      refine Sto.mk ?_
      refine app_st rfl (.tmp 100) (.tmp 106) rfl (w.heap.size + 1) (.slice av9 n9 c9) L9 rfl T5.out.own (mkB J) rfl (by rw [hl9.out,hJs];omega) T5.out.lt ?_
      intro av6 c6 w6 ho hb
      rw [hl9.out,hJs] at ho ⊢
      have T6:=hide (T5.out.on hb.out ho.out)
      clear ho hb
      obtain ⟨v0,v1,v2,v3,v4,v5,v6,v7,v8⟩:=T6.out.tw.bx.cells
      go_wp2_with fail
      refine ⟨⟨k + 1,n9 + J.length,av6,c6,L9++bl (mkB J),by go_num,rfl,hkl,hide ⟨by rw [hsu.out,hcm.out,bl_mkB,←hL9'.out,←hL8'.out,←hL'.out];simp,by rw [List.length_append,hl9.out,bl_length,hJs],T6.out⟩⟩,by simp [intOf];omega⟩
     ·have hnd:(k==0 && (bl t).head?==some 36)=false:=by rw [hhd];simp [h36]
      have q36:((c0.toNat:Int)==36)=false:=u8n h36
      have hk0':=hide hk0
      have hz':=hide hz
      clear hk0 hz hhd h36
      have hQS:quo (bl t)=Q:=by rw [←hQ];unfold nmD;rw [hnd];rfl
      clear hQ hnd
      have qu:=hide (fun W=>rquo_any t W (by omega))
      rw [hQS] at qu
      have s0:=sN.out _ TR.out.tw.be
      go_wp2_with (go_at_call 55;refine Sto.out ?_)
      refine Sto.mk ((qu.out _).mono ?_)
      rintro e w7 ⟨rfl,hb7⟩
      have T7:=hide (TR.out.then hb7)
      clear hb7 s0 v0 v1 v2 v3 v4 v5 v6 v7 v8
      go_wp2_with (at_builtin;refine Sto.out ?_)
      refine Sto.mk ?_
      refine app_st rfl (.tmp 93) (.tmp 95) rfl (w.heap.size + 1) (.slice a nn cp) L rfl T7.out.own (mkB Q) rfl (by rw [hln'.out,hQs];omega) T7.out.lt ?_
      intro av8 c8 w8 ho hb
      rw [hln'.out,hQs] at ho ⊢
      have T8a:=T7.out.on hb.out ho.out
      rw [bl_mkB] at T8a
      have h8a:(L++Q).length=nn + Q.length:=by rw [List.length_append,hln'.out]
      clear ho hb
      obtain ⟨n8,hn8⟩:∃ n8,nn + Q.length=n8:=⟨_,rfl⟩
      obtain ⟨L8,hL8⟩:∃ L8,L++Q=L8:=⟨_,rfl⟩
      rw [hn8] at T8a h8a ⊢
      rw [hL8] at T8a h8a
      have T8:=hide T8a
      have hl8:=hide h8a
      have hL8':=hide hL8
      clear T8a h8a hL8
      go_wp2_with (at_builtin;refine Sto.out ?_)
      refine Sto.mk ?_
      refine app_bs rfl (.tmp 97) (.tmp 98) rfl (w.heap.size + 1) (.slice av8 n8 c8) L8 rfl T8.out.al.own ⟨w8.heap.size,0,none⟩ 1 1 [58] rfl rfl (news_any w8 _ [58] 5 rfl) (by rw [hl8.out];omega) T8.out.al.lt (Nat.succ_pos _) ?_
      intro av9 c9 w9 ho hb
      rw [hl8.out] at ho ⊢
      have T9a:=T8.out.al.on hb.out ho.out
      have h9a:(L8++[58]).length=n8 + 1:=by rw [List.length_append,hl8.out];rfl
      clear ho hb
      obtain ⟨n9,hn9⟩:∃ n9,n8 + 1=n9:=⟨_,rfl⟩
      obtain ⟨L9,hL9⟩:∃ L9,L8++[58]=L9:=⟨_,rfl⟩
      rw [hn9] at T9a h9a ⊢
      rw [hL9] at T9a h9a
      have T9:=hide T9a
      have hl9:=hide h9a
      have hL9':=hide hL9
      clear T9a h9a hL9
      obtain ⟨v0,v1,v2,v3,v4,v5,v6,v7,v8⟩:=T9.out.tw.bx.cells
      obtain ⟨e0,e1,e2,e3,e4,e5,e6,e7,e8⟩:=range9 (rangeAt_below HRG.out T9.out.tw.be hbl)
      go_wp2_with (go_at_call 27;refine Sto.out ?_)
      refine Sto.mk ((tg.out _ T9.out.tw.be).mono ?_)
      rintro e w5 ⟨rfl,hb5⟩
      have T5:=hide (T9.out.then hb5)
      clear hb5 e0 e1 e2 e3 e4 e5 e6 e7 e8 v0 v1 v2 v3 v4 v5 v6 v7 v8
      go_wp2_with (at_builtin;refine Sto.out ?_)
      refine Sto.mk ?_
      refine app_st rfl (.tmp 100) (.tmp 106) rfl (w.heap.size + 1) (.slice av9 n9 c9) L9 rfl T5.out.own (mkB J) rfl (by rw [hl9.out,hJs];omega) T5.out.lt ?_
      intro av6 c6 w6 ho hb
      rw [hl9.out,hJs] at ho ⊢
      have T6:=hide (T5.out.on hb.out ho.out)
      clear ho hb
      obtain ⟨v0,v1,v2,v3,v4,v5,v6,v7,v8⟩:=T6.out.tw.bx.cells
      go_wp2_with fail
      refine ⟨⟨k + 1,n9 + J.length,av6,c6,L9++bl (mkB J),by go_num,rfl,hkl,hide ⟨by rw [hsu.out,hcm.out,bl_mkB,←hL9'.out,←hL8'.out,←hL'.out];simp,by rw [List.length_append,hl9.out,bl_length,hJs],T6.out⟩⟩,by simp [intOf];omega⟩
   ·have hk0i:(0:Int)<(k:Int):=by omega
    have dk2:((k:Int)==0)=false:=by simp;omega
    have hcm:Hid (cmL k=[44]):=by show _=_;unfold cmL;rw [show (k==0)=false by simpa using hk0];rfl
    have hnd:(k==0 && (bl t).head?==some 36)=false:=by rw [show (k==0)=false by simpa using hk0];rfl
    have hk0':=hide hk0
    rw [hcm.out] at hLn
    simp only [List.length_singleton] at hLn
    clear hk0
    go_wp2_with (at_builtin;refine Sto.out ?_)
    refine Sto.mk ?_
    refine app_bs rfl (.tmp 68) (.tmp 69) rfl (w.heap.size + 1) (.slice a nn cp) L rfl TR.out.al.own ⟨wr.heap.size,0,none⟩ 1 1 [44] rfl rfl (news_any wr _ [44] 5 rfl) (by rw [hln'.out];omega) (by simp;omega) (by omega) ?_
    intro av c4 w4 ho hb
    rw [hln'.out] at ho ⊢
    have T4:=hide (TR.out.al.on hb.out ho.out)
    have hl4:Hid ((L++[44]).length=nn + 1):=by show _=_;rw [List.length_append,hln'.out];rfl
    clear ho hb v0 v1 v2 v3 v4 v5 v6 v7 v8
    obtain ⟨v0,v1,v2,v3,v4,v5,v6,v7,v8⟩:=T4.out.tw.bx.cells
    have hQS:quo (bl t)=Q:=by rw [←hQ];unfold nmD;rw [hnd];rfl
    clear hQ hnd
    have qu:=hide (fun W=>rquo_any t W (by omega))
    rw [hQS] at qu
    have s0:=sN.out _ T4.out.tw.be
    go_wp2_with (go_at_call 55;refine Sto.out ?_)
    refine Sto.mk ((qu.out _).mono ?_)
    rintro e w7 ⟨rfl,hb7⟩
    have T7:=hide (T4.out.then hb7)
    clear hb7 s0 v0 v1 v2 v3 v4 v5 v6 v7 v8
    go_wp2_with (at_builtin;refine Sto.out ?_)
    refine Sto.mk ?_
    refine app_st rfl (.tmp 93) (.tmp 95) rfl (w.heap.size + 1) (.slice av (nn + 1) c4) (L++[44]) rfl T7.out.own (mkB Q) rfl (by rw [hl4.out,hQs];omega) T7.out.lt ?_
    intro av8 c8 w8 ho hb
    rw [hl4.out,hQs] at ho ⊢
    have T8a:=T7.out.on hb.out ho.out
    rw [bl_mkB] at T8a
    have h8a:((L++[44])++Q).length=(nn + 1) + Q.length:=by rw [List.length_append,hl4.out]
    clear ho hb
    obtain ⟨n8,hn8⟩:∃ n8,(nn + 1) + Q.length=n8:=⟨_,rfl⟩
    obtain ⟨L8,hL8⟩:∃ L8,(L++[44])++Q=L8:=⟨_,rfl⟩
    rw [hn8] at T8a h8a ⊢
    rw [hL8] at T8a h8a
    have T8:=hide T8a
    have hl8:=hide h8a
    have hL8':=hide hL8
    clear T8a h8a hL8
    go_wp2_with (at_builtin;refine Sto.out ?_)
    refine Sto.mk ?_
    refine app_bs rfl (.tmp 97) (.tmp 98) rfl (w.heap.size + 1) (.slice av8 n8 c8) L8 rfl T8.out.al.own ⟨w8.heap.size,0,none⟩ 1 1 [58] rfl rfl (news_any w8 _ [58] 5 rfl) (by rw [hl8.out];omega) T8.out.al.lt (Nat.succ_pos _) ?_
    intro av9 c9 w9 ho hb
    rw [hl8.out] at ho ⊢
    have T9a:=T8.out.al.on hb.out ho.out
    have h9a:(L8++[58]).length=n8 + 1:=by rw [List.length_append,hl8.out];rfl
    clear ho hb
    obtain ⟨n9,hn9⟩:∃ n9,n8 + 1=n9:=⟨_,rfl⟩
    obtain ⟨L9,hL9⟩:∃ L9,L8++[58]=L9:=⟨_,rfl⟩
    rw [hn9] at T9a h9a ⊢
    rw [hL9] at T9a h9a
    have T9:=hide T9a
    have hl9:=hide h9a
    have hL9':=hide hL9
    clear T9a h9a hL9
    obtain ⟨v0,v1,v2,v3,v4,v5,v6,v7,v8⟩:=T9.out.tw.bx.cells
    obtain ⟨e0,e1,e2,e3,e4,e5,e6,e7,e8⟩:=range9 (rangeAt_below HRG.out T9.out.tw.be hbl)
    go_wp2_with (go_at_call 27;refine Sto.out ?_)
    refine Sto.mk ((tg.out _ T9.out.tw.be).mono ?_)
    rintro e w5 ⟨rfl,hb5⟩
    have T5:=hide (T9.out.then hb5)
    clear hb5 e0 e1 e2 e3 e4 e5 e6 e7 e8 v0 v1 v2 v3 v4 v5 v6 v7 v8
    go_wp2_with (at_builtin;refine Sto.out ?_)
    refine Sto.mk ?_
    refine app_st rfl (.tmp 100) (.tmp 106) rfl (w.heap.size + 1) (.slice av9 n9 c9) L9 rfl T5.out.own (mkB J) rfl (by rw [hl9.out,hJs];omega) T5.out.lt ?_
    intro av6 c6 w6 ho hb
    rw [hl9.out,hJs] at ho ⊢
    have T6:=hide (T5.out.on hb.out ho.out)
    clear ho hb
    obtain ⟨v0,v1,v2,v3,v4,v5,v6,v7,v8⟩:=T6.out.tw.bx.cells
    go_wp2_with fail
    refine ⟨⟨k + 1,n9 + J.length,av6,c6,L9++bl (mkB J),by go_num,rfl,hkl,hide ⟨by rw [hsu.out,hcm.out,bl_mkB,←hL9'.out,←hL8'.out,←hL'.out];simp,by rw [List.length_append,hl9.out,bl_length,hJs],T6.out⟩⟩,by simp [intOf];omega⟩
  ·have hki:¬ (k:Int)<(l.length:Int):=by omega
   have hke:k=l.length:=by omega
   have hcv:=own_conv TR.out.own
   have hLl:L.length≤100000000000000:=by rw [hL'.out,hke];exact hjl'.out
   rw [hke] at hL'
   obtain ⟨q1,f1⟩:∃ q1,123 :: L=q1:=⟨_,rfl⟩
   obtain ⟨q2,f2⟩:∃ q2,q1++[125]=q2:=⟨_,rfl⟩
   have l1:q1.length=L.length + 1:=by rw [←f1];simp
   have l2:q2.length=q1.length + 1:=by rw [←f2];simp
   have r1:=cat_run ⟨#[123]⟩ (mkB L) q1 (by rw [bl_mkB,←f1];rfl) (by omega)
   have r2:=cat_run (mkB q1) ⟨#[125]⟩ q2 (by rw [bl_mkB,←f2];rfl) (by omega)
   have hfin:Hid (123 :: (jrc n nm l l.length++[125])=q2):=by show _=_;rw [←hL'.out,←f2,←f1];rfl
   clear f1 f2 l1 l2 hke hkl
   go_wp2_with fail
   go_ret
   refine ⟨?_,TR.out.tw.be⟩
   show _=Ending.returned (.string (mkB (123 :: (jrc n nm l l.length++[125]))))
   rw [hfin.out]
   rfl
theorem rtxt:∀ n,RTx n
 | 0=>fun x=>Empty.elim x
 | n + 1=>fun x ns ls w hc=>by
  have rt:=rtxt n
  obtain ⟨h,l⟩:=x
  have k1:1≤h.kind:=hc.vo.1.1.1
  have k9:h.kind≤9:=hc.vo.1.1.2.1
  by_cases q1:h.kind=1
  ·exact rtx_1 n h l ns ls w hc q1
  by_cases q2:h.kind=2
  ·exact rtx_2 n h l ns ls w hc q2
  by_cases q3:h.kind=3
  ·exact rtx_3 n h l ns ls w hc q3
  by_cases q4:h.kind=4
  ·exact rtx_4 n h l ns ls w hc q4
  by_cases q5:h.kind=5
  ·exact rtx_5 n h l ns ls w hc q5
  by_cases q6:h.kind=6
  ·exact rtx_6 n h l ns ls w hc q6
  by_cases q7:h.kind=7
  ·exact rtx_7 n rt h l ns ls w hc q7
  by_cases q8:h.kind=8
  ·exact rtx_8 n rt h l ns ls w hc q8
  exact rtx_9 n rt h l ns ls w hc (by omega)
theorem print_len (n:Bool) (s:ByteArray) (x:Int) (h:isN n s x=true):(printL n (bl s) x).length≤512:=by
 obtain ⟨_,h1,h40,hx1,hx2,_⟩:=isN_all h
 have hs:(sgnB n).length≤1:=by cases n <;> simp [sgnB]
 have hil:=Lib.itoa_length_le (x + s.size - 1) (by omega) (by omega)
 unfold printL
 rw [List.length_append,bl_length]
 split
 ·rw [List.length_append,List.length_replicate,bl_length];omega
 ·split
  ·have:(pointed (bl s) (-x).toNat).length≤200:=by
    unfold pointed
    split <;> simp [bl_length] <;> omega
   omega
  ·have:(powered (bl s) (Lib.itoa (x + s.size - 1))).length≤200:=by
    unfold powered
    split <;> simp [bl_length] <;> omega
   omega
theorem cmL_len (k:Nat):(cmL k).length≤1:=by unfold cmL;cases (k==0) <;> simp
theorem nmD_len (k:Nat) (s:List UInt8):(nmD k s).length≤s.length + 1:=by unfold nmD;cases (k==0 && s.head?==some 36) <;> simp
theorem jel_len (n:Nat) (l:List (VT n)) (C:Nat) (hC:∀ y∈l,(jtx n y).length≤C * siz n y):∀ k,k≤l.length→(jel n l k).length≤C * suml ((l.take k).map (siz n)) + k
 | 0,_=>by simp [jel]
 | k + 1,hk=>by
  have ih:=jel_len n l C hC k (by omega)
  have hk':k<l.length:=hk
  have h1:=hC _ (List.getElem_mem hk')
  have h2:=cmL_len k
  rw [jel_succ n l k hk',List.take_succ_eq_append_getElem hk',List.map_append,suml_app,List.length_append,List.length_append,Nat.mul_add]
  simp only [List.map_cons,List.map_nil,suml,Nat.add_zero]
  omega
theorem jrc_len (n:Nat) (ns:List ByteArray) (l:List (VT n)) (C:Nat) (hn:ns.length=l.length) (hz:∀ s∈ns,s.size≤64) (hC:∀ y∈l,(jtx n y).length≤C * siz n y):∀ k,k≤l.length→(jrc n ns l k).length≤C * suml ((l.take k).map (siz n)) + 400 * k
 | 0,_=>by simp [jrc]
 | k + 1,hk=>by
  have ih:=jrc_len n ns l C hn hz hC k (by omega)
  have hk':k<l.length:=hk
  have hk2:k<ns.length:=by omega
  have h1:=hC _ (List.getElem_mem hk')
  have h2:=cmL_len k
  have h3:=quo_len (nmD k (bl ns[k]))
  have h4:=nmD_len k (bl ns[k])
  have h5:=hz _ (List.getElem_mem hk2)
  rw [bl_length] at h4
  rw [jrc_succ n ns l k hk' hk2,List.take_succ_eq_append_getElem hk',List.map_append,suml_app,List.length_append,List.length_append,List.length_append,List.length_append,Nat.mul_add]
  simp only [List.map_cons,List.map_nil,suml,Nat.add_zero,List.length_singleton]
  omega
theorem bl_head (s:ByteArray) (h:0<s.size):(bl s).head?=some s[0]:=by
 rw [List.head?_eq_getElem?,List.getElem?_eq_getElem (by rw [bl_length];exact h),bl_get s 0 h]
set_option maxRecDepth 100000 in
theorem hasp_1 (s:ByteArray) (w:World) (hs:s.size≤281474976710656) :
  Calls Tryz.prog 113 #[.string s,.string ⟨#[36]⟩] w fun e w'=>e=.returned (.bool ((bl s).head?==some 36))∧w'=w:=by
 by_cases h0:0<s.size
 ·have hx:=byte_str s 0 h0
  have hh:=hide (bl_head s h0)
  obtain ⟨c,hc⟩:∃ c,s[0]=c:=⟨_,rfl⟩
  rw [hc] at hx hh
  obtain ⟨S1,hS1⟩:∃ S1,mkB [c]=S1:=⟨_,rfl⟩
  rw [hS1] at hx
  have hT:S1.toList=[c]:=by rw [←hS1,ByteArray.toList_eq];rfl
  have h1:(1:Int)≤(s.size:Int):=by omega
  have hx2:s.extract 0 1=S1:=hx
  clear hS1 hc hx
  go_enter Tryz.func113, Tryz.ntmps113
  go_wp2_with fail
  go_ret
  refine ⟨?_,rfl⟩
  rw [hh.out]
  first|rfl|simp
 ·have hz:s.size=0:=by omega
  have hs0:s=⟨#[]⟩:=by
   obtain ⟨d⟩:=s
   have:d.size=0:=hz
   rw [Array.eq_empty_of_size_eq_zero this]
  subst hs0
  go_enter Tryz.func113, Tryz.ntmps113
  go_wp2_with fail
  go_ret
  exact ⟨rfl,rfl⟩
theorem hasp_any (s:ByteArray) (w:World) (hs:s.size≤281474976710656) :
  Calls Tryz.prog 77 #[.string s,.string ⟨#[36]⟩] w fun e w'=>e=.returned (.bool ((bl s).head?==some 36))∧w'=w:=by
 obtain ⟨q,hq⟩:∃ q,((bl s).head?==some 36)=q:=⟨_,rfl⟩
 have h1:=hide (hasp_1 s w hs)
 rw [hq] at h1 ⊢
 clear hq
 go_enter Tryz.func77, Tryz.ntmps77
 go_wp2_with (go_at_call 113;refine Sto.out ?_)
 refine Sto.mk (h1.out.mono ?_)
 rintro e w1 ⟨rfl,rfl⟩
 go_wp2_with fail
 go_ret
 exact ⟨rfl,rfl⟩
end Go.Proofs.YtpimjkdakjhoaaaGreatDoor
