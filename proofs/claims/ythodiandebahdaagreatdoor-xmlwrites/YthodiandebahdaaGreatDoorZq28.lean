/- Merged by program: LsRec. -/
import Derived.Test.YthodiandebahdaaGreatDoorZq27
namespace Go.Proofs.YthodiandebahdaaGreatDoor
open Go.RowKit
set_option linter.unusedSimpArgs false
set_option linter.unusedVariables false
set_option maxHeartbeats 8000000
set_option maxRecDepth 100000 in
theorem rxe_8 (n:Nat)(rt:RXe n)(h:Hd)(l:List (VT n))(ns ls:Value)(w:World)(hc:Tcx (n+1) ((h,l):VT (n+1)) ns ls w)(hk:h.kind=8) :
  Calls Tryz.prog 27 #[.agg (vals h ns ls)] w fun e w'=>TxP w (xtx (n+1) ((h,l):VT (n+1))) e w':=by
 obtain ⟨al,cl,rfl,hl1,hl2⟩:=hc.rd.len
 obtain ⟨an,cn,rfl,hn1,hn2⟩:=hc.rd.1.len
 have hj:xtx (n+1) ((h,l):VT (n+1))=mRec++(xrc n h.names l l.length++mRecE):=by
  show (if h.kind=1 then _ else _)=_
  rw [if_neg (show ¬ h.kind=1 by omega),if_neg (show ¬ h.kind=2 by omega),if_neg (show ¬ h.kind=3 by omega),if_neg (show ¬ h.kind=4 by omega),if_neg (show ¬ h.kind=5 by omega),if_neg (show ¬ h.kind=6 by omega),if_neg (show ¬ h.kind=7 by omega),if_pos hk]
  rfl
 have hlen:=hc.lo
 rw [hj] at hlen ⊢
 have hl256:l.length≤256:=hc.vo.2.1.2.1
 have hnl:h.names.length=l.length:=(hc.vo.1.2.1.2.2.1 hk).1
 have hz:∀ s∈h.names,s.size≤64:=hc.vo.2.1.2.2.1
 have hjl:(xrc n h.names l l.length).length≤100000000000000:=by rw [List.length_append,List.length_append] at hlen;omega
 have hc':=hide hc
 have hjl':=hide hjl
 have rt':=hide rt
 have hz':=hide hz
 have hnl':=hide hnl
 clear hc hlen hj hjl rt hz hnl
 obtain ⟨kd,fl,ng,dg,ex,bt,tx,nm⟩:=h
 simp only at hk hn1 hn2 hl1 hl2 hz' hnl'
 subst hk
 show Calls _ _ #[.agg #[.int .i64 8,.bool fl,.bool ng,.string dg,.int .i64 ex,.int .u64 bt,.string tx,.slice an nm.length cn,.slice al l.length cl]] _ _
 obtain ⟨N,hN⟩:∃ N,nm.length=N:=⟨_,rfl⟩
 rw [hN]
 have hNl:Hid (N=l.length):=by show _=_;rw [←hN];exact hnl'.out
 have HN:=hide hN
 have T0:Hid (To w ⟨8,fl,ng,dg,ex,bt,tx,nm⟩ (.slice an N cn) (.slice al l.length cl) (.slice none 0 0) [] _):=⟨Tw.new w _ _ _,own_nil _ _⟩
 simp only [vals] at T0
 obtain ⟨v0,v1,v2,v3,v4,v5,v6,v7,v8⟩:=T0.out.tw.bx.cells
 clear hN hn1
 go_enter Tryz.func27, Tryz.ntmps27
 go_wp2_with fail
 clear v0 v1 v2 v3 v4 v5 v6 v7 v8
 go_loopw [7,8,9] (fun b i _ W=>∃ (k nn:Nat) (a:Option Addr) (cp:Nat) (L:List UInt8),i=.int .i64 k∧b=.slice a nn cp∧k≤l.length∧Hid (L=xrc n nm l k∧nn=L.length∧To w ⟨8,fl,ng,dg,ex,bt,tx,nm⟩ (.slice an N cn) (.slice al l.length cl) (.slice a nn cp) L W)) (fun _ i _ _=>l.length - (intOf i).toNat)
 case atStart=>exact ⟨0,0,none,0,[],rfl,rfl,Nat.zero_le _,hide ⟨rfl,rfl,T0.out⟩⟩
 case round =>
  obtain ⟨k,nn,a,cp,L,rfl,rfl,hk,HH⟩:=hrel
  obtain ⟨hL,hn,hT⟩:=HH.out
  have TR:=hide hT
  have hL':=hide hL
  have hln':=hide hn.symm
  have zr1:w.heap.size+1≤wr.heap.size:=hT.lt
  obtain ⟨v0,v1,v2,v3,v4,v5,v6,v7,v8⟩:=hT.tw.bx.cells
  clear HH hT hL hn T0
  by_cases hkl:k<l.length
  ·have hki:(k:Int)<(l.length:Int):=by omega
   have hkN:k<N:=by have:=hNl.out;omega
   have hkNi:(k:Int)<(N:Int):=by omega
   have hkn:k<nm.length:=by rw [HN.out];exact hkN
   have hsu:=hide (xrc_succ n nm l k hkl hkn)
   have hle:=(xrc_le n nm l (k:=k+1) (m:=l.length) hkl).length_le
   rw [hsu.out,←hL'.out,List.length_append] at hle
   have hle':=hjl'.out
   obtain ⟨b,o,c,he,hbl,hlc,hcm2,ns',ls',hrg,hrd⟩:=hc'.out.rd.at k hkl
   have he':=Value.slice.inj he
   obtain ⟨rfl,_,rfl⟩:=he'
   clear he
   obtain ⟨bN,oN,cN,heN,hblN,hlcN,hcmN,hcellN⟩:=hc'.out.rd.1.at k hkn
   have heN':=Value.slice.inj heN
   obtain ⟨rfl,_,rfl⟩:=heN'
   clear heN
   obtain ⟨a1,m1,d1,a2,m2,d2,rfl,rfl⟩:=hrd.shape
   obtain ⟨J,hJ⟩:∃ J,xtx n l[k]=J:=⟨_,rfl⟩
   rw [hJ] at hle hsu
   have hn64:=hz'.out nm[k] (List.getElem_mem hkn)
   obtain ⟨s,hs⟩:∃ s,nm[k]=s:=⟨_,rfl⟩
   have hs2:((⟨8,fl,ng,dg,ex,bt,tx,nm⟩,l):VT (n+1)).1.names[k]=s:=hs
   rw [hs] at hle hsu hn64
   rw [hs2] at hcellN
   simp only [List.length_append] at hle
   have hJz:J.length≤100000000000000:=by omega
   have tg:=hide (fun W (hb:Below w.heap.size w W)=>rt'.out l[k] _ _ W (hc'.out.kid k hkl _ _ (hrd.below hb) (by rw [hJ];exact hJz)))
   rw [hJ] at tg
   have HRG:=hide hrg
   have HCN:=hide hcellN
   obtain ⟨g,hg⟩:∃ g,vhd n l[k]=g:=⟨_,rfl⟩
   have hg2:vhd n ((⟨8,fl,ng,dg,ex,bt,tx,nm⟩,l):VT (n+1)).2[k]=g:=hg
   rw [hg2] at HRG
   rw [hg] at tg
   simp only [vals] at tg
   have qu:=hide (fun W=>fchars_any s W (by omega))
   have qt:=hide (fun W=>fquote_any W)
   have hql:=xeL_le (bl s)
   rw [bl_length] at hql
   obtain ⟨q,hq⟩:∃ q,xeL (bl s)=q:=⟨_,rfl⟩
   rw [hq] at qu hql hsu hle
   obtain ⟨q0,f0⟩:∃ q0:List UInt8,[60,102,105,101,108,100,32,110,97,109,101,61]++[34]=q0:=⟨_,rfl⟩
   obtain ⟨q1,f1⟩:∃ q1:List UInt8,q0++q=q1:=⟨_,rfl⟩
   obtain ⟨q2,f2⟩:∃ q2:List UInt8,q1++[34]=q2:=⟨_,rfl⟩
   obtain ⟨q3,f3⟩:∃ q3:List UInt8,q2++[62]=q3:=⟨_,rfl⟩
   obtain ⟨q4,f4⟩:∃ q4:List UInt8,q3++J=q4:=⟨_,rfl⟩
   obtain ⟨q5,f5⟩:∃ q5:List UInt8,q4++[60,47,102,105,101,108,100,62]=q5:=⟨_,rfl⟩
   have l0:q0.length=13:=by rw [←f0];rfl
   have l1:q1.length=q0.length+q.length:=by rw [←f1];simp
   have l2:q2.length=q1.length+1:=by rw [←f2];simp
   have l3:q3.length=q2.length+1:=by rw [←f3];simp
   have l4:q4.length=q3.length+J.length:=by rw [←f4];simp
   have l5:q5.length=q4.length+8:=by rw [←f5];simp
   have hfin:mField++(q++(mNameE++(J++mFieldE)))=q5:=by
    rw [←f5,←f4,←f3,←f2,←f1,←f0]
    simp [mField,mNameE,mFieldE]
   rw [hfin] at hsu
   have lM:mField.length=13:=rfl
   have lN:mNameE.length=2:=rfl
   have lF:mFieldE.length=8:=rfl
   rw [lM,lN,lF] at hle
   have hQl:nn+q5.length≤100000000000000:=by rw [←hln'.out];omega
   have r0:=cat_run ⟨#[60,102,105,101,108,100,32,110,97,109,101,61]⟩ ⟨#[34]⟩ q0 (by rw [←f0];rfl) (by omega)
   have r1:=cat_run (mkB q0) (mkB q) q1 (by rw [bl_mkB,bl_mkB,←f1]) (by omega)
   have r2:=cat_run (mkB q1) ⟨#[34]⟩ q2 (by rw [bl_mkB,←f2];rfl) (by omega)
   have r3:=cat_run (mkB q2) ⟨#[62]⟩ q3 (by rw [bl_mkB,←f3];rfl) (by omega)
   have r4:=cat_run (mkB q3) (mkB J) q4 (by rw [bl_mkB,bl_mkB,←f4]) (by omega)
   have r5:=cat_run (mkB q4) ⟨#[60,47,102,105,101,108,100,62]⟩ q5 (by rw [bl_mkB,←f5];rfl) (by omega)
   have hJs:(mkB q5).size=q5.length:=mkB_size q5
   obtain ⟨Z5,hZ5⟩:∃ Z,mkB q5=Z:=⟨_,rfl⟩
   obtain ⟨Z4,hZ4⟩:∃ Z,mkB q4=Z:=⟨_,rfl⟩
   obtain ⟨Z3,hZ3⟩:∃ Z,mkB q3=Z:=⟨_,rfl⟩
   obtain ⟨Z2,hZ2⟩:∃ Z,mkB q2=Z:=⟨_,rfl⟩
   obtain ⟨Z1,hZ1⟩:∃ Z,mkB q1=Z:=⟨_,rfl⟩
   obtain ⟨Z0,hZ0⟩:∃ Z,mkB q0=Z:=⟨_,rfl⟩
   obtain ⟨ZJ,hZJ⟩:∃ Z,mkB J=Z:=⟨_,rfl⟩
   obtain ⟨Zq,hZq⟩:∃ Z,mkB q=Z:=⟨_,rfl⟩
   have hZb:Hid (bl Z5=q5):=by show _=_;rw [←hZ5,bl_mkB]
   rw [hZ5] at r5 hJs
   rw [hZ4] at r4 r5
   rw [hZ3] at r3 r4
   rw [hZ2] at r2 r3
   rw [hZ1] at r1 r2
   rw [hZ0] at r0 r1
   rw [hZq] at r1 qu
   have tg2:Hid (∀ W,Below w.heap.size w W→Calls Tryz.prog 27 #[.agg #[.int .i64 g.kind,.bool g.flag,.bool g.neg,.string g.dig,.int .i64 g.exp,.int .u64 g.bits,.string g.text,.slice a1 m1 d1,.slice a2 m2 d2]] W fun e w'=>e=.returned (.string ZJ)∧Below W.heap.size W w'):=fun W hb=>(tg.out W hb).mono fun e w' hp=>by rw [←hZJ];exact hp
   rw [hZJ] at r4
   have mkS:Hid (∀ W v L,To w ⟨8,fl,ng,dg,ex,bt,tx,nm⟩ (.slice (some ⟨bN,oN,none⟩) N cn) (.slice (some ⟨b,o,none⟩) l.length cl) v L W→(fun w'=>w'.cell? ⟨w.heap.size,7,none⟩=some (.slice (some ⟨bN,oN,none⟩) N cn)∧w'.cell? ⟨bN,oN+k,none⟩=some (.string s)) W):=by
    intro W v L t
    obtain ⟨v0,v1,v2,v3,v4,v5,v6,v7,v8⟩:=t.tw.bx.cells
    exact ⟨v7,(World.cell?_of_block (w:=w) (t.tw.be.block bN hblN)).trans HCN.out⟩
   have hQl':=hide hQl
   clear hZ0 hZ1 hZ2 hZ3 hZ4 hZ5 hZJ hZq hfin l0 l1 l2 l3 l4 l5 f0 f1 f2 f3 f4 f5 hq hql hg hg2 hrd hrg hJ hle hle' hcellN hs hs2 tg lM lN lF hJz hQl hn64
   obtain ⟨e0,e1,e2,e3,e4,e5,e6,e7,e8⟩:=range9 (rangeAt_below HRG.out TR.out.tw.be hbl)
   go_wp2_with (go_at_call 27;refine Sto.out ?_)
   refine Sto.mk ((tg2.out _ TR.out.tw.be).mono ?_)
   rintro e w5 ⟨rfl,hb5⟩
   have T5:=hide (TR.out.then hb5)
   clear hb5 e0 e1 e2 e3 e4 e5 e6 e7 e8 v0 v1 v2 v3 v4 v5 v6 v7 v8
   obtain ⟨v0,v1,v2,v3,v4,v5,v6,v7,v8⟩:=T5.out.tw.bx.cells
   go_wp2_with fail
   clear v0 v1 v2 v3 v4 v5 v6 v7 v8
   go_region_held3 (fun w'=>w'.cell? ⟨w.heap.size,7,none⟩=some (.slice (some ⟨bN,oN,none⟩) N cn)∧w'.cell? ⟨bN,oN+k,none⟩=some (.string s)) (first|exact mkS.out _ (.slice a nn cp) L (by repeat (first|(with_reducible exact Hid.out (by assumption))|(with_reducible refine To.drew ?_)|(with_reducible refine To.dr ?_)|(with_reducible refine To.al ?_)))) (first
    | (go_at_call 54;refine (qt.out _).mono ?_;rintro e w6 ⟨rfl,hb6⟩;have T6:Hid (To w ⟨8,fl,ng,dg,ex,bt,tx,nm⟩ (.slice (some ⟨bN,oN,none⟩) N cn) (.slice (some ⟨b,o,none⟩) l.length cl) (.slice a nn cp) L w6):=To.then (by repeat (first|(with_reducible exact Hid.out (by assumption))|(with_reducible refine To.drew ?_)|(with_reducible refine To.dr ?_)|(with_reducible refine To.al ?_))) hb6;clear hb6)
    | (go_at_call 53;refine (qu.out _).mono ?_;rintro e w7 ⟨rfl,hb7⟩;have T7:Hid (To w ⟨8,fl,ng,dg,ex,bt,tx,nm⟩ (.slice (some ⟨bN,oN,none⟩) N cn) (.slice (some ⟨b,o,none⟩) l.length cl) (.slice a nn cp) L w7):=To.then (by repeat (first|(with_reducible exact Hid.out (by assumption))|(with_reducible refine To.drew ?_)|(with_reducible refine To.dr ?_)|(with_reducible refine To.al ?_))) hb7;clear hb7))
   all_goals
    go_wp2_with (at_builtin;refine Sto.out ?_)
    refine Sto.mk ?_
    refine app_st rfl (.tmp 120) (.tmp 121) rfl (w.heap.size+1) (.slice a nn cp) L rfl (To.own (by repeat (first|(with_reducible exact Hid.out (by assumption))|(with_reducible refine To.drew ?_)|(with_reducible refine To.dr ?_)|(with_reducible refine To.al ?_)))) Z5 rfl (by rw [hln'.out,hJs];have:=hQl'.out;omega) (To.lt (by repeat (first|(with_reducible exact Hid.out (by assumption))|(with_reducible refine To.drew ?_)|(with_reducible refine To.dr ?_)|(with_reducible refine To.al ?_)))) ?_
    intro av6 c6 w9 ho hb
    rw [hln'.out,hJs] at ho ⊢
    have T9:Hid (To w ⟨8,fl,ng,dg,ex,bt,tx,nm⟩ (.slice (some ⟨bN,oN,none⟩) N cn) (.slice (some ⟨b,o,none⟩) l.length cl) (.slice av6 (nn+q5.length) c6) (L++bl Z5) w9):=To.on (by repeat (first|(with_reducible exact Hid.out (by assumption))|(with_reducible refine To.drew ?_)|(with_reducible refine To.dr ?_)|(with_reducible refine To.al ?_))) hb.out ho.out
    clear ho hb
    go_wp2_with fail
    refine ⟨⟨k+1,nn+q5.length,av6,c6,L++bl Z5,by go_num,rfl,hkl,hide ⟨by rw [hsu.out,hZb.out,←hL'.out],by rw [List.length_append,hln'.out,hZb.out],T9.out⟩⟩,by simp [intOf];omega⟩
  ·have hki:¬ (k:Int)<(l.length:Int):=by omega
   have hke:k=l.length:=by omega
   have hcv:=own_conv TR.out.own
   have hLl:L.length≤100000000000000:=by rw [hL'.out,hke];exact hjl'.out
   rw [hke] at hL'
   obtain ⟨Z1,hZ1⟩:∃ Z1,mkB (mRec++L)=Z1:=⟨_,rfl⟩
   obtain ⟨Z2,hZ2⟩:∃ Z2,mkB (mRec++(L++mRecE))=Z2:=⟨_,rfl⟩
   have r1:∀ w,(Op.stringOp .add ⟨#[60,114,101,99,111,114,100,62]⟩ (mkB L)).run Tryz.prog w=.ok (.string Z1) w:=by
    rw [←hZ1]
    exact cat_run _ _ (mRec++L) (by rw [bl_mkB];rfl) (by rw [List.length_append];show 8+_≤_;omega)
   have r2:∀ w,(Op.stringOp .add Z1 ⟨#[60,47,114,101,99,111,114,100,62]⟩).run Tryz.prog w=.ok (.string Z2) w:=by
    rw [←hZ1,←hZ2]
    exact cat_run _ _ _ (by rw [bl_mkB,List.append_assoc];rfl) (by rw [List.length_append,List.length_append];show 8+(_+9)≤_;omega)
   have HZ:=hide hZ2
   clear hZ1 hZ2 hke hkl
   go_wp2_with fail
   go_ret
   refine ⟨?_,TR.out.tw.be⟩
   show _=Ending.returned (.string (mkB _))
   rw [←hL'.out,HZ.out]
   rfl
end Go.Proofs.YthodiandebahdaaGreatDoor
