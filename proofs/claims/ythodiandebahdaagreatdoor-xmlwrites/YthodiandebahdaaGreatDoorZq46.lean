/- Merged by program: LtAll, DsRead, DtEval, DuEx, DvAwake, LuWrites. -/
import Derived.Test.YthodiandebahdaaGreatDoorZq28
import Derived.Test.YthodiandebahdaaGreatDoorZq45
import Derived.Test.YthodiandebahdaaGreatDoorZq35
import Derived.Lib.SlBytesConst
namespace Go.Proofs.YthodiandebahdaaGreatDoor
open Go.RowKit
set_option linter.unusedSimpArgs false
set_option linter.unusedVariables false
set_option maxHeartbeats 8000000
theorem rxe_all:∀ n,RXe n
 | 0=>fun x=>Empty.elim x
 | n+1=>fun x ns ls w hc=>by
  have rt:=rxe_all n
  obtain ⟨h,l⟩:=x
  have k1:1≤h.kind:=hc.vo.1.1.1
  have k9:h.kind≤9:=hc.vo.1.1.2.1
  by_cases q1:h.kind=1
  ·exact rxe_1 n h l ns ls w hc q1
  by_cases q2:h.kind=2
  ·exact rxe_2 n h l ns ls w hc q2
  by_cases q3:h.kind=3
  ·exact rxe_3 n h l ns ls w hc q3
  by_cases q4:h.kind=4
  ·exact rxe_4 n h l ns ls w hc q4
  by_cases q5:h.kind=5
  ·exact rxe_5 n h l ns ls w hc q5
  by_cases q6:h.kind=6
  ·exact rxe_6 n h l ns ls w hc q6
  by_cases q7:h.kind=7
  ·exact rxe_7 n rt h l ns ls w hc q7
  by_cases q8:h.kind=8
  ·exact rxe_8 n rt h l ns ls w hc q8
  exact rxe_9 n rt h l ns ls w hc (by omega)
theorem xel_len (n:Nat)(l:List (VT n))(C:Nat)(hC:∀ y∈l,(xtx n y).length≤C * siz n y):∀ k,k≤l.length→(xel n l k).length≤C * suml ((l.take k).map (siz n))+k
 | 0,_=>by simp [xel]
 | k+1,hk=>by
  have ih:=xel_len n l C hC k (by omega)
  have hk':k<l.length:=hk
  have h1:=hC _ (List.getElem_mem hk')
  rw [xel_succ n l k hk',List.take_succ_eq_append_getElem hk',List.map_append,suml_app,List.length_append,Nat.mul_add]
  simp only [List.map_cons,List.map_nil,suml,Nat.add_zero]
  omega
theorem xrc_len (n:Nat)(ns:List ByteArray)(l:List (VT n))(C:Nat)(hn:ns.length=l.length)(hz:∀ s∈ns,s.size≤64)(hC:∀ y∈l,(xtx n y).length≤C * siz n y):∀ k,k≤l.length→(xrc n ns l k).length≤C * suml ((l.take k).map (siz n))+500 * k
 | 0,_=>by simp [xrc]
 | k+1,hk=>by
  have ih:=xrc_len n ns l C hn hz hC k (by omega)
  have hk':k<l.length:=hk
  have hk2:k<ns.length:=by omega
  have h1:=hC _ (List.getElem_mem hk')
  have h3:=xeL_le (bl ns[k])
  have h5:=hz _ (List.getElem_mem hk2)
  rw [bl_length] at h3
  have lM:mField.length=13:=rfl
  have lN:mNameE.length=2:=rfl
  have lF:mFieldE.length=8:=rfl
  rw [xrc_succ n ns l k hk' hk2,List.take_succ_eq_append_getElem hk',List.map_append,suml_app,List.length_append,List.length_append,List.length_append,List.length_append,List.length_append,Nat.mul_add,lM,lN,lF]
  simp only [List.map_cons,List.map_nil,suml,Nat.add_zero]
  omega
theorem xtx_len:∀ (n:Nat)(x:VT n),IsV n x→Sht n x→(xtx n x).length≤400000 * siz n x
 | 0,x,_,_=>Empty.elim x
 | n+1,(h,l),hv,hs=>by
  have ih:∀ y∈l,(xtx n y).length≤400000 * siz n y:=fun y hy=>xtx_len n y (hv.2.2 y hy) (hs.2.2.2 y hy)
  have hsz:siz (n+1) ((h,l):VT (n+1))=1+suml (l.map (siz n)):=rfl
  have hl:l.length≤256:=hs.2.1
  have htx:(h.text.size:Int)≤4096:=by
   have q:(h.text.size:Int)≤(bif h.kind==9 then 64 else 4096):=hs.1
   cases hq:(h.kind==9) <;> rw [hq] at q <;> simp only [cond_true,cond_false] at q <;> omega
  have hq:=xeL_le (bl h.text)
  rw [bl_length] at hq
  have k9:h.kind≤9:=hv.1.2.1
  have k1:1≤h.kind:=hv.1.1
  rw [hsz,Nat.mul_add]
  have hc:h.kind=1∨h.kind=2∨h.kind=3∨h.kind=4∨h.kind=5∨h.kind=6∨h.kind=7∨h.kind=8∨h.kind=9:=by omega
  rcases hc with q|q|q|q|q|q|q|q|q
  ·rw [xtx_1 q];show 7≤_;omega
  ·rw [xtx_2 q]
   have:(xflg h.flag).length≤8:=by cases h.flag <;> decide
   omega
  ·rw [xtx_3 q]
   have:=print_len h.neg h.dig h.exp (hv.2.1.1 q)
   rw [List.length_append,List.length_append]
   show 5+(_+6)≤_
   omega
  ·rw [xtx_4 q]
   have h4:(bl (fhexS h.bits.toNat)).length=16:=by rw [bl_length];unfold fhexS;rw [strOfNums_size,List.length_map,flowL_len]
   rw [List.length_append,List.length_append,h4]
   show 7+(16+8)≤_
   omega
  ·rw [xtx_5 q,List.length_append,List.length_append]
   show 6+(_+7)≤_
   omega
  ·rw [xtx_6 q,List.length_append,List.length_append,hexL_len,bl_length]
   show 7+(_+8)≤_
   omega
  ·rw [xtx_7 q,List.length_append,List.length_append]
   have h1:=xel_len n l 400000 ih l.length (Nat.le_refl _)
   rw [List.take_length] at h1
   show 6+(_+7)≤_
   omega
  ·rw [xtx_8 q,List.length_append,List.length_append]
   have h1:=xrc_len n h.names l 400000 (hv.2.1.2.2.1 q).1 hs.2.2.1 ih l.length (Nat.le_refl _)
   rw [List.take_length] at h1
   show 8+(_+9)≤_
   omega
  ·rw [xtx_9 q]
   have hl1:l.length=1:=(hv.2.1.2.2.2 q).2
   match l,hl1,ih with
   | [y],_,ih =>
    have h1:=ih y (by simp)
    have e1:(([y]:List (VT n))[0]?).elim [] (xtx n)=xtx n y:=rfl
    have e2:suml (([y]:List (VT n)).map (siz n))=siz n y:=rfl
    rw [e1,e2,List.length_append,List.length_append,List.length_append,List.length_append]
    show 11+(_+(2+(_+6)))≤_
    omega
theorem conv_by (w:World)(J:List UInt8):∃ c W',(convert 9 32 (.string (mkB J))).run Tryz.prog w=.ok (.slice (some ⟨w.heap.size,0,none⟩) J.length c) W'∧Below w.heap.size w W' ∧
  ∀ W,Below W'.heap.size W' W→(convert 32 9 (.slice (some ⟨w.heap.size,0,none⟩) J.length c)).run Tryz.prog W=.ok (.string (mkB J)) W:=by
 have h:=run_bytes_of_string (P:=Tryz.prog) w 9 32 5 (mkB J) Tryz.underlying9 Tryz.underlying32 Tryz.underlying5
 rw [mkB_size] at h
 refine ⟨_,_,h,below_al (Below.refl _ _).drew,fun W hb=>?_⟩
 refine run_convert_bytes_back W 32 9 5 ⟨w.heap.size,0,none⟩ _ J Tryz.underlying32 Tryz.underlying5 Tryz.underlying9 fun j hj=>?_
 rw [show (⟨w.heap.size,0,none⟩:Addr).add j=⟨w.heap.size,j,none⟩ by unfold Addr.add;split <;> simp_all]
 rw [hb.cell (p:=⟨w.heap.size,j,none⟩) (by show w.heap.size<(w.heap.push _).size;simp)]
 unfold World.cell?
 rw [show (w.drew.alloc (.cells (bytesRow (mkB J) (grownCap w J.length 0 5)) 5 ((bytesRow (mkB J) (grownCap w J.length 0 5)).size,(bytesRow (mkB J) (grownCap w J.length 0 5)).size+1))).heap[w.heap.size]?=some (.cells (bytesRow (mkB J) (grownCap w J.length 0 5)) 5 ((bytesRow (mkB J) (grownCap w J.length 0 5)).size,(bytesRow (mkB J) (grownCap w J.length 0 5)).size+1)) by show (w.heap.push _)[w.heap.size]?=_;simp]
 show (bytesRow (mkB J) (grownCap w J.length 0 5))[j]?=_
 unfold bytesRow
 rw [Array.getElem?_append_left (by simp [mkB];exact hj)]
 simp [mkB,hj]
def RW (J:List UInt8)(E:Int)(w:World)(e:Ending)(w':World):Prop :=
 Below w.heap.size w w'∧(E≠0→e=.returned (.tuple #[.slice none 0 0,.int .i64 E]))∧(E=0→(J.length≤65536→∃ a c,e=.returned (.tuple #[.slice a J.length c,.int .i64 0])∧∀ W,Below w'.heap.size w' W→(convert 32 9 (.slice a J.length c)).run Tryz.prog W=.ok (.string (mkB J)) W)∧(65536<J.length→e=.returned (.tuple #[.slice none 0 0,.int .i64 2])))
set_option maxRecDepth 100000 in
theorem rwrite_any (n:Nat)(x:VT n)(ns ls:Value)(w:World)(hr:Rdy n w x ns ls)(hg:Rg n x)(E:Int)(hE:Chk n x E)
  (rck:∀ W,Below w.heap.size w W→Calls Tryz.prog 26 #[.agg (vals (vhd n x) ns ls)] W fun e w'=>e=.returned (.int .i64 E)∧Below W.heap.size W w') :
  Calls Tryz.prog 11 #[.agg (vals (vhd n x) ns ls)] w fun e w'=>RW (xtx n x) E w e w':=by
 obtain ⟨a1,m1,d1,a2,m2,d2,rfl,rfl⟩:=hr.rd.shape
 have tg:Hid (E=0→∀ W (hb:Below w.heap.size w W),Calls Tryz.prog 27 #[.agg (vals (vhd n x) (.slice a1 m1 d1) (.slice a2 m2 d2))] W fun e w'=>TxP W (xtx n x) e w'):=fun h0 W hb=>rxe_all n x _ _ W ⟨hr.rd.below hb,(by
  rcases hE with ⟨e,_⟩|⟨e,_⟩|⟨_,q,r⟩
  ·omega
  ·omega
  ·exact ⟨q,r.1,hg⟩),(by
  rcases hE with ⟨e,_⟩|⟨e,_⟩|⟨_,q,r⟩
  ·omega
  ·omega
  ·have:=xtx_len n x q r.1
   have:=r.2.2
   omega)⟩
 have rck':=hide rck
 obtain ⟨h,hh⟩:∃ h,vhd n x=h:=⟨_,rfl⟩
 rw [hh] at tg rck' ⊢
 simp only [vals] at tg rck' ⊢
 obtain ⟨J,hJ⟩:∃ J,xtx n x=J:=⟨_,rfl⟩
 rw [hJ] at tg ⊢
 clear hJ hE hr hg hh rck
 have T0:Hid (Tw w h (.slice a1 m1 d1) (.slice a2 m2 d2) _):=Tw.new w _ _ _
 simp only [vals] at T0
 obtain ⟨v0,v1,v2,v3,v4,v5,v6,v7,v8⟩:=T0.out.bx.cells
 have hJs:(mkB J).size=J.length:=mkB_size J
 by_cases h0:E=0
 ·have tg1:=hide (tg.out h0)
  subst h0
  clear tg
  by_cases hz:J.length≤65536
  ·have hzi:¬ (65536:Int)<(J.length:Int):=by omega
   go_enter Tryz.func11, Tryz.ntmps11
   go_wp2_with (go_at_call 26;refine Sto.out ?_)
   refine Sto.mk ((rck'.out _ T0.out.be).mono ?_)
   rintro e w1 ⟨rfl,hb1⟩
   have T1:=hide (T0.out.then hb1)
   clear hb1 v0 v1 v2 v3 v4 v5 v6 v7 v8
   obtain ⟨v0,v1,v2,v3,v4,v5,v6,v7,v8⟩:=T1.out.bx.cells
   go_wp2_with (go_at_call 27;refine Sto.out ?_)
   refine Sto.mk ((tg1.out _ T1.out.be).mono ?_)
   rintro e w2 ⟨rfl,hb2⟩
   have T2:=hide (T1.out.then hb2)
   clear hb2 v0 v1 v2 v3 v4 v5 v6 v7 v8
   obtain ⟨c,W',hcv,hbW,hrd⟩:=conv_by w2 J
   have B3:=hide (T2.out.then hbW).be
   have R3:=hide hrd
   have hz':=hide hz
   clear hbW hrd hz
   go_wp2_with fail
   go_ret2
   exact ⟨B3.out,fun q=>absurd rfl q,fun _=>⟨fun _=>⟨_,_,rfl,R3.out⟩,fun q=>absurd hz'.out (by omega)⟩⟩
  ·have hzi:(65536:Int)<(J.length:Int):=by omega
   go_enter Tryz.func11, Tryz.ntmps11
   go_wp2_with (go_at_call 26;refine Sto.out ?_)
   refine Sto.mk ((rck'.out _ T0.out.be).mono ?_)
   rintro e w1 ⟨rfl,hb1⟩
   have T1:=hide (T0.out.then hb1)
   clear hb1 v0 v1 v2 v3 v4 v5 v6 v7 v8
   obtain ⟨v0,v1,v2,v3,v4,v5,v6,v7,v8⟩:=T1.out.bx.cells
   go_wp2_with (go_at_call 27;refine Sto.out ?_)
   refine Sto.mk ((tg1.out _ T1.out.be).mono ?_)
   rintro e w2 ⟨rfl,hb2⟩
   have T2:=hide (T1.out.then hb2)
   clear hb2 v0 v1 v2 v3 v4 v5 v6 v7 v8
   have hz':=hide hz
   clear hz
   go_wp2_with fail
   go_ret2
   exact ⟨T2.out.be,fun q=>absurd rfl q,fun _=>⟨fun q=>absurd q hz'.out,fun _=>rfl⟩⟩
 ·have hE0:(E==0)=false:=by simpa using h0
  have h0':=hide h0
  clear h0 tg
  go_enter Tryz.func11, Tryz.ntmps11
  go_wp2_with (go_at_call 26;refine Sto.out ?_)
  refine Sto.mk ((rck'.out _ T0.out.be).mono ?_)
  rintro e w1 ⟨rfl,hb1⟩
  have T1:=hide (T0.out.then hb1)
  clear hb1 v0 v1 v2 v3 v4 v5 v6 v7 v8
  go_wp2_with fail
  go_ret2
  exact ⟨T1.out.be,fun _=>rfl,fun q=>absurd q h0'.out⟩
structure SL (W:World)(L:Nat)(v:Value)(l:List UInt8):Prop where
 shape:∃ a c,v=.slice a l.length c
 len:l.length≤281474976710656
 rd:0<l.length→∃ b o c,v=.slice (some ⟨b,o,none⟩) l.length c∧(∀ j (h:j<l.length),W.cell? ⟨b,o+j,none⟩=some (.int .u8 l[j].toNat))∧b<L
theorem SL.sb {W W1:World} {L:Nat} {v:Value} {l:List UInt8} (h:SL W L v l)(hb:Below L W W1)(m:Xm):SB W1 L m v l :=
 ⟨h.shape,h.len,fun hl=>by
  obtain ⟨b,o,c,h1,h2,h3⟩:=h.rd hl
  exact ⟨b,o,c,h1,fun j hj=>by rw [←h2 j hj];exact World.cell?_of_block (w:=W) (hb.block b h3),Or.inl h3⟩⟩
theorem RR.shape {L:Nat} {w w':World} {o:Sum Int (List Hd)} {e:Ending} (h:RR L w o e w'):∃ hd a1 n1 d1 a2 n2 d2 E,e=.returned (.tuple #[.agg (vals hd (.slice a1 n1 d1) (.slice a2 n2 d2)),.int .i64 E]):=by
 obtain ⟨_,h2⟩:=h
 cases o with
 | inl E=>exact ⟨zr 0,none,0,0,none,0,0,E,h2⟩
 | inr es =>
  obtain ⟨y,E,e1,e2,e3,e4⟩:=h2
  by_cases hE:E=0
  ·have hd:doneS (runE es)=true:=by
    cases hq:doneS (runE es) with
    | true=>rfl
    | false=>exact absurd hE (e3 hq)
   obtain ⟨x,_,_,_,_,k5⟩:=e4 hd
   obtain ⟨ns,ls,s,f,rfl,k6,k7⟩:=k5 hE
   obtain ⟨a1,m1,d1,a2,m2,d2,rfl,rfl⟩:=k7.rd.shape
   exact ⟨_,_,_,_,_,_,_,_,e1⟩
  ·rw [e2 hE] at e1
   exact ⟨zr 0,none,0,0,none,0,0,E,e1⟩
theorem RR.box {w w0 w2 Z:World} {o:Sum Int (List Hd)} {e:Ending} {k:Nat} (h:RR w0.heap.size w0 o e w2)(h0:Below w.heap.size w w0)(hk:w.heap.size=k)(hz:k<w0.heap.size)(hb:But k w2 Z):RR w.heap.size w o e Z:=by
 obtain ⟨h1,h2⟩:=h
 refine ⟨(below_then h0 h1).trans (hb.below (Nat.le_of_eq hk)),?_⟩
 cases o with
 | inl E=>exact h2
 | inr es =>
  obtain ⟨y,E,e1,e2,e3,e4⟩:=h2
  refine ⟨y,E,e1,e2,e3,fun hd=>?_⟩
  obtain ⟨x,k1,k2,k3,k4,k5⟩:=e4 hd
  refine ⟨x,k1,k2,k3,k4,fun hE=>?_⟩
  obtain ⟨ns,ls,s,f,e5,k6,k7⟩:=k5 hE
  exact ⟨ns,ls,s,f,e5,by omega,k7.move (by rw [hb.size];exact k7.2.1) fun j h1 h2=>hb.blk j (by omega)⟩
set_option maxRecDepth 100000 in
theorem xread_x (w:World)(va:Option Addr)(vc:Nat)(l:List UInt8)(hs:SL w w.heap.size (.slice va l.length vc) l)(gu:Ut.Gu w)(ge:Ge (bdX x0 l=true) w)(h8:8≤w.heap.size)(hlen:∀ es,readX l=.inr es→es.length≤199000∧∀ e∈es,EvZ e) :
  Calls Tryz.prog 15 #[.slice va l.length vc] w fun e w'=>RR w.heap.size w (readX l) e w':=by
 obtain ⟨w0,hw0⟩:∃ w0,w0=w.alloc (.cells (vals (zr 0) (.slice none 0 0) (.slice none 0 0)) 29):=⟨_,rfl⟩
 have B0:Hid (Below w.heap.size w w0):=by rw [hw0];exact below_al (Below.refl _ _)
 have z0:Hid (w.heap.size<w0.heap.size):=by show _<_;rw [hw0];simp
 have X0:Hid (Bx w0 w.heap.size (zr 0) (.slice none 0 0) (.slice none 0 0)):=⟨by rw [hw0];exact heap_alloc_last _ _⟩
 have hs0:SL w0 w0.heap.size (.slice va l.length vc) l:=⟨hs.shape,hs.len,fun hl=>by
  obtain ⟨b,o,c,h1,h2,h3⟩:=hs.rd hl
  exact ⟨b,o,c,h1,fun j hj=>by rw [←h2 j hj];exact World.cell?_of_block (w:=w) (B0.out.block b h3),Nat.lt_trans h3 z0.out⟩⟩
 have N:=hide (new_x w0 (gu.below B0.out) (Nat.le_trans h8 B0.out.size))
 have ge0:=ge.low B0.out h8
 have h80:8≤w0.heap.size:=Nat.le_trans h8 B0.out.size
 obtain ⟨k,hk⟩:∃ k,w.heap.size=k:=⟨_,rfl⟩
 have hk':=hide hk
 rw [hk] at X0
 have RD:Hid (∀ w1 r g m,XM w1 r g m x0→Below w0.heap.size w0 w1→g.lo=w0.heap.size→g.t≤r→Calls Tryz.prog 28 #[.iface 43 (.pointer (some ⟨r,0,none⟩)),.slice va l.length vc] w1 fun e w'=>RR w0.heap.size w0 (readX l) e w'∧∃ hd a1 n1 d1 a2 n2 d2 E,e=.returned (.tuple #[.agg (vals hd (.slice a1 n1 d1) (.slice a2 n2 d2)),.int .i64 E])):=fun w1 r g m h hb hg tr=>by
  have:=tread_x h (ge0.low hb h80) tr va vc (by rw [hg];exact hs0.sb hb m) hlen
  rw [hg] at this
  refine this.mono ?_
  intro e w' hp
  exact ⟨⟨hb.trans hp.1,hp.2⟩,RR.shape hp⟩
 clear hs gu ge h8 hlen hs0 ge0 h80
 simp only [vals,zr] at hw0
 rw [hw0] at N
 go_enter Tryz.func15, Tryz.ntmps15
 go_wp2_with (first
  | (go_at_call 16;refine N.out.mono ?_;rintro e w1 ⟨r,g,m,rfl,hp1,hp2,hp3,_,_,_,_,hp4⟩;rw [←hw0] at hp2 hp3;have M1:=hide hp1;have B1:=hide hp2;have G1:=hide hp3;have T1:=hide hp4;clear hp1 hp2 hp3 hp4)
  | (go_at_call 28;refine (RD.out _ _ _ _ M1.out B1.out G1.out T1.out).mono ?_;rintro e w2 ⟨hp,h5,a1,n1,d1,a2,n2,d2,E5,rfl⟩;have K:=hide hp;have X2:Hid (Bx w2 k (zr 0) (.slice none 0 0) (.slice none 0 0)):=⟨(hp.1.block k (by have:=z0.out;have:=hk'.out;omega)).trans X0.out.at_⟩;have x2:=X2.out.cells;simp only [zr] at x2;obtain ⟨c0,c1,c2,c3,c4,c5,c6,c7,c8⟩:=x2;have fz:=X2.out.frz;have kl:=X2.out.lt';simp only [vals];clear hp))
 have Q:=bx_set9 X2.out h5 (.slice a1 n1 d1) (.slice a2 n2 d2)
 obtain ⟨Z,hZ⟩:∃ Z,set9 w2 k h5 (.slice a1 n1 d1) (.slice a2 n2 d2)=Z:=⟨_,rfl⟩
 rw [hZ] at Q
 simp only [set9] at hZ
 rw [hZ]
 obtain ⟨Q1,Q2⟩:=Q
 obtain ⟨y0,y1,y2,y3,y4,y5,y6,y7,y8⟩:=Q1.cells
 exact bodyPost_ret (v:=.tuple #[.agg #[.int .i64 h5.kind,.bool h5.flag,.bool h5.neg,.string h5.dig,.int .i64 h5.exp,.int .u64 h5.bits,.string h5.text,.slice a1 n1 d1,.slice a2 n2 d2],.int .i64 E5]) (by simp [results,Tryz.results15,go_sem,y0,y1,y2,y3,y4,y5,y6,y7,y8]) rfl (K.out.box B0.out hk'.out (by have:=z0.out;have:=hk'.out;omega) Q2)
def xexA:List UInt8:=[32,60,108,105,115,116,62,32,60,110,117,108,108,47,62,32,60,116,101,120,116,62,32,97,38,35,120,52,49,59,62,60,47,116,101,120,116,62,60,47,108,105,115,116,62,32]
def xexB:List UInt8:=[60,110,117,108,108,32,47,62]
def xexE:List Hd:=[zr 7,zr 1,{zr 5 with text:=⟨#[32,97,65,62]⟩},zr 11]
set_option maxRecDepth 100000 in
theorem xexA_rd:readX xexA=.inr xexE:=by kernel_rfl
set_option maxRecDepth 100000 in
theorem xexB_rd:readX xexB=.inl 100:=by kernel_rfl
set_option maxRecDepth 100000 in
theorem xexA_bd:bdX x0 xexA=false:=by kernel_rfl
set_option maxRecDepth 100000 in
theorem xexB_bd:bdX x0 xexB=false:=by kernel_rfl
theorem ge_no {l:List UInt8} {w:World} (h:bdX x0 l=false):Ge (bdX x0 l=true) w:=fun u=>by rw [h] at u;cases u
def xaT:VT 1:=({zr 5 with text:=⟨#[97,60,10]⟩},[])
def xl1:VT 1:=(zr 7,[])
def xgT:VT 2:=({zr 9 with text:=⟨#[116]⟩},[xl1])
def xv1:VT 3:=(zr 1,[])
def xv2:VT 3:=({zr 5 with text:=⟨#[32,97,65,62]⟩},[])
def xvT:VT 4:=(zr 7,[xv1,xv2])
theorem xa_isv:IsV 1 xaT:=⟨⟨(show (1:Int)≤5 by decide),(show (5:Int)≤9 by decide),rfl,Or.inr rfl⟩,⟨fun h=>(by cases h),fun _=>by decide,fun h=>(by cases h),fun h=>(by cases h)⟩,fun y hy=>(by cases hy)⟩
theorem xa_sht:Sht 1 xaT:=⟨(show (3:Int)≤4096 by decide),(show 0≤256 by decide),fun s hs=>(by cases hs),fun y hy=>(by cases hy)⟩
theorem xa_chk:Chk 1 xaT 0:=Or.inr (Or.inr ⟨rfl,xa_isv,xa_sht,(show 1≤16 by decide),(show 1≤4096 by decide)⟩)
theorem xa_sz:Sz 1 xaT:=⟨by decide,by decide,by decide,fun s hs=>(by cases hs),fun y hy=>(by cases hy)⟩
theorem xa_rg:Rg 1 xaT:=⟨by decide,by decide,fun y hy=>(by cases hy)⟩
theorem xl_isv:IsV 1 xl1:=⟨⟨(show (1:Int)≤7 by decide),(show (7:Int)≤9 by decide),rfl,Or.inl (show (7:Int)≤7 by decide)⟩,⟨fun h=>(by cases h),fun h=>(by cases h),fun h=>(by cases h),fun h=>(by cases h)⟩,fun y hy=>(by cases hy)⟩
theorem xl_sht:Sht 1 xl1:=⟨(show (0:Int)≤4096 by decide),(show 0≤256 by decide),fun s hs=>(by cases hs),fun y hy=>(by cases hy)⟩
theorem xl_sz:Sz 1 xl1:=⟨by decide,by decide,by decide,fun s hs=>(by cases hs),fun y hy=>(by cases hy)⟩
theorem xl_rg:Rg 1 xl1:=⟨by decide,by decide,fun y hy=>(by cases hy)⟩
theorem xg_isv:IsV 2 xgT:=⟨⟨(show (1:Int)≤9 by decide),(show (9:Int)≤9 by decide),rfl,Or.inl (show (7:Int)≤9 by decide)⟩,⟨fun h=>(by cases h),fun h=>(by cases h),fun h=>(by cases h),fun _=>by decide⟩,ex_one xl_isv⟩
theorem xg_sht:Sht 2 xgT:=⟨(show (1:Int)≤64 by decide),(show 1≤256 by decide),fun s hs=>(by cases hs),ex_one xl_sht⟩
theorem xg_chk:Chk 2 xgT 0:=Or.inr (Or.inr ⟨rfl,xg_isv,xg_sht,(show 2≤16 by decide),(show 2≤4096 by decide)⟩)
theorem xg_sz:Sz 2 xgT:=⟨by decide,by decide,by decide,fun s hs=>(by cases hs),ex_one xl_sz⟩
theorem xg_rg:Rg 2 xgT:=⟨by decide,by decide,ex_one xl_rg⟩
theorem xv1_isv:IsV 3 xv1:=⟨⟨(show (1:Int)≤1 by decide),(show (1:Int)≤9 by decide),rfl,Or.inr rfl⟩,⟨fun h=>(by cases h),fun h=>(by cases h),fun h=>(by cases h),fun h=>(by cases h)⟩,fun y hy=>(by cases hy)⟩
theorem xv2_isv:IsV 3 xv2:=⟨⟨(show (1:Int)≤5 by decide),(show (5:Int)≤9 by decide),rfl,Or.inr rfl⟩,⟨fun h=>(by cases h),fun _=>by decide,fun h=>(by cases h),fun h=>(by cases h)⟩,fun y hy=>(by cases hy)⟩
theorem xv_isv:IsV 4 xvT:=⟨⟨(show (1:Int)≤7 by decide),(show (7:Int)≤9 by decide),rfl,Or.inl (show (7:Int)≤7 by decide)⟩,⟨fun h=>(by cases h),fun h=>(by cases h),fun h=>(by cases h),fun h=>(by cases h)⟩,ex_mem xv1_isv xv2_isv⟩
theorem xv_sht1:Sht 3 xv1:=⟨(show (0:Int)≤4096 by decide),(show 0≤256 by decide),fun s hs=>(by cases hs),fun y hy=>(by cases hy)⟩
theorem xv_sht2:Sht 3 xv2:=⟨(show (4:Int)≤4096 by decide),(show 0≤256 by decide),fun s hs=>(by cases hs),fun y hy=>(by cases hy)⟩
theorem xv_win:Win 4 xvT:=⟨⟨(show (0:Int)≤4096 by decide),(show 2≤256 by decide),fun s hs=>(by cases hs),ex_mem xv_sht1 xv_sht2⟩,(show 2≤16 by decide),(show 3≤4096 by decide)⟩
theorem xv_fl:xexE=fl 4 xvT:=rfl
theorem xv_done:doneS (runE xexE)=true:=by rw [xv_fl,runE_fl 4 xvT xv_isv];rfl
theorem xexE_z:∀ e∈xexE,EvZ e:=by
 intro e he
 simp only [xexE,List.mem_cons,List.not_mem_nil,or_false] at he
 rcases he with rfl|rfl|rfl|rfl <;> exact ⟨by decide,by decide,rfl⟩
set_option maxRecDepth 100000 in
theorem xa_tx:xtx 1 xaT=[60,116,101,120,116,62,97,38,108,116,59,38,35,120,97,59,60,47,116,101,120,116,62]:=by kernel_rfl
set_option maxRecDepth 100000 in
theorem xg_tx:xtx 2 xgT=[60,116,97,103,32,110,97,109,101,61,34,116,34,62,60,108,105,115,116,62,60,47,108,105,115,116,62,60,47,116,97,103,62]:=by kernel_rfl
theorem rd_xg {W:World} {b:Nat} (hb:W.heap[b]?=some (.cells (vals (zr 7) (.slice none 0 0) (.slice none 0 0)) 29 (0,0))):RD 2 W xgT (.slice none 0 0) (.slice (some ⟨b,0,none⟩) 1 1):=by
 have lb:=(Array.getElem?_eq_some_iff.1 hb).1
 refine ⟨Or.inl ⟨rfl,rfl⟩,Or.inr ⟨b,0,1,none,rfl,Nat.le_refl _,by decide,fun _=>⟨rfl,lb⟩,fun i hi=>?_⟩⟩
 have hi0:i=0:=by have:i<1:=hi;omega
 subst hi0
 exact ⟨.slice none 0 0,.slice none 0 0,range_block hb [] _ [] rfl,⟨Or.inl ⟨rfl,rfl⟩,Or.inl ⟨rfl,rfl⟩⟩⟩
theorem xwr_a (w:World)(gu:Ut.Gu w)(ht:Tab w.heap.size w)(gz:Gz w)(W:World)(hb:Below w.heap.size w W) :
  Calls Tryz.prog 10 #[.agg (vals (vhd 1 xaT) (.slice none 0 0) (.slice none 0 0))] W fun e w'=>∃ p m c,e=.returned (.tuple #[.slice p m c,.int .i64 0])∧Below W.heap.size W w'∧Own w' W.heap.size (.slice p m c) (xtx 1 xaT) :=
 (xwrite_any 1 xaT _ _ W ⟨⟨Or.inl ⟨rfl,rfl⟩,Or.inl ⟨rfl,rfl⟩⟩,xa_sz,(show 1≤200000 by decide)⟩ xa_rg (gu.below hb) (Tab.up (ht.on hb) hb.size) (gz.low hb gz.low8) 0 xa_chk).mono (by
  rintro e w' ⟨h1,_,h3⟩
  obtain ⟨p,m,c,h4,h5⟩:=(h3 rfl).1 (by rw [xa_tx];decide)
  exact ⟨p,m,c,h4,h1,h5⟩)
theorem xwr_g (w:World)(gu:Ut.Gu w)(ht:Tab w.heap.size w)(gz:Gz w)(W:World)(hb:Below w.heap.size w W) {b:Nat} (hb2:W.heap[b]?=some (.cells (vals (zr 7) (.slice none 0 0) (.slice none 0 0)) 29 (0,0))) :
  Calls Tryz.prog 10 #[.agg (vals (vhd 2 xgT) (.slice none 0 0) (.slice (some ⟨b,0,none⟩) 1 1))] W fun e w'=>∃ p m c,e=.returned (.tuple #[.slice p m c,.int .i64 0])∧Below W.heap.size W w'∧Own w' W.heap.size (.slice p m c) (xtx 2 xgT) :=
 (xwrite_any 2 xgT _ _ W ⟨rd_xg hb2,xg_sz,(show 2≤200000 by decide)⟩ xg_rg (gu.below hb) (Tab.up (ht.on hb) hb.size) (gz.low hb gz.low8) 0 xg_chk).mono (by
  rintro e w' ⟨h1,_,h3⟩
  obtain ⟨p,m,c,h4,h5⟩:=(h3 rfl).1 (by rw [xg_tx];decide)
  exact ⟨p,m,c,h4,h1,h5⟩)
def cb (l:List UInt8):Array Value:=(l.map fun c=>Value.int .u8 (c.toNat:Int)).toArray
theorem xrd_const (w:World)(gu:Ut.Gu w)(h8:8≤w.heap.size)(W:World)(hb:Below w.heap.size w W)(l:List UInt8)(hbd:bdX x0 l=false)(fr:Nat×Nat)(hl:l.length≤100000)(hlen:∀ es,readX l=.inr es→es.length≤199000∧∀ e∈es,EvZ e) :
  Calls Tryz.prog 15 #[.slice (some ⟨W.heap.size,0,none⟩) l.length l.length] (W.alloc (.cells (cb l) 5 fr)) fun e w'=>RR (W.alloc (.cells (cb l) 5 fr)).heap.size (W.alloc (.cells (cb l) 5 fr)) (readX l) e w':=by
 have hB:Below w.heap.size w (W.alloc (.cells (cb l) 5 fr)):=below_then hb (below_al (Below.refl _ _))
 refine xread_x _ _ _ l ⟨⟨_,_,rfl⟩,by omega,fun _=>⟨W.heap.size,0,l.length,rfl,fun j hj=>?_,by simp⟩⟩ (gu.below hB) (ge_no hbd) (Nat.le_trans h8 hB.size) hlen
 unfold World.cell?
 rw [heap_alloc_last]
 simp [cb,hj]
theorem xrd_a (w:World)(gu:Ut.Gu w)(h8:8≤w.heap.size)(W:World)(hb:Below w.heap.size w W)(fr:Nat×Nat) :
  Calls Tryz.prog 15 #[.slice (some ⟨W.heap.size,0,none⟩) xexA.length xexA.length] (W.alloc (.cells (cb xexA) 5 fr)) fun e w'=>∃ a1 m1 d1 b o c s f,e=.returned (.tuple #[.agg (vals (zr 7) (.slice a1 m1 d1) (.slice (some ⟨b,o,none⟩) 2 c)),.int .i64 0])∧Below W.heap.size W w'∧KR 4 w' xvT (.slice a1 m1 d1) (.slice (some ⟨b,o,none⟩) 2 c) s f:=by
 refine (xrd_const w gu h8 W hb xexA xexA_bd fr (by decide) (fun es h=>by rw [xexA_rd] at h;cases h;exact ⟨by decide,xexE_z⟩)).mono ?_
 intro e w' hp
 rw [xexA_rd] at hp
 obtain ⟨h1,y,E,rfl,_,_,h4⟩:=hp
 obtain ⟨x,k1,k2,_,k4,k5⟩:=h4 xv_done
 have hx:x=xvT:=(fl_inj 4 x xvT k2 xv_isv [] [] (by rw [List.append_nil,List.append_nil,←xv_fl];exact k1.symm)).1
 subst hx
 have hE:E=0:=k4.2 xv_win
 obtain ⟨ns,ls,s,f,rfl,_,k7⟩:=k5 hE
 obtain ⟨r1,r2⟩:=k7.rd
 obtain ⟨a1,m1,d1,a2,m2,d2,rfl,rfl⟩:=k7.rd.shape
 rcases r2 with ⟨_,h0⟩|⟨b,o,c,sp,hls,_,_,hsp,_⟩
 ·cases h0
 ·obtain ⟨rfl,_⟩:=hsp (show 0<2 by decide)
  rw [hls] at k7 ⊢
  subst hE
  exact ⟨a1,m1,d1,b,o,c,s,f,rfl,below_then (below_al (Below.refl _ _)) h1,k7⟩
theorem xrd_e (w:World)(gu:Ut.Gu w)(h8:8≤w.heap.size)(W:World)(hb:Below w.heap.size w W)(fr:Nat×Nat)(l:List UInt8)(hbd:bdX x0 l=false)(hl:l.length≤100000)(E:Int)(hE:readX l=.inl E) :
  Calls Tryz.prog 15 #[.slice (some ⟨W.heap.size,0,none⟩) l.length l.length] (W.alloc (.cells (cb l) 5 fr)) fun e w'=>e=.returned (.tuple #[.agg zV,.int .i64 E])∧Below W.heap.size W w':=by
 refine (xrd_const w gu h8 W hb l hbd fr hl (fun es h=>by rw [hE] at h;cases h)).mono ?_
 intro e w' hp
 rw [hE] at hp
 exact ⟨hp.2,below_then (below_al (Below.refl _ _)) hp.1⟩
set_option maxRecDepth 100000 in
theorem xawake_any (w:World)(gu:Ut.Gu w)(ht:Tab w.heap.size w)(gz:Gz w):Calls Tryz.prog 12 #[] w fun e w'=>e=.returned (.bool true)∧Below w.heap.size w w':=by
 have h8:=gz.low8
 have hcs:∀ (w:World)(C:Array Value)(n c:Nat),(convert 32 32 (.slice (some ⟨w.heap.size,0,none⟩) n c)).run Tryz.prog (w.alloc (.cells C 5))=.ok (.slice (some ⟨w.heap.size,0,none⟩) n c) (w.alloc (.cells C 5 (C.size,C.size+1))):=fun w C n c=>Lib.run_convert_bytes_const w 32 5 C n c Tryz.underlying32 Tryz.underlying5
 have hcs2:∀ (w:World)(o:Obj)(C:Array Value)(n c:Nat),(convert 32 32 (.slice (some ⟨w.heap.size+1,0,none⟩) n c)).run Tryz.prog ((w.alloc o).alloc (.cells C 5))=.ok (.slice (some ⟨w.heap.size+1,0,none⟩) n c) ((w.alloc o).alloc (.cells C 5 (C.size,C.size+1))):=fun w o C n c=>by have:=hcs (w.alloc o) C n c;rw [World.size_alloc] at this;exact this
 have RA:=hide (fun W hb=>xrd_a w gu h8 W hb (46,47))
 have RB:=hide (fun W hb=>xrd_e w gu h8 W hb (8,9) xexB xexB_bd (by decide) 100 xexB_rd)
 rw [show cb xexA=#[.int .u8 32,.int .u8 60,.int .u8 108,.int .u8 105,.int .u8 115,.int .u8 116,.int .u8 62,.int .u8 32,.int .u8 60,.int .u8 110,.int .u8 117,.int .u8 108,.int .u8 108,.int .u8 47,.int .u8 62,.int .u8 32,.int .u8 60,.int .u8 116,.int .u8 101,.int .u8 120,.int .u8 116,.int .u8 62,.int .u8 32,.int .u8 97,.int .u8 38,.int .u8 35,.int .u8 120,.int .u8 52,.int .u8 49,.int .u8 59,.int .u8 62,.int .u8 60,.int .u8 47,.int .u8 116,.int .u8 101,.int .u8 120,.int .u8 116,.int .u8 62,.int .u8 60,.int .u8 47,.int .u8 108,.int .u8 105,.int .u8 115,.int .u8 116,.int .u8 62,.int .u8 32] from rfl,show xexA.length=46 from rfl] at RA
 rw [show cb xexB=#[.int .u8 60,.int .u8 110,.int .u8 117,.int .u8 108,.int .u8 108,.int .u8 32,.int .u8 47,.int .u8 62] from rfl,show xexB.length=8 from rfl] at RB
 have W1:=hide (xwr_a w gu ht gz)
 have W2:=hide (xwr_g w gu ht gz)
 simp only [vals,xaT,xgT,vhd,zr] at W1 W2
 simp only [vals,zr] at RA
 simp only [zV] at RB
 go_enter Tryz.func12, Tryz.ntmps12
 go_wp2_with (go_at_call 10;refine Sto.out ?_)
 refine Sto.mk ((W1.out _ (Below.refl _ _)).mono ?_)
 rintro e v1 ⟨p1,m1,c1,rfl,B1',ho1⟩
 have B1:Hid (Below w.heap.size w v1):=B1'
 have O1:Hid (∃ B,Own v1 B (.slice p1 m1 c1) (xtx 1 xaT)):=⟨_,ho1⟩
 clear B1' ho1 W1
 go_wp2_with (go_at_call 10;refine Sto.out ?_)
 refine Sto.mk ((W2.out _ (below_then B1.out (below_al (Below.refl _ _))) (b:=v1.heap.size) (heap_alloc_last _ _)).mono ?_)
 rintro e v2 ⟨p2,m2,c2,rfl,hb2,ho2⟩
 have D2:Hid (Below v1.heap.size v1 v2):=below_then (below_al (Below.refl _ _)) hb2
 have B2:Hid (Below w.heap.size w v2):=below_then B1.out D2.out
 have O1':Hid (∃ B,Own v2 B (.slice p1 m1 c1) (xtx 1 xaT)):=by
  obtain ⟨B,h⟩:=O1.out
  exact ⟨B,own_of h fun k _ hk=>D2.out.block k hk⟩
 have O2:Hid (∃ B,Own v2 B (.slice p2 m2 c2) (xtx 2 xgT)):=⟨_,ho2⟩
 clear hb2 ho2 W2 O1 D2
 go_wp2_with (go_at_call 15;refine Sto.out ?_)
 refine Sto.mk ((RA.out _ B2.out).mono ?_)
 rintro e v3 ⟨a3,m3,d3,b3,o3,c3,s3,f3,rfl,hb3,hk3⟩
 have B3:Hid (Below w.heap.size w v3):=below_then B2.out hb3
 have P1:Hid (∃ B,Own v3 B (.slice p1 m1 c1) (xtx 1 xaT)):=by
  obtain ⟨B,h⟩:=O1'.out
  exact ⟨B,own_of h fun k _ hk=>hb3.block k hk⟩
 have P2:Hid (∃ B,Own v3 B (.slice p2 m2 c2) (xtx 2 xgT)):=by
  obtain ⟨B,h⟩:=O2.out
  exact ⟨B,own_of h fun k _ hk=>hb3.block k hk⟩
 have K3:=hide hk3
 clear hb3 hk3 O1' O2 RA
 go_wp2_with (go_at_call 15;refine Sto.out ?_)
 refine Sto.mk ?_
 have rb:=RB.out (v3.alloc (.cells #[.int .i64 7,.bool false,.bool false,.string ⟨#[]⟩,.int .i64 0,.int .u64 0,.string ⟨#[]⟩,.slice a3 m3 d3,.slice (some ⟨b3,o3,none⟩) 2 c3] 29)) (below_then B3.out (below_al (Below.refl _ _)))
 rw [World.size_alloc] at rb
 refine rb.mono ?_
 rintro e v4 ⟨rfl,hb4⟩
 have L4:Hid (Below v3.heap.size v3 v4):=below_then (below_al (Below.refl _ _)) (by rw [World.size_alloc];exact hb4)
 have X4:Hid (Bx v4 v3.heap.size (zr 7) (.slice a3 m3 d3) (.slice (some ⟨b3,o3,none⟩) 2 c3)):=⟨(hb4.block _ (by omega)).trans (heap_alloc_last _ _)⟩
 have B4:Hid (Below w.heap.size w v4):=below_then B3.out L4.out
 clear hb4 RB rb
 have L35:Hid (∀ o,Below v3.heap.size v3 (v4.alloc o)):=fun o=>below_then L4.out (below_al (Below.refl _ _))
 have cv1:∀ o,(convert 32 9 (.slice p1 m1 c1)).run Tryz.prog (v4.alloc o)=.ok (.string ⟨#[60,116,101,120,116,62,97,38,108,116,59,38,35,120,97,59,60,47,116,101,120,116,62]⟩) (v4.alloc o):=fun o=>by
  obtain ⟨B,h⟩:=P1.out
  have:=own_conv (own_of h fun k _ hk=>(L35.out o).block k hk)
  rw [xa_tx] at this
  exact this
 have cv2:∀ o,(convert 32 9 (.slice p2 m2 c2)).run Tryz.prog (v4.alloc o)=.ok (.string ⟨#[60,116,97,103,32,110,97,109,101,61,34,116,34,62,60,108,105,115,116,62,60,47,108,105,115,116,62,60,47,116,97,103,62]⟩) (v4.alloc o):=fun o=>by
  obtain ⟨B,h⟩:=P2.out
  have:=own_conv (own_of h fun k _ hk=>(L35.out o).block k hk)
  rw [xg_tx] at this
  exact this
 have X5:Hid (∀ o,Bx (v4.alloc o) v3.heap.size (zr 7) (.slice a3 m3 d3) (.slice (some ⟨b3,o3,none⟩) 2 c3)):=fun o=>⟨((below_al (Below.refl _ _)).block _ X4.out.lt').trans X4.out.at_⟩
 have x8:=fun o=>(X5.out o).cells.2.2.2.2.2.2.2.2
 have R5:Hid (∀ o,RD 4 (v4.alloc o) xvT (.slice a3 m3 d3) (.slice (some ⟨b3,o3,none⟩) 2 c3)):=fun o=>K3.out.2.2 _ fun k _ hk=>(L35.out o).block k (Nat.lt_of_lt_of_le hk K3.out.2.1)
 have el:Hid (∀ o,∃ n1 l1,(v4.alloc o).rangeAt b3 (o3+9) (vals (vhd 3 xv2) n1 l1).toList):=fun o=>by
  obtain ⟨_,r2⟩:=R5.out o
  rcases r2 with ⟨h0,_⟩|⟨b,oo,c,sp,hls,_,_,hsp,hel⟩
  ·cases h0
  ·cases hls
   obtain ⟨n1,l1,e1,_⟩:=hel 1 (by decide)
   exact ⟨n1,l1,e1⟩
 have q6:∀ o,(v4.alloc o).cell? ⟨b3,o3+9+6,none⟩=some (.string ⟨#[32,97,65,62]⟩):=fun o=>by obtain ⟨n1,l1,h⟩:=el.out o;exact h 6 _ rfl
 clear P1 P2
 go_wp2_with fail
 go_ret
 exact ⟨rfl,below_then B4.out (below_al (Below.refl _ _))⟩
structure Cx (w:World)(n:Nat)(x:VT n)(h:Hd)(ns ls ns2 ls2:Value)(i2:Nat)(W:World):Prop where
 below:Below w.heap.size w W
 ba:Bx W w.heap.size h ns ls
 bb:Bx W i2 h ns2 ls2
 rd:RD n W x ns2 ls2
theorem Cx.then {w W W1:World} {n i2:Nat} {x:VT n} {h:Hd} {ns ls ns2 ls2:Value} (c:Cx w n x h ns ls ns2 ls2 i2 W)(hb:Below W.heap.size W W1):Cx w n x h ns ls ns2 ls2 i2 W1 :=
 ⟨below_then c.below hb,c.ba.below hb,c.bb.below hb,c.rd.below hb⟩
def RCk:Prop:=∀ (n:Nat)(x:VT n)(ns ls:Value)(w:World),Rdy n w x ns ls→∀ E:Int,Chk n x E→Calls Tryz.prog 26 #[.agg (vals (vhd n x) ns ls)] w fun e w'=>e=.returned (.int .i64 E)∧Below w.heap.size w w'
set_option maxRecDepth 100000 in
theorem writes_law (rck:RCk)(n:Nat)(x:VT n)(ns ls:Value)(w:World)(hr:RD n w x ns ls)(hz:Sz n x)(hg:Rg n x)(g:Ut.Gu w)(ht:Tab w.heap.size w)(gz:Gz w) :
  Calls Tryz.prog 3 #[.agg (vals (vhd n x) ns ls)] w fun e w'=>e=.returned (.bool true)∧Below w.heap.size w w':=by
 obtain ⟨a1,m1,d1,a2,m2,d2,rfl,rfl⟩:=hr.shape
 obtain ⟨h,hh⟩:∃ h,vhd n x=h:=⟨_,rfl⟩
 have hbig:=hide (fun o=>Go.Proofs.YthodiandebahdaaGreatDoor.big_any n x (.slice a1 m1 d1) (.slice a2 m2 d2) (w.alloc o) (hr.below (below_al (Below.refl _ _))) hz)
 have hB0:=hide (bx_new w h (.slice a1 m1 d1) (.slice a2 m2 d2))
 have hb0:Hid (∀ o,Below w.heap.size w (w.alloc o)):=fun o=>below_al (Below.refl _ _)
 have hcp:=hide (fun W (hb:Below w.heap.size w W)(hk:blk n x≤65536)=>copy_any n x _ _ W (hr.below hb) (by omega))
 replace hr:=hide hr
 replace hz:=hide hz
 replace g:=hide g
 replace hg:=hide hg
 replace ht:=hide ht
 replace rck:=hide rck
 replace gz:=hide gz
 have hh':=hide hh
 rw [hh] at hbig hcp ⊢
 clear hh
 simp only [vals] at hcp
 show Calls _ _ #[.agg #[.int .i64 h.kind,.bool h.flag,.bool h.neg,.string h.dig,.int .i64 h.exp,.int .u64 h.bits,.string h.text,.slice a1 m1 d1,.slice a2 m2 d2]] _ _
 go_enter Tryz.func3, Tryz.ntmps3
 go_wp2_with fail
 refine (hbig.out _).mono ?_
 rintro e w1 ⟨bb,rfl,hsm,hb1⟩
 have hw1:=hide (below_then (hb0.out _) hb1)
 have hB1:=hide (hB0.out.below hb1)
 clear hb1
 cases bb
 ·have hblk:=hide (hsm.out rfl)
  obtain ⟨c0,c1,c2,c3,c4,c5,c6,c7,c8⟩:=hB1.out.cells
  go_wp2_with fail
  refine (hcp.out _ hw1.out hblk.out.1).mono ?_
  rintro e w2 ⟨ns2,ls2,rfl,hk2,hb2⟩
  obtain ⟨e1,e2,e3,e4,e5,e6,rfl,rfl⟩:=hk2.out.rd.shape
  clear c0 c1 c2 c3 c4 c5 c6 c7 c8
  have C2:Hid (Cx w n x h (.slice a1 m1 d1) (.slice a2 m2 d2) (.slice e1 e2 e3) (.slice e4 e5 e6) w2.heap.size (w2.alloc (.cells (vals h (.slice e1 e2 e3) (.slice e4 e5 e6)) 29))) :=
   ⟨below_al (below_then hw1.out hb2),(hB1.out.below hb2).below (below_al (Below.refl _ _)),bx_new _ _ _ _,hk2.out.rd.below (below_al (Below.refl _ _))⟩
  clear hb2 hk2
  obtain ⟨E,hE⟩:=chk_ex n x
  have hsz:siz n x≤65536:=Nat.le_trans (siz_blk n x) hblk.out.1
  have Rv:Hid (∀ W,Below w.heap.size w W→Rdy n W x (.slice a1 m1 d1) (.slice a2 m2 d2)):=fun W hb=>⟨hr.out.below hb,hz.out,by omega⟩
  have Ro:Hid (∀ W,Cx w n x h (.slice a1 m1 d1) (.slice a2 m2 d2) (.slice e1 e2 e3) (.slice e4 e5 e6) w2.heap.size W→Rdy n W x (.slice e1 e2 e3) (.slice e4 e5 e6)):=fun W c=>⟨c.rd,hz.out,by omega⟩
  have tb:Hid (∀ W,Below w.heap.size w W→Tab W.heap.size W):=fun W hb=>Tab.up (ht.out.on hb) hb.size
  have k1:=hide (fun W (c:Cx w n x h (.slice a1 m1 d1) (.slice a2 m2 d2) (.slice e1 e2 e3) (.slice e4 e5 e6) w2.heap.size W)=>xwrite_any n x _ _ W (Ro.out W c) hg.out (g.out.below c.below) (tb.out W c.below) (gz.out.low c.below gz.out.low8) E hE)
  have k2:=hide (fun W (c:Cx w n x h (.slice a1 m1 d1) (.slice a2 m2 d2) (.slice e1 e2 e3) (.slice e4 e5 e6) w2.heap.size W)=>rwrite_any n x _ _ W (Rv.out W c.below) hg.out E hE (fun W1 hb=>rck.out n x _ _ W1 ((Rv.out W c.below).below hb) E hE))
  have k7:=hide (fun W (c:Cx w n x h (.slice a1 m1 d1) (.slice a2 m2 d2) (.slice e1 e2 e3) (.slice e4 e5 e6) w2.heap.size W)=>Calls.tb (b:=true) (requal_any n x x _ _ _ _ W (Ro.out W c).rd (Rv.out W c.below).rd) (by simp))
  have k8:=hide (fun W (c:Cx w n x h (.slice a1 m1 d1) (.slice a2 m2 d2) (.slice e1 e2 e3) (.slice e4 e5 e6) w2.heap.size W)=>xawake_any W (g.out.below c.below) (tb.out W c.below) (gz.out.low c.below gz.out.low8))
  rw [hh'.out] at k1 k2 k7
  simp only [vals] at k1 k2 k7
  obtain ⟨J,hJ⟩:∃ J,xtx n x=J:=⟨_,rfl⟩
  rw [hJ] at k2
  have hJ':=hide hJ
  clear hE hsz hJ Rv Ro hcp hbig hB0 hb0
  go_wp2_with fail
  refine (k1.out _ C2.out).mono ?_
  rintro e w3 ⟨hb3,p1,p2⟩
  rw [hJ'.out] at p2
  have C3:=hide (C2.out.then hb3)
  clear hb3 C2
  have p1':=hide p1
  have p2':=hide p2
  clear p1 p2
  by_cases hE0:E=0
  ·subst hE0
   by_cases hz:J.length≤65536
   ·obtain ⟨ab,mb,cb0,rfl,hob⟩:=(p2'.out rfl).1 hz
    have hOb:=hide hob
    clear hob
    obtain ⟨q0,q1,q2,q3,q4,q5,q6,q7,q8⟩:=C3.out.ba.cells
    go_wp2_with fail
    refine (k2.out _ C3.out).mono ?_
    rintro e w4 ⟨hb4,r1,r2⟩
    have C4:=hide (C3.out.then hb4)
    have B4:=hide hb4
    obtain ⟨aw,cw,rfl,hrw⟩:=(r2 rfl).1 hz
    have hRw:=hide hrw
    clear hrw
    clear hb4 q0 q1 q2 q3 q4 q5 q6 q7 q8 r1 r2
    obtain ⟨p0,p1,p2,p3,p4,p5,p6,p7,p8⟩:=C4.out.ba.cells
    obtain ⟨q0,q1,q2,q3,q4,q5,q6,q7,q8⟩:=C4.out.bb.cells
    go_wp2_with fail
    refine (k8.out _ C4.out).mono ?_
    rintro e w5 ⟨rfl,hb5⟩
    have C5:=hide (C4.out.then hb5)
    have cb:=own_conv (ownsRow_of hOb.out fun k _ hlt=>((below_then B4.out hb5).block k hlt))
    have cw2:=hRw.out w5 hb5
    clear hb5 p0 p1 p2 p3 p4 p5 p6 p7 p8 q0 q1 q2 q3 q4 q5 q6 q7 q8
    obtain ⟨p0,p1,p2,p3,p4,p5,p6,p7,p8⟩:=C5.out.ba.cells
    obtain ⟨q0,q1,q2,q3,q4,q5,q6,q7,q8⟩:=C5.out.bb.cells
    go_wp2_with fail
    refine (k7.out _ C5.out).mono ?_
    rintro e w6 ⟨rfl,hb6⟩
    have C6:=hide (C5.out.then hb6)
    clear hb6
    go_wp2_with fail
    go_ret
    exact ⟨by first|rfl|(simp;done),C6.out.below⟩
   ·have hz2:65536<J.length:=by omega
    have r3:=(p2'.out rfl).2 hz2
    subst r3
    obtain ⟨q0,q1,q2,q3,q4,q5,q6,q7,q8⟩:=C3.out.ba.cells
    go_wp2_with fail
    refine (k2.out _ C3.out).mono ?_
    rintro e w4 ⟨hb4,r1,r2⟩
    have C4:=hide (C3.out.then hb4)
    have B4:=hide hb4
    have r4:=(r2 rfl).2 hz2
    subst r4
    clear hb4 q0 q1 q2 q3 q4 q5 q6 q7 q8 r1 r2
    obtain ⟨p0,p1,p2,p3,p4,p5,p6,p7,p8⟩:=C4.out.ba.cells
    obtain ⟨q0,q1,q2,q3,q4,q5,q6,q7,q8⟩:=C4.out.bb.cells
    go_wp2_with fail
    refine (k8.out _ C4.out).mono ?_
    rintro e w5 ⟨rfl,hb5⟩
    have C5:=hide (C4.out.then hb5)
    have cb:=own_conv (own_nil w5 0)
    clear hb5 p0 p1 p2 p3 p4 p5 p6 p7 p8 q0 q1 q2 q3 q4 q5 q6 q7 q8
    obtain ⟨p0,p1,p2,p3,p4,p5,p6,p7,p8⟩:=C5.out.ba.cells
    obtain ⟨q0,q1,q2,q3,q4,q5,q6,q7,q8⟩:=C5.out.bb.cells
    go_wp2_with fail
    refine (k7.out _ C5.out).mono ?_
    rintro e w6 ⟨rfl,hb6⟩
    have C6:=hide (C5.out.then hb6)
    clear hb6
    go_wp2_with fail
    go_ret
    exact ⟨by first|rfl|(simp;done),C6.out.below⟩
  ·have r3:=p1'.out hE0
   subst r3
   have hE0':=hide hE0
   clear hE0
   obtain ⟨q0,q1,q2,q3,q4,q5,q6,q7,q8⟩:=C3.out.ba.cells
   go_wp2_with fail
   refine (k2.out _ C3.out).mono ?_
   rintro e w4 ⟨hb4,r1,r2⟩
   have C4:=hide (C3.out.then hb4)
   have B4:=hide hb4
   have r4:=r1 hE0'.out
   subst r4
   clear hb4 q0 q1 q2 q3 q4 q5 q6 q7 q8 r1 r2
   obtain ⟨p0,p1,p2,p3,p4,p5,p6,p7,p8⟩:=C4.out.ba.cells
   obtain ⟨q0,q1,q2,q3,q4,q5,q6,q7,q8⟩:=C4.out.bb.cells
   go_wp2_with fail
   refine (k8.out _ C4.out).mono ?_
   rintro e w5 ⟨rfl,hb5⟩
   have C5:=hide (C4.out.then hb5)
   have cb:=own_conv (own_nil w5 0)
   clear hb5 p0 p1 p2 p3 p4 p5 p6 p7 p8 q0 q1 q2 q3 q4 q5 q6 q7 q8
   obtain ⟨p0,p1,p2,p3,p4,p5,p6,p7,p8⟩:=C5.out.ba.cells
   obtain ⟨q0,q1,q2,q3,q4,q5,q6,q7,q8⟩:=C5.out.bb.cells
   go_wp2_with fail
   refine (k7.out _ C5.out).mono ?_
   rintro e w6 ⟨rfl,hb6⟩
   have C6:=hide (C5.out.then hb6)
   clear hb6
   go_wp2_with fail
   go_ret
   exact ⟨by first|rfl|(simp;done),C6.out.below⟩
 ·go_wp2_with fail
  go_ret
  exact ⟨rfl,hw1.out⟩
end Go.Proofs.YthodiandebahdaaGreatDoor
