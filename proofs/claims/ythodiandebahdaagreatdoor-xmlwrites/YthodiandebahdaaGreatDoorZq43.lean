/- Merged by program: DkPure, BaRow, DiAtt, DjAtt, DlFeed. -/
import Derived.Test.YthodiandebahdaaGreatDoorZq42
namespace Go.Proofs.YthodiandebahdaaGreatDoor
open Go.RowKit
set_option linter.unusedSimpArgs false
set_option linter.unusedVariables false
set_option maxHeartbeats 8000000
theorem bnd_inr {α β γ:Type} {o:Sum α β} {f:β→Sum α γ} {x:γ} (h:bnd o f=.inr x):∃ y,o=.inr y∧f y=.inr x:=by
 cases o with
 | inl E=>cases h
 | inr y=>exact ⟨y,rfl,h⟩
theorem tellT_f {E0:Int} {t x:Tl} {e:Hd} (h:tellT E0 t e=.inr x):x.n=t.n+1∧x.total=t.total:=by
 unfold tellT at h
 split at h
 ·cases h
 ·split at h
  ·split at h
   ·cases h
   ·cases h;exact ⟨rfl,rfl⟩
  ·cases h;exact ⟨rfl,rfl⟩
theorem passT_f {t x:Tl} (h:passT t=.inr x):x.n=t.n∧x.total=t.total∧t.total≤16:=by
 unfold passT at h
 split at h
 ·cases h
 ·cases h;exact ⟨rfl,rfl,by omega⟩
theorem countT_f {t x:Tl} (h:countT t=.inr x):x.n=t.n∧x.total=t.total+1∧x.total≤65536:=by
 unfold countT at h
 split at h
 ·obtain ⟨h1,h2,h3⟩:=passT_f h
  simp only at h1 h2 h3
  exact ⟨h1,h2,by omega⟩
 ·rename_i hn
  cases h
  exact ⟨rfl,rfl,by show t.total+1≤_;omega⟩
theorem tellN_f {E0:Int} {t x:Tl} {s:ByteArray} (h:tellN E0 t s=.inr x):x.n=t.n+1∧x.total=t.total:=by
 unfold tellN at h
 split at h
 ·exact tellT_f h
 ·split at h
  ·obtain ⟨y,h1,h2⟩:=bnd_inr h
   obtain ⟨a1,a2,_⟩:=passT_f h1
   obtain ⟨b1,b2⟩:=tellT_f h2
   exact ⟨by omega,by omega⟩
  ·cases h
structure Gx (st x:Xs):Prop where
 n:x.t.n≤st.t.n+1
 tot:x.t.total=st.t.total
 mkl:x.mark=st.mark
 rf:x.ref.length≤st.ref.length
theorem Gx.same {st x:Xs} (h1:x.t=st.t)(h2:x.mark=st.mark)(h3:x.ref.length≤st.ref.length):Gx st x:=⟨by rw [h1];omega,by rw [h1],h2,h3⟩
theorem elemS_g {st x:Xs} {e:Hd} (h:elemS st e=.inr x):Gx st x:=by
 obtain ⟨y,h1,h2⟩:=bnd_inr h
 obtain ⟨a1,a2⟩:=tellT_f h1
 cases h2
 exact ⟨by show y.n≤_;omega,a2,rfl,Nat.le_refl _⟩
theorem beginS_g {st x:Xs} {e:Hd} (h:beginS st e=.inr x):Gx st x:=by
 obtain ⟨y,h1,h2⟩:=bnd_inr h
 obtain ⟨a1,a2⟩:=tellT_f h1
 cases h2
 exact ⟨by show y.n≤_;omega,a2,rfl,Nat.le_refl _⟩
theorem numS_g {st x:Xs} {s:ByteArray} (h:numS st s=.inr x):Gx st x:=by
 obtain ⟨y,h1,h2⟩:=bnd_inr h
 obtain ⟨a1,a2⟩:=tellN_f h1
 cases h2
 exact ⟨by show y.n≤_;omega,a2,rfl,Nat.le_refl _⟩
theorem Gx.row0 {st x:Xs} (h:Gx (row0 st) x):Gx st x:=⟨h.n,h.tot,h.mkl,Nat.le_trans h.rf (Nat.zero_le _)⟩
theorem endRowS_g {st x:Xs} {k:Int} (h:endRowS st k=.inr x):Gx st x:=by
 unfold endRowS at h
 split at h
 ·cases h
 split at h
 ·exact (numS_g h).row0
 split at h
 ·unfold floatS at h
  split at h
  ·exact (elemS_g h).row0
  ·cases h
 split at h
 ·exact (elemS_g h).row0
 split at h
 ·unfold bytesS at h
  split at h
  ·cases h
  ·exact (elemS_g h).row0
 ·cases h
  exact Gx.row0 (Gx.same rfl rfl (Nat.le_refl _))
theorem markS_g {st x:Xs} {p:Nat×Int×Bool} (h:markS st p=.inr x):Gx st x:=by
 unfold markS at h
 split at h
 ·split at h
  ·cases h
  ·exact elemS_g h
 split at h
 ·split at h
  ·cases h
  ·cases h;exact Gx.same rfl rfl (Nat.le_refl _)
 split at h
 ·exact endRowS_g h
 split at h
 ·split at h
  ·cases h
  ·exact beginS_g h
 split at h
 ·unfold beginNameS at h
  split at h
  ·split at h
   ·cases h
   ·cases h;exact Gx.same rfl rfl (Nat.le_refl _)
  ·split at h
   ·cases h
   ·cases h;exact Gx.same rfl rfl (Nat.le_refl _)
 split at h
 ·unfold endNameS at h
  split at h
  ·cases h
  ·exact (beginS_g h).row0
 ·unfold endPartS at h
  split at h
  ·cases h
  ·split at h
   ·cases h;exact Gx.same rfl rfl (Nat.le_refl _)
   ·have:=elemS_g h
    exact ⟨this.n,this.tot,this.mkl,this.rf⟩
structure Wy (st:Xs):Prop where
 wx:Wx st
 n:st.t.n≤st.t.total
 tot:st.t.total≤65536
theorem holdS_g {st x:Xs} {l:List UInt8} (h:holdS st l=.inr x):x.t=st.t∧x.mark=st.mark∧x.ref=st.ref:=by
 unfold holdS at h
 split at h
 ·cases h
 ·cases h;exact ⟨rfl,rfl,rfl⟩
theorem goX_g {st x:Xs} {c:UInt8} (w:Wx st)(h:goX st c=.inr x):x.t.n≤st.t.n+1∧x.t.total=st.t.total∧Wx x:=by
 unfold goX at h
 split at h
 ·unfold inMarkS at h
  split at h
  ·have g:=markS_g h
   exact ⟨g.n,g.tot,⟨by rw [g.mkl];exact Nat.zero_le _,Nat.le_trans g.rf w.rf⟩⟩
  ·split at h
   ·cases h
   ·rename_i hne
    cases h
    exact ⟨by show st.t.n≤_;omega,rfl,⟨by show (st.mark++[c]).length≤12;have:=w.mkl;simp;omega,w.rf⟩⟩
 split at h
 ·unfold inRefS at h
  split at h
  ·split at h
   ·cases h
   ·obtain ⟨e1,e2,e3⟩:=holdS_g h
    exact ⟨by rw [e1];show st.t.n≤_;omega,by rw [e1],⟨by rw [e2];exact w.mkl,by rw [e3];exact Nat.zero_le _⟩⟩
  ·split at h
   ·cases h
   ·rename_i hne
    cases h
    exact ⟨by show st.t.n≤_;omega,rfl,⟨w.mkl,by show (st.ref++[c]).length≤9;have:=w.rf;simp;omega⟩⟩
 split at h
 ·cases h
  exact ⟨by show st.t.n≤_;omega,rfl,⟨by show [c].length≤12;simp,w.rf⟩⟩
 split at h
 ·unfold rowS at h
  split at h
  ·cases h
  split at h
  ·rename_i hr _ _ _ _
   cases h
   refine ⟨by show st.t.n≤_;omega,rfl,⟨w.mkl,?_⟩⟩
   show (st.ref++[c]).length≤9
   have:st.ref=[]:=by
    by_cases e:st.ref=[]
    ·exact e
    ·contradiction
   rw [this];simp
  ·obtain ⟨e1,e2,e3⟩:=holdS_g h
   exact ⟨by rw [e1];omega,by rw [e1],⟨by rw [e2];exact w.mkl,by rw [e3];exact w.rf⟩⟩
 split at h
 ·cases h;exact ⟨by omega,rfl,w⟩
 ·cases h
theorem takeX_w {st x:Xs} {c:UInt8} (w:Wy st)(h:takeX st c=.inr x):Wy x:=by
 obtain ⟨t,h1,h2⟩:=bnd_inr h
 obtain ⟨a1,a2,a3⟩:=countT_f h1
 obtain ⟨b1,b2,b3⟩:=goX_g (st:={st with t:=t}) ⟨w.wx.mkl,w.wx.rf⟩ h2
 simp only at b1 b2
 exact ⟨b3,by have:=w.n;omega,by omega⟩
def feedX (st:Xs):List UInt8→Sum Int Xs
 | []=>.inr st
 | c :: l=>bnd (takeX st c) fun x=>feedX x l
theorem feedX_app (st:Xs)(a b:List UInt8):feedX st (a++b)=bnd (feedX st a) fun x=>feedX x b:=by
 induction a generalizing st with
 | nil=>rfl
 | cons c a ih =>
  show bnd (takeX st c) (fun x=>feedX x (a++b))=bnd (bnd (takeX st c) fun x=>feedX x a) fun x=>feedX x b
  cases takeX st c with
  | inl E=>rfl
  | inr y=>exact ih y
theorem feedX_snoc (st:Xs)(a:List UInt8)(c:UInt8):feedX st (a++[c])=bnd (feedX st a) fun x=>takeX x c:=by
 rw [feedX_app]
 cases feedX st a with
 | inl E=>rfl
 | inr y =>
  show bnd (takeX y c) (fun x=>.inr x)=takeX y c
  cases takeX y c <;> rfl
def bdX (st:Xs):List UInt8→Bool
 | []=>false
 | c :: l=>(c==59 && (refC (st.ref++[c])).isNone) || (match takeX st c with
  | .inr x=>bdX x l
  | .inl _=>false)
theorem bd_at:∀ (l:List UInt8)(st:Xs)(k:Nat)(h:k<l.length)(x:Xs),feedX st (l.take k)=.inr x→bdR x l[k]→bdX st l=true
 | [],st,k,h,x,hf,hb=>by simp at h
 | c :: l,st,0,h,x,hf,hb=>by
  cases hf
  obtain ⟨h1,h2⟩:=hb
  simp only [List.getElem_cons_zero] at h1 h2
  unfold bdX
  rw [h2,h1]
  rfl
 | c :: l,st,k+1,h,x,hf,hb=>by
  simp only [List.take_succ_cons] at hf
  obtain ⟨y,h1,h2⟩:=bnd_inr hf
  have:=bd_at l y k (by simpa using h) x h2 (by simpa using hb)
  unfold bdX
  rw [h1]
  simp only [this,Bool.or_true]
theorem feedX_w {l:List UInt8} {st x:Xs} (w:Wy st)(h:feedX st l=.inr x):Wy x:=by
 induction l generalizing st with
 | nil=>cases h;exact w
 | cons c l ih =>
  obtain ⟨y,h1,h2⟩:=bnd_inr h
  exact ih (takeX_w w h1) h2
theorem x0_w:Wy x0:=⟨⟨Nat.zero_le _,Nat.zero_le _⟩,Nat.le_refl _,Nat.zero_le _⟩
def hw (st:Xs)(k:Nat)(h r:List UInt8):Xs:={st with t:={st.t with total:=st.t.total+k},held:=h,ref:=r}
section
variable {W W1 W2 : World} {r : Nat} {g : Tg} {m m1 : Xm} {st : Xs}
set_option maxRecDepth 100000 in
theorem attF_x (h:XM W r g m st) {p q s:Nat} (o:Sum Int Xs)(DO:∀ w1,XM w1 r g m st→XF g m W w1→Calls Tryz.prog 57 #[.pointer (some ⟨p,0,none⟩),.pointer (some ⟨q,0,none⟩),.pointer (some ⟨s,0,none⟩)] w1 fun e w'=>XP w1 r g m o e w') :
  Calls Tryz.prog 56 #[.pointer (some ⟨g.t,0,none⟩),.func (.func 57) #[] #[.pointer (some ⟨p,0,none⟩),.pointer (some ⟨q,0,none⟩),.pointer (some ⟨s,0,none⟩)]] W fun e w'=>AT W r g m o e w':=by
 have hmf:∀ (fn:Fn)(first cap:Array Value) (w:World),(Instr.makeFunc fn first cap).run Tryz.prog w=.ok (.func fn first cap) w:=fun _ _ _ _=>rfl
 have hlt:=h.lt
 obtain ⟨W3,hW3⟩:∃ W3,W3=((W.alloc (.cells #[.pointer (some ⟨g.t,0,none⟩)] 62)).alloc (.cells #[.slice none 0 0] 45)).alloc (.cells #[.int .i64 0] 33):=⟨_,rfl⟩
 have B3:Hid (Below W.heap.size W W3):=by rw [hW3];exact below_al (below_al (below_al (Below.refl _ _)))
 have M3:=hide (h.then B3.out)
 have nb:=fun k (hk:W.heap.size≤k)=>h.nob hk
 have X1:Hid (Bo W3 m W.heap.size (.pointer (some ⟨g.t,0,none⟩)) 62):=⟨by
  rw [hW3,Below.heap_alloc _ _ _ (by simp;omega),Below.heap_alloc _ _ _ (by simp)];exact heap_alloc_last _ _,nb _ (Nat.le_refl _)⟩
 have X2:Hid (Bo W3 m (W.heap.size+1) (.slice none 0 0) 45):=⟨by
  rw [hW3,Below.heap_alloc _ _ _ (by simp)]
  have:=heap_alloc_last (W.alloc (.cells #[.pointer (some ⟨g.t,0,none⟩)] 62)) (.cells #[.slice none 0 0] 45)
  rw [World.size_alloc] at this
  exact this,nb _ (Nat.le_succ _)⟩
 have X3:Hid (Bo W3 m (W.heap.size+1+1) (.int .i64 0) 33):=⟨by
  rw [hW3]
  have:=heap_alloc_last ((W.alloc (.cells #[.pointer (some ⟨g.t,0,none⟩)] 62)).alloc (.cells #[.slice none 0 0] 45)) (.cells #[.int .i64 0] 33)
  rw [World.size_alloc,World.size_alloc] at this
  exact this,nb _ (by omega)⟩
 have lo:=hide h.low
 have gkr:=hide h.t.gk.loR
 have htl:=h.t.lt
 have D3:=hide (DO W3 M3.out (XF.of B3.out lo.out))
 rw [hW3] at D3
 have c0:=(M3.out.t.tb.cell 1).trans (show _=some (.int .i64 0) from rfl)
 have c1:=X1.out.cell
 have c2:=X2.out.cell
 have c3:=X3.out.cell
 rw [hW3] at c0 c1 c2 c3
 clear h nb DO
 obtain ⟨k,hk⟩:∃ k,W.heap.size=k:=⟨_,rfl⟩
 have hk':=hide hk
 rw [hk] at c1 c2 c3 X1 X2 X3
 cases o with
 | inl E =>
  go_enter_defers Tryz.func56, Tryz.ntmps56
  go_wp2_with (go_at_call 57;refine Sto.out ?_)
  refine Sto.mk (D3.out.mono ?_)
  rintro e w1 ⟨hp1,rfl,⟨s2,hp4,hs2⟩,s1,hp2⟩
  rw [←hW3] at hp1
  have F1:Hid (XF g m W w1):=(XF.of B3.out lo.out).trans (OMx.refl _ _) hp1
  have Y1:=hide (X1.out.move hp1 (OMx.refl _ _) noT_tl)
  have Y2:=hide (X2.out.move hp1 (OMx.refl _ _) noT_ev)
  have Y3:=hide (X3.out.move hp1 (OMx.refl _ _) noT_er)
  have R1:=hide hp2
  have R2:=hide hp4
  have d1:=Y1.out.cell
  have d2:=Y2.out.cell
  have d3:=Y3.out.cell
  have f2:=Y2.out.frz
  have f3:=Y3.out.frz
  clear c0 c1 c2 c3 hp1 hp2 hp4
  have rk:g.t<k:=by omega
  have rk2:r<k:=by omega
  go_wp2_with fail
  unfold pan
  refine leaves_cons (f:=85) (args:=#[.pointer (some ⟨k,0,none⟩),.pointer (some ⟨k+1,0,none⟩),.pointer (some ⟨k+1+1,0,none⟩)]) (by simp) (by simp [go_sem]) ?_
  refine (acatch_pan k (k+1) (k+1+1) g.t s1 0 (.slice none 0 0) [] _ d1 R1.out d2 f2 d3 f3 (by omega) (by omega) (by omega) E).mono ?_
  rintro e u' w'' ⟨rfl,rfl,rfl⟩
  have DR:=dead_rd R1.out E
  have DB:=dead_but w1 g.t E
  obtain ⟨D,hD⟩:∃ D,dead7 w1 g.t E=D:=⟨_,rfl⟩
  rw [hD] at DR DB ⊢
  have g2:Bo D m (k+1) (.slice none 0 0) 45:=⟨(DB.blk _ (by omega)).trans Y2.out.1,Y2.out.2⟩
  have g3:Bo D m (k+1+1) (.int .i64 0) 33:=⟨(DB.blk _ (by omega)).trans Y3.out.1,Y3.out.2⟩
  have e2:((D.setCell ⟨k+1,0,none⟩ (.slice none 0 0)).setCell ⟨k+1+1,0,none⟩ (.int .i64 E)).cell? ⟨k+1,0,none⟩=some (.slice none 0 0):=((g2.set _).other (by omega)).cell
  have e3:((D.setCell ⟨k+1,0,none⟩ (.slice none 0 0)).setCell ⟨k+1+1,0,none⟩ (.int .i64 E)).cell? ⟨k+1+1,0,none⟩=some (.int .i64 E):=((g3.other (b:=k+1) (j:=0) (u:=.slice none 0 0) (by omega)).set _).cell
  have FD:XF g m W D:=by
   refine ⟨F1.out.below.trans (DB.below (by have:=gkr.out;omega)),fun q c T f hq t1 t2 t3 t4 t5 t6 t7 n1 n2 n3 n4=>?_⟩
   rw [DB.blk q (fun e=>?_)]
   ·exact F1.out.keep q c T f hq t1 t2 t3 t4 t5 t6 t7 n1 n2 n3 n4
   ·have:=F1.out.keep q c T f hq t1 t2 t3 t4 t5 t6 t7 n1 n2 n3 n4
    have hr:=R1.out
    unfold TlB at hr
    rw [e,hr] at this
    exact t2 (cells_ty this).symm
  have RZ:TlE ((D.setCell ⟨k+1,0,none⟩ (.slice none 0 0)).setCell ⟨k+1+1,0,none⟩ (.int .i64 E)) g.t E:=by
   unfold TlE
   rw [Below.heap_setCell _ _ _ _ (show g.t≠k+1+1 by omega),Below.heap_setCell _ _ _ _ (show g.t≠k+1 by omega)]
   exact DR
  have XZ:XdB ((D.setCell ⟨k+1,0,none⟩ (.slice none 0 0)).setCell ⟨k+1+1,0,none⟩ (.int .i64 E)) r s2:=by
   have hx:=R2.out
   unfold XdB at hx ⊢
   rw [Below.heap_setCell _ _ _ _ (show r≠k+1+1 by omega),Below.heap_setCell _ _ _ _ (show r≠k+1 by omega),DB.blk r (fun e=>?_)]
   ·exact hx
   ·have hr:=R1.out
    unfold TlB at hr
    rw [e,hr] at hx
    exact absurd (cells_ty hx) (by decide)
  have FZ:=(FD.bx (k:=k+1) (by rw [hk'.out];omega) lo.out (.slice none 0 0)).bx (k:=k+1+1) (by rw [hk'.out];omega) lo.out (.int .i64 E)
  obtain ⟨Z,hZ⟩:∃ Z,(D.setCell ⟨k+1,0,none⟩ (.slice none 0 0)).setCell ⟨k+1+1,0,none⟩ (.int .i64 E)=Z:=⟨_,rfl⟩
  rw [hZ] at e2 e3 RZ XZ FZ ⊢
  clear hZ g2 g3 FD hD DR DB
  simp [Leaves,settle,results,Tryz.results56,go_sem,e2,e3]
  exact ⟨FZ,rfl,RZ,s2,XZ,hs2⟩
 | inr x =>
  go_enter_defers Tryz.func56, Tryz.ntmps56
  go_wp2_with (go_at_call 57;refine Sto.out ?_)
  refine Sto.mk (D3.out.mono ?_)
  rintro e w1 ⟨hp1,rfl,m1,hp2,hp3⟩
  rw [←hW3] at hp1 hp3
  have F1:Hid (XF g m W w1):=(XF.of B3.out lo.out).trans (OMx.refl _ _) hp1
  have O1:Hid (OMx W m m1):=(OMx.refl _ _).trans hp3 B3.out.size
  have Y1:=hide (X1.out.move hp1 hp3 noT_tl)
  have Y2:=hide (X2.out.move hp1 hp3 noT_ev)
  have Y3:=hide (X3.out.move hp1 hp3 noT_er)
  have M1:=hide hp2
  obtain ⟨ta,tc,hT⟩:=hp2.t.shT
  have d1:=Y1.out.cell
  have d2:=Y2.out.cell
  have d3:=Y3.out.cell
  have f2:=Y2.out.frz
  have f3:=Y3.out.frz
  have d14:w1.cell? ⟨g.t,6,none⟩=some (.slice ta x.t.told.length tc):=(hp2.t.tb.cell 6).trans (by rw [←hT];rfl)
  have f14:w1.frozen? ⟨g.t,6,none⟩=false:=hp2.t.tb.frz 6
  have hT':=hide hT
  clear c0 c1 c2 c3 hp1 hp2 hp3 hT
  have rk:g.t<k:=by omega
  have rk2:r<k:=by omega
  have n1:¬ g.t=k:=by omega
  have n2:¬ g.t=k+1:=by omega
  have n3:¬ g.t=k+1+1:=by omega
  have n4:¬ k+1=g.t:=by omega
  have n5:¬ k=g.t:=by omega
  go_wp2_with fail
  refine wp_region_noPanic ?_
  go_region_with (fail)
  all_goals
   refine NoPanic.normal ?_
   go_wp2_with fail
   refine leaves_cons (f:=85) (args:=#[.pointer (some ⟨k,0,none⟩),.pointer (some ⟨k+1,0,none⟩),.pointer (some ⟨k+1+1,0,none⟩)]) (by simp) (by simp [go_sem]) ?_
   refine (acatch_idle ⟨k,0,none⟩ ⟨k+1,0,none⟩ ⟨k+1+1,0,none⟩ _).mono ?_
   rintro e u' w'' ⟨rfl,rfl,rfl⟩
   have hlo:g.lo≤k:=by have:=lo.out;rw [hk'.out] at this;exact this
   have A1:=M1.out.bx Y2.out noT_ev (by omega) (.slice ta x.t.told.length tc)
   have A2:=A1.t0
   have G2:=((Y2.out.set (.slice ta x.t.told.length tc)).other (b:=g.t) (j:=6) (u:=.slice none 0 0) (by omega))
   have G3:=((Y3.out.other (b:=k+1) (j:=0) (u:=.slice ta x.t.told.length tc) (by omega)).other (b:=g.t) (j:=6) (u:=.slice none 0 0) (by omega))
   have nn:∀ {q:Nat},NoX m1 q→NoX {m1 with t:={m1.t with told:=.slice none 0 0} } q:=fun nb=>⟨nb.1,nb.2.1,nb.2.2.1,fun e=>by cases e⟩
   have A3:=A2.1.bx ⟨G2.1,nn G2.2⟩ noT_ev (by omega) (.slice ta x.t.told.length tc)
   have G2':=G2.set (.slice ta x.t.told.length tc)
   have G3':=G3.other (b:=k+1) (j:=0) (u:=.slice ta x.t.told.length tc) (by omega)
   have A4:=A3.bx ⟨G3'.1,nn G3'.2⟩ noT_er (by omega) (.int .i64 0)
   have G2'':=G2'.other (b:=k+1+1) (j:=0) (u:=.int .i64 0) (by omega)
   have G3'':=G3'.set (.int .i64 0)
   have P1:=F1.out.bx (k:=k+1) (by rw [hk'.out];omega) lo.out (.slice ta x.t.told.length tc)
   have P2:=P1.trans O1.out A2.2.1
   have P3:=P2.bx (k:=k+1) (by rw [hk'.out];omega) lo.out (.slice ta x.t.told.length tc)
   have P4:=P3.bx (k:=k+1+1) (by rw [hk'.out];omega) lo.out (.int .i64 0)
   have OT:w1.ownsRow (g.t+1) 76 7 (.slice ta x.t.told.length tc) x.t.told.length (ecs x.t.told):=hT'.out ▸ M1.out.t.told
   have nbt:=fun q (hq:(Value.slice ta x.t.told.length tc).ownBlock=some q)=>(show q≠g.t∧q≠k+1∧q≠k+1+1 from ⟨by have:=(World.ownsRow.lt OT q hq).1;omega,fun e=>Y2.out.2.2.2.2 (by rw [hT'.out,hq,e]),fun e=>Y3.out.2.2.2.2 (by rw [hT'.out,hq,e])⟩)
   have OZ:((((w1.setCell ⟨k+1,0,none⟩ (.slice ta x.t.told.length tc)).setCell ⟨g.t,6,none⟩ (.slice none 0 0)).setCell ⟨k+1,0,none⟩ (.slice ta x.t.told.length tc)).setCell ⟨k+1+1,0,none⟩ (.int .i64 0)).ownsRow (g.t+1) 76 7 (.slice ta x.t.told.length tc) x.t.told.length (ecs x.t.told):=own_of OT fun q hq _=>by
    obtain ⟨q1,q2,q3⟩:=nbt q hq
    rw [Below.heap_setCell _ _ _ _ q3,Below.heap_setCell _ _ _ _ q2,Below.heap_setCell _ _ _ _ q1,Below.heap_setCell _ _ _ _ q2]
   have OBv:OB W m.t.told (.slice ta x.t.told.length tc):=by rw [←hT'.out];exact O1.out.told
   have OMm:OMx W m {m1 with t:={m1.t with told:=.slice none 0 0} }:=⟨O1.out.mark,O1.out.held,O1.out.ref,Or.inr fun q hq=>by cases hq⟩
   have dr:=fun (Z:World)=>(dn_b Z 1)
   obtain ⟨Z,hZ⟩:∃ Z,(((w1.setCell ⟨k+1,0,none⟩ (.slice ta x.t.told.length tc)).setCell ⟨g.t,6,none⟩ (.slice none 0 0)).setCell ⟨k+1,0,none⟩ (.slice ta x.t.told.length tc)).setCell ⟨k+1+1,0,none⟩ (.int .i64 0)=Z:=⟨_,rfl⟩
   rw [hZ] at A4 G2'' G3'' P4 OZ ⊢
   have e2:Z.drew.cell? ⟨k+1,0,none⟩=some (.slice ta x.t.told.length tc):=G2''.cell
   have e3:Z.drew.cell? ⟨k+1+1,0,none⟩=some (.int .i64 0):=G3''.cell
   clear hZ A1 A2 A3 G2 G3 G2' G3' P1 P2 P3
   simp [Leaves,settle,results,Tryz.results56,go_sem,e2,e3]
   refine ⟨P4.trans (OMx.refl _ _) (XF.of (Below.refl Z.heap.size Z).drew (by have:=P4.below.size;have:=lo.out;omega)),{m1 with t:={m1.t with told:=.slice none 0 0} },.slice ta x.t.told.length tc,rfl,A4.then (Below.refl Z.heap.size Z).drew,OMm,rfl,own_of OZ fun q _ _=>rfl,OBv⟩
end
section
variable {W W1 W2 : World} {r : Nat} {g : Tg} {m m1 : Xm} {st : Xs}
set_option maxRecDepth 100000 in
theorem attE_x (h:XM W r g m st) {p q:Nat} (o:Sum Int Xs)(DO:∀ w1,XM w1 r g m st→XF g m W w1→Calls Tryz.prog 63 #[.pointer (some ⟨p,0,none⟩),.pointer (some ⟨q,0,none⟩)] w1 fun e w'=>XP w1 r g m o e w') :
  Calls Tryz.prog 56 #[.pointer (some ⟨g.t,0,none⟩),.func (.func 63) #[] #[.pointer (some ⟨p,0,none⟩),.pointer (some ⟨q,0,none⟩)]] W fun e w'=>AT W r g m o e w':=by
 have hmf:∀ (fn:Fn)(first cap:Array Value) (w:World),(Instr.makeFunc fn first cap).run Tryz.prog w=.ok (.func fn first cap) w:=fun _ _ _ _=>rfl
 have hlt:=h.lt
 obtain ⟨W3,hW3⟩:∃ W3,W3=((W.alloc (.cells #[.pointer (some ⟨g.t,0,none⟩)] 62)).alloc (.cells #[.slice none 0 0] 45)).alloc (.cells #[.int .i64 0] 33):=⟨_,rfl⟩
 have B3:Hid (Below W.heap.size W W3):=by rw [hW3];exact below_al (below_al (below_al (Below.refl _ _)))
 have M3:=hide (h.then B3.out)
 have nb:=fun k (hk:W.heap.size≤k)=>h.nob hk
 have X1:Hid (Bo W3 m W.heap.size (.pointer (some ⟨g.t,0,none⟩)) 62):=⟨by
  rw [hW3,Below.heap_alloc _ _ _ (by simp;omega),Below.heap_alloc _ _ _ (by simp)];exact heap_alloc_last _ _,nb _ (Nat.le_refl _)⟩
 have X2:Hid (Bo W3 m (W.heap.size+1) (.slice none 0 0) 45):=⟨by
  rw [hW3,Below.heap_alloc _ _ _ (by simp)]
  have:=heap_alloc_last (W.alloc (.cells #[.pointer (some ⟨g.t,0,none⟩)] 62)) (.cells #[.slice none 0 0] 45)
  rw [World.size_alloc] at this
  exact this,nb _ (Nat.le_succ _)⟩
 have X3:Hid (Bo W3 m (W.heap.size+1+1) (.int .i64 0) 33):=⟨by
  rw [hW3]
  have:=heap_alloc_last ((W.alloc (.cells #[.pointer (some ⟨g.t,0,none⟩)] 62)).alloc (.cells #[.slice none 0 0] 45)) (.cells #[.int .i64 0] 33)
  rw [World.size_alloc,World.size_alloc] at this
  exact this,nb _ (by omega)⟩
 have lo:=hide h.low
 have gkr:=hide h.t.gk.loR
 have htl:=h.t.lt
 have D3:=hide (DO W3 M3.out (XF.of B3.out lo.out))
 rw [hW3] at D3
 have c0:=(M3.out.t.tb.cell 1).trans (show _=some (.int .i64 0) from rfl)
 have c1:=X1.out.cell
 have c2:=X2.out.cell
 have c3:=X3.out.cell
 rw [hW3] at c0 c1 c2 c3
 clear h nb DO
 obtain ⟨k,hk⟩:∃ k,W.heap.size=k:=⟨_,rfl⟩
 have hk':=hide hk
 rw [hk] at c1 c2 c3 X1 X2 X3
 cases o with
 | inl E =>
  go_enter_defers Tryz.func56, Tryz.ntmps56
  go_wp2_with (go_at_call 63;refine Sto.out ?_)
  refine Sto.mk (D3.out.mono ?_)
  rintro e w1 ⟨hp1,rfl,⟨s2,hp4,hs2⟩,s1,hp2⟩
  rw [←hW3] at hp1
  have F1:Hid (XF g m W w1):=(XF.of B3.out lo.out).trans (OMx.refl _ _) hp1
  have Y1:=hide (X1.out.move hp1 (OMx.refl _ _) noT_tl)
  have Y2:=hide (X2.out.move hp1 (OMx.refl _ _) noT_ev)
  have Y3:=hide (X3.out.move hp1 (OMx.refl _ _) noT_er)
  have R1:=hide hp2
  have R2:=hide hp4
  have d1:=Y1.out.cell
  have d2:=Y2.out.cell
  have d3:=Y3.out.cell
  have f2:=Y2.out.frz
  have f3:=Y3.out.frz
  clear c0 c1 c2 c3 hp1 hp2 hp4
  have rk:g.t<k:=by omega
  have rk2:r<k:=by omega
  go_wp2_with fail
  unfold pan
  refine leaves_cons (f:=85) (args:=#[.pointer (some ⟨k,0,none⟩),.pointer (some ⟨k+1,0,none⟩),.pointer (some ⟨k+1+1,0,none⟩)]) (by simp) (by simp [go_sem]) ?_
  refine (acatch_pan k (k+1) (k+1+1) g.t s1 0 (.slice none 0 0) [] _ d1 R1.out d2 f2 d3 f3 (by omega) (by omega) (by omega) E).mono ?_
  rintro e u' w'' ⟨rfl,rfl,rfl⟩
  have DR:=dead_rd R1.out E
  have DB:=dead_but w1 g.t E
  obtain ⟨D,hD⟩:∃ D,dead7 w1 g.t E=D:=⟨_,rfl⟩
  rw [hD] at DR DB ⊢
  have g2:Bo D m (k+1) (.slice none 0 0) 45:=⟨(DB.blk _ (by omega)).trans Y2.out.1,Y2.out.2⟩
  have g3:Bo D m (k+1+1) (.int .i64 0) 33:=⟨(DB.blk _ (by omega)).trans Y3.out.1,Y3.out.2⟩
  have e2:((D.setCell ⟨k+1,0,none⟩ (.slice none 0 0)).setCell ⟨k+1+1,0,none⟩ (.int .i64 E)).cell? ⟨k+1,0,none⟩=some (.slice none 0 0):=((g2.set _).other (by omega)).cell
  have e3:((D.setCell ⟨k+1,0,none⟩ (.slice none 0 0)).setCell ⟨k+1+1,0,none⟩ (.int .i64 E)).cell? ⟨k+1+1,0,none⟩=some (.int .i64 E):=((g3.other (b:=k+1) (j:=0) (u:=.slice none 0 0) (by omega)).set _).cell
  have FD:XF g m W D:=by
   refine ⟨F1.out.below.trans (DB.below (by have:=gkr.out;omega)),fun q c T f hq t1 t2 t3 t4 t5 t6 t7 n1 n2 n3 n4=>?_⟩
   rw [DB.blk q (fun e=>?_)]
   ·exact F1.out.keep q c T f hq t1 t2 t3 t4 t5 t6 t7 n1 n2 n3 n4
   ·have:=F1.out.keep q c T f hq t1 t2 t3 t4 t5 t6 t7 n1 n2 n3 n4
    have hr:=R1.out
    unfold TlB at hr
    rw [e,hr] at this
    exact t2 (cells_ty this).symm
  have RZ:TlE ((D.setCell ⟨k+1,0,none⟩ (.slice none 0 0)).setCell ⟨k+1+1,0,none⟩ (.int .i64 E)) g.t E:=by
   unfold TlE
   rw [Below.heap_setCell _ _ _ _ (show g.t≠k+1+1 by omega),Below.heap_setCell _ _ _ _ (show g.t≠k+1 by omega)]
   exact DR
  have XZ:XdB ((D.setCell ⟨k+1,0,none⟩ (.slice none 0 0)).setCell ⟨k+1+1,0,none⟩ (.int .i64 E)) r s2:=by
   have hx:=R2.out
   unfold XdB at hx ⊢
   rw [Below.heap_setCell _ _ _ _ (show r≠k+1+1 by omega),Below.heap_setCell _ _ _ _ (show r≠k+1 by omega),DB.blk r (fun e=>?_)]
   ·exact hx
   ·have hr:=R1.out
    unfold TlB at hr
    rw [e,hr] at hx
    exact absurd (cells_ty hx) (by decide)
  have FZ:=(FD.bx (k:=k+1) (by rw [hk'.out];omega) lo.out (.slice none 0 0)).bx (k:=k+1+1) (by rw [hk'.out];omega) lo.out (.int .i64 E)
  obtain ⟨Z,hZ⟩:∃ Z,(D.setCell ⟨k+1,0,none⟩ (.slice none 0 0)).setCell ⟨k+1+1,0,none⟩ (.int .i64 E)=Z:=⟨_,rfl⟩
  rw [hZ] at e2 e3 RZ XZ FZ ⊢
  clear hZ g2 g3 FD hD DR DB
  simp [Leaves,settle,results,Tryz.results56,go_sem,e2,e3]
  exact ⟨FZ,rfl,RZ,s2,XZ,hs2⟩
 | inr x =>
  go_enter_defers Tryz.func56, Tryz.ntmps56
  go_wp2_with (go_at_call 63;refine Sto.out ?_)
  refine Sto.mk (D3.out.mono ?_)
  rintro e w1 ⟨hp1,rfl,m1,hp2,hp3⟩
  rw [←hW3] at hp1 hp3
  have F1:Hid (XF g m W w1):=(XF.of B3.out lo.out).trans (OMx.refl _ _) hp1
  have O1:Hid (OMx W m m1):=(OMx.refl _ _).trans hp3 B3.out.size
  have Y1:=hide (X1.out.move hp1 hp3 noT_tl)
  have Y2:=hide (X2.out.move hp1 hp3 noT_ev)
  have Y3:=hide (X3.out.move hp1 hp3 noT_er)
  have M1:=hide hp2
  obtain ⟨ta,tc,hT⟩:=hp2.t.shT
  have d1:=Y1.out.cell
  have d2:=Y2.out.cell
  have d3:=Y3.out.cell
  have f2:=Y2.out.frz
  have f3:=Y3.out.frz
  have d14:w1.cell? ⟨g.t,6,none⟩=some (.slice ta x.t.told.length tc):=(hp2.t.tb.cell 6).trans (by rw [←hT];rfl)
  have f14:w1.frozen? ⟨g.t,6,none⟩=false:=hp2.t.tb.frz 6
  have hT':=hide hT
  clear c0 c1 c2 c3 hp1 hp2 hp3 hT
  have rk:g.t<k:=by omega
  have rk2:r<k:=by omega
  have n1:¬ g.t=k:=by omega
  have n2:¬ g.t=k+1:=by omega
  have n3:¬ g.t=k+1+1:=by omega
  have n4:¬ k+1=g.t:=by omega
  have n5:¬ k=g.t:=by omega
  go_wp2_with fail
  refine wp_region_noPanic ?_
  go_region_with (fail)
  all_goals
   refine NoPanic.normal ?_
   go_wp2_with fail
   refine leaves_cons (f:=85) (args:=#[.pointer (some ⟨k,0,none⟩),.pointer (some ⟨k+1,0,none⟩),.pointer (some ⟨k+1+1,0,none⟩)]) (by simp) (by simp [go_sem]) ?_
   refine (acatch_idle ⟨k,0,none⟩ ⟨k+1,0,none⟩ ⟨k+1+1,0,none⟩ _).mono ?_
   rintro e u' w'' ⟨rfl,rfl,rfl⟩
   have hlo:g.lo≤k:=by have:=lo.out;rw [hk'.out] at this;exact this
   have A1:=M1.out.bx Y2.out noT_ev (by omega) (.slice ta x.t.told.length tc)
   have A2:=A1.t0
   have G2:=((Y2.out.set (.slice ta x.t.told.length tc)).other (b:=g.t) (j:=6) (u:=.slice none 0 0) (by omega))
   have G3:=((Y3.out.other (b:=k+1) (j:=0) (u:=.slice ta x.t.told.length tc) (by omega)).other (b:=g.t) (j:=6) (u:=.slice none 0 0) (by omega))
   have nn:∀ {q:Nat},NoX m1 q→NoX {m1 with t:={m1.t with told:=.slice none 0 0} } q:=fun nb=>⟨nb.1,nb.2.1,nb.2.2.1,fun e=>by cases e⟩
   have A3:=A2.1.bx ⟨G2.1,nn G2.2⟩ noT_ev (by omega) (.slice ta x.t.told.length tc)
   have G2':=G2.set (.slice ta x.t.told.length tc)
   have G3':=G3.other (b:=k+1) (j:=0) (u:=.slice ta x.t.told.length tc) (by omega)
   have A4:=A3.bx ⟨G3'.1,nn G3'.2⟩ noT_er (by omega) (.int .i64 0)
   have G2'':=G2'.other (b:=k+1+1) (j:=0) (u:=.int .i64 0) (by omega)
   have G3'':=G3'.set (.int .i64 0)
   have P1:=F1.out.bx (k:=k+1) (by rw [hk'.out];omega) lo.out (.slice ta x.t.told.length tc)
   have P2:=P1.trans O1.out A2.2.1
   have P3:=P2.bx (k:=k+1) (by rw [hk'.out];omega) lo.out (.slice ta x.t.told.length tc)
   have P4:=P3.bx (k:=k+1+1) (by rw [hk'.out];omega) lo.out (.int .i64 0)
   have OT:w1.ownsRow (g.t+1) 76 7 (.slice ta x.t.told.length tc) x.t.told.length (ecs x.t.told):=hT'.out ▸ M1.out.t.told
   have nbt:=fun q (hq:(Value.slice ta x.t.told.length tc).ownBlock=some q)=>(show q≠g.t∧q≠k+1∧q≠k+1+1 from ⟨by have:=(World.ownsRow.lt OT q hq).1;omega,fun e=>Y2.out.2.2.2.2 (by rw [hT'.out,hq,e]),fun e=>Y3.out.2.2.2.2 (by rw [hT'.out,hq,e])⟩)
   have OZ:((((w1.setCell ⟨k+1,0,none⟩ (.slice ta x.t.told.length tc)).setCell ⟨g.t,6,none⟩ (.slice none 0 0)).setCell ⟨k+1,0,none⟩ (.slice ta x.t.told.length tc)).setCell ⟨k+1+1,0,none⟩ (.int .i64 0)).ownsRow (g.t+1) 76 7 (.slice ta x.t.told.length tc) x.t.told.length (ecs x.t.told):=own_of OT fun q hq _=>by
    obtain ⟨q1,q2,q3⟩:=nbt q hq
    rw [Below.heap_setCell _ _ _ _ q3,Below.heap_setCell _ _ _ _ q2,Below.heap_setCell _ _ _ _ q1,Below.heap_setCell _ _ _ _ q2]
   have OBv:OB W m.t.told (.slice ta x.t.told.length tc):=by rw [←hT'.out];exact O1.out.told
   have OMm:OMx W m {m1 with t:={m1.t with told:=.slice none 0 0} }:=⟨O1.out.mark,O1.out.held,O1.out.ref,Or.inr fun q hq=>by cases hq⟩
   have dr:=fun (Z:World)=>(dn_b Z 1)
   obtain ⟨Z,hZ⟩:∃ Z,(((w1.setCell ⟨k+1,0,none⟩ (.slice ta x.t.told.length tc)).setCell ⟨g.t,6,none⟩ (.slice none 0 0)).setCell ⟨k+1,0,none⟩ (.slice ta x.t.told.length tc)).setCell ⟨k+1+1,0,none⟩ (.int .i64 0)=Z:=⟨_,rfl⟩
   rw [hZ] at A4 G2'' G3'' P4 OZ ⊢
   have e2:Z.drew.cell? ⟨k+1,0,none⟩=some (.slice ta x.t.told.length tc):=G2''.cell
   have e3:Z.drew.cell? ⟨k+1+1,0,none⟩=some (.int .i64 0):=G3''.cell
   clear hZ A1 A2 A3 G2 G3 G2' G3' P1 P2 P3
   simp [Leaves,settle,results,Tryz.results56,go_sem,e2,e3]
   refine ⟨P4.trans (OMx.refl _ _) (XF.of (Below.refl Z.heap.size Z).drew (by have:=P4.below.size;have:=lo.out;omega)),{m1 with t:={m1.t with told:=.slice none 0 0} },.slice ta x.t.told.length tc,rfl,A4.then (Below.refl Z.heap.size Z).drew,OMm,rfl,own_of OZ fun q _ _=>rfl,OBv⟩
end
structure SB (W:World)(lo:Nat)(m:Xm)(v:Value)(l:List UInt8):Prop where
 shape:∃ a c,v=.slice a l.length c
 len:l.length≤281474976710656
 rd:0<l.length→∃ b o c,v=.slice (some ⟨b,o,none⟩) l.length c∧(∀ j (h:j<l.length),W.cell? ⟨b,o+j,none⟩=some (.int .u8 l[j].toNat))∧(b<lo∨(NoX m b∧∃ c f,W.heap[b]?=some (.cells c 5 f)))
section
variable {W W1 W2 : World} {r : Nat} {g : Tg} {m m1 : Xm} {st : Xs}
theorem SB.move {v:Value} {l:List UInt8} (h:SB W g.lo m v l)(hf:XF g m W W1)(ho:OMx W m m1):SB W1 g.lo m1 v l:=by
 refine ⟨h.shape,h.len,fun hl=>?_⟩
 obtain ⟨b,o,c,h1,h2,h3⟩:=h.rd hl
 have hb:W1.heap[b]?=W.heap[b]?:=by
  rcases h3 with h3|⟨h3,c',f,h4⟩
  ·exact hf.below.block b h3
  ·rw [hf.keep b c' 5 f h4 (by decide) (by decide) (by decide) (by decide) (by decide) (by decide) (by decide) h3.1 h3.2.1 h3.2.2.1 h3.2.2.2,h4]
 refine ⟨b,o,c,h1,fun j hj=>?_,?_⟩
 ·rw [←h2 j hj]
  exact World.cell?_of_block (w:=W) hb
 ·rcases h3 with h3|⟨h3,c',f,h4⟩
  ·exact Or.inl h3
  ·exact Or.inr ⟨h3.om ho (Array.getElem?_eq_some_iff.1 h4).1,c',f,hb.trans h4⟩
def tkV (r:Nat):Value:=.func (.func 31) #[.pointer (some ⟨r,0,none⟩)] #[]
def fnV (r:Nat):Value:=.func (.func 33) #[.pointer (some ⟨r,0,none⟩)] #[]
set_option maxRecDepth 100000 in
theorem feed1_x {l:List UInt8} (h:XM W r g m st)(ge:Ge (bdX st l=true) W)(hw:Wy st) {p q s:Nat} {v:Value} (hp:Bo W m p v 32)(hq:Bo W m q (.pointer (some ⟨g.t,0,none⟩)) 62)(hs2:Bo W m s (tkV r) 71)(hs:SB W g.lo m v l) :
  Calls Tryz.prog 57 #[.pointer (some ⟨p,0,none⟩),.pointer (some ⟨q,0,none⟩),.pointer (some ⟨s,0,none⟩)] W fun e w'=>XP W r g m (feedX st l) e w':=by
 have ml:maxLen=9223372036854775807:=rfl
 obtain ⟨va,vc,hv⟩:=hs.shape
 have H:=hide h
 have P:=hide hp
 have Q:=hide hq
 have T:=hide hs2
 have S:=hide hs
 have cp:=hp.cell
 have cq:=hq.cell
 have ct:=hs2.cell
 simp only [tkV] at ct
 have hl:=hs.len
 rw [hv] at cp
 have ge':=hide ge
 clear h hp hq hs hs2 ge
 go_enter Tryz.func57, Tryz.ntmps57
 go_wp2
 go_loopw [7] (fun i wr=>∃ (k:Nat)(mk:Xm)(sk:Xs),k≤l.length∧i=.int .i64 k∧Hid (feedX st (l.take k)=.inr sk)∧Hid (XM wr r g mk sk)∧Hid (XF g m W wr)∧Hid (OMx W m mk)) (fun i _=>l.length - (intOf i).toNat)
 case atStart=>exact ⟨0,m,st,by omega,rfl,rfl,H.out,XF.refl,OMx.refl _ _⟩
 case round =>
  obtain ⟨k,mk,sk,hk,rfl,hf,hm,hF,hO⟩:=hrel
  have wk:=feedX_w hw hf.out
  have Pk:=P.out.move hF.out hO.out noT_by
  have Qk:=hide (Q.out.move hF.out hO.out noT_tl)
  have Tk:=hide (T.out.move hF.out hO.out noT_fn)
  have Sk:=S.out.move hF.out hO.out
  have kp:=Pk.cell
  have kq:=Qk.out.cell
  rw [hv] at kp
  clear cp cq ct Pk
  by_cases hlt:k<l.length
  ·obtain ⟨b,o,c,s1,s2,_⟩:=Sk.rd (by omega)
   rw [hv] at s1
   cases s1
   have hc:=s2 k hlt
   have hlt':(k:Int)<l.length:=by omega
   have CN:=hide (fun w (hb:Below wr.heap.size wr w)=>(count_t (hm.out.then hb).t (by have:=wk.tot;omega)).mono fun q w' hp=>XP.ofT (hm.out.then hb) hp fun x hx=>by rw [countT_n hx];omega)
   have hsn:Hid (feedX st (l.take (k+1))=takeX sk l[k]):=by
    show _=_
    rw [List.take_succ_eq_append_getElem hlt,feedX_snoc,hf.out];rfl
   have hwhole:Hid (∀ E,takeX sk l[k]=.inl E→feedX st l=.inl E):=fun E hE=>by
    rw [←List.take_append_drop (k+1) l,feedX_app,hsn.out,hE];rfl
   have hbd:Hid (bdR sk l[k]→bdX st l=true):=fun u=>bd_at l st k hlt sk hf.out u
   obtain ⟨ch,hch⟩:∃ ch,l[k]=ch:=⟨_,rfl⟩
   rw [hch] at hsn hwhole hc hbd
   clear hch s2 Sk
   have wk':=hide wk
   cases ht:countT sk.t with
   | inl E =>
    rw [ht] at CN
    have hE:Hid (feedX st l=.inl E):=hwhole.out E (by unfold takeX;rw [ht];rfl)
    clear hwhole hsn ht wk
    simp only [liftT,bnd] at CN
    go_wp2_with (go_at_call 58;refine (CN.out _ (by repeat (first|exact Below.refl _ _|refine Below.drew ?_|refine below_al ?_))).mono ?_;rintro q w1 hp;have K:=hide (XP.base hm.out (by repeat (first|exact Below.refl _ _|refine Below.drew ?_|refine below_al ?_)) hp);obtain ⟨_,rfl,_⟩:=hp)
    refine ⟨rfl,?_⟩
    show XP W r g m (feedX st l) _ _
    rw [hE.out]
    exact XP.trans hF.out hO.out K.out
   | inr y =>
    obtain ⟨y1,y2,y3⟩:=countT_f ht
    rw [ht] at CN
    have TK:=hide (fun w m1 (h1:XM w r g m1 {sk with t:=y})(g1:Ge (bdX st l=true) w)=>take_q h1 ch (fun u=>g1 (hbd.out u)) ⟨wk.wx.mkl,wk.wx.rf⟩ (by show y.n≤_;have:=wk.n;have:=wk.tot;omega))
    have hgo:Hid (takeX sk ch=goX {sk with t:=y} ch):=by show _=_;unfold takeX;rw [ht];rfl
    rw [hgo.out] at hsn hwhole
    clear ht wk y1 y2 y3 hgo
    simp only [liftT,bnd] at CN
    obtain ⟨u,hu⟩:∃ u,goX {sk with t:=y} ch=u:=⟨_,rfl⟩
    rw [hu] at TK hsn hwhole
    clear hu
    cases u with
    | inl E =>
     have hE:Hid (feedX st l=.inl E):=hwhole.out E rfl
     clear hwhole hsn
     go_wp2_with (first|(go_at_call 58;refine (CN.out _ (by repeat (first|exact Below.refl _ _|refine Below.drew ?_|refine below_al ?_))).mono ?_;rintro q w1 ⟨hp1,rfl,m1,hp2,hp3⟩;have F1:Hid (XF g mk wr w1):=(XF.of (by repeat (first|exact Below.refl _ _|refine Below.drew ?_|refine below_al ?_)) hm.out.low).trans (OMx.refl _ _) hp1;have M1:=hide hp2;have O1:Hid (OMx wr mk m1):=(OMx.refl _ _).trans hp3 (show Below wr.heap.size wr _ from (by repeat (first|exact Below.refl _ _|refine Below.drew ?_|refine below_al ?_))).size;have kt:=(Tk.out.move F1.out O1.out noT_fn).cell;simp only [tkV] at kt;clear hp1 hp2 hp3)|(go_at_call 31;refine (TK.out _ _ (M1.out.then (by repeat (first|exact Below.refl _ _|refine Below.drew ?_|refine below_al ?_))) ((ge'.out.low (hF.out.below.trans F1.out.below) M1.out.t.gk.low).low (by repeat (first|exact Below.refl _ _|refine Below.drew ?_|refine below_al ?_)) (Nat.le_trans M1.out.t.gk.low M1.out.low))).mono ?_;rintro q w2 hp;have K:=hide (XP.trans F1.out O1.out (XP.base M1.out (by repeat (first|exact Below.refl _ _|refine Below.drew ?_|refine below_al ?_)) hp));obtain ⟨_,rfl,_⟩:=hp))
     refine ⟨rfl,?_⟩
     show XP W r g m (feedX st l) _ _
     rw [hE.out]
     exact XP.trans hF.out hO.out K.out
    | inr x =>
     clear hwhole
     go_wp2_with (first|(go_at_call 58;refine (CN.out _ (by repeat (first|exact Below.refl _ _|refine Below.drew ?_|refine below_al ?_))).mono ?_;rintro q w1 ⟨hp1,rfl,m1,hp2,hp3⟩;have F1:Hid (XF g mk wr w1):=(XF.of (by repeat (first|exact Below.refl _ _|refine Below.drew ?_|refine below_al ?_)) hm.out.low).trans (OMx.refl _ _) hp1;have M1:=hide hp2;have O1:Hid (OMx wr mk m1):=(OMx.refl _ _).trans hp3 (show Below wr.heap.size wr _ from (by repeat (first|exact Below.refl _ _|refine Below.drew ?_|refine below_al ?_))).size;have kt:=(Tk.out.move F1.out O1.out noT_fn).cell;simp only [tkV] at kt;clear hp1 hp2 hp3)|(go_at_call 31;refine (TK.out _ _ (M1.out.then (by repeat (first|exact Below.refl _ _|refine Below.drew ?_|refine below_al ?_))) ((ge'.out.low (hF.out.below.trans F1.out.below) M1.out.t.gk.low).low (by repeat (first|exact Below.refl _ _|refine Below.drew ?_|refine below_al ?_)) (Nat.le_trans M1.out.t.gk.low M1.out.low))).mono ?_;rintro q w2 hp;have K:=hide (XP.trans F1.out O1.out (XP.base M1.out (by repeat (first|exact Below.refl _ _|refine Below.drew ?_|refine below_al ?_)) hp));obtain ⟨_,rfl,_⟩:=hp))
     obtain ⟨kf,_,mx,km,ko⟩:=K.out
     refine ⟨⟨k+1,mx,x,by omega,by go_num,hsn.out,km,hF.out.trans hO.out kf,hO.out.trans ko hF.out.below.size⟩,by simp [intOf];omega⟩
  ·have hke:k=l.length:=by omega
   have hff:=hf.out
   rw [hke,List.take_length] at hff
   have hff':=hide hff
   have hge:decide ((k:Int)<(l.length:Int))=false:=by simp;omega
   clear hff Sk wk
   go_wp2
   go_end0
   show XP W r g m (feedX st l) _ _
   rw [hff'.out]
   exact ⟨hF.out,rfl,mk,hm.out,hO.out⟩
end
end Go.Proofs.YthodiandebahdaaGreatDoor
