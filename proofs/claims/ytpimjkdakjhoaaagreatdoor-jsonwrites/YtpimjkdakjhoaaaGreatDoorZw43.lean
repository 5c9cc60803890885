/- Merged by program: LaAtt, LcAtt, LbAtt, LdFeed, LeErr, LfEnd. -/
import Derived.Test.YtpimjkdakjhoaaaGreatDoorZw42
namespace Go.Proofs.YtpimjkdakjhoaaaGreatDoor
open Go.RowKit
set_option linter.unusedSimpArgs false
set_option linter.unusedVariables false
set_option maxHeartbeats 8000000
structure NoT (T:TypeId):Prop where
 t1:T≠69
 t2:T≠92
 t3:T≠115
 t4:T≠95
 t5:T≠156
 t6:T≠72
theorem noT_32:NoT 32:=⟨by decide,by decide,by decide,by decide,by decide,by decide⟩
theorem noT_48:NoT 43:=⟨by decide,by decide,by decide,by decide,by decide,by decide⟩
theorem noT_50:NoT 45:=⟨by decide,by decide,by decide,by decide,by decide,by decide⟩
theorem noT_33:NoT 33:=⟨by decide,by decide,by decide,by decide,by decide,by decide⟩
section
variable {W W1 W2 : World} {r : Nat} {g : Gv} {m m1 : Mv} {st : St}
theorem RM.apart2 (h:RM W r g m st) {k:Nat} {c:Array Value} {T:TypeId} {f:Nat×Nat} (hE:W.heap[k]?=some (.cells c T f)) (hT:NoT T) (nb:NoB m k) (hlo:g.lo≤k) (hb:But k W W1):RM W1 r g m st:=by
 have hr:=h.rd
 unfold RdB at hr
 have ht:=h.ty.tb
 unfold TyB at ht
 have key:∀ {q:Nat} {c:Array Value} {T':TypeId} {f:Nat×Nat},W.heap[q]?=some (.cells c T' f)→T≠T'→W1.heap[q]?=some (.cells c T' f):=fun {q c T' f} hq hT=>by
  rw [hb.blk q (fun e=>by rw [e,hE] at hq;exact hT (cells_ty hq)),hq]
 have row:∀ {u:Value} {B T sz n:Nat} {xs:List Value},W.ownsRow B T sz u n xs→u.ownBlock≠some k→W1.ownsRow B T sz u n xs:=fun {u B T sz n xs} ho hn=>own_of ho fun q hq _=>hb.blk q (fun e=>hn (by rw [hq,e]))
 refine ⟨key hr hT.t1,row h.word nb.1,row h.held nb.2.1,h.dif,row h.opn (ty_ne hE h.opn hT.t6),row h.told nb.2.2,?_,?_,Gu.low h.gu (hb.below hlo) h.gk.low,h.gk,h.qf,h.wl,h.kl,h.tl⟩
 ·exact h.ck.keep (Nat.le_of_eq hb.size.symm) fun q _ hq=>hb.blk q (fun e=>by subst e;exact ty_no hE hT.t2 hT.t3 hq)
 ·exact h.ty.keep (Nat.le_of_eq hb.size.symm) (by rw [key ht hT.t4,ht]) fun q hq=>by
   obtain ⟨c,f,hc⟩:=own_blk h.ty.row hq
   rw [key hc hT.t5,hc]
theorem Bo.set {k T:Nat} {v:Value} (h:Bo W m k v T) (u:Value):Bo (W.setCell ⟨k,0,none⟩ u) m k u T:=⟨by rw [blk_set h.1];rfl,h.2⟩
theorem Bo.other {k j b T:Nat} {v u:Value} (h:Bo W m k v T) (hk:k≠b):Bo (W.setCell ⟨b,j,none⟩ u) m k v T:=⟨by rw [Below.heap_setCell _ _ _ _ hk];exact h.1,h.2⟩
theorem RM.bx (h:RM W r g m st) {k T:Nat} {v:Value} (hk:Bo W m k v T) (hT:NoT T) (hlo:g.lo≤k) (u:Value):RM (W.setCell ⟨k,0,none⟩ u) r g m st:=h.apart2 hk.1 hT hk.2 hlo ((But.refl k W).set 0 u)
theorem RF.bx (h:RF g m W W1) {k:Nat} (hk:W.heap.size≤k) (hlo:g.lo≤W.heap.size) (u:Value):RF g m W (W1.setCell ⟨k,0,none⟩ u):=h.fresh hk hlo ((But.refl k W1).set 0 u)
theorem RM.t0 (h:RM W r g m st):RM (W.setCell ⟨r,14,none⟩ (.slice none 0 0)) r g {m with told:=.slice none 0 0} {st with told:=[]}∧RF g m W (W.setCell ⟨r,14,none⟩ (.slice none 0 0))∧OM W m {m with told:=.slice none 0 0}:=by
 have F:RdF r m.told W (W.setCell ⟨r,14,none⟩ (.slice none 0 0)):=RdF.refl.set 14 _
 have ob:OB W m.told (.slice none 0 0):=Or.inr fun q hq=>by cases hq
 exact ⟨h.ofTold F (h.rd.set 14 _ _ rfl) (World.ownsRow_nil _ _ _ _) (by simp),RF.ofTold h F,⟨OB.refl _ _,OB.refl _ _,ob⟩⟩
end
def AP (W:World) (r:Nat) (g:Gv) (m:Mv) (o:Sum Int St) (e:Ending) (w':World):Prop :=
 RF g m W w'∧match o with
 | .inl E=>e=.returned (.tuple #[.slice none 0 0,.int .i64 E])∧RdE w' r E
 | .inr x=>∃ m' v,e=.returned (.tuple #[v,.int .i64 0])∧RM w' r g m' {x with told:=[]}∧OM W m m'∧m'.told=.slice none 0 0∧w'.ownsRow (r + 1) 74 7 v x.told.length (ecs x.told)∧OB W m.told v
section
variable {W W1 W2 : World} {r : Nat} {g : Gv} {m m1 : Mv} {st : St}
set_option maxRecDepth 100000 in
theorem attE_r (h:RM W r g m st) (o:Sum Int St) (DO:∀ w1,RM w1 r g m st→RF g m W w1→Calls Tryz.prog 33 #[.pointer (some ⟨r,0,none⟩)] w1 fun e w'=>RP w1 r g m o e w') :
  Calls Tryz.prog 30 #[.pointer (some ⟨r,0,none⟩),.func (.func 33) #[.pointer (some ⟨r,0,none⟩)] #[]] W fun e w'=>AP W r g m o e w':=by
 have hmf:∀ (fn:Fn) (first cap:Array Value) (w:World),(Instr.makeFunc fn first cap).run Tryz.prog w=.ok (.func fn first cap) w:=fun _ _ _ _=>rfl
 have hlt:=h.lt
 obtain ⟨W3,hW3⟩:∃ W3,W3=((W.alloc (.cells #[.pointer (some ⟨r,0,none⟩)] 43)).alloc (.cells #[.slice none 0 0] 45)).alloc (.cells #[.int .i64 0] 33):=⟨_,rfl⟩
 have B3:Hid (Below W.heap.size W W3):=by rw [hW3];exact below_al (below_al (below_al (Below.refl _ _)))
 have M3:=hide (h.then B3.out)
 have nb:=fun k (hk:W.heap.size≤k)=>h.nob hk
 have X1:Hid (Bo W3 m W.heap.size (.pointer (some ⟨r,0,none⟩)) 43):=⟨by
  rw [hW3,Below.heap_alloc _ _ _ (by simp;omega),Below.heap_alloc _ _ _ (by simp)];exact heap_alloc_last _ _,nb _ (Nat.le_refl _)⟩
 have X2:Hid (Bo W3 m (W.heap.size + 1) (.slice none 0 0) 45):=⟨by
  rw [hW3,Below.heap_alloc _ _ _ (by simp)]
  have:=heap_alloc_last (W.alloc (.cells #[.pointer (some ⟨r,0,none⟩)] 43)) (.cells #[.slice none 0 0] 45)
  rw [World.size_alloc] at this
  exact this,nb _ (Nat.le_succ _)⟩
 have X3:Hid (Bo W3 m (W.heap.size + 1 + 1) (.int .i64 0) 33):=⟨by
  rw [hW3]
  have:=heap_alloc_last ((W.alloc (.cells #[.pointer (some ⟨r,0,none⟩)] 43)).alloc (.cells #[.slice none 0 0] 45)) (.cells #[.int .i64 0] 33)
  rw [World.size_alloc,World.size_alloc] at this
  exact this,nb _ (by omega)⟩
 have lo:=hide h.lo
 have gkr:=hide h.gk.loR
 have D3:=hide (DO W3 M3.out (RF.of B3.out lo.out))
 rw [hW3] at D3
 have c0:=(M3.out.rd.cell 0).trans (show _=some (.int .i64 0) from rfl)
 have c1:=X1.out.cell
 have c2:=X2.out.cell
 have c3:=X3.out.cell
 rw [hW3] at c0 c1 c2 c3
 clear h nb DO
 obtain ⟨k,hk⟩:∃ k,W.heap.size=k:=⟨_,rfl⟩
 have hk':=hide hk
 rw [hk] at c1 c2 c3 X1 X2 X3
 cases o with
 | inl E =>
  go_enter_defers Tryz.func30, Tryz.ntmps30
  go_wp2_with (go_at_call 33;refine Sto.out ?_)
  refine Sto.mk (D3.out.mono ?_)
  rintro e w1 ⟨hp1,rfl,s1,hp2⟩
  rw [←hW3] at hp1
  have F1:Hid (RF g m W w1):=(RF.of B3.out lo.out).trans (OM.refl _ _) hp1
  have Y1:=hide (X1.out.move hp1 (OM.refl _ _) noT_48.t1 noT_48.t2 noT_48.t3 noT_48.t4 noT_48.t5 noT_48.t6)
  have Y2:=hide (X2.out.move hp1 (OM.refl _ _) noT_50.t1 noT_50.t2 noT_50.t3 noT_50.t4 noT_50.t5 noT_50.t6)
  have Y3:=hide (X3.out.move hp1 (OM.refl _ _) noT_33.t1 noT_33.t2 noT_33.t3 noT_33.t4 noT_33.t5 noT_33.t6)
  have R1:=hide hp2
  have d1:=Y1.out.cell
  have d2:=Y2.out.cell
  have d3:=Y3.out.cell
  have f2:=Y2.out.frz
  have f3:=Y3.out.frz
  clear c0 c1 c2 c3 hp1 hp2
  have rk:r<k:=by omega
  go_wp2_with fail
  unfold pan
  refine leaves_cons (f:=58) (args:=#[.pointer (some ⟨k,0,none⟩),.pointer (some ⟨k + 1,0,none⟩),.pointer (some ⟨k + 1 + 1,0,none⟩)]) (by simp) (by simp [go_sem]) ?_
  refine (acatch_pan k (k + 1) (k + 1 + 1) r s1 0 (.slice none 0 0) [] _ d1 R1.out d2 f2 d3 f3 (by omega) (by omega) (by omega) E).mono ?_
  rintro e u' w'' ⟨rfl,rfl,rfl⟩
  have DR:=dead_rd R1.out E
  have DB:=dead_but w1 r E
  obtain ⟨D,hD⟩:∃ D,dead15 w1 r E=D:=⟨_,rfl⟩
  rw [hD] at DR DB ⊢
  have g2:Bo D m (k + 1) (.slice none 0 0) 45:=⟨(DB.blk _ (by omega)).trans Y2.out.1,Y2.out.2⟩
  have g3:Bo D m (k + 1 + 1) (.int .i64 0) 33:=⟨(DB.blk _ (by omega)).trans Y3.out.1,Y3.out.2⟩
  have e2:((D.setCell ⟨k + 1,0,none⟩ (.slice none 0 0)).setCell ⟨k + 1 + 1,0,none⟩ (.int .i64 E)).cell? ⟨k + 1,0,none⟩=some (.slice none 0 0):=((g2.set _).other (by omega)).cell
  have e3:((D.setCell ⟨k + 1,0,none⟩ (.slice none 0 0)).setCell ⟨k + 1 + 1,0,none⟩ (.int .i64 E)).cell? ⟨k + 1 + 1,0,none⟩=some (.int .i64 E):=((g3.other (b:=k + 1) (j:=0) (u:=.slice none 0 0) (by omega)).set _).cell
  have FD:RF g m W D:=by
   refine ⟨F1.out.below.trans (DB.below (by have:=gkr.out;omega)),fun q c T f hq t1 t2 t3 t4 t5 t6 n1 n2 n3=>?_⟩
   rw [DB.blk q (fun e=>?_)]
   ·exact F1.out.keep q c T f hq t1 t2 t3 t4 t5 t6 n1 n2 n3
   ·have:=F1.out.keep q c T f hq t1 t2 t3 t4 t5 t6 n1 n2 n3
    have hr:=R1.out
    unfold RdB at hr
    rw [e,hr] at this
    exact t1 (cells_ty this).symm
  have RZ:RdE ((D.setCell ⟨k + 1,0,none⟩ (.slice none 0 0)).setCell ⟨k + 1 + 1,0,none⟩ (.int .i64 E)) r E:=by
   unfold RdE
   rw [Below.heap_setCell _ _ _ _ (show r≠k + 1 + 1 by omega),Below.heap_setCell _ _ _ _ (show r≠k + 1 by omega)]
   exact DR
  have FZ:=(FD.bx (k:=k + 1) (by rw [hk'.out];omega) lo.out (.slice none 0 0)).bx (k:=k + 1 + 1) (by rw [hk'.out];omega) lo.out (.int .i64 E)
  obtain ⟨Z,hZ⟩:∃ Z,(D.setCell ⟨k + 1,0,none⟩ (.slice none 0 0)).setCell ⟨k + 1 + 1,0,none⟩ (.int .i64 E)=Z:=⟨_,rfl⟩
  rw [hZ] at e2 e3 RZ FZ ⊢
  clear hZ g2 g3 FD hD DR DB
  simp [Leaves,settle,results,Tryz.results30,go_sem,e2,e3]
  exact ⟨FZ,rfl,RZ⟩
 | inr x =>
  go_enter_defers Tryz.func30, Tryz.ntmps30
  go_wp2_with (go_at_call 33;refine Sto.out ?_)
  refine Sto.mk (D3.out.mono ?_)
  rintro e w1 ⟨hp1,rfl,m1,hp2,hp3⟩
  rw [←hW3] at hp1 hp3
  have F1:Hid (RF g m W w1):=(RF.of B3.out lo.out).trans (OM.refl _ _) hp1
  have O1:Hid (OM W m m1):=(OM.refl _ _).trans hp3 B3.out.size
  have Y1:=hide (X1.out.move hp1 hp3 noT_48.t1 noT_48.t2 noT_48.t3 noT_48.t4 noT_48.t5 noT_48.t6)
  have Y2:=hide (X2.out.move hp1 hp3 noT_50.t1 noT_50.t2 noT_50.t3 noT_50.t4 noT_50.t5 noT_50.t6)
  have Y3:=hide (X3.out.move hp1 hp3 noT_33.t1 noT_33.t2 noT_33.t3 noT_33.t4 noT_33.t5 noT_33.t6)
  have M1:=hide hp2
  obtain ⟨ta,tc,hT⟩:=hp2.shT
  have d1:=Y1.out.cell
  have d2:=Y2.out.cell
  have d3:=Y3.out.cell
  have f2:=Y2.out.frz
  have f3:=Y3.out.frz
  have d14:w1.cell? ⟨r,14,none⟩=some (.slice ta x.told.length tc):=(hp2.rd.cell 14).trans (by rw [←hT];rfl)
  have f14:w1.frozen? ⟨r,14,none⟩=false:=hp2.rd.frz 14
  have hT':=hide hT
  clear c0 c1 c2 c3 hp1 hp2 hp3 hT
  have rk:r<k:=by omega
  have n1:¬ r=k:=by omega
  have n2:¬ r=k + 1:=by omega
  have n3:¬ r=k + 1 + 1:=by omega
  have n4:¬ k + 1=r:=by omega
  have n5:¬ k=r:=by omega
  go_wp2_with fail
  refine wp_region_noPanic ?_
  go_region_with (fail)
  all_goals
   refine NoPanic.normal ?_
   go_wp2_with fail
   refine leaves_cons (f:=58) (args:=#[.pointer (some ⟨k,0,none⟩),.pointer (some ⟨k + 1,0,none⟩),.pointer (some ⟨k + 1 + 1,0,none⟩)]) (by simp) (by simp [go_sem]) ?_
   refine (acatch_idle ⟨k,0,none⟩ ⟨k + 1,0,none⟩ ⟨k + 1 + 1,0,none⟩ _).mono ?_
   rintro e u' w'' ⟨rfl,rfl,rfl⟩
   have hlo:g.lo≤k:=by have:=lo.out;rw [hk'.out] at this;exact this
   have A1:=M1.out.bx Y2.out noT_50 (by omega) (.slice ta x.told.length tc)
   have A2:=A1.t0
   have G2:=((Y2.out.set (.slice ta x.told.length tc)).other (b:=r) (j:=14) (u:=.slice none 0 0) (by omega))
   have G3:=((Y3.out.other (b:=k + 1) (j:=0) (u:=.slice ta x.told.length tc) (by omega)).other (b:=r) (j:=14) (u:=.slice none 0 0) (by omega))
   have nn:∀ {q:Nat},NoB m1 q→NoB {m1 with told:=.slice none 0 0} q:=fun nb=>⟨nb.1,nb.2.1,fun e=>by cases e⟩
   have A3:=A2.1.bx ⟨G2.1,nn G2.2⟩ noT_50 (by omega) (.slice ta x.told.length tc)
   have G2':=G2.set (.slice ta x.told.length tc)
   have G3':=G3.other (b:=k + 1) (j:=0) (u:=.slice ta x.told.length tc) (by omega)
   have A4:=A3.bx ⟨G3'.1,nn G3'.2⟩ noT_33 (by omega) (.int .i64 0)
   have G2'':=G2'.other (b:=k + 1 + 1) (j:=0) (u:=.int .i64 0) (by omega)
   have G3'':=G3'.set (.int .i64 0)
   have P1:=F1.out.bx (k:=k + 1) (by rw [hk'.out];omega) lo.out (.slice ta x.told.length tc)
   have P2:=P1.trans O1.out A2.2.1
   have P3:=P2.bx (k:=k + 1) (by rw [hk'.out];omega) lo.out (.slice ta x.told.length tc)
   have P4:=P3.bx (k:=k + 1 + 1) (by rw [hk'.out];omega) lo.out (.int .i64 0)
   have OT:w1.ownsRow (r + 1) 74 7 (.slice ta x.told.length tc) x.told.length (ecs x.told):=hT'.out ▸ M1.out.told
   have nbt:=fun q (hq:(Value.slice ta x.told.length tc).ownBlock=some q)=>(show q≠r∧q≠k + 1∧q≠k + 1 + 1 from ⟨by have:=(World.ownsRow.lt OT q hq).1;omega,fun e=>Y2.out.2.2.2 (by rw [hT'.out,hq,e]),fun e=>Y3.out.2.2.2 (by rw [hT'.out,hq,e])⟩)
   have OZ:((((w1.setCell ⟨k + 1,0,none⟩ (.slice ta x.told.length tc)).setCell ⟨r,14,none⟩ (.slice none 0 0)).setCell ⟨k + 1,0,none⟩ (.slice ta x.told.length tc)).setCell ⟨k + 1 + 1,0,none⟩ (.int .i64 0)).ownsRow (r + 1) 74 7 (.slice ta x.told.length tc) x.told.length (ecs x.told):=own_of OT fun q hq _=>by
    obtain ⟨q1,q2,q3⟩:=nbt q hq
    rw [Below.heap_setCell _ _ _ _ q3,Below.heap_setCell _ _ _ _ q2,Below.heap_setCell _ _ _ _ q1,Below.heap_setCell _ _ _ _ q2]
   have OBv:OB W m.told (.slice ta x.told.length tc):=by rw [←hT'.out];exact O1.out.told
   have OMm:OM W m {m1 with told:=.slice none 0 0}:=⟨O1.out.word,O1.out.held,Or.inr fun q hq=>by cases hq⟩
   have dr:=fun (Z:World)=>(dn_b Z 1)
   obtain ⟨Z,hZ⟩:∃ Z,(((w1.setCell ⟨k + 1,0,none⟩ (.slice ta x.told.length tc)).setCell ⟨r,14,none⟩ (.slice none 0 0)).setCell ⟨k + 1,0,none⟩ (.slice ta x.told.length tc)).setCell ⟨k + 1 + 1,0,none⟩ (.int .i64 0)=Z:=⟨_,rfl⟩
   rw [hZ] at A4 G2'' G3'' P4 OZ ⊢
   have e2:Z.drew.cell? ⟨k + 1,0,none⟩=some (.slice ta x.told.length tc):=G2''.cell
   have e3:Z.drew.cell? ⟨k + 1 + 1,0,none⟩=some (.int .i64 0):=G3''.cell
   clear hZ A1 A2 A3 G2 G3 G2' G3' P1 P2 P3
   simp [Leaves,settle,results,Tryz.results30,go_sem,e2,e3]
   refine ⟨P4.trans (OM.refl _ _) (RF.of (Below.refl Z.heap.size Z).drew (by have:=P4.below.size;have:=lo.out;omega)),{m1 with told:=.slice none 0 0},.slice ta x.told.length tc,rfl,A4.then (Below.refl Z.heap.size Z).drew,OMm,rfl,own_of OZ fun q _ _=>rfl,OBv⟩
end
section
variable {W W1 W2 : World} {r : Nat} {g : Gv} {m m1 : Mv} {st : St}
set_option maxRecDepth 100000 in
theorem attF_r (h:RM W r g m st) {p q:Nat} (o:Sum Int St) (DO:∀ w1,RM w1 r g m st→RF g m W w1→Calls Tryz.prog 31 #[.pointer (some ⟨p,0,none⟩),.pointer (some ⟨q,0,none⟩)] w1 fun e w'=>RP w1 r g m o e w') :
  Calls Tryz.prog 30 #[.pointer (some ⟨r,0,none⟩),.func (.func 31) #[] #[.pointer (some ⟨p,0,none⟩),.pointer (some ⟨q,0,none⟩)]] W fun e w'=>AP W r g m o e w':=by
 have hmf:∀ (fn:Fn) (first cap:Array Value) (w:World),(Instr.makeFunc fn first cap).run Tryz.prog w=.ok (.func fn first cap) w:=fun _ _ _ _=>rfl
 have hlt:=h.lt
 obtain ⟨W3,hW3⟩:∃ W3,W3=((W.alloc (.cells #[.pointer (some ⟨r,0,none⟩)] 43)).alloc (.cells #[.slice none 0 0] 45)).alloc (.cells #[.int .i64 0] 33):=⟨_,rfl⟩
 have B3:Hid (Below W.heap.size W W3):=by rw [hW3];exact below_al (below_al (below_al (Below.refl _ _)))
 have M3:=hide (h.then B3.out)
 have nb:=fun k (hk:W.heap.size≤k)=>h.nob hk
 have X1:Hid (Bo W3 m W.heap.size (.pointer (some ⟨r,0,none⟩)) 43):=⟨by
  rw [hW3,Below.heap_alloc _ _ _ (by simp;omega),Below.heap_alloc _ _ _ (by simp)];exact heap_alloc_last _ _,nb _ (Nat.le_refl _)⟩
 have X2:Hid (Bo W3 m (W.heap.size + 1) (.slice none 0 0) 45):=⟨by
  rw [hW3,Below.heap_alloc _ _ _ (by simp)]
  have:=heap_alloc_last (W.alloc (.cells #[.pointer (some ⟨r,0,none⟩)] 43)) (.cells #[.slice none 0 0] 45)
  rw [World.size_alloc] at this
  exact this,nb _ (Nat.le_succ _)⟩
 have X3:Hid (Bo W3 m (W.heap.size + 1 + 1) (.int .i64 0) 33):=⟨by
  rw [hW3]
  have:=heap_alloc_last ((W.alloc (.cells #[.pointer (some ⟨r,0,none⟩)] 43)).alloc (.cells #[.slice none 0 0] 45)) (.cells #[.int .i64 0] 33)
  rw [World.size_alloc,World.size_alloc] at this
  exact this,nb _ (by omega)⟩
 have lo:=hide h.lo
 have gkr:=hide h.gk.loR
 have D3:=hide (DO W3 M3.out (RF.of B3.out lo.out))
 rw [hW3] at D3
 have c0:=(M3.out.rd.cell 0).trans (show _=some (.int .i64 0) from rfl)
 have c1:=X1.out.cell
 have c2:=X2.out.cell
 have c3:=X3.out.cell
 rw [hW3] at c0 c1 c2 c3
 clear h nb DO
 obtain ⟨k,hk⟩:∃ k,W.heap.size=k:=⟨_,rfl⟩
 have hk':=hide hk
 rw [hk] at c1 c2 c3 X1 X2 X3
 cases o with
 | inl E =>
  go_enter_defers Tryz.func30, Tryz.ntmps30
  go_wp2_with (go_at_call 31;refine Sto.out ?_)
  refine Sto.mk (D3.out.mono ?_)
  rintro e w1 ⟨hp1,rfl,s1,hp2⟩
  rw [←hW3] at hp1
  have F1:Hid (RF g m W w1):=(RF.of B3.out lo.out).trans (OM.refl _ _) hp1
  have Y1:=hide (X1.out.move hp1 (OM.refl _ _) noT_48.t1 noT_48.t2 noT_48.t3 noT_48.t4 noT_48.t5 noT_48.t6)
  have Y2:=hide (X2.out.move hp1 (OM.refl _ _) noT_50.t1 noT_50.t2 noT_50.t3 noT_50.t4 noT_50.t5 noT_50.t6)
  have Y3:=hide (X3.out.move hp1 (OM.refl _ _) noT_33.t1 noT_33.t2 noT_33.t3 noT_33.t4 noT_33.t5 noT_33.t6)
  have R1:=hide hp2
  have d1:=Y1.out.cell
  have d2:=Y2.out.cell
  have d3:=Y3.out.cell
  have f2:=Y2.out.frz
  have f3:=Y3.out.frz
  clear c0 c1 c2 c3 hp1 hp2
  have rk:r<k:=by omega
  go_wp2_with fail
  unfold pan
  refine leaves_cons (f:=58) (args:=#[.pointer (some ⟨k,0,none⟩),.pointer (some ⟨k + 1,0,none⟩),.pointer (some ⟨k + 1 + 1,0,none⟩)]) (by simp) (by simp [go_sem]) ?_
  refine (acatch_pan k (k + 1) (k + 1 + 1) r s1 0 (.slice none 0 0) [] _ d1 R1.out d2 f2 d3 f3 (by omega) (by omega) (by omega) E).mono ?_
  rintro e u' w'' ⟨rfl,rfl,rfl⟩
  have DR:=dead_rd R1.out E
  have DB:=dead_but w1 r E
  obtain ⟨D,hD⟩:∃ D,dead15 w1 r E=D:=⟨_,rfl⟩
  rw [hD] at DR DB ⊢
  have g2:Bo D m (k + 1) (.slice none 0 0) 45:=⟨(DB.blk _ (by omega)).trans Y2.out.1,Y2.out.2⟩
  have g3:Bo D m (k + 1 + 1) (.int .i64 0) 33:=⟨(DB.blk _ (by omega)).trans Y3.out.1,Y3.out.2⟩
  have e2:((D.setCell ⟨k + 1,0,none⟩ (.slice none 0 0)).setCell ⟨k + 1 + 1,0,none⟩ (.int .i64 E)).cell? ⟨k + 1,0,none⟩=some (.slice none 0 0):=((g2.set _).other (by omega)).cell
  have e3:((D.setCell ⟨k + 1,0,none⟩ (.slice none 0 0)).setCell ⟨k + 1 + 1,0,none⟩ (.int .i64 E)).cell? ⟨k + 1 + 1,0,none⟩=some (.int .i64 E):=((g3.other (b:=k + 1) (j:=0) (u:=.slice none 0 0) (by omega)).set _).cell
  have FD:RF g m W D:=by
   refine ⟨F1.out.below.trans (DB.below (by have:=gkr.out;omega)),fun q c T f hq t1 t2 t3 t4 t5 t6 n1 n2 n3=>?_⟩
   rw [DB.blk q (fun e=>?_)]
   ·exact F1.out.keep q c T f hq t1 t2 t3 t4 t5 t6 n1 n2 n3
   ·have:=F1.out.keep q c T f hq t1 t2 t3 t4 t5 t6 n1 n2 n3
    have hr:=R1.out
    unfold RdB at hr
    rw [e,hr] at this
    exact t1 (cells_ty this).symm
  have RZ:RdE ((D.setCell ⟨k + 1,0,none⟩ (.slice none 0 0)).setCell ⟨k + 1 + 1,0,none⟩ (.int .i64 E)) r E:=by
   unfold RdE
   rw [Below.heap_setCell _ _ _ _ (show r≠k + 1 + 1 by omega),Below.heap_setCell _ _ _ _ (show r≠k + 1 by omega)]
   exact DR
  have FZ:=(FD.bx (k:=k + 1) (by rw [hk'.out];omega) lo.out (.slice none 0 0)).bx (k:=k + 1 + 1) (by rw [hk'.out];omega) lo.out (.int .i64 E)
  obtain ⟨Z,hZ⟩:∃ Z,(D.setCell ⟨k + 1,0,none⟩ (.slice none 0 0)).setCell ⟨k + 1 + 1,0,none⟩ (.int .i64 E)=Z:=⟨_,rfl⟩
  rw [hZ] at e2 e3 RZ FZ ⊢
  clear hZ g2 g3 FD hD DR DB
  simp [Leaves,settle,results,Tryz.results30,go_sem,e2,e3]
  exact ⟨FZ,rfl,RZ⟩
 | inr x =>
  go_enter_defers Tryz.func30, Tryz.ntmps30
  go_wp2_with (go_at_call 31;refine Sto.out ?_)
  refine Sto.mk (D3.out.mono ?_)
  rintro e w1 ⟨hp1,rfl,m1,hp2,hp3⟩
  rw [←hW3] at hp1 hp3
  have F1:Hid (RF g m W w1):=(RF.of B3.out lo.out).trans (OM.refl _ _) hp1
  have O1:Hid (OM W m m1):=(OM.refl _ _).trans hp3 B3.out.size
  have Y1:=hide (X1.out.move hp1 hp3 noT_48.t1 noT_48.t2 noT_48.t3 noT_48.t4 noT_48.t5 noT_48.t6)
  have Y2:=hide (X2.out.move hp1 hp3 noT_50.t1 noT_50.t2 noT_50.t3 noT_50.t4 noT_50.t5 noT_50.t6)
  have Y3:=hide (X3.out.move hp1 hp3 noT_33.t1 noT_33.t2 noT_33.t3 noT_33.t4 noT_33.t5 noT_33.t6)
  have M1:=hide hp2
  obtain ⟨ta,tc,hT⟩:=hp2.shT
  have d1:=Y1.out.cell
  have d2:=Y2.out.cell
  have d3:=Y3.out.cell
  have f2:=Y2.out.frz
  have f3:=Y3.out.frz
  have d14:w1.cell? ⟨r,14,none⟩=some (.slice ta x.told.length tc):=(hp2.rd.cell 14).trans (by rw [←hT];rfl)
  have f14:w1.frozen? ⟨r,14,none⟩=false:=hp2.rd.frz 14
  have hT':=hide hT
  clear c0 c1 c2 c3 hp1 hp2 hp3 hT
  have rk:r<k:=by omega
  have n1:¬ r=k:=by omega
  have n2:¬ r=k + 1:=by omega
  have n3:¬ r=k + 1 + 1:=by omega
  have n4:¬ k + 1=r:=by omega
  have n5:¬ k=r:=by omega
  go_wp2_with fail
  refine wp_region_noPanic ?_
  go_region_with (fail)
  all_goals
   refine NoPanic.normal ?_
   go_wp2_with fail
   refine leaves_cons (f:=58) (args:=#[.pointer (some ⟨k,0,none⟩),.pointer (some ⟨k + 1,0,none⟩),.pointer (some ⟨k + 1 + 1,0,none⟩)]) (by simp) (by simp [go_sem]) ?_
   refine (acatch_idle ⟨k,0,none⟩ ⟨k + 1,0,none⟩ ⟨k + 1 + 1,0,none⟩ _).mono ?_
   rintro e u' w'' ⟨rfl,rfl,rfl⟩
   have hlo:g.lo≤k:=by have:=lo.out;rw [hk'.out] at this;exact this
   have A1:=M1.out.bx Y2.out noT_50 (by omega) (.slice ta x.told.length tc)
   have A2:=A1.t0
   have G2:=((Y2.out.set (.slice ta x.told.length tc)).other (b:=r) (j:=14) (u:=.slice none 0 0) (by omega))
   have G3:=((Y3.out.other (b:=k + 1) (j:=0) (u:=.slice ta x.told.length tc) (by omega)).other (b:=r) (j:=14) (u:=.slice none 0 0) (by omega))
   have nn:∀ {q:Nat},NoB m1 q→NoB {m1 with told:=.slice none 0 0} q:=fun nb=>⟨nb.1,nb.2.1,fun e=>by cases e⟩
   have A3:=A2.1.bx ⟨G2.1,nn G2.2⟩ noT_50 (by omega) (.slice ta x.told.length tc)
   have G2':=G2.set (.slice ta x.told.length tc)
   have G3':=G3.other (b:=k + 1) (j:=0) (u:=.slice ta x.told.length tc) (by omega)
   have A4:=A3.bx ⟨G3'.1,nn G3'.2⟩ noT_33 (by omega) (.int .i64 0)
   have G2'':=G2'.other (b:=k + 1 + 1) (j:=0) (u:=.int .i64 0) (by omega)
   have G3'':=G3'.set (.int .i64 0)
   have P1:=F1.out.bx (k:=k + 1) (by rw [hk'.out];omega) lo.out (.slice ta x.told.length tc)
   have P2:=P1.trans O1.out A2.2.1
   have P3:=P2.bx (k:=k + 1) (by rw [hk'.out];omega) lo.out (.slice ta x.told.length tc)
   have P4:=P3.bx (k:=k + 1 + 1) (by rw [hk'.out];omega) lo.out (.int .i64 0)
   have OT:w1.ownsRow (r + 1) 74 7 (.slice ta x.told.length tc) x.told.length (ecs x.told):=hT'.out ▸ M1.out.told
   have nbt:=fun q (hq:(Value.slice ta x.told.length tc).ownBlock=some q)=>(show q≠r∧q≠k + 1∧q≠k + 1 + 1 from ⟨by have:=(World.ownsRow.lt OT q hq).1;omega,fun e=>Y2.out.2.2.2 (by rw [hT'.out,hq,e]),fun e=>Y3.out.2.2.2 (by rw [hT'.out,hq,e])⟩)
   have OZ:((((w1.setCell ⟨k + 1,0,none⟩ (.slice ta x.told.length tc)).setCell ⟨r,14,none⟩ (.slice none 0 0)).setCell ⟨k + 1,0,none⟩ (.slice ta x.told.length tc)).setCell ⟨k + 1 + 1,0,none⟩ (.int .i64 0)).ownsRow (r + 1) 74 7 (.slice ta x.told.length tc) x.told.length (ecs x.told):=own_of OT fun q hq _=>by
    obtain ⟨q1,q2,q3⟩:=nbt q hq
    rw [Below.heap_setCell _ _ _ _ q3,Below.heap_setCell _ _ _ _ q2,Below.heap_setCell _ _ _ _ q1,Below.heap_setCell _ _ _ _ q2]
   have OBv:OB W m.told (.slice ta x.told.length tc):=by rw [←hT'.out];exact O1.out.told
   have OMm:OM W m {m1 with told:=.slice none 0 0}:=⟨O1.out.word,O1.out.held,Or.inr fun q hq=>by cases hq⟩
   have dr:=fun (Z:World)=>(dn_b Z 1)
   obtain ⟨Z,hZ⟩:∃ Z,(((w1.setCell ⟨k + 1,0,none⟩ (.slice ta x.told.length tc)).setCell ⟨r,14,none⟩ (.slice none 0 0)).setCell ⟨k + 1,0,none⟩ (.slice ta x.told.length tc)).setCell ⟨k + 1 + 1,0,none⟩ (.int .i64 0)=Z:=⟨_,rfl⟩
   rw [hZ] at A4 G2'' G3'' P4 OZ ⊢
   have e2:Z.drew.cell? ⟨k + 1,0,none⟩=some (.slice ta x.told.length tc):=G2''.cell
   have e3:Z.drew.cell? ⟨k + 1 + 1,0,none⟩=some (.int .i64 0):=G3''.cell
   clear hZ A1 A2 A3 G2 G3 G2' G3' P1 P2 P3
   simp [Leaves,settle,results,Tryz.results30,go_sem,e2,e3]
   refine ⟨P4.trans (OM.refl _ _) (RF.of (Below.refl Z.heap.size Z).drew (by have:=P4.below.size;have:=lo.out;omega)),{m1 with told:=.slice none 0 0},.slice ta x.told.length tc,rfl,A4.then (Below.refl Z.heap.size Z).drew,OMm,rfl,own_of OZ fun q _ _=>rfl,OBv⟩
end
section
variable {W W1 W2 : World} {r : Nat} {g : Gv} {m m1 : Mv} {st : St}
theorem OB.pre {v v':Value} (h:OB W1 v v') (hz:W.heap.size≤W1.heap.size):OB W v v':=(OB.refl W v).trans h hz
theorem OM.pre {m':Mv} (h:OM W1 m m') (hz:W.heap.size≤W1.heap.size):OM W m m':=⟨h.word.pre hz,h.held.pre hz,h.told.pre hz⟩
theorem AP.pre {o:Sum Int St} {e:Ending} (h:AP W1 r g m o e W2) (hb:Below W.heap.size W W1) (lo:g.lo≤W.heap.size):AP W r g m o e W2:=by
 obtain ⟨h1,h2⟩:=h
 refine ⟨(RF.of hb lo).trans (OM.refl _ _) h1,?_⟩
 cases o with
 | inl E=>exact h2
 | inr x =>
  obtain ⟨m',v,a1,a2,a3,a4,a5,a6⟩:=h2
  exact ⟨m',v,a1,a2,a3.pre hb.size,a4,a5,a6.pre hb.size⟩
theorem SB.then {lo:Nat} {v:Value} {l:List UInt8} (h:SB W lo m v l) (hb:Below W.heap.size W W1):SB W1 lo m v l:=by
 refine ⟨h.shape,h.len,fun hl=>?_⟩
 obtain ⟨b,o,c,h1,h2,h3⟩:=h.rd hl
 have hlt:b<W.heap.size:=by
  have:=h2 0 hl
  unfold World.cell? at this
  by_cases q:b<W.heap.size
  ·exact q
  ·rw [Array.getElem?_eq_none (by simpa using q)] at this;cases this
 refine ⟨b,o,c,h1,fun j hj=>?_,?_⟩
 ·rw [←h2 j hj];exact World.cell?_of_block (w:=W) (hb.block b hlt)
 ·rcases h3 with h3|⟨h3,c',f,h4⟩
  ·exact Or.inl h3
  ·exact Or.inr ⟨h3,c',f,(hb.block b hlt).trans h4⟩
set_option maxRecDepth 100000 in
theorem feed_r (h:RM W r g m st) (hw:Wf st) {v:Value} {l:List UInt8} (hs:SB W g.lo m v l):Calls Tryz.prog 18 #[.pointer (some ⟨r,0,none⟩),v] W fun e w'=>AP W r g m (feedS st l) e w':=by
 have hmf:∀ (fn:Fn) (first cap:Array Value) (w:World),(Instr.makeFunc fn first cap).run Tryz.prog w=.ok (.func fn first cap) w:=fun _ _ _ _=>rfl
 obtain ⟨va,vc,hv⟩:=hs.shape
 have hlt:=h.lt
 have A:Hid (Calls Tryz.prog 30 #[.pointer (some ⟨r,0,none⟩),.func (.func 31) #[] #[.pointer (some ⟨W.heap.size + 1,0,none⟩),.pointer (some ⟨W.heap.size,0,none⟩)]] ((W.alloc (.cells #[.pointer (some ⟨r,0,none⟩)] 43)).alloc (.cells #[.slice va l.length vc] 32)) fun e w'=>AP W r g m (feedS st l) e w'):=by
  obtain ⟨W2,hW2⟩:∃ W2,W2=(W.alloc (.cells #[.pointer (some ⟨r,0,none⟩)] 43)).alloc (.cells #[.slice va l.length vc] 32):=⟨_,rfl⟩
  have B2:Below W.heap.size W W2:=by rw [hW2];exact below_al (below_al (Below.refl _ _))
  have M2:=h.then B2
  have X1:Bo W2 m W.heap.size (.pointer (some ⟨r,0,none⟩)) 43:=⟨by rw [hW2,Below.heap_alloc _ _ _ (by simp)];exact heap_alloc_last _ _,h.nob (Nat.le_refl _)⟩
  have X2:Bo W2 m (W.heap.size + 1) v 32:=⟨by
   rw [hW2,hv]
   have:=heap_alloc_last (W.alloc (.cells #[.pointer (some ⟨r,0,none⟩)] 43)) (.cells #[.slice va l.length vc] 32)
   rw [World.size_alloc] at this
   exact this,h.nob (Nat.le_succ _)⟩
  rw [←hW2]
  refine (attF_r M2 (feedS st l) fun w1 h1 hf=>feed1_r h1 hw (X2.move hf (OM.refl _ _) noT_32.t1 noT_32.t2 noT_32.t3 noT_32.t4 noT_32.t5 noT_32.t6) (X1.move hf (OM.refl _ _) noT_48.t1 noT_48.t2 noT_48.t3 noT_48.t4 noT_48.t5 noT_48.t6) ((hs.then B2).move hf (OM.refl _ _))).mono ?_
  intro e w' hp
  exact hp.pre B2 h.lo
 subst hv
 clear h hw hs
 generalize feedS st l=o at A ⊢
 cases o with
 | inl E =>
  go_enter Tryz.func18, Tryz.ntmps18
  go_wp2_with (go_at_call 30;refine A.out.mono ?_;rintro e w1 ⟨hp1,rfl,hp2⟩;have F1:=hide hp1;have R1:=hide hp2;clear hp1 hp2)
  exact bodyPost_ret (v:=.tuple #[.slice none 0 0,.int .i64 E]) (by simp [results,Tryz.results18,go_sem]) rfl ⟨F1.out,rfl,R1.out⟩
 | inr x =>
  have A2:Hid (Calls Tryz.prog 30 #[.pointer (some ⟨r,0,none⟩),.func (.func 31) #[] #[.pointer (some ⟨W.heap.size + 1,0,none⟩),.pointer (some ⟨W.heap.size,0,none⟩)]] ((W.alloc (.cells #[.pointer (some ⟨r,0,none⟩)] 43)).alloc (.cells #[.slice va l.length vc] 32)) fun e w'=>∃ a n c,e=.returned (.tuple #[.slice a n c,.int .i64 0])∧AP W r g m (.inr x) e w'):=A.out.mono (by
   intro e w' hp
   have hp':=hp
   obtain ⟨_,m',v,rfl,_,_,_,h5,_⟩:=hp
   rcases h5.2 with ⟨rfl,_⟩|⟨g',cap,cur,rfl,_⟩
   ·exact ⟨_,_,_,rfl,hp'⟩
   ·exact ⟨_,_,_,rfl,hp'⟩)
  clear A
  go_enter Tryz.func18, Tryz.ntmps18
  go_wp2_with (go_at_call 30;refine A2.out.mono ?_;rintro e w1 ⟨a1,n1,c1,rfl,hp2⟩;have R1:=hide hp2;clear hp2)
  exact bodyPost_ret (v:=.tuple #[.slice a1 n1 c1,.int .i64 0]) (by simp [results,Tryz.results18,go_sem]) rfl R1.out
end
def Er (E:Int):Prop:=E=70∨E=2
theorem er70:Er 70:=Or.inl rfl
theorem er2:Er 2:=Or.inr rfl
theorem Er.ne {E:Int} (h:Er E):E≠0:=by rcases h with rfl|rfl <;> decide
theorem bnd_er {β γ:Type} {o:Sum Int β} {f:β→Sum Int γ} {E:Int} (h:bnd o f=.inl E) (h1:∀ E,o=.inl E→Er E) (h2:∀ y E,f y=.inl E→Er E):Er E:=by
 cases o with
 | inl F=>cases h;exact h1 _ rfl
 | inr y=>exact h2 y E h
theorem no_er {γ:Type} {x:γ} {E:Int} (h:(Sum.inr x:Sum Int γ)=.inl E):Er E:=by cases h
section
variable {st : St} {E : Int}
theorem tell_er {e:Hd} (h:tellS st e=.inl E):Er E:=by
 unfold tellS at h
 split at h
 ·cases h;exact er70
 ·split at h
  ·split at h
   ·cases h;exact er2
   ·cases h
  ·cases h
theorem pass_er (h:passS st=.inl E):Er E:=by
 unfold passS at h
 split at h
 ·cases h;exact er2
 ·cases h
theorem begin_er {e:Hd} (h:beginS st e=.inl E):Er E:=bnd_er h (fun _ k=>tell_er k) fun _ _ k=>no_er k
theorem end_er (h:endS st=.inl E):Er E:=bnd_er h (fun _ k=>tell_er k) fun _ _ k=>no_er k
theorem name_er {s:ByteArray} (h:nameS st s=.inl E):Er E:=bnd_er h (fun _ k=>tell_er k) fun _ _ k=>no_er k
theorem rec_er {s:ByteArray} (h:recS st s=.inl E):Er E:=bnd_er h (fun _ k=>begin_er k) fun _ _ k=>name_er k
theorem first_er {s:ByteArray} (h:firstS st s=.inl E):Er E:=by
 rw [firstS_eq] at h
 split at h
 ·cases h
 split at h
 ·cases h
 split at h
 ·cases h
 split at h
 ·split at h
  ·exact rec_er h
  ·cases h;exact er70
 ·exact rec_er h
theorem text_er {s:ByteArray} (h:textS st s=.inl E):Er E:=by
 unfold textS at h
 split at h
 ·exact bnd_er h (fun _ k=>tell_er k) fun _ _ k=>no_er k
 split at h
 ·exact first_er h
 split at h
 ·exact name_er h
 split at h
 ·unfold floatS at h
  split at h
  ·exact bnd_er h (fun _ k=>tell_er k) fun _ _ k=>no_er k
  ·cases h;exact er70
 split at h
 ·unfold bytesS at h
  split at h
  ·cases h;exact er70
  ·exact bnd_er h (fun _ k=>tell_er k) fun _ _ k=>no_er k
 split at h
 ·exact bnd_er h (fun _ k=>begin_er k) fun _ _ k=>no_er k
 ·cases h;exact er70
theorem word_er {s:ByteArray} (h:wordS st s=.inl E):Er E:=by
 unfold wordS at h
 split at h
 ·refine bnd_er h (fun F k=>?_) fun y _ k=>bnd_er k (fun _ k=>tell_er k) fun _ _ k=>no_er k
  unfold wordE at k
  split at k
  ·cases k
  split at k
  ·cases k
  split at k
  ·cases k
  unfold numS at k
  split at k
  ·cases k
  split at k
  ·exact bnd_er k (fun _ k=>pass_er k) fun _ _ k=>no_er k
  ·cases k;exact er70
 ·cases h;exact er70
theorem endWord_er (h:endWordS st=.inl E):Er E:=by
 unfold endWordS at h
 split at h
 ·cases h
 ·exact word_er h
theorem mark_er {c:UInt8} (h:markS st c=.inl E):Er E:=by
 unfold markS at h
 split at h
 ·cases h
 split at h
 ·unfold openL at h
  split at h
  ·exact bnd_er h (fun _ k=>begin_er k) fun _ _ k=>no_er k
  split at h
  ·cases h
  ·cases h;exact er70
 split at h
 ·unfold closeL at h
  split at h
  ·exact bnd_er h (fun _ k=>end_er k) fun _ _ k=>no_er k
  split at h
  ·exact bnd_er h (fun _ k=>end_er k) fun _ _ k=>no_er k
  ·cases h;exact er70
 split at h
 ·unfold openO at h
  split at h
  ·cases h
  ·cases h;exact er70
 split at h
 ·unfold closeO at h
  split at h
  ·exact bnd_er h (fun _ k=>begin_er k) fun _ _ k=>bnd_er k (fun _ k=>end_er k) fun _ _ k=>no_er k
  split at h
  ·exact bnd_er h (fun _ k=>end_er k) fun _ _ k=>no_er k
  split at h
  ·cases h
  ·cases h;exact er70
 split at h
 ·unfold commaS at h
  split at h
  ·cases h
  split at h
  ·cases h
  ·cases h;exact er70
 split at h
 ·unfold colonS at h
  split at h
  ·cases h
  ·cases h;exact er70
 ·cases h
theorem holdQ_er {q:Qa} {l:List UInt8} (h:holdQ q l=.inl E):Er E:=by
 unfold holdQ at h
 split at h
 ·cases h
 ·cases h;exact er2
theorem endQ_er {q:Qa} (h:endQ q=.inl E):Er E:=by
 unfold endQ at h
 split at h
 ·cases h
 split at h
 ·cases h;exact er70
 split at h
 ·exact holdQ_er h
 ·cases h;exact er70
theorem retQ_er {o:Sum Int (Value×Qa)} (h:retQ o=.inl E):o=.inl E:=by
 cases o with
 | inl F=>exact h
 | inr x=>cases h
theorem takeQ_er {q:Qa} {c:UInt8} (h:takeQ q c=.inl E):Er E:=by
 unfold takeQ at h
 split at h
 ·have h:=retQ_er h
  unfold uescQ at h
  split at h
  ·cases h
  split at h
  ·cases h;exact er70
  split at h
  ·cases h;exact er70
  split at h
  ·cases h
  ·cases h;exact er2
 split at h
 ·have h:=retQ_er h
  unfold digQ at h
  split at h
  ·cases h;exact er70
  ·simp only at h
   split at h
   ·split at h
    ·rename_i he;cases h;exact endQ_er he
    ·cases h
   ·cases h
 ·unfold plainQ at h
  split at h
  ·cases h
  split at h
  ·cases h;exact er70
  split at h
  ·cases h
  split at h
  ·cases h
  ·cases h;exact er2
theorem textQ_er {q:Qa} (h:textQ q=.inl E):Er E:=by
 unfold textQ at h
 split at h
 ·cases h
 ·cases h;exact er70
theorem take_er {c:UInt8} (h:takeS st c=.inl E):Er E:=by
 unfold takeS at h
 refine bnd_er h (fun F k=>?_) fun x F k=>?_
 ·split at k
  ·exact pass_er k
  ·cases k
 ·unfold goS at k
  split at k
  ·unfold quoS at k
   refine bnd_er k (fun _ k=>takeQ_er k) fun y _ k=>?_
   split at k
   ·exact bnd_er k (fun _ k=>textQ_er k) fun _ _ k=>text_er k
   ·cases k
  split at k
  ·exact bnd_er k (fun _ k=>endWord_er k) fun _ _ k=>mark_er k
  ·unfold holdS at k
   split at k
   ·cases k;exact er2
   ·cases k
theorem feed_er {l:List UInt8} (h:feedS st l=.inl E):Er E:=by
 induction l generalizing st with
 | nil=>cases h
 | cons c l ih =>
  simp only [feedS] at h
  cases ht:takeS st c with
  | inl F=>rw [ht] at h;cases h;exact take_er ht
  | inr y=>rw [ht] at h;exact ih h
theorem fin_er (h:finS st=.inl E):Er E:=by
 unfold finS at h
 refine bnd_er h (fun _ k=>endWord_er k) fun x _ k=>?_
 split at k
 ·cases k;exact er70
 split at k
 ·cases k;exact er2
 ·cases k
end
def EP (W:World) (r:Nat) (g:Gv) (m:Mv) (o:Sum Int St) (e:Ending) (w':World):Prop :=
 RF g m W w'∧match o with
 | .inl E=>e=.returned (.tuple #[.slice none 0 0,.int .i64 E])∧RdE w' r E
 | .inr x=>∃ v,e=.returned (.tuple #[v,.int .i64 0])∧RdE w' r 70∧w'.ownsRow (r + 1) 74 7 v x.told.length (ecs x.told)∧OB W m.told v
section
variable {W W1 W2 : World} {r : Nat} {g : Gv} {m m1 : Mv} {st : St}
set_option maxRecDepth 100000 in
theorem endl_r (h:RM W r g m st) (hw:Wf st):Calls Tryz.prog 19 #[.pointer (some ⟨r,0,none⟩)] W fun e w'=>EP W r g m (finS st) e w':=by
 have hmf:∀ (fn:Fn) (first cap:Array Value) (w:World),(Instr.makeFunc fn first cap).run Tryz.prog w=.ok (.func fn first cap) w:=fun _ _ _ _=>rfl
 have hlt:=h.lt
 have A:=hide (attE_r h (finS st) fun w1 h1 _=>finish_r h1 (by have:=hw.n;have:=hw.tot;omega))
 have her:=fun E (k:finS st=.inl E)=>(fin_er k).ne
 clear h hw
 generalize finS st=o at A her ⊢
 cases o with
 | inl E =>
  have hE:=her E rfl
  have e0:(E==0)=false:=by simpa using hE
  clear her hE
  go_enter Tryz.func19, Tryz.ntmps19
  go_wp2_with (go_at_call 30;refine A.out.mono ?_;rintro e w1 ⟨hp1,rfl,hp2⟩;have F1:=hide hp1;have R1:=hide hp2;clear hp1 hp2)
  exact bodyPost_ret (v:=.tuple #[.slice none 0 0,.int .i64 E]) (by simp [results,Tryz.results19,go_sem]) rfl ⟨F1.out,rfl,R1.out⟩
 | inr x =>
  clear her
  have A2:Hid (Calls Tryz.prog 30 #[.pointer (some ⟨r,0,none⟩),.func (.func 33) #[.pointer (some ⟨r,0,none⟩)] #[]] W fun e w'=>∃ a n c,e=.returned (.tuple #[.slice a n c,.int .i64 0])∧RF g m W w'∧(∃ m',RM w' r g m' {x with told:=[]})∧w'.ownsRow (r + 1) 74 7 (.slice a n c) x.told.length (ecs x.told)∧OB W m.told (.slice a n c)):=A.out.mono (by
   intro e w' hp
   obtain ⟨h1,m',v,rfl,h2,_,_,h5,h6⟩:=hp
   rcases id h5.2 with ⟨rfl,_⟩|⟨g',cap,cur,rfl,_⟩
   ·exact ⟨_,_,_,rfl,h1,⟨m',h2⟩,h5,h6⟩
   ·exact ⟨_,_,_,rfl,h1,⟨m',h2⟩,h5,h6⟩)
  clear A
  go_enter Tryz.func19, Tryz.ntmps19
  go_wp2_with (go_at_call 30;refine A2.out.mono ?_;rintro e w1 ⟨a1,n1,k1,rfl,hp1,⟨m',hp2⟩,hp3,hp4⟩;have F1:=hide hp1;have M1:=hide hp2;have O1:=hide hp3;have B1:=hide hp4;have fr:=hp2.rd.frz;have c0:w1.cell? ⟨r,0,none⟩=some (.int .i64 0):=(hp2.rd.cell 0).trans rfl;have c1:w1.cell? ⟨r,1,none⟩=some (.int .i64 x.total):=(hp2.rd.cell 1).trans rfl;have c2:w1.cell? ⟨r,2,none⟩=some (.bool x.passed):=(hp2.rd.cell 2).trans rfl;have c3:w1.cell? ⟨r,3,none⟩=some m'.word:=(hp2.rd.cell 3).trans rfl;have c4:w1.cell? ⟨r,4,none⟩=some (.int .i64 x.q.place):=(hp2.rd.cell 4).trans rfl;have c5:w1.cell? ⟨r,5,none⟩=some m'.held:=(hp2.rd.cell 5).trans rfl;have c6:w1.cell? ⟨r,6,none⟩=some (.int .i64 x.q.digits):=(hp2.rd.cell 6).trans rfl;have c7:w1.cell? ⟨r,7,none⟩=some (.int .i64 x.q.number):=(hp2.rd.cell 7).trans rfl;have c8:w1.cell? ⟨r,8,none⟩=some (.int .i64 x.q.high):=(hp2.rd.cell 8).trans rfl;have c9:w1.cell? ⟨r,9,none⟩=some (.int .i64 x.wait):=(hp2.rd.cell 9).trans rfl;have c10:w1.cell? ⟨r,10,none⟩=some (.int .i64 x.behind):=(hp2.rd.cell 10).trans rfl;have c11:w1.cell? ⟨r,11,none⟩=some m'.opn:=(hp2.rd.cell 11).trans rfl;have c12:w1.cell? ⟨r,12,none⟩=some (.pointer (some ⟨g.ck,0,none⟩)):=(hp2.rd.cell 12).trans rfl;have c13:w1.cell? ⟨r,13,none⟩=some (.pointer (some ⟨g.ty,0,none⟩)):=(hp2.rd.cell 13).trans rfl;have c14:w1.cell? ⟨r,14,none⟩=some m'.told:=(hp2.rd.cell 14).trans rfl;clear hp1 hp2 hp3 hp4)
  have DR:=dead_rd M1.out.rd 70
  have DB:=dead_but w1 r 70
  obtain ⟨D,hD⟩:∃ D,dead15 w1 r 70=D:=⟨_,rfl⟩
  rw [hD] at DR DB
  simp only [dead15] at hD
  rw [hD]
  refine bodyPost_ret (v:=.tuple #[.slice a1 n1 k1,.int .i64 0]) (by simp [results,Tryz.results19,go_sem]) rfl ⟨?_,.slice a1 n1 k1,rfl,DR,?_,B1.out⟩
  ·refine ⟨F1.out.below.trans (DB.below M1.out.gk.loR),fun q c T f hq t1 t2 t3 t4 t5 t6 n1 n2 n3=>?_⟩
   have hk:=F1.out.keep q c T f hq t1 t2 t3 t4 t5 t6 n1 n2 n3
   rw [DB.blk q (fun e=>?_)]
   ·exact hk
   ·have hr:=M1.out.rd
    unfold RdB at hr
    rw [e,hr] at hk
    exact t1 (cells_ty hk).symm
  ·exact own_of O1.out fun q hq _=>DB.blk q (by have:=(World.ownsRow.lt O1.out q hq).1;omega)
end
end Go.Proofs.YtpimjkdakjhoaaaGreatDoor
