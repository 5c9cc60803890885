/- Merged by program: BpRead, BqDead, BrCut, BsFeed, BtParts. -/
import Derived.Test.YthodiandebahdaaGreatDoorZy36
import Derived.Test.YthodiandebahdaaGreatDoorZy37
import Derived.Test.YthodiandebahdaaGreatDoorZy34
import Derived.Test.YthodiandebahdaaGreatDoorZy24
namespace Go.Proofs.YthodiandebahdaaGreatDoor
open Go.RowKit
set_option linter.unusedSimpArgs false
set_option linter.unusedVariables false
set_option maxHeartbeats 8000000
theorem RB.sl {W:World} {v:Value} {l:List UInt8} (h:RB W v l):SL W W.heap.size v l:=⟨h.shape,h.len,fun hl=>by
 obtain ⟨b,o,c,h1,h2,h3⟩:=h.rd hl
 exact ⟨b,o,c,h1,h3,h2⟩⟩
def Ry (es:List Hd) (w:World) (e:Ending) (w':World):Prop :=
 Below w.heap.size w w'∧∃ (x:VT es.length) (a1:Option Addr) (m1 d1:Nat) (a2:Option Addr) (m2 d2:Nat),e=.returned (.tuple #[.agg (vals (vhd es.length x) (.slice a1 m1 d1) (.slice a2 m2 d2)),.int .i64 0])∧es=fl es.length x∧Chk es.length x 0∧Rg es.length x∧Rdy es.length w' x (.slice a1 m1 d1) (.slice a2 m2 d2)
theorem read_ok (w:World) (va:Option Addr) (vc:Nat) (l:List UInt8) (hs:RB w (.slice va l.length vc) l) (gu:Ut.Gu w) (ge:Ge True w) (h8:8≤w.heap.size) (es:List Hd) (h:readX l=.inr es) :
  Calls Tryz.prog 15 #[.slice va l.length vc] w fun e w'=>Ry es w e w':=by
 obtain ⟨hd,t,ht⟩:=readX_done h
 have hb:=readX_b64 h
 have hok:=readX_ok l es h
 refine (xread_x w va vc l hs.sl gu ge.all h8 (readX_ok l)).mono ?_
 rintro e w' ⟨hw,hr⟩
 rw [h] at hr
 obtain ⟨y,E,rfl,h1,h2,h3⟩:=hr
 obtain ⟨x,k1,k2,k3,k4,k5⟩:=h3 ((doneS_iff _).2 hd)
 have kw:Win es.length x:=(tally_win es.length x k2).1 ⟨t,by rw [←k1];exact ht⟩
 have hE:E=0:=k4.2 kw
 subst hE
 obtain ⟨ns,ls,s,f,rfl,k6,k7⟩:=k5 rfl
 obtain ⟨a1,m1,d1,a2,m2,d2,rfl,rfl⟩:=k7.rd.shape
 refine ⟨hw,x,a1,m1,d1,a2,m2,d2,rfl,k1,Or.inr (Or.inr ⟨rfl,k2,kw⟩),fl_rg es.length x k2 (by rw [←k1];exact hb),k7.rd,k3,?_⟩
 have:=fl_siz es.length x k2
 rw [←k1] at this
 omega
theorem read_no (w:World) (va:Option Addr) (vc:Nat) (l:List UInt8) (hs:RB w (.slice va l.length vc) l) (gu:Ut.Gu w) (ge:Ge True w) (h8:8≤w.heap.size) (E:Int) (h:readX l=.inl E) :
  Calls Tryz.prog 15 #[.slice va l.length vc] w fun e w'=>Below w.heap.size w w'∧e=.returned (.tuple #[.agg zV,.int .i64 E]):=by
 refine (xread_x w va vc l hs.sl gu ge.all h8 (readX_ok l)).mono ?_
 rintro e w' ⟨hw,hr⟩
 rw [h] at hr
 exact ⟨hw,hr⟩
theorem er_ne {E:Int} (h:Er E):E≠0:=by
 rcases h with rfl|rfl <;> decide
theorem readX_er {l:List UInt8} {E:Int} (h:readX l=.inl E):E≠0:=by
 unfold readX at h
 cases hf:feedX x0 l with
 | inl F =>
  rw [hf] at h
  cases h
  exact er_ne (feedX_e hf)
 | inr x =>
  rw [hf] at h
  cases hn:finX {x with t:={x.t with told:=[]} } with
  | inl F =>
   simp only [bnd,hn] at h
   cases h
   rcases finX_err hn with e|e <;> rw [e] <;> decide
  | inr y=>simp only [bnd,hn] at h;cases h
theorem equal_tells (n m:Nat) (x:VT n) (y:VT m) (ns ls ns' ls':Value) (w:World) (hx:RD n w x ns ls) (hy:RD m w y ns' ls') (vx:IsV n x) (vy:IsV m y) (he:fl n x=fl m y) :
  Calls Tryz.prog 13 #[.agg (vals (vhd n x) ns ls),.agg (vals (vhd m y) ns' ls')] w fun e w'=>e=.returned (.bool true)∧Below w.heap.size w w':=by
 obtain ⟨N,z,h1,h2,h3,h4⟩:=same_tree n m x y vx vy he
 rw [←h1,←h2]
 exact Calls.tb (b:=true) (requal_any N z z ns ls ns' ls' w (h3 w ns ls hx) (h4 w ns' ls' hy)) (by simp)
structure XdE (W:World) (r t:Nat) (E:Int):Prop where
 tl:TlE W t E
 rd:XdB W r (clX t)
section
variable {W W1 W2 : World} {r t : Nat} {E : Int}
theorem TlE.lt (h:TlE W t E):t<W.heap.size:=(Array.getElem?_eq_some_iff.1 h).1
theorem TlE.then (h:TlE W t E) (hb:Below W.heap.size W W1):TlE W1 t E:=(hb.block t h.lt).trans h
theorem TlE.ne (h:TlE W t E) {s:Xv} (k:XdB W r s):t≠r:=by
 intro e
 unfold TlE at h
 unfold XdB at k
 rw [←e,h] at k
 exact absurd (cells_ty k) (by decide)
theorem XdE.then (h:XdE W r t E) (hb:Below W.heap.size W W1):XdE W1 r t E:=⟨h.tl.then hb,h.rd.same (hb.block r h.rd.lt)⟩
set_option maxRecDepth 100000 in
theorem tatt_dead (W:World) (t:Nat) (E:Int) (hE:E≠0) (h:TlE W t E) (fn:Fn) (a b:Array Value):Calls Tryz.prog 56 #[.pointer (some ⟨t,0,none⟩),.func fn a b] W fun e w'=>e=.returned (.tuple #[.slice none 0 0,.int .i64 E])∧Below W.heap.size W w':=by
 have ne:(E != 0)=true:=by simpa using hE
 have cA:∀ o1 o2 o3,(((W.alloc o1).alloc o2).alloc o3).cell? ⟨t,1,none⟩=some (.int .i64 E):=fun o1 o2 o3=>by
  have:=h.then (W1:=((W.alloc o1).alloc o2).alloc o3) (below_al (below_al (below_al (Below.refl _ _))))
  unfold TlE at this
  simp [World.cell?,this,deadC]
 have hlt:=h.lt
 clear h hE
 go_enter_defers Tryz.func56, Tryz.ntmps56
 go_wp2_with fail
 refine wp_region_noPanic ?_
 go_region_with (fail)
 all_goals
  refine NoPanic.normal ?_
  go_wp2_with fail
  simp [bodyPostD,Leaves,settle,results,Tryz.results56,go_sem]
  first
   | exact below_al (below_al (below_al (Below.refl _ _)))
   | exact (below_al (below_al (below_al (Below.refl _ _)))).drew
   | trace_state
set_option maxRecDepth 100000 in
theorem tfeed_dead (W:World) (t r:Nat) (E:Int) (hE:E≠0) (h:TlE W t E) (a:Option Addr) (n c:Nat):Calls Tryz.prog 30 #[.pointer (some ⟨t,0,none⟩),.slice a n c,tkV r] W fun e w'=>e=.returned (.tuple #[.slice none 0 0,.int .i64 E])∧Below W.heap.size W w':=by
 have hmf:∀ (fn:Fn) (first cap:Array Value) (w:World),(Instr.makeFunc fn first cap).run Tryz.prog w=.ok (.func fn first cap) w:=fun _ _ _ _=>rfl
 have A:=hide (fun o1 o2 o3 fn a b=>tatt_dead (((W.alloc o1).alloc o2).alloc o3) t E hE (h.then (below_al (below_al (below_al (Below.refl _ _))))) fn a b)
 have hlt:=h.lt
 clear h
 unfold tkV
 go_enter Tryz.func30, Tryz.ntmps30
 go_wp2_with (go_at_call 56;refine (A.out _ _ _ _ _ _).mono ?_;rintro e w1 ⟨rfl,hp1⟩;have B1:=hide hp1;clear hp1)
 exact bodyPost_ret (v:=.tuple #[.slice none 0 0,.int .i64 E]) (by simp [results,Tryz.results30,go_sem]) rfl ⟨rfl,below_then (below_al (below_al (below_al (Below.refl _ _)))) B1.out⟩
set_option maxRecDepth 100000 in
theorem tend_dead (W:World) (t r:Nat) (E:Int) (hE:E≠0) (h:TlE W t E):Calls Tryz.prog 32 #[.pointer (some ⟨t,0,none⟩),fnV r] W fun e w'=>e=.returned (.tuple #[.slice none 0 0,.int .i64 E])∧Below W.heap.size W w':=by
 have hmf:∀ (fn:Fn) (first cap:Array Value) (w:World),(Instr.makeFunc fn first cap).run Tryz.prog w=.ok (.func fn first cap) w:=fun _ _ _ _=>rfl
 have A:=hide (fun o1 o2 fn a b=>tatt_dead ((W.alloc o1).alloc o2) t E hE (h.then (below_al (below_al (Below.refl _ _)))) fn a b)
 have e0:(E==0)=false:=by simpa using hE
 have hlt:=h.lt
 clear h
 unfold fnV
 go_enter Tryz.func32, Tryz.ntmps32
 go_wp2_with (go_at_call 56;refine (A.out _ _ _ _ _).mono ?_;rintro e w1 ⟨rfl,hp1⟩;have B1:=hide hp1;clear hp1)
 exact bodyPost_ret (v:=.tuple #[.slice none 0 0,.int .i64 E]) (by simp [results,Tryz.results32,go_sem]) rfl ⟨rfl,below_then (below_al (below_al (Below.refl _ _))) B1.out⟩
def DeP (W:World) (r t:Nat) (E:Int) (e:Ending) (w':World):Prop:=e=.returned (.tuple #[.slice none 0 0,.int .i64 E])∧XdE w' r t E∧∃ w1,Below W.heap.size W w1∧But r w1 w'
theorem DeP.mk0 {w1 D:World} (h:XdE W r t E) (hb:Below W.heap.size W w1) (hD:clean7 w1 r t=D):DeP W r t E (.returned (.tuple #[.slice none 0 0,.int .i64 E])) D:=by
 have h1:=h.then hb
 have DB:=clean_but w1 r t
 have DR:=clean_rd (t:=t) h1.rd
 rw [hD] at DB DR
 have hT:=h1.tl
 unfold TlE at hT
 exact ⟨rfl,⟨(DB.blk t (h1.tl.ne h1.rd)).trans hT,DR⟩,w1,hb,DB⟩
set_option maxRecDepth 100000 in
theorem feed_deadX (h:XdE W r t E) (hE:E≠0) (a:Option Addr) (n c:Nat):Calls Tryz.prog 18 #[.pointer (some ⟨r,0,none⟩),.slice a n c] W fun e w'=>DeP W r t E e w':=by
 have hmf:∀ (fn:Fn) (first cap:Array Value) (w:World),(Instr.makeFunc fn first cap).run Tryz.prog w=.ok (.func fn first cap) w:=fun _ _ _ _=>rfl
 have C:=hide (fun w (hb:Below W.heap.size W w)=>tfeed_dead w t r E hE (h.tl.then hb) a n c)
 have H:=hide h
 have c0:W.cell? ⟨r,0,none⟩=some (.pointer (some ⟨t,0,none⟩)):=(h.rd.cell 0).trans rfl
 have e0:(E==0)=false:=by simpa using hE
 have e1:(E != 0)=true:=by simpa using hE
 clear h hE
 simp only [tkV] at C
 go_enter Tryz.func18, Tryz.ntmps18
 go_wp2_with (go_at_call 30;refine (C.out _ (by repeat (first|exact Below.refl _ _|refine Below.drew ?_|refine below_al ?_))).mono ?_;rintro e w1 ⟨rfl,hb1⟩;have B1:Hid (Below W.heap.size W w1):=below_then (by repeat (first|exact Below.refl _ _|refine Below.drew ?_|refine below_al ?_)) hb1;have h3:=(H.out.then B1.out).rd;have k0:=(h3.cell 0).trans rfl;have cf:=fun j=>h3.frz j;have k1:=(h3.cell 1).trans rfl;have k2:=(h3.cell 2).trans rfl;have k3:=(h3.cell 3).trans rfl;have k4:=(h3.cell 4).trans rfl;have k5:=(h3.cell 5).trans rfl;have k6:=(h3.cell 6).trans rfl;simp only [Xv.cells,clX,List.getElem?_toArray,List.getElem?_cons_zero,List.getElem?_cons_succ] at k0 k1 k2 k3 k4 k5 k6;obtain ⟨D,hD⟩:∃ D,clean7 w1 r t=D:=⟨_,rfl⟩;have KK:=hide (DeP.mk0 H.out B1.out hD);simp only [clean7] at hD;clear h3 hb1)
 try rw [hD]
 exact bodyPost_ret (v:=.tuple #[.slice none 0 0,.int .i64 E]) (by simp [results,Tryz.results18,go_sem]) rfl KK.out
set_option maxRecDepth 100000 in
theorem end_deadX (h:XdE W r t E) (hE:E≠0):Calls Tryz.prog 19 #[.pointer (some ⟨r,0,none⟩)] W fun e w'=>DeP W r t E e w':=by
 have hmf:∀ (fn:Fn) (first cap:Array Value) (w:World),(Instr.makeFunc fn first cap).run Tryz.prog w=.ok (.func fn first cap) w:=fun _ _ _ _=>rfl
 have C:=hide (fun w (hb:Below W.heap.size W w)=>tend_dead w t r E hE (h.tl.then hb))
 have H:=hide h
 have c0:W.cell? ⟨r,0,none⟩=some (.pointer (some ⟨t,0,none⟩)):=(h.rd.cell 0).trans rfl
 have e0:(E==0)=false:=by simpa using hE
 have e1:(E != 0)=true:=by simpa using hE
 clear h hE
 simp only [fnV] at C
 go_enter Tryz.func19, Tryz.ntmps19
 go_wp2_with (go_at_call 32;refine (C.out _ (by repeat (first|exact Below.refl _ _|refine Below.drew ?_|refine below_al ?_))).mono ?_;rintro e w1 ⟨rfl,hb1⟩;have B1:Hid (Below W.heap.size W w1):=below_then (by repeat (first|exact Below.refl _ _|refine Below.drew ?_|refine below_al ?_)) hb1;have h3:=(H.out.then B1.out).rd;have k0:=(h3.cell 0).trans rfl;have cf:=fun j=>h3.frz j;have k1:=(h3.cell 1).trans rfl;have k2:=(h3.cell 2).trans rfl;have k3:=(h3.cell 3).trans rfl;have k4:=(h3.cell 4).trans rfl;have k5:=(h3.cell 5).trans rfl;have k6:=(h3.cell 6).trans rfl;simp only [Xv.cells,clX,List.getElem?_toArray,List.getElem?_cons_zero,List.getElem?_cons_succ] at k0 k1 k2 k3 k4 k5 k6;obtain ⟨D,hD⟩:∃ D,clean7 w1 r t=D:=⟨_,rfl⟩;have KK:=hide (DeP.mk0 H.out B1.out hD);simp only [clean7] at hD;clear h3 hb1)
 try rw [hD]
 exact bodyPost_ret (v:=.tuple #[.slice none 0 0,.int .i64 E]) (by simp [results,Tryz.results19,go_sem]) rfl KK.out
end
structure RI (W:World) (v:Value) (z:List Int):Prop where
 shape:∃ a c,v=.slice a z.length c
 rg:∀ i (h:i<z.length), -9223372036854775808≤z[i]∧z[i]≤9223372036854775807
 rd:0<z.length→∃ b o c,v=.slice (some ⟨b,o,none⟩) z.length c∧b<W.heap.size∧∀ j (h:j<z.length),W.cell? ⟨b,o + j,none⟩=some (.int .i64 z[j])
theorem RI.below {W W1:World} {v:Value} {z:List Int} (h:RI W v z) (hb:Below W.heap.size W W1):RI W1 v z:=by
 refine ⟨h.shape,h.rg,fun hl=>?_⟩
 obtain ⟨b,o,c,h1,h2,h3⟩:=h.rd hl
 exact ⟨b,o,c,h1,Nat.lt_of_lt_of_le h2 hb.size,fun j hj=>by rw [←h3 j hj];exact World.cell?_of_block (w:=W) (hb.block b h2)⟩
theorem cutF_le (z:List Int) (i p n:Nat) (h:p≤n):p≤cutF z i p n∧cutF z i p n≤n:=by
 unfold cutF
 split
 ·omega
 ·split <;> omega
theorem cutF_end (z:List Int) (i p n:Nat) (h:z.length≤i):cutF z i p n=n:=by
 unfold cutF
 rw [List.getElem?_eq_none h]
set_option maxRecDepth 20000 in
theorem cut_any (va:Option Addr) (vc:Nat) (z:List Int) (W:World) (h:RI W (.slice va z.length vc) z) (hz:z.length≤100) (k p n:Nat) (hp:p≤n) (hn:n≤131072) (hk:k≤200) :
  Calls Tryz.prog 17 #[.slice va z.length vc,.int .i64 k,.int .i64 p,.int .i64 n] W fun e w'=>e=.returned (.int .i64 (cutF z k p n))∧∃ m,w'=W.drewN m:=by
 have ml:maxLen=9223372036854775807:=rfl
 by_cases hkz:k<z.length
 ·obtain ⟨b,o,c,h1,h2,h3⟩:=h.rd (by omega)
  cases h1
  have hc:=h3 k hkz
  obtain ⟨r1,r2⟩:=h.rg k hkz
  have hcf:cutF z k p n=(if 0≤z[k]∧z[k]≤(n:Int) - p then p + z[k].toNat else n):=by
   unfold cutF
   rw [List.getElem?_eq_getElem hkz]
  obtain ⟨L,hL⟩:∃ L,z.length=L:=⟨_,rfl⟩
  rw [hL] at hkz hz ⊢
  rw [hcf]
  generalize z[k]=q at hc r1 r2 ⊢
  clear h h3 hcf hL
  have g1:decide ((L:Int)≤(k:Int))=false:=decide_eq_false (by omega)
  by_cases q1:q<0
  ·rw [if_neg (by omega)]
   go_enter Tryz.func17, Tryz.ntmps17
   go_wp2
   go_ret
   exact ⟨rfl,0,rfl⟩
  ·have q1':decide (q<0)=false:=decide_eq_false q1
   by_cases q2:(n:Int) - p<q
   ·rw [if_neg (by omega)]
    go_enter Tryz.func17, Tryz.ntmps17
    go_wp2
    go_ret
    exact ⟨rfl,0,rfl⟩
   ·have q2':decide ((n:Int) - p<q)=false:=decide_eq_false q2
    rw [if_pos (by omega)]
    obtain ⟨qn,rfl⟩:=Int.eq_ofNat_of_zero_le (show 0≤q by omega)
    rw [Int.toNat_natCast]
    go_enter Tryz.func17, Tryz.ntmps17
    go_wp2
    go_ret
    exact ⟨by simp,0,rfl⟩
 ·rw [cutF_end z k p n (by omega)]
  obtain ⟨L,hL⟩:∃ L,z.length=L:=⟨_,rfl⟩
  rw [hL] at hkz hz ⊢
  have g1:decide ((L:Int)≤(k:Int))=true:=decide_eq_true (by omega)
  clear h hL
  go_enter Tryz.func17, Tryz.ntmps17
  go_wp2
  go_ret
  exact ⟨rfl,0,rfl⟩
section
variable {W W1 : World} {r : Nat} {g : Tg} {m : Xm} {st : Xs}
theorem XM.on (h:XM W r g m st) (ht:m.t.told=.slice none 0 0) {v:Value} {B n:Nat} {xs:List Value} (hv:W.ownsRow B 76 7 v n xs) (hB:8≤B) (hz:W.heap.size≤W1.heap.size) (hb:Below B W W1) (hk:∀ q,q<W.heap.size→v.ownBlock≠some q→W1.heap[q]?=W.heap[q]?):XM W1 r g m st:=by
 have hr:=h.rd
 unfold XdB at hr
 have htl:=h.t.tb
 unfold TlB at htl
 have key:∀ (q:Nat) (c:Array Value) (T:TypeId) (f:Nat×Nat),W.heap[q]?=some (.cells c T f)→T≠76→W1.heap[q]?=W.heap[q]?:=fun q c T f hq hT=>hk q (Array.getElem?_eq_some_iff.1 hq).1 (ty_ne hq hv hT)
 have row:∀ {B' T sz n':Nat} {u:Value} {ys:List Value},W.ownsRow B' T sz u n' ys→T≠76→W1.ownsRow B' T sz u n' ys:=fun {B' T sz n' u ys} hu hT=>own_of hu fun q hq _=>by
  obtain ⟨c,f,hc⟩:=own_blk hu hq
  exact key q c _ f hc hT
 refine ⟨h.rd.same (key r _ _ _ hr (by decide)),{h.row with mark:=row h.row.mark (by decide),held:=row h.row.held (by decide),ref:=row h.row.ref (by decide),opn:=row h.row.opn (by decide)},{h.t with tb:=h.t.tb.same (key _ _ _ _ htl (by decide)),told:=own_of h.t.told fun q hq _=>(by rw [ht] at hq;cases hq),ck:=?_,ty:=?_,gu:=Gu.low h.t.gu hb hB},h.lo⟩
 ·refine h.t.ck.keep hz fun q hl hty=>hk q hl fun e=>?_
  obtain ⟨c,f,hc⟩:=own_blk hv e
  rcases hty _ _ _ hc with e2|e2 <;> exact absurd e2 (by decide)
 ·have htb:=h.t.ty.tb
  unfold TyB at htb
  exact h.t.ty.keep hz (key _ _ _ _ htb (by decide)) fun q hq=>by
   obtain ⟨c,f,hc⟩:=own_blk h.t.ty.row hq
   exact key q c _ f hc (by decide)
theorem XdE.on {t:Nat} {E:Int} (h:XdE W r t E) {v:Value} {B n:Nat} {xs:List Value} (hv:W.ownsRow B 76 7 v n xs) (hk:∀ q,q<W.heap.size→v.ownBlock≠some q→W1.heap[q]?=W.heap[q]?):XdE W1 r t E:=by
 have h1:=h.tl
 have h2:=h.rd
 unfold TlE at h1
 unfold XdB at h2
 exact ⟨(hk t h.tl.lt (ty_ne h1 hv (by decide))).trans h1,h.rd.same (hk r h.rd.lt (ty_ne h2 hv (by decide)))⟩
theorem XF.evs (h:XF g m W W1) (ht:m.t.told=.slice none 0 0) (hm:XM W r g m st) {v:Value} {B n:Nat} {xs:List Value} (hv:W.ownsRow B 76 7 v n xs):W1.ownsRow B 76 7 v n xs:=own_told hv hm ht h
theorem DeP.evs {t:Nat} {E:Int} {e:Ending} (h:DeP W r t E e W1) (hx:XdE W r t E) {v:Value} {B n:Nat} {xs:List Value} (hv:W.ownsRow B 76 7 v n xs):W1.ownsRow B 76 7 v n xs:=by
 obtain ⟨_,_,w1,hb,bt⟩:=h
 have h2:=hx.rd
 unfold XdB at h2
 exact own_of hv fun q hq hl=>(bt.blk q fun e=>ty_ne h2 hv (by decide) (by rw [hq,e])).trans (hb.block q hl)
theorem DeP.low {t L:Nat} {E:Int} {e:Ending} (h:DeP W r t E e W1) (hL:L≤r) (hz:L≤W.heap.size):Below L W W1:=by
 obtain ⟨_,_,w1,hb,bt⟩:=h
 exact (hb.mono hz).trans (bt.below hL)
end
structure Pz (w:World) (r:Nat) (l:List UInt8) (p:Nat) (vt:Value) (W:World):Prop where
 below:Below w.heap.size w W
 ge:Ge True W
 st:(∃ x g m,feedX x0 (l.take p)=.inr x∧XM W r g m (t0X x)∧m.t.told=.slice none 0 0∧w.heap.size≤g.lo∧g.t≤r∧W.ownsRow w.heap.size 76 7 vt x.t.told.length (ecs x.t.told)) ∨
  (∃ E es t,feedX x0 (l.take p)=.inl E∧XdE W r t E∧w.heap.size≤r∧es.length≤300000∧W.ownsRow w.heap.size 76 7 vt es.length (ecs es))
theorem Pz.then {w W W1:World} {r p:Nat} {l:List UInt8} {vt:Value} (h8:8≤w.heap.size) (h:Pz w r l p vt W) (hb:Below W.heap.size W W1):Pz w r l p vt W1:=by
 refine ⟨below_then h.below hb,h.ge.low hb (Nat.le_trans h8 h.below.size),?_⟩
 rcases h.st with ⟨x,g,m,h1,h2,h3,h4,h6,h5⟩|⟨E,es,t,h1,h2,h6,h3,h4⟩
 ·exact Or.inl ⟨x,g,m,h1,h2.then hb,h3,h4,h6,own_of h5 fun k _ hk=>hb.block k hk⟩
 ·exact Or.inr ⟨E,es,t,h1,h2.then hb,h6,h3,own_of h4 fun k _ hk=>hb.block k hk⟩
theorem Pz.drew {w W:World} {r p d:Nat} {l:List UInt8} {vt:Value} (h8:8≤w.heap.size) (h:Pz w r l p vt W):Pz w r l p vt (W.drewN d):=h.then h8 ⟨rfl,rfl,rfl,Nat.le_refl _,fun _ _=>rfl⟩
structure Pf (w:World) (r:Nat) (l:List UInt8) (q:Nat) (vt nt:Value) (W:World):Prop where
 below:Below w.heap.size w W
 ge:Ge True W
 st:(∃ x y g m,feedX x0 (l.take q)=.inr (preX x y)∧XM W r g m (t0X y)∧m.t.told=.slice none 0 0∧w.heap.size≤g.lo∧g.t≤r∧x.length + y.t.told.length≤300000∧W.ownsRow w.heap.size 76 7 vt x.length (ecs x)∧W.ownsRow w.heap.size 76 7 nt y.t.told.length (ecs y.t.told)) ∨
  (∃ E es t,feedX x0 (l.take q)=.inl E∧XdE W r t E∧w.heap.size≤r∧es.length≤300000∧W.ownsRow w.heap.size 76 7 vt es.length (ecs es)∧nt=.slice none 0 0)
theorem told_bound {l:List UInt8} {x:Xs} (h:feedX x0 l=.inr x):x.t.told.length≤200000:=by
 have w:=feedX_w x0_w h
 have i:=(feedX_z x0_z h).t.len
 have:=w.n
 have:=w.tot
 omega
theorem t0X_w {x:Xs} (h:Wy x):Wy (t0X x):=⟨⟨h.wx.mkl,h.wx.rf⟩,h.n,h.tot⟩
theorem take_part (l:List UInt8) (p q:Nat) (h:p≤q):l.take q=l.take p++(l.drop p).take (q - p):=by
 have:q=p + (q - p):=by omega
 conv=>lhs;rw [this,List.take_add]
theorem feed_part {l:List UInt8} {p q:Nat} (h:p≤q) {x:Xs} (hx:feedX x0 (l.take p)=.inr x):feedX x0 (l.take q)=lfX x.t.told (feedX (t0X x) ((l.drop p).take (q - p))):=by
 rw [take_part l p q h,feedX_app,hx]
 show feedX x _=_
 conv=>lhs;rw [←preX_self x]
 exact feedX_pre _ _ _
theorem feed_part_no {l:List UInt8} {p q:Nat} (h:p≤q) {E:Int} (hx:feedX x0 (l.take p)=.inl E):feedX x0 (l.take q)=.inl E:=by
 rw [take_part l p q h,feedX_app,hx]
 rfl
structure RP1 (w:World) (v:Value) (l:List UInt8):Prop where
 shape:∃ a c,v=.slice a l.length c
 len:l.length≤281474976710656
 rd:0<l.length→∃ b o c,v=.slice (some ⟨b,o,none⟩) l.length c∧b<w.heap.size∧∀ j (h:j<l.length),w.cell? ⟨b,o + j,none⟩=some (.int .u8 l[j].toNat)
theorem feed_pz {w W:World} {r p:Nat} {l:List UInt8} {vt:Value} (h8:8≤w.heap.size) (h:Pz w r l p vt W) {q:Nat} (hpq:p≤q) (a:Option Addr) (n c:Nat) (hs:RP1 w (.slice a n c) ((l.drop p).take (q - p))) :
  Calls Tryz.prog 18 #[.pointer (some ⟨r,0,none⟩),.slice a n c] W fun e w'=>∃ ta tn tc C,e=.returned (.tuple #[.slice ta tn tc,.int .i64 C])∧Pf w r l q vt (.slice ta tn tc) w':=by
 have hbl:=h.below
 have hge:=h.ge
 rcases h.st with ⟨x,g,m,h1,h2,h3,h4,h6,h5⟩|⟨E,es,t,h1,h2,h6,h3,h4⟩
 ·have wf:Wy (t0X x):=t0X_w (feedX_w x0_w h1)
  have hp:=feed_part hpq h1
  have sb:SB W g.lo m (.slice a n c) ((l.drop p).take (q - p)):=⟨hs.shape,hs.len,fun hl=>by
   obtain ⟨b,o,c',e1,e2,e3⟩:=hs.rd hl
   exact ⟨b,o,c',e1,fun j hj=>by rw [←e3 j hj];exact World.cell?_of_block (w:=w) (hbl.block b e2),Or.inl (by omega)⟩⟩
  refine (xfeed_x h2 hge.all wf sb).mono ?_
  rintro e w' ⟨hf,ha⟩
  have hb':Below w.heap.size w w':=hbl.trans (hf.below.mono h4)
  have hge':Ge True w':=hge.low hf.below h2.t.gk.low
  have h5':=hf.evs h3 h2 h5
  cases ho:feedX (t0X x) ((l.drop p).take (q - p)) with
  | inl E =>
   rw [ho] at ha hp
   obtain ⟨rfl,hd1,hd2⟩:=ha
   have:=told_bound h1
   exact ⟨none,0,0,E,rfl,hb',hge',Or.inr ⟨E,x.t.told,g.t,hp,⟨hd1,hd2⟩,by have:=h2.lo;omega,by omega,h5',rfl⟩⟩
  | inr y =>
   rw [ho] at ha hp
   obtain ⟨m',v,rfl,k1,k2,k3,k4,k5⟩:=ha
   have hbd:=told_bound hp
   have hbd:(x.t.told++y.t.told).length≤200000:=hbd
   rw [List.length_append] at hbd
   have k4':w'.ownsRow w.heap.size 76 7 v y.t.told.length (ecs y.t.told):=ownsRow_low k4 (by have:=h2.t.gk.loR;omega)
   rcases id k4.2 with ⟨rfl,_⟩|⟨g',cap,cur,rfl,_⟩
   ·exact ⟨_,_,_,0,rfl,hb',hge',Or.inl ⟨x.t.told,y,g,m',hp,k1,k3,h4,h6,by omega,h5',k4'⟩⟩
   ·exact ⟨_,_,_,0,rfl,hb',hge',Or.inl ⟨x.t.told,y,g,m',hp,k1,k3,h4,h6,by omega,h5',k4'⟩⟩
 ·refine (feed_deadX h2 (er_ne (feedX_e h1)) a n c).mono ?_
  intro e w' hd
  have he:=hd.1
  subst he
  have hl:=hd.low h6 hbl.size
  exact ⟨none,0,0,E,rfl,hbl.trans hl,hge.low hl h8,Or.inr ⟨E,es,t,feed_part_no hpq h1,hd.2.1,h6,h3,hd.evs h2 h4,rfl⟩⟩
section
variable {w W : World} {ops : Array Oper} {rest : List Oper} {o : Oper} {a : Act} {Q : Exit → Act → World → Prop}
theorem app_evp (hgd:o.guard=none) (s x:Operand) (ho:o.op=.call {callee:=.builtin .append,args:=#[s,x],argTypes:=#[45,45]})
  (B:Nat) (v:Value) (es:List Hd) (hs:a.eval s=v) (hown:W.ownsRow B 76 7 v es.length (ecs es)) (u:Value) (fs:List Hd) (hx:a.eval x=u) (hu:W.ownsRow B 76 7 u fs.length (ecs fs)) (hk:es.length + fs.length≤3000000) (hB:B≤W.heap.size)
  (h:∀ ta tn tc w',w'.ownsRow B 76 7 (.slice ta tn tc) (es++fs).length (ecs (es++fs))→Below B W w'→(∀ q,q<W.heap.size→v.ownBlock≠some q→w'.heap[q]?=W.heap[q]?)→wpList Tryz.prog ops Q rest (a.put o.dst (.slice ta tn tc)) w'):wpList Tryz.prog ops Q (o :: rest) a W:=by
 have shp:∀ {w':World} {v':Value} {n:Nat} {xs:List Value},w'.ownsRow B 76 7 v' n xs→∃ ta tn tc,v'=.slice ta tn tc:=fun {w' v' n xs} k=>by
  rcases id k.2 with ⟨e,_⟩|⟨g,cap,cur,e,_⟩
  ·exact ⟨_,_,_,e⟩
  ·exact ⟨_,_,_,e⟩
 obtain ⟨i0,hi,hz0,hz1,hz2⟩:=info_parts infoE
 rcases id hu.2 with ⟨hu0,e0⟩|⟨g,cap,cur,hu0,_⟩
 ·have hf:fs=[]:=List.eq_nil_of_length_eq_zero (by rw [←e0])
  subst hf
  refine wpList_plain hgd fun K hK=>?_
  have hr:=run_append_owned_none (P:=Tryz.prog) W B 45 o.type 76 i0 7 Tryz.underlying45 hi v es.length (ecs es) hown
  rw [hu0] at hx
  unfold Oper.wp execOp
  simp only [ho,resolve,invoke,builtin,Sem.run_bind,Sem.run_pure,Result.andThen_ok,List.map_toArray,List.map_cons,List.map_nil,hs,hx,hr]
  obtain ⟨ta,tn,tc,rfl⟩:=shp hown
  exact hK _ _ (h ta tn tc W (by simpa using hown) (Below.refl _ _) fun _ _ _=>rfl)
 ·rw [hu0] at hx hu
  refine wpList_append_own_at W hgd s x 45 ho B 76 i0 _ 7 72 Tryz.underlying45 hi hz0 hz1 hz2 rfl (by decide) v es.length (ecs es) hs hown ⟨g,0,none⟩ fs.length cap (ecs fs) hx (by rw [ecs_len]) (row_news hu) (ecs_cell _) (by unfold maxLen;omega) (by omega) hB ?_
  intro v' w' h1 h2 _ _
  rw [←ecs_app] at h1
  obtain ⟨ta,tn,tc,rfl⟩:=shp h1
  refine h ta tn tc w' (by rw [List.length_append];exact h1) ((Below.refl B W).grown h2 hB fun k hk=>(World.ownsRow.lt hown k hk).1) fun q hq hne=>?_
  exact h2.block q hq fun e=>hne e.symm
theorem app_pz (hgd:o.guard=none) (s x:Operand) (ho:o.op=.call {callee:=.builtin .append,args:=#[s,x],argTypes:=#[45,45]}) {r q:Nat} {l:List UInt8} {vt nt:Value} (hp:Pf w r l q vt nt W) (h8:8≤w.heap.size) (hs:a.eval s=vt) (hx:a.eval x=nt)
  (h:∀ ta tn tc w',Pz w r l q (.slice ta tn tc) w'→wpList Tryz.prog ops Q rest (a.put o.dst (.slice ta tn tc)) w'):wpList Tryz.prog ops Q (o :: rest) a W:=by
 have hsz:=hp.below.size
 have hge:=hp.ge
 rcases hp.st with ⟨x',y,g,m,h1,h2,h3,h4,hg,h5,h6,h7⟩|⟨E,es,t,h1,h2,hr,h3,h4,rfl⟩
 ·refine app_evp hgd s x ho w.heap.size vt x' hs h6 nt y.t.told hx h7 (by omega) hsz ?_
  intro ta tn tc w' k1 k2 k3
  exact h ta tn tc w' ⟨hp.below.trans k2,hge.low k2 h8,Or.inl ⟨preX x' y,g,m,h1,h2.on h3 h6 h8 k2.size k2 k3,h3,h4,hg,k1⟩⟩
 ·refine app_evp hgd s x ho w.heap.size vt es hs h4 (.slice none 0 0) [] hx ⟨rfl,Or.inl ⟨rfl,rfl⟩⟩ (by simp;omega) hsz ?_
  intro ta tn tc w' k1 k2 k3
  rw [List.append_nil] at k1
  exact h ta tn tc w' ⟨hp.below.trans k2,hge.low k2 h8,Or.inr ⟨E,es,t,h1,h2.on h4 k3,hr,h3,k1⟩⟩
end
theorem RB.part {w:World} {a:Addr} {c:Nat} {l:List UInt8} (h:RB w (.slice (some a) l.length c) l) (p q:Nat) (hpq:p≤q) (hq:q≤l.length) (n c':Nat) (hn:n=q - p):RP1 w (.slice (some (a.add p)) n c') ((l.drop p).take (q - p)):=by
 have hl:((l.drop p).take (q - p)).length=q - p:=by rw [List.length_take,List.length_drop];omega
 subst hn
 refine ⟨⟨_,_,by rw [hl]⟩,by have:=h.len;omega,fun h0=>?_⟩
 rw [hl] at h0
 obtain ⟨b,o,c2,e1,e2,e3⟩:=h.rd (by omega)
 cases e1
 refine ⟨b,o + p,c',?_,e2,fun j hj=>?_⟩
 ·rw [hl]
  by_cases hp:p=0
  ·subst hp;simp [Addr.add]
  ·simp [Addr.add,hp]
 ·have hj':j<q - p:=by rw [hl] at hj;exact hj
  have:=e3 (p + j) (by omega)
  rw [←Nat.add_assoc] at this
  rw [this]
  simp
theorem rp_zero (w:World) (a:Option Addr) (c n:Nat) (l:List UInt8) (p q:Nat) (h:q - p=0) (hn:n=q - p):RP1 w (.slice a n c) ((l.drop p).take (q - p)):=by
 subst hn
 rw [h,List.take_zero]
 exact ⟨⟨_,_,rfl⟩,Nat.zero_le _,fun h=>absurd h (by decide)⟩
structure Pe (w:World) (l:List UInt8) (vt nt:Value) (C:Int) (W:World):Prop where
 below:Below w.heap.size w W
 ge:Ge True W
 st:(C≠0∧(∃ E,readX l=.inl E)∧∃ es:List Hd,es.length≤300000∧W.ownsRow w.heap.size 76 7 vt es.length (ecs es)∧nt=.slice none 0 0) ∨
  (C=0∧∃ a b:List Hd,readX l=.inr (a++b)∧a.length + b.length≤300000∧W.ownsRow w.heap.size 76 7 vt a.length (ecs a)∧W.ownsRow w.heap.size 76 7 nt b.length (ecs b))
structure Pq (w:World) (l:List UInt8) (vt:Value) (C:Int) (W:World):Prop where
 below:Below w.heap.size w W
 ge:Ge True W
 no:∀ E,readX l=.inl E→C≠0
 yes:∀ es,readX l=.inr es→C=0∧W.ownsRow w.heap.size 76 7 vt es.length (ecs es)
theorem end_pz {w W:World} {r:Nat} {l:List UInt8} {vt:Value} (h8:8≤w.heap.size) (h:Pz w r l l.length vt W) :
  Calls Tryz.prog 19 #[.pointer (some ⟨r,0,none⟩)] W fun e w'=>∃ ta tn tc C,e=.returned (.tuple #[.slice ta tn tc,.int .i64 C])∧Pe w l vt (.slice ta tn tc) C w':=by
 have hbl:=h.below
 have hge:=h.ge
 rcases h.st with ⟨x,g,m,h1,h2,h3,h4,h6,h5⟩|⟨E,es,t,h1,h2,h6,h3,h4⟩
 ·rw [List.take_length] at h1
  have hbd:=told_bound h1
  refine (xend_x h2 (by omega)).mono ?_
  rintro e w' ⟨hf,hx,ha⟩
  have hb':Below w.heap.size w w':=hbl.trans (hf.below.mono h4)
  have hge':Ge True w':=hge.low hf.below h2.t.gk.low
  have h5':=hf.evs h3 h2 h5
  cases ho:finX (t0X x) with
  | inl E =>
   rw [ho] at ha
   obtain ⟨rfl,hd⟩:=ha
   exact ⟨none,0,0,E,rfl,hb',hge',Or.inl ⟨(by rcases finX_err ho with e|e <;> rw [e] <;> decide),⟨E,by
    unfold readX;rw [h1]
    show bnd (finX (t0X x)) _=_
    rw [ho];rfl⟩,x.t.told,by omega,h5',rfl⟩⟩
  | inr y =>
   rw [ho] at ha
   obtain ⟨v,rfl,k1,k2,k3⟩:=ha
   have hr:readX l=.inr (x.t.told++y.t.told):=by
    unfold readX;rw [h1]
    show bnd (finX (t0X x)) _=_
    rw [ho];rfl
   have hok:=(readX_ok l _ hr).1
   rw [List.length_append] at hok
   have k2':w'.ownsRow w.heap.size 76 7 v y.t.told.length (ecs y.t.told):=ownsRow_low k2 (by have:=h2.t.gk.loR;omega)
   rcases id k2.2 with ⟨rfl,_⟩|⟨g',cap,cur,rfl,_⟩
   ·exact ⟨_,_,_,0,rfl,hb',hge',Or.inr ⟨rfl,x.t.told,y.t.told,hr,by omega,h5',k2'⟩⟩
   ·exact ⟨_,_,_,0,rfl,hb',hge',Or.inr ⟨rfl,x.t.told,y.t.told,hr,by omega,h5',k2'⟩⟩
 ·rw [List.take_length] at h1
  refine (end_deadX h2 (er_ne (feedX_e h1))).mono ?_
  intro e w' hd
  have he:=hd.1
  subst he
  have hl:=hd.low h6 hbl.size
  exact ⟨none,0,0,E,rfl,hbl.trans hl,hge.low hl h8,Or.inl ⟨er_ne (feedX_e h1),⟨E,by unfold readX;rw [h1];rfl⟩,es,h3,hd.evs h2 h4,rfl⟩⟩
section
variable {w W : World} {ops : Array Oper} {rest : List Oper} {o : Oper} {a : Act} {Q : Exit → Act → World → Prop}
theorem app_pe (hgd:o.guard=none) (s x:Operand) (ho:o.op=.call {callee:=.builtin .append,args:=#[s,x],argTypes:=#[45,45]}) {l:List UInt8} {vt nt:Value} {C:Int} (h8:8≤w.heap.size) (hp:Pe w l vt nt C W) (hs:a.eval s=vt) (hx:a.eval x=nt)
  (h:∀ ta tn tc w',Pq w l (.slice ta tn tc) C w'→wpList Tryz.prog ops Q rest (a.put o.dst (.slice ta tn tc)) w'):wpList Tryz.prog ops Q (o :: rest) a W:=by
 have hsz:=hp.below.size
 have hge:=hp.ge
 rcases hp.st with ⟨h0,⟨E,h1⟩,es,h3,h4,rfl⟩|⟨rfl,a',b',h1,h2,h3,h4⟩
 ·refine app_evp hgd s x ho w.heap.size vt es hs h4 (.slice none 0 0) [] hx ⟨rfl,Or.inl ⟨rfl,rfl⟩⟩ (by simp;omega) hsz ?_
  intro ta tn tc w' k1 k2 k3
  exact h ta tn tc w' ⟨hp.below.trans k2,hge.low k2 h8,fun _ _=>h0,fun es' q=>by rw [h1] at q;cases q⟩
 ·refine app_evp hgd s x ho w.heap.size vt a' hs h3 nt b' hx h4 (by omega) hsz ?_
  intro ta tn tc w' k1 k2 k3
  exact h ta tn tc w' ⟨hp.below.trans k2,hge.low k2 h8,fun E q=>(by rw [h1] at q;cases q),fun es' q=>by
   rw [h1] at q
   cases q
   exact ⟨rfl,k1⟩⟩
end
theorem build_ok (w:World) (v:Value) (l:List UInt8) (es:List Hd) (h:readX l=.inr es) (hv:ES w v es) (gu:Ut.Gu w):Calls Tryz.prog 20 #[v] w fun e w'=>Ry es w e w':=by
 obtain ⟨hd,t,ht⟩:=readX_done h
 have hb:=readX_b64 h
 obtain ⟨o1,o2⟩:=readX_ok l es h
 refine (build_p v es w hv o1 o2 gu).mono ?_
 rintro e w' ⟨hw,hh,a1,m1,d1,a2,m2,d2,E,rfl,h1,h2,h3⟩
 obtain ⟨x,k1,k2,k3,k4,k5⟩:=h3 ((doneS_iff _).2 hd)
 have kw:Win es.length x:=(tally_win es.length x k2).1 ⟨t,by rw [←k1];exact ht⟩
 have hE:E=0:=k4.2 kw
 subst hE
 obtain ⟨rfl,s,f,k6,k7⟩:=k5 rfl
 refine ⟨hw,x,a1,m1,d1,a2,m2,d2,rfl,k1,Or.inr (Or.inr ⟨rfl,k2,kw⟩),fl_rg es.length x k2 (by rw [←k1];exact hb),k7.rd,k3,?_⟩
 have:=fl_siz es.length x k2
 rw [←k1] at this
 omega
set_option maxRecDepth 100000 in
theorem parts_law (va:Option Addr) (vc:Nat) (l:List UInt8) (ca:Option Addr) (cc:Nat) (z:List Int) (w:World) (hl:l.length≤maxLen) (hv:l.length≤131072→RB w (.slice va l.length vc) l) (hcap:(va=none∧l.length=0∧vc=0)∨((∃ a,va=some a)∧l.length≤vc∧vc≤maxLen)) (hzl:z.length≤maxLen) (hz:RI w (.slice ca z.length cc) z) (g:Ut.Gu w) (ht:Tab w.heap.size w) (gz:Gz w) (ge:Ge True w) (h8:8≤w.heap.size) :
  Calls Tryz.prog 5 #[.slice va l.length vc,.slice ca z.length cc] w fun e w'=>e=.returned (.bool true)∧Below w.heap.size w w':=by
 have ml:maxLen=9223372036854775807:=rfl
 have sz8:Hid (∀ W,Below w.heap.size w W→8≤W.heap.size):=fun W hb=>Nat.le_trans h8 hb.size
 have GE:Hid (∀ W,Below w.heap.size w W→Ge True W):=fun W hb=>ge.low hb h8
 have hAw:Hid (∀ W,Below w.heap.size w W→Calls Tryz.prog 12 #[] W fun e w'=>e=.returned (.bool true)∧Below W.heap.size W w'):=fun W hb=>xawake_any W (g.below hb) (Tab.up (ht.on hb) hb.size) (gz.low hb h8)
 clear gz ge
 replace g:=hide g
 replace ht:=hide ht
 replace h8:=hide h8
 replace hv:=hide hv
 replace hz:=hide hz
 obtain ⟨L,hL⟩:∃ L,l.length=L:=⟨_,rfl⟩
 obtain ⟨Z,hZ⟩:∃ Z,z.length=Z:=⟨_,rfl⟩
 have hL':=hide hL
 have hZ':=hide hZ
 rw [hL] at hl hcap
 rw [hZ] at hzl
 rw [hL,hZ]
 clear hL hZ
 by_cases hlong:131072<L
 ·have hd1:decide ((131072:Int)<(L:Int))=true:=decide_eq_true (by omega)
  go_enter Tryz.func5, Tryz.ntmps5
  go_wp2_with fail
  go_ret
  exact ⟨rfl,Below.refl _ _⟩
 ·have hd1:decide ((131072:Int)<(L:Int))=false:=decide_eq_false (by omega)
  have hL3:L≤131072:=by omega
  have RV:=hide (fun W (hb:Below w.heap.size w W)=>(hv.out (by rw [hL'.out];exact hL3)).below hb)
  rw [hL'.out] at RV
  have nst:=hide (nests_any _ l w (RV.out w (Below.refl _ _)))
  clear hlong
  go_enter Tryz.func5, Tryz.ntmps5
  go_wp2_with fail
  refine nst.out.mono ?_
  rintro e w2 ⟨⟨qn,rfl⟩,m2,rfl⟩
  have T2:Hid (Below w.heap.size w (w.drewN m2)):=⟨rfl,rfl,rfl,Nat.le_refl _,fun _ _=>rfl⟩
  obtain ⟨w2,hw2⟩:∃ w2,w.drewN m2=w2:=⟨_,rfl⟩
  rw [hw2] at T2 ⊢
  clear hw2 nst
  cases qn
  ·by_cases hcl:100<Z
   ·have hd2:decide ((100:Int)<(Z:Int))=true:=decide_eq_true (by omega)
    go_wp2_with fail
    go_ret
    exact ⟨rfl,T2.out⟩
   ·have hd2:decide ((100:Int)<(Z:Int))=false:=decide_eq_false (by omega)
    have hZ3:Z≤100:=by omega
    clear hcl
    have N:=hide (new_x w2 (g.out.below T2.out) (sz8.out _ T2.out))
    go_wp2_with fail
    refine N.out.mono ?_
    rintro e w3 ⟨r,gv,m,rfl,hp1,hp2,hp3,hp4,_,_,_,hp5⟩
    have P0:Hid (Pz w r l 0 (.slice none 0 0) w3):=⟨below_then T2.out hp2,GE.out _ (below_then T2.out hp2),Or.inl ⟨x0,gv,m,rfl,hp1,hp4,by rw [hp3];exact T2.out.size,hp5,Or.inl ⟨rfl,rfl⟩ |> fun q=>⟨rfl,q⟩⟩⟩
    clear hp1 hp2 hp3 hp4 hp5 N T2
    go_wp2_with fail
    go_loopw [6,7,8] (fun tv at' i w'=>∃ (ta:Option Addr) (tn tc p k:Nat),tv=.slice ta tn tc∧at'=.int .i64 p∧i=.int .i64 k∧k≤Z + 1∧p≤L∧(k=Z + 1→p=L)∧Hid (Pz w r l p (.slice ta tn tc) w')) (fun _ _ i _=>Z + 1 - (intOf i).toNat)
    case atStart=>exact ⟨none,0,0,0,0,rfl,rfl,rfl,by omega,by omega,by omega,P0.out⟩
    case round =>
     obtain ⟨ta,tn,tc,p,k,rfl,rfl,rfl,hk,hpl,hlast,P⟩:=hrel
     by_cases hkz:k≤Z
     ·have hd3:decide ((k:Int)≤(Z:Int))=true:=decide_eq_true (by omega)
      have CU:=hide (cut_any ca cc z wr (hz.out.below P.out.below) (by rw [hZ'.out];exact hZ3) k p L hpl hL3 (by omega))
      rw [hZ'.out] at CU
      have hcl:=cutF_le z k p L hpl
      have hce:Hid (k=Z→cutF z k p L=L):=fun e=>cutF_end z k p L (by rw [hZ'.out];omega)
      generalize cutF z k p L=q at CU hcl hce
      obtain ⟨hq1,hq2⟩:=hcl
      have hlast':=hide hlast
      clear hlast
      go_wp2_with fail
      refine CU.out.mono ?_
      rintro e w4 ⟨rfl,m4,rfl⟩
      have P4:Hid (Pz w r l p (.slice ta tn tc) (wr.drewN m4)):=P.out.drew h8.out
      obtain ⟨w4,hw4⟩:∃ w4,wr.drewN m4=w4:=⟨_,rfl⟩
      rw [hw4] at P4 ⊢
      clear hw4 CU P
      rcases hcap with ⟨rfl,c1,rfl⟩|⟨⟨a,rfl⟩,c1,c2⟩
      ·have hq0:Hid (q=0∧p=0):=⟨by omega,by omega⟩
       have hqa:¬ ((0:Int)<(q:Int)):=by omega
       have hqb:¬ ((q:Int)<(p:Int)):=by omega
       have c1':=hide c1
       have hq2':=hide hq2
       have hpl':=hide hpl
       clear c1 hq2 hpl
       go_wp2_with fail
       refine (feed_pz h8.out P4.out hq1 _ _ _ (rp_zero w _ _ _ l p q (by have:=hq0.out;omega) (by first|rfl|(have:=hq0.out;omega)))).mono ?_
       rintro e w5 ⟨na,nn,nc,C,rfl,f5⟩
       have F5:=hide f5
       clear f5 P4
       go_wp2_with (at_builtin;refine Sto.out ?_)
       refine Sto.mk ?_
       refine app_pz rfl (.tmp 54) (.tmp 55) rfl F5.out h8.out rfl rfl ?_
       rintro ta' tn' tc' w6 p6
       have P6:=hide p6
       clear p6 F5
       go_wp2_with fail
       exact ⟨⟨ta',tn',tc',q,k + 1,rfl,rfl,by go_num,by omega,hq2'.out,(fun e=>hce.out (by omega)),P6.out⟩,by simp [intOf];omega⟩
      ·by_cases hpc:p<vc
       ·have hpc2:¬ (vc - p=0):=by omega
        have hpc3:¬ ((vc:Int) - (p:Int)=0):=by omega
        go_wp2_with fail
        refine (feed_pz h8.out P4.out hq1 _ _ _ (RB.part (l:=l) (a:=a) (c:=vc) (by rw [hL'.out];exact RV.out w (Below.refl _ _)) p q hq1 (by rw [hL'.out];exact hq2) _ _ (by first|rfl|omega))).mono ?_
        rintro e w5 ⟨na,nn,nc,C,rfl,f5⟩
        have F5:=hide f5
        clear f5 P4
        go_wp2_with (at_builtin;refine Sto.out ?_)
        refine Sto.mk ?_
        refine app_pz rfl (.tmp 54) (.tmp 55) rfl F5.out h8.out rfl rfl ?_
        rintro ta' tn' tc' w6 p6
        have P6:=hide p6
        clear p6 F5
        go_wp2_with fail
        exact ⟨⟨ta',tn',tc',q,k + 1,rfl,rfl,by go_num,by omega,hq2,(fun e=>hce.out (by omega)),P6.out⟩,by simp [intOf];omega⟩
       ·have hq0:Hid (q=p∧p=L∧vc=L):=⟨by omega,by omega,by omega⟩
        have hv0:vc - p=0:=by omega
        have hv1:(vc:Int) - (p:Int)=0:=by omega
        have hv2:¬ (p<vc):=hpc
        have hqb:¬ ((q:Int)<(p:Int)):=by omega
        have hqc:¬ ((vc:Int)<(q:Int)):=by omega
        have hq2':=hide hq2
        clear hpc
        go_wp2_with fail
        refine (feed_pz h8.out P4.out hq1 _ _ _ (rp_zero w _ _ _ l p q (by have:=hq0.out;omega) (by first|rfl|(have:=hq0.out;omega)))).mono ?_
        rintro e w5 ⟨na,nn,nc,C,rfl,f5⟩
        have F5:=hide f5
        clear f5 P4
        go_wp2_with (at_builtin;refine Sto.out ?_)
        refine Sto.mk ?_
        refine app_pz rfl (.tmp 54) (.tmp 55) rfl F5.out h8.out rfl rfl ?_
        rintro ta' tn' tc' w6 p6
        have P6:=hide p6
        clear p6 F5
        go_wp2_with fail
        exact ⟨⟨ta',tn',tc',q,k + 1,rfl,rfl,by go_num,by omega,hq2'.out,(fun e=>hce.out (by omega)),P6.out⟩,by simp [intOf];omega⟩
     ·have hd3:decide ((k:Int)≤(Z:Int))=false:=decide_eq_false (by omega)
      have hpL:p=L:=hlast (by omega)
      have PL:Hid (Pz w r l l.length (.slice ta tn tc) wr):=by show Pz _ _ _ _ _ _;rw [hL'.out,←hpL];exact P.out
      have EN:=hide (end_pz h8.out PL.out)
      have hkz':=hide hkz
      clear hlast hkz P hpL PL
      go_wp2_with fail
      refine EN.out.mono ?_
      rintro e w4 ⟨na,nn,nc,C,rfl,f4⟩
      have F4:=hide f4
      clear f4 EN
      go_wp2_with (at_builtin;refine Sto.out ?_)
      refine Sto.mk ?_
      refine app_pe rfl (.tmp 63) (.tmp 64) rfl h8.out F4.out rfl rfl ?_
      rintro ta' tn' tc' w5 p5
      have P5:=hide p5
      clear p5 F4
      cases hR:readX l with
      | inl E =>
       have hE:=readX_er hR
       have hC:=P5.out.no E hR
       have e0:(E != 0)=true:=by simpa using hE
       have c0:(C != 0)=true:=by simpa using hC
       have d1:=hide (fun W (hb:Below w.heap.size w W)=>read_no W va vc l (by rw [hL'.out];exact RV.out W hb) (g.out.below hb) (GE.out _ hb) (sz8.out _ hb) E hR)
       rw [hL'.out] at d1
       simp only [zV] at d1
       replace hR:=hide hR
       replace hE:=hide hE
       replace hC:=hide hC
       go_wp2_with fail
       refine (d1.out _ P5.out.below).mono ?_
       rintro e v1 ⟨hv1,rfl⟩
       have U1:=hide (below_then P5.out.below hv1)
       clear hv1 d1
       go_wp2_with fail
       refine (hAw.out _ (below_al U1.out)).mono ?_
       rintro e v2 ⟨rfl,hv2⟩
       have U2:=hide (below_then (below_al U1.out) hv2)
       clear hv2
       go_wp2_with fail
       go_ret
       exact ⟨by first|rfl|(simp;done),U2.out⟩
      | inr es =>
       obtain ⟨rfl,ho⟩:=P5.out.yes es hR
       have d1:=hide (fun W (hb:Below w.heap.size w W)=>read_ok W va vc l (by rw [hL'.out];exact RV.out W hb) (g.out.below hb) (GE.out _ hb) (sz8.out _ hb) es hR)
       rw [hL'.out] at d1
       have HO:=hide ho
       have HR:=hide hR
       clear ho hR
       go_wp2_with fail
       refine (d1.out _ P5.out.below).mono ?_
       rintro e v1 ⟨hv1,y,c1,c2,c3,c4,c5,c6,rfl,g1,kz,rz,dz⟩
       have U1:=hide (below_then P5.out.below hv1)
       have DZ:=hide dz
       have G1:=hide g1
       have KZ:=hide kz
       obtain ⟨hq,hhq⟩:∃ h,vhd es.length y=h:=⟨_,rfl⟩
       obtain ⟨v1a,hv1a⟩:∃ v1a,v1.alloc (.cells (vals hq (.slice c1 c2 c3) (.slice c4 c5 c6)) 29)=v1a:=⟨_,rfl⟩
       have U2:Hid (Below w.heap.size w v1a):=by show Below _ _ _;rw [←hv1a];exact below_al U1.out
       have X2:Hid (Bx v1a v1.heap.size hq (.slice c1 c2 c3) (.slice c4 c5 c6)):=by show Bx _ _ _ _ _;rw [←hv1a];exact bx_new _ _ _ _
       have DZ2:Hid (∀ W,Below v1a.heap.size v1a W→RD es.length W y (.slice c1 c2 c3) (.slice c4 c5 c6)):=fun W hb=>DZ.out.rd.below (below_then (by rw [←hv1a];exact below_al (Below.refl _ _)) hb)
       have HO2:Hid (v1a.ownsRow w.heap.size 76 7 (.slice ta' tn' tc') es.length (ecs es)):=own_of HO.out fun k _ hk=>by rw [←hv1a];exact (below_al hv1).block k hk
       have bu:=hide (build_ok v1a (.slice ta' tn' tc') l es HR.out (es_own HO2.out) (g.out.below U2.out))
       rw [hhq]
       simp only [vals] at hv1a ⊢
       have HQ:=hide hhq
       clear hv1 d1 dz g1 kz rz hhq DZ U1
       go_wp2_with fail
       clear hv1a
       refine bu.out.mono ?_
       rintro e v2 ⟨hv2,y',e1,e2,e3,e4,e5,e6,rfl,g2,kz2,rz2,dz2⟩
       have hyy:y'=y:=(fl_inj es.length y' y ((chk_zero kz2).1 rfl).1 ((chk_zero KZ.out).1 rfl).1 [] [] (by rw [←g2,←G1.out])).1
       subst hyy
       have U3:=hide (below_then U2.out hv2)
       have X3:=hide (X2.out.below hv2)
       obtain ⟨v2a,hv2a⟩:∃ v2a,v2.alloc (.cells (vals hq (.slice e1 e2 e3) (.slice e4 e5 e6)) 29)=v2a:=⟨_,rfl⟩
       have U4:Hid (Below w.heap.size w v2a):=by show Below _ _ _;rw [←hv2a];exact below_al U3.out
       have X4:Hid (Bx v2a v1.heap.size hq (.slice c1 c2 c3) (.slice c4 c5 c6)):=by show Bx _ _ _ _ _;rw [←hv2a];exact X3.out.below (below_al (Below.refl _ _))
       have Y4:Hid (Bx v2a v2.heap.size hq (.slice e1 e2 e3) (.slice e4 e5 e6)):=by show Bx _ _ _ _ _;rw [←hv2a];exact bx_new _ _ _ _
       have B24:Hid (Below v2.heap.size v2 v2a):=by show Below _ _ _;rw [←hv2a];exact below_al (Below.refl _ _)
       have B14:Hid (Below v1a.heap.size v1a v2a):=by show Below _ _ _;rw [←hv2a];exact below_al hv2
       have D2:=hide dz2
       have kq2:=hide (fun W (hb:Below v2a.heap.size v2a W)=>equal_tells es.length es.length y' y' (.slice e1 e2 e3) (.slice e4 e5 e6) (.slice c1 c2 c3) (.slice c4 c5 c6) W (D2.out.rd.below (below_then B24.out hb)) (DZ2.out _ (below_then B14.out hb)) ((chk_zero KZ.out).1 rfl).1 ((chk_zero KZ.out).1 rfl).1 rfl)
       rw [HQ.out] at kq2 ⊢
       simp only [vals] at kq2 hv2a ⊢
       clear hv2 g2 kz2 rz2 dz2 bu
       go_wp2_with fail
       clear hv2a
       refine (hAw.out _ U4.out).mono ?_
       rintro e v3 ⟨rfl,hv3⟩
       have U5:=hide (below_then U4.out hv3)
       have B3:=hide hv3
       obtain ⟨q0,q1,q2,q3,q4,q5,q6,q7,q8⟩:=(X4.out.below hv3).cells
       obtain ⟨o0,o1,o2,o3,o4,o5,o6,o7,o8⟩:=(Y4.out.below hv3).cells
       clear hv3
       go_wp2_with fail
       refine (kq2.out _ B3.out).mono ?_
       rintro e v4 ⟨rfl,hv4⟩
       have U6:=hide (below_then U5.out hv4)
       clear hv4 q0 q1 q2 q3 q4 q5 q6 q7 q8 o0 o1 o2 o3 o4 o5 o6 o7 o8
       go_wp2_with fail
       go_ret
       exact ⟨by first|rfl|(simp;done),U6.out⟩
  ·go_wp2_with fail
   go_ret
   exact ⟨rfl,T2.out⟩
end Go.Proofs.YthodiandebahdaaGreatDoor
