/- Merged by program: MyCut, MyFeed, MyParts. -/
import Derived.Test.YtpimjkdakjhoaaaGreatDoorZk53
namespace Go.Proofs.YtpimjkdakjhoaaaGreatDoor
open Go.RowKit
set_option linter.unusedSimpArgs false
set_option linter.unusedVariables false
set_option maxHeartbeats 8000000
structure RI (W:World) (v:Value) (z:List Int):Prop where
 shape:∃ a c,v=.slice a z.length c
 rg:∀ i (h:i<z.length), -9223372036854775808≤z[i]∧z[i]≤9223372036854775807
 rd:0<z.length→∃ b o c,v=.slice (some ⟨b,o,none⟩) z.length c∧b<W.heap.size∧∀ j (h:j<z.length),W.cell? ⟨b,o + j,none⟩=some (.int .i64 z[j])
theorem RI.below {W W1:World} {v:Value} {z:List Int} (h:RI W v z) (hb:Below W.heap.size W W1):RI W1 v z:=by
 refine ⟨h.shape,h.rg,fun hl=>?_⟩
 obtain ⟨b,o,c,h1,h2,h3⟩:=h.rd hl
 exact ⟨b,o,c,h1,Nat.lt_of_lt_of_le h2 hb.size,fun j hj=>by rw [←h3 j hj];exact World.cell?_of_block (w:=W) (hb.block b h2)⟩
theorem cutF_le (z:List Int) (i p n:Nat) (h:p≤n):p≤cutF z i p n∧cutF z i p n≤n:=by
 unfold cutF
 split
 ·omega
 ·split <;> omega
theorem cutF_end (z:List Int) (i p n:Nat) (h:z.length≤i):cutF z i p n=n:=by
 unfold cutF
 rw [List.getElem?_eq_none h]
set_option maxRecDepth 20000 in
theorem cut_any (va:Option Addr) (vc:Nat) (z:List Int) (W:World) (h:RI W (.slice va z.length vc) z) (hz:z.length≤100) (k p n:Nat) (hp:p≤n) (hn:n≤131072) (hk:k≤200) :
  Calls Tryz.prog 17 #[.slice va z.length vc,.int .i64 k,.int .i64 p,.int .i64 n] W fun e w'=>e=.returned (.int .i64 (cutF z k p n))∧∃ m,w'=W.drewN m:=by
 have ml:maxLen=9223372036854775807:=rfl
 by_cases hkz:k<z.length
 ·obtain ⟨b,o,c,h1,h2,h3⟩:=h.rd (by omega)
  cases h1
  have hc:=h3 k hkz
  obtain ⟨r1,r2⟩:=h.rg k hkz
  have hcf:cutF z k p n=(if 0≤z[k]∧z[k]≤(n:Int) - p then p + z[k].toNat else n):=by
   unfold cutF
   rw [List.getElem?_eq_getElem hkz]
  obtain ⟨L,hL⟩:∃ L,z.length=L:=⟨_,rfl⟩
  rw [hL] at hkz hz ⊢
  rw [hcf]
  generalize z[k]=q at hc r1 r2 ⊢
  clear h h3 hcf hL
  have g1:decide ((L:Int)≤(k:Int))=false:=decide_eq_false (by omega)
  by_cases q1:q<0
  ·rw [if_neg (by omega)]
   go_enter Tryz.func17, Tryz.ntmps17
   go_wp2
   go_ret
   exact ⟨rfl,0,rfl⟩
  ·have q1':decide (q<0)=false:=decide_eq_false q1
   by_cases q2:(n:Int) - p<q
   ·rw [if_neg (by omega)]
    go_enter Tryz.func17, Tryz.ntmps17
    go_wp2
    go_ret
    exact ⟨rfl,0,rfl⟩
   ·have q2':decide ((n:Int) - p<q)=false:=decide_eq_false q2
    rw [if_pos (by omega)]
    obtain ⟨qn,rfl⟩:=Int.eq_ofNat_of_zero_le (show 0≤q by omega)
    rw [Int.toNat_natCast]
    go_enter Tryz.func17, Tryz.ntmps17
    go_wp2
    go_ret
    exact ⟨by simp,0,rfl⟩
 ·rw [cutF_end z k p n (by omega)]
  obtain ⟨L,hL⟩:∃ L,z.length=L:=⟨_,rfl⟩
  rw [hL] at hkz hz ⊢
  have g1:decide ((L:Int)≤(k:Int))=true:=decide_eq_true (by omega)
  clear h hL
  go_enter Tryz.func17, Tryz.ntmps17
  go_wp2
  go_ret
  exact ⟨rfl,0,rfl⟩
section
variable {W W1 : World} {r : Nat} {g : Gv} {m : Mv} {st : St}
theorem RM.on (h:RM W r g m st) (ht:m.told=.slice none 0 0) {v:Value} {B n:Nat} {xs:List Value} (hv:W.ownsRow B 74 7 v n xs) (hB:8≤B) (hz:W.heap.size≤W1.heap.size) (hb:Below B W W1) (hk:∀ q,q<W.heap.size→v.ownBlock≠some q→W1.heap[q]?=W.heap[q]?):RM W1 r g m st:=by
 have hr:=h.rd
 unfold RdB at hr
 have key:∀ (q:Nat) (c:Array Value) (T:TypeId) (f:Nat×Nat),W.heap[q]?=some (.cells c T f)→T≠74→W1.heap[q]?=W.heap[q]?:=fun q c T f hq hT=>hk q (Array.getElem?_eq_some_iff.1 hq).1 (ty_ne hq hv hT)
 have row:∀ {B' T sz n':Nat} {u:Value} {ys:List Value},W.ownsRow B' T sz u n' ys→T≠74→W1.ownsRow B' T sz u n' ys:=fun {B' T sz n' u ys} hu hT=>own_of hu fun q hq _=>by
  obtain ⟨c,f,hc⟩:=own_blk hu hq
  exact key q c _ f hc hT
 refine {h with rd:=h.rd.same (key r _ _ _ hr (by decide)),word:=row h.word (by decide),held:=row h.held (by decide),opn:=row h.opn (by decide),told:=own_of h.told fun q hq _=>(by rw [ht] at hq;cases hq),ck:=?_,ty:=?_,gu:=Gu.low h.gu hb hB}
 ·refine h.ck.keep hz fun q hl hty=>hk q hl fun e=>?_
  obtain ⟨c,f,hc⟩:=own_blk hv e
  rcases hty _ _ _ hc with e2|e2 <;> exact absurd e2 (by decide)
 ·have htb:=h.ty.tb
  unfold TyB at htb
  exact h.ty.keep hz (key _ _ _ _ htb (by decide)) fun q hq=>by
   obtain ⟨c,f,hc⟩:=own_blk h.ty.row hq
   exact key q c _ f hc (by decide)
theorem RdE.on {E:Int} (h:RdE W r E) {v:Value} {B n:Nat} {xs:List Value} (hv:W.ownsRow B 74 7 v n xs) (hk:∀ q,q<W.heap.size→v.ownBlock≠some q→W1.heap[q]?=W.heap[q]?):RdE W1 r E:=by
 have h':=h
 unfold RdE at h'
 unfold RdE
 rw [hk r (Array.getElem?_eq_some_iff.1 h').1 (ty_ne h' hv (by decide))]
 exact h'
theorem RF.evs (h:RF g m W W1) (ht:m.told=.slice none 0 0) (hm:RM W r g m st) {v:Value} {B n:Nat} {xs:List Value} (hv:W.ownsRow B 74 7 v n xs):W1.ownsRow B 74 7 v n xs :=
 own_of hv fun q hq _=>by
  obtain ⟨c,f,hc⟩:=own_blk hv hq
  rw [h.blk hc ⟨ty_ne hc hm.word (by decide),ty_ne hc hm.held (by decide),by rw [ht];intro e;cases e⟩ (by decide) (by decide) (by decide) (by decide) (by decide) (by decide),hc]
end
structure Pz (w:World) (r:Nat) (l:List UInt8) (p:Nat) (vt:Value) (W:World):Prop where
 below:Below w.heap.size w W
 st:(∃ x g m,feedS st0 (l.take p)=.inr x∧RM W r g m {x with told:=[]}∧m.told=.slice none 0 0∧w.heap.size≤g.lo∧W.ownsRow w.heap.size 74 7 vt x.told.length (ecs x.told)) ∨
  (∃ E es,feedS st0 (l.take p)=.inl E∧RdE W r E∧es.length≤300000∧W.ownsRow w.heap.size 74 7 vt es.length (ecs es))
theorem Pz.then {w W W1:World} {r p:Nat} {l:List UInt8} {vt:Value} (h:Pz w r l p vt W) (hb:Below W.heap.size W W1):Pz w r l p vt W1:=by
 refine ⟨below_then h.below hb,?_⟩
 rcases h.st with ⟨x,g,m,h1,h2,h3,h4,h5⟩|⟨E,es,h1,h2,h3,h4⟩
 ·exact Or.inl ⟨x,g,m,h1,h2.then hb,h3,h4,own_of h5 fun k _ hk=>hb.block k hk⟩
 ·exact Or.inr ⟨E,es,h1,h2.then hb,h3,own_of h4 fun k _ hk=>hb.block k hk⟩
theorem Pz.drew {w W:World} {r p d:Nat} {l:List UInt8} {vt:Value} (h:Pz w r l p vt W):Pz w r l p vt (W.drewN d):=h.then ⟨rfl,rfl,rfl,Nat.le_refl _,fun _ _=>rfl⟩
structure Pf (w:World) (r:Nat) (l:List UInt8) (q:Nat) (vt nt:Value) (W:World):Prop where
 below:Below w.heap.size w W
 st:(∃ x y g m,feedS st0 (l.take q)=.inr (pre x y)∧RM W r g m {y with told:=[]}∧m.told=.slice none 0 0∧w.heap.size≤g.lo∧x.length + y.told.length≤300000∧W.ownsRow w.heap.size 74 7 vt x.length (ecs x)∧W.ownsRow w.heap.size 74 7 nt y.told.length (ecs y.told)) ∨
  (∃ E es,feedS st0 (l.take q)=.inl E∧RdE W r E∧es.length≤300000∧W.ownsRow w.heap.size 74 7 vt es.length (ecs es)∧nt=.slice none 0 0)
theorem told_bound {l:List UInt8} {x:St} (h:feedS st0 l=.inr x):x.told.length≤200000:=by
 have w:=feedS_wf st0_wf h
 have i:Iv x:=feed_iv (st:=st0) ⟨by decide,by decide,(fun e he=>by (cases he)),by decide⟩ h
 have:=i.len
 have:=w.n
 have:=w.tot
 omega
theorem take_part (l:List UInt8) (p q:Nat) (h:p≤q):l.take q=l.take p++(l.drop p).take (q - p):=by
 have:q=p + (q - p):=by omega
 conv=>lhs;rw [this,List.take_add]
theorem feed_part {l:List UInt8} {p q:Nat} (h:p≤q) {x:St} (hx:feedS st0 (l.take p)=.inr x):feedS st0 (l.take q)=lft x.told (feedS {x with told:=[]} ((l.drop p).take (q - p))):=by
 rw [take_part l p q h,feedS_app,hx]
 show feedS x _=_
 conv=>lhs;rw [←pre_self x]
 exact feed_pre _ _ _
theorem feed_part_no {l:List UInt8} {p q:Nat} (h:p≤q) {E:Int} (hx:feedS st0 (l.take p)=.inl E):feedS st0 (l.take q)=.inl E:=by
 rw [take_part l p q h,feedS_app,hx]
 rfl
structure RP1 (w:World) (v:Value) (l:List UInt8):Prop where
 shape:∃ a c,v=.slice a l.length c
 len:l.length≤281474976710656
 rd:0<l.length→∃ b o c,v=.slice (some ⟨b,o,none⟩) l.length c∧b<w.heap.size∧∀ j (h:j<l.length),w.cell? ⟨b,o + j,none⟩=some (.int .u8 l[j].toNat)
theorem feed_pz {w W:World} {r p:Nat} {l:List UInt8} {vt:Value} (h:Pz w r l p vt W) {q:Nat} (hpq:p≤q) (a:Option Addr) (n c:Nat) (hs:RP1 w (.slice a n c) ((l.drop p).take (q - p))) :
  Calls Tryz.prog 18 #[.pointer (some ⟨r,0,none⟩),.slice a n c] W fun e w'=>∃ ta tn tc C,e=.returned (.tuple #[.slice ta tn tc,.int .i64 C])∧Pf w r l q vt (.slice ta tn tc) w':=by
 have hbl:=h.below
 rcases h.st with ⟨x,g,m,h1,h2,h3,h4,h5⟩|⟨E,es,h1,h2,h3,h4⟩
 ·have wf:Wf {x with told:=[]}:=(feedS_wf st0_wf h1).t0
  have hp:=feed_part hpq h1
  have sb:SB W g.lo m (.slice a n c) ((l.drop p).take (q - p)):=⟨hs.shape,hs.len,fun hl=>by
   obtain ⟨b,o,c',e1,e2,e3⟩:=hs.rd hl
   exact ⟨b,o,c',e1,fun j hj=>by rw [←e3 j hj];exact World.cell?_of_block (w:=w) (hbl.block b e2),Or.inl (by omega)⟩⟩
  refine (feed_r h2 wf sb).mono ?_
  rintro e w' ⟨hf,ha⟩
  have hb':Below w.heap.size w w':=hbl.trans (hf.below.mono h4)
  have h5':=hf.evs h3 h2 h5
  cases ho:feedS {x with told:=[]} ((l.drop p).take (q - p)) with
  | inl E =>
   rw [ho] at ha hp
   obtain ⟨rfl,hd⟩:=ha
   have:=told_bound h1
   exact ⟨none,0,0,E,rfl,hb',Or.inr ⟨E,x.told,hp,hd,by omega,h5',rfl⟩⟩
  | inr y =>
   rw [ho] at ha hp
   obtain ⟨m',v,rfl,k1,k2,k3,k4,k5⟩:=ha
   have hbd:=told_bound hp
   have hbd:(x.told++y.told).length≤200000:=hbd
   rw [List.length_append] at hbd
   have k4':w'.ownsRow w.heap.size 74 7 v y.told.length (ecs y.told):=ownsRow_low k4 (by have:=h2.gk.loR;omega)
   rcases id k4.2 with ⟨rfl,_⟩|⟨g',cap,cur,rfl,_⟩
   ·exact ⟨_,_,_,0,rfl,hb',Or.inl ⟨x.told,y,g,m',hp,k1,k3,h4,by omega,h5',k4'⟩⟩
   ·exact ⟨_,_,_,0,rfl,hb',Or.inl ⟨x.told,y,g,m',hp,k1,k3,h4,by omega,h5',k4'⟩⟩
 ·refine (feed_dead W r E (feed_er h1).ne h2 a n c).mono ?_
  rintro e w' ⟨rfl,hb⟩
  exact ⟨none,0,0,E,rfl,below_then hbl hb,Or.inr ⟨E,es,feed_part_no hpq h1,h2.then hb,h3,own_of h4 fun k _ hk=>hb.block k hk,rfl⟩⟩
section
variable {w W : World} {ops : Array Oper} {rest : List Oper} {o : Oper} {a : Act} {Q : Exit → Act → World → Prop}
theorem app_evp (hgd:o.guard=none) (s x:Operand) (ho:o.op=.call {callee:=.builtin .append,args:=#[s,x],argTypes:=#[45,45]})
  (B:Nat) (v:Value) (es:List Hd) (hs:a.eval s=v) (hown:W.ownsRow B 74 7 v es.length (ecs es)) (u:Value) (fs:List Hd) (hx:a.eval x=u) (hu:W.ownsRow B 74 7 u fs.length (ecs fs)) (hk:es.length + fs.length≤3000000) (hB:B≤W.heap.size)
  (h:∀ ta tn tc w',w'.ownsRow B 74 7 (.slice ta tn tc) (es++fs).length (ecs (es++fs))→Below B W w'→(∀ q,q<W.heap.size→v.ownBlock≠some q→w'.heap[q]?=W.heap[q]?)→wpList Tryz.prog ops Q rest (a.put o.dst (.slice ta tn tc)) w'):wpList Tryz.prog ops Q (o :: rest) a W:=by
 have shp:∀ {w':World} {v':Value} {n:Nat} {xs:List Value},w'.ownsRow B 74 7 v' n xs→∃ ta tn tc,v'=.slice ta tn tc:=fun {w' v' n xs} k=>by
  rcases id k.2 with ⟨e,_⟩|⟨g,cap,cur,e,_⟩
  ·exact ⟨_,_,_,e⟩
  ·exact ⟨_,_,_,e⟩
 obtain ⟨i0,hi,hz0,hz1,hz2⟩:=info_parts infoE
 rcases id hu.2 with ⟨hu0,e0⟩|⟨g,cap,cur,hu0,_⟩
 ·have hf:fs=[]:=List.eq_nil_of_length_eq_zero (by rw [←e0])
  subst hf
  refine wpList_plain hgd fun K hK=>?_
  have hr:=run_append_owned_none (P:=Tryz.prog) W B 45 o.type 74 i0 7 Tryz.underlying45 hi v es.length (ecs es) hown
  rw [hu0] at hx
  unfold Oper.wp execOp
  simp only [ho,resolve,invoke,builtin,Sem.run_bind,Sem.run_pure,Result.andThen_ok,List.map_toArray,List.map_cons,List.map_nil,hs,hx,hr]
  obtain ⟨ta,tn,tc,rfl⟩:=shp hown
  exact hK _ _ (h ta tn tc W (by simpa using hown) (Below.refl _ _) fun _ _ _=>rfl)
 ·rw [hu0] at hx hu
  refine wpList_append_own_at W hgd s x 45 ho B 74 i0 _ 7 72 Tryz.underlying45 hi hz0 hz1 hz2 rfl (by decide) v es.length (ecs es) hs hown ⟨g,0,none⟩ fs.length cap (ecs fs) hx (by rw [ecs_len]) (row_news hu) (ecs_cell _) (by unfold maxLen;omega) (by omega) hB ?_
  intro v' w' h1 h2 _ _
  rw [←ecs_app] at h1
  obtain ⟨ta,tn,tc,rfl⟩:=shp h1
  refine h ta tn tc w' (by rw [List.length_append];exact h1) ((Below.refl B W).grown h2 hB fun k hk=>(World.ownsRow.lt hown k hk).1) fun q hq hne=>?_
  exact h2.block q hq fun e=>hne e.symm
theorem app_pz (hgd:o.guard=none) (s x:Operand) (ho:o.op=.call {callee:=.builtin .append,args:=#[s,x],argTypes:=#[45,45]}) {r q:Nat} {l:List UInt8} {vt nt:Value} (hp:Pf w r l q vt nt W) (h8:8≤w.heap.size) (hs:a.eval s=vt) (hx:a.eval x=nt)
  (h:∀ ta tn tc w',Pz w r l q (.slice ta tn tc) w'→wpList Tryz.prog ops Q rest (a.put o.dst (.slice ta tn tc)) w'):wpList Tryz.prog ops Q (o :: rest) a W:=by
 have hsz:=hp.below.size
 rcases hp.st with ⟨x',y,g,m,h1,h2,h3,h4,h5,h6,h7⟩|⟨E,es,h1,h2,h3,h4,rfl⟩
 ·refine app_evp hgd s x ho w.heap.size vt x' hs h6 nt y.told hx h7 (by omega) hsz ?_
  intro ta tn tc w' k1 k2 k3
  exact h ta tn tc w' ⟨hp.below.trans k2,Or.inl ⟨pre x' y,g,m,h1,h2.on h3 h6 h8 k2.size k2 k3,h3,h4,k1⟩⟩
 ·refine app_evp hgd s x ho w.heap.size vt es hs h4 (.slice none 0 0) [] hx ⟨rfl,Or.inl ⟨rfl,rfl⟩⟩ (by simp;omega) hsz ?_
  intro ta tn tc w' k1 k2 k3
  rw [List.append_nil] at k1
  exact h ta tn tc w' ⟨hp.below.trans k2,Or.inr ⟨E,es,h1,h2.on h4 k3,h3,k1⟩⟩
end
theorem RB.part {w:World} {a:Addr} {c:Nat} {l:List UInt8} (h:RB w (.slice (some a) l.length c) l) (p q:Nat) (hpq:p≤q) (hq:q≤l.length) (n c':Nat) (hn:n=q - p):RP1 w (.slice (some (a.add p)) n c') ((l.drop p).take (q - p)):=by
 have hl:((l.drop p).take (q - p)).length=q - p:=by rw [List.length_take,List.length_drop];omega
 subst hn
 refine ⟨⟨_,_,by rw [hl]⟩,by have:=h.len;omega,fun h0=>?_⟩
 rw [hl] at h0
 obtain ⟨b,o,c2,e1,e2,e3⟩:=h.rd (by omega)
 cases e1
 refine ⟨b,o + p,c',?_,e2,fun j hj=>?_⟩
 ·rw [hl]
  by_cases hp:p=0
  ·subst hp;simp [Addr.add]
  ·simp [Addr.add,hp]
 ·have hj':j<q - p:=by rw [hl] at hj;exact hj
  have:=e3 (p + j) (by omega)
  rw [←Nat.add_assoc] at this
  rw [this]
  simp
theorem rp_zero (w:World) (a:Option Addr) (c n:Nat) (l:List UInt8) (p q:Nat) (h:q - p=0) (hn:n=q - p):RP1 w (.slice a n c) ((l.drop p).take (q - p)):=by
 subst hn
 rw [h,List.take_zero]
 exact ⟨⟨_,_,rfl⟩,Nat.zero_le _,fun h=>absurd h (by decide)⟩
structure Pe (w:World) (l:List UInt8) (vt nt:Value) (C:Int) (W:World):Prop where
 below:Below w.heap.size w W
 st:(C≠0∧(∃ E,readS l=.inl E)∧∃ es:List Hd,es.length≤300000∧W.ownsRow w.heap.size 74 7 vt es.length (ecs es)∧nt=.slice none 0 0) ∨
  (C=0∧∃ a b:List Hd,readS l=.inr (a++b)∧a.length + b.length≤300000∧W.ownsRow w.heap.size 74 7 vt a.length (ecs a)∧W.ownsRow w.heap.size 74 7 nt b.length (ecs b))
structure Pq (w:World) (l:List UInt8) (vt:Value) (C:Int) (W:World):Prop where
 below:Below w.heap.size w W
 no:∀ E,readS l=.inl E→C≠0
 yes:∀ es,readS l=.inr es→C=0∧W.ownsRow w.heap.size 74 7 vt es.length (ecs es)
theorem end_pz {w W:World} {r:Nat} {l:List UInt8} {vt:Value} (h:Pz w r l l.length vt W) :
  Calls Tryz.prog 19 #[.pointer (some ⟨r,0,none⟩)] W fun e w'=>∃ ta tn tc C,e=.returned (.tuple #[.slice ta tn tc,.int .i64 C])∧Pe w l vt (.slice ta tn tc) C w':=by
 have hbl:=h.below
 rcases h.st with ⟨x,g,m,h1,h2,h3,h4,h5⟩|⟨E,es,h1,h2,h3,h4⟩
 ·rw [List.take_length] at h1
  have wf:Wf {x with told:=[]}:=(feedS_wf st0_wf h1).t0
  have hbd:=told_bound h1
  refine (endl_r h2 wf).mono ?_
  rintro e w' ⟨hf,ha⟩
  have hb':Below w.heap.size w w':=hbl.trans (hf.below.mono h4)
  have h5':=hf.evs h3 h2 h5
  cases ho:finS {x with told:=[]} with
  | inl E =>
   rw [ho] at ha
   obtain ⟨rfl,hd⟩:=ha
   exact ⟨none,0,0,E,rfl,hb',Or.inl ⟨(fin_er ho).ne,⟨E,by unfold readS;rw [h1];simp only [bnd,ho]⟩,x.told,by omega,h5',rfl⟩⟩
  | inr y =>
   rw [ho] at ha
   obtain ⟨v,rfl,k1,k2,k3⟩:=ha
   have hr:readS l=.inr (x.told++y.told):=by unfold readS;rw [h1];simp only [bnd,ho]
   have hok:=(readS_ok l _ hr).1
   rw [List.length_append] at hok
   have k2':w'.ownsRow w.heap.size 74 7 v y.told.length (ecs y.told):=ownsRow_low k2 (by have:=h2.gk.loR;omega)
   rcases id k2.2 with ⟨rfl,_⟩|⟨g',cap,cur,rfl,_⟩
   ·exact ⟨_,_,_,0,rfl,hb',Or.inr ⟨rfl,x.told,y.told,hr,by omega,h5',k2'⟩⟩
   ·exact ⟨_,_,_,0,rfl,hb',Or.inr ⟨rfl,x.told,y.told,hr,by omega,h5',k2'⟩⟩
 ·rw [List.take_length] at h1
  refine (end_dead W r E (feed_er h1).ne h2).mono ?_
  rintro e w' ⟨rfl,hb⟩
  exact ⟨none,0,0,E,rfl,below_then hbl hb,Or.inl ⟨(feed_er h1).ne,⟨E,by unfold readS;rw [h1];rfl⟩,es,h3,own_of h4 fun k _ hk=>hb.block k hk,rfl⟩⟩
section
variable {w W : World} {ops : Array Oper} {rest : List Oper} {o : Oper} {a : Act} {Q : Exit → Act → World → Prop}
theorem app_pe (hgd:o.guard=none) (s x:Operand) (ho:o.op=.call {callee:=.builtin .append,args:=#[s,x],argTypes:=#[45,45]}) {l:List UInt8} {vt nt:Value} {C:Int} (hp:Pe w l vt nt C W) (hs:a.eval s=vt) (hx:a.eval x=nt)
  (h:∀ ta tn tc w',Pq w l (.slice ta tn tc) C w'→wpList Tryz.prog ops Q rest (a.put o.dst (.slice ta tn tc)) w'):wpList Tryz.prog ops Q (o :: rest) a W:=by
 have hsz:=hp.below.size
 rcases hp.st with ⟨h0,⟨E,h1⟩,es,h3,h4,rfl⟩|⟨rfl,a',b',h1,h2,h3,h4⟩
 ·refine app_evp hgd s x ho w.heap.size vt es hs h4 (.slice none 0 0) [] hx ⟨rfl,Or.inl ⟨rfl,rfl⟩⟩ (by simp;omega) hsz ?_
  intro ta tn tc w' k1 k2 k3
  exact h ta tn tc w' ⟨hp.below.trans k2,fun _ _=>h0,fun es' q=>by rw [h1] at q;cases q⟩
 ·refine app_evp hgd s x ho w.heap.size vt a' hs h3 nt b' hx h4 (by omega) hsz ?_
  intro ta tn tc w' k1 k2 k3
  exact h ta tn tc w' ⟨hp.below.trans k2,fun E q=>(by rw [h1] at q;cases q),fun es' q=>by
   rw [h1] at q
   cases q
   exact ⟨rfl,k1⟩⟩
end
theorem build_ok (w:World) (v:Value) (l:List UInt8) (es:List Hd) (h:readS l=.inr es) (hv:ES w v es) (gu:Ut.Gu w):Calls Tryz.prog 20 #[v] w fun e w'=>Ry es w e w':=by
 obtain ⟨hd,t,ht⟩:=read_done h
 have hb:=read_b64 h
 obtain ⟨o1,o2⟩:=readS_ok l es h
 refine (build_p v es w hv o1 o2 gu).mono ?_
 rintro e w' ⟨hw,hh,a1,m1,d1,a2,m2,d2,E,rfl,h1,h2,h3⟩
 obtain ⟨x,k1,k2,k3,k4,k5⟩:=h3 ((doneS_iff _).2 hd)
 have kw:Win es.length x:=(tally_win es.length x k2).1 ⟨t,by rw [←k1];exact ht⟩
 have hE:E=0:=k4.2 kw
 subst hE
 obtain ⟨rfl,s,f,k6,k7⟩:=k5 rfl
 refine ⟨hw,x,a1,m1,d1,a2,m2,d2,rfl,k1,Or.inr (Or.inr ⟨rfl,k2,kw⟩),fl_rg es.length x k2 (by rw [←k1];exact hb),k7.rd,k3,?_⟩
 have:=fl_siz es.length x k2
 rw [←k1] at this
 omega
set_option maxRecDepth 100000 in
theorem parts_law (va:Option Addr) (vc:Nat) (l:List UInt8) (ca:Option Addr) (cc:Nat) (z:List Int) (w:World) (hl:l.length≤maxLen) (hv:l.length≤131072→RB w (.slice va l.length vc) l) (hcap:(va=none∧l.length=0∧vc=0)∨((∃ a,va=some a)∧l.length≤vc∧vc≤maxLen)) (hzl:z.length≤maxLen) (hz:RI w (.slice ca z.length cc) z) (g:Ut.Gu w) (ht:Tab w.heap.size w) (h8:8≤w.heap.size) :
  Calls Tryz.prog 5 #[.slice va l.length vc,.slice ca z.length cc] w fun e w'=>e=.returned (.bool true)∧Below w.heap.size w w':=by
 have ml:maxLen=9223372036854775807:=rfl
 have tb:Hid (∀ W,Below w.heap.size w W→Tab W.heap.size W):=fun W hb=>Tab.up (ht.on hb) hb.size
 have sz8:Hid (∀ W,Below w.heap.size w W→8≤W.heap.size):=fun W hb=>Nat.le_trans h8 hb.size
 have aw:=hide (aw_ok w g ht h8)
 have hAw:Hid (∀ W,Below w.heap.size w W→Calls Tryz.prog 12 #[] W fun e w'=>e=.returned (.bool true)∧Below W.heap.size W w'):=aw.out
 replace g:=hide g
 replace ht:=hide ht
 replace h8:=hide h8
 replace hv:=hide hv
 replace hz:=hide hz
 obtain ⟨L,hL⟩:∃ L,l.length=L:=⟨_,rfl⟩
 obtain ⟨Z,hZ⟩:∃ Z,z.length=Z:=⟨_,rfl⟩
 have hL':=hide hL
 have hZ':=hide hZ
 rw [hL] at hl hcap
 rw [hZ] at hzl
 rw [hL,hZ]
 clear hL hZ aw
 by_cases hlong:131072<L
 ·have hd1:decide ((131072:Int)<(L:Int))=true:=decide_eq_true (by omega)
  go_enter Tryz.func5, Tryz.ntmps5
  go_wp2_with fail
  go_ret
  exact ⟨rfl,Below.refl _ _⟩
 ·have hd1:decide ((131072:Int)<(L:Int))=false:=decide_eq_false (by omega)
  have hL3:L≤131072:=by omega
  have RV:=hide (fun W (hb:Below w.heap.size w W)=>(hv.out (by rw [hL'.out];exact hL3)).below hb)
  rw [hL'.out] at RV
  have nst:=hide (nests_any _ l w (RV.out w (Below.refl _ _)))
  clear hlong
  go_enter Tryz.func5, Tryz.ntmps5
  go_wp2_with fail
  refine nst.out.mono ?_
  rintro e w2 ⟨⟨qn,rfl⟩,m2,rfl⟩
  have T2:Hid (Below w.heap.size w (w.drewN m2)):=⟨rfl,rfl,rfl,Nat.le_refl _,fun _ _=>rfl⟩
  obtain ⟨w2,hw2⟩:∃ w2,w.drewN m2=w2:=⟨_,rfl⟩
  rw [hw2] at T2 ⊢
  clear hw2 nst
  cases qn
  ·by_cases hcl:100<Z
   ·have hd2:decide ((100:Int)<(Z:Int))=true:=decide_eq_true (by omega)
    go_wp2_with fail
    go_ret
    exact ⟨rfl,T2.out⟩
   ·have hd2:decide ((100:Int)<(Z:Int))=false:=decide_eq_false (by omega)
    have hZ3:Z≤100:=by omega
    clear hcl
    have N:=hide (new_r w2 (g.out.below T2.out) (sz8.out _ T2.out))
    go_wp2_with fail
    refine N.out.mono ?_
    rintro e w3 ⟨r,gv,m,rfl,hp1,hp2,hp3,hp4⟩
    have P0:Hid (Pz w r l 0 (.slice none 0 0) w3):=⟨below_then T2.out hp2,Or.inl ⟨st0,gv,m,rfl,hp1,hp4,by rw [hp3];exact T2.out.size,Or.inl ⟨rfl,rfl⟩ |> fun q=>⟨rfl,q⟩⟩⟩
    clear hp1 hp2 hp3 hp4 N T2
    go_wp2_with fail
    go_loopw [6,7,8] (fun tv at' i w'=>∃ (ta:Option Addr) (tn tc p k:Nat),tv=.slice ta tn tc∧at'=.int .i64 p∧i=.int .i64 k∧k≤Z + 1∧p≤L∧(k=Z + 1→p=L)∧Hid (Pz w r l p (.slice ta tn tc) w')) (fun _ _ i _=>Z + 1 - (intOf i).toNat)
    case atStart=>exact ⟨none,0,0,0,0,rfl,rfl,rfl,by omega,by omega,by omega,P0.out⟩
    case round =>
     obtain ⟨ta,tn,tc,p,k,rfl,rfl,rfl,hk,hpl,hlast,P⟩:=hrel
     by_cases hkz:k≤Z
     ·have hd3:decide ((k:Int)≤(Z:Int))=true:=decide_eq_true (by omega)
      have CU:=hide (cut_any ca cc z wr (hz.out.below P.out.below) (by rw [hZ'.out];exact hZ3) k p L hpl hL3 (by omega))
      rw [hZ'.out] at CU
      have hcl:=cutF_le z k p L hpl
      have hce:Hid (k=Z→cutF z k p L=L):=fun e=>cutF_end z k p L (by rw [hZ'.out];omega)
      generalize cutF z k p L=q at CU hcl hce
      obtain ⟨hq1,hq2⟩:=hcl
      have hlast':=hide hlast
      clear hlast
      go_wp2_with fail
      refine CU.out.mono ?_
      rintro e w4 ⟨rfl,m4,rfl⟩
      have P4:Hid (Pz w r l p (.slice ta tn tc) (wr.drewN m4)):=P.out.drew
      obtain ⟨w4,hw4⟩:∃ w4,wr.drewN m4=w4:=⟨_,rfl⟩
      rw [hw4] at P4 ⊢
      clear hw4 CU P
      rcases hcap with ⟨rfl,c1,rfl⟩|⟨⟨a,rfl⟩,c1,c2⟩
      ·have hq0:Hid (q=0∧p=0):=⟨by omega,by omega⟩
       have hqa:¬ ((0:Int)<(q:Int)):=by omega
       have hqb:¬ ((q:Int)<(p:Int)):=by omega
       have c1':=hide c1
       have hq2':=hide hq2
       have hpl':=hide hpl
       clear c1 hq2 hpl
       go_wp2_with fail
       refine (feed_pz P4.out hq1 _ _ _ (rp_zero w _ _ _ l p q (by have:=hq0.out;omega) (by first|rfl|(have:=hq0.out;omega)))).mono ?_
       rintro e w5 ⟨na,nn,nc,C,rfl,f5⟩
       have F5:=hide f5
       clear f5 P4
       go_wp2_with (at_builtin;refine Sto.out ?_)
       refine Sto.mk ?_
       refine app_pz rfl (.tmp 54) (.tmp 55) rfl F5.out h8.out rfl rfl ?_
       rintro ta' tn' tc' w6 p6
       have P6:=hide p6
       clear p6 F5
       go_wp2_with fail
       exact ⟨⟨ta',tn',tc',q,k + 1,rfl,rfl,by go_num,by omega,hq2'.out,(fun e=>hce.out (by omega)),P6.out⟩,by simp [intOf];omega⟩
      ·by_cases hpc:p<vc
       ·have hpc2:¬ (vc - p=0):=by omega
        have hpc3:¬ ((vc:Int) - (p:Int)=0):=by omega
        go_wp2_with fail
        refine (feed_pz P4.out hq1 _ _ _ (RB.part (l:=l) (a:=a) (c:=vc) (by rw [hL'.out];exact RV.out w (Below.refl _ _)) p q hq1 (by rw [hL'.out];exact hq2) _ _ (by first|rfl|omega))).mono ?_
        rintro e w5 ⟨na,nn,nc,C,rfl,f5⟩
        have F5:=hide f5
        clear f5 P4
        go_wp2_with (at_builtin;refine Sto.out ?_)
        refine Sto.mk ?_
        refine app_pz rfl (.tmp 54) (.tmp 55) rfl F5.out h8.out rfl rfl ?_
        rintro ta' tn' tc' w6 p6
        have P6:=hide p6
        clear p6 F5
        go_wp2_with fail
        exact ⟨⟨ta',tn',tc',q,k + 1,rfl,rfl,by go_num,by omega,hq2,(fun e=>hce.out (by omega)),P6.out⟩,by simp [intOf];omega⟩
       ·have hq0:Hid (q=p∧p=L∧vc=L):=⟨by omega,by omega,by omega⟩
        have hv0:vc - p=0:=by omega
        have hv1:(vc:Int) - (p:Int)=0:=by omega
        have hv2:¬ (p<vc):=hpc
        have hqb:¬ ((q:Int)<(p:Int)):=by omega
        have hqc:¬ ((vc:Int)<(q:Int)):=by omega
        have hq2':=hide hq2
        clear hpc
        go_wp2_with fail
        refine (feed_pz P4.out hq1 _ _ _ (rp_zero w _ _ _ l p q (by have:=hq0.out;omega) (by first|rfl|(have:=hq0.out;omega)))).mono ?_
        rintro e w5 ⟨na,nn,nc,C,rfl,f5⟩
        have F5:=hide f5
        clear f5 P4
        go_wp2_with (at_builtin;refine Sto.out ?_)
        refine Sto.mk ?_
        refine app_pz rfl (.tmp 54) (.tmp 55) rfl F5.out h8.out rfl rfl ?_
        rintro ta' tn' tc' w6 p6
        have P6:=hide p6
        clear p6 F5
        go_wp2_with fail
        exact ⟨⟨ta',tn',tc',q,k + 1,rfl,rfl,by go_num,by omega,hq2'.out,(fun e=>hce.out (by omega)),P6.out⟩,by simp [intOf];omega⟩
     ·have hd3:decide ((k:Int)≤(Z:Int))=false:=decide_eq_false (by omega)
      have hpL:p=L:=hlast (by omega)
      have PL:Hid (Pz w r l l.length (.slice ta tn tc) wr):=by show Pz _ _ _ _ _ _;rw [hL'.out,←hpL];exact P.out
      have EN:=hide (end_pz PL.out)
      have hkz':=hide hkz
      clear hlast hkz P hpL PL
      go_wp2_with fail
      refine EN.out.mono ?_
      rintro e w4 ⟨na,nn,nc,C,rfl,f4⟩
      have F4:=hide f4
      clear f4 EN
      go_wp2_with (at_builtin;refine Sto.out ?_)
      refine Sto.mk ?_
      refine app_pe rfl (.tmp 63) (.tmp 64) rfl F4.out rfl rfl ?_
      rintro ta' tn' tc' w5 p5
      have P5:=hide p5
      clear p5 F4
      cases hR:readS l with
      | inl E =>
       have hE:=readS_er hR
       have hC:=P5.out.no E hR
       have e0:(E != 0)=true:=by simpa using hE
       have c0:(C != 0)=true:=by simpa using hC
       have d1:=hide (fun W (hb:Below w.heap.size w W)=>read_no W va vc l (by rw [hL'.out];exact RV.out W hb) (g.out.below hb) (sz8.out _ hb) E hR)
       rw [hL'.out] at d1
       simp only [zV] at d1
       replace hR:=hide hR
       replace hE:=hide hE
       replace hC:=hide hC
       go_wp2_with fail
       refine (d1.out _ P5.out.below).mono ?_
       rintro e v1 ⟨hv1,rfl⟩
       have U1:=hide (below_then P5.out.below hv1)
       clear hv1 d1
       go_wp2_with fail
       refine (hAw.out _ (below_al U1.out)).mono ?_
       rintro e v2 ⟨rfl,hv2⟩
       have U2:=hide (below_then (below_al U1.out) hv2)
       clear hv2
       go_wp2_with fail
       go_ret
       exact ⟨by first|rfl|(simp;done),U2.out⟩
      | inr es =>
       obtain ⟨rfl,ho⟩:=P5.out.yes es hR
       have d1:=hide (fun W (hb:Below w.heap.size w W)=>read_ok W va vc l (by rw [hL'.out];exact RV.out W hb) (g.out.below hb) (sz8.out _ hb) es hR)
       rw [hL'.out] at d1
       have HO:=hide ho
       have HR:=hide hR
       clear ho hR
       go_wp2_with fail
       refine (d1.out _ P5.out.below).mono ?_
       rintro e v1 ⟨hv1,y,c1,c2,c3,c4,c5,c6,rfl,g1,kz,rz,dz⟩
       have U1:=hide (below_then P5.out.below hv1)
       have DZ:=hide dz
       have G1:=hide g1
       have KZ:=hide kz
       obtain ⟨hq,hhq⟩:∃ h,vhd es.length y=h:=⟨_,rfl⟩
       obtain ⟨v1a,hv1a⟩:∃ v1a,v1.alloc (.cells (vals hq (.slice c1 c2 c3) (.slice c4 c5 c6)) 29)=v1a:=⟨_,rfl⟩
       have U2:Hid (Below w.heap.size w v1a):=by show Below _ _ _;rw [←hv1a];exact below_al U1.out
       have X2:Hid (Bx v1a v1.heap.size hq (.slice c1 c2 c3) (.slice c4 c5 c6)):=by show Bx _ _ _ _ _;rw [←hv1a];exact bx_new _ _ _ _
       have DZ2:Hid (∀ W,Below v1a.heap.size v1a W→RD es.length W y (.slice c1 c2 c3) (.slice c4 c5 c6)):=fun W hb=>DZ.out.rd.below (below_then (by rw [←hv1a];exact below_al (Below.refl _ _)) hb)
       have HO2:Hid (v1a.ownsRow w.heap.size 74 7 (.slice ta' tn' tc') es.length (ecs es)):=own_of HO.out fun k _ hk=>by rw [←hv1a];exact (below_al hv1).block k hk
       have bu:=hide (build_ok v1a (.slice ta' tn' tc') l es HR.out (es_own HO2.out) (g.out.below U2.out))
       rw [hhq]
       simp only [vals] at hv1a ⊢
       have HQ:=hide hhq
       clear hv1 d1 dz g1 kz rz hhq DZ U1
       go_wp2_with fail
       clear hv1a
       refine bu.out.mono ?_
       rintro e v2 ⟨hv2,y',e1,e2,e3,e4,e5,e6,rfl,g2,kz2,rz2,dz2⟩
       have hyy:y'=y:=(fl_inj es.length y' y ((chk_zero kz2).1 rfl).1 ((chk_zero KZ.out).1 rfl).1 [] [] (by rw [←g2,←G1.out])).1
       subst hyy
       have U3:=hide (below_then U2.out hv2)
       have X3:=hide (X2.out.below hv2)
       obtain ⟨v2a,hv2a⟩:∃ v2a,v2.alloc (.cells (vals hq (.slice e1 e2 e3) (.slice e4 e5 e6)) 29)=v2a:=⟨_,rfl⟩
       have U4:Hid (Below w.heap.size w v2a):=by show Below _ _ _;rw [←hv2a];exact below_al U3.out
       have X4:Hid (Bx v2a v1.heap.size hq (.slice c1 c2 c3) (.slice c4 c5 c6)):=by show Bx _ _ _ _ _;rw [←hv2a];exact X3.out.below (below_al (Below.refl _ _))
       have Y4:Hid (Bx v2a v2.heap.size hq (.slice e1 e2 e3) (.slice e4 e5 e6)):=by show Bx _ _ _ _ _;rw [←hv2a];exact bx_new _ _ _ _
       have B24:Hid (Below v2.heap.size v2 v2a):=by show Below _ _ _;rw [←hv2a];exact below_al (Below.refl _ _)
       have B14:Hid (Below v1a.heap.size v1a v2a):=by show Below _ _ _;rw [←hv2a];exact below_al hv2
       have D2:=hide dz2
       have kq2:=hide (fun W (hb:Below v2a.heap.size v2a W)=>equal_tells es.length es.length y' y' (.slice e1 e2 e3) (.slice e4 e5 e6) (.slice c1 c2 c3) (.slice c4 c5 c6) W (D2.out.rd.below (below_then B24.out hb)) (DZ2.out _ (below_then B14.out hb)) ((chk_zero KZ.out).1 rfl).1 ((chk_zero KZ.out).1 rfl).1 rfl)
       rw [HQ.out] at kq2 ⊢
       simp only [vals] at kq2 hv2a ⊢
       clear hv2 g2 kz2 rz2 dz2 bu
       go_wp2_with fail
       clear hv2a
       refine (hAw.out _ U4.out).mono ?_
       rintro e v3 ⟨rfl,hv3⟩
       have U5:=hide (below_then U4.out hv3)
       have B3:=hide hv3
       obtain ⟨q0,q1,q2,q3,q4,q5,q6,q7,q8⟩:=(X4.out.below hv3).cells
       obtain ⟨o0,o1,o2,o3,o4,o5,o6,o7,o8⟩:=(Y4.out.below hv3).cells
       clear hv3
       go_wp2_with fail
       refine (kq2.out _ B3.out).mono ?_
       rintro e v4 ⟨rfl,hv4⟩
       have U6:=hide (below_then U5.out hv4)
       clear hv4 q0 q1 q2 q3 q4 q5 q6 q7 q8 o0 o1 o2 o3 o4 o5 o6 o7 o8
       go_wp2_with fail
       go_ret
       exact ⟨by first|rfl|(simp;done),U6.out⟩
  ·go_wp2_with fail
   go_ret
   exact ⟨rfl,T2.out⟩
end Go.Proofs.YtpimjkdakjhoaaaGreatDoor
