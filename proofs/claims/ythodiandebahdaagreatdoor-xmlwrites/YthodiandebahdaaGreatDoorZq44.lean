/- Merged by program: DmFeed, DnEnd, DoErr, DpXml, DqEnd. -/
import Derived.Test.YthodiandebahdaaGreatDoorZq43
namespace Go.Proofs.YthodiandebahdaaGreatDoor
open Go.RowKit
set_option linter.unusedSimpArgs false
set_option linter.unusedVariables false
set_option maxHeartbeats 8000000
section
variable {W W1 W2 : World} {r : Nat} {g : Tg} {m m1 : Xm} {st : Xs}
set_option maxRecDepth 100000 in
theorem end1_x (h:XM W r g m st) {p q:Nat} (hp:Bo W m p (fnV r) 1)(hq:Bo W m q (.pointer (some ⟨g.t,0,none⟩)) 62) :
  Calls Tryz.prog 63 #[.pointer (some ⟨p,0,none⟩),.pointer (some ⟨q,0,none⟩)] W fun e w'=>XP W r g m (finX st) e w':=by
 have H:=hide h
 have Q:=hide hq
 have cp:=hp.cell
 simp only [fnV] at cp
 have cq:=hq.cell
 have FN:=hide (fun w (hb:Below W.heap.size W w)=>fin_q (h.then hb))
 clear h hp hq
 unfold finX
 by_cases hc:st.mark≠[]∨st.ks≠[]∨st.filled=false
 ·rw [if_pos hc] at FN ⊢
  clear hc
  go_enter Tryz.func63, Tryz.ntmps63
  go_wp2_with (go_at_call 33;refine (FN.out _ (by repeat (first|exact Below.refl _ _|refine Below.drew ?_|refine below_al ?_))).mono ?_;rintro q w1 hp;have K:=hide (XP.base H.out (by repeat (first|exact Below.refl _ _|refine Below.drew ?_|refine below_al ?_)) hp);obtain ⟨_,rfl,_⟩:=hp)
  exact ⟨rfl,K.out⟩
 ·rw [if_neg hc] at FN ⊢
  clear hc
  cases hpa:st.t.passed with
  | true =>
   go_enter Tryz.func63, Tryz.ntmps63
   go_wp2_with (go_at_call 33;refine (FN.out _ (by repeat (first|exact Below.refl _ _|refine Below.drew ?_|refine below_al ?_))).mono ?_;rintro q w1 ⟨hp1,rfl,m1,hp2,hp3⟩;have F1:Hid (XF g m W w1):=(XF.of (by repeat (first|exact Below.refl _ _|refine Below.drew ?_|refine below_al ?_)) H.out.low).trans (OMx.refl _ _) hp1;have M1:=hide hp2;have O1:Hid (OMx W m m1):=(OMx.refl _ _).trans hp3 (show Below W.heap.size W _ from (by repeat (first|exact Below.refl _ _|refine Below.drew ?_|refine below_al ?_))).size;have kq:=(Q.out.move F1.out O1.out noT_tl).cell;have k3:w1.cell? ⟨g.t,3,none⟩=some (.bool st.t.passed):=(hp2.t.tb.cell 3).trans rfl;rw [hpa] at k3;clear hp1 hp2 hp3)
   exact ⟨rfl,XP.trans F1.out O1.out (XP.base M1.out (by repeat (first|exact Below.refl _ _|refine Below.drew ?_|refine below_al ?_)) ((M1.out.then (by repeat (first|exact Below.refl _ _|refine Below.drew ?_|refine below_al ?_))).fail 2))⟩
  | false =>
   go_enter Tryz.func63, Tryz.ntmps63
   go_wp2_with (go_at_call 33;refine (FN.out _ (by repeat (first|exact Below.refl _ _|refine Below.drew ?_|refine below_al ?_))).mono ?_;rintro q w1 ⟨hp1,rfl,m1,hp2,hp3⟩;have F1:Hid (XF g m W w1):=(XF.of (by repeat (first|exact Below.refl _ _|refine Below.drew ?_|refine below_al ?_)) H.out.low).trans (OMx.refl _ _) hp1;have M1:=hide hp2;have O1:Hid (OMx W m m1):=(OMx.refl _ _).trans hp3 (show Below W.heap.size W _ from (by repeat (first|exact Below.refl _ _|refine Below.drew ?_|refine below_al ?_))).size;have kq:=(Q.out.move F1.out O1.out noT_tl).cell;have k3:w1.cell? ⟨g.t,3,none⟩=some (.bool st.t.passed):=(hp2.t.tb.cell 3).trans rfl;rw [hpa] at k3;clear hp1 hp2 hp3)
   go_end0
   exact ⟨F1.out,rfl,m1,M1.out,O1.out⟩
set_option maxRecDepth 100000 in
theorem tfeed_x {l:List UInt8} (h:XM W r g m st)(ge:Ge (bdX st l=true) W)(hw:Wy st) {v:Value} (hs:SB W g.lo m v l) :
  Calls Tryz.prog 30 #[.pointer (some ⟨g.t,0,none⟩),v,tkV r] W fun e w'=>AT W r g m (feedX st l) e w':=by
 have hmf:∀ (fn:Fn)(first cap:Array Value) (w:World),(Instr.makeFunc fn first cap).run Tryz.prog w=.ok (.func fn first cap) w:=fun _ _ _ _=>rfl
 obtain ⟨W3,hW3⟩:∃ W3,W3=((W.alloc (.cells #[.pointer (some ⟨g.t,0,none⟩)] 62)).alloc (.cells #[v] 32)).alloc (.cells #[tkV r] 71):=⟨_,rfl⟩
 have B3:Hid (Below W.heap.size W W3):=by rw [hW3];exact below_al (below_al (below_al (Below.refl _ _)))
 have M3:=hide (h.then B3.out)
 have F3:Hid (XF g m W W3):=XF.of B3.out h.low
 have nb:=fun k (hk:W.heap.size≤k)=>h.nob hk
 have X1:Hid (Bo W3 m W.heap.size (.pointer (some ⟨g.t,0,none⟩)) 62):=⟨by
  rw [hW3,Below.heap_alloc _ _ _ (by simp;omega),Below.heap_alloc _ _ _ (by simp)];exact heap_alloc_last _ _,nb _ (Nat.le_refl _)⟩
 have X2:Hid (Bo W3 m (W.heap.size+1) v 32):=⟨by
  rw [hW3,Below.heap_alloc _ _ _ (by simp)]
  have:=heap_alloc_last (W.alloc (.cells #[.pointer (some ⟨g.t,0,none⟩)] 62)) (.cells #[v] 32)
  rw [World.size_alloc] at this
  exact this,nb _ (Nat.le_succ _)⟩
 have X3:Hid (Bo W3 m (W.heap.size+1+1) (tkV r) 71):=⟨by
  rw [hW3]
  have:=heap_alloc_last ((W.alloc (.cells #[.pointer (some ⟨g.t,0,none⟩)] 62)).alloc (.cells #[v] 32)) (.cells #[tkV r] 71)
  rw [World.size_alloc,World.size_alloc] at this
  exact this,nb _ (by omega)⟩
 have S3:Hid (SB W3 g.lo m v l):=hs.move F3.out (OMx.refl _ _)
 have C:=hide (attF_x (p:=W.heap.size+1) (q:=W.heap.size) (s:=W.heap.size+1+1) M3.out (feedX st l) (fun w1 h1 f1=>feed1_x h1 (ge.low (F3.out.below.trans f1.below) h1.t.gk.low) hw (X2.out.move f1 (OMx.refl _ _) noT_by) (X1.out.move f1 (OMx.refl _ _) noT_tl) (X3.out.move f1 (OMx.refl _ _) noT_fn) (S3.out.move f1 (OMx.refl _ _))))
 have lo:=hide h.low
 obtain ⟨va,vc,hv⟩:=hs.shape
 rw [hW3] at C
 clear h ge hw hs nb X1 X2 X3 S3 M3
 subst hv
 simp only [tkV] at C hW3 ⊢
 have hAT:Hid (∀ e w',AT W3 r g m (feedX st l) e w'→AT W r g m (feedX st l) e w'∧∃ u v,e=.returned (.tuple #[u,v])):=fun e w' hp=>by
  obtain ⟨h1,h2⟩:=hp
  cases ho:feedX st l with
  | inl E =>
   rw [ho] at h2
   exact ⟨⟨F3.out.trans (OMx.refl _ _) h1,h2⟩,_,_,h2.1⟩
  | inr x =>
   rw [ho] at h2
   obtain ⟨m',u,e1,a1,a2,a3,a4,a5⟩:=h2
   exact ⟨⟨F3.out.trans (OMx.refl _ _) h1,m',u,e1,a1,(OMx.refl _ _).trans a2 B3.out.size,a3,a4,(OB.refl _ _).trans a5 B3.out.size⟩,_,_,e1⟩
 go_enter Tryz.func30, Tryz.ntmps30
 go_wp2_with (go_at_call 56;refine Sto.out ?_)
 refine Sto.mk (C.out.mono ?_)
 rintro e w1 hp
 rw [←hW3] at hp
 obtain ⟨h1,u,v,rfl⟩:=hAT.out e w1 hp
 have K:=hide h1
 clear hp h1
 go_wp2_with fail
 exact bodyPost_ret (v:=.tuple #[u,v]) (by simp [results,Tryz.results30,go_sem]) rfl K.out
end
section
variable {W W1 W2 : World} {r : Nat} {g : Tg} {m m1 : Xm} {st : Xs}
theorem finX_err {E:Int} (h:finX st=.inl E):E=100∨E=2:=by
 unfold finX at h
 split at h
 ·cases h;exact Or.inl rfl
 ·split at h
  ·cases h;exact Or.inr rfl
  ·cases h
def ET (W:World)(r:Nat)(g:Tg)(m:Xm)(o:Sum Int Xs)(e:Ending)(w':World):Prop :=
 XF g m W w'∧(∃ s,XdB w' r s∧s.t=g.t)∧match o with
 | .inl E=>e=.returned (.tuple #[.slice none 0 0,.int .i64 E])∧TlE w' g.t E
 | .inr x=>∃ v,e=.returned (.tuple #[v,.int .i64 0])∧TlE w' g.t 100∧w'.ownsRow (g.t+1) 76 7 v x.t.told.length (ecs x.t.told)∧OB W m.t.told v
theorem XF.dead (h:XF g m W W1)(hl:g.lo≤g.t) {c:Array Value} {f:Nat×Nat} (ht:W1.heap[g.t]?=some (.cells c 97 f))(hb:But g.t W1 W2):XF g m W W2 :=
 ⟨h.below.trans (hb.below hl),fun q c' T f' hq t1 t2 t3 t4 t5 t6 t7 n1 n2 n3 n4=>by
  have k:=h.keep q c' T f' hq t1 t2 t3 t4 t5 t6 t7 n1 n2 n3 n4
  rw [hb.blk q (fun e=>by rw [e,ht] at k;exact t2 (cells_ty k).symm),k]⟩
set_option maxRecDepth 100000 in
theorem tend_x (h:XM W r g m st) :
  Calls Tryz.prog 32 #[.pointer (some ⟨g.t,0,none⟩),fnV r] W fun e w'=>ET W r g m (finX st) e w':=by
 have hmf:∀ (fn:Fn)(first cap:Array Value) (w:World),(Instr.makeFunc fn first cap).run Tryz.prog w=.ok (.func fn first cap) w:=fun _ _ _ _=>rfl
 obtain ⟨W3,hW3⟩:∃ W3,W3=(W.alloc (.cells #[.pointer (some ⟨g.t,0,none⟩)] 62)).alloc (.cells #[fnV r] 1):=⟨_,rfl⟩
 have B3:Hid (Below W.heap.size W W3):=by rw [hW3];exact below_al (below_al (Below.refl _ _))
 have M3:=hide (h.then B3.out)
 have F3:Hid (XF g m W W3):=XF.of B3.out h.low
 have X1:Hid (Bo W3 m W.heap.size (.pointer (some ⟨g.t,0,none⟩)) 62):=⟨by
  rw [hW3,Below.heap_alloc _ _ _ (by simp)];exact heap_alloc_last _ _,h.nob (Nat.le_refl _)⟩
 have X2:Hid (Bo W3 m (W.heap.size+1) (fnV r) 1):=⟨by
  rw [hW3]
  have:=heap_alloc_last (W.alloc (.cells #[.pointer (some ⟨g.t,0,none⟩)] 62)) (.cells #[fnV r] 1)
  rw [World.size_alloc] at this
  exact this,h.nob (Nat.le_succ _)⟩
 have C:=hide (attE_x (p:=W.heap.size+1) (q:=W.heap.size) M3.out (finX st) (fun w1 h1 f1=>end1_x h1 (X2.out.move f1 (OMx.refl _ _) noT_f0) (X1.out.move f1 (OMx.refl _ _) noT_tl)))
 have lo:=hide h.low
 have lot:=hide h.t.gk.loR
 have hlt:=h.lt
 have htl:=h.t.lt
 have nbW:=hide (h.nob (Nat.le_refl W.heap.size))
 rw [hW3] at C
 clear h M3 X2
 simp only [fnV] at C hW3 ⊢
 cases ho:finX st with
 | inl E =>
  rw [ho] at C
  have hE:=finX_err ho
  clear ho
  go_enter Tryz.func32, Tryz.ntmps32
  go_wp2_with (go_at_call 56;refine Sto.out ?_)
  refine Sto.mk (C.out.mono ?_)
  rintro e w1 hp
  rw [←hW3] at hp
  obtain ⟨h1,rfl,h2,s,h3,h4⟩:=hp
  have K:Hid (ET W r g m (.inl E) (.returned (.tuple #[.slice none 0 0,.int .i64 E])) w1):=⟨F3.out.trans (OMx.refl _ _) h1,⟨s,h3,h4⟩,rfl,h2⟩
  have e0:(E==0)=false:=by rcases hE with rfl|rfl <;> rfl
  clear h1 h2 h3 h4
  go_wp2_with fail
  exact bodyPost_ret (v:=.tuple #[.slice none 0 0,.int .i64 E]) (by simp [results,Tryz.results32,go_sem]) rfl K.out
 | inr x =>
  rw [ho] at C
  clear ho
  go_enter Tryz.func32, Tryz.ntmps32
  go_wp2_with (go_at_call 56;refine Sto.out ?_)
  refine Sto.mk (C.out.mono ?_)
  rintro e w1 hp
  rw [←hW3] at hp
  obtain ⟨h1,m',v,rfl,a1,a2,a3,a4,a5⟩:=hp
  have F1:Hid (XF g m W w1):=F3.out.trans (OMx.refl _ _) h1
  have M1:=hide a1
  have A4:=hide a4
  have A5:Hid (OB W m.t.told v):=(OB.refl _ _).trans a5 B3.out.size
  have kq:=(X1.out.move h1 a2 noT_tl).cell
  have hr:=a1.t.tb
  have cf:=fun j=>hr.frz j
  have c0:w1.cell? ⟨g.t,0,none⟩=some (.int .i64 100):=(hr.cell 0).trans rfl
  have c1:w1.cell? ⟨g.t,1,none⟩=some (.int .i64 0):=(hr.cell 1).trans rfl
  have c2:=(hr.cell 2).trans rfl
  have c3:=(hr.cell 3).trans rfl
  have c4:=(hr.cell 4).trans rfl
  have c5:=(hr.cell 5).trans rfl
  have c6:=(hr.cell 6).trans rfl
  simp only [Tl.tv,Tv.cells,List.getElem?_toArray,List.getElem?_cons_zero,List.getElem?_cons_succ] at c2 c3 c4 c5 c6
  have hr':=hide hr
  obtain ⟨va,vn,vc,hv⟩:∃ va vn vc,v=.slice va vn vc:=by
   rcases a4.2 with ⟨e1,_⟩|⟨_,_,_,e1,_⟩
   ·exact ⟨_,_,_,e1⟩
   ·exact ⟨_,_,_,e1⟩
  obtain ⟨D,hD⟩:∃ D,dead7 w1 g.t 100=D:=⟨_,rfl⟩
  have KK:Hid (ET W r g m (.inr x) (.returned (.tuple #[v,.int .i64 0])) D.drew):=by
   have hrB:=M1.out.t.tb
   have DR:=dead_rd hrB 100
   have DB:=dead_but w1 g.t 100
   rw [hD] at DR DB
   unfold TlB at hrB
   have FD:=F1.out.dead lot.out hrB DB
   have hlo:g.lo≤D.heap.size:=by rw [DB.size];exact M1.out.low
   refine ⟨FD.trans (OMx.refl _ _) (XF.of (Below.refl D.heap.size D).drew hlo),⟨_,M1.out.rd.same (W1:=D.drew) (DB.blk r (fun e=>?_)),rfl⟩,v,rfl,DR,own_of A4.out fun q hq hl=>DB.blk q (fun e=>?_),A5.out⟩
   ·have hx:=M1.out.rd
    unfold XdB at hx
    rw [e,hrB] at hx
    exact absurd (cells_ty hx) (by decide)
   ·have:=(World.ownsRow.lt A4.out q hq).1
    omega
  clear h1 a1 a2 a3 a4 a5 hr hr'
  subst hv
  simp only [dead7] at hD
  go_wp2_with fail
  go_region_with (fail)
  all_goals
   try rw [hD]
   clear hD c0 c1 c2 c3 c4 c5 c6 cf
   go_wp2_with fail
   exact bodyPost_ret (v:=.tuple #[.slice va vn vc,.int .i64 0]) (by simp [results,Tryz.results32,go_sem]) rfl KK.out
end
def Er (E:Int):Prop:=E=100∨E=2
theorem bnd_inl {α β γ:Type} {o:Sum α β} {f:β→Sum α γ} {E:α} (h:bnd o f=.inl E):o=.inl E∨∃ y,o=.inr y∧f y=.inl E:=by
 cases o with
 | inl E'=>cases h;exact Or.inl rfl
 | inr y=>exact Or.inr ⟨y,rfl,h⟩
theorem tellT_e {t:Tl} {e:Hd} {E:Int} (h:tellT 100 t e=.inl E):Er E:=by
 unfold tellT at h
 split at h
 ·cases h;exact Or.inl rfl
 ·split at h
  ·split at h
   ·cases h;exact Or.inr rfl
   ·cases h
  ·cases h
theorem passT_e {t:Tl} {E:Int} (h:passT t=.inl E):Er E:=by
 unfold passT at h
 split at h
 ·cases h;exact Or.inr rfl
 ·cases h
theorem countT_e {t:Tl} {E:Int} (h:countT t=.inl E):Er E:=by
 unfold countT at h
 split at h
 ·exact passT_e h
 ·cases h
theorem tellN_e {t:Tl} {s:ByteArray} {E:Int} (h:tellN 100 t s=.inl E):Er E:=by
 unfold tellN at h
 split at h
 ·exact tellT_e h
 ·split at h
  ·rcases bnd_inl h with h|⟨y,_,h⟩
   ·exact passT_e h
   ·exact tellT_e h
  ·cases h;exact Or.inl rfl
theorem lift_e {o:Sum Int Tl} {f:Tl→Xs} {E:Int} (hh:∀ E,o=.inl E→Er E)(h:bnd o (fun t=>(.inr (f t):Sum Int Xs))=.inl E):Er E:=by
 rcases bnd_inl h with h|⟨y,_,h⟩
 ·exact hh E h
 ·cases h
theorem elemS_e {st:Xs} {e:Hd} {E:Int} (h:elemS st e=.inl E):Er E:=lift_e (fun _=>tellT_e) h
theorem beginS_e {st:Xs} {e:Hd} {E:Int} (h:beginS st e=.inl E):Er E:=lift_e (fun _=>tellT_e) h
theorem numS_e {st:Xs} {s:ByteArray} {E:Int} (h:numS st s=.inl E):Er E:=lift_e (fun _=>tellN_e) h
theorem er1 {E:Int} {β:Type} (h:(.inl 100:Sum Int β)=.inl E):Er E:=by cases h;exact Or.inl rfl
theorem endRowS_e {st:Xs} {k E:Int} (h:endRowS st k=.inl E):Er E:=by
 unfold endRowS at h
 split at h
 ·exact er1 h
 split at h
 ·exact numS_e h
 split at h
 ·unfold floatS at h
  split at h
  ·exact elemS_e h
  ·exact er1 h
 split at h
 ·exact elemS_e h
 split at h
 ·unfold bytesS at h
  split at h
  ·exact er1 h
  ·exact elemS_e h
 ·cases h
theorem markS_e {st:Xs} {p:Nat×Int×Bool} {E:Int} (h:markS st p=.inl E):Er E:=by
 unfold markS at h
 split at h
 ·split at h
  ·exact er1 h
  ·exact elemS_e h
 split at h
 ·split at h
  ·exact er1 h
  ·cases h
 split at h
 ·exact endRowS_e h
 split at h
 ·split at h
  ·exact er1 h
  ·exact beginS_e h
 split at h
 ·unfold beginNameS at h
  split at h
  ·split at h
   ·exact er1 h
   ·cases h
  ·split at h
   ·exact er1 h
   ·cases h
 split at h
 ·unfold endNameS at h
  split at h
  ·exact er1 h
  ·exact beginS_e h
 ·unfold endPartS at h
  split at h
  ·exact er1 h
  ·split at h
   ·cases h
   ·exact elemS_e h
theorem holdS_e {st:Xs} {l:List UInt8} {E:Int} (h:holdS st l=.inl E):Er E:=by
 unfold holdS at h
 split at h
 ·cases h;exact Or.inr rfl
 ·cases h
theorem goX_e {st:Xs} {c:UInt8} {E:Int} (h:goX st c=.inl E):Er E:=by
 unfold goX at h
 split at h
 ·unfold inMarkS at h
  split at h
  ·exact markS_e h
  ·split at h
   ·exact er1 h
   ·cases h
 split at h
 ·unfold inRefS at h
  split at h
  ·split at h
   ·exact er1 h
   ·exact holdS_e h
  ·split at h
   ·exact er1 h
   ·cases h
 split at h
 ·cases h
 split at h
 ·unfold rowS at h
  split at h
  ·exact er1 h
  split at h
  ·cases h
  ·exact holdS_e h
 split at h
 ·cases h
 ·exact er1 h
theorem feedX_e {l:List UInt8} {st:Xs} {E:Int} (h:feedX st l=.inl E):Er E:=by
 induction l generalizing st with
 | nil=>cases h
 | cons c l ih =>
  rcases bnd_inl h with h|⟨y,_,h⟩
  ·rcases bnd_inl h with h|⟨t,_,h⟩
   ·exact countT_e h
   ·exact goX_e h
  ·exact ih h
theorem tnew_x (w:World)(gu:Ut.Gu w)(h8:8≤w.heap.size):Calls Tryz.prog 29 #[.int .i64 100] w fun e w'=>∃ g m,e=.returned (.pointer (some ⟨g.t,0,none⟩))∧TM 100 w' g m tl0∧Below w.heap.size w w'∧g.lo=w.heap.size∧m.told=.slice none 0 0:=by
 have CN:=hide (fun w=>cnew_any w)
 have TN:=hide (fun w=>tnew_any w)
 go_enter Tryz.func29, Tryz.ntmps29
 go_wp2_with (first
  | (go_at_call 34;refine (CN.out _).mono ?_;rintro e w1 ⟨rfl,hp1,hp2⟩;have P0:=hide hp1;have P1:=hide hp2;clear hp1 hp2)
  | (go_at_call 55;refine (TN.out _).mono ?_;rintro e w2 ⟨rfl,hp2,hp3⟩;have P2:=hide hp2;have P3:=hide hp3;clear hp2 hp3))
 go_ret
 have z1:=P1.out.size
 have z2:=P3.out.size
 have k0:=P0.out.lt
 have k2:=P2.out.lt
 have B3:Below w2.heap.size w2 (w2.alloc (.cells (tl0.tv 100 ⟨w2.heap.size,w.heap.size,w1.heap.size,w2.heap.size+1,w.heap.size⟩ ⟨.slice none 0 0,.slice none 0 0⟩).cells 97)):=below_al (Below.refl _ _)
 have B2:Below w.heap.size w w2:=P1.out.trans (P3.out.mono (by omega))
 refine ⟨⟨w2.heap.size,w.heap.size,w1.heap.size,w2.heap.size+1,w.heap.size⟩,⟨.slice none 0 0,.slice none 0 0⟩,rfl,?_,B2.trans (B3.mono (by omega)),rfl,rfl⟩
 refine ⟨heap_alloc_new _ _,World.ownsRow_nil _ _ _ _,?_,?_,(gu.below B2).below B3,⟨by show w.heap.size≤w2.heap.size;omega,Nat.le_refl _,by show w.heap.size≤w1.heap.size;omega,by show w.heap.size<w2.heap.size+1;omega,h8⟩,by simp [tl0]⟩
 ·refine ⟨.slice none 0 0,[],Ck.new ((P0.out.same (P3.out.block _ k0)).same (B3.block _ (by omega))) (by show w.heap.size<w2.heap.size+1;omega) (by simp),rfl,by simp,fun p hp=>by simp at hp⟩
 ·exact TyA.new (P2.out.same (B3.block _ k2)) (by show w1.heap.size<w2.heap.size+1;omega) (by simp)
theorem new_x (w:World)(gu:Ut.Gu w)(h8:8≤w.heap.size):Calls Tryz.prog 16 #[] w fun e w'=>∃ r g m,e=.returned (.pointer (some ⟨r,0,none⟩))∧XM w' r g m x0∧Below w.heap.size w w'∧g.lo=w.heap.size∧m.t.told=.slice none 0 0∧m.mark=.slice none 0 0∧m.held=.slice none 0 0∧m.ref=.slice none 0 0∧g.t≤r:=by
 have TN:=hide (tnew_x w gu h8)
 go_enter Tryz.func16, Tryz.ntmps16
 go_wp2_with (go_at_call 29;refine TN.out.mono ?_;rintro e w1 ⟨g,mt,rfl,hp1,hp2,hp3,hp4⟩;have P1:=hide hp1;have P2:=hide hp2;have P3:=hide hp3;have P4:=hide hp4;clear hp1 hp2 hp3 hp4)
 go_ret
 have z2:=P2.out.size
 have B3:Below w1.heap.size w1 (w1.alloc (.cells (x0.xv g ⟨mt,.slice none 0 0,.slice none 0 0,.slice none 0 0,.slice none 0 0⟩).cells 69)):=below_al (Below.refl _ _)
 refine ⟨w1.heap.size,g,⟨mt,.slice none 0 0,.slice none 0 0,.slice none 0 0,.slice none 0 0⟩,rfl,?_,P2.out.trans (B3.mono (by omega)),P3.out,P4.out,rfl,rfl,rfl,Nat.le_of_lt P1.out.lt⟩
 exact ⟨heap_alloc_new _ _,⟨own_nil _ _,own_nil _ _,own_nil _ _,World.ownsRow_nil _ _ _ _,(fun k e=>by cases e),(fun k e=>by cases e),(fun k e=>by cases e),by simp [x0],by simp [x0],by simp [x0],by simp [x0]⟩,P1.out.then B3,by rw [P3.out];omega⟩
def clX (t:Nat):Xv:=⟨t,.slice none 0 0,0,.slice none 0 0,.slice none 0 0,.slice none 0 0,false⟩
def clean7 (w:World)(r t:Nat):World:=((((((w.setCell ⟨r,0,none⟩ (.pointer (some ⟨t,0,none⟩))).setCell ⟨r,1,none⟩ (.slice none 0 0)).setCell ⟨r,2,none⟩ (.int .i64 0)).setCell ⟨r,3,none⟩ (.slice none 0 0)).setCell ⟨r,4,none⟩ (.slice none 0 0)).setCell ⟨r,5,none⟩ (.slice none 0 0)).setCell ⟨r,6,none⟩ (.bool false)
theorem clean_but (w:World)(r t:Nat):But r w (clean7 w r t):=(((((((But.refl r w).set 0 _).set 1 _).set 2 _).set 3 _).set 4 _).set 5 _).set 6 _
theorem clean_rd {w:World} {r t:Nat} {s:Xv} (h:XdB w r s):XdB (clean7 w r t) r (clX t):=by
 unfold XdB at h
 have h0:=blk_set h 0 (.pointer (some ⟨t,0,none⟩))
 have h1:=blk_set h0 1 (.slice none 0 0)
 have h2:=blk_set h1 2 (.int .i64 0)
 have h3:=blk_set h2 3 (.slice none 0 0)
 have h4:=blk_set h3 4 (.slice none 0 0)
 have h5:=blk_set h4 5 (.slice none 0 0)
 have h6:=blk_set h5 6 (.bool false)
 unfold XdB clean7
 rw [h6]
 simp [Xv.cells,clX]
section
variable {W W1 W2 : World} {r : Nat} {g : Tg} {m m1 : Xm} {st : Xs}
theorem XF.clean (h:XF g m W W1)(hl:g.lo≤r) {s:Xv} (ht:XdB W1 r s)(hb:But r W1 W2):XF g m W W2 :=
 ⟨h.below.trans (hb.below hl),fun q c' T f' hq t1 t2 t3 t4 t5 t6 t7 n1 n2 n3 n4=>by
  have k:=h.keep q c' T f' hq t1 t2 t3 t4 t5 t6 t7 n1 n2 n3 n4
  unfold XdB at ht
  rw [hb.blk q (fun e=>by rw [e,ht] at k;exact t1 (cells_ty k).symm),k]⟩
def FP (W:World)(r:Nat)(g:Tg)(m:Xm)(o:Sum Int Xs)(e:Ending)(w':World):Prop :=
 XF g m W w'∧match o with
 | .inl E=>e=.returned (.tuple #[.slice none 0 0,.int .i64 E])∧TlE w' g.t E∧XdB w' r (clX g.t)
 | .inr x=>∃ m' v,e=.returned (.tuple #[v,.int .i64 0])∧XM w' r g m' {x with t:={x.t with told:=[]} }∧OMx W m m'∧m'.t.told=.slice none 0 0∧w'.ownsRow (g.t+1) 76 7 v x.t.told.length (ecs x.t.told)∧OB W m.t.told v
set_option maxRecDepth 100000 in
theorem xfeed_x {l:List UInt8} (h:XM W r g m st)(ge:Ge (bdX st l=true) W)(hw:Wy st) {v:Value} (hs:SB W g.lo m v l) :
  Calls Tryz.prog 18 #[.pointer (some ⟨r,0,none⟩),v] W fun e w'=>FP W r g m (feedX st l) e w':=by
 have hmf:∀ (fn:Fn)(first cap:Array Value) (w:World),(Instr.makeFunc fn first cap).run Tryz.prog w=.ok (.func fn first cap) w:=fun _ _ _ _=>rfl
 have C:=hide (fun w (hb:Below W.heap.size W w)=>tfeed_x (h.then hb) (ge.low hb (Nat.le_trans h.t.gk.low h.low)) hw (hs.move (XF.of hb h.low) (OMx.refl _ _)))
 have H:=hide h
 have c0:W.cell? ⟨r,0,none⟩=some (.pointer (some ⟨g.t,0,none⟩)):=(h.rd.cell 0).trans rfl
 obtain ⟨va,vc,hv⟩:=hs.shape
 have hlo:=hide h.lo
 clear h ge hw hs
 subst hv
 simp only [tkV] at C
 have hEr:=hide (fun E (q:feedX st l=.inl E)=>feedX_e q)
 obtain ⟨o,ho⟩:∃ o,feedX st l=o:=⟨_,rfl⟩
 rw [ho] at C hEr ⊢
 clear ho
 cases o with
 | inl E =>
  have hE:=hEr.out E rfl
  have e0:(E==0)=false:=by rcases hE with rfl|rfl <;> rfl
  have e1:(E != 0)=true:=by rcases hE with rfl|rfl <;> rfl
  clear hEr hE
  go_enter Tryz.func18, Tryz.ntmps18
  go_wp2_with (go_at_call 30;refine (C.out _ (by repeat (first|exact Below.refl _ _|refine Below.drew ?_|refine below_al ?_))).mono ?_;rintro e w1 ⟨h1,rfl,h2,s,h3,h4⟩;have F1:Hid (XF g m W w1):=(XF.of (by repeat (first|exact Below.refl _ _|refine Below.drew ?_|refine below_al ?_)) H.out.low).trans (OMx.refl _ _) h1;have T1:=hide h2;have R1:=hide h3;have k0:w1.cell? ⟨r,0,none⟩=some (.pointer (some ⟨g.t,0,none⟩)):=(h3.cell 0).trans (by rw [←h4];rfl);have cf:=fun j=>h3.frz j;have k1:=(h3.cell 1).trans rfl;have k2:=(h3.cell 2).trans rfl;have k3:=(h3.cell 3).trans rfl;have k4:=(h3.cell 4).trans rfl;have k5:=(h3.cell 5).trans rfl;have k6:=(h3.cell 6).trans rfl;simp only [Xv.cells,List.getElem?_toArray,List.getElem?_cons_zero,List.getElem?_cons_succ] at k1 k2 k3 k4 k5 k6;obtain ⟨D,hD⟩:∃ D,clean7 w1 r g.t=D:=⟨_,rfl⟩;have hD':=hide hD;simp only [clean7] at hD;clear h1 h2 h3)
  try rw [hD]
  have KK:Hid (FP W r g m (.inl E) (.returned (.tuple #[.slice none 0 0,.int .i64 E])) D):=by
   have DB:=clean_but w1 r g.t
   have DR:=clean_rd (t:=g.t) R1.out
   rw [hD'.out] at DB DR
   have FD:=F1.out.clean hlo.out R1.out DB
   have hz:g.lo≤D.heap.size:=by rw [DB.size];have:=R1.out.lt;have:=hlo.out;omega
   have hT:=T1.out
   unfold TlE at hT
   refine ⟨FD,rfl,(DB.blk g.t (fun e=>?_)).trans hT,DR⟩
   have hx:=R1.out
   unfold XdB at hx
   rw [←e,hT] at hx
   exact absurd (cells_ty hx) (by decide)
  exact bodyPost_ret (v:=.tuple #[.slice none 0 0,.int .i64 E]) (by simp [results,Tryz.results18,go_sem]) rfl KK.out
 | inr x =>
  go_enter Tryz.func18, Tryz.ntmps18
  go_wp2_with (go_at_call 30;refine (C.out _ (by repeat (first|exact Below.refl _ _|refine Below.drew ?_|refine below_al ?_))).mono ?_;rintro e w1 ⟨h1,m',v,rfl,a1,a2,a3,a4,a5⟩;have K:Hid (FP W r g m (.inr x) (.returned (.tuple #[v,.int .i64 0])) w1):=⟨(XF.of (by repeat (first|exact Below.refl _ _|refine Below.drew ?_|refine below_al ?_)) H.out.low).trans (OMx.refl _ _) h1,m',v,rfl,a1,(OMx.refl _ _).trans a2 (show Below W.heap.size W _ from (by repeat (first|exact Below.refl _ _|refine Below.drew ?_|refine below_al ?_))).size,a3,a4,(OB.refl _ _).trans a5 (show Below W.heap.size W _ from (by repeat (first|exact Below.refl _ _|refine Below.drew ?_|refine below_al ?_))).size⟩;clear h1 a1 a2 a3 a4 a5)
  exact bodyPost_ret (v:=.tuple #[v,.int .i64 0]) (by simp [results,Tryz.results18,go_sem]) rfl K.out
end
section
variable {W W1 W2 : World} {r : Nat} {g : Tg} {m m1 : Xm} {st : Xs}
def XE (W:World)(r:Nat)(g:Tg)(m:Xm)(o:Sum Int Xs)(e:Ending)(w':World):Prop :=
 XF g m W w'∧XdB w' r (clX g.t)∧match o with
 | .inl E=>e=.returned (.tuple #[.slice none 0 0,.int .i64 E])∧TlE w' g.t E
 | .inr x=>∃ v,e=.returned (.tuple #[v,.int .i64 0])∧TlE w' g.t 100∧w'.ownsRow (g.t+1) 76 7 v x.t.told.length (ecs x.t.told)∧OB W m.t.told v
theorem XE.mk0 {o:Sum Int Xs} {e:Ending} {w1 D:World} (hlo:g.lo≤r)(h:ET W r g m o e w1)(tr:g.t+1≤r+1)(hD:clean7 w1 r g.t=D):XE W r g m o e D:=by
 obtain ⟨h1,⟨s,h2,h3⟩,h4⟩:=h
 have DB:=clean_but w1 r g.t
 have DR:=clean_rd (t:=g.t) h2
 rw [hD] at DB DR
 have hx:=h2
 unfold XdB at hx
 have tl:∀ E,TlE w1 g.t E→TlE D g.t E:=fun E hT=>by
  unfold TlE at hT ⊢
  rw [DB.blk g.t (fun e=>?_),hT]
  rw [←e,hT] at hx
  exact absurd (cells_ty hx) (by decide)
 refine ⟨h1.clean hlo h2 DB,DR,?_⟩
 cases o with
 | inl E=>exact ⟨h4.1,tl E h4.2⟩
 | inr x =>
  obtain ⟨v,e1,e2,e3,e4⟩:=h4
  refine ⟨v,e1,tl 100 e2,own_of e3 fun q hq hl=>DB.blk q (fun e=>?_),e4⟩
  obtain ⟨c,f,hc⟩:=own_blk e3 hq
  rw [e,hx] at hc
  exact absurd (cells_ty hc) (by decide)
set_option maxRecDepth 100000 in
theorem xend_x (h:XM W r g m st)(tr:g.t+1≤r+1) :
  Calls Tryz.prog 19 #[.pointer (some ⟨r,0,none⟩)] W fun e w'=>XE W r g m (finX st) e w':=by
 have hmf:∀ (fn:Fn)(first cap:Array Value) (w:World),(Instr.makeFunc fn first cap).run Tryz.prog w=.ok (.func fn first cap) w:=fun _ _ _ _=>rfl
 have C:=hide (fun w (hb:Below W.heap.size W w)=>(tend_x (h.then hb)).mono fun e w' hp=>(show ET W r g m (finX st) e w'∧∃ a n c z,e=.returned (.tuple #[.slice a n c,.int .i64 z]) from by
  obtain ⟨h1,h2,h3⟩:=hp
  cases ho:finX st with
  | inl E =>
   rw [ho] at h3
   exact ⟨⟨(XF.of hb h.low).trans (OMx.refl _ _) h1,h2,h3⟩,_,_,_,_,h3.1⟩
  | inr x =>
   rw [ho] at h3
   obtain ⟨v,e1,e2,e3,e4⟩:=h3
   obtain ⟨va,vn,vc,hv⟩:∃ va vn vc,v=.slice va vn vc:=by
    rcases e3.2 with ⟨q,_⟩|⟨_,_,_,q,_⟩
    ·exact ⟨_,_,_,q⟩
    ·exact ⟨_,_,_,q⟩
   exact ⟨⟨(XF.of hb h.low).trans (OMx.refl _ _) h1,h2,v,e1,e2,e3,(OB.refl _ _).trans e4 hb.size⟩,va,vn,vc,0,by rw [e1,hv]⟩))
 have c0:W.cell? ⟨r,0,none⟩=some (.pointer (some ⟨g.t,0,none⟩)):=(h.rd.cell 0).trans rfl
 have hlo:=hide h.lo
 have tr':=hide tr
 clear h tr
 simp only [fnV] at C
 generalize finX st=o at C ⊢
 go_enter Tryz.func19, Tryz.ntmps19
 go_wp2_with (go_at_call 32;refine (C.out _ (by repeat (first|exact Below.refl _ _|refine Below.drew ?_|refine below_al ?_))).mono ?_;rintro e w1 ⟨hp,a,n,c,z,rfl⟩;obtain ⟨D,hD⟩:∃ D,clean7 w1 r g.t=D:=⟨_,rfl⟩;have KK:=hide (XE.mk0 hlo.out hp tr'.out hD);obtain ⟨_,⟨s,h3,h4⟩,_⟩:=hp;have k0:w1.cell? ⟨r,0,none⟩=some (.pointer (some ⟨g.t,0,none⟩)):=(h3.cell 0).trans (by rw [←h4];rfl);have cf:=fun j=>h3.frz j;have k1:=(h3.cell 1).trans rfl;have k2:=(h3.cell 2).trans rfl;have k3:=(h3.cell 3).trans rfl;have k4:=(h3.cell 4).trans rfl;have k5:=(h3.cell 5).trans rfl;have k6:=(h3.cell 6).trans rfl;simp only [Xv.cells,List.getElem?_toArray,List.getElem?_cons_zero,List.getElem?_cons_succ] at k1 k2 k3 k4 k5 k6;simp only [clean7] at hD;clear h3)
 try rw [hD]
 exact bodyPost_ret (v:=.tuple #[.slice a n c,.int .i64 z]) (by simp [results,Tryz.results19,go_sem]) rfl KK.out
end
end Go.Proofs.YthodiandebahdaaGreatDoor
