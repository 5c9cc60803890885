/- Merged by program: EeTake, EfTake, JoTally. -/
import Derived.Test.YthodiandebahdaaGreatDoorZq18
namespace Go.Proofs.YthodiandebahdaaGreatDoor
open Go.RowKit
set_option linter.unusedSimpArgs false
set_option linter.unusedVariables false
set_option maxHeartbeats 8000000
abbrev Pa:=Int×Bool×List ByteArray
def Pt.abs (p:Pt):Pa:=(p.kind,p.waits,p.names)
def valE:List Pa→Bool→Option (List Pa×Bool)
 | [],bg=>if bg then none else some ([],true)
 | (k,w,ns) :: r,bg=>if w=true∨k=7 then some ((k,false,ns) :: r,bg) else none
def newE (k:Int):List Pa:=if k=7 then [(7,false,[])] else if k=8 then [(8,false,[])] else if k=9 then [(9,true,[])] else []
def inN (ns:List ByteArray)(s:ByteArray):Bool:=ns.any fun t=>decide (t.data=s.data)
theorem inN_iff (ns:List ByteArray)(s:ByteArray):inN ns s=true↔s∈ns:=by
 unfold inN
 rw [List.any_eq_true]
 constructor
 ·rintro ⟨t,ht,he⟩
  have:t=s:=by cases t;cases s;simp at he;rw [he]
  rw [←this];exact ht
 ·intro h;exact ⟨s,h,by simp⟩
def stepE (st:List Pa)(bg:Bool)(h:Hd):Option (List Pa×Bool) :=
 if h.kind=10 then match st with
  | []=>none
  | (k,w,ns) :: r=>if k=8∧w=false∧inN ns h.text=false then some ((8,true,ns++[h.text]) :: r,bg) else none
 else if h.kind=11 then match st with
  | []=>none
  | (_,w,_) :: r=>if w=false then some (r,bg) else none
 else (valE st bg).map fun x=>(newE h.kind++x.1,x.2)
def CkA (W:World)(i B n:Nat)(st:List Pa)(bg:Bool):Prop:=∃ v ps,Ck W i B v ps bg false∧(ps.map Pt.abs).reverse=st∧ps.length≤n∧∀ p∈ps,p.names.length≤n
theorem CkA.then {W W1:World} {i B n:Nat} {st:List Pa} {bg:Bool} (h:CkA W i B n st bg)(hb:Below W.heap.size W W1):CkA W1 i B n st bg:=by
 obtain ⟨v,ps,h1,h2⟩:=h
 exact ⟨v,ps,h1.then hb,h2⟩
theorem split_ps {ps:List Pt} {a:Pa} {r:List Pa} (h:(ps.map Pt.abs).reverse=a :: r):∃ qs p,ps=qs++[p]∧p.abs=a∧(qs.map Pt.abs).reverse=r:=by
 rcases List.eq_nil_or_concat ps with rfl|⟨qs,p,rfl⟩
 ·simp at h
 ·rw [List.concat_eq_append] at h ⊢
  rw [List.map_append,List.reverse_append] at h
  simp at h
  exact ⟨qs,p,rfl,h.1,by simpa using h.2⟩
theorem nil_ps {ps:List Pt} (h:(ps.map Pt.abs).reverse=[]):ps=[]:=by simpa using h
section
variable {W : World} {i B n : Nat} {st : List Pa} {bg : Bool}
theorem takeName_any (s:ByteArray)(c:CkA W i B n st bg)(hn:n≤200000)(hs:s.size≤281474976710656)(o:Option (List Pa×Bool))(ho:stepE st bg ⟨10,false,false,⟨#[]⟩,0,0,s,[]⟩=o) :
  Calls Tryz.prog 93 #[.pointer (some ⟨i,0,none⟩),.string s] W fun r w'=>r=.returned (.bool o.isSome)∧BK i W w'∧(∃ v2 b2,KB w' i v2 b2 false)∧∀ x,o=some x→CkA w' i B (n+1) x.1 x.2:=by
 obtain ⟨v,ps,c,hps,hl,hnm⟩:=c
 have hlt:=c.kb.lt
 cases st with
 | nil =>
  obtain rfl:=nil_ps hps
  have ho2:o=none:=by rw [←ho];rfl
  subst ho2
  refine (takeName_none s c).mono ?_
  rintro r w' ⟨rfl,m,rfl⟩
  exact ⟨rfl,BK.dn _ _ _,⟨v,bg,c.kb.same rfl⟩,fun x h=>by cases h⟩
 | cons a r =>
  obtain ⟨qs,p,rfl,hp,hr⟩:=split_ps hps
  obtain ⟨k,w,ns⟩:=a
  simp only [Pt.abs,Prod.mk.injEq] at hp
  obtain ⟨rfl,rfl,rfl⟩:=hp
  have hst:stepE ((p.kind,p.waits,p.names) :: r) bg ⟨10,false,false,⟨#[]⟩,0,0,s,[]⟩=if p.kind=8∧p.waits=false∧inN p.names s=false then some ((8,true,p.names++[s]) :: r,bg) else none:=rfl
  rw [hst] at ho
  by_cases h1:p.kind≠8∨p.waits=true
  ·have ho2:o=none:=by
    rw [←ho,if_neg]
    rintro ⟨a1,a2,_⟩
    rcases h1 with h|h
    ·exact h a1
    ·rw [a2] at h;cases h
   subst ho2
   refine (takeName_no s c h1).mono ?_
   rintro r w' ⟨rfl,m,rfl⟩
   exact ⟨rfl,BK.dn _ _ _,⟨v,bg,c.kb.same rfl⟩,fun x h=>by cases h⟩
  ·have h8:p.kind=8:=by
    by_cases h:p.kind=8
    ·exact h
    ·exact absurd (Or.inl h) h1
   have hw:p.waits=false:=by
    cases h:p.waits
    ·rfl
    ·exact absurd (Or.inr h) h1
   by_cases hm:s∈p.names
   ·have ho2:o=none:=by
     rw [←ho,if_neg]
     rintro ⟨_,_,a3⟩
     rw [(inN_iff _ _).2 hm] at a3
     cases a3
    subst ho2
    refine (takeName_twice s c h8 hw hm hs).mono ?_
    rintro r w' ⟨rfl,hb⟩
    exact ⟨rfl,BK.of hb (Nat.le_of_lt hlt),⟨v,bg,c.kb.same (hb.block i hlt)⟩,fun x h=>by cases h⟩
   ·have ho2:o=some ((8,true,p.names++[s]) :: r,bg):=by rw [←ho,if_pos ⟨h8,hw,by rw [Bool.eq_false_iff];exact fun h=>hm ((inN_iff _ _).1 h)⟩]
    subst ho2
    have hpn:=hnm p (by simp)
    refine (takeName_some s c h8 hw hm hs (by omega)).mono ?_
    rintro r' w' ⟨rfl,hc,hb⟩
    refine ⟨rfl,hb,⟨v,bg,hc.kb⟩,fun x h=>?_⟩
    cases h
    refine ⟨v,_,hc,?_,by simp at hl ⊢;omega,?_⟩
    ·rw [List.map_append,List.reverse_append]
     simp [Pt.abs,h8]
     simpa using hr
    ·intro q hq
     rcases List.mem_append.1 hq with h|h
     ·have:=hnm q (List.mem_append.2 (Or.inl h));omega
     ·have hq2:q={p with waits:=true,names:=p.names++[s]}:=by simpa using h
      subst hq2
      simp;omega
theorem takeEnd_any (c:CkA W i B n st bg)(o:Option (List Pa×Bool))(ho:stepE st bg ⟨11,false,false,⟨#[]⟩,0,0,⟨#[]⟩,[]⟩=o) :
  Calls Tryz.prog 94 #[.pointer (some ⟨i,0,none⟩)] W fun r w'=>r=.returned (.bool o.isSome)∧BK i W w'∧(∃ v2 b2,KB w' i v2 b2 false)∧∀ x,o=some x→CkA w' i B (n+1) x.1 x.2:=by
 obtain ⟨v,ps,c,hps,hl,hnm⟩:=c
 have hlt:=c.kb.lt
 cases st with
 | nil =>
  obtain rfl:=nil_ps hps
  have ho2:o=none:=by rw [←ho];rfl
  subst ho2
  refine (takeEnd_none c).mono ?_
  rintro r w' ⟨rfl,rfl⟩
  exact ⟨rfl,BK.refl _ _,⟨v,bg,c.kb⟩,fun x h=>by cases h⟩
 | cons a r =>
  obtain ⟨qs,p,rfl,hp,hr⟩:=split_ps hps
  obtain ⟨k,w,ns⟩:=a
  simp only [Pt.abs,Prod.mk.injEq] at hp
  obtain ⟨rfl,rfl,rfl⟩:=hp
  have hst:stepE ((p.kind,p.waits,p.names) :: r) bg ⟨11,false,false,⟨#[]⟩,0,0,⟨#[]⟩,[]⟩=if p.waits=false then some (r,bg) else none:=rfl
  rw [hst] at ho
  cases hw:p.waits
  ·have ho2:o=some (r,bg):=by rw [←ho,if_pos hw]
   subst ho2
   refine (takeEnd_some c hw).mono ?_
   rintro r' w' ⟨rfl,v',hc,hb⟩
   refine ⟨rfl,hb,⟨v',bg,hc.kb⟩,fun x h=>?_⟩
   cases h
   exact ⟨v',qs,hc,hr,by simp at hl;omega,fun q hq=>by have:=hnm q (List.mem_append.2 (Or.inl hq));omega⟩
  ·have ho2:o=none:=by rw [←ho,hw];rfl
   subst ho2
   refine (takeEnd_wait c hw).mono ?_
   rintro r w' ⟨rfl,m,rfl⟩
   exact ⟨rfl,BK.dn _ _ _,⟨v,bg,c.kb.same rfl⟩,fun x h=>by cases h⟩
theorem takeValue_any {W0:World} (c0:CkA W0 i B n st bg)(hb0:Below W0.heap.size W0 W)(o:Option (List Pa×Bool))(ho:valE st bg=o) :
  Calls Tryz.prog 95 #[.pointer (some ⟨i,0,none⟩)] W fun r w'=>r=.returned (.bool o.isSome)∧BK i W w'∧(∃ v2 b2,KB w' i v2 b2 false)∧(∀ x,o=some x→CkA w' i B n x.1 x.2)∧∀ k,W0.heap.size≤k→w'.heap[k]?=W.heap[k]?:=by
 obtain ⟨v,ps,c0,hps,hl,hnm⟩:=c0
 have c:=c0.then hb0
 have hi0:=c0.kb.lt
 have hv0:∀ k,W0.heap.size≤k→v.ownBlock≠some k:=fun k hk e=>by have:=(World.ownsRow.lt c0.row k e).2;omega
 cases st with
 | nil =>
  obtain rfl:=nil_ps hps
  refine (takeValue_none c).mono ?_
  rintro r w' ⟨rfl,hc,hb',hfr⟩
  have hb:BK i W w':=⟨hb',fun q cc T f e h1 h2=>by
   rw [hfr q (fun ei=>by rcases (ei ▸ c.kb.ty) cc T f e with r|r;exact h1 r;exact h2 r)]
   exact e⟩
  cases bg
  ·have ho2:o=some ([],true):=by rw [←ho];rfl
   subst ho2
   exact ⟨rfl,hb,⟨_,_,hc.kb⟩,(fun x h=>by cases h;exact ⟨v,[],hc,rfl,Nat.zero_le _,fun p hp=>by simp at hp⟩),fun k hk=>hfr k (by omega)⟩
  ·have ho2:o=none:=by rw [←ho];rfl
   subst ho2
   exact ⟨rfl,hb,⟨_,_,hc.kb⟩,(fun x h=>by cases h),fun k hk=>hfr k (by omega)⟩
 | cons a r =>
  obtain ⟨qs,p,rfl,hp,hr⟩:=split_ps hps
  obtain ⟨k,w,ns⟩:=a
  simp only [Pt.abs,Prod.mk.injEq] at hp
  obtain ⟨rfl,rfl,rfl⟩:=hp
  have hst:valE ((p.kind,p.waits,p.names) :: r) bg=if p.waits=true∨p.kind=7 then some ((p.kind,false,p.names) :: r,bg) else none:=rfl
  rw [hst] at ho
  refine (takeValue_some c).mono ?_
  rintro r' w' ⟨rfl,hc,hb',hfr⟩
  have hb:BK i W w':=⟨hb',fun q cc T f e h1 h2=>by
   rw [hfr q (fun ei=>by rcases (ei ▸ c.kb.ty) cc T f e with r|r;exact h1 r;exact h2 r) (fun eo=>by rcases own_ty c.row q eo cc T f e with r|r;exact h1 r;exact h2 r)]
   exact e⟩
  have hcv:CkA w' i B n ((p.kind,false,p.names) :: r) bg:=by
   refine ⟨v,_,hc,?_,by simpa using hl,?_⟩
   ·rw [List.map_append,List.reverse_append]
    simp [Pt.abs]
    simpa using hr
   ·intro q hq
    rcases List.mem_append.1 hq with h|h
    ·exact hnm q (List.mem_append.2 (Or.inl h))
    ·have hq2:q={p with waits:=false}:=by simpa using h
     subst hq2
     exact hnm p (by simp)
  by_cases hw:p.waits=true∨p.kind=7
  ·have ho2:o=some ((p.kind,false,p.names) :: r,bg):=by rw [←ho,if_pos hw]
   subst ho2
   refine ⟨?_,hb,⟨_,_,hc.kb⟩,(fun x h=>by cases h;exact hcv),fun k hk=>hfr k (by omega) (hv0 k hk)⟩
   rcases hw with h|h <;> simp [h]
  ·have ho2:o=none:=by rw [←ho,if_neg hw]
   subst ho2
   refine ⟨?_,hb,⟨_,_,hc.kb⟩,(fun x h=>by cases h),fun k hk=>hfr k (by omega) (hv0 k hk)⟩
   have h1:p.waits=false:=by cases h:p.waits;rfl;exact absurd (Or.inl h) hw
   have h2:¬ p.kind=7:=fun h=>hw (Or.inr h)
   simp [h1,h2]
end
theorem infoP:(Tryz.prog.info? 123).map (fun i=>(i.zero,i.size,i.bytes))=some (some (.agg #[.int .i64 0,.bool false,.map none]),3,24):=by kernel_rfl
section
variable {w : World} {ops : Array Oper} {rest : List Oper} {o : Oper} {a : Act} {Q : Exit → Act → World → Prop}
theorem app_part (hgd:o.guard=none)(s x:Operand)(ho:o.op=.call {callee:=.builtin .append,args:=#[s,x],argTypes:=#[99,99]})
  (B:Nat)(v:Value)(n:Nat)(xs:List Value)(hs:a.eval s=v)(hown:w.ownsRow B 123 3 v n xs)(g c:Nat)(hx:a.eval x=.slice (some ⟨g,0,none⟩) 1 c)(p:Pt)
  (hnews:∀ j u,(pcs p)[j]?=some u→w.cell? ⟨g,j,none⟩=some u)(hm:n≤200000)(hB:B≤w.heap.size)
  (h:∀ av c' w',Hid (w'.ownsRow B 123 3 (.slice av (n+1) c') (n+1) (xs++pcs p))→Hid (w.grownBy w' v.ownBlock)→wpList Tryz.prog ops Q rest (a.put o.dst (.slice av (n+1) c')) w'):wpList Tryz.prog ops Q (o :: rest) a w:=by
 obtain ⟨i0,hi,hz0,hz1,hz2⟩:=info_parts infoP
 refine wpList_append_own_at w hgd s x 99 ho B 123 i0 _ 3 24 Tryz.underlying99 hi hz0 hz1 hz2 rfl (by decide) v n xs hs hown ⟨g,0,none⟩ 1 c (pcs p) hx rfl ?_ ?_ ?_ ?_ hB ?_
 ·intro j u hj
  rw [show (⟨g,0,none⟩:Addr).add j=⟨g,j,none⟩ by unfold Addr.add;split <;> simp_all]
  exact hnews j u hj
 ·intro u hu
  simp only [pcs,List.mem_cons,List.not_mem_nil,or_false] at hu
  rcases hu with rfl|rfl|rfl <;> rfl
 ·unfold maxLen;omega
 ·omega
 ·intro v' w' h1 h2 h3 h4
  rcases h1.2 with ⟨rfl,e⟩|⟨g',cap,cur,rfl,_⟩
  ·omega
  ·exact h _ _ w' h1 h2
end
theorem step_part {w:World} {ops:Array Oper} {o:Oper} {a:Act} {K:Act→World→Prop} {Q:Exit→Act→World→Prop} {E:Prop} (hgd:o.guard=none)(s x:Operand)(ho:o.op=.call {callee:=.builtin .append,args:=#[s,x],argTypes:=#[99,99]})
  (B:Nat)(v:Value)(n:Nat)(xs:List Value)(hs:a.eval s=v)(hown:w.ownsRow B 123 3 v n xs)(g c:Nat)(hx:a.eval x=.slice (some ⟨g,0,none⟩) 1 c)(p:Pt)
  (hnews:∀ j u,(pcs p)[j]?=some u→w.cell? ⟨g,j,none⟩=some u)(hm:n≤200000)(hB:B≤w.heap.size)
  (h:∀ av c' w',Hid (w'.ownsRow B 123 3 (.slice av (n+1) c') (n+1) (xs++pcs p))→Hid (w.grownBy w' v.ownBlock)→K (a.put o.dst (.slice av (n+1) c')) w') :
  if Region.wanted o (yielded ops a.tmps)=true then Oper.wp Tryz.prog o a w K Q else E:=by
 have hw:Region.wanted o (yielded ops a.tmps)=true:=by simp [Region.wanted,hgd]
 rw [if_pos hw]
 obtain ⟨i0,hi,hz0,hz1,hz2⟩:=info_parts infoP
 obtain ⟨v',w',hr,h1,h2,h3,h4⟩:=run_append_own_at (P:=Tryz.prog) w B 99 o.type 123 i0 _ 3 24 Tryz.underlying99 hi hz0 hz1 hz2 rfl (by decide) v n xs hown ⟨g,0,none⟩ 1 c (pcs p) rfl (by
  intro j u hj
  rw [show (⟨g,0,none⟩:Addr).add j=⟨g,j,none⟩ by unfold Addr.add;split <;> simp_all]
  exact hnews j u hj) (by
  intro u hu
  simp only [pcs,List.mem_cons,List.not_mem_nil,or_false] at hu
  rcases hu with rfl|rfl|rfl <;> rfl) (by unfold maxLen;omega) (by omega) hB
 unfold Oper.wp execOp
 simp only [ho,resolve,invoke,builtin,Sem.run_bind,Sem.run_pure,Result.andThen_ok,List.map_toArray,List.map_cons,List.map_nil,hs,hx,hr]
 rcases h1.2 with ⟨rfl,e⟩|⟨g',cap,cur,rfl,_⟩
 ·omega
 ·exact h _ _ w' h1 h2
theorem news3 (w W:World)(T:TypeId)(p:Pt)(hW:W.heap=(w.alloc (.cells #[.int .i64 p.kind,.bool p.waits,.map p.mb] T)).heap):∀ j u,(pcs p)[j]?=some u→W.cell? ⟨w.heap.size,j,none⟩=some u:=by
 intro j u hj
 have q:W.heap[w.heap.size]?=some (.cells #[.int .i64 p.kind,.bool p.waits,.map p.mb] T (0,0)):=by rw [hW];exact heap_alloc_new _ _
 unfold World.cell?
 rw [q]
 show (#[.int .i64 p.kind,.bool p.waits,.map p.mb]:Array Value)[j]?=some u
 rw [←hj,List.getElem?_toArray]
 rfl
theorem news3g (w W:World)(T:TypeId)(p:Pt)(g:Nat)(hg:g=w.heap.size)(hW:W.heap=(w.alloc (.cells #[.int .i64 p.kind,.bool p.waits,.map p.mb] T)).heap):∀ j u,(pcs p)[j]?=some u→W.cell? ⟨g,j,none⟩=some u:=by
 subst hg;exact news3 w W T p hW
section
variable {W : World} {i B n : Nat} {st : List Pa} {bg : Bool}
theorem Ck.push {W1:World} {v v':Value} {ps:List Pt} {p:Pt} {br:Bool} (c:Ck W i B v ps bg br)(hg:W.grownBy W1 v.ownBlock)(ho:W1.ownsRow B 123 3 v' (ps.length+1) (pxs ps++pcs p))(hp:PtOk W B p)(hd:∀ b,p.mb=some b→∀ q∈ps,q.mb≠some b)(hl:ps.length<300000) :
  Ck (W1.setCell ⟨i,0,none⟩ v') i B v' (ps++[p]) bg br:=by
 have hiB:=c.iB
 have hkl:=c.kb.lt
 have hvi:some i≠v.ownBlock:=fun e=>by have:=(World.ownsRow.lt c.row i e.symm).1;omega
 have hok:∀ q,PtOk W B q→PtOk (W1.setCell ⟨i,0,none⟩ v') B q:=fun q hq=>hq.of fun b e=>by
  rw [Below.heap_setCell _ _ _ _ (by have:=(hq.blt b e).1;show b≠i;omega),hg.block b (hq.blt b e).2 (fun e2=>hq.ne b e c.row e2.symm)]
 refine ⟨(c.kb.same (hg.block i hkl hvi)).set0 v',?_,?_,?_,hiB,by have:=Nat.le_trans c.hB hg.size;simpa using this,by simp;omega⟩
 ·rw [List.length_append,List.length_singleton,pxs_app,pxs_one]
  exact own_of ho fun k hk hlt=>Below.heap_setCell _ _ _ _ (by have:=(World.ownsRow.lt ho k hk).1;show k≠i;omega)
 ·intro q hq
  rcases List.mem_append.1 hq with h|h
  ·exact hok q (c.ok q h)
  ·have hq2:q=p:=by simpa using h
   subst hq2
   exact hok q hp
 ·rw [List.filterMap_append,List.nodup_append]
  refine ⟨c.dis,?_,?_⟩
  ·cases h:p.mb <;> simp [h]
  ·intro x hx y hy
   obtain ⟨q,hq,e⟩:=List.mem_filterMap.1 hx
   obtain ⟨q',hq',e'⟩:=List.mem_filterMap.1 hy
   have:q'=p:=by simpa using hq'
   subst this
   intro exy
   subst exy
   exact hd x e' q hq e
def TakeP (W:World)(i B n:Nat)(o:Option (List Pa×Bool))(r:Ending)(w':World):Prop:=r=.returned (.bool o.isSome)∧BK i W w'∧(∃ v2 b2,KB w' i v2 b2 false)∧∀ x,o=some x→CkA w' i B (n+1) x.1 x.2
theorem push_fin {Wb w5:World} {v v':Value} {ps1:List Pt} {p:Pt} {st1:List Pa} {bg1:Bool} (c:Ck Wb i B v ps1 bg1 false)(hps:(ps1.map Pt.abs).reverse=st1)(hl:ps1.length≤n)(hnm:∀ p∈ps1,p.names.length≤n)(hn:n≤200000)
  (hg:Wb.grownBy w5 v.ownBlock)(ho:w5.ownsRow B 123 3 v' (ps1.length+1) (pxs ps1++pcs p))(hp:PtOk Wb B p)(hd:∀ b,p.mb=some b→∀ q∈ps1,q.mb≠some b)(hpn:p.names=[])(hbw:BK i W Wb) :
  TakeP W i B n (some (p.abs :: st1,bg1)) (.returned (.bool true)) (w5.setCell ⟨i,0,none⟩ v'):=by
 have hc:=c.push hg ho hp hd (by omega)
 have hki:w5.heap[i]?=Wb.heap[i]?:=hg.block i c.kb.lt (fun e=>by have:=(World.ownsRow.lt c.row i e.symm).1;have:=c.iB;omega)
 refine ⟨rfl,(hbw.grown hg (by have:=c.kb.lt;omega) fun k hk=>⟨by have:=(World.ownsRow.lt c.row k hk).1;have:=c.iB;omega,own_ty c.row k hk⟩).set (p:=⟨i,0,none⟩) (Nat.le_refl _) (c.kb.ty.same hki) _,⟨_,_,hc.kb⟩,fun x hx=>?_⟩
 cases hx
 refine ⟨v',_,hc,?_,by simp;omega,?_⟩
 ·rw [List.map_append,List.reverse_append,hps]
  rfl
 ·intro q hq
  rcases List.mem_append.1 hq with h|h
  ·have:=hnm q h;omega
  ·have hq2:q=p:=by simpa using h
   subst hq2
   rw [hpn];simp
set_option maxRecDepth 100000 in
theorem take_10 (h:Hd)(hz:EvZ h)(hk:h.kind=10)(c:CkA W i B n st bg)(hi:i<W.heap.size)(hn:n≤200000):Calls Tryz.prog 65 #[.pointer (some ⟨i,0,none⟩),.agg (evs h)] W fun r w'=>TakeP W i B n (stepE st bg h) r w':=by
 have tn:=hide (fun o=>takeName_any h.text (c.then (W1:=W.alloc o) (below_al (Below.refl _ _))) hn hz.1 _ rfl)
 have hB0:Hid (∀ o,BK i W (W.alloc o)):=fun o=>BK.al (BK.refl i W) (Nat.le_of_lt hi)
 obtain ⟨kd,fl,ng,dg,ex,bt,tx,nm⟩:=h
 simp only at hk
 subst hk
 have he:stepE st bg ⟨10,fl,ng,dg,ex,bt,tx,nm⟩=stepE st bg ⟨10,false,false,⟨#[]⟩,0,0,tx,[]⟩:=rfl
 rw [he]
 obtain ⟨o,ho⟩:∃ o,stepE st bg ⟨10,false,false,⟨#[]⟩,0,0,tx,[]⟩=o:=⟨_,rfl⟩
 simp only at tn
 rw [ho] at tn ⊢
 clear c he ho
 unfold evs
 go_enter Tryz.func65, Tryz.ntmps65
 go_wp2_with (go_at_call 93;refine (tn.out _).mono ?_;rintro e w1 ⟨rfl,h1,h2,h3⟩;have R1:=hide h1;have R2:=hide h2;have R3:=hide h3;clear h1 h2 h3)
 go_ret
 exact ⟨rfl,(hB0.out _).trans R1.out,R2.out,R3.out⟩
set_option maxRecDepth 100000 in
theorem take_11 (h:Hd)(hk:h.kind=11)(c:CkA W i B n st bg)(hi:i<W.heap.size):Calls Tryz.prog 65 #[.pointer (some ⟨i,0,none⟩),.agg (evs h)] W fun r w'=>TakeP W i B n (stepE st bg h) r w':=by
 have tn:=hide (fun o=>takeEnd_any (c.then (W1:=W.alloc o) (below_al (Below.refl _ _))) _ rfl)
 have hB0:Hid (∀ o,BK i W (W.alloc o)):=fun o=>BK.al (BK.refl i W) (Nat.le_of_lt hi)
 obtain ⟨kd,fl,ng,dg,ex,bt,tx,nm⟩:=h
 simp only at hk
 subst hk
 have he:stepE st bg ⟨11,fl,ng,dg,ex,bt,tx,nm⟩=stepE st bg ⟨11,false,false,⟨#[]⟩,0,0,⟨#[]⟩,[]⟩:=rfl
 rw [he]
 obtain ⟨o,ho⟩:∃ o,stepE st bg ⟨11,false,false,⟨#[]⟩,0,0,⟨#[]⟩,[]⟩=o:=⟨_,rfl⟩
 rw [ho] at tn ⊢
 clear c he ho
 unfold evs
 go_enter Tryz.func65, Tryz.ntmps65
 go_wp2_with (go_at_call 94;refine (tn.out _).mono ?_;rintro e w1 ⟨rfl,h1,h2,h3⟩;have R1:=hide h1;have R2:=hide h2;have R3:=hide h3;clear h1 h2 h3)
 go_ret
 exact ⟨rfl,(hB0.out _).trans R1.out,R2.out,R3.out⟩
set_option maxRecDepth 100000 in
theorem take_v (h:Hd)(k10:h.kind≠10)(k11:h.kind≠11)(c:CkA W i B n st bg)(hi:i<W.heap.size)(hn:n≤200000):Calls Tryz.prog 65 #[.pointer (some ⟨i,0,none⟩),.agg (evs h)] W fun r w'=>TakeP W i B n (stepE st bg h) r w':=by
 have tv:=hide (fun o=>takeValue_any (W:=W.alloc o) c (below_al (Below.refl _ _)) _ rfl)
 have hB0:Hid (∀ o,BK i W (W.alloc o)):=fun o=>BK.al (BK.refl i W) (Nat.le_of_lt hi)
 have E0:=hide (EB.new W h)
 have hst:stepE st bg h=(valE st bg).map fun x=>(newE h.kind++x.1,x.2):=by unfold stepE;rw [if_neg k10,if_neg k11]
 rw [hst]
 obtain ⟨kd,fl,ng,dg,ex,bt,tx,nm⟩:=h
 simp only at k10 k11
 cases hv:valE st bg with
 | none =>
  rw [hv] at tv
  clear c hst
  unfold evs
  go_enter Tryz.func65, Tryz.ntmps65
  go_wp2_with (go_at_call 95;refine (tv.out _).mono ?_;rintro e w1 ⟨rfl,h1,h2,h3,h4⟩;have R1:=hide h1;have R2:=hide h2;clear h1 h2 h3 h4)
  go_ret
  exact ⟨rfl,(hB0.out _).trans R1.out,R2.out,fun x h=>by cases h⟩
 | some x =>
  rw [hv] at tv
  obtain ⟨st1,bg1⟩:=x
  clear c hst
  simp only [evs] at ⊢
  by_cases h7:kd=7
  ·subst h7
   go_enter Tryz.func65, Tryz.ntmps65
   go_wp2_with (go_at_call 95;refine (tv.out _).mono ?_;rintro e w1 ⟨rfl,h1,h2,h3,h4⟩;have R1:=hide h1;have R3:=hide (h3 _ rfl);have E1:=hide (E0.out.same (h4 _ (Nat.le_refl _)));clear h1 h2 h3 h4;obtain ⟨v1,ps1,c1,hps1,hl1,hnm1⟩:=R3.out;obtain ⟨d0,d1,d2,d3,d4,d5,d6⟩:=E1.out.cells;simp only at d0 d1 d2 d3 d4 d5 d6;obtain ⟨e0,e1,e2,g0,g1,g2⟩:=c1.kb.cells;have C1:=hide c1;have Hps1:=hide hps1;have Hnm1:=hide hnm1;clear c1 hps1 hnm1)
   have hB1:Hid (B≤w1.heap.size):=C1.out.hB
   have hi1:=C1.out.kb.lt
   obtain ⟨va,vc,rfl⟩:=C1.out.shape
   have e0A:=fun o=>(C1.out.then (W1:=w1.alloc o) (below_al (Below.refl _ _))).kb.cells.1
   have d0A:=fun o=>(E1.out.below (W1:=w1.alloc o) (below_al (Below.refl _ _))).cells.1
   simp only at d0A
   have hbW:Hid (BK i W w1):=(hB0.out _).trans R1.out
   go_region_law (refine step_part rfl (.tmp 28) (.tmp 32) rfl B _ ps1.length (pxs ps1) rfl (own_of C1.out.row fun k hk hlt=>(show Below w1.heap.size w1 _ by repeat (first|exact Below.refl _ _|refine Below.drew ?_|refine below_al ?_)).block k hlt) w1.heap.size 1 rfl ⟨7,false,[],none⟩ (news3 w1 _ _ ⟨7,false,[],none⟩ rfl) (by omega) (by have:=hB1.out;simp;omega) ?_;intro av5 c5 w5 ho5 hg5;have K5:KB w5 i (.slice va ps1.length vc) bg1 false:=((C1.out.then (by repeat (first|exact Below.refl _ _|refine Below.drew ?_|refine below_al ?_))).kb.same (hg5.out.block i (by simp;omega) (fun e=>by have:=(World.ownsRow.lt C1.out.row i e.symm).1;have:=C1.out.iB;omega)));obtain ⟨j0,j1,j2,l0,l1,l2⟩:=K5.cells;have F5:=hide (push_fin (W:=W) (C1.out.then (by repeat (first|exact Below.refl _ _|refine Below.drew ?_|refine below_al ?_))) Hps1.out hl1 Hnm1.out hn hg5.out ho5.out (p:=⟨7,false,[],none⟩) (Or.inr ⟨by decide,rfl,rfl⟩) (fun b hb=>by cases hb) rfl (hbW.out.trans (BK.of (show Below w1.heap.size w1 _ by repeat (first|exact Below.refl _ _|refine Below.drew ?_|refine below_al ?_)) (by omega)))))
   all_goals
    go_wp2
    go_ret
    first|exact F5.out|exact F5.out.drew
  by_cases h9:kd=9
  ·subst h9
   go_enter Tryz.func65, Tryz.ntmps65
   go_wp2_with (go_at_call 95;refine (tv.out _).mono ?_;rintro e w1 ⟨rfl,h1,h2,h3,h4⟩;have R1:=hide h1;have R3:=hide (h3 _ rfl);have E1:=hide (E0.out.same (h4 _ (Nat.le_refl _)));clear h1 h2 h3 h4;obtain ⟨v1,ps1,c1,hps1,hl1,hnm1⟩:=R3.out;obtain ⟨d0,d1,d2,d3,d4,d5,d6⟩:=E1.out.cells;simp only at d0 d1 d2 d3 d4 d5 d6;obtain ⟨e0,e1,e2,g0,g1,g2⟩:=c1.kb.cells;have C1:=hide c1;have Hps1:=hide hps1;have Hnm1:=hide hnm1;clear c1 hps1 hnm1)
   have hB1:Hid (B≤w1.heap.size):=C1.out.hB
   have hi1:=C1.out.kb.lt
   obtain ⟨va,vc,rfl⟩:=C1.out.shape
   have e0A:=fun o=>(C1.out.then (W1:=w1.alloc o) (below_al (Below.refl _ _))).kb.cells.1
   have d0A:=fun o=>(E1.out.below (W1:=w1.alloc o) (below_al (Below.refl _ _))).cells.1
   simp only at d0A
   have hbW:Hid (BK i W w1):=(hB0.out _).trans R1.out
   go_region_law (refine step_part rfl (.tmp 57) (.tmp 61) rfl B _ ps1.length (pxs ps1) rfl (own_of C1.out.row fun k hk hlt=>(show Below w1.heap.size w1 _ by repeat (first|exact Below.refl _ _|refine Below.drew ?_|refine below_al ?_)).block k hlt) w1.heap.size 1 rfl ⟨9,true,[],none⟩ (news3 w1 _ _ ⟨9,true,[],none⟩ rfl) (by omega) (by have:=hB1.out;simp;omega) ?_;intro av5 c5 w5 ho5 hg5;have K5:KB w5 i (.slice va ps1.length vc) bg1 false:=((C1.out.then (by repeat (first|exact Below.refl _ _|refine Below.drew ?_|refine below_al ?_))).kb.same (hg5.out.block i (by simp;omega) (fun e=>by have:=(World.ownsRow.lt C1.out.row i e.symm).1;have:=C1.out.iB;omega)));obtain ⟨j0,j1,j2,l0,l1,l2⟩:=K5.cells;have F5:=hide (push_fin (W:=W) (C1.out.then (by repeat (first|exact Below.refl _ _|refine Below.drew ?_|refine below_al ?_))) Hps1.out hl1 Hnm1.out hn hg5.out ho5.out (p:=⟨9,true,[],none⟩) (Or.inr ⟨by decide,rfl,rfl⟩) (fun b hb=>by cases hb) rfl (hbW.out.trans (BK.of (show Below w1.heap.size w1 _ by repeat (first|exact Below.refl _ _|refine Below.drew ?_|refine below_al ?_)) (by omega)))))
   all_goals
    go_wp2
    go_ret
    first|exact F5.out|exact F5.out.drew
  by_cases h8:kd=8
  ·subst h8
   go_enter Tryz.func65, Tryz.ntmps65
   go_wp2_with (go_at_call 95;refine (tv.out _).mono ?_;rintro e w1 ⟨rfl,h1,h2,h3,h4⟩;have R1:=hide h1;have R3:=hide (h3 _ rfl);have E1:=hide (E0.out.same (h4 _ (Nat.le_refl _)));clear h1 h2 h3 h4;obtain ⟨v1,ps1,c1,hps1,hl1,hnm1⟩:=R3.out;obtain ⟨d0,d1,d2,d3,d4,d5,d6⟩:=E1.out.cells;simp only at d0 d1 d2 d3 d4 d5 d6;obtain ⟨e0,e1,e2,g0,g1,g2⟩:=c1.kb.cells;have C1:=hide c1;have Hps1:=hide hps1;have Hnm1:=hide hnm1;clear c1 hps1 hnm1)
   have hB1:Hid (B≤w1.heap.size):=C1.out.hB
   have hi1:=C1.out.kb.lt
   obtain ⟨va,vc,rfl⟩:=C1.out.shape
   have hmm:=@run_makeMap Tryz.prog
   have e0A:=fun o=>(C1.out.then (W1:=w1.alloc o) (below_al (Below.refl _ _))).kb.cells.1
   have e0B:=fun o o'=>(C1.out.then (W1:=(w1.alloc o).alloc o') (below_al (below_al (Below.refl _ _)))).kb.cells.1
   have d0B:=fun o o'=>(E1.out.below (W1:=(w1.alloc o).alloc o') (below_al (below_al (Below.refl _ _)))).cells.1
   have hMap:Hid (∀ W2:World,W2.heap[w1.heap.size]?=some (.map #[] 0)→PtOk W2 B ⟨8,false,[],some w1.heap.size⟩):=fun W2 h=>Or.inl ⟨rfl,w1.heap.size,rfl,hB1.out,ownsMap_of (W:=w1.alloc (.map #[] 0)) (by show World.ownsMap _ _ _ _ _ 0 (Sm []);unfold Sm;rw [show ([]:List ByteArray).length=0 from rfl,Sn_zero];exact World.ownsMap_made _ _ _ _) (h.trans (heap_alloc_new _ _).symm)⟩
   have hDis:Hid (∀ b,(some w1.heap.size:Option Nat)=some b→∀ q∈ps1,q.mb≠some b):=fun b hb q hq e=>by cases hb;have:=((C1.out.ok q hq).blt _ e).2;omega
   have d0A:=fun o=>(E1.out.below (W1:=w1.alloc o) (below_al (Below.refl _ _))).cells.1
   simp only at d0A d0B
   have hbW:Hid (BK i W w1):=(hB0.out _).trans R1.out
   go_region_law (refine step_part rfl (.tmp 42) (.tmp 47) rfl B _ ps1.length (pxs ps1) rfl (own_of C1.out.row fun k hk hlt=>(show Below w1.heap.size w1 _ by repeat (first|exact Below.refl _ _|refine Below.drew ?_|refine below_al ?_)).block k hlt) (w1.heap.size+1) 1 rfl ⟨8,false,[],some w1.heap.size⟩ (news3g (w1.alloc (.map #[] 0)) _ 123 ⟨8,false,[],some w1.heap.size⟩ (w1.heap.size+1) (by simp) rfl) (by omega) (by have:=hB1.out;simp;omega) ?_;intro av5 c5 w5 ho5 hg5;have K5:KB w5 i (.slice va ps1.length vc) bg1 false:=((C1.out.then (by repeat (first|exact Below.refl _ _|refine Below.drew ?_|refine below_al ?_))).kb.same (hg5.out.block i (by simp;omega) (fun e=>by have:=(World.ownsRow.lt C1.out.row i e.symm).1;have:=C1.out.iB;omega)));obtain ⟨j0,j1,j2,l0,l1,l2⟩:=K5.cells;have F5:=hide (push_fin (W:=W) (C1.out.then (by repeat (first|exact Below.refl _ _|refine Below.drew ?_|refine below_al ?_))) Hps1.out hl1 Hnm1.out hn hg5.out ho5.out (p:=⟨8,false,[],some w1.heap.size⟩) (hMap.out _ (by show ((w1.alloc (.map #[] 0)).alloc _).heap[w1.heap.size]?=_;rw [Below.heap_alloc _ _ _ (by simp)];exact heap_alloc_new _ _)) hDis.out rfl (hbW.out.trans (BK.of (show Below w1.heap.size w1 _ by repeat (first|exact Below.refl _ _|refine Below.drew ?_|refine below_al ?_)) (by omega)))))
   all_goals
    go_wp2
    go_ret
    first|exact F5.out|exact F5.out.drew
  ·go_enter Tryz.func65, Tryz.ntmps65
   go_wp2_with (go_at_call 95;refine (tv.out _).mono ?_;rintro e w1 ⟨rfl,h1,h2,h3,h4⟩;have R1:=hide h1;have R3:=hide (h3 _ rfl);have E1:=hide (E0.out.same (h4 _ (Nat.le_refl _)));clear h1 h2 h3 h4;obtain ⟨v1,ps1,c1,hps1,hl1,hnm1⟩:=R3.out;obtain ⟨d0,d1,d2,d3,d4,d5,d6⟩:=E1.out.cells;simp only at d0 d1 d2 d3 d4 d5 d6;obtain ⟨e0,e1,e2,g0,g1,g2⟩:=c1.kb.cells;have C1:=hide c1;have Hps1:=hide hps1;have Hnm1:=hide hnm1;clear c1 hps1 hnm1)
   go_ret
   refine ⟨rfl,(hB0.out _).trans R1.out,⟨_,_,C1.out.kb⟩,fun x hx=>?_⟩
   cases hx
   have hnn:newE kd=[]:=by unfold newE;rw [if_neg h7,if_neg h8,if_neg h9]
   show CkA _ _ _ _ (newE kd++st1) bg1
   rw [hnn]
   exact ⟨v1,ps1,C1.out,Hps1.out,by omega,fun q hq=>by have:=Hnm1.out q hq;omega⟩
end
structure Tp where
 kind:Int
 items:Nat
def tcs (p:Tp):List Value:=[.int .i64 p.kind,.int .i64 p.items]
def txs (ps:List Tp):List Value:=ps.flatMap tcs
theorem txs_length (ps:List Tp):(txs ps).length=ps.length * 2:=by
 induction ps with
 | nil=>rfl
 | cons a l ih=>simp only [txs,List.flatMap_cons,List.length_append,List.length_cons] at *;rw [ih];simp [tcs];omega
theorem txs_app (a b:List Tp):txs (a++b)=txs a++txs b:=by simp [txs]
theorem txs_one (p:Tp):txs [p]=tcs p:=by simp [txs]
theorem txs_at (qs:List Tp)(p:Tp)(r:Nat):(txs (qs++[p]))[qs.length * 2+r]?=(tcs p)[r]?:=by
 rw [txs_app,txs_one,List.getElem?_append_right (by rw [txs_length];omega),txs_length,Nat.add_sub_cancel_left]
theorem txs_set (qs:List Tp)(p:Tp)(r:Nat)(u:Value):(txs (qs++[p])).set (qs.length * 2+r) u=txs qs++(tcs p).set r u:=by
 rw [txs_app,txs_one,List.set_append_right _ _ (by rw [txs_length];omega),txs_length,Nat.add_sub_cancel_left]
def TyB (W:World)(t:Nat)(z:Nat)(v:Value):Prop:=W.heap[t]?=some (.cells #[.int .i64 z,v] 115 (0,0))
structure TyA (W:World)(t B:Nat)(v:Value)(z:Nat)(ps:List Tp):Prop where
 tb:TyB W t z v
 row:W.ownsRow B 211 2 v ps.length (txs ps)
 tB:t<B
 hB:B≤W.heap.size
 len:ps.length≤16
 siz:z≤4096
 its:∀ p∈ps,p.items≤256
section
variable {W W1 : World} {t B z : Nat} {v : Value} {ps : List Tp}
theorem TyB.cells (q:TyB W t z v):W.cell? ⟨t,0,none⟩=some (.int .i64 z)∧W.cell? ⟨t,1,none⟩=some v∧W.frozen? ⟨t,0,none⟩=false∧W.frozen? ⟨t,1,none⟩=false:=by
 unfold TyB at q
 simp [World.cell?,World.frozen?,q]
theorem TyB.lt (q:TyB W t z v):t<W.heap.size:=by
 by_cases h:t<W.heap.size
 ·exact h
 ·unfold TyB at q
  rw [Array.getElem?_eq_none (by omega)] at q
  cases q
theorem TyB.same (q:TyB W t z v)(h:W1.heap[t]?=W.heap[t]?):TyB W1 t z v:=by unfold TyB;rw [h];exact q
theorem TyB.set0 (q:TyB W t z v)(u:Nat):TyB (W.setCell ⟨t,0,none⟩ (.int .i64 u)) t u v:=by
 unfold TyB at q ⊢
 rw [setCell_eq_setRow W t 0 _ _ (0,0) _ q,setRow_heap W t _ _ _ (0,0) q]
 rfl
theorem TyB.set1 (q:TyB W t z v)(u:Value):TyB (W.setCell ⟨t,1,none⟩ u) t z u:=by
 unfold TyB at q ⊢
 rw [setCell_eq_setRow W t 1 _ _ (0,0) _ q,setRow_heap W t _ _ _ (0,0) q]
 rfl
theorem TyA.shape (c:TyA W t B v z ps):∃ a cp,v=.slice a ps.length cp:=by
 rcases c.row.2 with ⟨rfl,e⟩|⟨g,cap,cur,rfl,_⟩
 ·exact ⟨none,0,by rw [e]⟩
 ·exact ⟨_,_,rfl⟩
theorem TyA.then (h:TyA W t B v z ps)(hb:Below W.heap.size W W1):TyA W1 t B v z ps :=
 {h with tb:=h.tb.same (hb.block t h.tb.lt),row:=own_of h.row fun k _ hk=>hb.block k hk,hB:=Nat.le_trans h.hB hb.size}
theorem TyA.last {qs:List Tp} {p:Tp} (c:TyA W t B v z (qs++[p])):∃ g cp,v=.slice (some ⟨g,0,none⟩) (qs.length+1) cp∧qs.length+1≤cp∧cp≤maxLen∧B≤g∧W.cell? ⟨g,qs.length * 2,none⟩=some (.int .i64 p.kind)∧W.cell? ⟨g,qs.length * 2+1,none⟩=some (.int .i64 p.items)∧∀ j,W.frozen? ⟨g,j,none⟩=false:=by
 have hr:=c.row
 rw [List.length_append,List.length_singleton] at hr
 rcases hr.2 with ⟨_,e⟩|⟨g,cap,cur,rfl,h1,h2,h3,h4,h5,h6⟩
 ·omega
 ·refine ⟨g,cap,rfl,h3,h4,h1,?_,?_,fun j=>World.ownsRow.frozenAt hr j⟩
  ·rw [World.ownsRow.cellAt hr _ (by omega)];exact txs_at qs p 0
  ·rw [World.ownsRow.cellAt hr _ (by omega)];exact txs_at qs p 1
end
def lng (k:Int):Int:=if k=10∨k=9 then 64 else 4096
def begs (ps:List Tp)(k:Int):Bool:=match ps.getLast? with
 | none=>false
 | some p=>decide (k=10) || decide (p.kind=7)
theorem begs_last (qs:List Tp)(p:Tp)(k:Int):begs (qs++[p]) k=(decide (k=10) || decide (p.kind=7)):=by simp [begs]
def wan (k:Int):Nat:=if k=9 then 2 else 1
def few (ps:List Tp):Bool:=match ps.getLast? with
 | none=>true
 | some p=>decide (p.items<256)
def rom (z:Nat)(ps:List Tp)(k:Int):Bool:=decide (z+wan k≤4096) && decide (ps.length+wan k≤16) && (!begs ps k || few ps)
theorem longest_any (k:Int)(w:World):Calls Tryz.prog 172 #[.int .i64 k] w fun r w'=>r=.returned (.int .i64 (lng k))∧w'=w:=by
 by_cases h1:k=10
 ·subst h1
  go_enter Tryz.func172, Tryz.ntmps172
  go_wp2
  go_ret
  exact ⟨rfl,rfl⟩
 ·by_cases h2:k=9
  ·subst h2
   go_enter Tryz.func172, Tryz.ntmps172
   go_wp2
   go_ret
   exact ⟨rfl,rfl⟩
  ·have e1:(k==10)=false:=by simpa using h1
   have e2:(k==9)=false:=by simpa using h2
   have e3:Hid (lng k=4096):=by show lng k=4096;unfold lng;simp [h1,h2]
   go_enter Tryz.func172, Tryz.ntmps172
   go_wp2
   go_ret
   exact ⟨by rw [e3.out];rfl,rfl⟩
section
variable {W W1 : World} {t B z : Nat} {v : Value} {ps : List Tp}
theorem TyA.begins (c:TyA W t B v z ps)(k:Int):Calls Tryz.prog 188 #[.pointer (some ⟨t,0,none⟩),.int .i64 k] W fun r w'=>r=.returned (.bool (begs ps k))∧∃ m,w'=W.drewN m:=by
 have ml:maxLen=9223372036854775807:=rfl
 rcases List.eq_nil_or_concat ps with rfl|⟨qs,p,rfl⟩
 ·obtain ⟨a,cp,rfl⟩:=c.shape
  obtain ⟨c0,c1,f0,f1⟩:=c.tb.cells
  clear c
  go_enter Tryz.func188, Tryz.ntmps188
  go_wp2
  go_ret
  exact ⟨rfl,0,rfl⟩
 ·rw [List.concat_eq_append] at c ⊢
  obtain ⟨g,cp,rfl,h1,h2,h3,k0,k1,kf⟩:=c.last
  obtain ⟨c0,c1,f0,f1⟩:=c.tb.cells
  have e1:(k==10)=decide (k=10):=by rw [Bool.eq_iff_iff];simp
  have hb:Hid (begs (qs++[p]) k=((k==10) || (p.kind==7))):=by show _=_;rw [begs_last,Bool.eq_iff_iff];simp
  have hw:IntKind.i64.wrap ((qs.length:Int)+1 - 1)=(qs.length:Int):=by rw [IntKind.wrap_i64] <;> omega
  have hw2:IntKind.i64.wrap ((qs.length:Int))=(qs.length:Int):=by rw [IntKind.wrap_i64] <;> omega
  clear c e1
  cases hk:(k==10)
  ·go_enter Tryz.func188, Tryz.ntmps188
   go_wp2
   go_quiet (fail)
   go_wp2
   go_ret
   exact ⟨by rw [hb.out,hk];first|rfl|(simp;done)|trace_state,_,rfl⟩
  ·have hk10:k=10:=by simpa using hk
   subst hk10
   go_enter Tryz.func188, Tryz.ntmps188
   go_wp2
   go_quiet (fail)
   go_wp2
   go_ret
   exact ⟨by rw [hb.out,hk];rfl,_,rfl⟩
theorem hasRoom_any (c:TyA W t B v z ps)(k:Int):Calls Tryz.prog 173 #[.pointer (some ⟨t,0,none⟩),.int .i64 k] W fun r w'=>r=.returned (.bool (rom z ps k))∧∃ m,w'=W.drewN m:=by
 have ml:maxLen=9223372036854775807:=rfl
 have hsz:=c.siz
 have hln:=c.len
 obtain ⟨c0,c1,f0,f1⟩:=c.tb.cells
 have BG:Hid (∀ m,Calls Tryz.prog 188 #[.pointer (some ⟨t,0,none⟩),.int .i64 k] (W.drewN m) fun r w'=>r=.returned (.bool (begs ps k))∧∃ m,w'=W.drewN m):=fun m=>((c.then (W1:=W.drewN m) ⟨rfl,rfl,rfl,Nat.le_refl _,fun _ _=>rfl⟩).begins k).mono (by rintro r w' ⟨h1,m',rfl⟩;exact ⟨h1,m+m',by simp [World.drewN,Nat.add_assoc]⟩)
 by_cases h9:k=9
 ·subst h9
  have hwan:Hid (wan 9=2):=rfl
  have hw1:IntKind.i64.wrap ((z:Int)+2)=(z:Int)+2:=by rw [IntKind.wrap_i64] <;> omega
  have hw2:IntKind.i64.wrap ((ps.length:Int)+2)=(ps.length:Int)+2:=by rw [IntKind.wrap_i64] <;> omega
  by_cases g1:4096<z+2
  ·have d1:decide ((4096:Int)<(z:Int)+2)=true:=by simp;omega
   obtain ⟨a,cp,rfl⟩:=c.shape
   have hR:Hid (rom z ps 9=false):=by show rom z ps 9=false;unfold rom;rw [hwan.out];simp;omega
   clear c
   go_enter Tryz.func173, Tryz.ntmps173
   go_wp2
   go_ret
   exact ⟨by rw [hR.out];rfl,0,rfl⟩
  ·have d1:decide ((4096:Int)<(z:Int)+2)=false:=by simp;omega
   by_cases g2:16<ps.length+2
   ·have d2:decide ((16:Int)<(ps.length:Int)+2)=true:=by simp;omega
    obtain ⟨a,cp,rfl⟩:=c.shape
    have hR:Hid (rom z ps 9=false):=by show rom z ps 9=false;unfold rom;rw [hwan.out];simp;omega
    clear c
    go_enter Tryz.func173, Tryz.ntmps173
    go_wp2
    go_ret
    exact ⟨by rw [hR.out];rfl,0,rfl⟩
   ·have d2:decide ((16:Int)<(ps.length:Int)+2)=false:=by simp;omega
    have hR:Hid (rom z ps 9=(!begs ps 9 || few ps)):=by show rom z ps 9=_;unfold rom;rw [hwan.out,decide_eq_true (show z+2≤4096 by omega),decide_eq_true (show ps.length+2≤16 by omega)];rfl
    cases hbg:begs ps 9
    ·rw [hbg] at BG
     obtain ⟨a,cp,rfl⟩:=c.shape
     clear c
     go_enter Tryz.func173, Tryz.ntmps173
     go_wp2
     go_quiet (first|(go_at_call 188;exact BG.out _))
     all_goals
      go_wp2
      go_ret
      exact ⟨by rw [hR.out,hbg];rfl,_,rfl⟩
    ·rw [hbg] at BG
     rcases List.eq_nil_or_concat ps with rfl|⟨qs,p,rfl⟩
     ·cases hbg
     ·rw [List.concat_eq_append] at c hbg hR hw2 d2 hln g2 ⊢
      obtain ⟨g,cp,rfl,l1,l2,l3,k0,k1,kf⟩:=c.last
      have hfw:Hid (few (qs++[p])=decide ((p.items:Int)<256)):=by show _=_;unfold few;rw [List.getLast?_append,List.getLast?_singleton];rw [Bool.eq_iff_iff];simp;omega
      have hv:IntKind.i64.wrap ((qs.length:Int)+1 - 1)=(qs.length:Int):=by rw [IntKind.wrap_i64] <;> omega
      have hv2:IntKind.i64.wrap ((qs.length:Int))=(qs.length:Int):=by rw [IntKind.wrap_i64] <;> omega
      rw [List.length_append,List.length_singleton] at g2
      clear c hln hw2 d2
      have hw2:IntKind.i64.wrap ((qs.length:Int)+1+2)=(qs.length:Int)+1+2:=by rw [IntKind.wrap_i64] <;> omega
      have d2:decide ((16:Int)<(qs.length:Int)+1+2)=false:=by simp;omega
      clear g2
      go_enter Tryz.func173, Tryz.ntmps173
      go_wp2
      go_quiet (first|(go_at_call 188;exact BG.out _))
      all_goals
       go_wp2
       go_ret
       exact ⟨by rw [hR.out,hbg,hfw.out,Bool.not_true,Bool.false_or];first|exact rfl|(with_reducible rfl)|(simp;done)|trace_state,_,rfl⟩
 ·have e9:(k==9)=false:=by simpa using h9
  have hwan:Hid (wan k=1):=by show wan k=1;unfold wan;simp [h9]
  have hw1:IntKind.i64.wrap ((z:Int)+1)=(z:Int)+1:=by rw [IntKind.wrap_i64] <;> omega
  have hw2:IntKind.i64.wrap ((ps.length:Int)+1)=(ps.length:Int)+1:=by rw [IntKind.wrap_i64] <;> omega
  by_cases g1:4096<z+1
  ·have d1:decide ((4096:Int)<(z:Int)+1)=true:=by simp;omega
   obtain ⟨a,cp,rfl⟩:=c.shape
   have hR:Hid (rom z ps k=false):=by show rom z ps k=false;unfold rom;rw [hwan.out];simp;omega
   clear c
   go_enter Tryz.func173, Tryz.ntmps173
   go_wp2
   go_ret
   exact ⟨by rw [hR.out];rfl,0,rfl⟩
  ·have d1:decide ((4096:Int)<(z:Int)+1)=false:=by simp;omega
   by_cases g2:16<ps.length+1
   ·have d2:decide ((16:Int)<(ps.length:Int)+1)=true:=by simp;omega
    obtain ⟨a,cp,rfl⟩:=c.shape
    have hR:Hid (rom z ps k=false):=by show rom z ps k=false;unfold rom;rw [hwan.out];simp;omega
    clear c
    go_enter Tryz.func173, Tryz.ntmps173
    go_wp2
    go_ret
    exact ⟨by rw [hR.out];rfl,0,rfl⟩
   ·have d2:decide ((16:Int)<(ps.length:Int)+1)=false:=by simp;omega
    have hR:Hid (rom z ps k=(!begs ps k || few ps)):=by show rom z ps k=_;unfold rom;rw [hwan.out,decide_eq_true (show z+1≤4096 by omega),decide_eq_true (show ps.length+1≤16 by omega)];rfl
    cases hbg:begs ps k
    ·rw [hbg] at BG
     obtain ⟨a,cp,rfl⟩:=c.shape
     clear c
     go_enter Tryz.func173, Tryz.ntmps173
     go_wp2
     go_quiet (first|(go_at_call 188;exact BG.out _))
     all_goals
      go_wp2
      go_ret
      exact ⟨by rw [hR.out,hbg];rfl,_,rfl⟩
    ·rw [hbg] at BG
     rcases List.eq_nil_or_concat ps with rfl|⟨qs,p,rfl⟩
     ·cases hbg
     ·rw [List.concat_eq_append] at c hbg hR hw2 d2 hln g2 ⊢
      obtain ⟨g,cp,rfl,l1,l2,l3,k0,k1,kf⟩:=c.last
      have hfw:Hid (few (qs++[p])=decide ((p.items:Int)<256)):=by show _=_;unfold few;rw [List.getLast?_append,List.getLast?_singleton];rw [Bool.eq_iff_iff];simp;omega
      have hv:IntKind.i64.wrap ((qs.length:Int)+1 - 1)=(qs.length:Int):=by rw [IntKind.wrap_i64] <;> omega
      have hv2:IntKind.i64.wrap ((qs.length:Int))=(qs.length:Int):=by rw [IntKind.wrap_i64] <;> omega
      rw [List.length_append,List.length_singleton] at g2
      clear c hln hw2 d2
      have hw2:IntKind.i64.wrap ((qs.length:Int)+1+1)=(qs.length:Int)+1+1:=by rw [IntKind.wrap_i64] <;> omega
      have d2:decide ((16:Int)<(qs.length:Int)+1+1)=false:=by simp;omega
      clear g2
      go_enter Tryz.func173, Tryz.ntmps173
      go_wp2
      go_quiet (first|(go_at_call 188;exact BG.out _))
      all_goals
       go_wp2
       go_ret
       exact ⟨by rw [hR.out,hbg,hfw.out,Bool.not_true,Bool.false_or];first|exact rfl|(with_reducible rfl)|(simp;done)|trace_state,_,rfl⟩
end
end Go.Proofs.YthodiandebahdaaGreatDoor
