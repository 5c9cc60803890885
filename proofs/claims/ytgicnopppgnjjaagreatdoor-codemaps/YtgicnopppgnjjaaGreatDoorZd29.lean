/- Merged by program: CoNode, CoRead, PgBound, VtOver. -/
import Derived.Test.YtgicnopppgnjjaaGreatDoorZd28
import Derived.Test.YtgicnopppgnjjaaGreatDoorZd26
import Derived.Test.YtgicnopppgnjjaaGreatDoorZd07
import Derived.Test.YtgicnopppgnjjaaGreatDoorZd05
import Derived.Test.YtgicnopppgnjjaaGreatDoorZd27
set_option linter.unusedSimpArgs false
set_option linter.unusedVariables false
namespace Go.Proofs.YtgicnopppgnjjaaGreatDoor
namespace Lx
open Go.RowKit
theorem infoNd:(Tryz.prog.info? 67).map (fun i=>(i.zero,i.size,i.bytes))=some (some (.agg #[.int .i64 0,.string ⟨#[]⟩,.slice none 0 0,.slice none 0 0,.int .i64 0,.bool false,.bool false,.string ⟨#[]⟩,.int .i64 0,.int .u64 0,.string ⟨#[]⟩,.slice none 0 0,.slice none 0 0]),13,192):=by kernel_rfl
theorem infoZ:(Tryz.prog.info? 3).map (fun i=>(i.zero,i.size,i.bytes))=some (some (.int .i64 0),1,8):=by kernel_rfl
def zcs (l:List Int):List Value:=l.map fun z=>.int .i64 z
theorem zcs_app (a b:List Int):zcs (a++b)=zcs a++zcs b:=by simp [zcs]
def OwnZ (W:World) (L:Nat) (v:Value) (l:List Int):Prop:=W.ownsRow L 3 1 v l.length (zcs l)
theorem ownRow_mono {W:World} {L L':Nat} {T:TypeId} {sz n:Nat} {v:Value} {xs:List Value} (h:W.ownsRow L T sz v n xs) (hl:L'≤L):W.ownsRow L' T sz v n xs:=by
 refine ⟨h.1,?_⟩
 rcases h.2 with h|⟨g,cap,cur,e,hg,r⟩
 ·exact Or.inl h
 ·exact Or.inr ⟨g,cap,cur,e,Nat.le_trans hl hg,r⟩
theorem row_kind {W:World} {L:Nat} {T:TypeId} {sz n g:Nat} {v:Value} {xs:List Value} (h:W.ownsRow L T sz v n xs) (hg:v.ownBlock=some g):∃ cur,W.heap[g]?=some (.cells cur T (0,0)):=by
 rcases h.2 with ⟨rfl,_⟩|⟨g',cap,cur,rfl,_,hc,_⟩
 ·cases hg
 ·cases hg;exact ⟨cur,hc⟩
structure NdK (L:Nat) (W:World) (d:Nd) (s:Sl):Prop where
 ns:OwnS W L s.ns d.h.names
 ks:OwnZ W L s.ls d.kids
 vs:s.vs=.slice none 0 0
 vl:s.vl=.slice none 0 0
theorem NdK.mono {L L':Nat} {W:World} {d:Nd} {s:Sl} (h:NdK L W d s) (hl:L'≤L):NdK L' W d s:=⟨ownRow_mono h.ns hl,ownRow_mono h.ks hl,h.vs,h.vl⟩
theorem NdK.keep {L:Nat} {W W':World} {d:Nd} {s:Sl} (h:NdK L W d s) (hb:∀ k,k<W.heap.size→(∃ cur,W.heap[k]?=some (.cells cur 9 (0,0))∧s.ns.ownBlock=some k∨W.heap[k]?=some (.cells cur 3 (0,0))∧s.ls.ownBlock=some k)→W'.heap[k]?=W.heap[k]?):NdK L W' d s:=by
 refine ⟨ownsRow_of h.ns fun k hk hlt=>?_,ownsRow_of h.ks fun k hk hlt=>?_,h.vs,h.vl⟩
 ·obtain ⟨cur,hc⟩:=row_kind h.ns hk
  exact hb k hlt ⟨cur,Or.inl ⟨hc,hk⟩⟩
 ·obtain ⟨cur,hc⟩:=row_kind h.ks hk
  exact hb k hlt ⟨cur,Or.inr ⟨hc,hk⟩⟩
structure FL (B:Nat) (row:Option Nat) (w w':World):Prop where
 os:w'.os=w.os
 tape:w'.tape=w.tape
 output:w'.output=w.output
 size:w.heap.size≤w'.heap.size
 blk:∀ k,k<w.heap.size→k≠B→row≠some k→w'.heap[k]?=w.heap[k]?
theorem NdK.fl {L B:Nat} {row:Option Nat} {W W':World} {d:Nd} {s:Sl} (h:NdK L W d s) (hf:FL B row W W') (hB:∃ cb,W.heap[B]?=some (.cells cb 53 (0,0))) (hr:∀ g,row=some g→∃ cur,W.heap[g]?=some (.cells cur 67 (0,0))):NdK L W' d s:=by
 obtain ⟨cb,hB⟩:=hB
 refine h.keep fun k hk hc=>hf.blk k hk ?_ ?_
 ·rintro rfl
  obtain ⟨cur,⟨e,_⟩|⟨e,_⟩⟩:=hc
  all_goals
   rw [hB] at e
   have:=Option.some.inj e
   injection this with _ e2 _
   exact absurd e2 (by decide)
 ·intro e1
  obtain ⟨cr,h1⟩:=hr k e1
  obtain ⟨cur,⟨e,_⟩|⟨e,_⟩⟩:=hc
  all_goals
   rw [h1] at e
   have:=Option.some.inj e
   injection this with _ e2 _
   exact absurd e2 (by decide)
structure NT (L S:Nat) (W:World) (v:Value) (N:Nat) (xs:List Value) (l:List Nd) (ys:List Value):Prop where
 row:W.ownsRow L 67 13 v (N + l.length) (xs++ys)
 xl:xs.length=N * 13
 all:∀ j (h:j<l.length),∃ s,NdK S W l[j] s∧∀ r u,(ecl l[j].h s).toList[r]?=some u→ys[j * 13 + r]?=some u
theorem NT.yl {L S N:Nat} {W:World} {v:Value} {xs ys:List Value} {l:List Nd} (h:NT L S W v N xs l ys):ys.length=l.length * 13:=by
 have:=h.row.1
 have:=h.xl
 rw [List.length_append] at *
 omega
structure NH (L S:Nat) (W:World) (v:Value) (N:Nat) (xs:List Value) (h0:Eh) (ks:List Int) (s0:Sl) (zs:List Nd) (ys:List Value):Prop where
 row:W.ownsRow L 67 13 v (N + (1 + zs.length)) (xs++((ecl h0 s0).toList++ys))
 xl:xs.length=N * 13
 hd:NdK S W ⟨h0,ks⟩ s0
 all:∀ j (h:j<zs.length),∃ s,NdK S W zs[j] s∧(∀ g,s0.ls.ownBlock=some g→s.ls.ownBlock≠some g)∧∀ r u,(ecl zs[j].h s).toList[r]?=some u→ys[j * 13 + r]?=some u
section
variable {L S N : Nat} {W : World} {v : Value} {xs ys : List Value} {h0 : Eh} {ks : List Int} {s0 : Sl} {zs : List Nd}
theorem ecl_len (h:Eh) (s:Sl):(ecl h s).toList.length=13:=rfl
theorem NH.yl (h:NH L S W v N xs h0 ks s0 zs ys):ys.length=zs.length * 13:=by
 have:=h.row.1
 have:=h.xl
 simp only [List.length_append,ecl_len] at *
 omega
theorem NH.nt (h:NH L S W v N xs h0 ks s0 zs ys):NT L S W v N xs (⟨h0,ks⟩ :: zs) ((ecl h0 s0).toList++ys):=by
 refine ⟨?_,h.xl,fun j hj=>?_⟩
 ·have:=h.row
  rw [List.length_cons,show zs.length + 1=1 + zs.length by omega]
  exact this
 ·match j with
  | 0 =>
   refine ⟨s0,h.hd,fun r u hr=>?_⟩
   have hr':(ecl h0 s0).toList[r]?=some u:=hr
   rw [Nat.zero_mul,Nat.zero_add,List.getElem?_append_left (List.getElem?_eq_some_iff.1 hr').1]
   exact hr'
  | j + 1 =>
   obtain ⟨s,a,_,c⟩:=h.all j (by simpa using hj)
   refine ⟨s,a,fun r u hr=>?_⟩
   rw [List.getElem?_append_right (by rw [ecl_len];omega),ecl_len,show (j + 1) * 13 + r - 13=j * 13 + r by omega]
   exact c r u hr
theorem NH.move {W':World} {v':Value} (h:NH L S W v N xs h0 ks s0 zs ys) (ho:W'.ownsRow L 67 13 v' (N + (1 + zs.length)) (xs++((ecl h0 s0).toList++ys))) (hb:∀ d s,NdK S W d s→NdK S W' d s):NH L S W' v' N xs h0 ks s0 zs ys :=
 ⟨ho,h.xl,hb _ _ h.hd,fun j hj=>by
  obtain ⟨s,a,b,c⟩:=h.all j hj
  exact ⟨s,hb _ _ a,b,c⟩⟩
theorem NH.join {W':World} {v':Value} {l:List Nd} {zs':List Value} (h:NH L S W v N xs h0 ks s0 zs ys) (hb:∀ d s,NdK S W d s→NdK S W' d s) (hS:S≤W.heap.size) (k:NT L W.heap.size W' v' (N + (1 + zs.length)) (xs++((ecl h0 s0).toList++ys)) l zs'):NH L S W' v' N xs h0 ks s0 (zs++l) (ys++zs'):=by
 have yl:=h.yl
 refine ⟨?_,h.xl,hb _ _ h.hd,fun j hj=>?_⟩
 ·have:=k.row
  rw [List.length_append,show N + (1 + (zs.length + l.length))=N + (1 + zs.length) + l.length by omega]
  simpa only [List.append_assoc] using this
 ·rw [List.length_append] at hj
  by_cases hjk:j<zs.length
  ·obtain ⟨s,a,b,c⟩:=h.all j hjk
   rw [List.getElem_append_left hjk]
   refine ⟨s,hb _ _ a,b,fun r u hr=>?_⟩
   have:=c r u hr
   rw [List.getElem?_append_left (List.getElem?_eq_some_iff.1 this).1]
   exact this
  ·obtain ⟨s,a,c⟩:=k.all (j - zs.length) (by omega)
   rw [List.getElem_append_right (by omega)]
   refine ⟨s,a.mono hS,fun g hg e=>?_,fun r u hr=>?_⟩
   ·have h1:=(World.ownsRow.lt h.hd.ks g hg).2
    have h2:=(World.ownsRow.lt a.ks g e).1
    omega
   ·have:=c r u hr
    rw [List.getElem?_append_right (by omega),show j * 13 + r - ys.length=(j - zs.length) * 13 + r by omega]
    exact this
theorem own_set {T:TypeId} {sz n g cap i:Nat} {ws:List Value} {u:Value} (h:W.ownsRow L T sz (.slice (some ⟨g,0,none⟩) n cap) n ws) (hi:i<ws.length):(W.setCell ⟨g,i,none⟩ u).ownsRow L T sz (.slice (some ⟨g,0,none⟩) n cap) n (ws.set i u):=by
 obtain ⟨h0,h⟩:=h
 rcases h with ⟨h,_⟩|⟨g',cap',cur,e,h2,h3,h4,h5,h6,h7⟩
 ·cases h
 ·obtain ⟨e1,_,e2⟩:=Value.slice.inj e
  cases e1
  cases e2
  refine ⟨by rw [List.length_set];exact h0,Or.inr ⟨g,cap,cur.setIfInBounds i u,rfl,h2,?_,h4,h5,by simpa using h6,?_⟩⟩
  ·rw [setCell_eq_setRow W g i cur T (0,0) _ h3]
   exact setRow_heap W g cur _ T (0,0) h3
  ·rw [Array.toList_setIfInBounds,List.take_set,h7]
theorem NH.kid {W1:World} {g n cap:Nat} {ls':Value} {z:Int} (h:NH L S W v N xs h0 ks s0 zs ys) (hv:v=.slice (some ⟨g,0,none⟩) n cap) (hg:W.grownBy W1 s0.ls.ownBlock) (ho:OwnZ W1 S ls' (ks++[z])) (hat:ls'.ownBlock=s0.ls.ownBlock∨ls'.ownBlock=some W.heap.size) :
  NH L S (W1.setCell ⟨g,N * 13 + 3,none⟩ ls') v N xs h0 (ks++[z]) ⟨s0.ns,ls',s0.vs,s0.vl⟩ zs ys:=by
 have hn:n=N + (1 + zs.length):=by
  have:=h.row
  rw [hv] at this
  rcases this.2 with ⟨e,_⟩|⟨g',cap',cur,e,_⟩
  ·cases e
  ·exact (Value.slice.inj e).2.1
 subst hn
 have hrow:=h.row
 have hv':=hv
 have hgN:∃ cur,W.heap[g]?=some (.cells cur 67 (0,0)):=row_kind hrow (by rw [hv];rfl)
 have hgl:g<W.heap.size:=(World.ownsRow.lt hrow g (by rw [hv];rfl)).2
 have hne:s0.ls.ownBlock≠some g:=fun e=>by
  obtain ⟨c1,e1⟩:=hgN
  obtain ⟨c2,e2⟩:=row_kind h.hd.ks e
  rw [e1] at e2
  have:=Option.some.inj e2
  injection this with _ e3 _
  exact absurd e3 (by decide)
 have hrow1:W1.ownsRow L 67 13 v (N + (1 + zs.length)) (xs++((ecl h0 s0).toList++ys)):=ownsRow_of hrow fun k hk hl=>hg.block k hl (fun e=>by rw [hv] at hk;cases hk;exact hne e.symm)
 have low:∀ k,k≠g→(W1.setCell ⟨g,N * 13 + 3,none⟩ ls').heap[k]?=W1.heap[k]?:=fun k hk=>Below.heap_setCell _ _ _ _ (by show k≠g;exact hk)
 have notg:∀ {d:Nd} {s:Sl} {W2:World},NdK S W2 d s→(∃ cur,W2.heap[g]?=some (.cells cur 67 (0,0)))→s.ns.ownBlock≠some g∧s.ls.ownBlock≠some g:=by
  intro d s W2 hk ⟨c1,e1⟩
  refine ⟨fun e=>?_,fun e=>?_⟩
  ·obtain ⟨c2,e2⟩:=row_kind hk.ns e
   rw [e1] at e2
   have:=Option.some.inj e2
   injection this with _ e3 _
   exact absurd e3 (by decide)
  ·obtain ⟨c2,e2⟩:=row_kind hk.ks e
   rw [e1] at e2
   have:=Option.some.inj e2
   injection this with _ e3 _
   exact absurd e3 (by decide)
 have hg1:∃ cur,W1.heap[g]?=some (.cells cur 67 (0,0)):=by
  obtain ⟨c1,e1⟩:=hgN
  exact ⟨c1,(hg.block g hgl (fun e=>hne e.symm)).trans e1⟩
 have ns1:OwnS (W1.setCell ⟨g,N * 13 + 3,none⟩ ls') S s0.ns h0.names:=by
  refine ownsRow_of h.hd.ns fun k hk hl=>?_
  rw [low k (fun e=>(notg h.hd hgN).1 (by rw [hk,e]))]
  refine hg.block k hl (fun e=>?_)
  obtain ⟨c1,e1⟩:=row_kind h.hd.ns hk
  obtain ⟨c2,e2⟩:=row_kind h.hd.ks e.symm
  rw [e1] at e2
  have:=Option.some.inj e2
  injection this with _ e3 _
  exact absurd e3 (by decide)
 have lsg:ls'.ownBlock≠some g:=by
  rcases hat with e|e
  ·rw [e];exact hne
  ·rw [e]
   intro e1
   cases e1
   omega
 refine ⟨?_,h.xl,⟨ns1,ownsRow_of ho fun k hk hl=>low k (fun e=>lsg (by rw [hk,e])),h.hd.vs,h.hd.vl⟩,fun j hj=>?_⟩
 ·rw [hv] at hrow1 ⊢
  have:=own_set (u:=ls') hrow1 (i:=N * 13 + 3) (by simp only [List.length_append,ecl_len,h.xl];omega)
  rw [List.set_append_right _ _ (by rw [h.xl];omega),h.xl,Nat.add_sub_cancel_left] at this
  exact this
 ·obtain ⟨s,a,b,c⟩:=h.all j hj
  refine ⟨s,⟨?_,?_,a.vs,a.vl⟩,fun g' hg' e=>?_,c⟩
  ·refine ownsRow_of a.ns fun k hk hl=>?_
   rw [low k (fun e=>(notg a hgN).1 (by rw [hk,e]))]
   refine hg.block k hl (fun e=>?_)
   obtain ⟨c1,e1⟩:=row_kind a.ns hk
   obtain ⟨c2,e2⟩:=row_kind h.hd.ks e.symm
   rw [e1] at e2
   have:=Option.some.inj e2
   injection this with _ e3 _
   exact absurd e3 (by decide)
  ·refine ownsRow_of a.ks fun k hk hl=>?_
   rw [low k (fun e=>(notg a hgN).2 (by rw [hk,e]))]
   exact hg.block k hl (fun e=>b k e.symm hk)
  ·rcases hat with e1|e1
   ·exact b g' (e1 ▸ hg') e
   ·have h2:=(World.ownsRow.lt a.ks g' e).2
    rw [show (⟨s0.ns,ls',s0.vs,s0.vl⟩:Sl).ls=ls' from rfl,e1] at hg'
    cases hg'
    omega
end
end Lx
end Go.Proofs.YtgicnopppgnjjaaGreatDoor
namespace Go.Proofs.YtgicnopppgnjjaaGreatDoor
namespace Lx
open Go.RowKit
def KL (w:World) (v:Value) (l:List Int):Prop :=
 (v=.slice none 0 0∧l=[])∨∃ (b o c:Nat) (sp:Option Nat),v=.slice (some ⟨b,o,sp⟩) l.length c∧l.length≤c∧c≤maxLen∧(0<l.length→sp=none∧b<w.heap.size)∧∀ i (h:i<l.length),w.cell? ⟨b,o + i,none⟩=some (.int .i64 l[i])
theorem KL.below {w W:World} {v:Value} {l:List Int} (h:KL w v l) (hb:Below w.heap.size w W):KL W v l:=by
 rcases h with ⟨rfl,rfl⟩|⟨b,o,c,sp,rfl,h1,h2,h3,hc⟩
 ·exact Or.inl ⟨rfl,rfl⟩
 ·refine Or.inr ⟨b,o,c,sp,rfl,h1,h2,fun h=>⟨(h3 h).1,Nat.lt_of_lt_of_le (h3 h).2 hb.size⟩,fun i hi=>?_⟩
  exact (hb.cell (p:=⟨b,o + i,none⟩) (h3 (by omega)).2).trans (hc i hi)
theorem KL.len {w:World} {v:Value} {l:List Int} (h:KL w v l):∃ a c,v=.slice a l.length c∧l.length≤c∧c≤maxLen:=by
 rcases h with ⟨rfl,rfl⟩|⟨b,o,c,sp,rfl,h1,h2,_⟩
 ·exact ⟨none,0,rfl,Nat.le_refl _,by decide⟩
 ·exact ⟨_,c,rfl,h1,h2⟩
theorem KL.at {w:World} {v:Value} {l:List Int} (h:KL w v l) (i:Nat) (hi:i<l.length):∃ b o c,v=.slice (some ⟨b,o,none⟩) l.length c∧b<w.heap.size∧l.length≤c∧c≤maxLen∧w.cell? ⟨b,o + i,none⟩=some (.int .i64 l[i]):=by
 rcases h with ⟨rfl,e⟩|⟨b,o,c,sp,rfl,h1,h2,h3,hc⟩
 ·rw [e] at hi;simp at hi
 ·obtain ⟨rfl,hb⟩:=h3 (by omega)
  exact ⟨b,o,c,rfl,hb,h1,h2,hc i hi⟩
def NdR (w:World) (d:Nd) (s:Sl):Prop:=NL w s.ns d.h.names∧RD d.h.vn w d.h.val s.vs s.vl∧KL w s.ls d.kids
theorem NdR.below {w W:World} {d:Nd} {s:Sl} (h:NdR w d s) (hb:Below w.heap.size w W):NdR W d s:=⟨h.1.below hb,h.2.1.below hb,h.2.2.below hb⟩
theorem NdR.shape {w:World} {d:Nd} {s:Sl} (h:NdR w d s):∃ a c a' c' a2 m2 c2 a3 m3 c3,s=⟨.slice a d.h.names.length c,.slice a' d.kids.length c',.slice a2 m2 c2,.slice a3 m3 c3⟩:=by
 obtain ⟨a,c,e,_⟩:=h.1.len
 obtain ⟨a',c',e',_⟩:=h.2.2.len
 obtain ⟨a2,m2,c2,a3,m3,c3,e2,e3⟩:=h.2.1.shape
 refine ⟨a,c,a',c',a2,m2,c2,a3,m3,c3,?_⟩
 cases s
 simp only at e e' e2 e3
 rw [e,e',e2,e3]
def NdL (w:World) (v:Value) (l:List Nd):Prop:=ELp Nd.h (fun d s=>NdR w d s) w v l
theorem NdL.below {w W:World} {v:Value} {l:List Nd} (h:NdL w v l) (hb:Below w.heap.size w W):NdL W v l:=by
 rcases h with h2|⟨b,o,c,sp,e,k1,k2,k3,hc⟩
 ·exact Or.inl h2
 ·refine Or.inr ⟨b,o,c,sp,e,k1,k2,fun h=>⟨(k3 h).1,Nat.lt_of_lt_of_le (k3 h).2 hb.size⟩,fun i hi=>?_⟩
  obtain ⟨s',r1,r2⟩:=hc i hi
  exact ⟨s',rangeAt_below r1 hb (k3 (by omega)).2,NdR.below r2 hb⟩
theorem NdL.len {w:World} {v:Value} {l:List Nd} (h:NdL w v l):∃ a c,v=.slice a l.length c∧l.length≤c∧c≤maxLen:=by
 rcases h with ⟨rfl,rfl⟩|⟨b,o,c,sp,rfl,h1,h2,_⟩
 ·exact ⟨none,0,rfl,Nat.le_refl _,by decide⟩
 ·exact ⟨_,c,rfl,h1,h2⟩
theorem NdL.at {w:World} {v:Value} {l:List Nd} (h:NdL w v l) (i:Nat) (hi:i<l.length) :
  ∃ b o c,v=.slice (some ⟨b,o,none⟩) l.length c∧b<w.heap.size∧l.length≤c∧c≤maxLen∧∃ s,w.rangeAt b (o + i * 13) (ecl l[i].h s).toList∧NdR w l[i] s:=by
 rcases h with ⟨rfl,e⟩|⟨b,o,c,sp,rfl,h1,h2,h3,hc⟩
 ·rw [e] at hi;simp at hi
 ·obtain ⟨rfl,hb⟩:=h3 (by omega)
  exact ⟨b,o,c,rfl,hb,h1,h2,hc i hi⟩
theorem own_kl {W W':World} {L:Nat} {v:Value} {l:List Int} (ho:OwnZ W L v l) (hb:∀ k,v.ownBlock=some k→k<W.heap.size→W'.heap[k]?=W.heap[k]?):KL W' v l:=by
 have hr:=World.ownsRow.lt ho
 have ho2:=ho
 obtain ⟨h0,h1⟩:=ho
 rcases h1 with ⟨rfl,e⟩|⟨g,cap,cur,rfl,k1,k2,k3,k4,k5,k6⟩
 ·exact Or.inl ⟨rfl,List.eq_nil_of_length_eq_zero e⟩
 ·have hg:=(hr g rfl).2
  have hsame:W'.heap[g]?=W.heap[g]?:=hb g rfl hg
  refine Or.inr ⟨g,0,cap,none,rfl,k3,k4,fun _=>⟨rfl,?_⟩,fun i hi=>?_⟩
  ·by_cases hlt:g<W'.heap.size
   ·exact hlt
   ·rw [k2,Array.getElem?_eq_none (by omega)] at hsame;cases hsame
  ·rw [Nat.zero_add,World.cell?_of_block (a:=⟨g,i,none⟩) hsame,World.ownsRow.cellAt ho2 i (by simpa using hi)]
   simp [zcs,hi]
theorem own_nlZ {W W':World} {L:Nat} {v:Value} {l:List ByteArray} (ho:OwnS W L v l) (hb:∀ k,v.ownBlock=some k→k<W.heap.size→W'.heap[k]?=W.heap[k]?):NL W' v l:=by
 have hr:=World.ownsRow.lt ho
 have ho2:=ho
 obtain ⟨h0,h1⟩:=ho
 rcases h1 with ⟨rfl,e⟩|⟨g,cap,cur,rfl,k1,k2,k3,k4,k5,k6⟩
 ·exact Or.inl ⟨rfl,List.eq_nil_of_length_eq_zero e⟩
 ·have hg:=(hr g rfl).2
  have hsame:W'.heap[g]?=W.heap[g]?:=hb g rfl hg
  refine Or.inr ⟨g,0,cap,none,rfl,k3,k4,fun _=>⟨rfl,?_⟩,fun i hi=>?_⟩
  ·by_cases hlt:g<W'.heap.size
   ·exact hlt
   ·rw [k2,Array.getElem?_eq_none (by omega)] at hsame;cases hsame
  ·rw [Nat.zero_add,World.cell?_of_block (a:=⟨g,i,none⟩) hsame,World.ownsRow.cellAt ho2 i (by simpa using hi)]
   simp [scs,hi]
theorem NdK.rd {L:Nat} {W:World} {d:Nd} {s:Sl} {vh:Hd} (h:NdK L W d s) (e:d.h.vn=1∧vh.names=[]∧HEq d.h.val ((vh,[]):VT 1)):NdR W d s:=by
 obtain ⟨⟨op,nm,nms,vn,val⟩,kids⟩:=d
 obtain ⟨e1,e2,e3⟩:=e
 simp only at e1
 subst e1
 have e4:val=((vh,[]):VT 1):=eq_of_heq e3
 subst e4
 refine ⟨own_nlZ h.ns fun _ _ _=>rfl,?_,own_kl h.ks fun _ _ _=>rfl⟩
 show RD 1 W ((vh,[]):VT 1) s.vs s.vl
 rw [h.vs,h.vl]
 exact ⟨Or.inl ⟨rfl,e2⟩,Or.inl ⟨rfl,rfl⟩⟩
end Lx
end Go.Proofs.YtgicnopppgnjjaaGreatDoor
namespace Go.Proofs.YtgicnopppgnjjaaGreatDoor
namespace Lx
def GH (h:Eh):Prop:=h.name.size≤281474976710656∧h.names.length≤100000∧(∀ s∈h.names,s.size≤281474976710656)∧Sz h.vn h.val∧siz h.vn h.val≤200000
def GE:(n:Nat)→ET n→Prop
 | 0,_=>True
 | n + 1,x=>GH x.1∧x.2.length≤100000∧∀ y∈x.2,GE n y
theorem esiz_pos:∀ (n:Nat) (x:ET n),1≤esiz n x
 | 0,x=>Empty.elim x
 | n + 1,x=>by simp only [esiz];omega
theorem esiz_up:∀ (n:Nat) (x:ET n),esiz (n + 1) (upE n x)=esiz n x
 | 0,x=>Empty.elim x
 | n + 1,x=>by
  have e:(esiz (n + 1)) ∘ (upE n)=esiz n:=funext (esiz_up n)
  show 1 + suml ((x.2.map (upE n)).map (esiz (n + 1)))=1 + suml (x.2.map (esiz n))
  rw [List.map_map,e]
theorem GE.up:∀ {n:Nat} {x:ET n},GE n x→GE (n + 1) (upE n x)
 | 0,x,_=>Empty.elim x
 | n + 1,x,h=>by
  refine ⟨h.1,by show (x.2.map (upE n)).length≤_;rw [List.length_map];exact h.2.1,fun y hy=>?_⟩
  obtain ⟨z,hz,rfl⟩:=List.mem_map.1 (show y∈x.2.map (upE n) from hy)
  exact (h.2.2 z hz).up
theorem suml_len {α:Type} (f:α→Nat) (hf:∀ x,1≤f x):∀ l:List α,l.length≤suml (l.map f)
 | []=>Nat.le_refl _
 | a :: l=>by
  have:=suml_len f hf l
  have:=hf a
  simp only [List.map_cons,suml,List.length_cons];omega
def Kd {m:Nat} (S:List Tk→Sum Int (ET m×List Tk)):Prop:=∀ l x,Okl l→l.length≤100000→S l=.inr x→GE m x.1∧esiz m x.1 + x.2.length≤l.length
theorem vh_z (k:Int) (fl neg:Bool) (dig:ByteArray) (ex:Int) (tx:ByteArray) (h1:tx.size≤281474976710656) (h2:dig.size≤281474976710656):Sz 1 (vH k fl neg dig ex tx)∧siz 1 (vH k fl neg dig ex tx)≤200000:=by
 refine ⟨⟨h1,h2,Nat.zero_le _,fun s hs=>?_,fun y hy=>?_⟩,by show 1 + 0≤200000;omega⟩
 ·exact absurd hs (by simp [vH])
 ·exact absurd hy (by simp [vH])
theorem nil_z:nilB.size≤281474976710656:=by decide
theorem gh_lf (op:Int):GH (lf op):=by
 obtain ⟨h1,h2⟩:=vh_z 0 false false nilB 0 nilB nil_z nil_z
 exact ⟨nil_z,Nat.zero_le _,fun s hs=>absurd hs (by simp [lf]),h1,h2⟩
theorem mkB_size (l:List UInt8):(mkB l).size=l.length:=by simp [mkB,ByteArray.size]
theorem parseF_dg (l:List UInt8):(parseF l).2.1.size≤281474976710656:=by
 by_cases h:(parseF l).2.2.2=0
 ·obtain ⟨⟨b,d,x,E⟩,hp⟩:∃ p,parseF l=p:=⟨_,rfl⟩
  rw [hp] at h ⊢
  simp only at h
  subst h
  have:=(isN_len (parseF_isN hp)).1
  show d.size≤_
  omega
 ·rw [parseF_size h];show (ByteArray.size ⟨#[]⟩)≤_;decide
theorem cn_z {l:List Tk} {v:VT 1×List Tk} (h:Okl l) (e:cnT l=.inr v):Sz 1 v.1∧siz 1 v.1≤200000:=by
 obtain ⟨t,r,rfl⟩:=h.cons
 have hs:(mkB t.s).size≤281474976710656:=by rw [mkB_size];have:=h.short;omega
 simp only [cnT] at e
 repeat' split at e
 all_goals first|(cases e;exact vh_z _ _ _ _ _ _ (by first|exact hs|exact nil_z) (by first|exact nil_z|exact parseF_dg _))|cases e
theorem more_kd {m:Nat} {S:List Tk→Sum Int (ET m×List Tk)} (hS:Gd S) (hK:Kd S):∀ (g:Nat) (acc:List (ET m)) (l:List Tk) (y:List (ET m)×List Tk),Okl l→l.length≤100000→(∀ x∈acc,GE m x)→moreT S g acc l=.inr y→(∀ x∈y.1,GE m x)∧acc.length≤y.1.length∧suml (y.1.map (esiz m)) + (y.1.length - acc.length) + y.2.length≤suml (acc.map (esiz m)) + l.length
 | 0,_,_,_,_,_,_,e=>by cases e
 | g + 1,acc,l,y,h,hl,ha,e=>by
  have hn:=has_nx (m:=[59]) h (by simp)
  unfold moreT at e
  split at e
  ·rename_i k
   have n1:=hn.1 k
   split at e
   ·cases e
   ·rename_i x ex
    have n2:=hS _ _ n1.1 ex
    have hl1:(hasL [59] l).2.length≤100000:=by have:=n1.2;omega
    obtain ⟨g1,g2⟩:=hK _ _ n1.1 hl1 ex
    obtain ⟨q1,q2,q3⟩:=more_kd hS hK g (acc++[x.1]) _ _ n2.1 (by have:=n2.2;omega) (fun z hz=>by
     rcases List.mem_append.1 hz with h|h
     ·exact ha z h
     ·rw [List.mem_singleton.1 h];exact g1) e
    refine ⟨q1,by simp at q2;omega,?_⟩
    simp only [List.map_append,List.map_cons,List.map_nil,suml_app,suml,List.length_append,List.length_cons,List.length_nil] at q2 q3
    have:=n1.2
    omega
  ·rename_i k
   cases e
   have k':(hasL [59] l).1=false:=by simpa using k
   rw [hn.2 k']
   exact ⟨ha,Nat.le_refl _,by simp⟩
theorem pipe_kd {m:Nat} (l:List (ET m)) (h0:1≤l.length) (hl:l.length≤100000) (h:∀ x∈l,GE m x):GE (m + 1) (pipeT l)∧esiz (m + 1) (pipeT l)≤suml (l.map (esiz m)) + (l.length - 1):=by
 match l,h0 with
 | [y],_=>exact ⟨(h y (by simp)).up,by rw [show pipeT [y]=upE m y from rfl,esiz_up];simp [suml]⟩
 | a :: b :: l,_=>exact ⟨⟨gh_lf 12,hl,h⟩,by show 1 + suml ((a :: b :: l).map (esiz m))≤_;simp only [List.length_cons];omega⟩
theorem mpg_kd {m:Nat} {S:List Tk→Sum Int (ET m×List Tk)} (hS:Gd S) (hK:Kd S):Kd (mpgT S):=by
 intro l x h hl e
 unfold mpgT at e
 split at e
 ·cases e
 ·rename_i y ey
  have n1:=hS _ _ h ey
  obtain ⟨g1,g2⟩:=hK _ _ h hl ey
  split at e
  ·cases e
  ·rename_i z ez
   cases e
   obtain ⟨q1,q2,q3⟩:=more_kd hS hK _ _ _ _ n1.1 (by have:=n1.2;omega) (fun z hz=>by rw [List.mem_singleton.1 hz];exact g1) ez
   simp only [List.map_cons,List.map_nil,suml,List.length_cons,List.length_nil] at q2 q3
   have hzl:z.1.length≤100000:=by
    have:=suml_len (esiz m) (esiz_pos m) z.1
    omega
   obtain ⟨p1,p2⟩:=pipe_kd z.1 (by omega) hzl q1
   exact ⟨p1,by simp only;omega⟩
theorem nm_kd {m0:Nat} {m:List UInt8} (hm:m≠[]) {I:List Tk→Sum Int (ET m0×List Tk)} (hI:Gd I) (hK:Kd I):∀ (g:Nat) (ns:List (List UInt8)) (xs:List (ET m0)) (l:List Tk) (y:List (List UInt8)×List (ET m0)×List Tk),Okl l→l.length≤100000→(∀ x∈xs,GE m0 x)→(∀ s∈ns,s.length≤70000)→nmT m I g ns xs l=.inr y→(∀ x∈y.2.1,GE m0 x)∧(∀ s∈y.1,s.length≤70000)∧y.1.length + y.2.2.length≤ns.length + l.length∧y.2.1.length + y.2.2.length≤xs.length + l.length∧suml (y.2.1.map (esiz m0)) + y.2.2.length + 1≤suml (xs.map (esiz m0)) + l.length
 | 0,_,_,_,_,_,_,_,_,e=>by cases e
 | g + 1,ns,xs,l,y,h,hl,hx,hs,e=>by
  unfold nmT at e
  split at e
  ·cases e
  ·rename_i s es
   have n1:=name_nx h es
   have hsl:s.1.length≤70000:=by
    obtain ⟨t,r,rfl⟩:=h.cons
    simp only [nameL,nameT] at es
    split at es
    ·cases es;exact h.short
    ·cases es
   split at e
   ·cases e
   ·rename_i l2 e2
    have n2:=want_nx n1.1 hm e2
    split at e
    ·cases e
    ·rename_i x ex
     have n3:=hI _ _ n2.1 ex
     obtain ⟨g1,g2⟩:=hK _ _ n2.1 (by have:=n1.2;have:=n2.2;omega) ex
     have hn:=has_nx (m:=[125]) n3.1 (by simp)
     have hxs:∀ z∈xs++[x.1],GE m0 z:=fun z hz=>by
      rcases List.mem_append.1 hz with h|h
      ·exact hx z h
      ·rw [List.mem_singleton.1 h];exact g1
     have hns:∀ z∈ns++[s.1],z.length≤70000:=fun z hz=>by
      rcases List.mem_append.1 hz with h|h
      ·exact hs z h
      ·rw [List.mem_singleton.1 h];exact hsl
     have a1:=n1.2
     have a2:=n2.2
     have a3:=n3.2
     split at e
     ·rename_i k
      have a4:=(hn.1 k).2
      cases e
      refine ⟨hxs,hns,?_,?_,?_⟩
      ·simp only [List.length_append,List.length_cons,List.length_nil];omega
      ·simp only [List.length_append,List.length_cons,List.length_nil];omega
      ·simp only [List.map_append,List.map_cons,List.map_nil,suml_app,suml];omega
     ·rename_i k
      have k':(hasL [125] x.2).1=false:=by simpa using k
      rw [hn.2 k'] at e
      split at e
      ·cases e
      ·rename_i l5 e5
       have n5:=want_nx n3.1 (by simp) e5
       have a5:=n5.2
       obtain ⟨q1,q2,q3,q4,q5⟩:=nm_kd hm hI hK g _ _ _ _ n5.1 (by omega) hxs hns e
       refine ⟨q1,q2,?_,?_,?_⟩
       ·simp only [List.length_append,List.length_cons,List.length_nil] at q3;omega
       ·simp only [List.length_append,List.length_cons,List.length_nil] at q4;omega
       ·simp only [List.map_append,List.map_cons,List.map_nil,suml_app,suml] at q5;omega
theorem br_kd {m:Nat} {M:List Tk→Sum Int (ET m×List Tk)} (hM:Gd M) (hK:Kd M) (op:Int):∀ l x,Okl l→l.length≤100000→brT M op l=.inr x→GE (m + 1) x.1∧esiz (m + 1) x.1 + x.2.length≤l.length + 1:=by
 intro l x h hl e
 unfold brT at e
 split at e
 ·cases e
 ·rename_i y ey
  cases e
  have hn:=has_nx (m:=[125]) h (by simp)
  obtain ⟨z1,z2⟩:=vh_z 0 false false nilB 0 nilB nil_z nil_z
  unfold namedT at ey
  split at ey
  ·rename_i k
   have a:=(hn.1 k).2
   cases ey
   exact ⟨⟨⟨nil_z,Nat.zero_le _,fun s hs=>absurd hs (by simp),z1,z2⟩,Nat.zero_le _,fun y hy=>absurd hy (by simp)⟩,by show 1 + 0 + (hasL [125] l).2.length≤_;omega⟩
  ·rename_i k
   have k':(hasL [125] l).1=false:=by simpa using k
   rw [hn.2 k'] at ey
   obtain ⟨q1,q2,q3,q4,q5⟩:=nm_kd (by simp) hM hK _ _ _ _ _ h hl (fun z hz=>absurd hz (by simp)) (fun z hz=>absurd hz (by simp)) ey
   simp only [List.map_nil,suml,List.length_nil] at q3 q4 q5
   refine ⟨⟨⟨nil_z,?_,fun s hs=>?_,z1,z2⟩,?_,q1⟩,?_⟩
   ·show (y.1.map mkB).length≤_
    rw [List.length_map];omega
   ·obtain ⟨z,hz,rfl⟩:=List.mem_map.1 (show s∈y.1.map mkB from hs)
    rw [mkB_size]
    have:=q2 z hz
    omega
   ·show y.2.1.length≤_;omega
   ·show 1 + suml (y.2.1.map (esiz m)) + y.2.2.length≤_;omega
theorem gt_kd {m:Nat} (op:Int):∀ l x,Okl l→gtT (m:=m) op l=.inr x→GE (m + 1) x.1∧esiz (m + 1) x.1 + x.2.length≤l.length:=by
 intro l x h e
 obtain ⟨z1,z2⟩:=vh_z 0 false false nilB 0 nilB nil_z nil_z
 unfold gtT at e
 split at e
 ·cases e
 ·rename_i s es
  cases e
  have n1:=(name_nx h es).2
  have hsl:s.1.length≤70000:=by
   obtain ⟨t,r,rfl⟩:=h.cons
   simp only [nameL,nameT] at es
   split at es
   ·cases es;exact h.short
   ·cases es
  exact ⟨⟨⟨by show (mkB s.1).size≤_;rw [mkB_size];omega,Nat.zero_le _,fun s hs=>absurd hs (by simp),z1,z2⟩,Nat.zero_le _,fun y hy=>absurd hy (by simp)⟩,by show 1 + 0 + s.2.length≤_;omega⟩
theorem cl_kd {m:Nat} {M:List Tk→Sum Int (ET m×List Tk)} (hM:Gd M) (hK:Kd M) {k:List UInt8} (hk:k≠[]):∀ l x,Okl l→l.length≤100000→clT M k l=.inr x→GE m x.1∧esiz m x.1 + x.2.length + 1≤l.length:=by
 intro l x h hl e
 unfold clT at e
 split at e
 ·cases e
 ·rename_i y ey
  have n1:=hM _ _ h ey
  obtain ⟨g1,g2⟩:=hK _ _ h hl ey
  split at e
  ·cases e
  ·rename_i l' e'
   cases e
   have:=(want_nx n1.1 hk e').2
   exact ⟨g1,by simp only;omega⟩
theorem stpT_kd {m:Nat} {M:List Tk→Sum Int (ET m×List Tk)} (hM:Gd M) (hK:Kd M):Kd (stpT M):=by
 intro l x h hl e
 obtain ⟨t,r,rfl⟩:=h.cons
 have hw:¬ t.w=0:=by
  intro h0
  simp [stpT,h0,ownT,plO] at e
 have hr:=h.tail hw
 have hl':r.length≤100000:=by simp at hl;omega
 simp only [stpT] at e
 simp only [List.length_cons]
 split at e
 ·split at e
  ·cases e
  ·rename_i y ey
   cases e
   obtain ⟨g1,g2⟩:=cl_kd hM hK (by simp) _ _ hr hl' ey
   exact ⟨g1.up,by simp only [esiz_up];omega⟩
 ·split at e
  ·split at e
   ·cases e
   ·rename_i y ey
    cases e
    obtain ⟨g1,g2⟩:=cl_kd hM hK (by simp) _ _ hr hl' ey
    exact ⟨⟨gh_lf 4,by simp,fun z hz=>by rw [List.mem_singleton.1 hz];exact g1⟩,by show 1 + (esiz m y.1 + 0) + y.2.length≤_;omega⟩
  ·split at e
   ·obtain ⟨g1,g2⟩:=gt_kd 2 _ _ hr e
    exact ⟨g1,by omega⟩
   ·split at e
    ·obtain ⟨g1,g2⟩:=gt_kd 5 _ _ hr e
     exact ⟨g1,by omega⟩
    ·split at e
     ·obtain ⟨g1,g2⟩:=br_kd hM hK 3 _ _ hr hl' e
      exact ⟨g1,by omega⟩
     ·split at e
      ·split at e
       ·cases e
       ·rename_i l1 e1
        have n1:=want_nx hr (by simp) e1
        have:=n1.2
        obtain ⟨g1,g2⟩:=br_kd hM hK 6 _ _ n1.1 (by omega) e
        exact ⟨g1,by omega⟩
      ·split at e
       ·split at e
        ·cases e
        ·rename_i v ev
         cases e
         obtain ⟨z1,z2⟩:=cn_z hr ev
         have:=(cn_nx _ _ hr ev).2
         exact ⟨⟨⟨nil_z,Nat.zero_le _,fun s hs=>absurd hs (by simp),z1,z2⟩,Nat.zero_le _,fun y hy=>absurd hy (by simp)⟩,by show 1 + 0 + v.2.length≤_;omega⟩
       ·split at e
        ·rename_i op _
         cases e
         exact ⟨⟨gh_lf op,Nat.zero_le _,fun y hy=>absurd hy (by simp)⟩,by show 1 + 0 + r.length≤_;omega⟩
        ·cases e
theorem stp_kd:∀ f,Kd (stp f)
 | 0=>fun _ _ _ _ e=>by cases e
 | f + 1=>stpT_kd (mpg_nx (stp_nx f)) (mpg_kd (stp_nx f) (stp_kd f))
end Lx
end Go.Proofs.YtgicnopppgnjjaaGreatDoor
namespace Go.Proofs.YtgicnopppgnjjaaGreatDoor
namespace Lx
open Go.RowKit
section
variable {w : World} {ops : Array Oper} {rest : List Oper} {o : Oper} {a : Act} {Q : Exit → Act → World → Prop}
theorem app_tk2 (hgd:o.guard=none) (s x:Operand) (ho:o.op=.call {callee:=.builtin .append,args:=#[s,x],argTypes:=#[71,71]})
  (B:Nat) (v:Value) (l:List Tk) (hs:a.eval s=v) (hown:OT w B v l) (ad:Addr) (c:Nat) (hx:a.eval x=.slice (some ad) 1 c) (t:Tk)
  (hnews:∀ j u,(tcs [t])[j]?=some u→w.cell? (ad.add j)=some u) (hk:l.length≤100000) (hB:B≤w.heap.size)
  (h:∀ g c' w',Hid (OT w' B (.slice (some ⟨g,0,none⟩) (l.length + 1) c') (l++[t]))→Hid (w.grownBy w' v.ownBlock)→Hid (some g=v.ownBlock∨g=w.heap.size)→wpList Tryz.prog ops Q rest (a.put o.dst (.slice (some ⟨g,0,none⟩) (l.length + 1) c')) w'):wpList Tryz.prog ops Q (o :: rest) a w:=by
 obtain ⟨i0,hi,hz0,hz1,hz2⟩:=info_parts infoK
 refine wpList_append_own_at w hgd s x 71 ho B 110 i0 _ 3 32 Tryz.underlying71 hi hz0 hz1 hz2 rfl (by decide) v l.length (tcs l) hs hown ad 1 c (tcs [t]) hx (by rw [tcs_len];rfl) hnews (tcs_cell _) (by unfold maxLen;omega) (by omega) hB ?_
 intro v' w' h1 h2 h3 h4
 rw [←tcs_app] at h1
 obtain ⟨g,c',rfl⟩:=ownsRow_succ h1
 refine h g c' w' ?_ h2 ?_
 ·show OT _ _ _ _
  unfold OT
  rw [List.length_append]
  exact h1
 ·rcases h4 with h4|h4
  ·exact Or.inl h4
  ·exact Or.inr (by cases h4;rfl)
end
theorem tcs_get (l:List Tk) (k:Nat) (hk:k<l.length):(tcs l)[k * 3]?=some (.int .i64 l[k].w)∧(tcs l)[k * 3 + 1]?=some (.string (mkB l[k].s))∧(tcs l)[k * 3 + 2]?=some (.int .i64 l[k].p):=by
 induction l generalizing k with
 | nil=>simp at hk
 | cons a l ih =>
  have e:tcs (a :: l)=[.int .i64 a.w,.string (mkB a.s),.int .i64 a.p]++tcs l:=rfl
  cases k with
  | zero=>exact ⟨rfl,rfl,rfl⟩
  | succ k =>
   have:=ih k (by simpa using hk)
   rw [e]
   have q:∀ i,([.int .i64 a.w,.string (mkB a.s),.int .i64 a.p]++tcs l:List Value)[i + 3]?=(tcs l)[i]?:=fun i=>by
    rw [List.getElem?_append_right (by simp)];simp
   have e1:(k + 1) * 3=k * 3 + 3:=by omega
   have e2:k * 3 + 3 + 1=k * 3 + 1 + 3:=by omega
   have e3:k * 3 + 3 + 2=k * 3 + 2 + 3:=by omega
   rw [e1,e2,e3,q,q,q]
   exact this
theorem TQ.of {W:World} {L B g c:Nat} {l:List Tk} (h:OT W L (.slice (some ⟨g,0,none⟩) l.length c) l) (hB:W.heap[B]?=some (.cells #[.slice (some ⟨g,0,none⟩) l.length c] 71 (0,0))) (h1:l.length≤100000) (hs:B + 4≤W.heap.size) (hg:g<B + 4) (hn:g≠B):TQ W B l:=by
 rcases h.2 with ⟨h0,_⟩|⟨g',cap,cur,e,h2,h3,h4,h5,h6,h7⟩
 ·cases h0
 obtain ⟨e1,_,e2⟩:=Value.slice.inj e
 cases e1
 cases e2
 refine ⟨_,_,hB,h4,⟨by unfold maxLen at h5;omega,h1⟩,hs,fun _=>⟨g,0,rfl,hn,hg,fun k hk=>?_⟩⟩
 have key:∀ i u,(tcs l)[i]?=some u→W.cell? ⟨g,i,none⟩=some u:=fun i u hu=>by
  rw [←h7,List.getElem?_take] at hu
  unfold World.cell?
  rw [h3]
  split at hu
  ·simpa using hu
  ·cases hu
 obtain ⟨c0,c1,c2⟩:=tcs_get l k hk
 simp only [Nat.zero_add]
 exact ⟨key _ _ c0,key _ _ c1,key _ _ c2⟩
set_option maxHeartbeats 4000000 in
set_option maxRecDepth 100000 in
theorem over_any {w:World} {L:Nat} {v:Value} {l:List Tk} (h:OT w L v l) (hL:L≤w.heap.size) (n:Nat) (hn:n≤100000) (hk:l.length≤90000):Calls Tryz.prog 69 #[v,.int .i64 n] w fun e w'=>e=.returned (lv w.heap.size)∧Below L w w'∧∀ o,TQ (w'.alloc o) w.heap.size (l++[⟨0,[],n⟩]):=by
 have H:=hide h
 obtain ⟨a,c,rfl⟩:=h.shape
 have HK:=hide hk
 have HL:=hide hL
 clear h hk hL
 unfold lv
 go_enter Tryz.func69, Tryz.ntmps69
 go_wp2_with (at_builtin;refine Sto.out ?_)
 refine Sto.mk ?_
 refine app_tk2 rfl (.tmp 5) (.tmp 8) rfl L (.slice a l.length c) l rfl (H.out.keep (below_al (below_al (below_al (Below.refl _ _))))) ⟨w.heap.size + 1 + 1,0,none⟩ 1 rfl ⟨0,[],n⟩ ?_ (by have:=HK.out;omega) (by have:=HL.out;simp;omega) ?_
 ·have:=news_tk ((w.alloc (Obj.cells #[Value.slice a l.length c] 71)).alloc (Obj.cells #[Value.nilFunc,Value.nilFunc] 104)) ⟨0,[],n⟩ 110
  simp only [World.size_alloc] at this
  exact this
 intro g c' w3 O3 G3 R3
 have hz3:=G3.out.size
 simp only [World.size_alloc] at hz3
 have hgL:Hid (g<w.heap.size∨g=w.heap.size + 3):=by
  rcases R3.out with e|e
  ·exact Or.inl (World.ownsRow.lt H.out g e.symm).2
  ·exact Or.inr (by simpa using e)
 have hB3:w3.heap[w.heap.size]?=some (.cells #[.slice a l.length c] 71 (0,0)):=by
  rw [G3.out.block _ (by simp;omega) (fun e=>by have:=(World.ownsRow.lt H.out _ e.symm).2;omega),Below.heap_alloc _ _ _ (by simp;omega),Below.heap_alloc _ _ _ (by simp)]
  exact heap_alloc_last _ _
 have hS3:w3.heap[w.heap.size + 1]?=some (.cells #[.nilFunc,.nilFunc] 104 (0,0)):=by
  rw [G3.out.block _ (by simp) (fun e=>by have:=(World.ownsRow.lt H.out _ e.symm).2;omega),Below.heap_alloc _ _ _ (by simp)]
  have:=heap_alloc_last (w.alloc (Obj.cells #[Value.slice a l.length c] 71)) (Obj.cells #[Value.nilFunc,Value.nilFunc] 104)
  rw [World.size_alloc] at this
  exact this
 have cB:w3.cell? ⟨w.heap.size,0,none⟩=some (.slice a l.length c):=by unfold World.cell?;rw [hB3];rfl
 have fB:w3.frozen? ⟨w.heap.size,0,none⟩=false:=by unfold World.frozen?;rw [hB3];rfl
 have cS:w3.cell? ⟨w.heap.size + 1,0,none⟩=some .nilFunc:=by unfold World.cell?;rw [hS3];rfl
 have cS1:w3.cell? ⟨w.heap.size + 1,1,none⟩=some .nilFunc:=by unfold World.cell?;rw [hS3];rfl
 have fS:w3.frozen? ⟨w.heap.size + 1,0,none⟩=false:=by unfold World.frozen?;rw [hS3];rfl
 have fS1:w3.frozen? ⟨w.heap.size + 1,1,none⟩=false:=by unfold World.frozen?;rw [hS3];rfl
 have B3:Hid (Below L w w3):=((below_al (below_al (below_al (Below.refl w.heap.size w)))).mono HL.out).grown G3.out (by have:=HL.out;simp;omega) (fun k hk=>(World.ownsRow.lt H.out k hk).1)
 have HB3:=hide hB3
 clear hB3 hS3 G3 R3
 have hmf:∀ (fn:Fn) (first cap:Array Value) (w:World),(Instr.makeFunc fn first cap).run Tryz.prog w=.ok (.func fn first cap) w:=fun _ _ _ _=>rfl
 have hsf:∀ (a:Addr) (w:World) (fn:Fn) (first cap:Array Value),(store a (.func fn first cap)).run Tryz.prog w=stored Tryz.prog w a (.func fn first cap) .plain:=fun a w fn f c=>run_store Tryz.prog w a _ .plain rfl
 go_wp2_with fail
 refine bodyPost_ret (v:=lv w.heap.size) (by simp [results,Tryz.results69,go_sem,lv, *]) rfl ⟨rfl,?_,fun o=>?_⟩
 ·have hh:=HL.out
  exact ((B3.out.setCell hh _).setCell (by show L≤w.heap.size + 1;omega) _).setCell (by show L≤w.heap.size + 1;omega) _
 ·refine TQ.of (L:=L) (g:=g) (c:=c') ?_ ?_ ?_ ?_ ?_ ?_
  ·rw [List.length_append]
   have ne:∀ k,k=w.heap.size∨k=w.heap.size + 1→(some g≠some k):=fun k hk e=>by cases e;have:=hgL.out;omega
   refine OT.keep (W:=((w3.setCell ⟨w.heap.size,0,none⟩ (.slice (some ⟨g,0,none⟩) (l.length + 1) c')).setCell ⟨w.heap.size + 1,0,none⟩ (.func (.func 123) #[] #[.pointer (some ⟨w.heap.size,0,none⟩)])).setCell ⟨w.heap.size + 1,1,none⟩ (.func (.func 124) #[] #[.pointer (some ⟨w.heap.size,0,none⟩)])) ?_ (below_al (Below.refl _ _))
   refine ownsRow_of (show w3.ownsRow L 110 3 (.slice (some ⟨g,0,none⟩) (l.length + [(⟨0,[],n⟩:Tk)].length) c') (l++[(⟨0,[],n⟩:Tk)]).length (tcs (l++[(⟨0,[],n⟩:Tk)])) from O3.out) fun k hk hb=>?_
   have hkg:g=k:=by simpa [Value.ownBlock] using hk
   subst hkg
   have:=hgL.out
   rw [Below.heap_setCell _ _ _ _ (by show g≠w.heap.size + 1;omega),Below.heap_setCell _ _ _ _ (by show g≠w.heap.size + 1;omega),Below.heap_setCell _ _ _ _ (by show g≠w.heap.size;omega)]
  ·rw [Below.heap_alloc _ _ _ (by simp;omega),Below.heap_setCell _ _ _ _ (by simp),Below.heap_setCell _ _ _ _ (by simp),List.length_append]
   exact blkS HB3.out _
  ·have:=HK.out;simp;omega
  ·simp;omega
  ·have:=hgL.out;omega
  ·have:=hgL.out;omega
end Lx
end Go.Proofs.YtgicnopppgnjjaaGreatDoor
