/- Merged by program: VtOver, VxBare, VyBare, VzEvery. -/
import Derived.Test.YtcnfchblfcfimaaGreatDoorZn32
import Derived.Test.YtcnfchblfcfimaaGreatDoorZn11
set_option linter.unusedSimpArgs false
set_option linter.unusedVariables false
namespace Go.Proofs.YtcnfchblfcfimaaGreatDoor
namespace Lx
open Go.RowKit
section
variable {w : World} {ops : Array Oper} {rest : List Oper} {o : Oper} {a : Act} {Q : Exit → Act → World → Prop}
theorem app_tk2 (hgd:o.guard=none) (s x:Operand) (ho:o.op=.call {callee:=.builtin .append,args:=#[s,x],argTypes:=#[59,59]})
  (B:Nat) (v:Value) (l:List Tk) (hs:a.eval s=v) (hown:OT w B v l) (ad:Addr) (c:Nat) (hx:a.eval x=.slice (some ad) 1 c) (t:Tk)
  (hnews:∀ j u,(tcs [t])[j]?=some u→w.cell? (ad.add j)=some u) (hk:l.length≤100000) (hB:B≤w.heap.size)
  (h:∀ g c' w',Hid (OT w' B (.slice (some ⟨g,0,none⟩) (l.length + 1) c') (l++[t]))→Hid (w.grownBy w' v.ownBlock)→Hid (some g=v.ownBlock∨g=w.heap.size)→wpList Tryz.prog ops Q rest (a.put o.dst (.slice (some ⟨g,0,none⟩) (l.length + 1) c')) w'):wpList Tryz.prog ops Q (o :: rest) a w:=by
 obtain ⟨i0,hi,hz0,hz1,hz2⟩:=info_parts infoK
 refine wpList_append_own_at w hgd s x 59 ho B 88 i0 _ 3 32 Tryz.underlying59 hi hz0 hz1 hz2 rfl (by decide) v l.length (tcs l) hs hown ad 1 c (tcs [t]) hx (by rw [tcs_len];rfl) hnews (tcs_cell _) (by unfold maxLen;omega) (by omega) hB ?_
 intro v' w' h1 h2 h3 h4
 rw [←tcs_app] at h1
 obtain ⟨g,c',rfl⟩:=ownsRow_succ h1
 refine h g c' w' ?_ h2 ?_
 ·show OT _ _ _ _
  unfold OT
  rw [List.length_append]
  exact h1
 ·rcases h4 with h4|h4
  ·exact Or.inl h4
  ·exact Or.inr (by cases h4;rfl)
end
theorem tcs_get (l:List Tk) (k:Nat) (hk:k<l.length):(tcs l)[k * 3]?=some (.int .i64 l[k].w)∧(tcs l)[k * 3 + 1]?=some (.string (mkB l[k].s))∧(tcs l)[k * 3 + 2]?=some (.int .i64 l[k].p):=by
 induction l generalizing k with
 | nil=>simp at hk
 | cons a l ih =>
  have e:tcs (a :: l)=[.int .i64 a.w,.string (mkB a.s),.int .i64 a.p]++tcs l:=rfl
  cases k with
  | zero=>exact ⟨rfl,rfl,rfl⟩
  | succ k =>
   have:=ih k (by simpa using hk)
   rw [e]
   have q:∀ i,([.int .i64 a.w,.string (mkB a.s),.int .i64 a.p]++tcs l:List Value)[i + 3]?=(tcs l)[i]?:=fun i=>by
    rw [List.getElem?_append_right (by simp)];simp
   have e1:(k + 1) * 3=k * 3 + 3:=by omega
   have e2:k * 3 + 3 + 1=k * 3 + 1 + 3:=by omega
   have e3:k * 3 + 3 + 2=k * 3 + 2 + 3:=by omega
   rw [e1,e2,e3,q,q,q]
   exact this
theorem TQ.of {W:World} {L B g c:Nat} {l:List Tk} (h:OT W L (.slice (some ⟨g,0,none⟩) l.length c) l) (hB:W.heap[B]?=some (.cells #[.slice (some ⟨g,0,none⟩) l.length c] 59 (0,0))) (h1:l.length≤100000) (hs:B + 4≤W.heap.size) (hg:g<B + 4) (hn:g≠B):TQ W B l:=by
 rcases h.2 with ⟨h0,_⟩|⟨g',cap,cur,e,h2,h3,h4,h5,h6,h7⟩
 ·cases h0
 obtain ⟨e1,_,e2⟩:=Value.slice.inj e
 cases e1
 cases e2
 refine ⟨_,_,hB,h4,⟨by unfold maxLen at h5;omega,h1⟩,hs,fun _=>⟨g,0,rfl,hn,hg,fun k hk=>?_⟩⟩
 have key:∀ i u,(tcs l)[i]?=some u→W.cell? ⟨g,i,none⟩=some u:=fun i u hu=>by
  rw [←h7,List.getElem?_take] at hu
  unfold World.cell?
  rw [h3]
  split at hu
  ·simpa using hu
  ·cases hu
 obtain ⟨c0,c1,c2⟩:=tcs_get l k hk
 simp only [Nat.zero_add]
 exact ⟨key _ _ c0,key _ _ c1,key _ _ c2⟩
set_option maxHeartbeats 4000000 in
set_option maxRecDepth 100000 in
theorem over_any {w:World} {L:Nat} {v:Value} {l:List Tk} (h:OT w L v l) (hL:L≤w.heap.size) (n:Nat) (hn:n≤100000) (hk:l.length≤90000):Calls Tryz.prog 59 #[v,.int .i64 n] w fun e w'=>e=.returned (lv w.heap.size)∧Below L w w'∧∀ o,TQ (w'.alloc o) w.heap.size (l++[⟨0,[],n⟩]):=by
 have H:=hide h
 obtain ⟨a,c,rfl⟩:=h.shape
 have HK:=hide hk
 have HL:=hide hL
 clear h hk hL
 unfold lv
 go_enter Tryz.func59, Tryz.ntmps59
 go_wp2_with (at_builtin;refine Sto.out ?_)
 refine Sto.mk ?_
 refine app_tk2 rfl (.tmp 5) (.tmp 8) rfl L (.slice a l.length c) l rfl (H.out.keep (below_al (below_al (below_al (Below.refl _ _))))) ⟨w.heap.size + 1 + 1,0,none⟩ 1 rfl ⟨0,[],n⟩ ?_ (by have:=HK.out;omega) (by have:=HL.out;simp;omega) ?_
 ·have:=news_tk ((w.alloc (Obj.cells #[Value.slice a l.length c] 59)).alloc (Obj.cells #[Value.nilFunc,Value.nilFunc] 83)) ⟨0,[],n⟩ 88
  simp only [World.size_alloc] at this
  exact this
 intro g c' w3 O3 G3 R3
 have hz3:=G3.out.size
 simp only [World.size_alloc] at hz3
 have hgL:Hid (g<w.heap.size∨g=w.heap.size + 3):=by
  rcases R3.out with e|e
  ·exact Or.inl (World.ownsRow.lt H.out g e.symm).2
  ·exact Or.inr (by simpa using e)
 have hB3:w3.heap[w.heap.size]?=some (.cells #[.slice a l.length c] 59 (0,0)):=by
  rw [G3.out.block _ (by simp;omega) (fun e=>by have:=(World.ownsRow.lt H.out _ e.symm).2;omega),Below.heap_alloc _ _ _ (by simp;omega),Below.heap_alloc _ _ _ (by simp)]
  exact heap_alloc_last _ _
 have hS3:w3.heap[w.heap.size + 1]?=some (.cells #[.nilFunc,.nilFunc] 83 (0,0)):=by
  rw [G3.out.block _ (by simp) (fun e=>by have:=(World.ownsRow.lt H.out _ e.symm).2;omega),Below.heap_alloc _ _ _ (by simp)]
  have:=heap_alloc_last (w.alloc (Obj.cells #[Value.slice a l.length c] 59)) (Obj.cells #[Value.nilFunc,Value.nilFunc] 83)
  rw [World.size_alloc] at this
  exact this
 have cB:w3.cell? ⟨w.heap.size,0,none⟩=some (.slice a l.length c):=by unfold World.cell?;rw [hB3];rfl
 have fB:w3.frozen? ⟨w.heap.size,0,none⟩=false:=by unfold World.frozen?;rw [hB3];rfl
 have cS:w3.cell? ⟨w.heap.size + 1,0,none⟩=some .nilFunc:=by unfold World.cell?;rw [hS3];rfl
 have cS1:w3.cell? ⟨w.heap.size + 1,1,none⟩=some .nilFunc:=by unfold World.cell?;rw [hS3];rfl
 have fS:w3.frozen? ⟨w.heap.size + 1,0,none⟩=false:=by unfold World.frozen?;rw [hS3];rfl
 have fS1:w3.frozen? ⟨w.heap.size + 1,1,none⟩=false:=by unfold World.frozen?;rw [hS3];rfl
 have B3:Hid (Below L w w3):=((below_al (below_al (below_al (Below.refl w.heap.size w)))).mono HL.out).grown G3.out (by have:=HL.out;simp;omega) (fun k hk=>(World.ownsRow.lt H.out k hk).1)
 have HB3:=hide hB3
 clear hB3 hS3 G3 R3
 have hmf:∀ (fn:Fn) (first cap:Array Value) (w:World),(Instr.makeFunc fn first cap).run Tryz.prog w=.ok (.func fn first cap) w:=fun _ _ _ _=>rfl
 have hsf:∀ (a:Addr) (w:World) (fn:Fn) (first cap:Array Value),(store a (.func fn first cap)).run Tryz.prog w=stored Tryz.prog w a (.func fn first cap) .plain:=fun a w fn f c=>run_store Tryz.prog w a _ .plain rfl
 go_wp2_with fail
 refine bodyPost_ret (v:=lv w.heap.size) (by simp [results,Tryz.results59,go_sem,lv, *]) rfl ⟨rfl,?_,fun o=>?_⟩
 ·have hh:=HL.out
  exact ((B3.out.setCell hh _).setCell (by show L≤w.heap.size + 1;omega) _).setCell (by show L≤w.heap.size + 1;omega) _
 ·refine TQ.of (L:=L) (g:=g) (c:=c') ?_ ?_ ?_ ?_ ?_ ?_
  ·rw [List.length_append]
   have ne:∀ k,k=w.heap.size∨k=w.heap.size + 1→(some g≠some k):=fun k hk e=>by cases e;have:=hgL.out;omega
   refine OT.keep (W:=((w3.setCell ⟨w.heap.size,0,none⟩ (.slice (some ⟨g,0,none⟩) (l.length + 1) c')).setCell ⟨w.heap.size + 1,0,none⟩ (.func (.func 114) #[] #[.pointer (some ⟨w.heap.size,0,none⟩)])).setCell ⟨w.heap.size + 1,1,none⟩ (.func (.func 115) #[] #[.pointer (some ⟨w.heap.size,0,none⟩)])) ?_ (below_al (Below.refl _ _))
   refine ownsRow_of (show w3.ownsRow L 88 3 (.slice (some ⟨g,0,none⟩) (l.length + [(⟨0,[],n⟩:Tk)].length) c') (l++[(⟨0,[],n⟩:Tk)]).length (tcs (l++[(⟨0,[],n⟩:Tk)])) from O3.out) fun k hk hb=>?_
   have hkg:g=k:=by simpa [Value.ownBlock] using hk
   subst hkg
   have:=hgL.out
   rw [Below.heap_setCell _ _ _ _ (by show g≠w.heap.size + 1;omega),Below.heap_setCell _ _ _ _ (by show g≠w.heap.size + 1;omega),Below.heap_setCell _ _ _ _ (by show g≠w.heap.size;omega)]
  ·rw [Below.heap_alloc _ _ _ (by simp;omega),Below.heap_setCell _ _ _ _ (by simp),Below.heap_setCell _ _ _ _ (by simp),List.length_append]
   exact blkS HB3.out _
  ·have:=HK.out;simp;omega
  ·simp;omega
  ·have:=hgL.out;omega
  ·have:=hgL.out;omega
end Lx
end Go.Proofs.YtcnfchblfcfimaaGreatDoor
namespace Go.Proofs.YtcnfchblfcfimaaGreatDoor
namespace Lx
open Go.RowKit
def VZ:(n:Nat)→VT n→Prop
 | 0,_=>False
 | _ + 1,v=>v=(zr 0,[])
theorem tl0 {a:ByteArray} (h:¬ a=⟨#[]⟩):¬ a.toList=[]:=by
 intro e
 apply h
 have:a.data.toList=[]:=by rw [←ByteArray.toList_eq];exact e
 exact ByteArray.ext (Array.toList_inj.1 (by simpa using this))
set_option maxHeartbeats 2000000 in
set_option maxRecDepth 100000 in
theorem bare_1 (n m:Nat) (nm:ByteArray) (nms:List ByteArray) (vh:Hd) (vl:List (VT m)) (l:List (ET n)) (q:Sl) (w:World) (hr:RE (n + 1) w (⟨1,nm,nms,m + 1,(vh,vl)⟩,l) q) :
  Calls Tryz.prog 37 #[.agg (ecl ⟨1,nm,nms,m + 1,(vh,vl)⟩ q)] w fun e w'=>TB (nm=⟨#[]⟩∧nms=[]∧l=[]∧VZ (m + 1) (vh,vl)) w e w':=by
 obtain ⟨al,cl,hle,hc1,hc2⟩:=hr.tl.len
 obtain ⟨an,cn,hne,hd1,hd2⟩:=hr.1.len
 obtain ⟨x1,y1,z1,x2,y2,z2,x3,y3,z3,x4,y4,z4,hqs⟩:=hr.shape
 subst hqs
 obtain ⟨rfl,rfl,rfl⟩:=Value.slice.inj hle
 obtain ⟨rfl,rfl,rfl⟩:=Value.slice.inj hne
 clear hle hne hc1 hc2 hd1 hd2
 have hE:=hide (fun o=>equal_any (m + 1) (vh,vl) (zr 0,[]) (.slice x3 y3 z3) (.slice x4 y4 z4) (.slice none 0 0) (.slice none 0 0) (w.alloc o) (hr.2.1.below (below_al (o:=o) (Below.refl _ _))) (rd_zero m _ 0))
 show Calls _ _ #[.agg #[.int .i64 1,.string nm,.slice x1 nms.length z1,.slice x2 l.length z2,.int .i64 vh.kind,.bool vh.flag,.bool vh.neg,.string vh.dig,.int .i64 vh.exp,.int .u64 vh.bits,.string vh.text,.slice x3 y3 z3,.slice x4 y4 z4]] _ _
 clear hr
 by_cases h1:nm=⟨#[]⟩
 ·have E1:=hide h1
  rw [h1]
  clear h1
  by_cases h2:nms=[]
  ·have E2:=hide h2
   have zE2:nms.length=0:=by rw [h2];rfl
   rw [zE2]
   clear zE2 h2
   by_cases h3:l=[]
   ·have E3:=hide h3
    have zE3:l.length=0:=by rw [h3];rfl
    rw [zE3]
    clear zE3 h3
    go_enter Tryz.func37, Tryz.ntmps37
    go_wp2_with (go_at_call 82;refine (hE.out _).mono ?_;rintro e w1 ⟨b,rfl,hT,hb1⟩)
    go_ret
    exact ⟨b,rfl,(show Hid _ from ⟨fun q=>⟨(by first|trivial|rfl|exact E1.out),E2.out,E3.out,hT.1 q⟩,fun q=>hT.2 q.2.2.2⟩),below_then (below_al (Below.refl _ _)) hb1⟩
   ·have HE3:=hide h3
    go_enter Tryz.func37, Tryz.ntmps37
    go_wp2_with fail
    go_ret
    exact TB.no (fun q=>HE3.out q.2.2.1) (below_al (Below.refl _ _))
  ·have HE2:=hide h2
   go_enter Tryz.func37, Tryz.ntmps37
   go_wp2_with fail
   go_ret
   exact TB.no (fun q=>HE2.out q.2.1) (below_al (Below.refl _ _))
 ·have b1:¬ nm.toList=[]:=tl0 h1
  have H1:=hide h1
  clear h1
  go_enter Tryz.func37, Tryz.ntmps37
  go_wp2_with fail
  go_ret
  exact TB.no (fun q=>H1.out q.1) (below_al (Below.refl _ _))
set_option maxHeartbeats 2000000 in
set_option maxRecDepth 100000 in
theorem bare_8 (n m:Nat) (nm:ByteArray) (nms:List ByteArray) (vh:Hd) (vl:List (VT m)) (l:List (ET n)) (q:Sl) (w:World) (hr:RE (n + 1) w (⟨8,nm,nms,m + 1,(vh,vl)⟩,l) q) :
  Calls Tryz.prog 37 #[.agg (ecl ⟨8,nm,nms,m + 1,(vh,vl)⟩ q)] w fun e w'=>TB (nm=⟨#[]⟩∧nms=[]∧l=[]∧VZ (m + 1) (vh,vl)) w e w':=by
 obtain ⟨al,cl,hle,hc1,hc2⟩:=hr.tl.len
 obtain ⟨an,cn,hne,hd1,hd2⟩:=hr.1.len
 obtain ⟨x1,y1,z1,x2,y2,z2,x3,y3,z3,x4,y4,z4,hqs⟩:=hr.shape
 subst hqs
 obtain ⟨rfl,rfl,rfl⟩:=Value.slice.inj hle
 obtain ⟨rfl,rfl,rfl⟩:=Value.slice.inj hne
 clear hle hne hc1 hc2 hd1 hd2
 have hE:=hide (fun o=>equal_any (m + 1) (vh,vl) (zr 0,[]) (.slice x3 y3 z3) (.slice x4 y4 z4) (.slice none 0 0) (.slice none 0 0) (w.alloc o) (hr.2.1.below (below_al (o:=o) (Below.refl _ _))) (rd_zero m _ 0))
 show Calls _ _ #[.agg #[.int .i64 8,.string nm,.slice x1 nms.length z1,.slice x2 l.length z2,.int .i64 vh.kind,.bool vh.flag,.bool vh.neg,.string vh.dig,.int .i64 vh.exp,.int .u64 vh.bits,.string vh.text,.slice x3 y3 z3,.slice x4 y4 z4]] _ _
 clear hr
 by_cases h1:nm=⟨#[]⟩
 ·have E1:=hide h1
  rw [h1]
  clear h1
  by_cases h2:nms=[]
  ·have E2:=hide h2
   have zE2:nms.length=0:=by rw [h2];rfl
   rw [zE2]
   clear zE2 h2
   by_cases h3:l=[]
   ·have E3:=hide h3
    have zE3:l.length=0:=by rw [h3];rfl
    rw [zE3]
    clear zE3 h3
    go_enter Tryz.func37, Tryz.ntmps37
    go_wp2_with (go_at_call 82;refine (hE.out _).mono ?_;rintro e w1 ⟨b,rfl,hT,hb1⟩)
    go_ret
    exact ⟨b,rfl,(show Hid _ from ⟨fun q=>⟨(by first|trivial|rfl|exact E1.out),E2.out,E3.out,hT.1 q⟩,fun q=>hT.2 q.2.2.2⟩),below_then (below_al (Below.refl _ _)) hb1⟩
   ·have HE3:=hide h3
    go_enter Tryz.func37, Tryz.ntmps37
    go_wp2_with fail
    go_ret
    exact TB.no (fun q=>HE3.out q.2.2.1) (below_al (Below.refl _ _))
  ·have HE2:=hide h2
   go_enter Tryz.func37, Tryz.ntmps37
   go_wp2_with fail
   go_ret
   exact TB.no (fun q=>HE2.out q.2.1) (below_al (Below.refl _ _))
 ·have b1:¬ nm.toList=[]:=tl0 h1
  have H1:=hide h1
  clear h1
  go_enter Tryz.func37, Tryz.ntmps37
  go_wp2_with fail
  go_ret
  exact TB.no (fun q=>H1.out q.1) (below_al (Below.refl _ _))
set_option maxHeartbeats 2000000 in
set_option maxRecDepth 100000 in
theorem bare_9 (n m:Nat) (nm:ByteArray) (nms:List ByteArray) (vh:Hd) (vl:List (VT m)) (l:List (ET n)) (q:Sl) (w:World) (hr:RE (n + 1) w (⟨9,nm,nms,m + 1,(vh,vl)⟩,l) q) :
  Calls Tryz.prog 37 #[.agg (ecl ⟨9,nm,nms,m + 1,(vh,vl)⟩ q)] w fun e w'=>TB (nm=⟨#[]⟩∧nms=[]∧l=[]∧VZ (m + 1) (vh,vl)) w e w':=by
 obtain ⟨al,cl,hle,hc1,hc2⟩:=hr.tl.len
 obtain ⟨an,cn,hne,hd1,hd2⟩:=hr.1.len
 obtain ⟨x1,y1,z1,x2,y2,z2,x3,y3,z3,x4,y4,z4,hqs⟩:=hr.shape
 subst hqs
 obtain ⟨rfl,rfl,rfl⟩:=Value.slice.inj hle
 obtain ⟨rfl,rfl,rfl⟩:=Value.slice.inj hne
 clear hle hne hc1 hc2 hd1 hd2
 have hE:=hide (fun o=>equal_any (m + 1) (vh,vl) (zr 0,[]) (.slice x3 y3 z3) (.slice x4 y4 z4) (.slice none 0 0) (.slice none 0 0) (w.alloc o) (hr.2.1.below (below_al (o:=o) (Below.refl _ _))) (rd_zero m _ 0))
 show Calls _ _ #[.agg #[.int .i64 9,.string nm,.slice x1 nms.length z1,.slice x2 l.length z2,.int .i64 vh.kind,.bool vh.flag,.bool vh.neg,.string vh.dig,.int .i64 vh.exp,.int .u64 vh.bits,.string vh.text,.slice x3 y3 z3,.slice x4 y4 z4]] _ _
 clear hr
 by_cases h1:nm=⟨#[]⟩
 ·have E1:=hide h1
  rw [h1]
  clear h1
  by_cases h2:nms=[]
  ·have E2:=hide h2
   have zE2:nms.length=0:=by rw [h2];rfl
   rw [zE2]
   clear zE2 h2
   by_cases h3:l=[]
   ·have E3:=hide h3
    have zE3:l.length=0:=by rw [h3];rfl
    rw [zE3]
    clear zE3 h3
    go_enter Tryz.func37, Tryz.ntmps37
    go_wp2_with (go_at_call 82;refine (hE.out _).mono ?_;rintro e w1 ⟨b,rfl,hT,hb1⟩)
    go_ret
    exact ⟨b,rfl,(show Hid _ from ⟨fun q=>⟨(by first|trivial|rfl|exact E1.out),E2.out,E3.out,hT.1 q⟩,fun q=>hT.2 q.2.2.2⟩),below_then (below_al (Below.refl _ _)) hb1⟩
   ·have HE3:=hide h3
    go_enter Tryz.func37, Tryz.ntmps37
    go_wp2_with fail
    go_ret
    exact TB.no (fun q=>HE3.out q.2.2.1) (below_al (Below.refl _ _))
  ·have HE2:=hide h2
   go_enter Tryz.func37, Tryz.ntmps37
   go_wp2_with fail
   go_ret
   exact TB.no (fun q=>HE2.out q.2.1) (below_al (Below.refl _ _))
 ·have b1:¬ nm.toList=[]:=tl0 h1
  have H1:=hide h1
  clear h1
  go_enter Tryz.func37, Tryz.ntmps37
  go_wp2_with fail
  go_ret
  exact TB.no (fun q=>H1.out q.1) (below_al (Below.refl _ _))
set_option maxHeartbeats 2000000 in
set_option maxRecDepth 100000 in
theorem bare_10 (n m:Nat) (nm:ByteArray) (nms:List ByteArray) (vh:Hd) (vl:List (VT m)) (l:List (ET n)) (q:Sl) (w:World) (hr:RE (n + 1) w (⟨10,nm,nms,m + 1,(vh,vl)⟩,l) q) :
  Calls Tryz.prog 37 #[.agg (ecl ⟨10,nm,nms,m + 1,(vh,vl)⟩ q)] w fun e w'=>TB (nm=⟨#[]⟩∧nms=[]∧l=[]∧VZ (m + 1) (vh,vl)) w e w':=by
 obtain ⟨al,cl,hle,hc1,hc2⟩:=hr.tl.len
 obtain ⟨an,cn,hne,hd1,hd2⟩:=hr.1.len
 obtain ⟨x1,y1,z1,x2,y2,z2,x3,y3,z3,x4,y4,z4,hqs⟩:=hr.shape
 subst hqs
 obtain ⟨rfl,rfl,rfl⟩:=Value.slice.inj hle
 obtain ⟨rfl,rfl,rfl⟩:=Value.slice.inj hne
 clear hle hne hc1 hc2 hd1 hd2
 have hE:=hide (fun o=>equal_any (m + 1) (vh,vl) (zr 0,[]) (.slice x3 y3 z3) (.slice x4 y4 z4) (.slice none 0 0) (.slice none 0 0) (w.alloc o) (hr.2.1.below (below_al (o:=o) (Below.refl _ _))) (rd_zero m _ 0))
 show Calls _ _ #[.agg #[.int .i64 10,.string nm,.slice x1 nms.length z1,.slice x2 l.length z2,.int .i64 vh.kind,.bool vh.flag,.bool vh.neg,.string vh.dig,.int .i64 vh.exp,.int .u64 vh.bits,.string vh.text,.slice x3 y3 z3,.slice x4 y4 z4]] _ _
 clear hr
 by_cases h1:nm=⟨#[]⟩
 ·have E1:=hide h1
  rw [h1]
  clear h1
  by_cases h2:nms=[]
  ·have E2:=hide h2
   have zE2:nms.length=0:=by rw [h2];rfl
   rw [zE2]
   clear zE2 h2
   by_cases h3:l=[]
   ·have E3:=hide h3
    have zE3:l.length=0:=by rw [h3];rfl
    rw [zE3]
    clear zE3 h3
    go_enter Tryz.func37, Tryz.ntmps37
    go_wp2_with (go_at_call 82;refine (hE.out _).mono ?_;rintro e w1 ⟨b,rfl,hT,hb1⟩)
    go_ret
    exact ⟨b,rfl,(show Hid _ from ⟨fun q=>⟨(by first|trivial|rfl|exact E1.out),E2.out,E3.out,hT.1 q⟩,fun q=>hT.2 q.2.2.2⟩),below_then (below_al (Below.refl _ _)) hb1⟩
   ·have HE3:=hide h3
    go_enter Tryz.func37, Tryz.ntmps37
    go_wp2_with fail
    go_ret
    exact TB.no (fun q=>HE3.out q.2.2.1) (below_al (Below.refl _ _))
  ·have HE2:=hide h2
   go_enter Tryz.func37, Tryz.ntmps37
   go_wp2_with fail
   go_ret
   exact TB.no (fun q=>HE2.out q.2.1) (below_al (Below.refl _ _))
 ·have b1:¬ nm.toList=[]:=tl0 h1
  have H1:=hide h1
  clear h1
  go_enter Tryz.func37, Tryz.ntmps37
  go_wp2_with fail
  go_ret
  exact TB.no (fun q=>H1.out q.1) (below_al (Below.refl _ _))
set_option maxHeartbeats 2000000 in
set_option maxRecDepth 100000 in
theorem bare_11 (n m:Nat) (nm:ByteArray) (nms:List ByteArray) (vh:Hd) (vl:List (VT m)) (l:List (ET n)) (q:Sl) (w:World) (hr:RE (n + 1) w (⟨11,nm,nms,m + 1,(vh,vl)⟩,l) q) :
  Calls Tryz.prog 37 #[.agg (ecl ⟨11,nm,nms,m + 1,(vh,vl)⟩ q)] w fun e w'=>TB (nm=⟨#[]⟩∧nms=[]∧l=[]∧VZ (m + 1) (vh,vl)) w e w':=by
 obtain ⟨al,cl,hle,hc1,hc2⟩:=hr.tl.len
 obtain ⟨an,cn,hne,hd1,hd2⟩:=hr.1.len
 obtain ⟨x1,y1,z1,x2,y2,z2,x3,y3,z3,x4,y4,z4,hqs⟩:=hr.shape
 subst hqs
 obtain ⟨rfl,rfl,rfl⟩:=Value.slice.inj hle
 obtain ⟨rfl,rfl,rfl⟩:=Value.slice.inj hne
 clear hle hne hc1 hc2 hd1 hd2
 have hE:=hide (fun o=>equal_any (m + 1) (vh,vl) (zr 0,[]) (.slice x3 y3 z3) (.slice x4 y4 z4) (.slice none 0 0) (.slice none 0 0) (w.alloc o) (hr.2.1.below (below_al (o:=o) (Below.refl _ _))) (rd_zero m _ 0))
 show Calls _ _ #[.agg #[.int .i64 11,.string nm,.slice x1 nms.length z1,.slice x2 l.length z2,.int .i64 vh.kind,.bool vh.flag,.bool vh.neg,.string vh.dig,.int .i64 vh.exp,.int .u64 vh.bits,.string vh.text,.slice x3 y3 z3,.slice x4 y4 z4]] _ _
 clear hr
 by_cases h1:nm=⟨#[]⟩
 ·have E1:=hide h1
  rw [h1]
  clear h1
  by_cases h2:nms=[]
  ·have E2:=hide h2
   have zE2:nms.length=0:=by rw [h2];rfl
   rw [zE2]
   clear zE2 h2
   by_cases h3:l=[]
   ·have E3:=hide h3
    have zE3:l.length=0:=by rw [h3];rfl
    rw [zE3]
    clear zE3 h3
    go_enter Tryz.func37, Tryz.ntmps37
    go_wp2_with (go_at_call 82;refine (hE.out _).mono ?_;rintro e w1 ⟨b,rfl,hT,hb1⟩)
    go_ret
    exact ⟨b,rfl,(show Hid _ from ⟨fun q=>⟨(by first|trivial|rfl|exact E1.out),E2.out,E3.out,hT.1 q⟩,fun q=>hT.2 q.2.2.2⟩),below_then (below_al (Below.refl _ _)) hb1⟩
   ·have HE3:=hide h3
    go_enter Tryz.func37, Tryz.ntmps37
    go_wp2_with fail
    go_ret
    exact TB.no (fun q=>HE3.out q.2.2.1) (below_al (Below.refl _ _))
  ·have HE2:=hide h2
   go_enter Tryz.func37, Tryz.ntmps37
   go_wp2_with fail
   go_ret
   exact TB.no (fun q=>HE2.out q.2.1) (below_al (Below.refl _ _))
 ·have b1:¬ nm.toList=[]:=tl0 h1
  have H1:=hide h1
  clear h1
  go_enter Tryz.func37, Tryz.ntmps37
  go_wp2_with fail
  go_ret
  exact TB.no (fun q=>H1.out q.1) (below_al (Below.refl _ _))
set_option maxHeartbeats 2000000 in
set_option maxRecDepth 100000 in
theorem bare_2 (n m:Nat) (nm:ByteArray) (nms:List ByteArray) (vh:Hd) (vl:List (VT m)) (l:List (ET n)) (q:Sl) (w:World) (hr:RE (n + 1) w (⟨2,nm,nms,m + 1,(vh,vl)⟩,l) q) :
  Calls Tryz.prog 37 #[.agg (ecl ⟨2,nm,nms,m + 1,(vh,vl)⟩ q)] w fun e w'=>TB (nms=[]∧l=[]∧VZ (m + 1) (vh,vl)) w e w':=by
 obtain ⟨al,cl,hle,hc1,hc2⟩:=hr.tl.len
 obtain ⟨an,cn,hne,hd1,hd2⟩:=hr.1.len
 obtain ⟨x1,y1,z1,x2,y2,z2,x3,y3,z3,x4,y4,z4,hqs⟩:=hr.shape
 subst hqs
 obtain ⟨rfl,rfl,rfl⟩:=Value.slice.inj hle
 obtain ⟨rfl,rfl,rfl⟩:=Value.slice.inj hne
 clear hle hne hc1 hc2 hd1 hd2
 have hE:=hide (fun o=>equal_any (m + 1) (vh,vl) (zr 0,[]) (.slice x3 y3 z3) (.slice x4 y4 z4) (.slice none 0 0) (.slice none 0 0) (w.alloc o) (hr.2.1.below (below_al (o:=o) (Below.refl _ _))) (rd_zero m _ 0))
 show Calls _ _ #[.agg #[.int .i64 2,.string nm,.slice x1 nms.length z1,.slice x2 l.length z2,.int .i64 vh.kind,.bool vh.flag,.bool vh.neg,.string vh.dig,.int .i64 vh.exp,.int .u64 vh.bits,.string vh.text,.slice x3 y3 z3,.slice x4 y4 z4]] _ _
 clear hr
 by_cases h2:nms=[]
 ·have E2:=hide h2
  have zE2:nms.length=0:=by rw [h2];rfl
  rw [zE2]
  clear zE2 h2
  by_cases h3:l=[]
  ·have E3:=hide h3
   have zE3:l.length=0:=by rw [h3];rfl
   rw [zE3]
   clear zE3 h3
   go_enter Tryz.func37, Tryz.ntmps37
   go_wp2_with (go_at_call 82;refine (hE.out _).mono ?_;rintro e w1 ⟨b,rfl,hT,hb1⟩)
   go_ret
   exact ⟨b,rfl,(show Hid _ from ⟨fun q=>⟨E2.out,E3.out,hT.1 q⟩,fun q=>hT.2 q.2.2⟩),below_then (below_al (Below.refl _ _)) hb1⟩
  ·have HE3:=hide h3
   go_enter Tryz.func37, Tryz.ntmps37
   go_wp2_with fail
   go_ret
   exact TB.no (fun q=>HE3.out q.2.1) (below_al (Below.refl _ _))
 ·have HE2:=hide h2
  go_enter Tryz.func37, Tryz.ntmps37
  go_wp2_with fail
  go_ret
  exact TB.no (fun q=>HE2.out q.1) (below_al (Below.refl _ _))
set_option maxHeartbeats 2000000 in
set_option maxRecDepth 100000 in
theorem bare_5 (n m:Nat) (nm:ByteArray) (nms:List ByteArray) (vh:Hd) (vl:List (VT m)) (l:List (ET n)) (q:Sl) (w:World) (hr:RE (n + 1) w (⟨5,nm,nms,m + 1,(vh,vl)⟩,l) q) :
  Calls Tryz.prog 37 #[.agg (ecl ⟨5,nm,nms,m + 1,(vh,vl)⟩ q)] w fun e w'=>TB (nms=[]∧l=[]∧VZ (m + 1) (vh,vl)) w e w':=by
 obtain ⟨al,cl,hle,hc1,hc2⟩:=hr.tl.len
 obtain ⟨an,cn,hne,hd1,hd2⟩:=hr.1.len
 obtain ⟨x1,y1,z1,x2,y2,z2,x3,y3,z3,x4,y4,z4,hqs⟩:=hr.shape
 subst hqs
 obtain ⟨rfl,rfl,rfl⟩:=Value.slice.inj hle
 obtain ⟨rfl,rfl,rfl⟩:=Value.slice.inj hne
 clear hle hne hc1 hc2 hd1 hd2
 have hE:=hide (fun o=>equal_any (m + 1) (vh,vl) (zr 0,[]) (.slice x3 y3 z3) (.slice x4 y4 z4) (.slice none 0 0) (.slice none 0 0) (w.alloc o) (hr.2.1.below (below_al (o:=o) (Below.refl _ _))) (rd_zero m _ 0))
 show Calls _ _ #[.agg #[.int .i64 5,.string nm,.slice x1 nms.length z1,.slice x2 l.length z2,.int .i64 vh.kind,.bool vh.flag,.bool vh.neg,.string vh.dig,.int .i64 vh.exp,.int .u64 vh.bits,.string vh.text,.slice x3 y3 z3,.slice x4 y4 z4]] _ _
 clear hr
 by_cases h2:nms=[]
 ·have E2:=hide h2
  have zE2:nms.length=0:=by rw [h2];rfl
  rw [zE2]
  clear zE2 h2
  by_cases h3:l=[]
  ·have E3:=hide h3
   have zE3:l.length=0:=by rw [h3];rfl
   rw [zE3]
   clear zE3 h3
   go_enter Tryz.func37, Tryz.ntmps37
   go_wp2_with (go_at_call 82;refine (hE.out _).mono ?_;rintro e w1 ⟨b,rfl,hT,hb1⟩)
   go_ret
   exact ⟨b,rfl,(show Hid _ from ⟨fun q=>⟨E2.out,E3.out,hT.1 q⟩,fun q=>hT.2 q.2.2⟩),below_then (below_al (Below.refl _ _)) hb1⟩
  ·have HE3:=hide h3
   go_enter Tryz.func37, Tryz.ntmps37
   go_wp2_with fail
   go_ret
   exact TB.no (fun q=>HE3.out q.2.1) (below_al (Below.refl _ _))
 ·have HE2:=hide h2
  go_enter Tryz.func37, Tryz.ntmps37
  go_wp2_with fail
  go_ret
  exact TB.no (fun q=>HE2.out q.1) (below_al (Below.refl _ _))
set_option maxHeartbeats 2000000 in
set_option maxRecDepth 100000 in
theorem bare_3 (n m:Nat) (nm:ByteArray) (nms:List ByteArray) (vh:Hd) (vl:List (VT m)) (l:List (ET n)) (q:Sl) (w:World) (hr:RE (n + 1) w (⟨3,nm,nms,m + 1,(vh,vl)⟩,l) q) :
  Calls Tryz.prog 37 #[.agg (ecl ⟨3,nm,nms,m + 1,(vh,vl)⟩ q)] w fun e w'=>TB (nm=⟨#[]⟩∧VZ (m + 1) (vh,vl)) w e w':=by
 obtain ⟨al,cl,hle,hc1,hc2⟩:=hr.tl.len
 obtain ⟨an,cn,hne,hd1,hd2⟩:=hr.1.len
 obtain ⟨x1,y1,z1,x2,y2,z2,x3,y3,z3,x4,y4,z4,hqs⟩:=hr.shape
 subst hqs
 obtain ⟨rfl,rfl,rfl⟩:=Value.slice.inj hle
 obtain ⟨rfl,rfl,rfl⟩:=Value.slice.inj hne
 clear hle hne hc1 hc2 hd1 hd2
 have hE:=hide (fun o=>equal_any (m + 1) (vh,vl) (zr 0,[]) (.slice x3 y3 z3) (.slice x4 y4 z4) (.slice none 0 0) (.slice none 0 0) (w.alloc o) (hr.2.1.below (below_al (o:=o) (Below.refl _ _))) (rd_zero m _ 0))
 show Calls _ _ #[.agg #[.int .i64 3,.string nm,.slice x1 nms.length z1,.slice x2 l.length z2,.int .i64 vh.kind,.bool vh.flag,.bool vh.neg,.string vh.dig,.int .i64 vh.exp,.int .u64 vh.bits,.string vh.text,.slice x3 y3 z3,.slice x4 y4 z4]] _ _
 clear hr
 by_cases h1:nm=⟨#[]⟩
 ·have E1:=hide h1
  rw [h1]
  clear h1
  go_enter Tryz.func37, Tryz.ntmps37
  go_wp2_with (go_at_call 82;refine (hE.out _).mono ?_;rintro e w1 ⟨b,rfl,hT,hb1⟩)
  go_ret
  exact ⟨b,rfl,(show Hid _ from ⟨fun q=>⟨(by first|trivial|rfl|exact E1.out),hT.1 q⟩,fun q=>hT.2 q.2⟩),below_then (below_al (Below.refl _ _)) hb1⟩
 ·have b1:¬ nm.toList=[]:=tl0 h1
  have H1:=hide h1
  clear h1
  go_enter Tryz.func37, Tryz.ntmps37
  go_wp2_with fail
  go_ret
  exact TB.no (fun q=>H1.out q.1) (below_al (Below.refl _ _))
set_option maxHeartbeats 2000000 in
set_option maxRecDepth 100000 in
theorem bare_6 (n m:Nat) (nm:ByteArray) (nms:List ByteArray) (vh:Hd) (vl:List (VT m)) (l:List (ET n)) (q:Sl) (w:World) (hr:RE (n + 1) w (⟨6,nm,nms,m + 1,(vh,vl)⟩,l) q) :
  Calls Tryz.prog 37 #[.agg (ecl ⟨6,nm,nms,m + 1,(vh,vl)⟩ q)] w fun e w'=>TB (nm=⟨#[]⟩∧VZ (m + 1) (vh,vl)) w e w':=by
 obtain ⟨al,cl,hle,hc1,hc2⟩:=hr.tl.len
 obtain ⟨an,cn,hne,hd1,hd2⟩:=hr.1.len
 obtain ⟨x1,y1,z1,x2,y2,z2,x3,y3,z3,x4,y4,z4,hqs⟩:=hr.shape
 subst hqs
 obtain ⟨rfl,rfl,rfl⟩:=Value.slice.inj hle
 obtain ⟨rfl,rfl,rfl⟩:=Value.slice.inj hne
 clear hle hne hc1 hc2 hd1 hd2
 have hE:=hide (fun o=>equal_any (m + 1) (vh,vl) (zr 0,[]) (.slice x3 y3 z3) (.slice x4 y4 z4) (.slice none 0 0) (.slice none 0 0) (w.alloc o) (hr.2.1.below (below_al (o:=o) (Below.refl _ _))) (rd_zero m _ 0))
 show Calls _ _ #[.agg #[.int .i64 6,.string nm,.slice x1 nms.length z1,.slice x2 l.length z2,.int .i64 vh.kind,.bool vh.flag,.bool vh.neg,.string vh.dig,.int .i64 vh.exp,.int .u64 vh.bits,.string vh.text,.slice x3 y3 z3,.slice x4 y4 z4]] _ _
 clear hr
 by_cases h1:nm=⟨#[]⟩
 ·have E1:=hide h1
  rw [h1]
  clear h1
  go_enter Tryz.func37, Tryz.ntmps37
  go_wp2_with (go_at_call 82;refine (hE.out _).mono ?_;rintro e w1 ⟨b,rfl,hT,hb1⟩)
  go_ret
  exact ⟨b,rfl,(show Hid _ from ⟨fun q=>⟨(by first|trivial|rfl|exact E1.out),hT.1 q⟩,fun q=>hT.2 q.2⟩),below_then (below_al (Below.refl _ _)) hb1⟩
 ·have b1:¬ nm.toList=[]:=tl0 h1
  have H1:=hide h1
  clear h1
  go_enter Tryz.func37, Tryz.ntmps37
  go_wp2_with fail
  go_ret
  exact TB.no (fun q=>H1.out q.1) (below_al (Below.refl _ _))
set_option maxHeartbeats 2000000 in
set_option maxRecDepth 100000 in
theorem bare_4 (n m:Nat) (nm:ByteArray) (nms:List ByteArray) (vh:Hd) (vl:List (VT m)) (l:List (ET n)) (q:Sl) (w:World) (hr:RE (n + 1) w (⟨4,nm,nms,m + 1,(vh,vl)⟩,l) q) :
  Calls Tryz.prog 37 #[.agg (ecl ⟨4,nm,nms,m + 1,(vh,vl)⟩ q)] w fun e w'=>TB (nm=⟨#[]⟩∧nms=[]∧VZ (m + 1) (vh,vl)) w e w':=by
 obtain ⟨al,cl,hle,hc1,hc2⟩:=hr.tl.len
 obtain ⟨an,cn,hne,hd1,hd2⟩:=hr.1.len
 obtain ⟨x1,y1,z1,x2,y2,z2,x3,y3,z3,x4,y4,z4,hqs⟩:=hr.shape
 subst hqs
 obtain ⟨rfl,rfl,rfl⟩:=Value.slice.inj hle
 obtain ⟨rfl,rfl,rfl⟩:=Value.slice.inj hne
 clear hle hne hc1 hc2 hd1 hd2
 have hE:=hide (fun o=>equal_any (m + 1) (vh,vl) (zr 0,[]) (.slice x3 y3 z3) (.slice x4 y4 z4) (.slice none 0 0) (.slice none 0 0) (w.alloc o) (hr.2.1.below (below_al (o:=o) (Below.refl _ _))) (rd_zero m _ 0))
 show Calls _ _ #[.agg #[.int .i64 4,.string nm,.slice x1 nms.length z1,.slice x2 l.length z2,.int .i64 vh.kind,.bool vh.flag,.bool vh.neg,.string vh.dig,.int .i64 vh.exp,.int .u64 vh.bits,.string vh.text,.slice x3 y3 z3,.slice x4 y4 z4]] _ _
 clear hr
 by_cases h1:nm=⟨#[]⟩
 ·have E1:=hide h1
  rw [h1]
  clear h1
  by_cases h2:nms=[]
  ·have E2:=hide h2
   have zE2:nms.length=0:=by rw [h2];rfl
   rw [zE2]
   clear zE2 h2
   go_enter Tryz.func37, Tryz.ntmps37
   go_wp2_with (go_at_call 82;refine (hE.out _).mono ?_;rintro e w1 ⟨b,rfl,hT,hb1⟩)
   go_ret
   exact ⟨b,rfl,(show Hid _ from ⟨fun q=>⟨(by first|trivial|rfl|exact E1.out),E2.out,hT.1 q⟩,fun q=>hT.2 q.2.2⟩),below_then (below_al (Below.refl _ _)) hb1⟩
  ·have HE2:=hide h2
   go_enter Tryz.func37, Tryz.ntmps37
   go_wp2_with fail
   go_ret
   exact TB.no (fun q=>HE2.out q.2.1) (below_al (Below.refl _ _))
 ·have b1:¬ nm.toList=[]:=tl0 h1
  have H1:=hide h1
  clear h1
  go_enter Tryz.func37, Tryz.ntmps37
  go_wp2_with fail
  go_ret
  exact TB.no (fun q=>H1.out q.1) (below_al (Below.refl _ _))
set_option maxHeartbeats 2000000 in
set_option maxRecDepth 100000 in
theorem bare_12 (n m:Nat) (nm:ByteArray) (nms:List ByteArray) (vh:Hd) (vl:List (VT m)) (l:List (ET n)) (q:Sl) (w:World) (hr:RE (n + 1) w (⟨12,nm,nms,m + 1,(vh,vl)⟩,l) q) :
  Calls Tryz.prog 37 #[.agg (ecl ⟨12,nm,nms,m + 1,(vh,vl)⟩ q)] w fun e w'=>TB (nm=⟨#[]⟩∧nms=[]∧VZ (m + 1) (vh,vl)) w e w':=by
 obtain ⟨al,cl,hle,hc1,hc2⟩:=hr.tl.len
 obtain ⟨an,cn,hne,hd1,hd2⟩:=hr.1.len
 obtain ⟨x1,y1,z1,x2,y2,z2,x3,y3,z3,x4,y4,z4,hqs⟩:=hr.shape
 subst hqs
 obtain ⟨rfl,rfl,rfl⟩:=Value.slice.inj hle
 obtain ⟨rfl,rfl,rfl⟩:=Value.slice.inj hne
 clear hle hne hc1 hc2 hd1 hd2
 have hE:=hide (fun o=>equal_any (m + 1) (vh,vl) (zr 0,[]) (.slice x3 y3 z3) (.slice x4 y4 z4) (.slice none 0 0) (.slice none 0 0) (w.alloc o) (hr.2.1.below (below_al (o:=o) (Below.refl _ _))) (rd_zero m _ 0))
 show Calls _ _ #[.agg #[.int .i64 12,.string nm,.slice x1 nms.length z1,.slice x2 l.length z2,.int .i64 vh.kind,.bool vh.flag,.bool vh.neg,.string vh.dig,.int .i64 vh.exp,.int .u64 vh.bits,.string vh.text,.slice x3 y3 z3,.slice x4 y4 z4]] _ _
 clear hr
 by_cases h1:nm=⟨#[]⟩
 ·have E1:=hide h1
  rw [h1]
  clear h1
  by_cases h2:nms=[]
  ·have E2:=hide h2
   have zE2:nms.length=0:=by rw [h2];rfl
   rw [zE2]
   clear zE2 h2
   go_enter Tryz.func37, Tryz.ntmps37
   go_wp2_with (go_at_call 82;refine (hE.out _).mono ?_;rintro e w1 ⟨b,rfl,hT,hb1⟩)
   go_ret
   exact ⟨b,rfl,(show Hid _ from ⟨fun q=>⟨(by first|trivial|rfl|exact E1.out),E2.out,hT.1 q⟩,fun q=>hT.2 q.2.2⟩),below_then (below_al (Below.refl _ _)) hb1⟩
  ·have HE2:=hide h2
   go_enter Tryz.func37, Tryz.ntmps37
   go_wp2_with fail
   go_ret
   exact TB.no (fun q=>HE2.out q.2.1) (below_al (Below.refl _ _))
 ·have b1:¬ nm.toList=[]:=tl0 h1
  have H1:=hide h1
  clear h1
  go_enter Tryz.func37, Tryz.ntmps37
  go_wp2_with fail
  go_ret
  exact TB.no (fun q=>H1.out q.1) (below_al (Below.refl _ _))
set_option maxHeartbeats 2000000 in
set_option maxRecDepth 100000 in
theorem bare_7 (n m:Nat) (nm:ByteArray) (nms:List ByteArray) (vh:Hd) (vl:List (VT m)) (l:List (ET n)) (q:Sl) (w:World) (hr:RE (n + 1) w (⟨7,nm,nms,m + 1,(vh,vl)⟩,l) q) :
  Calls Tryz.prog 37 #[.agg (ecl ⟨7,nm,nms,m + 1,(vh,vl)⟩ q)] w fun e w'=>TB (nm=⟨#[]⟩∧nms=[]∧l=[]) w e w':=by
 obtain ⟨al,cl,hle,hc1,hc2⟩:=hr.tl.len
 obtain ⟨an,cn,hne,hd1,hd2⟩:=hr.1.len
 obtain ⟨x1,y1,z1,x2,y2,z2,x3,y3,z3,x4,y4,z4,hqs⟩:=hr.shape
 subst hqs
 obtain ⟨rfl,rfl,rfl⟩:=Value.slice.inj hle
 obtain ⟨rfl,rfl,rfl⟩:=Value.slice.inj hne
 clear hle hne hc1 hc2 hd1 hd2
 have hE:=hide (fun o=>equal_any (m + 1) (zr 0,[]) (zr 0,[]) (.slice none 0 0) (.slice none 0 0) (.slice none 0 0) (.slice none 0 0) (w.alloc o) (rd_zero m _ 0) (rd_zero m _ 0))
 show Calls _ _ #[.agg #[.int .i64 7,.string nm,.slice x1 nms.length z1,.slice x2 l.length z2,.int .i64 vh.kind,.bool vh.flag,.bool vh.neg,.string vh.dig,.int .i64 vh.exp,.int .u64 vh.bits,.string vh.text,.slice x3 y3 z3,.slice x4 y4 z4]] _ _
 clear hr
 by_cases h1:nm=⟨#[]⟩
 ·have E1:=hide h1
  rw [h1]
  clear h1
  by_cases h2:nms=[]
  ·have E2:=hide h2
   have zE2:nms.length=0:=by rw [h2];rfl
   rw [zE2]
   clear zE2 h2
   by_cases h3:l=[]
   ·have E3:=hide h3
    have zE3:l.length=0:=by rw [h3];rfl
    rw [zE3]
    clear zE3 h3
    go_enter Tryz.func37, Tryz.ntmps37
    go_wp2_with (go_at_call 82;refine (hE.out _).mono ?_;rintro e w1 ⟨b,rfl,hT,hb1⟩)
    go_ret
    exact ⟨b,rfl,(show Hid _ from ⟨fun q=>⟨(by first|trivial|rfl|exact E1.out),E2.out,E3.out⟩,fun q=>hT.2 rfl⟩),below_then (below_al (Below.refl _ _)) hb1⟩
   ·have HE3:=hide h3
    go_enter Tryz.func37, Tryz.ntmps37
    go_wp2_with fail
    go_ret
    exact TB.no (fun q=>HE3.out q.2.2) (below_al (Below.refl _ _))
  ·have HE2:=hide h2
   go_enter Tryz.func37, Tryz.ntmps37
   go_wp2_with fail
   go_ret
   exact TB.no (fun q=>HE2.out q.2.1) (below_al (Below.refl _ _))
 ·have b1:¬ nm.toList=[]:=tl0 h1
  have H1:=hide h1
  clear h1
  go_enter Tryz.func37, Tryz.ntmps37
  go_wp2_with fail
  go_ret
  exact TB.no (fun q=>H1.out q.1) (below_al (Below.refl _ _))
end Lx
end Go.Proofs.YtcnfchblfcfimaaGreatDoor
namespace Go.Proofs.YtcnfchblfcfimaaGreatDoor
namespace Lx
open Go.RowKit
theorem TB.iff {p p':Prop} {w w':World} {e:Ending} (h:TB p w e w') (k:p↔p'):TB p' w e w':=by
 obtain ⟨b,e1,t,hb⟩:=h
 exact ⟨b,e1,(show Hid _ from ⟨fun q=>k.1 (t.1 q),fun q=>t.2 (k.2 q)⟩),hb⟩
def EBare {α:Type} (h:Eh) (l:List α):Prop:=(1≤h.op∧h.op≤12)∧(h.op=2∨h.op=5∨h.name=⟨#[]⟩)∧(h.op=3∨h.op=6∨h.names=[])∧(h.op=3∨h.op=4∨h.op=6∨h.op=12∨l=[])∧(h.op=7∨VZ h.vn h.val)
set_option maxHeartbeats 2000000 in
set_option maxRecDepth 100000 in
theorem ebare_any (n:Nat) (h:Eh) (l:List (ET n)) (q:Sl) (w:World) (hr:RE (n + 1) w (h,l) q) :
  Calls Tryz.prog 37 #[.agg (ecl h q)] w fun e w'=>TB (EBare h l) w e w':=by
 obtain ⟨op,nm,nms,vn,val⟩:=h
 cases vn with
 | zero=>exact Empty.elim val
 | succ m =>
  obtain ⟨vh,vl⟩:=val
  have key:∀ (k:Int) (p:Prop),(Calls Tryz.prog 37 #[.agg (ecl ⟨k,nm,nms,m + 1,(vh,vl)⟩ q)] w fun e w'=>TB p w e w')→(p↔EBare ⟨k,nm,nms,m + 1,(vh,vl)⟩ l)→Calls Tryz.prog 37 #[.agg (ecl ⟨k,nm,nms,m + 1,(vh,vl)⟩ q)] w fun e w'=>TB (EBare ⟨k,nm,nms,m + 1,(vh,vl)⟩ l) w e w':=fun k p h1 h2=>h1.mono fun e w' h3=>TB.iff h3 h2
  by_cases k1:op=1
  ·subst k1;exact key 1 _ (bare_1 n m nm nms vh vl l q w hr) (by simp [EBare])
  by_cases k2:op=2
  ·subst k2;exact key 2 _ (bare_2 n m nm nms vh vl l q w hr) (by simp [EBare])
  by_cases k3:op=3
  ·subst k3;exact key 3 _ (bare_3 n m nm nms vh vl l q w hr) (by simp [EBare])
  by_cases k4:op=4
  ·subst k4;exact key 4 _ (bare_4 n m nm nms vh vl l q w hr) (by simp [EBare])
  by_cases k5:op=5
  ·subst k5;exact key 5 _ (bare_5 n m nm nms vh vl l q w hr) (by simp [EBare])
  by_cases k6:op=6
  ·subst k6;exact key 6 _ (bare_6 n m nm nms vh vl l q w hr) (by simp [EBare])
  by_cases k7:op=7
  ·subst k7;exact key 7 _ (bare_7 n m nm nms vh vl l q w hr) (by simp [EBare])
  by_cases k8:op=8
  ·subst k8;exact key 8 _ (bare_8 n m nm nms vh vl l q w hr) (by simp [EBare])
  by_cases k9:op=9
  ·subst k9;exact key 9 _ (bare_9 n m nm nms vh vl l q w hr) (by simp [EBare])
  by_cases k10:op=10
  ·subst k10;exact key 10 _ (bare_10 n m nm nms vh vl l q w hr) (by simp [EBare])
  by_cases k11:op=11
  ·subst k11;exact key 11 _ (bare_11 n m nm nms vh vl l q w hr) (by simp [EBare])
  by_cases k12:op=12
  ·subst k12;exact key 12 _ (bare_12 n m nm nms vh vl l q w hr) (by simp [EBare])
  have hx:¬ EBare ⟨op,nm,nms,m + 1,(vh,vl)⟩ l:=by
   rintro ⟨⟨q1,q2⟩,_⟩
   simp only at q1 q2
   omega
  have hx':=hide hx
  obtain ⟨x1,y1,z1,x2,y2,z2,x3,y3,z3,x4,y4,z4,hqs⟩:=hr.shape
  subst hqs
  clear hx hr key
  show Calls _ _ #[.agg #[.int .i64 op,.string nm,.slice x1 y1 z1,.slice x2 y2 z2,.int .i64 vh.kind,.bool vh.flag,.bool vh.neg,.string vh.dig,.int .i64 vh.exp,.int .u64 vh.bits,.string vh.text,.slice x3 y3 z3,.slice x4 y4 z4]] _ _
  go_enter Tryz.func37, Tryz.ntmps37
  go_wp2_with fail
  go_ret
  exact TB.no hx'.out (below_al (Below.refl _ _))
set_option maxHeartbeats 2000000 in
theorem isConst_any (k:Int) (w:World):Calls Tryz.prog 83 #[.int .i64 k] w fun e w'=>TB (k=1∨k=2∨k=3∨k=5) w e w':=by
 by_cases k1:k=1
 ·subst k1
  go_enter Tryz.func83, Tryz.ntmps83
  go_wp2_with fail
  go_ret
  exact TB.yes (by simp) (Below.refl _ _)
 by_cases k2:k=2
 ·subst k2
  go_enter Tryz.func83, Tryz.ntmps83
  go_wp2_with fail
  go_ret
  exact TB.yes (by simp) (Below.refl _ _)
 by_cases k3:k=3
 ·subst k3
  go_enter Tryz.func83, Tryz.ntmps83
  go_wp2_with fail
  go_ret
  exact TB.yes (by simp) (Below.refl _ _)
 by_cases k5:k=5
 ·subst k5
  go_enter Tryz.func83, Tryz.ntmps83
  go_wp2_with fail
  go_ret
  exact TB.yes (by simp) (Below.refl _ _)
 have hx:=hide (show ¬ (k=1∨k=2∨k=3∨k=5) by omega)
 go_enter Tryz.func83, Tryz.ntmps83
 go_wp2_with fail
 go_ret
 exact TB.no hx.out (Below.refl _ _)
end Lx
end Go.Proofs.YtcnfchblfcfimaaGreatDoor
namespace Go.Proofs.YtcnfchblfcfimaaGreatDoor
namespace Lx
open Go.RowKit
structure Ask (F:FuncId) (P:(n:Nat)→ET n→Prop) (S:(n:Nat)→ET n→World→Prop):Prop where
 call:∀ (n:Nat) (x:ET n) (q:Sl) (w:World),RE n w x q→S n x w→Calls Tryz.prog F #[.agg (ecl (ehd n x) q)] w fun e w'=>TB (P n x) w e w'
 low:∀ (n:Nat) (x:ET n) (w W:World),S n x w→Below w.heap.size w W→S n x W
 kid:∀ (n:Nat) (h:Eh) (l:List (ET n)) (w:World),S (n + 1) (h,l) w→∀ i (hi:i<l.length),S n l[i] w
def evA (P:(n:Nat)→ET n→Prop):(n:Nat)→ET n→Prop
 | 0,_=>False
 | n + 1,x=>P (n + 1) x∧∀ i (h:i<x.2.length),evA P n x.2[i]
def such (F:FuncId):Value:=.func (.func F) #[] #[]
def EvOk (F:FuncId) (P:(n:Nat)→ET n→Prop) (S:(n:Nat)→ET n→World→Prop) (n:Nat):Prop:=∀ (x:ET n) (q:Sl) (w:World),RE n w x q→S n x w→Calls Tryz.prog 36 #[.agg (ecl (ehd n x) q),such F] w fun e w'=>TB (evA P n x) w e w'
def Sb (W:World) (i:Nat) (F:FuncId):Prop:=W.heap[i]?=some (.cells #[such F] 40 (0,0))
section
variable {F : FuncId} {P : (n : Nat) → ET n → Prop} {S : (n : Nat) → ET n → World → Prop}
set_option maxHeartbeats 2000000 in
set_option maxRecDepth 100000 in
theorem every1_any (n:Nat) (ih:EvOk F P S n) (x:ET n) (q:Sl) (w:World) (i:Nat) (hr:RE n w x q) (hs:S n x w) (hb:Sb w i F) (A:Ask F P S):Calls Tryz.prog 81 #[.agg (ecl (ehd n x) q),.pointer (some ⟨i,0,none⟩)] w fun e w'=>TB (¬ evA P n x) w e w':=by
 obtain ⟨x1,y1,z1,x2,y2,z2,x3,y3,z3,x4,y4,z4,hqs⟩:=hr.shape
 subst hqs
 have hlt:i<w.heap.size:=(Array.getElem?_eq_some_iff.1 hb).1
 have cs:w.cell? ⟨i,0,none⟩=some (such F):=by unfold World.cell?;rw [hb];rfl
 have hc:=hide (fun o=>ih x ⟨.slice x1 y1 z1,.slice x2 y2 z2,.slice x3 y3 z3,.slice x4 y4 z4⟩ (w.alloc o) (hr.below (below_al (Below.refl _ _))) (A.low _ _ _ _ hs (below_al (Below.refl _ _))))
 clear hr hs hb ih A
 unfold such at cs hc
 unfold ecl
 go_enter Tryz.func81, Tryz.ntmps81
 go_wp2_with (go_at_call 36;refine (hc.out _).mono ?_;rintro e w1 ⟨b,rfl,hT,hb1⟩)
 go_ret
 refine ⟨!b,rfl,(show Hid _ from ⟨fun k he=>?_,fun hne=>?_⟩),below_then (below_al (Below.refl _ _)) hb1⟩
 ·have:=hT.2 he
  rw [this] at k
  cases k
 ·cases b
  ·rfl
  ·exact absurd (hT.1 rfl) hne
theorem Sb.below {W W1:World} {i:Nat} (h:Sb W i F) (hb:Below W.heap.size W W1):Sb W1 i F:=(hb.block _ (Array.getElem?_eq_some_iff.1 h).1).trans h
set_option maxHeartbeats 2000000 in
set_option maxRecDepth 100000 in
theorem eindex_any (n:Nat) (ih:EvOk F P S n) (v:Value) (l:List (ET n)) (w:World) (j:Nat) (hl:EL n w v l) (hs:∀ i (hi:i<l.length),S n l[i] w) (hb:Sb w j F) (A:Ask F P S) :
  Calls Tryz.prog 132 #[v,.func (.func 81) #[] #[.pointer (some ⟨j,0,none⟩)]] w fun e w'=>∃ k:Int,e=.returned (.int .i64 k)∧Hid (0≤k↔∃ i,∃ h:i<l.length,¬ evA P n l[i])∧Below w.heap.size w w':=by
 obtain ⟨al,cl,rfl,hl1,hl2⟩:=hl.len
 have ml:maxLen=9223372036854775807:=rfl
 have HL:=hide hl
 have HS:=hide hs
 have HB:=hide hb
 have HA:=hide A
 have IH:=hide ih
 clear hl hs hb A ih
 go_enter Tryz.func132, Tryz.ntmps132
 go_wp2_with fail
 go_loopw [8] (fun i w'=>∃ k:Nat,i=.int .i64 k∧k≤l.length∧Hid ((∀ i (h1:i<l.length),i<k→evA P n l[i])∧Below w.heap.size w w')) (fun i _=>l.length - (intOf i).toNat)
 case atStart=>exact ⟨0,rfl,Nat.zero_le _,(fun i _ h=>by omega),Below.refl _ _⟩
 case round =>
  obtain ⟨k,rfl,hk,H⟩:=hrel
  by_cases hkl:k<l.length
  ·have hki:(k:Int)<(l.length:Int):=by omega
   have hk63:(k:Int)<9223372036854775807:=by omega
   obtain ⟨b,o,c,he,hbl,hlc,hcm,q,hrg,hrd⟩:=HL.out.at k hkl
   have he':=Value.slice.inj he
   obtain ⟨rfl,_,rfl⟩:=he'
   clear he
   have hrg2:=rangeAt_below hrg H.out.2 hbl
   obtain ⟨x1,y1,z1,x2,y2,z2,x3,y3,z3,x4,y4,z4,hqs⟩:=hrd.shape
   subst hqs
   have q0:=range13 hrg2
   have hc:=hide (fun W (hb:Below w.heap.size w W)=>every1_any n IH.out l[k] ⟨.slice x1 y1 z1,.slice x2 y2 z2,.slice x3 y3 z3,.slice x4 y4 z4⟩ W j (hrd.below hb) (HA.out.low _ _ _ _ (HS.out k hkl) hb) (HB.out.below hb) HA.out)
   clear hrg hrg2 hrd
   unfold ecl at hc
   go_wp2_with (go_at_call 81;refine Sto.out ?_)
   refine Sto.mk ?_
   refine (hc.out _ H.out.2).mono ?_
   rintro e w2 ⟨b2,rfl,hT,hb1⟩
   have hb2:=hide (below_then H.out.2 hb1)
   cases b2
   ·have hEq:Hid (evA P n l[k]):=hide (Classical.byContradiction fun q=>by have:=hT.2 q;cases this)
    go_wp2_with fail
    refine ⟨⟨k + 1,by go_num,by omega,(fun i h1 h3=>?_),hb2.out⟩,by simp [intOf];omega⟩
    by_cases e:i=k
    ·subst e;exact hEq.out
    ·exact H.out.1 i h1 (by omega)
   ·have hne:=hide (hT.1 rfl)
    go_wp2_with fail
    go_ret
    exact ⟨k,rfl,(show Hid _ from ⟨fun _=>⟨k,hkl,hne.out⟩,fun _=>by omega⟩),hb2.out⟩
  ·have hki:¬ ((k:Int)<(l.length:Int)):=by omega
   have hE':=hide (show ∀ i (h1:i<l.length),evA P n l[i] from fun i h1=>H.out.1 i h1 (by omega))
   go_wp2_with fail
   go_ret
   exact ⟨-1,rfl,(show Hid _ from ⟨fun h=>by omega,fun ⟨i,h,q⟩=>absurd (hE'.out i h) q⟩),H.out.2⟩
set_option maxHeartbeats 2000000 in
set_option maxRecDepth 100000 in
theorem econtains_any (n:Nat) (ih:EvOk F P S n) (v:Value) (l:List (ET n)) (w:World) (j:Nat) (hl:EL n w v l) (hs:∀ i (hi:i<l.length),S n l[i] w) (hb:Sb w j F) (A:Ask F P S) :
  Calls Tryz.prog 80 #[v,.func (.func 81) #[] #[.pointer (some ⟨j,0,none⟩)]] w fun e w'=>TB (∃ i,∃ h:i<l.length,¬ evA P n l[i]) w e w':=by
 have hc:=hide (eindex_any n ih v l w j hl hs hb A)
 obtain ⟨al,cl,rfl,hl1,hl2⟩:=hl.len
 obtain ⟨p,hp⟩:∃ p,(∃ i,∃ h:i<l.length,¬ evA P n l[i])=p:=⟨_,rfl⟩
 rw [hp] at hc ⊢
 clear hl hs hb A ih hp
 go_enter Tryz.func80, Tryz.ntmps80
 go_wp2_with (go_at_call 132;refine hc.out.mono ?_;rintro e w1 ⟨k,rfl,hT,hb1⟩)
 go_ret
 exact ⟨_,rfl,(show Hid _ from ⟨fun q=>hT.out.1 (by simpa using q),fun q=>by simpa using hT.out.2 q⟩),hb1⟩
set_option maxHeartbeats 4000000 in
set_option maxRecDepth 100000 in
theorem every_step (hF:F=37∨F=38∨F=39) (n:Nat) (ih:EvOk F P S n) (A:Ask F P S):EvOk F P S (n + 1):=by
 intro x q w hr hs
 obtain ⟨h,l⟩:=x
 obtain ⟨al,cl,hle,hc1,hc2⟩:=hr.tl.len
 obtain ⟨x1,y1,z1,x2,y2,z2,x3,y3,z3,x4,y4,z4,hqs⟩:=hr.shape
 subst hqs
 obtain ⟨rfl,rfl,rfl⟩:=Value.slice.inj hle
 clear hle
 have HR:=hide hr
 have HS:=hide hs
 have HA:=hide A
 have IH:=hide ih
 have hc:=hide (fun W (hb:Below w.heap.size w W)=>A.call (n + 1) (h,l) ⟨.slice x1 y1 z1,.slice x2 l.length z2,.slice x3 y3 z3,.slice x4 y4 z4⟩ W (hr.below hb) (A.low _ _ _ _ hs hb))
 clear hr hs A ih
 have hmf:∀ (fn:Fn) (first cap:Array Value) (w:World),(Instr.makeFunc fn first cap).run Tryz.prog w=.ok (.func fn first cap) w:=fun _ _ _ _=>rfl
 show Calls _ _ #[.agg #[.int .i64 h.op,.string h.name,.slice x1 y1 z1,.slice x2 l.length z2,.int .i64 (vhd h.vn h.val).kind,.bool (vhd h.vn h.val).flag,.bool (vhd h.vn h.val).neg,.string (vhd h.vn h.val).dig,.int .i64 (vhd h.vn h.val).exp,.int .u64 (vhd h.vn h.val).bits,.string (vhd h.vn h.val).text,.slice x3 y3 z3,.slice x4 y4 z4],_] _ _
 unfold such
 simp only [ehd,ecl] at hc
 obtain ⟨B,hB⟩:∃ B,w.alloc (.cells #[.int .i64 h.op,.string h.name,.slice x1 y1 z1,.slice x2 l.length z2,.int .i64 (vhd h.vn h.val).kind,.bool (vhd h.vn h.val).flag,.bool (vhd h.vn h.val).neg,.string (vhd h.vn h.val).dig,.int .i64 (vhd h.vn h.val).exp,.int .u64 (vhd h.vn h.val).bits,.string (vhd h.vn h.val).text,.slice x3 y3 z3,.slice x4 y4 z4] 33)=B:=⟨_,rfl⟩
 have S0:Hid (Sb (B.alloc (.cells #[such F] 40)) (w.heap.size + 1) F):=by
  have:=heap_alloc_last B (.cells #[such F] 40)
  rw [←hB,World.size_alloc] at this
  rw [←hB]
  exact this
 have X0:Hid (Ex (B.alloc (.cells #[such F] 40)) w.heap.size h ⟨.slice x1 y1 z1,.slice x2 l.length z2,.slice x3 y3 z3,.slice x4 y4 z4⟩):=by
  rw [←hB]
  exact (ex_new w h _).below (below_al (Below.refl _ _))
 rw [←hB] at S0 X0
 clear hB B
 unfold such at S0
 rcases hF with rfl|rfl|rfl
 ·go_enter Tryz.func36, Tryz.ntmps36
  go_wp2_with (go_at_call 37;refine Sto.out ?_)
  refine Sto.mk ?_
  refine (hc.out _ (below_al (below_al (Below.refl _ _)))).mono ?_
  rintro e w1 ⟨b,rfl,hT,hb1⟩
  have hT1:=hide hT
  have S1:=hide (S0.out.below hb1)
  have X1:=hide (X0.out.below hb1)
  have B1:=hide (below_then (below_al (below_al (Below.refl _ _))) hb1)
  have x0:=X1.out.cells
  have hc2:=hide (econtains_any n IH.out (.slice x2 l.length z2) l w1 (w.heap.size + 1) (HR.out.tl.below B1.out) (fun i hi=>HA.out.low _ _ _ _ (HA.out.kid n h l w HS.out i hi) B1.out) S1.out HA.out)
  clear hT hb1 S0 X0
  cases b
  ·have hn:=hide (show ¬ P (n + 1) (h,l) from fun q=>by have:=hT1.out.2 q;cases this)
   go_wp2_with fail
   go_ret
   exact TB.no (fun q=>hn.out q.1) B1.out
  ·have hy:=hide (hT1.out.1 rfl)
   go_wp2_with (go_at_call 80;refine Sto.out ?_)
   refine Sto.mk ?_
   refine hc2.out.mono ?_
   rintro e w2 ⟨b2,rfl,hT2,hb2⟩
   have H2:=hide hT2
   have B2:=hide (below_then B1.out hb2)
   clear hT2 hb2
   go_wp2_with fail
   go_ret
   refine ⟨!b2,rfl,(show Hid _ from ⟨fun k=>⟨hy.out,fun i hi=>Classical.byContradiction fun q=>?_⟩,fun hq=>?_⟩),B2.out⟩
   ·have:=H2.out.2 ⟨i,hi,q⟩
    rw [this] at k
    cases k
   ·cases b2
    ·rfl
    ·obtain ⟨i,hi,q⟩:=H2.out.1 rfl
     exact absurd (hq.2 i hi) q
 ·go_enter Tryz.func36, Tryz.ntmps36
  go_wp2_with (go_at_call 38;refine Sto.out ?_)
  refine Sto.mk ?_
  refine (hc.out _ (below_al (below_al (Below.refl _ _)))).mono ?_
  rintro e w1 ⟨b,rfl,hT,hb1⟩
  have hT1:=hide hT
  have S1:=hide (S0.out.below hb1)
  have X1:=hide (X0.out.below hb1)
  have B1:=hide (below_then (below_al (below_al (Below.refl _ _))) hb1)
  have x0:=X1.out.cells
  have hc2:=hide (econtains_any n IH.out (.slice x2 l.length z2) l w1 (w.heap.size + 1) (HR.out.tl.below B1.out) (fun i hi=>HA.out.low _ _ _ _ (HA.out.kid n h l w HS.out i hi) B1.out) S1.out HA.out)
  clear hT hb1 S0 X0
  cases b
  ·have hn:=hide (show ¬ P (n + 1) (h,l) from fun q=>by have:=hT1.out.2 q;cases this)
   go_wp2_with fail
   go_ret
   exact TB.no (fun q=>hn.out q.1) B1.out
  ·have hy:=hide (hT1.out.1 rfl)
   go_wp2_with (go_at_call 80;refine Sto.out ?_)
   refine Sto.mk ?_
   refine hc2.out.mono ?_
   rintro e w2 ⟨b2,rfl,hT2,hb2⟩
   have H2:=hide hT2
   have B2:=hide (below_then B1.out hb2)
   clear hT2 hb2
   go_wp2_with fail
   go_ret
   refine ⟨!b2,rfl,(show Hid _ from ⟨fun k=>⟨hy.out,fun i hi=>Classical.byContradiction fun q=>?_⟩,fun hq=>?_⟩),B2.out⟩
   ·have:=H2.out.2 ⟨i,hi,q⟩
    rw [this] at k
    cases k
   ·cases b2
    ·rfl
    ·obtain ⟨i,hi,q⟩:=H2.out.1 rfl
     exact absurd (hq.2 i hi) q
 ·go_enter Tryz.func36, Tryz.ntmps36
  go_wp2_with (go_at_call 39;refine Sto.out ?_)
  refine Sto.mk ?_
  refine (hc.out _ (below_al (below_al (Below.refl _ _)))).mono ?_
  rintro e w1 ⟨b,rfl,hT,hb1⟩
  have hT1:=hide hT
  have S1:=hide (S0.out.below hb1)
  have X1:=hide (X0.out.below hb1)
  have B1:=hide (below_then (below_al (below_al (Below.refl _ _))) hb1)
  have x0:=X1.out.cells
  have hc2:=hide (econtains_any n IH.out (.slice x2 l.length z2) l w1 (w.heap.size + 1) (HR.out.tl.below B1.out) (fun i hi=>HA.out.low _ _ _ _ (HA.out.kid n h l w HS.out i hi) B1.out) S1.out HA.out)
  clear hT hb1 S0 X0
  cases b
  ·have hn:=hide (show ¬ P (n + 1) (h,l) from fun q=>by have:=hT1.out.2 q;cases this)
   go_wp2_with fail
   go_ret
   exact TB.no (fun q=>hn.out q.1) B1.out
  ·have hy:=hide (hT1.out.1 rfl)
   go_wp2_with (go_at_call 80;refine Sto.out ?_)
   refine Sto.mk ?_
   refine hc2.out.mono ?_
   rintro e w2 ⟨b2,rfl,hT2,hb2⟩
   have H2:=hide hT2
   have B2:=hide (below_then B1.out hb2)
   clear hT2 hb2
   go_wp2_with fail
   go_ret
   refine ⟨!b2,rfl,(show Hid _ from ⟨fun k=>⟨hy.out,fun i hi=>Classical.byContradiction fun q=>?_⟩,fun hq=>?_⟩),B2.out⟩
   ·have:=H2.out.2 ⟨i,hi,q⟩
    rw [this] at k
    cases k
   ·cases b2
    ·rfl
    ·obtain ⟨i,hi,q⟩:=H2.out.1 rfl
     exact absurd (hq.2 i hi) q
theorem every_any (hF:F=37∨F=38∨F=39) (A:Ask F P S):∀ n,EvOk F P S n
 | 0=>fun x=>Empty.elim x
 | n + 1=>every_step hF n (every_any hF A n) A
def bareP:(n:Nat)→ET n→Prop
 | 0,_=>False
 | _ + 1,x=>EBare x.1 x.2
theorem askBare:Ask 37 bareP (fun _ _ _=>True):=⟨fun n x q w hr _=>by
 cases n with
 | zero=>exact Empty.elim x
 | succ n=>exact ebare_any n x.1 x.2 q w hr,fun _ _ _ _ _ _=>trivial,fun _ _ _ _ _ _ _=>trivial⟩
end
end Lx
end Go.Proofs.YtcnfchblfcfimaaGreatDoor
