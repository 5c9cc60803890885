/- Merged by program: EhTell, EiAll, EjFlat, EkBuild, EmRun. -/
import Derived.RangeFuncNested
import Derived.RangeFuncBound
import Derived.Shelf.RegionOpen
import Derived.OwnWalkIn
import Derived.LoopNIn
import Derived.LoopIn
import Derived.Test.YthodiandebahdaaGreatDoorZq21
namespace Go.Proofs.YthodiandebahdaaGreatDoor
open Go.RowKit
set_option linter.unusedSimpArgs false
set_option linter.unusedVariables false
set_option maxHeartbeats 8000000
section
open Go.RowKit Go.Shelf
attribute [local go_sem] Oper.semAt_some
def hd0 (h:Hd):Hd:={h with names:=[]}
def evN (s:ByteArray):Hd:={zr 10 with text:=s}
def evE:Hd:=zr 11
def preN (h:Hd)(i:Nat):List Hd:=if h.kind=8 then [evN ((h.names[i]?).getD ByteArray.empty)] else []
def fl:(n:Nat)→VT n→List Hd
 | 0,_=>[]
 | n+1,x=>hd0 x.1 :: (if x.1.kind<7 then [] else ((List.range x.2.length).map (fun i=>preN x.1 i++((x.2[i]?).elim [] (fl n)))).flatten++[evE])
def kid (n:Nat)(h:Hd)(l:List (VT n))(i:Nat):List Hd:=preN h i++((l[i]?).elim [] (fl n))
def kids (n:Nat)(h:Hd)(l:List (VT n))(k:Nat):List Hd:=((List.range k).map (kid n h l)).flatten
theorem fl_succ (n:Nat)(h:Hd)(l:List (VT n)):fl (n+1) (h,l)=hd0 h :: (if h.kind<7 then [] else kids n h l l.length++[evE]):=rfl
theorem kids_zero (n:Nat)(h:Hd)(l:List (VT n)):kids n h l 0=[]:=rfl
theorem kids_succ (n:Nat)(h:Hd)(l:List (VT n))(k:Nat)(hk:k<l.length):kids n h l (k+1)=kids n h l k++preN h k++fl n l[k]:=by
 simp [kids,List.range_succ,kid,hk]
theorem kids_le (n:Nat)(h:Hd)(l:List (VT n)) {k:Nat} (hk:k≤l.length):kids n h l k <+: kids n h l l.length:=by
 obtain ⟨d,hd⟩:=Nat.exists_eq_add_of_le hk
 rw [hd]
 unfold kids
 rw [List.range_add,List.map_append,List.flatten_append]
 exact List.prefix_append _ _
end
section
open Go.RowKit Go.Shelf
attribute [local go_sem] Oper.semAt_some
end
section
open Go.RowKit Go.Shelf
attribute [local go_sem] Oper.semAt_some
def ecs (l:List Hd):List Value:=l.flatMap (fun h=>(evs h).toList)
def Stop (p:Prop):Prop:=p
theorem Stop.out {p:Prop} (h:Stop p):p:=h
theorem Stop.mk {p:Prop} (h:p):Stop p:=h
theorem ecs_app (a b:List Hd):ecs (a++b)=ecs a++ecs b:=by simp [ecs]
theorem ecs_one (h:Hd):ecs [h]=(evs h).toList:=by simp [ecs]
theorem infoE:(Tryz.prog.info? 76).map (fun i=>(i.zero,i.size,i.bytes))=some (some (.agg #[.int .i64 0,.bool false,.bool false,.string ⟨#[]⟩,.int .i64 0,.int .u64 0,.string ⟨#[]⟩]),7,72):=by kernel_rfl
theorem preN_len (h:Hd)(i:Nat):(preN h i).length≤1:=by unfold preN;split <;> simp
theorem fl_len:∀ (n:Nat)(x:VT n),(fl n x).length+1≤4 * siz n x
 | 0,x=>Empty.elim x
 | n+1,(h,l)=>by
  have hk:∀ k,k≤l.length→(kids n h l k).length≤4 * suml ((l.take k).map (siz n)):=by
   intro k
   induction k with
   | zero=>intro _;simp [kids_zero]
   | succ k ih =>
    intro hk
    have h1:=ih (by omega)
    have h2:=fl_len n l[k]
    have h3:=preN_len h k
    rw [kids_succ n h l k (by omega),List.take_succ_eq_append_getElem (by omega),List.map_append,suml_app]
    simp only [List.length_append,List.map_cons,List.map_nil,suml]
    omega
  have h1:=hk l.length (Nat.le_refl _)
  rw [List.take_length] at h1
  rw [fl_succ]
  simp only [siz,List.length_cons]
  split
  ·simp;omega
  ·simp only [List.length_append,List.length_cons,List.length_nil];omega
theorem fl_pos:∀ (n:Nat)(x:VT n),1≤(fl n x).length
 | 0,x=>Empty.elim x
 | n+1,(h,l)=>by rw [fl_succ];simp
end
def EL (W:World)(b o:Nat)(es:List Hd):Prop:=∀ i (h:i<es.length),W.rangeAt b (o+i * 7) (evs es[i]).toList
theorem EL.below {w W:World} {b o:Nat} {es:List Hd} (h:EL w b o es)(hb:Below w.heap.size w W)(hlt:b<w.heap.size):EL W b o es:=fun i hi=>rangeAt_below (h i hi) hb hlt
theorem EL.tail {w:World} {b o:Nat} {e:Hd} {es:List Hd} (h:EL w b o (e :: es)):EL w b (o+7) es:=fun i hi=>by
 have:=h (i+1) (by simp;omega)
 rw [show o+7+i * 7=o+(i+1) * 7 by omega]
 exact this
theorem EL.drop {w:World} {b o:Nat} {ps es:List Hd} (h:EL w b o (ps++es)):EL w b (o+ps.length * 7) es:=by
 induction ps generalizing o with
 | nil=>simpa using h
 | cons a ps ih =>
  have:=ih (EL.tail h)
  rw [show o+(a :: ps).length * 7=o+7+ps.length * 7 by simp;omega]
  exact this
theorem range7 {w:World} {b o:Nat} {h:Hd} (k:w.rangeAt b o (evs h).toList):w.cell? ⟨b,o,none⟩=some (.int .i64 h.kind)∧w.cell? ⟨b,o+1,none⟩=some (.bool h.flag)∧w.cell? ⟨b,o+2,none⟩=some (.bool h.neg)∧w.cell? ⟨b,o+3,none⟩=some (.string h.dig)∧w.cell? ⟨b,o+4,none⟩=some (.int .i64 h.exp)∧w.cell? ⟨b,o+5,none⟩=some (.int .u64 h.bits)∧w.cell? ⟨b,o+6,none⟩=some (.string h.text) :=
 ⟨k 0 _ rfl,k 1 _ rfl,k 2 _ rfl,k 3 _ rfl,k 4 _ rfl,k 5 _ rfl,k 6 _ rfl⟩
theorem EL.head {w:World} {b o:Nat} {e:Hd} {es:List Hd} (h:EL w b o (e :: es)):w.rangeAt b o (evs e).toList:=by
 have:=h 0 (by simp)
 simpa using this
theorem head_ex (h:Hd)(w:World):Calls Tryz.prog 66 #[.agg (evs h)] w fun e w'=>e=.returned (.agg (vals h (.slice none 0 0) (.slice none 0 0)))∧w'=(w.alloc (.cells (evs h) 76)).alloc (.cells (vals h (.slice none 0 0) (.slice none 0 0)) 29):=by
 unfold evs
 go_enter Tryz.func66, Tryz.ntmps66
 go_wp2
 exact bodyPost_ret (v:=.agg #[.int .i64 h.kind,.bool h.flag,.bool h.neg,.string h.dig,.int .i64 h.exp,.int .u64 h.bits,.string h.text,.slice none 0 0,.slice none 0 0]) (by simp [results,Tryz.results66,go_sem]) rfl ⟨rfl,rfl⟩
def NF:(n:Nat)→VT n→Prop
 | 0,_=>True
 | n+1,x=>1≤x.1.kind∧x.1.kind≤9∧(x.1.kind<7→x.2=[])∧(x.1.kind=8→x.1.names.length=x.2.length)∧(x.1.kind≠8→x.1.names=[])∧∀ y∈x.2,NF n y
def post (n:Nat)(h:Hd)(l:List (VT n))(rest:List Hd)(k:Nat):List Hd:=((List.range' k (l.length - k)).map (kid n h l)).flatten++evE :: rest
theorem post_end (n:Nat)(h:Hd)(l:List (VT n))(rest:List Hd):post n h l rest l.length=evE :: rest:=by simp [post]
theorem post_succ (n:Nat)(h:Hd)(l:List (VT n))(rest:List Hd)(k:Nat)(hk:k<l.length):post n h l rest k=preN h k++(fl n l[k]++post n h l rest (k+1)):=by
 unfold post
 rw [show l.length - k=(l.length - (k+1))+1 by omega,List.range'_succ]
 simp [kid,hk]
theorem post_zero (n:Nat)(h:Hd)(l:List (VT n))(rest:List Hd)(h7:¬ h.kind<7):fl (n+1) (h,l)++rest=hd0 h :: post n h l rest 0:=by
 rw [fl_succ,if_neg h7]
 unfold post kids
 rw [List.range_eq_range']
 simp
theorem post_ne (n:Nat)(h:Hd)(l:List (VT n))(rest:List Hd)(k:Nat):post n h l rest k≠[]:=by simp [post]
theorem post_leaf (n:Nat)(h:Hd)(l:List (VT n))(rest:List Hd)(h7:h.kind<7):fl (n+1) (h,l)++rest=hd0 h :: rest:=by
 rw [fl_succ,if_pos h7]
 rfl
theorem post_len (n:Nat)(h:Hd)(l:List (VT n))(rest:List Hd)(k:Nat):l.length - k≤(post n h l rest k).length:=by
 obtain ⟨d,hd⟩:∃ d,d=l.length - k:=⟨_,rfl⟩
 induction d generalizing k with
 | zero=>omega
 | succ d ih =>
  have hk:k<l.length:=by omega
  have h1:=ih (k+1) (by omega)
  have h2:=fl_pos n l[k]
  rw [post_succ n h l rest k hk]
  simp only [List.length_append]
  omega
theorem fl_head:∀ (n:Nat)(x:VT n),∃ t,fl n x=hd0 (vhd n x) :: t
 | 0,x=>Empty.elim x
 | n+1,(h,l)=>⟨_,fl_succ n h l⟩
theorem NF.kind:∀ {n:Nat} {x:VT n},NF n x→1≤(vhd n x).kind∧(vhd n x).kind≤9
 | 0,x,_=>Empty.elim x
 | n+1,x,h=>⟨h.1,h.2.1⟩
theorem sl_eq {b o1 o2 n c1 c2:Nat} (h:o1=o2)(k:c1=c2):Value.slice (some ⟨b,o1,none⟩) n c1=.slice (some ⟨b,o2,none⟩) n c2:=by rw [h,k]
structure LJ (n:Nat)(l:List (VT n))(h:Hd)(w:World)(V k:Nat)(nms:List ByteArray)(nv lv:Value)(W:World):Prop where
 below:Below w.heap.size w W
 hV:w.heap.size≤V
 box:Bx W V h nv lv
 nrow:OwnS W (V+1) nv nms
 row:∃ xs,W.ownsRow (V+1) 29 9 lv k xs∧∀ j (hj:j<l.length),j<k→∃ ns ls s e,KR n W l[j] ns ls s e∧V<s∧(∀ g,lv.ownBlock=some g→g<s∨e≤g)∧(∀ g,nv.ownBlock=some g→g<s∨e≤g)∧∀ r v,(vals (vhd n l[j]) ns ls).toList[r]?=some v→xs[j * 9+r]?=some v
section
variable {n : Nat} {l : List (VT n)} {h : Hd} {w W : World} {V k : Nat} {nms : List ByteArray} {nv lv : Value}
theorem LJ.then {W1:World} (H:LJ n l h w V k nms nv lv W)(hb:Below W.heap.size W W1):LJ n l h w V k nms nv lv W1:=by
 obtain ⟨xs,hx,hall⟩:=H.row
 refine ⟨H.below.trans (hb.mono H.below.size),H.hV,H.box.below hb,ownsRow_of H.nrow fun g _ hg=>hb.block g hg,xs,ownsRow_of hx fun g _ hg=>hb.block g hg,fun j hj hjk=>?_⟩
 obtain ⟨ns,ls,s,e,k1,k2,k3,k4,k5⟩:=hall j hj hjk
 exact ⟨ns,ls,s,e,k1.move (Nat.le_trans k1.2.1 hb.size) (fun q q1 q2=>hb.block q (Nat.lt_of_lt_of_le q2 k1.2.1)),k2,k3,k4,k5⟩
theorem rows_ne {B nn m:Nat} {xs ys:List Value} {g:Nat} (h1:W.ownsRow B 9 1 nv nn xs)(h2:W.ownsRow B 29 9 lv m ys)(e1:nv.ownBlock=some g)(e2:lv.ownBlock=some g):False:=by
 rcases h1.2 with ⟨rfl,_⟩|⟨g1,cap,cur,rfl,_,hg1,_⟩
 ·cases e1
 ·rcases h2.2 with ⟨rfl,_⟩|⟨g2,cap,cur,rfl,_,hg2,_⟩
  ·cases e2
  ·cases e1;cases e2
   rw [hg1] at hg2
   cases hg2
theorem Bx.set7 {ns ls u:Value} {i:Nat} (q:Bx W i h ns ls):Bx (W.setCell ⟨i,7,none⟩ u) i h u ls:=by
 refine ⟨?_⟩
 rw [setCell_eq_setRow W i 7 _ _ (0,0) _ q.at_,setRow_heap W i _ _ _ (0,0) q.at_]
 rfl
theorem Bx.set8 {ns ls u:Value} {i:Nat} (q:Bx W i h ns ls):Bx (W.setCell ⟨i,8,none⟩ u) i h ns u:=by
 refine ⟨?_⟩
 rw [setCell_eq_setRow W i 8 _ _ (0,0) _ q.at_,setRow_heap W i _ _ _ (0,0) q.at_]
 rfl
theorem LJ.name {w3 w4:World} {nv':Value} {s:ByteArray} (H:LJ n l h w V k nms nv lv W)(hb:Below W.heap.size W w3)(hg:w3.grownBy w4 nv.ownBlock)(ho:w4.ownsRow (V+1) 9 1 nv' (nms.length+1) (scs nms++[.string s]))(hat:nv'.ownBlock=nv.ownBlock∨nv'.ownBlock=some w3.heap.size) :
  LJ n l h w V k (nms++[s]) nv' lv (w4.setCell ⟨V,7,none⟩ nv'):=by
 have hVl:=H.box.lt
 have H3:=H.then hb
 obtain ⟨xs,hx,hall⟩:=H3.row
 have hnl:=World.ownsRow.lt H3.nrow
 have hll:=World.ownsRow.lt hx
 have z3:=hb.size
 have z4:=hg.size
 have hV3:=H3.box.lt
 have bxx:Bx w4 V h nv lv:=⟨(hg.block V hV3 (fun e=>by have:=(hnl V e.symm).1;omega)).trans H3.box.at_⟩
 have hne:∀ g,lv.ownBlock=some g→nv.ownBlock≠some g:=fun g e2 e1=>rows_ne H3.nrow hx e1 e2
 have hol:=World.ownsRow.lt ho
 refine ⟨((H3.below.grown hg H3.below.size fun g e=>Nat.le_trans H.hV (by have:=(hnl g e).1;omega)).setCell H.hV _),H.hV,bxx.set7,?_,xs,?_,fun j hj hjk=>?_⟩
 ·have ho2:OwnS w4 (V+1) nv' (nms++[s]):=by unfold OwnS;simpa [scs] using ho
  exact ownsRow_of ho2 fun g e hg'=>heap_set_ne (by have:=(hol g e).1;omega)
 ·refine ownsRow_of hx fun g e hg'=>?_
  rw [heap_set_ne (by have:=(hll g e).1;omega),hg.block g hg' (fun e1=>hne g e e1.symm)]
 ·obtain ⟨ns,ls,s',e,k1,k2,k3,k4,k5⟩:=hall j hj hjk
  refine ⟨ns,ls,s',e,k1.move (by simp;have:=k1.2.1;omega) ?_,k2,k3,?_,k5⟩
  ·intro q q1 q2
   have:=k1.2.1
   rw [heap_set_ne (by omega),hg.block q (by omega) (fun e1=>by rcases k4 q e1.symm with h|h <;> omega)]
  ·intro g e1
   rcases hat with h|h
   ·exact k4 g (h ▸ e1)
   ·rw [h] at e1;cases e1;right;exact k1.2.1
theorem LJ.push {w2 w3 w4:World} {lv':Value} {ns ls:Value} {xs:List Value} (H:LJ n l h w V k nms nv lv W)(hk:k<l.length)
  (hx:W.ownsRow (V+1) 29 9 lv k xs)
  (hall:∀ j (hj:j<l.length),j<k→∃ ns ls s e,KR n W l[j] ns ls s e∧V<s∧(∀ g,lv.ownBlock=some g→g<s∨e≤g)∧(∀ g,nv.ownBlock=some g→g<s∨e≤g)∧∀ r v,(vals (vhd n l[j]) ns ls).toList[r]?=some v→xs[j * 9+r]?=some v)
  (hc:KR n w2 l[k] ns ls (W.heap.size+1) w2.heap.size)(z2:w2.heap.size≤w3.heap.size)(a1:∀ q,q<W.heap.size→w3.heap[q]?=W.heap[q]?)(a2:∀ q,W.heap.size+1≤q→q<w2.heap.size→w3.heap[q]?=w2.heap[q]?)
  (hbw:Below w.heap.size w w3)(hg:w3.grownBy w4 lv.ownBlock)
  (ho:w4.ownsRow (V+1) 29 9 lv' (k+1) (xs++(vals (vhd n l[k]) ns ls).toList))(hat:lv'.ownBlock=lv.ownBlock∨lv'.ownBlock=some w3.heap.size) :
  LJ n l h w V (k+1) nms nv lv' (w4.setCell ⟨V,8,none⟩ lv'):=by
 have hVl:=H.box.lt
 have hnl:=World.ownsRow.lt H.nrow
 have hll:=World.ownsRow.lt hx
 have z1:=hc.1
 have z4:=hg.size
 have hne:∀ g,nv.ownBlock=some g→lv.ownBlock≠some g:=fun g e1 e2=>rows_ne H.nrow hx e1 e2
 have hol:=World.ownsRow.lt ho
 have old:∀ q,q<W.heap.size→lv.ownBlock≠some q→w4.heap[q]?=W.heap[q]?:=fun q q1 q2=>(hg.block q (by omega) (fun e=>q2 e.symm)).trans (a1 q q1)
 have bxx:Bx w4 V h nv lv:=⟨(old V hVl (fun e=>by have:=(hll V e).1;omega)).trans H.box.at_⟩
 refine ⟨((hbw.grown hg hbw.size fun g e=>Nat.le_trans H.hV (by have:=(hll g e).1;omega)).setCell H.hV _),H.hV,bxx.set8,?_,_,ownsRow_of ho fun g e hg'=>heap_set_ne (by have:=(hol g e).1;omega),fun j hj hjk=>?_⟩
 ·refine ownsRow_of H.nrow fun g e hg'=>?_
  rw [heap_set_ne (by have:=(hnl g e).1;omega)]
  exact old g hg' (hne g e)
 ·by_cases hjk':j<k
  ·obtain ⟨ns',ls',s,e,k1,k2,k3,k4,k5⟩:=hall j hj hjk'
   refine ⟨ns',ls',s,e,k1.move (by simp;have:=k1.2.1;omega) ?_,k2,?_,k4,?_⟩
   ·intro q q1 q2
    have:=k1.2.1
    rw [heap_set_ne (by omega)]
    exact old q (by omega) (fun e1=>by rcases k3 q e1 with h|h <;> omega)
   ·intro g hg'
    rcases hat with h|h
    ·exact k3 g (h ▸ hg')
    ·rw [h] at hg';cases hg';right;have:=k1.2.1;omega
   ·intro r v hr
    have:=k5 r v hr
    rw [List.getElem?_append_left ((List.getElem?_eq_some_iff.1 this).1)]
    exact this
  ·obtain rfl:j=k:=by omega
   refine ⟨ns,ls,W.heap.size+1,w2.heap.size,hc.move (by simp;omega) ?_,by omega,?_,?_,?_⟩
   ·intro q q1 q2
    rw [heap_set_ne (by omega),hg.block q (by omega) (fun e1=>by have:=(hll q e1.symm).2;omega)]
    exact a2 q q1 q2
   ·intro g hg'
    rcases hat with h|h
    ·left;have:=(hll g (h ▸ hg')).2;omega
    ·rw [h] at hg';cases hg';right;omega
   ·intro g hg'
    left;have:=(hnl g hg').2;omega
   ·intro r v hr
    have hl:xs.length=j * 9:=hx.1
    rw [List.getElem?_append_right (by omega),hl,Nat.add_sub_cancel_left]
    exact hr
theorem LJ.done {W1:World} (H:LJ n l h w V l.length h.names nv lv W)(hs:W1.heap.size=W.heap.size)(hb:∀ q,V<q→W1.heap[q]?=W.heap[q]?):KR (n+1) W1 (h,l) nv lv w.heap.size W1.heap.size:=by
 obtain ⟨xs,hx,hall⟩:=H.row
 have hB:=H.below.size
 have hVw:=H.hV
 have hVl:=H.box.lt
 refine ⟨by omega,Nat.le_refl _,fun W' h'=>⟨?_,?_⟩⟩
 ·have ho:=H.nrow
  have hr:=World.ownsRow.lt ho
  have ho2:=ho
  obtain ⟨h0,h1⟩:=ho
  rcases h1 with ⟨rfl,e⟩|⟨g,cap,cur,rfl,k1,k2,k3,k4,k5,k6⟩
  ·exact Or.inl ⟨rfl,List.eq_nil_of_length_eq_zero e⟩
  ·have hg:=(hr g rfl).2
   have hg2:=(hr g rfl).1
   have hsame:W'.heap[g]?=W.heap[g]?:=by rw [h' g (by omega) (by omega),hb g (by omega)]
   refine Or.inr ⟨g,0,cap,none,rfl,k3,k4,fun _=>⟨rfl,?_⟩,fun i hi=>?_⟩
   ·by_cases hlt:g<W'.heap.size
    ·exact hlt
    ·rw [k2,Array.getElem?_eq_none (by omega)] at hsame;cases hsame
   ·rw [Nat.zero_add,World.cell?_of_block (a:=⟨g,i,none⟩) hsame,World.ownsRow.cellAt ho2 i (by simpa using hi)]
    simp [scs,hi]
 ·have hr:=World.ownsRow.lt hx
  have hx2:=hx
  obtain ⟨h0,h1⟩:=hx
  rcases h1 with ⟨rfl,e⟩|⟨g,cap,cur,rfl,k1,k2,k3,k4,k5,k6⟩
  ·exact Or.inl ⟨rfl,List.eq_nil_of_length_eq_zero e⟩
  ·have hg:=(hr g rfl).2
   have hg2:=(hr g rfl).1
   have hsame:W'.heap[g]?=W.heap[g]?:=by rw [h' g (by omega) (by omega),hb g (by omega)]
   refine Or.inr ⟨g,0,cap,none,rfl,k3,k4,fun _=>⟨rfl,?_⟩,fun i hi=>?_⟩
   ·by_cases hlt:g<W'.heap.size
    ·exact hlt
    ·rw [k2,Array.getElem?_eq_none (by omega)] at hsame;cases hsame
   ·obtain ⟨ns',ls',s,e,q1,q2,q3,q3',q4⟩:=hall i hi hi
    refine ⟨ns',ls',?_,q1.2.2 W' fun q r1 r2=>?_⟩
    ·intro r v hrv
     have hq:=q4 r v hrv
     have hlt:=(List.getElem?_eq_some_iff.1 hq).1
     rw [Nat.zero_add,World.cell?_of_block (a:=⟨g,i * 9+r,none⟩) hsame,World.ownsRow.cellAt hx2 _ (by rw [h0] at hlt;exact hlt)]
     exact hq
    ·have:=q1.2.1
     rw [h' q (by omega) (by omega),hb q (by omega)]
theorem LJ.start (hb:Below w.heap.size w W)(hV:w.heap.size≤V)(box:Bx W V h (.slice none 0 0) (.slice none 0 0)):LJ n l h w V 0 [] (.slice none 0 0) (.slice none 0 0) W :=
 ⟨hb,hV,box,World.ownsRow_nil _ _ _ _,[],World.ownsRow_nil _ _ _ _,fun j _ hj=>by omega⟩
theorem range_new_at (w:World)(g:Nat)(h:Hd)(ns ls:Value)(hg:g=w.heap.size):(w.alloc (.cells (vals h ns ls) 29)).rangeAt g 0 (vals h ns ls).toList:=by subst hg;exact range_new w h ns ls
theorem own_shape {W:World} {B:Nat} {T:TypeId} {sz:Nat} {v:Value} {n:Nat} {xs:List Value} (h:W.ownsRow B T sz v n xs):∃ a c,v=.slice a n c:=by
 rcases h.2 with ⟨rfl,rfl⟩|⟨g,cap,cur,rfl,_⟩
 ·exact ⟨_,_,rfl⟩
 ·exact ⟨_,_,rfl⟩
theorem LJ.name_low {w3 w4:World} {nv':Value} (H:LJ n l h w V k nms nv lv W)(hb:Below W.heap.size W w3)(hg:w3.grownBy w4 nv.ownBlock)(q:Nat)(hq:q<V):(w4.setCell ⟨V,7,none⟩ nv').heap[q]?=W.heap[q]?:=by
 have hVl:=H.box.lt
 have hnl:=World.ownsRow.lt H.nrow
 rw [heap_set_ne (by omega),hg.block q (by have:=hb.size;omega) (fun e=>by have:=(hnl q e.symm).1;omega),hb.block q (by omega)]
theorem LJ.name_box {w3 w4:World} (H:LJ n l h w V k nms nv lv W)(hb:Below W.heap.size W w3)(hg:w3.grownBy w4 nv.ownBlock):Bx w4 V h nv lv:=by
 have hVl:=H.box.lt
 have hnl:=World.ownsRow.lt H.nrow
 refine ⟨?_⟩
 rw [hg.block V (by have:=hb.size;omega) (fun e=>by have:=(hnl V e.symm).1;omega),hb.block V (by omega)]
 exact H.box.at_
theorem LJ.push_low {w3 w4:World} {lv':Value} {xs:List Value} (H:LJ n l h w V k nms nv lv W)(hx:W.ownsRow (V+1) 29 9 lv k xs)(z:W.heap.size≤w3.heap.size)(a1:∀ q,q<W.heap.size→w3.heap[q]?=W.heap[q]?)(hg:w3.grownBy w4 lv.ownBlock)(q:Nat)(hq:q<V):(w4.setCell ⟨V,8,none⟩ lv').heap[q]?=W.heap[q]?:=by
 have hVl:=H.box.lt
 have hll:=World.ownsRow.lt hx
 rw [heap_set_ne (by omega),hg.block q (by omega) (fun e=>by have:=(hll q e.symm).1;omega),a1 q (by omega)]
theorem LJ.push_box {w3 w4:World} {xs:List Value} (H:LJ n l h w V k nms nv lv W)(hx:W.ownsRow (V+1) 29 9 lv k xs)(z:W.heap.size≤w3.heap.size)(a1:∀ q,q<W.heap.size→w3.heap[q]?=W.heap[q]?)(hg:w3.grownBy w4 lv.ownBlock):Bx w4 V h nv lv:=by
 have hVl:=H.box.lt
 have hll:=World.ownsRow.lt hx
 refine ⟨?_⟩
 rw [hg.block V (by omega) (fun e=>by have:=(hll V e.symm).1;omega),a1 V (by omega)]
 exact H.box.at_
end
def sB (h:Hd):Bool:=decide (1≤h.kind) && (decide (h.kind≤9) && (!(strip h).flag && (!(strip h).neg && (decide ((strip h).dig.size=0) && (decide ((strip h).exp=0) && (decide ((strip h).bits=0) && (decide ((strip h).text.size=0) && (h.names.isEmpty && ((h.kind != 3 || isN h.neg h.dig h.exp) && ((h.kind != 5 || okT h.text) && (h.kind != 9 || okT h.text)))))))))))
def mayB (h:Hd):Bool:=sB (if h.kind=9∨h.kind=10 then {h with kind:=9} else if h.kind=11 then {h with kind:=1} else h)
theorem ba_empty (b:ByteArray):b.size=0↔b=⟨#[]⟩:=by
 constructor
 ·intro h
  obtain ⟨d⟩:=b
  have:d.size=0:=h
  rw [Array.eq_empty_of_size_eq_zero this]
 ·rintro rfl;rfl
theorem sB_iff (h:Hd):sB h=true↔1≤h.kind∧h.kind≤9∧strip h=zr h.kind∧h.names=[]∧(h.kind=3→isN h.neg h.dig h.exp=true)∧(h.kind=5→okT h.text=true)∧(h.kind=9→okT h.text=true):=by
 have hs:strip h=zr h.kind↔(strip h).flag=false∧(strip h).neg=false∧(strip h).dig=⟨#[]⟩∧(strip h).exp=0∧(strip h).bits=0∧(strip h).text=⟨#[]⟩∧(strip h).names=[]:=by
  have:strip h=⟨h.kind,(strip h).flag,(strip h).neg,(strip h).dig,(strip h).exp,(strip h).bits,(strip h).text,(strip h).names⟩:=rfl
  constructor
  ·intro e;rw [e];exact ⟨rfl,rfl,rfl,rfl,rfl,rfl,rfl⟩
  ·rintro ⟨e1,e2,e3,e4,e5,e6,e7⟩
   rw [this,e1,e2,e3,e4,e5,e6,e7];rfl
 have hnm:h.names=[]→(strip h).names=[]:=by
  intro e
  show (bif h.kind==8 then [] else h.names)=[]
  rw [e];cases (h.kind==8) <;> rfl
 have im:∀ (k:Int)(b:Bool),((h.kind != k || b)=true)↔(h.kind=k→b=true):=by
  intro k b
  by_cases e:h.kind=k
  ·simp [e]
  ·simp [e]
 unfold sB
 simp only [Bool.and_eq_true,decide_eq_true_eq,Bool.not_eq_true',List.isEmpty_iff,im,ba_empty,hs]
 constructor
 ·rintro ⟨h1,h2,h3,h4,h5,h6,h7,h8,h9,h10,h11,h12⟩
  exact ⟨h1,h2,⟨h3,h4,h5,h6,h7,h8,hnm h9⟩,h9,h10,h11,h12⟩
 ·rintro ⟨h1,h2,⟨h3,h4,h5,h6,h7,h8,_⟩,h9,h10,h11,h12⟩
  exact ⟨h1,h2,h3,h4,h5,h6,h7,h8,h9,h10,h11,h12⟩
theorem isv_null1:IsV 1 null1:=⟨⟨by decide,by decide,rfl,Or.inr rfl⟩,⟨fun h=>(by cases h),fun h=>(by cases h),fun h=>(by cases h),fun h=>(by cases h)⟩,fun y hy=>by simp [null1] at hy⟩
theorem strip_names (h:Hd)(k:strip h=zr h.kind)(h8:h.kind≠8):h.names=[]:=by
 have:=congrArg Hd.names k
 have k':(h.kind==8)=false:=by simpa using h8
 simpa [strip,zr,k'] using this
theorem mayB_iff (h:Hd):mayB h=true↔May h:=by
 unfold mayB May
 by_cases h9:h.kind=9∨h.kind=10
 ·rw [if_pos h9,mayV_9 h h9,sB_iff]
  constructor
  ·rintro ⟨h1,h2,h3,h4,h5,h6,h7⟩
   refine ⟨⟨h1,h2,h3,Or.inl (show (7:Int)≤9 by decide)⟩,⟨h5,h6,fun e=>(by cases e),fun _=>⟨h7 rfl,rfl⟩⟩,?_⟩
   intro y hy
   have:y=null1:=by simpa [tv] using hy
   rw [this];exact isv_null1
  ·rintro ⟨⟨b1,b2,b3,b4⟩,⟨f1,f2,f3,f4⟩,_⟩
   exact ⟨b1,b2,b3,strip_names _ b3 (show (9:Int)≠8 by decide),f1,f2,fun e=>(f4 e).1⟩
 ·rw [if_neg h9]
  have n9:h.kind≠9:=fun e=>h9 (Or.inl e)
  have n10:h.kind≠10:=fun e=>h9 (Or.inr e)
  by_cases h11:h.kind=11
  ·rw [if_pos h11,mayV_11 h h11,sB_iff]
   constructor
   ·rintro ⟨h1,h2,h3,h4,h5,h6,h7⟩
    exact ⟨⟨h1,h2,h3,Or.inr rfl⟩,⟨h5,h6,fun e=>(by cases e),fun e=>(by cases e)⟩,fun y hy=>(by simp [tv] at hy)⟩
   ·rintro ⟨⟨b1,b2,b3,b4⟩,⟨f1,f2,f3,f4⟩,_⟩
    exact ⟨b1,b2,b3,strip_names _ b3 (show (1:Int)≠8 by decide),f1,f2,fun e=>(by cases e)⟩
  ·rw [if_neg h11,mayV_o h n9 n10 h11,sB_iff]
   constructor
   ·rintro ⟨h1,h2,h3,h4,h5,h6,h7⟩
    exact ⟨⟨h1,h2,h3,Or.inr rfl⟩,⟨h5,h6,fun e=>⟨by show h.names.length=0;rw [h4];rfl,by show Nms h.names;rw [h4];exact ⟨fun s hs=>(by cases hs),List.nodup_nil⟩⟩,fun e=>absurd e n9⟩,fun y hy=>(by simp [tv] at hy)⟩
   ·rintro ⟨⟨b1,b2,b3,b4⟩,⟨f1,f2,f3,f4⟩,_⟩
    have f3:h.kind=8→h.names.length=0∧Nms h.names:=f3
    refine ⟨b1,b2,b3,?_,f1,f2,fun e=>absurd e n9⟩
    show h.names=[]
    by_cases h8:h.kind=8
    ·exact List.eq_nil_of_length_eq_zero (f3 h8).1
    ·exact strip_names h b3 h8
def runS (s:Option (List Pa×Bool))(es:List Hd):Option (List Pa×Bool):=es.foldl (fun s h=>feedE s (mayB h) h) s
def runE (es:List Hd):Option (List Pa×Bool):=runS (some ([],false)) es
theorem runS_app (s:Option (List Pa×Bool))(a b:List Hd):runS s (a++b)=runS (runS s a) b:=by simp [runS]
theorem runS_cons (s:Option (List Pa×Bool))(h:Hd)(es:List Hd):runS s (h :: es)=runS (feedE s (mayB h) h) es:=rfl
theorem runS_nil (s:Option (List Pa×Bool)):runS s []=s:=rfl
theorem feedE_none (q:Bool)(h:Hd):feedE none q h=none:=by unfold feedE;cases q <;> rfl
theorem runS_none (es:List Hd):runS none es=none:=by
 induction es with
 | nil=>rfl
 | cons h es ih=>rw [runS_cons,feedE_none];exact ih
theorem feedE_ok {st:List Pa} {bg:Bool} {h:Hd} (hm:May h):feedE (some (st,bg)) (mayB h) h=stepE st bg h:=by
 rw [(mayB_iff h).2 hm];rfl
theorem strip_hd0 (h:Hd)(k:strip h=zr h.kind):strip (hd0 h)=zr (hd0 h).kind:=by
 unfold strip zr at k ⊢
 simp only [Hd.mk.injEq,hd0] at k ⊢
 simp_all
theorem may_head {n:Nat} {h:Hd} {l:List (VT n)} (hv:IsV (n+1) (h,l)):May (hd0 h):=by
 obtain ⟨⟨b1,b2,b3,b4⟩,⟨f1,f2,f3,f4⟩,_⟩:=hv
 have hs:=strip_hd0 h b3
 have b1:1≤h.kind:=b1
 have b2:h.kind≤9:=b2
 unfold May
 by_cases h9:h.kind=9
 ·rw [mayV_9 (hd0 h) (Or.inl h9)]
  have he:({hd0 h with kind:=9}:Hd)=hd0 h:=by unfold hd0;simp [h9]
  rw [he]
  refine ⟨⟨b1,b2,hs,Or.inl (by show 7≤h.kind;omega)⟩,⟨f1,f2,fun k=>?_,fun k=>⟨(f4 k).1,rfl⟩⟩,?_⟩
  ·have:h.kind=8:=k;omega
  ·intro y hy
   have:y=null1:=by simpa [tv] using hy
   rw [this];exact isv_null1
 ·rw [mayV_o (hd0 h) h9 (by show h.kind≠10;omega) (by show h.kind≠11;omega)]
  exact ⟨⟨b1,b2,hs,Or.inr rfl⟩,⟨f1,f2,fun k=>⟨rfl,fun s hs=>(by cases hs),List.nodup_nil⟩,fun k=>absurd k h9⟩,fun y hy=>by simp [tv] at hy⟩
theorem may_name {s:ByteArray} (hs:okT s=true):May (evN s):=by
 unfold May
 rw [mayV_9 (evN s) (Or.inr rfl)]
 refine ⟨⟨(show (1:Int)≤9 by decide),(show (9:Int)≤9 by decide),rfl,Or.inl (show (7:Int)≤9 by decide)⟩,⟨fun h=>(by cases h),fun h=>(by cases h),fun h=>(by cases h),fun _=>⟨hs,rfl⟩⟩,?_⟩
 intro y hy
 have:y=null1:=by simpa [tv] using hy
 rw [this];exact isv_null1
theorem may_end:May evE:=by
 unfold May
 rw [mayV_11 evE rfl]
 exact ⟨⟨(show (1:Int)≤1 by decide),(show (1:Int)≤9 by decide),rfl,Or.inr rfl⟩,⟨fun h=>(by cases h),fun h=>(by cases h),fun h=>(by cases h),fun h=>(by cases h)⟩,fun y hy=>by simp [tv] at hy⟩
theorem isv_nf:∀ (n:Nat)(x:VT n),IsV n x→NF n x
 | 0,_,_=>trivial
 | n+1,(h,l),hv=>by
  obtain ⟨⟨b1,b2,b3,b4⟩,⟨f1,f2,f3,f4⟩,hc⟩:=hv
  refine ⟨b1,b2,fun k=>?_,fun k=>(f3 k).1,fun k=>?_,fun y hy=>isv_nf n y (hc y hy)⟩
  ·rcases b4 with h1|h1
   ·have:h.kind<7:=k;omega
   ·exact h1
  ·have:=congrArg Hd.names b3
   have k':(h.kind==8)=false:=by have:h.kind≠8:=k;simpa using this
   simpa [strip,zr,k'] using this
theorem step_val {st st':List Pa} {bg bg':Bool} {h:Hd} (h10:h.kind≠10)(h11:h.kind≠11)(hv:valE st bg=some (st',bg')):stepE st bg h=some (newE h.kind++st',bg'):=by
 unfold stepE
 rw [if_neg h10,if_neg h11,hv]
 rfl
theorem step_end (k:Int)(ns:List ByteArray)(r:List Pa)(bg:Bool):stepE ((k,false,ns) :: r) bg evE=some (r,bg):=rfl
theorem run_fl:∀ (n:Nat)(x:VT n),IsV n x→∀ (st st':List Pa)(bg bg':Bool),valE st bg=some (st',bg')→runS (some (st,bg)) (fl n x)=some (st',bg')
 | 0,x,_=>Empty.elim x
 | n+1,(h,l),hv=>by
  intro st st' bg bg' hst
  have hm:=may_head hv
  obtain ⟨⟨b1,b2,b3,b4⟩,⟨f1,f2,f3,f4⟩,hc⟩:=hv
  have b1:1≤h.kind:=b1
  have b2:h.kind≤9:=b2
  have hc:∀ y∈l,IsV n y:=hc
  rw [fl_succ,runS_cons,feedE_ok hm,step_val (by show h.kind≠10;omega) (by show h.kind≠11;omega) hst]
  by_cases h7:h.kind<7
  ·rw [if_pos h7,runS_nil]
   have:newE (hd0 h).kind=[]:=by
    show newE h.kind=[]
    unfold newE
    rw [if_neg (by omega),if_neg (by omega),if_neg (by omega)]
   rw [this];rfl
  ·rw [if_neg h7,runS_app]
   -- the children
   have key:∀ k,k≤l.length→runS (some (newE h.kind++st',bg')) (kids n h l k)=some ((h.kind,decide (h.kind=9∧k=0),if h.kind=8 then h.names.take k else []) :: st',bg'):=by
    intro k
    induction k with
    | zero =>
     intro _
     rw [kids_zero,runS_nil]
     have:h.kind=7∨h.kind=8∨h.kind=9:=by omega
     rcases this with e|e|e <;> rw [e] <;> rfl
    | succ k ih =>
     intro hk
     have hk':k<l.length:=by omega
     rw [kids_succ n h l k hk',runS_app,runS_app,ih (by omega)]
     have hy:=run_fl n l[k] (hc _ (List.getElem_mem hk'))
     by_cases h8:h.kind=8
     ·obtain ⟨hn1,hn2,hn3⟩:=f3 h8
      have hn1:h.names.length=l.length:=hn1
      have hkn:k<h.names.length:=by omega
      have hp0:preN h k=[evN h.names[k]]:=by unfold preN;rw [if_pos h8];simp [hkn]
      have hnot:inN (h.names.take k) h.names[k]=false:=by
       rw [Bool.eq_false_iff]
       intro hin
       have hmem:=(inN_iff _ _).1 hin
       obtain ⟨j,hj,hje⟩:=List.getElem_of_mem hmem
       rw [List.getElem_take] at hje
       have hj':j<k:=by rw [List.length_take] at hj;omega
       have:=(List.getElem_inj hn3 (h₀:=by omega) (h₁:=hkn)).1 hje
       omega
      rw [hp0,runS_cons,runS_nil,feedE_ok (may_name (hn2 _ (List.getElem_mem hkn)))]
      have hs:stepE ((h.kind,decide (h.kind=9∧k=0),if h.kind=8 then h.names.take k else []) :: st') bg' (evN h.names[k])=some ((8,true,h.names.take k++[h.names[k]]) :: st',bg'):=by
       rw [if_pos h8,h8]
       show (if (8:Int)=8∧decide ((8:Int)=9∧k=0)=false∧inN (h.names.take k) h.names[k]=false then _ else _)=_
       rw [if_pos ⟨rfl,by simp,hnot⟩]
       rfl
      rw [hs,hy _ ((8,false,h.names.take k++[h.names[k]]) :: st') bg' bg' rfl,if_pos h8,List.take_succ_eq_append_getElem hkn,h8]
      simp
     ·have hp0:preN h k=[]:=if_neg h8
      rw [hp0,runS_nil,if_neg h8,if_neg h8]
      by_cases h9:h.kind=9
      ·have hk0:k=0:=by have:=(f4 h9).2;simp only at this;omega
       subst hk0
       rw [hy _ ((h.kind,false,[]) :: st') bg' bg' (by rw [h9];rfl)]
       simp
      ·have h77:h.kind=7:=by omega
       rw [hy _ ((h.kind,false,[]) :: st') bg' bg' (by rw [h77];rfl)]
       simp [h9]
   have hlast:=key l.length (Nat.le_refl _)
   show runS (runS (some (newE h.kind++st',bg')) (kids n h l l.length)) [evE]=_
   rw [hlast,runS_cons,runS_nil,feedE_ok may_end]
   have hw:decide (h.kind=9∧l.length=0)=false:=by
    rw [decide_eq_false_iff_not]
    rintro ⟨h9,h0⟩
    have:=(f4 h9).2
    simp only at this
    omega
   rw [hw,step_end]
theorem runE_fl (n:Nat)(x:VT n)(hv:IsV n x):runE (fl n x)=some ([],true):=run_fl n x hv [] [] false true rfl
end Go.Proofs.YthodiandebahdaaGreatDoor
