/- Merged by program: TtPrint, TvPType, TwEval, TxAwake, TyAwake, SuSame. -/
import Derived.Test.YtcnfchblfcfimaaGreatDoorZb43
import Derived.Test.YtcnfchblfcfimaaGreatDoorZb42
import Derived.Test.YtcnfchblfcfimaaGreatDoorZb14
import Derived.Deep.RegionLaw
set_option linter.unusedSimpArgs false
set_option linter.unusedVariables false
namespace Go.Proofs.YtcnfchblfcfimaaGreatDoor
namespace Lx
open Go.RowKit
variable {dq : {_f : (p : Prop) → Decidable p // True}}
theorem sep_len (c:Tk):∀ L:List (List Tk),(sepT c L).length≤suml (L.map List.length) + (L.length - 1)
 | []=>by simp [sepT]
 | [a]=>by simp [sepT,suml]
 | a :: b :: r=>by
  have:=sep_len c (b :: r)
  simp only [sepT,List.length_append,List.length_cons,List.map_cons,suml] at this ⊢
  omega
theorem sep_all (c:Tk):∀ (L:List (List Tk)) (t:Tk),t∈sepT c L→t=c∨∃ a∈L,t∈a
 | [],t,h=>by simp [sepT] at h
 | [a],t,h=>Or.inr ⟨a,by simp,h⟩
 | a :: b :: r,t,h=>by
  simp only [sepT] at h
  rcases List.mem_append.1 h with h|h
  ·exact Or.inr ⟨a,by simp,h⟩
  ·rcases List.mem_cons.1 h with h|h
   ·exact Or.inl h
   ·rcases sep_all c (b :: r) t h with h|⟨d,hd,h⟩
    ·exact Or.inl h
    ·exact Or.inr ⟨d,List.mem_cons_of_mem _ hd,h⟩
theorem itm_sum (m:List UInt8):∀ (ns:List ByteArray) (ks:List (List Tk)),suml ((itm m ns ks).map List.length)≤suml (ks.map List.length) + 2 * ks.length∧(itm m ns ks).length≤ks.length
 | [],ks=>by simp [itm,suml]
 | s :: ns,[]=>by simp [itm,suml]
 | s :: ns,k :: ks=>by
  obtain ⟨h1,h2⟩:=itm_sum m ns ks
  have e:itm m (s :: ns) (k :: ks)=(ntk (bl s) :: mk m :: k) :: itm m ns ks:=rfl
  rw [e]
  simp only [List.map_cons,suml,List.length_cons]
  omega
theorem itm_all (m:List UInt8):∀ (ns:List ByteArray) (ks:List (List Tk)) (a:List Tk),a∈itm m ns ks→∃ s k,s∈ns∧k∈ks∧a=ntk (bl s) :: mk m :: k
 | [],ks,a,h=>by simp [itm] at h
 | s :: ns,[],a,h=>by simp [itm] at h
 | s :: ns,k :: ks,a,h=>by
  have e:itm m (s :: ns) (k :: ks)=(ntk (bl s) :: mk m :: k) :: itm m ns ks:=rfl
  rw [e] at h
  rcases List.mem_cons.1 h with rfl|h
  ·exact ⟨s,k,by simp,by simp,rfl⟩
  ·obtain ⟨s',k',h1,h2,h3⟩:=itm_all m ns ks a h
   exact ⟨s',k',List.mem_cons_of_mem _ h1,List.mem_cons_of_mem _ h2,h3⟩
theorem suml_le3 {α:Type} (f g:α→Nat):∀ l:List α,(∀ x∈l,f x + 3≤8 * g x)→suml (l.map f) + 3 * l.length≤8 * suml (l.map g)
 | [],_=>by simp [suml]
 | a :: l,h=>by
  have h1:=h a (by simp)
  have h2:=suml_le3 f g l fun x hx=>h x (by simp [hx])
  simp only [List.map_cons,suml,List.length_cons]
  omega
theorem suml_le5 {α:Type} (f g:α→Nat):∀ l:List α,(∀ x∈l,f x≤g x + 2)→suml (l.map f)≤suml (l.map g) + 2 * l.length
 | [],_=>by simp [suml]
 | a :: l,h=>by
  have h1:=h a (by simp)
  have h2:=suml_le5 f g l fun x hx=>h x (by simp [hx])
  simp only [List.map_cons,suml,List.length_cons]
  omega
theorem stk_len (n:Nat) (y:ET n):(stk n y).length≤(mtk n y).length + 2:=by
 unfold stk
 split
 ·simp only [btw,List.length_cons,List.length_append,List.length_nil];omega
 ·omega
theorem mtk_len:∀ (n:Nat) (x:ET n),(mtk n x).length + 3≤8 * esiz n x
 | 0,x=>Empty.elim x
 | n + 1,x=>by
  obtain ⟨⟨k,nm,nms,vn,val⟩,l⟩:=x
  have ih:=suml_le3 (fun y=>(mtk n y).length) (esiz n) l fun y _=>mtk_len n y
  have hm:suml ((l.map (mtk n)).map List.length)=suml (l.map fun y=>(mtk n y).length):=by rw [List.map_map];rfl
  have hn:∀ m,(nmd m nms (l.map (mtk n))).length≤2 + suml (l.map fun y=>(mtk n y).length) + 3 * l.length:=fun m=>by
   have h1:=sep_len (mk [44]) (itm m nms (l.map (mtk n)))
   obtain ⟨h2,h3⟩:=itm_sum m nms (l.map (mtk n))
   rw [List.length_map] at h2 h3
   rw [hm] at h2
   simp only [nmd,btw,List.length_cons,List.length_append,List.length_nil]
   omega
  show _≤8 * (1 + suml (l.map (esiz n)))
  simp only [mtk]
  split
  ·simp;omega
  ·split
   ·simp;omega
   ·split
    ·simp;omega
    ·split
     ·cases l with
      | nil=>simp [btw];omega
      | cons y l =>
       simp only [List.map_cons,suml,List.length_cons] at ih
       simp only [btw,List.map_cons,List.headD_cons,List.length_cons,List.length_append,List.length_nil,suml]
       omega
     ·split
      ·have:=hn [61];omega
      ·split
       ·have:=hn [61];simp only [List.length_cons];omega
       ·split
        ·have h1:=sep_len (mk [59]) (l.map (stk n))
         have h2:=suml_le5 (fun y=>(stk n y).length) (fun y=>(mtk n y).length) l fun y _=>stk_len n y
         have e:suml ((l.map (stk n)).map List.length)=suml (l.map fun y=>(stk n y).length):=by rw [List.map_map];rfl
         rw [e,List.length_map] at h1
         show (sepT (mk [59]) (l.map (stk n))).length + 3≤_
         omega
        ·simp;omega
theorem ntk_s (s:List UInt8):(ntk s).s=s:=by unfold ntk;split <;> rfl
theorem btw_all {o s:List UInt8} {l:List Tk} {t:Tk} (h:t∈btw o l s):t=mk o∨t∈l∨t=mk s:=by
 simp only [btw,List.mem_cons,List.mem_append,List.not_mem_nil,or_false] at h
 rcases h with h|h|h
 ·exact Or.inl h
 ·exact Or.inr (Or.inl h)
 ·exact Or.inr (Or.inr h)
theorem nmd_s {m:List UInt8} {ns:List ByteArray} {ks:List (List Tk)} (hm:m.length≤4096) (hs:∀ s∈ns,s.size≤64) (hk:∀ k∈ks,∀ t∈k,t.s.length≤4096):∀ t∈nmd m ns ks,t.s.length≤4096:=by
 intro t ht
 rcases btw_all ht with rfl|ht|rfl
 ·simp [mk]
 ·rcases sep_all _ _ _ ht with rfl|⟨a,ha,ht⟩
  ·simp [mk]
  ·obtain ⟨s,k,h1,h2,rfl⟩:=itm_all m ns ks a ha
   rcases List.mem_cons.1 ht with rfl|ht
   ·rw [ntk_s,bl_length];have:=hs s h1;omega
   ·rcases List.mem_cons.1 ht with rfl|ht
    ·exact hm
    ·exact hk k h2 t ht
 ·simp [mk]
theorem ctk_s (h:Hd) (h1:h.text.size≤4096) (h2:h.kind=3→isN h.neg h.dig h.exp=true):(ctk h).s.length≤4096:=by
 unfold ctk
 split
 ·simp only;rw [bl_length];exact h1
 ·split
  ·rename_i k
   have:=printL_len h.neg h.dig h.exp (h2 k)
   simp only
   omega
  ·split
   ·simp [wd]
   ·split <;> simp [wd]
theorem mtk_s:∀ (n:Nat) (x:ET n),Nods n x→∀ t∈mtk n x,t.s.length≤4096
 | 0,x,_=>Empty.elim x
 | n + 1,x,h=>by
  obtain ⟨p1,p2,p3,p4,p5,p6,p7,p8⟩:=h.1.pre
  have ih:∀ y∈x.2,∀ t∈mtk n y,t.s.length≤4096:=fun y hy=>mtk_s n y (h.2 y hy)
  have ihk:∀ k∈x.2.map (mtk n),∀ t∈k,t.s.length≤4096:=fun k hk t ht=>by
   obtain ⟨y,hy,rfl⟩:=List.mem_map.1 hk
   exact ih y hy t ht
  have hnm:(ntk (bl x.1.name)).s.length≤4096:=by rw [ntk_s,bl_length];omega
  intro t ht
  unfold mtk at ht
  split at ht
  ·simp only [List.mem_cons,List.not_mem_nil,or_false] at ht
   rcases ht with rfl|rfl
   ·simp [mk]
   ·exact hnm
  ·split at ht
   ·simp only [List.mem_cons,List.not_mem_nil,or_false] at ht
    rcases ht with rfl|rfl
    ·simp [wd]
    ·exact hnm
   ·split at ht
    ·simp only [List.mem_cons,List.not_mem_nil,or_false] at ht
     rcases ht with rfl|rfl
     ·simp [wd]
     ·exact ctk_s _ p8 p7
    ·split at ht
     ·rcases btw_all ht with rfl|ht|rfl
      ·simp [mk]
      ·cases hx:x.2 with
       | nil=>rw [hx] at ht;simp at ht
       | cons y l =>
        rw [hx] at ht
        simp only [List.map_cons,List.headD_cons] at ht
        exact ih y (by rw [hx];simp) t ht
      ·simp [mk]
     ·split at ht
      ·exact nmd_s (by simp) p6 ihk t ht
      ·split at ht
       ·rcases List.mem_cons.1 ht with rfl|ht
        ·simp [wd]
        ·exact nmd_s (by simp) p6 ihk t ht
       ·split at ht
        ·rcases sep_all _ _ _ ht with rfl|⟨a,ha,ht⟩
         ·simp [mk]
         ·obtain ⟨y,hy,rfl⟩:=List.mem_map.1 ha
          split at ht
          ·rcases btw_all ht with rfl|ht|rfl
           ·simp [mk]
           ·exact ih y hy t ht
           ·simp [mk]
          ·exact ih y hy t ht
        ·rw [List.mem_singleton.1 ht]
         simp only [wd,plW]
         repeat' split
         all_goals simp
def prX (dq:{_f:(p:Prop)→Decidable p // True}) (n:Nat) (x:ET n):Int×List UInt8:=if lck dq n x=0 then ((((prR (mtk n x)).1:Nat):Int),(prR (mtk n x)).2) else (lck dq n x,[])
set_option maxHeartbeats 2000000 in
set_option maxRecDepth 100000 in
theorem print_is (hP:ParseOk) (n:Nat) (x:ET n) (q:Sl) (w:World) (hr:RE n w x q) (hs:GE n x) (hz:esiz n x≤200000) (g:Gs w) :
  Calls Tryz.prog 15 #[.agg (ecl (ehd n x) q)] w fun e w'=>e=.returned (.tuple #[.string (mkB (prX dq n x).2),.int .i64 (prX dq n x).1])∧Below w.heap.size w w':=by
 obtain ⟨x1,y1,z1,x2,y2,z2,x3,y3,z3,x4,y4,z4,hqs⟩:=hr.shape
 subst hqs
 have hc:=hide (fun o=>check_is (dq:=dq) n x ⟨.slice x1 y1 z1,.slice x2 y2 z2,.slice x3 y3 z3,.slice x4 y4 z4⟩ (w.alloc o) (hr.below (below_al (Below.refl _ _))) ⟨hs,(g.below (below_al (Below.refl _ _))).gg.gu⟩ hz)
 have hm:=hide (fun (h:lck dq n x=0) W (hb:Below w.heap.size w W)=>mapTok_ok hP n x ⟨.slice x1 y1 z1,.slice x2 y2 z2,.slice x3 y3 z3,.slice x4 y4 z4⟩ W (hr.below hb) ((lck_ok h).1.pre (lck_ok h).2.2) (by have:=mtk_len n x;have:=(lck_ok h).2.2;omega) (g.below hb))
 have hp:=hide (fun (h:lck dq n x=0) W (hb:Below w.heap.size w W) B v (k:OT W B v (mtk n x))=>printL_any hP v (mtk n x) W (k.ts (by have:=mtk_len n x;have:=(lck_ok h).2.2;omega)) (g.below hb).gg (fun t ht=>by have:=mtk_s n x (lck_ok h).1 t ht;omega) (by have:=mtk_len n x;have:=(lck_ok h).2.2;omega))
 have X0:=hide (ex_new w (ehd n x) ⟨.slice x1 y1 z1,.slice x2 y2 z2,.slice x3 y3 z3,.slice x4 y4 z4⟩)
 have hx:Hid (prX dq n x=if lck dq n x=0 then ((((prR (mtk n x)).1:Nat):Int),(prR (mtk n x)).2) else (lck dq n x,[])):=rfl
 obtain ⟨R,hR⟩:∃ R,prX dq n x=R:=⟨_,rfl⟩
 rw [hR] at hx ⊢
 clear hP hr hs hz g hR
 obtain ⟨c,hcx⟩:∃ c,lck dq n x=c:=⟨_,rfl⟩
 obtain ⟨T,hT⟩:∃ T,mtk n x=T:=⟨_,rfl⟩
 obtain ⟨h,hh⟩:∃ h,ehd n x=h:=⟨_,rfl⟩
 rw [hcx] at hc hm hp hx
 rw [hT] at hm hp hx
 rw [hh] at hc hm X0 ⊢
 clear hcx hT hh
 unfold TokP at hm
 unfold ecl at hc hm X0 ⊢
 dsimp only at hc hm X0 ⊢
 go_enter Tryz.func15, Tryz.ntmps15
 go_wp2_with (go_at_call 16;refine Sto.out ?_)
 refine Sto.mk ?_
 refine (hc.out _).mono ?_
 rintro e w1 ⟨rfl,hb1⟩
 have B1:=hide (below_then (below_al (Below.refl _ _)) hb1)
 have X1:=hide (X0.out.below hb1)
 have x0:=X1.out.cells
 clear hb1 hc X0
 by_cases h0:c=0
 ·have hm1:=hide (hm.out h0 w1 B1.out)
  have hp1:=hide (hp.out h0)
  have e1:Hid (R=((((prR T).1:Nat):Int),(prR T).2)):=by show _=_;rw [hx.out,if_pos h0]
  subst h0
  clear hm hp hx
  go_wp2_with (go_at_call 35;refine Sto.out ?_)
  refine Sto.mk ?_
  refine hm1.out.mono ?_
  rintro e w2 ⟨v,rfl,hO,hb2⟩
  have B2:=hide (below_then B1.out hb2)
  have hp2:=hide (hp1.out w2 B2.out _ v hO)
  clear hO hb2 hm1 hp1 x0
  unfold prE at hp2
  go_wp2_with (go_at_call 34;refine Sto.out ?_)
  refine Sto.mk ?_
  refine hp2.out.mono ?_
  rintro e w3 ⟨rfl,hb3⟩
  have B3:=hide (below_then B2.out hb3)
  go_wp2_with fail
  go_ret2
  exact ⟨by rw [e1.out];rfl,B3.out⟩
 ·have b0:(c==0)=false:=by simp [h0]
  have e1:Hid (R=(c,[])):=by show _=_;rw [hx.out,if_neg h0]
  clear h0 hx
  go_wp2_with fail
  go_ret2
  exact ⟨by rw [e1.out];rfl,B1.out⟩
end Lx
end Go.Proofs.YtcnfchblfcfimaaGreatDoor
namespace Go.Proofs.YtcnfchblfcfimaaGreatDoor
namespace Lx
open Go.RowKit
variable {dq : {_f : (p : Prop) → Decidable p // True}}
set_option maxHeartbeats 1000000 in
theorem typeTok_step (hP:ParseOk) (n:Nat) (ih:TyOk n):TyOk (n + 1):=by
 intro x q w hr hp hz g
 obtain ⟨⟨k,nms⟩,l⟩:=x
 obtain ⟨p1,p2,p3,p4,p6,p8,p9⟩:=hp
 simp only at p1 p2 p3 p4 p6 p8 p9
 show Calls _ _ #[.agg (tcl ⟨k,nms⟩ q)] _ _
 have hk:k=1∨k=2∨k=3∨k=4∨k=5∨k=6∨k=7∨k=8∨k=9∨k=10∨k=11:=by omega
 rcases hk with rfl|rfl|rfl|rfl|rfl|rfl|rfl|rfl|rfl|rfl|rfl
 ·have e:ttk (n + 1) (⟨1,nms⟩,l)=[wd [97,110,121]]:=by simp [ttk,ptW]
  rw [e];exact typeTok_1 hr g
 ·have e:ttk (n + 1) (⟨2,nms⟩,l)=[wd [110,117,108,108]]:=by simp [ttk,ptW]
  rw [e];exact typeTok_2 hr g
 ·have e:ttk (n + 1) (⟨3,nms⟩,l)=[wd [98,111,111,108]]:=by simp [ttk,ptW]
  rw [e];exact typeTok_3 hr g
 ·have e:ttk (n + 1) (⟨4,nms⟩,l)=[wd [110,117,109]]:=by simp [ttk,ptW]
  rw [e];exact typeTok_4 hr g
 ·have e:ttk (n + 1) (⟨5,nms⟩,l)=[wd [105,110,116]]:=by simp [ttk,ptW]
  rw [e];exact typeTok_5 hr g
 ·have e:ttk (n + 1) (⟨6,nms⟩,l)=[wd [102,108,111,97,116]]:=by simp [ttk,ptW]
  rw [e];exact typeTok_6 hr g
 ·have e:ttk (n + 1) (⟨7,nms⟩,l)=[wd [116,101,120,116]]:=by simp [ttk,ptW]
  rw [e];exact typeTok_7 hr g
 ·have e:ttk (n + 1) (⟨8,nms⟩,l)=[wd [98,121,116,101,115]]:=by simp [ttk,ptW]
  rw [e];exact typeTok_8 hr g
 ·have e:ttk (n + 1) (⟨9,nms⟩,l)=wd [108,105,115,116] :: btw [40] ((l.map (ttk n)).headD []) [41]:=by simp [ttk]
  rw [e] at hz ⊢;exact typeTok_9 ih hr (p3 rfl) p9 (by simp only [List.length_cons] at hz;omega) g
 ·have e:ttk (n + 1) (⟨10,nms⟩,l)=wd [114,101,99,111,114,100] :: nmd [58] nms (l.map (ttk n)):=by simp [ttk]
  rw [e] at hz ⊢;exact typeTok_10 hP ih hr (p4 (Or.inl rfl)) p6 p9 p8 (by simp only [List.length_cons] at hz;omega) g
 ·have e:ttk (n + 1) (⟨11,nms⟩,l)=wd [117,110,105,111,110] :: nmd [58] nms (l.map (ttk n)):=by simp [ttk]
  rw [e] at hz ⊢;exact typeTok_11 hP ih hr (p4 (Or.inr rfl)) p6 p9 p8 (by simp only [List.length_cons] at hz;omega) g
theorem typeTok_ok (hP:ParseOk):∀ n,TyOk n
 | 0=>fun x=>Empty.elim x
 | n + 1=>typeTok_step hP n (typeTok_ok hP n)
theorem tck_ok {n:Nat} {x:TT n} (h:tck dq n x=0):IsT n x∧TWin n x:=by
 unfold tck at h
 split at h
 ·cases h
 ·rename_i a
  split at h
  ·rename_i b
   exact ⟨Classical.not_not.1 a,b⟩
  ·cases h
theorem ist_pre:∀ {n:Nat} {x:TT n},IsT n x→TSht n x→tsiz n x≤100000→PrT n x
 | 0,x,_,_,_=>Empty.elim x
 | n + 1,x,h,hs,hz=>by
  have hl:x.2.length≤100000:=by
   have:x.2.length≤suml (x.2.map (tsiz n)):=suml_len (tsiz n) (tsiz_pos n) x.2
   simp only [tsiz] at hz
   omega
  obtain ⟨f,hk⟩:=h
  have f':=f
  unfold TFil at f'
  refine ⟨?_,?_,?_,?_,fun s hs'=>by have:=hs.2.1 s hs';omega,hl,fun y hy=>?_⟩
  ·omega
  ·omega
  ·intro h9;omega
  ·intro h9;omega
  ·obtain ⟨i,hi,rfl⟩:=List.mem_iff_getElem.1 hy
   exact ist_pre (hk _ hy) (hs.2.2 _ hy) (by have:=tsiz_mem hi;omega)
theorem ttk_len:∀ (n:Nat) (x:TT n),(ttk n x).length + 3≤8 * tsiz n x
 | 0,x=>Empty.elim x
 | n + 1,x=>by
  obtain ⟨⟨k,nms⟩,l⟩:=x
  have ih:=suml_le3 (fun y=>(ttk n y).length) (tsiz n) l fun y _=>ttk_len n y
  have hm:suml ((l.map (ttk n)).map List.length)=suml (l.map fun y=>(ttk n y).length):=by rw [List.map_map];rfl
  have hn:∀ m,(nmd m nms (l.map (ttk n))).length≤2 + suml (l.map fun y=>(ttk n y).length) + 2 * l.length + (l.length - 1):=fun m=>by
   have h1:=sep_len (mk [44]) (itm m nms (l.map (ttk n)))
   obtain ⟨h2,h3⟩:=itm_sum m nms (l.map (ttk n))
   rw [List.length_map] at h2 h3
   rw [hm] at h2
   simp only [nmd,btw,List.length_cons,List.length_append,List.length_nil]
   omega
  show _≤8 * (1 + suml (l.map (tsiz n)))
  simp only [ttk]
  split
  ·cases l with
   | nil=>simp [btw];omega
   | cons y l =>
    simp only [List.map_cons,suml,List.length_cons] at ih
    simp only [btw,List.map_cons,List.headD_cons,List.length_cons,List.length_append,List.length_nil,suml]
    omega
  ·split
   ·have:=hn [58];simp only [List.length_cons];omega
   ·split
    ·have:=hn [58];simp only [List.length_cons];omega
    ·simp;omega
theorem ttk_s:∀ (n:Nat) (x:TT n),TSht n x→∀ t∈ttk n x,t.s.length≤4096
 | 0,x,_=>Empty.elim x
 | n + 1,x,h=>by
  have ih:∀ y∈x.2,∀ t∈ttk n y,t.s.length≤4096:=fun y hy=>ttk_s n y (h.2.2 y hy)
  have ihk:∀ k∈x.2.map (ttk n),∀ t∈k,t.s.length≤4096:=fun k hk t ht=>by
   obtain ⟨y,hy,rfl⟩:=List.mem_map.1 hk
   exact ih y hy t ht
  intro t ht
  simp only [ttk] at ht
  split at ht
  ·rcases List.mem_cons.1 ht with rfl|ht
   ·simp [wd]
   ·rcases btw_all ht with rfl|ht|rfl
    ·simp [mk]
    ·cases hx:x.2 with
     | nil=>rw [hx] at ht;simp at ht
     | cons y l =>
      rw [hx] at ht
      simp only [List.map_cons,List.headD_cons] at ht
      exact ih y (by rw [hx];simp) t ht
    ·simp [mk]
  ·split at ht
   ·rcases List.mem_cons.1 ht with rfl|ht
    ·simp [wd]
    ·exact nmd_s (by simp) h.2.1 ihk t ht
   ·split at ht
    ·rcases List.mem_cons.1 ht with rfl|ht
     ·simp [wd]
     ·exact nmd_s (by simp) h.2.1 ihk t ht
    ·rw [List.mem_singleton.1 ht]
     simp only [wd,ptW]
     repeat' split
     all_goals simp
def prT (dq:{_f:(p:Prop)→Decidable p // True}) (n:Nat) (x:TT n):Int×List UInt8:=if tck dq n x=0 then ((((prR (ttk n x)).1:Nat):Int),(prR (ttk n x)).2) else (tck dq n x,[])
set_option maxHeartbeats 2000000 in
set_option maxRecDepth 100000 in
theorem ptprint_is (hP:ParseOk) (n:Nat) (x:TT n) (q:S2) (w:World) (hr:RTq n w x q) (hs:GT n x) (hz:tsiz n x≤200000) (g:Gs w) (gt:Gt w) :
  Calls Tryz.prog 22 #[.agg (tcl (thd n x) q)] w fun e w'=>e=.returned (.tuple #[.string (mkB (prT dq n x).2),.int .i64 (prT dq n x).1])∧Below w.heap.size w w':=by
 obtain ⟨x1,y1,z1,x2,y2,z2,hqs⟩:=RTq.shape hr
 subst hqs
 have hc:=hide (fun o=>tcheck_is (dq:=dq) n x ⟨.slice x1 y1 z1,.slice x2 y2 z2⟩ (w.alloc o) (RTq.below hr (below_al (Below.refl _ _))) hs hz (g.below (below_al (Below.refl _ _))).gg.gu (gt.below (below_al (Below.refl _ _))))
 have hsz:tck dq n x=0→tsiz n x≤4096:=fun h=>(tck_ok h).2.2.2
 have hm:=hide (fun (h:tck dq n x=0) W (hb:Below w.heap.size w W)=>typeTok_ok hP n x ⟨.slice x1 y1 z1,.slice x2 y2 z2⟩ W (RTq.below hr hb) (ist_pre (tck_ok h).1 (tck_ok h).2.1 (by have:=hsz h;omega)) (by have:=ttk_len n x;have:=hsz h;omega) (g.below hb))
 have hp:=hide (fun (h:tck dq n x=0) W (hb:Below w.heap.size w W) B v (k:OT W B v (ttk n x))=>printL_any hP v (ttk n x) W (k.ts (by have:=ttk_len n x;have:=hsz h;omega)) (g.below hb).gg (fun t ht=>by have:=ttk_s n x (tck_ok h).2.1 t ht;omega) (by have:=ttk_len n x;have:=hsz h;omega))
 have X0:=hide (ty_new w (thd n x) ⟨.slice x1 y1 z1,.slice x2 y2 z2⟩)
 have hx:Hid (prT dq n x=if tck dq n x=0 then ((((prR (ttk n x)).1:Nat):Int),(prR (ttk n x)).2) else (tck dq n x,[])):=rfl
 obtain ⟨R,hR⟩:∃ R,prT dq n x=R:=⟨_,rfl⟩
 rw [hR] at hx ⊢
 clear hP hr hs hz g hR hsz gt
 obtain ⟨c,hcx⟩:∃ c,tck dq n x=c:=⟨_,rfl⟩
 obtain ⟨T,hT⟩:∃ T,ttk n x=T:=⟨_,rfl⟩
 obtain ⟨h,hh⟩:∃ h,thd n x=h:=⟨_,rfl⟩
 rw [hcx] at hc hm hp hx
 rw [hT] at hm hp hx
 rw [hh] at hc hm X0 ⊢
 clear hcx hT hh
 unfold TokP at hm
 unfold tcl tvs at hc hm X0 ⊢
 dsimp only at hc hm X0 ⊢
 go_enter Tryz.func22, Tryz.ntmps22
 go_wp2_with (go_at_call 52;refine Sto.out ?_)
 refine Sto.mk ?_
 refine (hc.out _).mono ?_
 rintro e w1 ⟨rfl,hb1⟩
 have B1:=hide (below_then (below_al (Below.refl _ _)) hb1)
 have X1:=hide (X0.out.below hb1)
 have x0:=X1.out.cells
 clear hb1 hc X0
 by_cases h0:c=0
 ·have hm1:=hide (hm.out h0 w1 B1.out)
  have hp1:=hide (hp.out h0)
  have e1:Hid (R=((((prR T).1:Nat):Int),(prR T).2)):=by show _=_;rw [hx.out,if_pos h0]
  subst h0
  clear hm hp hx
  go_wp2_with (go_at_call 55;refine Sto.out ?_)
  refine Sto.mk ?_
  refine hm1.out.mono ?_
  rintro e w2 ⟨v,rfl,hO,hb2⟩
  have B2:=hide (below_then B1.out hb2)
  have hp2:=hide (hp1.out w2 B2.out _ v hO)
  clear hO hb2 hm1 hp1 x0
  unfold prE at hp2
  go_wp2_with (go_at_call 34;refine Sto.out ?_)
  refine Sto.mk ?_
  refine hp2.out.mono ?_
  rintro e w3 ⟨rfl,hb3⟩
  have B3:=hide (below_then B2.out hb3)
  go_wp2_with fail
  go_ret2
  exact ⟨by rw [e1.out];rfl,B3.out⟩
 ·have b0:(c==0)=false:=by simp [h0]
  have e1:Hid (R=(c,[])):=by show _=_;rw [hx.out,if_neg h0]
  clear h0 hx
  go_wp2_with fail
  go_ret2
  exact ⟨by rw [e1.out];rfl,B1.out⟩
end Lx
end Go.Proofs.YtcnfchblfcfimaaGreatDoor
namespace Go.Proofs.YtcnfchblfcfimaaGreatDoor
namespace Lx
open Go.RowKit
variable {dq : {_f : (p : Prop) → Decidable p // True}}
set_option maxRecDepth 100000
theorem lck_zero {n:Nat} {x:ET n} (a:evA bareP n x) (b:evA fiP n x) (c:evA shP n x) (d:edep n x≤16) (e:esiz n x≤512):lck dq n x=0:=by
 unfold lck
 rw [if_neg (fun h=>h ⟨a,b⟩),if_pos ⟨c,d,e⟩]
theorem tck_zero {n:Nat} {x:TT n} (a:IsT n x) (b:TWin n x):tck dq n x=0:=by
 unfold tck
 rw [if_neg (fun h=>h a),if_pos b]
theorem win_null:Win 1 vn1:=⟨⟨by decide,by decide,fun s hs=>absurd hs (by simp [vn1,vH]),fun y hy=>absurd hy (by simp [vn1,vH])⟩,by decide,by decide⟩
theorem tag_isv (nm:ByteArray):IsV 2 ((hdL 9 nm [],List.replicate 1 vn1):VT 2)↔Go.Proofs.YtcnfchblfcfimaaGreatDoor.okT nm=true:=by
 constructor
 ·intro h
  exact (h.2.1.2.2.2 rfl).1
 ·intro h
  refine ⟨⟨by simp [hdL],by simp [hdL],rfl,Or.inl (by simp [hdL])⟩,⟨fun k=>absurd k (by simp [hdL]),fun k=>absurd k (by simp [hdL]),fun k=>absurd k (by simp [hdL]),fun _=>⟨h,rfl⟩⟩,fun y hy=>?_⟩
  rw [List.eq_of_mem_replicate hy]
  exact isV_null
theorem tag_win (nm:ByteArray):Win 2 ((hdL 9 nm [],List.replicate 1 vn1):VT 2)↔nm.size≤64:=by
 constructor
 ·intro h
  have:=h.1.1
  simp [hdL] at this
  omega
 ·intro h
  refine ⟨⟨by simp [hdL];omega,by simp,fun s hs=>absurd hs (by simp [hdL]),fun y hy=>?_⟩,?_,?_⟩
  ·rw [List.eq_of_mem_replicate hy]
   exact win_null.1
  ·show 1 + mxl ((List.replicate 1 vn1).map (dep 1))≤16
   decide
  ·rw [siz_nulls];omega
structure Fine (n:Nat) (x:ET (n + 1)):Prop where
 bare:EBare x.1 x.2
 fi:fiP (n + 1) x
 sh:shP (n + 1) x
theorem fine_plain {n:Nat} (op:Int) (l:List (ET n)) (h:op=1∨op=8∨op=9∨op=10∨op=11):Fine n ((lf op,[]):ET (n + 1)):=by
 have e:lkV (lf op) 0=⟨1,vn1⟩:=by rcases h with rfl|rfl|rfl|rfl|rfl <;> rfl
 refine ⟨⟨by rcases h with rfl|rfl|rfl|rfl|rfl <;> exact ⟨by simp [lf],by simp [lf]⟩,Or.inr (Or.inr rfl),Or.inr (Or.inr rfl),Or.inr (Or.inr (Or.inr (Or.inr rfl))),Or.inr rfl⟩,⟨?_,?_,?_,?_⟩,?_,?_⟩
 ·intro k;rcases h with rfl|rfl|rfl|rfl|rfl <;> exact absurd k (by simp [ehd,lf])
 ·intro k;rcases h with rfl|rfl|rfl|rfl|rfl <;> exact absurd k (by simp [ehd,lf])
 ·intro k;rcases h with rfl|rfl|rfl|rfl|rfl <;> exact absurd k (by simp [ehd,lf])
 ·show IsV _ (lkV (lf op) 0).2
  rw [e];exact isV_null
 ·show IsV _ (lkV (lf op) 0).2
  rw [e];exact isV_null
 ·show Win _ (lkV (lf op) 0).2
  rw [e];exact win_null
theorem fine_map {n:Nat} (y:ET n):Fine n ((lf 4,[y]):ET (n + 1)):=by
 have e:lkV (lf 4) 1=⟨1,vn1⟩:=rfl
 refine ⟨⟨⟨by simp [lf],by simp [lf]⟩,Or.inr (Or.inr rfl),Or.inr (Or.inr rfl),Or.inr (Or.inl rfl),Or.inr rfl⟩,⟨fun _=>rfl,fun k=>absurd k (by simp [ehd,lf]),fun k=>absurd k (by simp [ehd,lf]),?_⟩,?_,?_⟩
 ·show IsV _ (lkV (lf 4) 1).2
  rw [e];exact isV_null
 ·show IsV _ (lkV (lf 4) 1).2
  rw [e];exact isV_null
 ·show Win _ (lkV (lf 4) 1).2
  rw [e];exact win_null
theorem fine_pipe {n:Nat} (l:List (ET n)) (h2:2≤l.length):Fine n ((lf 12,l):ET (n + 1)):=by
 have e:lkV (lf 12) l.length=⟨1,vn1⟩:=rfl
 refine ⟨⟨⟨by simp [lf],by simp [lf]⟩,Or.inr (Or.inr rfl),Or.inr (Or.inr rfl),Or.inr (Or.inr (Or.inr (Or.inl rfl))),Or.inr rfl⟩,⟨fun k=>absurd k (by simp [ehd,lf]),fun _=>h2,fun k=>absurd k (by simp [ehd,lf]),?_⟩,?_,?_⟩
 ·show IsV _ (lkV (lf 12) l.length).2
  rw [e];exact isV_null
 ·show IsV _ (lkV (lf 12) l.length).2
  rw [e];exact isV_null
 ·show Win _ (lkV (lf 12) l.length).2
  rw [e];exact win_null
def gtE (op:Int) (nm:ByteArray) (n:Nat):ET (n + 1):=(⟨op,nm,[],1,vz⟩,[])
theorem fine_get {n:Nat} (op:Int) (nm:ByteArray) (h:op=2∨op=5) (h1:Go.Proofs.YtcnfchblfcfimaaGreatDoor.okT nm=true) (h2:nm.size≤64):Fine n ((⟨op,nm,[],1,vz⟩,[]):ET (n + 1)):=by
 have e:lkV ⟨op,nm,[],1,vz⟩ 0=⟨2,(hdL 9 nm [],List.replicate 1 vn1)⟩:=by rcases h with rfl|rfl <;> rfl
 refine ⟨⟨by rcases h with rfl|rfl <;> exact ⟨by simp,by simp⟩,by rcases h with rfl|rfl;exact Or.inl rfl;exact Or.inr (Or.inl rfl),Or.inr (Or.inr rfl),Or.inr (Or.inr (Or.inr (Or.inr rfl))),Or.inr rfl⟩,⟨?_,?_,?_,?_⟩,?_,?_⟩
 ·intro k;rcases h with rfl|rfl <;> exact absurd k (by simp [ehd])
 ·intro k;rcases h with rfl|rfl <;> exact absurd k (by simp [ehd])
 ·intro k;rcases h with rfl|rfl <;> exact absurd k (by simp [ehd])
 ·show IsV _ (lkV ⟨op,nm,[],1,vz⟩ 0).2
  rw [e];exact (tag_isv nm).2 h1
 ·show IsV _ (lkV ⟨op,nm,[],1,vz⟩ 0).2
  rw [e];exact (tag_isv nm).2 h1
 ·show Win _ (lkV ⟨op,nm,[],1,vz⟩ 0).2
  rw [e];exact (tag_win nm).2 h2
theorem ev_leaf {P:(n:Nat)→ET n→Prop} {n:Nat} {h:Eh} (k:P (n + 1) (h,[])):evA P (n + 1) ((h,[]):ET (n + 1)):=⟨k,fun i hi=>absurd hi (by simp)⟩
theorem ev_all {P:(n:Nat)→ET n→Prop} {n:Nat} {x:ET (n + 1)} (k:P (n + 1) x) (h:∀ y∈x.2,evA P n y):evA P (n + 1) x:=⟨k,fun i hi=>h _ (List.getElem_mem hi)⟩
def exM (g:Nat):ET (dp (g + 20) + 1):=(lf 12,[gtE 2 (mkB [97]) _,(lf 4,[(lf 9,[])]),(lf 10,[])])
def tx1:ByteArray:=⟨#[46,97,59,32,91,116,111,110,117,109,93,59,32,115,117,109]⟩
def tx2:ByteArray:=⟨#[123,97,61,105,100,44,97,61,105,100,125]⟩
def tx3:ByteArray:=⟨#[105,100,59]⟩
def tx4:ByteArray:=⟨#[114,101,99,111,114,100,123,105,100,58,105,110,116,44,116,97,103,115,58,108,105,115,116,40,116,101,120,116,41,125]⟩
theorem sc1:scR (bl tx1)=(0,0,[⟨4,[46],0⟩,⟨1,[97],1⟩,⟨4,[59],2⟩,⟨4,[91],4⟩,⟨1,[116,111,110,117,109],5⟩,⟨4,[93],10⟩,⟨4,[59],11⟩,⟨1,[115,117,109],13⟩]):=by kernel_rfl
theorem sc2:scR (bl tx2)=(0,0,[⟨4,[123],0⟩,⟨1,[97],1⟩,⟨4,[61],2⟩,⟨1,[105,100],3⟩,⟨4,[44],5⟩,⟨1,[97],6⟩,⟨4,[61],7⟩,⟨1,[105,100],8⟩,⟨4,[125],10⟩]):=by kernel_rfl
theorem sc3:scR (bl tx3)=(0,0,[⟨1,[105,100],0⟩,⟨4,[59],2⟩]):=by kernel_rfl
theorem sc4:scR (bl tx4)=(0,0,[⟨1,[114,101,99,111,114,100],0⟩,⟨4,[123],6⟩,⟨1,[105,100],7⟩,⟨4,[58],9⟩,⟨1,[105,110,116],10⟩,⟨4,[44],13⟩,⟨1,[116,97,103,115],14⟩,⟨4,[58],18⟩,⟨1,[108,105,115,116],19⟩,⟨4,[40],23⟩,⟨1,[116,101,120,116],24⟩,⟨4,[41],28⟩,⟨4,[125],29⟩]):=by kernel_rfl
theorem rd1 (g:Nat):rdR (g + 20) (bl tx1)=.inr (exM g):=by
 unfold rdR
 rw [sc1]
 kernel_rfl
theorem rd2 (g:Nat):rdR (g + 20) (bl tx2)=.inl (140,6):=by
 unfold rdR
 rw [sc2]
 kernel_rfl
theorem rd3 (g:Nat):rdR (g + 20) (bl tx3)=.inl (140,3):=by
 unfold rdR
 rw [sc3]
 kernel_rfl
def exT (g:Nat):TT (g + 20):=(⟨10,[mkB [105,100],mkB [116,97,103,115]]⟩,[(⟨5,[]⟩,[]),(⟨9,[]⟩,[(⟨7,[]⟩,[])])])
theorem rd4 (g:Nat):rdRt (g + 20) (bl tx4)=.inr (exT g):=by
 unfold rdRt
 rw [sc4]
 kernel_rfl
end Lx
end Go.Proofs.YtcnfchblfcfimaaGreatDoor
namespace Go.Proofs.YtcnfchblfcfimaaGreatDoor
namespace Lx
open Go.RowKit
variable {dq : {_f : (p : Prop) → Decidable p // True}}
set_option maxRecDepth 100000
theorem mem2 {α:Type} {a b y:α} (h:y∈[a,b]):y=a∨y=b:=by simpa using h
theorem mem3 {α:Type} {a b c y:α} (h:y∈[a,b,c]):y=a∨y=b∨y=c:=by simpa using h
theorem ev3 {P:(n:Nat)→ET n→Prop} (g:Nat) (h0:P _ (exM g)) (h1:∀ n,P (n + 1) ((⟨2,mkB [97],[],1,vz⟩,[]):ET (n + 1))) (h2:∀ n (y:ET n),P (n + 1) ((lf 4,[y]):ET (n + 1))) (h3:∀ n,P (n + 1) ((lf 9,[]):ET (n + 1))) (h4:∀ n,P (n + 1) ((lf 10,[]):ET (n + 1))):evA P _ (exM g):=by
 refine ev_all h0 fun y hy=>?_
 have hy':y=gtE 2 (mkB [97]) _∨y=((lf 4,[(lf 9,[])]):ET (dp (g + 20)))∨y=((lf 10,[]):ET (dp (g + 20))):=by
  exact mem3 (show y∈[gtE 2 (mkB [97]) (dp (g + 19) + 1),((lf 4,[(lf 9,[])]):ET (dp (g + 20))),((lf 10,[]):ET (dp (g + 20)))] from hy)
 rcases hy' with rfl|rfl|rfl
 ·exact ev_leaf (h1 _)
 ·refine ev_all (h2 _ _) fun z hz=>?_
  rw [show z=((lf 9,[]):ET (dp (g + 19) + 1)) from List.mem_singleton.1 hz]
  exact ev_leaf (h3 _)
 ·exact ev_leaf (h4 _)
theorem fine_a (n:Nat):Fine n ((⟨2,mkB [97],[],1,vz⟩,[]):ET (n + 1)):=fine_get 2 (mkB [97]) (Or.inl rfl) (by kernel_rfl) (by decide)
theorem lck1 (g:Nat):lck dq _ (exM g)=0:=by
 refine lck_zero (ev3 g ?_ ?_ ?_ ?_ ?_) (ev3 g ?_ ?_ ?_ ?_ ?_) (ev3 g ?_ ?_ ?_ ?_ ?_) ?_ ?_
 ·exact (fine_pipe _ (by show 2≤3;omega)).bare
 ·exact fun n=>(fine_a n).bare
 ·exact fun n y=>(fine_map y).bare
 ·exact fun n=>(fine_plain (n:=n) 9 [] (by simp)).bare
 ·exact fun n=>(fine_plain (n:=n) 10 [] (by simp)).bare
 ·exact (fine_pipe _ (by show 2≤3;omega)).fi
 ·exact fun n=>(fine_a n).fi
 ·exact fun n y=>(fine_map y).fi
 ·exact fun n=>(fine_plain (n:=n) 9 [] (by simp)).fi
 ·exact fun n=>(fine_plain (n:=n) 10 [] (by simp)).fi
 ·exact (fine_pipe _ (by show 2≤3;omega)).sh
 ·exact fun n=>(fine_a n).sh
 ·exact fun n y=>(fine_map y).sh
 ·exact fun n=>(fine_plain (n:=n) 9 [] (by simp)).sh
 ·exact fun n=>(fine_plain (n:=n) 10 [] (by simp)).sh
 ·rw [show edep _ (exM g)=3 by kernel_rfl];omega
 ·rw [show esiz _ (exM g)=5 by kernel_rfl];omega
theorem pa1 (g:Nat):paR dq (g + 20) (bl tx1)=.inr (exM g):=by
 unfold paR
 rw [rd1]
 show (if lck dq _ (exM g)=0 then _ else _)=_
 rw [if_pos (lck1 g)]
theorem pa2 (g:Nat):paR dq (g + 20) (bl tx2)=.inl (140,6):=by unfold paR;rw [rd2];rfl
theorem pa3 (g:Nat):paR dq (g + 20) (bl tx3)=.inl (140,3):=by unfold paR;rw [rd3];rfl
def px1:List UInt8:=[46,32,97,32,59,32,91,32,116,111,110,117,109,32,93,32,59,32,115,117,109]
theorem mtk1 (g:Nat):mtk _ (exM g)=[mk [46],ntk [97],mk [59],mk [91],wd [116,111,110,117,109],mk [93],mk [59],wd [115,117,109]]:=by kernel_rfl
theorem ntk_a:ntk [97]=wd [97]:=by kernel_rfl
theorem prv1:prR [mk [46],wd [97],mk [59],mk [91],wd [116,111,110,117,109],mk [93],mk [59],wd [115,117,109]]=(0,px1):=by kernel_rfl
theorem pr1 (g:Nat):prX dq _ (exM g)=(0,px1):=by
 unfold prX
 rw [if_pos (lck1 g),mtk1,ntk_a,prv1]
 rfl
theorem nms4:Nms [mkB [105,100],mkB [116,97,103,115]]:=by
 refine ⟨fun s hs=>?_,?_⟩
 ·simp only [List.mem_cons,List.not_mem_nil,or_false] at hs
  rcases hs with rfl|rfl <;> kernel_rfl
 ·refine List.nodup_cons.2 ⟨?_,List.nodup_cons.2 ⟨by simp,List.nodup_nil⟩⟩
  intro h
  have:=mkB_inj (List.mem_singleton.1 h)
  exact absurd this (by decide)
theorem tck4 (g:Nat):tck dq _ (exT g)=0:=by
 have mem:∀ y∈(exT g).2,y=((⟨5,[]⟩,[]):TT (g + 19))∨y=((⟨9,[]⟩,[(⟨7,[]⟩,[])]):TT (g + 19)):=fun y hy=>by
  exact mem2 (show y∈[((⟨5,[]⟩,[]):TT (g + 19)),((⟨9,[]⟩,[(⟨7,[]⟩,[])]):TT (g + 19))] from hy)
 refine tck_zero ⟨Or.inr (Or.inl ⟨Or.inl rfl,rfl,nms4⟩),fun y hy=>?_⟩ ⟨⟨by show 2≤256;omega,fun s hs=>?_,fun y hy=>?_⟩,?_,?_⟩
 ·rcases mem y hy with rfl|rfl
  ·exact ⟨Or.inr (Or.inr ⟨by show (1:Int)≤5;omega,by show (5:Int)≤8;omega,rfl,rfl⟩),fun z hz=>absurd hz (by simp)⟩
  ·refine ⟨Or.inl ⟨rfl,rfl,rfl⟩,fun z hz=>?_⟩
   rw [show z=((⟨7,[]⟩,[]):TT (g + 18)) from List.mem_singleton.1 hz]
   exact ⟨Or.inr (Or.inr ⟨by show (1:Int)≤7;omega,by show (7:Int)≤8;omega,rfl,rfl⟩),fun z hz=>absurd hz (by simp)⟩
 ·have:s∈[mkB [105,100],mkB [116,97,103,115]]:=hs
  simp only [List.mem_cons,List.not_mem_nil,or_false] at this
  rcases this with rfl|rfl <;> decide
 ·rcases mem y hy with rfl|rfl
  ·exact ⟨by simp,fun s hs=>absurd hs (by simp),fun z hz=>absurd hz (by simp)⟩
  ·refine ⟨by simp,fun s hs=>absurd hs (by simp),fun z hz=>?_⟩
   rw [show z=((⟨7,[]⟩,[]):TT (g + 18)) from List.mem_singleton.1 hz]
   exact ⟨by simp,fun s hs=>absurd hs (by simp),fun z hz=>absurd hz (by simp)⟩
 ·rw [show tdep _ (exT g)=3 by kernel_rfl];omega
 ·rw [show tsiz _ (exT g)=4 by kernel_rfl];omega
theorem pa4 (g:Nat):paT dq (g + 20) (bl tx4)=.inr (exT g):=by
 unfold paT
 rw [rd4]
 show (if tck dq _ (exT g)=0 then _ else _)=_
 rw [if_pos (tck4 g)]
def px4:List UInt8:=[114,101,99,111,114,100,32,123,32,105,100,32,58,32,105,110,116,32,44,32,116,97,103,115,32,58,32,108,105,115,116,32,40,32,116,101,120,116,32,41,32,125]
theorem ttk4 (g:Nat):ttk _ (exT g)=[wd [114,101,99,111,114,100],mk [123],ntk [105,100],mk [58],wd [105,110,116],mk [44],ntk [116,97,103,115],mk [58],wd [108,105,115,116],mk [40],wd [116,101,120,116],mk [41],mk [125]]:=by kernel_rfl
theorem ntk_i:ntk [105,100]=wd [105,100]:=by kernel_rfl
theorem ntk_t:ntk [116,97,103,115]=wd [116,97,103,115]:=by kernel_rfl
theorem prv4:prR [wd [114,101,99,111,114,100],mk [123],wd [105,100],mk [58],wd [105,110,116],mk [44],wd [116,97,103,115],mk [58],wd [108,105,115,116],mk [40],wd [116,101,120,116],mk [41],mk [125]]=(0,px4):=by kernel_rfl
theorem pr4 (g:Nat):prT dq _ (exT g)=(0,px4):=by
 unfold prT
 rw [if_pos (tck4 g),ttk4,ntk_i,ntk_t,prv4]
 rfl
end Lx
end Go.Proofs.YtcnfchblfcfimaaGreatDoor
namespace Go.Proofs.YtcnfchblfcfimaaGreatDoor
namespace Lx
open Go.RowKit
variable {dq : {_f : (p : Prop) → Decidable p // True}}
structure Gw (w:World):Prop where
 gs:Gs w
 gt:Gt w
theorem Gw.below {w W:World} (g:Gw w) (hb:Below w.heap.size w W):Gw W:=⟨g.gs.below hb,g.gt.below hb⟩
theorem rd_in {f:Nat} {l:List UInt8} {x:ET (dp f + 1)} (h:paR dq f l=.inr x):rdR f l=.inr x∧lck dq _ x=0:=by
 unfold paR at h
 cases hr:rdR f l with
 | inl y=>rw [hr] at h;cases h
 | inr z =>
  rw [hr] at h
  simp only [prsO] at h
  split at h
  ·rename_i k
   cases h
   exact ⟨rfl,k⟩
  ·cases h
theorem pa_bound {f:Nat} {l:List UInt8} {x:ET (dp f + 1)} (h:paR dq f l=.inr x):GE _ x∧esiz _ x≤2000:=rd_bound (rd_in h).1
theorem pt_in {f:Nat} {l:List UInt8} {x:TT f} (h:paT dq f l=.inr x):rdRt f l=.inr x∧tck dq _ x=0:=by
 unfold paT at h
 cases hr:rdRt f l with
 | inl y=>rw [hr] at h;cases h
 | inr z =>
  rw [hr] at h
  simp only [prsT] at h
  split at h
  ·rename_i k
   cases h
   exact ⟨rfl,k⟩
  ·cases h
theorem pt_bound {f:Nat} {l:List UInt8} {x:TT f} (h:paT dq f l=.inr x):GT _ x∧tsiz _ x≤2000:=trd_bound (pt_in h).1
theorem parse_ok (hP:ParseOk) {f:Nat} (hf:1025≤f) {s:ByteArray} {w:World} (g:Gw w) (hz:s.size≤1000000) {x:ET (dp f + 1)} (h:paR dq f (bl s)=.inr x) :
  Calls Tryz.prog 9 #[.string s] w fun e w'=>∃ q,e=.returned (.tuple #[.agg (ecl (ehd _ x) q),.int .i64 0,.int .i64 0])∧RE _ w' x q∧Below w.heap.size w w':=by
 refine (parse_is (dq:=dq) hP f hf s w g.gs.gg g.gs.gp hz).mono ?_
 rintro e w' ⟨hb,hr⟩
 rw [h] at hr
 obtain ⟨q,rfl,hk⟩:=hr
 exact ⟨q,rfl,hk.rd,hb⟩
theorem parse_no (hP:ParseOk) {f:Nat} (hf:1025≤f) {s:ByteArray} {w:World} (g:Gw w) (hz:s.size≤1000000) {y:Int×Int} (h:paR dq f (bl s)=.inl y) :
  Calls Tryz.prog 9 #[.string s] w fun e w'=>e=.returned (.tuple #[.agg (ecl ze zs),.int .i64 y.1,.int .i64 y.2])∧Below w.heap.size w w':=by
 refine (parse_is (dq:=dq) hP f hf s w g.gs.gg g.gs.gp hz).mono ?_
 rintro e w' ⟨hb,hr⟩
 rw [h] at hr
 exact ⟨hr,hb⟩
theorem ptype_ok (hP:ParseOk) {f:Nat} (hf:1025≤f) {s:ByteArray} {w:World} (g:Gw w) (hz:s.size≤1000000) {x:TT f} (h:paT dq f (bl s)=.inr x) :
  Calls Tryz.prog 20 #[.string s] w fun e w'=>∃ q,e=.returned (.tuple #[.agg (tcl (thd _ x) q),.int .i64 0,.int .i64 0])∧RTq _ w' x q∧Below w.heap.size w w':=by
 refine (ptype_is (dq:=dq) hP f hf s w g.gs.gg g.gs.gp g.gt hz).mono ?_
 rintro e w' ⟨hb,hr⟩
 rw [h] at hr
 obtain ⟨q,rfl,hk⟩:=hr
 exact ⟨q,rfl,hk.rd,hb⟩
set_option maxHeartbeats 4000000 in
set_option maxRecDepth 100000 in
theorem awake_any (hP:ParseOk) (gk:Nat) (hg:1005≤gk) (w:World) (g:Gw w):Calls Tryz.prog 11 #[] w fun e w'=>e=.returned (.bool true)∧Below w.heap.size w w':=by
 have dq:{_f:(p:Prop)→Decidable p // True}:=⟨fun p=>Classical.propDecidable p,trivial⟩
 have hf:1025≤gk + 20:=by omega
 have G:=hide g
 have p1:=hide (fun W (hb:Below w.heap.size w W)=>parse_ok hP hf (g.below hb) (s:=tx1) (by decide) (pa1 (dq:=dq) gk))
 have p2:=hide (fun W (hb:Below w.heap.size w W)=>parse_no hP hf (g.below hb) (s:=tx2) (by decide) (pa2 (dq:=dq) gk))
 have p3:=hide (fun W (hb:Below w.heap.size w W)=>parse_no hP hf (g.below hb) (s:=tx3) (by decide) (pa3 (dq:=dq) gk))
 have p4:=hide (fun W (hb:Below w.heap.size w W)=>ptype_ok hP hf (g.below hb) (s:=tx4) (by decide) (pa4 (dq:=dq) gk))
 have q1:=hide (fun q W (hb:Below w.heap.size w W) (h:RE _ W (exM gk) q)=>print_is (dq:=dq) hP _ (exM gk) q W h (pa_bound (pa1 (dq:=dq) gk)).1 (by have:=(pa_bound (pa1 (dq:=dq) gk)).2;omega) (g.below hb).gs)
 have q4:=hide (fun q W (hb:Below w.heap.size w W) (h:RTq _ W (exT gk) q)=>ptprint_is (dq:=dq) hP _ (exT gk) q W h (pt_bound (pa4 (dq:=dq) gk)).1 (by have:=(pt_bound (pa4 (dq:=dq) gk)).2;omega) (g.below hb).gs (g.below hb).gt)
 rw [pr1] at q1
 rw [pr4] at q4
 have hls:Hid (∀ W q,RE _ W (exM gk) q→∃ a c,q.ls=.slice a 3 c):=fun W q h=>by
  obtain ⟨a,c,e,_⟩:=(RE.tl h).len
  exact ⟨a,c,e⟩
 have ez:ecl ze zs=#[.int .i64 0,.string ⟨#[]⟩,.slice none 0 0,.slice none 0 0,.int .i64 0,.bool false,.bool false,.string ⟨#[]⟩,.int .i64 0,.int .u64 0,.string ⟨#[]⟩,.slice none 0 0,.slice none 0 0]:=rfl
 rw [ez] at p2 p3
 rw [show mkB px1=⟨#[46,32,97,32,59,32,91,32,116,111,110,117,109,32,93,32,59,32,115,117,109]⟩ from rfl] at q1
 rw [show mkB px4=⟨#[114,101,99,111,114,100,32,123,32,105,100,32,58,32,105,110,116,32,44,32,116,97,103,115,32,58,32,108,105,115,116,32,40,32,116,101,120,116,32,41,32,125]⟩ from rfl] at q4
 clear g hP hf ez
 obtain ⟨h1,hh1⟩:∃ h,ehd _ (exM gk)=h:=⟨_,rfl⟩
 obtain ⟨h4,hh4⟩:∃ h,thd _ (exT gk)=h:=⟨_,rfl⟩
 rw [hh1] at p1 q1
 rw [hh4] at p4 q4
 clear hh1 hh4
 unfold tx1 at p1
 unfold tx2 at p2
 unfold tx3 at p3
 unfold tx4 at p4
 unfold ecl at p1 q1
 unfold tcl tvs at p4 q4
 dsimp only at p2 p3
 go_enter Tryz.func11, Tryz.ntmps11
 go_wp2_with (go_at_call 9;refine Sto.out ?_)
 refine Sto.mk ?_
 refine (p1.out _ (Below.refl _ _)).mono ?_
 rintro e w1 ⟨q,rfl,hr1,hb1⟩
 obtain ⟨a3,c3,hls1⟩:=hls.out w1 q hr1
 obtain ⟨x1,y1,z1,x2,y2,z2,x3,y3,z3,x4,y4,z4,hqs⟩:=hr1.shape
 subst hqs
 obtain ⟨rfl,rfl,rfl⟩:=Value.slice.inj hls1
 have R1:=hide hr1
 have B1:=hide hb1
 have X1:=hide (ex_new w1 h1 ⟨.slice x1 y1 z1,.slice x2 3 z2,.slice x3 y3 z3,.slice x4 y4 z4⟩)
 have c1:=hide (q1.out ⟨.slice x1 y1 z1,.slice x2 3 z2,.slice x3 y3 z3,.slice x4 y4 z4⟩ (w1.alloc (.cells (ecl h1 ⟨.slice x1 y1 z1,.slice x2 3 z2,.slice x3 y3 z3,.slice x4 y4 z4⟩) 33)) (below_al hb1) (hr1.below (below_al (Below.refl _ _))))
 clear hr1 hb1 p1 q1 hls hls1
 unfold ecl at X1 c1
 dsimp only at X1 c1 ⊢
 go_wp2_with (go_at_call 15;refine Sto.out ?_)
 refine Sto.mk ?_
 refine c1.out.mono ?_
 rintro e w2 ⟨rfl,hb2⟩
 have B2:=hide (below_then (below_al B1.out) hb2)
 have X2:=hide (X1.out.below hb2)
 clear hb2 c1 X1
 go_wp2_with (go_at_call 9;refine Sto.out ?_)
 refine Sto.mk ?_
 refine (p2.out _ B2.out).mono ?_
 rintro e w3 ⟨rfl,hb3⟩
 have B3:=hide (below_al (o:=.cells #[.int .i64 0,.string ⟨#[]⟩,.slice none 0 0,.slice none 0 0,.int .i64 0,.bool false,.bool false,.string ⟨#[]⟩,.int .i64 0,.int .u64 0,.string ⟨#[]⟩,.slice none 0 0,.slice none 0 0] 33) (below_then B2.out hb3))
 have X3:=hide ((X2.out.below hb3).below (below_al (o:=.cells #[.int .i64 0,.string ⟨#[]⟩,.slice none 0 0,.slice none 0 0,.int .i64 0,.bool false,.bool false,.string ⟨#[]⟩,.int .i64 0,.int .u64 0,.string ⟨#[]⟩,.slice none 0 0,.slice none 0 0] 33) (Below.refl _ _)))
 clear hb3 p2 X2
 go_wp2_with (go_at_call 9;refine Sto.out ?_)
 refine Sto.mk ?_
 refine (p3.out _ B3.out).mono ?_
 rintro e w4 ⟨rfl,hb4⟩
 have B4:=hide (below_al (o:=.cells #[.int .i64 0,.string ⟨#[]⟩,.slice none 0 0,.slice none 0 0,.int .i64 0,.bool false,.bool false,.string ⟨#[]⟩,.int .i64 0,.int .u64 0,.string ⟨#[]⟩,.slice none 0 0,.slice none 0 0] 33) (below_then B3.out hb4))
 have X4:=hide ((X3.out.below hb4).below (below_al (o:=.cells #[.int .i64 0,.string ⟨#[]⟩,.slice none 0 0,.slice none 0 0,.int .i64 0,.bool false,.bool false,.string ⟨#[]⟩,.int .i64 0,.int .u64 0,.string ⟨#[]⟩,.slice none 0 0,.slice none 0 0] 33) (Below.refl _ _)))
 clear hb4 p3 X3
 go_wp2_with (go_at_call 20;refine Sto.out ?_)
 refine Sto.mk ?_
 refine (p4.out _ B4.out).mono ?_
 rintro e w5 ⟨q',rfl,hr5,hb5⟩
 obtain ⟨u1,v1,t1,u2,v2,t2,hqs⟩:=RTq.shape hr5
 subst hqs
 have B5:=hide (below_then B4.out hb5)
 have X5:=hide ((X4.out.below hb5).below (below_al (o:=.cells (tcl h4 ⟨.slice u1 v1 t1,.slice u2 v2 t2⟩) 48) (Below.refl _ _)))
 have c5:=hide (q4.out ⟨.slice u1 v1 t1,.slice u2 v2 t2⟩ (w5.alloc (.cells (tcl h4 ⟨.slice u1 v1 t1,.slice u2 v2 t2⟩) 48)) (below_al B5.out) (RTq.below hr5 (below_al (Below.refl _ _))))
 clear hr5 hb5 p4 q4 X4
 unfold tcl tvs at c5 X5
 dsimp only at c5 X5 ⊢
 go_wp2_with (go_at_call 22;refine Sto.out ?_)
 refine Sto.mk ?_
 refine c5.out.mono ?_
 rintro e w6 ⟨rfl,hb6⟩
 have B6:=hide (below_then (below_al B5.out) hb6)
 have k6:=(X5.out.below hb6).cells.2.2.2.1
 clear hb6 c5 X5
 go_wp2_with fail
 go_ret
 exact ⟨rfl,B6.out⟩
end Lx
end Go.Proofs.YtcnfchblfcfimaaGreatDoor
namespace Go.Proofs.YtcnfchblfcfimaaGreatDoor
namespace Lx
open Go.RowKit
structure Be2 (w:World) (h:Eh) (q q':Sl) (W:World):Prop where
 below:Below w.heap.size w W
 ba:Ex W w.heap.size h q
 bb:Ex W (w.heap.size + 1) h q'
theorem Be2.then {w W W1:World} {h:Eh} {q q':Sl} (k:Be2 w h q q' W) (hb:Below W.heap.size W W1):Be2 w h q q' W1:=⟨below_then k.below hb,k.ba.below hb,k.bb.below hb⟩
theorem Be2.new (w:World) (h:Eh) (q q':Sl):Be2 w h q q' ((w.alloc (.cells (ecl h q) 33)).alloc (.cells (ecl h q') 33)):=by
 refine ⟨below_al (below_al (Below.refl _ _)),(ex_new w h q).below (below_al (Below.refl _ _)),?_⟩
 have:=ex_new (w.alloc (.cells (ecl h q) 33)) h q'
 rw [World.size_alloc] at this
 exact this
theorem belowE_dr {L:Nat} {w W:World} (h:Below L w W):Below L w W.drew:=h.drew
theorem belowE_dn {L:Nat} {w W:World} (h:Below L w W) (n:Nat):Below L w (W.drewN n):=h.trans (below_drewN _ _ _)
set_option maxHeartbeats 4000000 in
set_option maxRecDepth 100000 in
theorem esame_any:∀ (n:Nat) (x:ET n) (q q':Sl) (w:World),RE n w x q→RE n w x q' →
  Calls Tryz.prog 12 #[.agg (ecl (ehd n x) q),.agg (ecl (ehd n x) q')] w fun e w'=>e=.returned (.bool true)∧Below w.heap.size w w':=by
 intro n
 induction n with
 | zero=>intro x;exact Empty.elim x
 | succ n ih =>
  intro x q q' w hr hr'
  obtain ⟨⟨op,nm,nms,vn,val⟩,l⟩:=x
  have hx:=hide hr
  have hy:=hide hr'
  have ih':=hide ih
  obtain ⟨al,cl,e1,hc1,hc2⟩:=hr.tl.len
  obtain ⟨an,cn,e2,hn1,hn2⟩:=hr.1.len
  obtain ⟨bl',dl,e3,hd1,hd2⟩:=hr'.tl.len
  obtain ⟨bn,dn,e4,ho1,ho2⟩:=hr'.1.len
  obtain ⟨x1,y1,z1,x2,y2,z2,x3,y3,z3,x4,y4,z4,hqs⟩:=hr.shape
  subst hqs
  obtain ⟨uz1,vz1,tz1,uz2,vz2,tz2,uz3,vz3,tz3,uz4,vz4,tz4,hqs⟩:=hr'.shape
  subst hqs
  obtain ⟨rfl,rfl,rfl⟩:=Value.slice.inj e1
  obtain ⟨rfl,rfl,rfl⟩:=Value.slice.inj e2
  obtain ⟨rfl,rfl,rfl⟩:=Value.slice.inj e3
  obtain ⟨rfl,rfl,rfl⟩:=Value.slice.inj e4
  have hv:=hide (fun W (hb:Below w.heap.size w W)=>Calls.tb (b:=true) (requal_any vn val val (.slice x3 y3 z3) (.slice x4 y4 z4) (.slice uz3 vz3 tz3) (.slice uz4 vz4 tz4) W (hr.2.1.below hb) (hr'.2.1.below hb)) (by simp))
  have ml:maxLen=9223372036854775807:=rfl
  clear ih hr hr' e1 e2 e3 e4
  simp only at hn1 hn2 hc1 hc2 hd1 hd2 ho1 ho2
  have T0:=hide (Be2.new w ⟨op,nm,nms,vn,val⟩ ⟨.slice x1 nms.length z1,.slice x2 l.length z2,.slice x3 y3 z3,.slice x4 y4 z4⟩ ⟨.slice uz1 nms.length tz1,.slice uz2 l.length tz2,.slice uz3 vz3 tz3,.slice uz4 vz4 tz4⟩)
  show Calls _ _ #[.agg (ecl ⟨op,nm,nms,vn,val⟩ _),.agg (ecl ⟨op,nm,nms,vn,val⟩ _)] _ _
  unfold ecl at T0 ⊢
  unfold vals at hv
  dsimp only at T0 hv ⊢
  go_enter Tryz.func12, Tryz.ntmps12
  go_wp2_with (go_at_call 30;refine Sto.out ?_)
  refine Sto.mk ?_
  refine (hv.out _ T0.out.below).mono ?_
  rintro e w1 ⟨rfl,hb1⟩
  have T1:=hide (T0.out.then hb1)
  clear hb1 T0 hv
  go_wp2_with fail
  go_loopw [5] (fun i w'=>∃ k:Nat,i=.int .i64 k∧k≤nms.length∧Hid (Be2 w ⟨op,nm,nms,vn,val⟩ ⟨.slice x1 nms.length z1,.slice x2 l.length z2,.slice x3 y3 z3,.slice x4 y4 z4⟩ ⟨.slice uz1 nms.length tz1,.slice uz2 l.length tz2,.slice uz3 vz3 tz3,.slice uz4 vz4 tz4⟩ w')) (fun i _=>nms.length - (intOf i).toNat)
  case atStart=>exact ⟨0,rfl,Nat.zero_le _,T1.out⟩
  case round =>
   clear T1
   obtain ⟨k,rfl,hk',H⟩:=hrel
   have x0:=H.out.ba.cells
   have y0:=H.out.bb.cells
   by_cases hkl:k<nms.length
   ·have hki:(k:Int)<(nms.length:Int):=by omega
    have hk63:(k:Int)<9223372036854775807:=by omega
    obtain ⟨b,o,c,he,hbl,hlc,hcm,hcell⟩:=hx.out.1.at k hkl
    have he':=Value.slice.inj he
    obtain ⟨rfl,_,rfl⟩:=he'
    clear he
    have hcell:=(H.out.below.cell (p:=⟨b,o + k,none⟩) hbl).trans hcell
    obtain ⟨b',o',c',he,hbl',hlc',hcm',hcell'⟩:=hy.out.1.at k hkl
    have he':=Value.slice.inj he
    obtain ⟨rfl,_,rfl⟩:=he'
    clear he
    have hcell':=(H.out.below.cell (p:=⟨b',o' + k,none⟩) hbl').trans hcell'
    obtain ⟨s,hs⟩:∃ s,nms[k]=s:=⟨_,rfl⟩
    simp only at hcell hcell'
    rw [hs] at hcell hcell'
    clear hs
    go_wp2_with fail
    go_quiet (fail)
    go_wp2_with fail
    exact ⟨⟨k + 1,by go_num,by omega,H.out.then (belowE_dn (Below.refl _ _) _)⟩,by simp [intOf];omega⟩
   ·have hki:¬ ((k:Int)<(nms.length:Int)):=by omega
    have T1:=H
    clear H
    go_wp2_with fail
    go_loopw [6] (fun i w'=>∃ k:Nat,i=.int .i64 k∧k≤l.length∧Hid (Be2 w ⟨op,nm,nms,vn,val⟩ ⟨.slice x1 nms.length z1,.slice x2 l.length z2,.slice x3 y3 z3,.slice x4 y4 z4⟩ ⟨.slice uz1 nms.length tz1,.slice uz2 l.length tz2,.slice uz3 vz3 tz3,.slice uz4 vz4 tz4⟩ w')) (fun i _=>l.length - (intOf i).toNat)
    case atStart=>exact ⟨0,rfl,Nat.zero_le _,T1.out⟩
    case round =>
     clear T1 x0 y0 hki hk' hkl
     obtain ⟨k,rfl,hk',H⟩:=hrel
     have x0:=H.out.ba.cells
     have y0:=H.out.bb.cells
     by_cases hkl:k<l.length
     ·have hki:(k:Int)<(l.length:Int):=by omega
      have hk63:(k:Int)<9223372036854775807:=by omega
      obtain ⟨b1,o1,f1,he,hbl1,hlc1,hcm1,q1,hrg1,hrd1⟩:=hx.out.tl.at k hkl
      have he':=Value.slice.inj he
      obtain ⟨rfl,_,rfl⟩:=he'
      clear he
      obtain ⟨b2,o2,f2,he,hbl2,hlc2,hcm2,q2,hrg2,hrd2⟩:=hy.out.tl.at k hkl
      have he':=Value.slice.inj he
      obtain ⟨rfl,_,rfl⟩:=he'
      clear he
      have hd1':=hide hrd1
      have hd2':=hide hrd2
      obtain ⟨c1,c2,c3,c4,c5,c6,c7,c8,c9,c10,c11,c12,hqs⟩:=hrd1.shape
      subst hqs
      obtain ⟨d1,d2,d3,d4,d5,d6,d7,d8,d9,d10,d11,d12,hqs⟩:=hrd2.shape
      subst hqs
      have r0:=range13 (rangeAt_below hrg1 H.out.below hbl1)
      have s0:=range13 (rangeAt_below hrg2 H.out.below hbl2)
      clear hrg1 hrd1 hrg2 hrd2
      have hcall:=hide (fun W (hW:Below wr.heap.size wr W)=>ih'.out l[k] _ _ W (hd1'.out.below (below_then H.out.below hW)) (hd2'.out.below (below_then H.out.below hW)))
      simp only at r0 s0 hcall
      obtain ⟨hp,hhp⟩:∃ hp,ehd n l[k]=hp:=⟨_,rfl⟩
      rw [hhp] at r0 s0 hcall
      clear hhp
      simp only [ecl] at hcall
      go_wp2_with fail
      go_region_law (first|(go_simp;go_at_call 12;refine (hcall.out _ (by repeat (first|exact Below.refl _ _|refine belowE_dr ?_|refine belowE_dn ?_ _))).mono ?_;rintro e w3 ⟨rfl,hb3⟩;have T3:Hid (Below wr.heap.size wr w3):=below_then (by repeat (first|exact Below.refl _ _|refine belowE_dr ?_|refine belowE_dn ?_ _)) hb3;clear hb3;dsimp only))
      all_goals
       go_simp
       go_wp2_with fail
       exact ⟨⟨k + 1,by go_num,by omega,H.out.then T3.out⟩,by simp [intOf];omega⟩
     ·have hki:¬ ((k:Int)<(l.length:Int)):=by omega
      go_wp2_with fail
      go_ret
      exact ⟨rfl,H.out.below⟩
end Lx
end Go.Proofs.YtcnfchblfcfimaaGreatDoor
