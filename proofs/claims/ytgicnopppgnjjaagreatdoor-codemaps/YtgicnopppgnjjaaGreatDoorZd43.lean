/- Merged by program: TsPrint, TtPrint, TwEval, TxAwake, SgIso, CoWell, CoChk, CoCheck, SuSame. -/
import Derived.Test.YtgicnopppgnjjaaGreatDoorZd35
import Derived.Test.YtgicnopppgnjjaaGreatDoorZd41
import Derived.Lib.ItoaLen
import Derived.Test.YtgicnopppgnjjaaGreatDoorZd26
import Derived.Test.YtgicnopppgnjjaaGreatDoorZd27
import Derived.Test.YtgicnopppgnjjaaGreatDoorZd07
import Derived.Test.YtgicnopppgnjjaaGreatDoorZd09
import Derived.Test.YtgicnopppgnjjaaGreatDoorZd19
import Derived.Test.YtgicnopppgnjjaaGreatDoorZd24
import Derived.Test.YtgicnopppgnjjaaGreatDoorZd29
import Derived.Test.YtgicnopppgnjjaaGreatDoorZd39
import Derived.Test.YtgicnopppgnjjaaGreatDoorZd23
import Derived.Test.YtgicnopppgnjjaaGreatDoorZd28
import Derived.Test.YtgicnopppgnjjaaGreatDoorZd37
import Derived.Test.YtgicnopppgnjjaaGreatDoorZd42
import Derived.Test.YtgicnopppgnjjaaGreatDoorZd14
import Derived.Deep.RegionLaw
set_option linter.unusedSimpArgs false
set_option linter.unusedVariables false
namespace Go.Proofs.YtgicnopppgnjjaaGreatDoor
namespace Lx
open Go.RowKit
variable {dq : {_f : (p : Prop) → Decidable p // True}}
set_option maxHeartbeats 1000000 in
theorem mapTok_step (hP:ParseOk) (n:Nat) (ih:ToOk n):ToOk (n + 1):=by
 intro x q w hr hp hz g
 obtain ⟨⟨k,nm,nms,vn,val⟩,l⟩:=x
 obtain ⟨p1,p2,p3,p4,p5,p6,p7,p8,p9⟩:=hp
 simp only at p1 p2 p3 p4 p5 p6 p7 p8 p9
 show Calls _ _ #[.agg (ecl ⟨k,nm,nms,vn,val⟩ q)] _ _
 have hk:k=1∨k=2∨k=3∨k=4∨k=5∨k=6∨k=7∨k=8∨k=9∨k=10∨k=11∨k=12:=by omega
 rcases hk with rfl|rfl|rfl|rfl|rfl|rfl|rfl|rfl|rfl|rfl|rfl|rfl
 ·have e:mtk (n + 1) (⟨1,nm,nms,vn,val⟩,l)=[wd [105,100]]:=by simp [mtk,plW]
  rw [e];exact mapTok_1 hr g
 ·have e:mtk (n + 1) (⟨2,nm,nms,vn,val⟩,l)=[mk [46],ntk (bl nm)]:=by simp [mtk]
  rw [e];exact mapTok_2 hP hr p5 g
 ·have e:mtk (n + 1) (⟨3,nm,nms,vn,val⟩,l)=nmd [61] nms (l.map (mtk n)):=by simp [mtk]
  rw [e] at hz ⊢;exact mapTok_3 hP ih hr (p4 (Or.inl rfl)) p6 p9 p8 hz g
 ·have e:mtk (n + 1) (⟨4,nm,nms,vn,val⟩,l)=btw [91] ((l.map (mtk n)).headD []) [93]:=by simp [mtk]
  rw [e] at hz ⊢;exact mapTok_4 ih hr (p3 rfl) p9 hz g
 ·have e:mtk (n + 1) (⟨5,nm,nms,vn,val⟩,l)=[wd [116,97,103],ntk (bl nm)]:=by simp [mtk]
  rw [e];exact mapTok_5 hP hr p5 g
 ·have e:mtk (n + 1) (⟨6,nm,nms,vn,val⟩,l)=wd [99,97,115,101] :: nmd [61] nms (l.map (mtk n)):=by simp [mtk]
  rw [e] at hz ⊢;exact mapTok_6 hP ih hr (p4 (Or.inr rfl)) p6 p9 p8 (by simp only [List.length_cons] at hz;omega) g
 ·have e:mtk (n + 1) (⟨7,nm,nms,vn,val⟩,l)=[wd [99,111,110,115,116],ctk (vhd vn val)]:=by simp [mtk]
  rw [e];exact mapTok_7 hr p7 g
 ·have e:mtk (n + 1) (⟨8,nm,nms,vn,val⟩,l)=[wd [116,111,116,101,120,116]]:=by simp [mtk,plW]
  rw [e];exact mapTok_8 hr g
 ·have e:mtk (n + 1) (⟨9,nm,nms,vn,val⟩,l)=[wd [116,111,110,117,109]]:=by simp [mtk,plW]
  rw [e];exact mapTok_9 hr g
 ·have e:mtk (n + 1) (⟨10,nm,nms,vn,val⟩,l)=[wd [115,117,109]]:=by simp [mtk,plW]
  rw [e];exact mapTok_10 hr g
 ·have e:mtk (n + 1) (⟨11,nm,nms,vn,val⟩,l)=[wd [99,111,117,110,116]]:=by simp [mtk,plW]
  rw [e];exact mapTok_11 hr g
 ·have e:mtk (n + 1) (⟨12,nm,nms,vn,val⟩,l)=sepT (mk [59]) (l.map (stk n)):=by simp [mtk,stk];rfl
  rw [e] at hz ⊢;exact mapTok_12 ih hr p9 p8 hz g
theorem mapTok_ok (hP:ParseOk):∀ n,ToOk n
 | 0=>fun x=>Empty.elim x
 | n + 1=>mapTok_step hP n (mapTok_ok hP n)
theorem printL_len (n:Bool) (s:ByteArray) (x:Int) (h:isN n s x=true):(printL n (bl s) x).length≤512:=by
 obtain ⟨_,h1,h40,hx1,hx2,_⟩:=isN_all h
 have hs:(sgnB n).length≤1:=by cases n <;> simp [sgnB]
 have hil:=Lib.itoa_length_le (x + s.size - 1) (by omega) (by omega)
 unfold printL
 rw [List.length_append,bl_length]
 split
 ·rw [List.length_append,List.length_replicate,bl_length];omega
 ·split
  ·have:(pointed (bl s) (-x).toNat).length≤200:=by
    unfold pointed
    split <;> simp [bl_length] <;> omega
   omega
  ·have:(powered (bl s) (Lib.itoa (x + s.size - 1))).length≤200:=by
    unfold powered
    split <;> simp [bl_length] <;> omega
   omega
structure Nod (n:Nat) (x:ET (n + 1)):Prop where
 bare:EBare x.1 x.2
 four:x.1.op=4→x.2.length=1
 pipe:x.1.op=12→2≤x.2.length
 cn:x.1.op=7→isCn (vhd _ x.1.val).kind
 isv:IsV _ (lkV x.1 x.2.length).2
 win:Win _ (lkV x.1 x.2.length).2
def Nods:(n:Nat)→ET n→Prop
 | 0,_=>False
 | n + 1,x=>Nod n x∧∀ y∈x.2,Nods n y
theorem nods_of:∀ (n:Nat) (x:ET n),evA bareP n x→evA fiP n x→evA shP n x→Nods n x
 | 0,x,_,_,_=>Empty.elim x
 | n + 1,x,a,b,c=>by
  refine ⟨⟨a.1,b.1.1,b.1.2.1,b.1.2.2.1,b.1.2.2.2,c.1.2⟩,fun y hy=>?_⟩
  obtain ⟨i,hi,rfl⟩:=List.mem_iff_getElem.1 hy
  exact nods_of n _ (a.2 i hi) (b.2 i hi) (c.2 i hi)
theorem lck_ok {n:Nat} {x:ET n} (h:lck dq n x=0):Nods n x∧edep n x≤16∧esiz n x≤512:=by
 unfold lck at h
 split at h
 ·cases h
 ·rename_i a
  split at h
  ·rename_i b
   have a':=Classical.not_not.1 a
   exact ⟨nods_of n x a'.1 a'.2 b.1,b.2⟩
  ·cases h
theorem Nod.pre {n:Nat} {x:ET (n + 1)} (h:Nod n x):1≤x.1.op∧x.1.op≤12∧(x.1.op=4→x.2.length=1)∧(x.1.op=3∨x.1.op=6→x.1.names.length=x.2.length)∧x.1.name.size≤64∧(∀ s∈x.1.names,s.size≤64)∧((vhd x.1.vn x.1.val).kind=3→isN (vhd x.1.vn x.1.val).neg (vhd x.1.vn x.1.val).dig (vhd x.1.vn x.1.val).exp=true)∧(vhd x.1.vn x.1.val).text.size≤4096:=by
 obtain ⟨⟨⟨b1,b2⟩,b3,b4,b5,b6⟩,h4,h12,h7,hv,hw⟩:=h
 obtain ⟨⟨k,nm,nms,vn,val⟩,l⟩:=x
 simp only at b1 b2 b3 b4 b5 b6 h4 h12 h7 hv hw ⊢
 refine ⟨b1,b2,h4,fun h36=>?_,?_,fun s hs=>?_,fun hk3=>?_,?_⟩
 ·have e:lkV ⟨k,nm,nms,vn,val⟩ l.length=⟨2,(hdL 8 nilB nms,List.replicate l.length vn1)⟩:=by rcases h36 with rfl|rfl <;> simp [lkV]
  rw [e] at hv
  have:=(hv.2.1.2.2.1 rfl).1
  simpa [hdL] using this
 ·by_cases h2:k=2∨k=5
  ·have e:lkV ⟨k,nm,nms,vn,val⟩ l.length=⟨2,(hdL 9 nm [],List.replicate 1 vn1)⟩:=by rcases h2 with rfl|rfl <;> simp [lkV]
   rw [e] at hw
   have:=hw.1.1
   simp [hdL] at this
   omega
  ·rcases b3 with rfl|rfl|rfl
   ·exact absurd (Or.inl rfl) h2
   ·exact absurd (Or.inr rfl) h2
   ·decide
 ·by_cases h3:k=3∨k=6
  ·have e:lkV ⟨k,nm,nms,vn,val⟩ l.length=⟨2,(hdL 8 nilB nms,List.replicate l.length vn1)⟩:=by rcases h3 with rfl|rfl <;> simp [lkV]
   rw [e] at hw
   exact hw.1.2.2.1 s hs
  ·rcases b4 with rfl|rfl|rfl
   ·exact absurd (Or.inl rfl) h3
   ·exact absurd (Or.inr rfl) h3
   ·simp at hs
 ·rcases b6 with rfl|hz
  ·have e:lkV ⟨7,nm,nms,vn,val⟩ l.length=⟨vn,val⟩:=by simp [lkV]
   rw [e] at hv
   cases vn with
   | zero=>exact Empty.elim val
   | succ vn=>exact hv.2.1.1 hk3
  ·cases vn with
   | zero=>exact Empty.elim val
   | succ vn =>
    have e:val=(zr 0,[]):=hz
    subst e
    exact absurd hk3 (by simp [vhd,zr])
 ·rcases b6 with rfl|hz
  ·have e:lkV ⟨7,nm,nms,vn,val⟩ l.length=⟨vn,val⟩:=by simp [lkV]
   rw [e] at hw
   cases vn with
   | zero=>exact Empty.elim val
   | succ vn =>
    have:=hw.1.1
    show val.1.text.size≤4096
    cases hq:(val.1.kind==9) <;> rw [hq] at this <;> simp at this <;> omega
  ·cases vn with
   | zero=>exact Empty.elim val
   | succ vn =>
    have e:val=(zr 0,[]):=hz
    subst e
    show (ByteArray.size ⟨#[]⟩)≤4096
    decide
theorem Nods.pre:∀ {n:Nat} {x:ET n},Nods n x→esiz n x≤512→PrE n x
 | 0,x,_,_=>Empty.elim x
 | n + 1,x,h,hz=>by
  obtain ⟨p1,p2,p3,p4,p5,p6,p7,p8⟩:=h.1.pre
  have hl:x.2.length≤512:=by
   have:=suml_len (esiz n) (esiz_pos n) x.2
   simp only [esiz] at hz
   omega
  refine ⟨p1,p2,p3,p4,by omega,fun s hs=>by have:=p6 s hs;omega,p7,by omega,fun y hy=>?_⟩
  obtain ⟨i,hi,rfl⟩:=List.mem_iff_getElem.1 hy
  exact Nods.pre (h.2 _ hy) (by have:=esiz_mem hi;omega)
end Lx
end Go.Proofs.YtgicnopppgnjjaaGreatDoor
namespace Go.Proofs.YtgicnopppgnjjaaGreatDoor
namespace Lx
open Go.RowKit
variable {dq : {_f : (p : Prop) → Decidable p // True}}
theorem sep_len (c:Tk):∀ L:List (List Tk),(sepT c L).length≤suml (L.map List.length) + (L.length - 1)
 | []=>by simp [sepT]
 | [a]=>by simp [sepT,suml]
 | a :: b :: r=>by
  have:=sep_len c (b :: r)
  simp only [sepT,List.length_append,List.length_cons,List.map_cons,suml] at this ⊢
  omega
theorem sep_all (c:Tk):∀ (L:List (List Tk)) (t:Tk),t∈sepT c L→t=c∨∃ a∈L,t∈a
 | [],t,h=>by simp [sepT] at h
 | [a],t,h=>Or.inr ⟨a,by simp,h⟩
 | a :: b :: r,t,h=>by
  simp only [sepT] at h
  rcases List.mem_append.1 h with h|h
  ·exact Or.inr ⟨a,by simp,h⟩
  ·rcases List.mem_cons.1 h with h|h
   ·exact Or.inl h
   ·rcases sep_all c (b :: r) t h with h|⟨d,hd,h⟩
    ·exact Or.inl h
    ·exact Or.inr ⟨d,List.mem_cons_of_mem _ hd,h⟩
theorem itm_sum (m:List UInt8):∀ (ns:List ByteArray) (ks:List (List Tk)),suml ((itm m ns ks).map List.length)≤suml (ks.map List.length) + 2 * ks.length∧(itm m ns ks).length≤ks.length
 | [],ks=>by simp [itm,suml]
 | s :: ns,[]=>by simp [itm,suml]
 | s :: ns,k :: ks=>by
  obtain ⟨h1,h2⟩:=itm_sum m ns ks
  have e:itm m (s :: ns) (k :: ks)=(ntk (bl s) :: mk m :: k) :: itm m ns ks:=rfl
  rw [e]
  simp only [List.map_cons,suml,List.length_cons]
  omega
theorem itm_all (m:List UInt8):∀ (ns:List ByteArray) (ks:List (List Tk)) (a:List Tk),a∈itm m ns ks→∃ s k,s∈ns∧k∈ks∧a=ntk (bl s) :: mk m :: k
 | [],ks,a,h=>by simp [itm] at h
 | s :: ns,[],a,h=>by simp [itm] at h
 | s :: ns,k :: ks,a,h=>by
  have e:itm m (s :: ns) (k :: ks)=(ntk (bl s) :: mk m :: k) :: itm m ns ks:=rfl
  rw [e] at h
  rcases List.mem_cons.1 h with rfl|h
  ·exact ⟨s,k,by simp,by simp,rfl⟩
  ·obtain ⟨s',k',h1,h2,h3⟩:=itm_all m ns ks a h
   exact ⟨s',k',List.mem_cons_of_mem _ h1,List.mem_cons_of_mem _ h2,h3⟩
theorem suml_le3 {α:Type} (f g:α→Nat):∀ l:List α,(∀ x∈l,f x + 3≤8 * g x)→suml (l.map f) + 3 * l.length≤8 * suml (l.map g)
 | [],_=>by simp [suml]
 | a :: l,h=>by
  have h1:=h a (by simp)
  have h2:=suml_le3 f g l fun x hx=>h x (by simp [hx])
  simp only [List.map_cons,suml,List.length_cons]
  omega
theorem suml_le5 {α:Type} (f g:α→Nat):∀ l:List α,(∀ x∈l,f x≤g x + 2)→suml (l.map f)≤suml (l.map g) + 2 * l.length
 | [],_=>by simp [suml]
 | a :: l,h=>by
  have h1:=h a (by simp)
  have h2:=suml_le5 f g l fun x hx=>h x (by simp [hx])
  simp only [List.map_cons,suml,List.length_cons]
  omega
theorem stk_len (n:Nat) (y:ET n):(stk n y).length≤(mtk n y).length + 2:=by
 unfold stk
 split
 ·simp only [btw,List.length_cons,List.length_append,List.length_nil];omega
 ·omega
theorem mtk_len:∀ (n:Nat) (x:ET n),(mtk n x).length + 3≤8 * esiz n x
 | 0,x=>Empty.elim x
 | n + 1,x=>by
  obtain ⟨⟨k,nm,nms,vn,val⟩,l⟩:=x
  have ih:=suml_le3 (fun y=>(mtk n y).length) (esiz n) l fun y _=>mtk_len n y
  have hm:suml ((l.map (mtk n)).map List.length)=suml (l.map fun y=>(mtk n y).length):=by rw [List.map_map];rfl
  have hn:∀ m,(nmd m nms (l.map (mtk n))).length≤2 + suml (l.map fun y=>(mtk n y).length) + 3 * l.length:=fun m=>by
   have h1:=sep_len (mk [44]) (itm m nms (l.map (mtk n)))
   obtain ⟨h2,h3⟩:=itm_sum m nms (l.map (mtk n))
   rw [List.length_map] at h2 h3
   rw [hm] at h2
   simp only [nmd,btw,List.length_cons,List.length_append,List.length_nil]
   omega
  show _≤8 * (1 + suml (l.map (esiz n)))
  simp only [mtk]
  split
  ·simp;omega
  ·split
   ·simp;omega
   ·split
    ·simp;omega
    ·split
     ·cases l with
      | nil=>simp [btw];omega
      | cons y l =>
       simp only [List.map_cons,suml,List.length_cons] at ih
       simp only [btw,List.map_cons,List.headD_cons,List.length_cons,List.length_append,List.length_nil,suml]
       omega
     ·split
      ·have:=hn [61];omega
      ·split
       ·have:=hn [61];simp only [List.length_cons];omega
       ·split
        ·have h1:=sep_len (mk [59]) (l.map (stk n))
         have h2:=suml_le5 (fun y=>(stk n y).length) (fun y=>(mtk n y).length) l fun y _=>stk_len n y
         have e:suml ((l.map (stk n)).map List.length)=suml (l.map fun y=>(stk n y).length):=by rw [List.map_map];rfl
         rw [e,List.length_map] at h1
         show (sepT (mk [59]) (l.map (stk n))).length + 3≤_
         omega
        ·simp;omega
theorem ntk_s (s:List UInt8):(ntk s).s=s:=by unfold ntk;split <;> rfl
theorem btw_all {o s:List UInt8} {l:List Tk} {t:Tk} (h:t∈btw o l s):t=mk o∨t∈l∨t=mk s:=by
 simp only [btw,List.mem_cons,List.mem_append,List.not_mem_nil,or_false] at h
 rcases h with h|h|h
 ·exact Or.inl h
 ·exact Or.inr (Or.inl h)
 ·exact Or.inr (Or.inr h)
theorem nmd_s {m:List UInt8} {ns:List ByteArray} {ks:List (List Tk)} (hm:m.length≤4096) (hs:∀ s∈ns,s.size≤64) (hk:∀ k∈ks,∀ t∈k,t.s.length≤4096):∀ t∈nmd m ns ks,t.s.length≤4096:=by
 intro t ht
 rcases btw_all ht with rfl|ht|rfl
 ·simp [mk]
 ·rcases sep_all _ _ _ ht with rfl|⟨a,ha,ht⟩
  ·simp [mk]
  ·obtain ⟨s,k,h1,h2,rfl⟩:=itm_all m ns ks a ha
   rcases List.mem_cons.1 ht with rfl|ht
   ·rw [ntk_s,bl_length];have:=hs s h1;omega
   ·rcases List.mem_cons.1 ht with rfl|ht
    ·exact hm
    ·exact hk k h2 t ht
 ·simp [mk]
theorem ctk_s (h:Hd) (h1:h.text.size≤4096) (h2:h.kind=3→isN h.neg h.dig h.exp=true):(ctk h).s.length≤4096:=by
 unfold ctk
 split
 ·simp only;rw [bl_length];exact h1
 ·split
  ·rename_i k
   have:=printL_len h.neg h.dig h.exp (h2 k)
   simp only
   omega
  ·split
   ·simp [wd]
   ·split <;> simp [wd]
theorem mtk_s:∀ (n:Nat) (x:ET n),Nods n x→∀ t∈mtk n x,t.s.length≤4096
 | 0,x,_=>Empty.elim x
 | n + 1,x,h=>by
  obtain ⟨p1,p2,p3,p4,p5,p6,p7,p8⟩:=h.1.pre
  have ih:∀ y∈x.2,∀ t∈mtk n y,t.s.length≤4096:=fun y hy=>mtk_s n y (h.2 y hy)
  have ihk:∀ k∈x.2.map (mtk n),∀ t∈k,t.s.length≤4096:=fun k hk t ht=>by
   obtain ⟨y,hy,rfl⟩:=List.mem_map.1 hk
   exact ih y hy t ht
  have hnm:(ntk (bl x.1.name)).s.length≤4096:=by rw [ntk_s,bl_length];omega
  intro t ht
  unfold mtk at ht
  split at ht
  ·simp only [List.mem_cons,List.not_mem_nil,or_false] at ht
   rcases ht with rfl|rfl
   ·simp [mk]
   ·exact hnm
  ·split at ht
   ·simp only [List.mem_cons,List.not_mem_nil,or_false] at ht
    rcases ht with rfl|rfl
    ·simp [wd]
    ·exact hnm
   ·split at ht
    ·simp only [List.mem_cons,List.not_mem_nil,or_false] at ht
     rcases ht with rfl|rfl
     ·simp [wd]
     ·exact ctk_s _ p8 p7
    ·split at ht
     ·rcases btw_all ht with rfl|ht|rfl
      ·simp [mk]
      ·cases hx:x.2 with
       | nil=>rw [hx] at ht;simp at ht
       | cons y l =>
        rw [hx] at ht
        simp only [List.map_cons,List.headD_cons] at ht
        exact ih y (by rw [hx];simp) t ht
      ·simp [mk]
     ·split at ht
      ·exact nmd_s (by simp) p6 ihk t ht
      ·split at ht
       ·rcases List.mem_cons.1 ht with rfl|ht
        ·simp [wd]
        ·exact nmd_s (by simp) p6 ihk t ht
       ·split at ht
        ·rcases sep_all _ _ _ ht with rfl|⟨a,ha,ht⟩
         ·simp [mk]
         ·obtain ⟨y,hy,rfl⟩:=List.mem_map.1 ha
          split at ht
          ·rcases btw_all ht with rfl|ht|rfl
           ·simp [mk]
           ·exact ih y hy t ht
           ·simp [mk]
          ·exact ih y hy t ht
        ·rw [List.mem_singleton.1 ht]
         simp only [wd,plW]
         repeat' split
         all_goals simp
def prX (dq:{_f:(p:Prop)→Decidable p // True}) (n:Nat) (x:ET n):Int×List UInt8:=if lck dq n x=0 then ((((prR (mtk n x)).1:Nat):Int),(prR (mtk n x)).2) else (lck dq n x,[])
set_option maxHeartbeats 2000000 in
set_option maxRecDepth 100000 in
theorem print_is (hP:ParseOk) (n:Nat) (x:ET n) (q:Sl) (w:World) (hr:RE n w x q) (hs:GE n x) (hz:esiz n x≤200000) (g:Gs w) :
  Calls Tryz.prog 39 #[.agg (ecl (ehd n x) q)] w fun e w'=>e=.returned (.tuple #[.string (mkB (prX dq n x).2),.int .i64 (prX dq n x).1])∧Below w.heap.size w w':=by
 obtain ⟨x1,y1,z1,x2,y2,z2,x3,y3,z3,x4,y4,z4,hqs⟩:=hr.shape
 subst hqs
 have hc:=hide (fun o=>check_is (dq:=dq) n x ⟨.slice x1 y1 z1,.slice x2 y2 z2,.slice x3 y3 z3,.slice x4 y4 z4⟩ (w.alloc o) (hr.below (below_al (Below.refl _ _))) ⟨hs,(g.below (below_al (Below.refl _ _))).gg.gu⟩ hz)
 have hm:=hide (fun (h:lck dq n x=0) W (hb:Below w.heap.size w W)=>mapTok_ok hP n x ⟨.slice x1 y1 z1,.slice x2 y2 z2,.slice x3 y3 z3,.slice x4 y4 z4⟩ W (hr.below hb) ((lck_ok h).1.pre (lck_ok h).2.2) (by have:=mtk_len n x;have:=(lck_ok h).2.2;omega) (g.below hb))
 have hp:=hide (fun (h:lck dq n x=0) W (hb:Below w.heap.size w W) B v (k:OT W B v (mtk n x))=>printL_any hP v (mtk n x) W (k.ts (by have:=mtk_len n x;have:=(lck_ok h).2.2;omega)) (g.below hb).gg (fun t ht=>by have:=mtk_s n x (lck_ok h).1 t ht;omega) (by have:=mtk_len n x;have:=(lck_ok h).2.2;omega))
 have X0:=hide (ex_new w (ehd n x) ⟨.slice x1 y1 z1,.slice x2 y2 z2,.slice x3 y3 z3,.slice x4 y4 z4⟩)
 have hx:Hid (prX dq n x=if lck dq n x=0 then ((((prR (mtk n x)).1:Nat):Int),(prR (mtk n x)).2) else (lck dq n x,[])):=rfl
 obtain ⟨R,hR⟩:∃ R,prX dq n x=R:=⟨_,rfl⟩
 rw [hR] at hx ⊢
 clear hP hr hs hz g hR
 obtain ⟨c,hcx⟩:∃ c,lck dq n x=c:=⟨_,rfl⟩
 obtain ⟨T,hT⟩:∃ T,mtk n x=T:=⟨_,rfl⟩
 obtain ⟨h,hh⟩:∃ h,ehd n x=h:=⟨_,rfl⟩
 rw [hcx] at hc hm hp hx
 rw [hT] at hm hp hx
 rw [hh] at hc hm X0 ⊢
 clear hcx hT hh
 unfold TokP at hm
 unfold ecl at hc hm X0 ⊢
 dsimp only at hc hm X0 ⊢
 go_enter Tryz.func39, Tryz.ntmps39
 go_wp2_with (go_at_call 34;refine Sto.out ?_)
 refine Sto.mk ?_
 refine (hc.out _).mono ?_
 rintro e w1 ⟨rfl,hb1⟩
 have B1:=hide (below_then (below_al (Below.refl _ _)) hb1)
 have X1:=hide (X0.out.below hb1)
 have x0:=X1.out.cells
 clear hb1 hc X0
 by_cases h0:c=0
 ·have hm1:=hide (hm.out h0 w1 B1.out)
  have hp1:=hide (hp.out h0)
  have e1:Hid (R=((((prR T).1:Nat):Int),(prR T).2)):=by show _=_;rw [hx.out,if_pos h0]
  subst h0
  clear hm hp hx
  go_wp2_with (go_at_call 86;refine Sto.out ?_)
  refine Sto.mk ?_
  refine hm1.out.mono ?_
  rintro e w2 ⟨v,rfl,hO,hb2⟩
  have B2:=hide (below_then B1.out hb2)
  have hp2:=hide (hp1.out w2 B2.out _ v hO)
  clear hO hb2 hm1 hp1 x0
  unfold prE at hp2
  go_wp2_with (go_at_call 48;refine Sto.out ?_)
  refine Sto.mk ?_
  refine hp2.out.mono ?_
  rintro e w3 ⟨rfl,hb3⟩
  have B3:=hide (below_then B2.out hb3)
  go_wp2_with fail
  go_ret2
  exact ⟨by rw [e1.out];rfl,B3.out⟩
 ·have b0:(c==0)=false:=by simp [h0]
  have e1:Hid (R=(c,[])):=by show _=_;rw [hx.out,if_neg h0]
  clear h0 hx
  go_wp2_with fail
  go_ret2
  exact ⟨by rw [e1.out];rfl,B1.out⟩
end Lx
end Go.Proofs.YtgicnopppgnjjaaGreatDoor
namespace Go.Proofs.YtgicnopppgnjjaaGreatDoor
namespace Lx
open Go.RowKit
variable {dq : {_f : (p : Prop) → Decidable p // True}}
set_option maxRecDepth 100000
theorem lck_zero {n:Nat} {x:ET n} (a:evA bareP n x) (b:evA fiP n x) (c:evA shP n x) (d:edep n x≤16) (e:esiz n x≤512):lck dq n x=0:=by
 unfold lck
 rw [if_neg (fun h=>h ⟨a,b⟩),if_pos ⟨c,d,e⟩]
theorem win_null:Win 1 vn1:=⟨⟨by decide,by decide,fun s hs=>absurd hs (by simp [vn1,vH]),fun y hy=>absurd hy (by simp [vn1,vH])⟩,by decide,by decide⟩
theorem tag_isv (nm:ByteArray):IsV 2 ((hdL 9 nm [],List.replicate 1 vn1):VT 2)↔Go.Proofs.YtgicnopppgnjjaaGreatDoor.okT nm=true:=by
 constructor
 ·intro h
  exact (h.2.1.2.2.2 rfl).1
 ·intro h
  refine ⟨⟨by simp [hdL],by simp [hdL],rfl,Or.inl (by simp [hdL])⟩,⟨fun k=>absurd k (by simp [hdL]),fun k=>absurd k (by simp [hdL]),fun k=>absurd k (by simp [hdL]),fun _=>⟨h,rfl⟩⟩,fun y hy=>?_⟩
  rw [List.eq_of_mem_replicate hy]
  exact isV_null
theorem tag_win (nm:ByteArray):Win 2 ((hdL 9 nm [],List.replicate 1 vn1):VT 2)↔nm.size≤64:=by
 constructor
 ·intro h
  have:=h.1.1
  simp [hdL] at this
  omega
 ·intro h
  refine ⟨⟨by simp [hdL];omega,by simp,fun s hs=>absurd hs (by simp [hdL]),fun y hy=>?_⟩,?_,?_⟩
  ·rw [List.eq_of_mem_replicate hy]
   exact win_null.1
  ·show 1 + mxl ((List.replicate 1 vn1).map (dep 1))≤16
   decide
  ·rw [siz_nulls];omega
structure Fine (n:Nat) (x:ET (n + 1)):Prop where
 bare:EBare x.1 x.2
 fi:fiP (n + 1) x
 sh:shP (n + 1) x
theorem fine_plain {n:Nat} (op:Int) (l:List (ET n)) (h:op=1∨op=8∨op=9∨op=10∨op=11):Fine n ((lf op,[]):ET (n + 1)):=by
 have e:lkV (lf op) 0=⟨1,vn1⟩:=by rcases h with rfl|rfl|rfl|rfl|rfl <;> rfl
 refine ⟨⟨by rcases h with rfl|rfl|rfl|rfl|rfl <;> exact ⟨by simp [lf],by simp [lf]⟩,Or.inr (Or.inr rfl),Or.inr (Or.inr rfl),Or.inr (Or.inr (Or.inr (Or.inr rfl))),Or.inr rfl⟩,⟨?_,?_,?_,?_⟩,?_,?_⟩
 ·intro k;rcases h with rfl|rfl|rfl|rfl|rfl <;> exact absurd k (by simp [ehd,lf])
 ·intro k;rcases h with rfl|rfl|rfl|rfl|rfl <;> exact absurd k (by simp [ehd,lf])
 ·intro k;rcases h with rfl|rfl|rfl|rfl|rfl <;> exact absurd k (by simp [ehd,lf])
 ·show IsV _ (lkV (lf op) 0).2
  rw [e];exact isV_null
 ·show IsV _ (lkV (lf op) 0).2
  rw [e];exact isV_null
 ·show Win _ (lkV (lf op) 0).2
  rw [e];exact win_null
theorem fine_map {n:Nat} (y:ET n):Fine n ((lf 4,[y]):ET (n + 1)):=by
 have e:lkV (lf 4) 1=⟨1,vn1⟩:=rfl
 refine ⟨⟨⟨by simp [lf],by simp [lf]⟩,Or.inr (Or.inr rfl),Or.inr (Or.inr rfl),Or.inr (Or.inl rfl),Or.inr rfl⟩,⟨fun _=>rfl,fun k=>absurd k (by simp [ehd,lf]),fun k=>absurd k (by simp [ehd,lf]),?_⟩,?_,?_⟩
 ·show IsV _ (lkV (lf 4) 1).2
  rw [e];exact isV_null
 ·show IsV _ (lkV (lf 4) 1).2
  rw [e];exact isV_null
 ·show Win _ (lkV (lf 4) 1).2
  rw [e];exact win_null
theorem fine_pipe {n:Nat} (l:List (ET n)) (h2:2≤l.length):Fine n ((lf 12,l):ET (n + 1)):=by
 have e:lkV (lf 12) l.length=⟨1,vn1⟩:=rfl
 refine ⟨⟨⟨by simp [lf],by simp [lf]⟩,Or.inr (Or.inr rfl),Or.inr (Or.inr rfl),Or.inr (Or.inr (Or.inr (Or.inl rfl))),Or.inr rfl⟩,⟨fun k=>absurd k (by simp [ehd,lf]),fun _=>h2,fun k=>absurd k (by simp [ehd,lf]),?_⟩,?_,?_⟩
 ·show IsV _ (lkV (lf 12) l.length).2
  rw [e];exact isV_null
 ·show IsV _ (lkV (lf 12) l.length).2
  rw [e];exact isV_null
 ·show Win _ (lkV (lf 12) l.length).2
  rw [e];exact win_null
def gtE (op:Int) (nm:ByteArray) (n:Nat):ET (n + 1):=(⟨op,nm,[],1,vz⟩,[])
theorem fine_get {n:Nat} (op:Int) (nm:ByteArray) (h:op=2∨op=5) (h1:Go.Proofs.YtgicnopppgnjjaaGreatDoor.okT nm=true) (h2:nm.size≤64):Fine n ((⟨op,nm,[],1,vz⟩,[]):ET (n + 1)):=by
 have e:lkV ⟨op,nm,[],1,vz⟩ 0=⟨2,(hdL 9 nm [],List.replicate 1 vn1)⟩:=by rcases h with rfl|rfl <;> rfl
 refine ⟨⟨by rcases h with rfl|rfl <;> exact ⟨by simp,by simp⟩,by rcases h with rfl|rfl;exact Or.inl rfl;exact Or.inr (Or.inl rfl),Or.inr (Or.inr rfl),Or.inr (Or.inr (Or.inr (Or.inr rfl))),Or.inr rfl⟩,⟨?_,?_,?_,?_⟩,?_,?_⟩
 ·intro k;rcases h with rfl|rfl <;> exact absurd k (by simp [ehd])
 ·intro k;rcases h with rfl|rfl <;> exact absurd k (by simp [ehd])
 ·intro k;rcases h with rfl|rfl <;> exact absurd k (by simp [ehd])
 ·show IsV _ (lkV ⟨op,nm,[],1,vz⟩ 0).2
  rw [e];exact (tag_isv nm).2 h1
 ·show IsV _ (lkV ⟨op,nm,[],1,vz⟩ 0).2
  rw [e];exact (tag_isv nm).2 h1
 ·show Win _ (lkV ⟨op,nm,[],1,vz⟩ 0).2
  rw [e];exact (tag_win nm).2 h2
theorem ev_leaf {P:(n:Nat)→ET n→Prop} {n:Nat} {h:Eh} (k:P (n + 1) (h,[])):evA P (n + 1) ((h,[]):ET (n + 1)):=⟨k,fun i hi=>absurd hi (by simp)⟩
theorem ev_all {P:(n:Nat)→ET n→Prop} {n:Nat} {x:ET (n + 1)} (k:P (n + 1) x) (h:∀ y∈x.2,evA P n y):evA P (n + 1) x:=⟨k,fun i hi=>h _ (List.getElem_mem hi)⟩
def exM (g:Nat):ET (dp (g + 20) + 1):=(lf 12,[gtE 2 (mkB [97]) _,(lf 4,[(lf 9,[])]),(lf 10,[])])
end Lx
end Go.Proofs.YtgicnopppgnjjaaGreatDoor
namespace Go.Proofs.YtgicnopppgnjjaaGreatDoor
namespace Lx
open Go.RowKit
variable {dq : {_f : (p : Prop) → Decidable p // True}}
set_option maxRecDepth 100000
theorem mem2 {α:Type} {a b y:α} (h:y∈[a,b]):y=a∨y=b:=by simpa using h
theorem mem3 {α:Type} {a b c y:α} (h:y∈[a,b,c]):y=a∨y=b∨y=c:=by simpa using h
theorem ev3 {P:(n:Nat)→ET n→Prop} (g:Nat) (h0:P _ (exM g)) (h1:∀ n,P (n + 1) ((⟨2,mkB [97],[],1,vz⟩,[]):ET (n + 1))) (h2:∀ n (y:ET n),P (n + 1) ((lf 4,[y]):ET (n + 1))) (h3:∀ n,P (n + 1) ((lf 9,[]):ET (n + 1))) (h4:∀ n,P (n + 1) ((lf 10,[]):ET (n + 1))):evA P _ (exM g):=by
 refine ev_all h0 fun y hy=>?_
 have hy':y=gtE 2 (mkB [97]) _∨y=((lf 4,[(lf 9,[])]):ET (dp (g + 20)))∨y=((lf 10,[]):ET (dp (g + 20))):=by
  exact mem3 (show y∈[gtE 2 (mkB [97]) (dp (g + 19) + 1),((lf 4,[(lf 9,[])]):ET (dp (g + 20))),((lf 10,[]):ET (dp (g + 20)))] from hy)
 rcases hy' with rfl|rfl|rfl
 ·exact ev_leaf (h1 _)
 ·refine ev_all (h2 _ _) fun z hz=>?_
  rw [show z=((lf 9,[]):ET (dp (g + 19) + 1)) from List.mem_singleton.1 hz]
  exact ev_leaf (h3 _)
 ·exact ev_leaf (h4 _)
theorem fine_a (n:Nat):Fine n ((⟨2,mkB [97],[],1,vz⟩,[]):ET (n + 1)):=fine_get 2 (mkB [97]) (Or.inl rfl) (by kernel_rfl) (by decide)
theorem lck1 (g:Nat):lck dq _ (exM g)=0:=by
 refine lck_zero (ev3 g ?_ ?_ ?_ ?_ ?_) (ev3 g ?_ ?_ ?_ ?_ ?_) (ev3 g ?_ ?_ ?_ ?_ ?_) ?_ ?_
 ·exact (fine_pipe _ (by show 2≤3;omega)).bare
 ·exact fun n=>(fine_a n).bare
 ·exact fun n y=>(fine_map y).bare
 ·exact fun n=>(fine_plain (n:=n) 9 [] (by simp)).bare
 ·exact fun n=>(fine_plain (n:=n) 10 [] (by simp)).bare
 ·exact (fine_pipe _ (by show 2≤3;omega)).fi
 ·exact fun n=>(fine_a n).fi
 ·exact fun n y=>(fine_map y).fi
 ·exact fun n=>(fine_plain (n:=n) 9 [] (by simp)).fi
 ·exact fun n=>(fine_plain (n:=n) 10 [] (by simp)).fi
 ·exact (fine_pipe _ (by show 2≤3;omega)).sh
 ·exact fun n=>(fine_a n).sh
 ·exact fun n y=>(fine_map y).sh
 ·exact fun n=>(fine_plain (n:=n) 9 [] (by simp)).sh
 ·exact fun n=>(fine_plain (n:=n) 10 [] (by simp)).sh
 ·rw [show edep _ (exM g)=3 by kernel_rfl];omega
 ·rw [show esiz _ (exM g)=5 by kernel_rfl];omega
def px1:List UInt8:=[46,32,97,32,59,32,91,32,116,111,110,117,109,32,93,32,59,32,115,117,109]
theorem mtk1 (g:Nat):mtk _ (exM g)=[mk [46],ntk [97],mk [59],mk [91],wd [116,111,110,117,109],mk [93],mk [59],wd [115,117,109]]:=by kernel_rfl
theorem ntk_a:ntk [97]=wd [97]:=by kernel_rfl
theorem prv1:prR [mk [46],wd [97],mk [59],mk [91],wd [116,111,110,117,109],mk [93],mk [59],wd [115,117,109]]=(0,px1):=by kernel_rfl
theorem pr1 (g:Nat):prX dq _ (exM g)=(0,px1):=by
 unfold prX
 rw [if_pos (lck1 g),mtk1,ntk_a,prv1]
 rfl
end Lx
end Go.Proofs.YtgicnopppgnjjaaGreatDoor
namespace Go.Proofs.YtgicnopppgnjjaaGreatDoor
namespace Lx
open Go.RowKit
variable {dq : {_f : (p : Prop) → Decidable p // True}}
set_option maxRecDepth 100000
def Lf:(n:Nat)→VT n→Prop
 | 0,_=>False
 | _ + 1,v=>v.1.names=[]∧v.2=[]
theorem isv_lf {a b:Nat} {x:VT a} {y:VT b} (hx:Lf a x) (hy:Lf b y) (e:vhd b y=vhd a x):(IsV a x→IsV b y)∧(Win a x→Win b y):=by
 cases a with
 | zero=>exact Empty.elim x
 | succ a =>
  cases b with
  | zero=>exact Empty.elim y
  | succ b =>
   obtain ⟨xh,xl⟩:=x
   obtain ⟨yh,yl⟩:=y
   obtain ⟨x1,x2⟩:=hx
   obtain ⟨y1,y2⟩:=hy
   simp only at x1 x2 y1 y2
   subst x2 y2
   have e':yh=xh:=e
   subst e'
   refine ⟨fun h=>⟨⟨h.1.1,h.1.2.1,h.1.2.2.1,Or.inr rfl⟩,h.2.1,fun y hy=>absurd hy (by simp)⟩,fun h=>⟨⟨h.1.1,by simp,h.1.2.2.1,fun y hy=>absurd hy (by simp)⟩,?_,?_⟩⟩
   ·exact h.2.1
   ·exact h.2.2
def Iso:(n:Nat)→ET n→(m:Nat)→ET m→Prop
 | 0,_,_,_=>False
 | _ + 1,_,0,_=>False
 | n + 1,x,m + 1,y=>y.1.op=x.1.op∧y.1.name=x.1.name∧y.1.names=x.1.names∧vhd y.1.vn y.1.val=vhd x.1.vn x.1.val∧Lf x.1.vn x.1.val∧Lf y.1.vn y.1.val∧y.2.length=x.2.length∧∀ i (h:i<x.2.length) (h':i<y.2.length),Iso n x.2[i] m y.2[i]
theorem Iso.up:∀ {n m:Nat} {x:ET n} {y:ET m},Iso n x m y→Iso n x (m + 1) (upE m y)
 | 0,_,x,_,_=>Empty.elim x
 | _ + 1,0,_,y,_=>Empty.elim y
 | n + 1,m + 1,x,y,h=>by
  obtain ⟨h1,h2,h3,h4,h5,h6,h7,h8⟩:=h
  have hl:(upE (m + 1) y).2.length=y.2.length:=by simp [upE]
  refine ⟨h1,h2,h3,h4,h5,h6,hl.trans h7,fun i h h'=>?_⟩
  have:(upE (m + 1) y).2[i]=upE m (y.2[i]'(by omega)):=by simp [upE]
  rw [this]
  exact Iso.up (h8 i h (by omega))
theorem Iso.siz:∀ {n m:Nat} {x:ET n} {y:ET m},Iso n x m y→edep m y=edep n x∧esiz m y=esiz n x
 | 0,_,x,_,_=>Empty.elim x
 | _ + 1,0,_,y,_=>Empty.elim y
 | n + 1,m + 1,x,y,h=>by
  obtain ⟨h1,h2,h3,h4,h5,h6,h7,h8⟩:=h
  have a:y.2.map (edep m)=x.2.map (edep n):=List.ext_getElem (by simpa using h7) fun i p q=>by
   simp only [List.getElem_map]
   exact (Iso.siz (h8 i (by simpa using q) (by simpa using p))).1
  have b:y.2.map (esiz m)=x.2.map (esiz n):=List.ext_getElem (by simpa using h7) fun i p q=>by
   simp only [List.getElem_map]
   exact (Iso.siz (h8 i (by simpa using q) (by simpa using p))).2
  simp only [edep,esiz,a,b]
  exact ⟨trivial,trivial⟩
theorem vz_lf {n:Nat} {v:VT n} (h:VZ n v):Lf n v∧vhd n v=zr 0:=by
 cases n with
 | zero=>exact Empty.elim v
 | succ n =>
  have e:v=(zr 0,[]):=h
  subst e
  exact ⟨⟨rfl,rfl⟩,rfl⟩
theorem lf_vz {n:Nat} {v:VT n} (h:Lf n v) (e:vhd n v=zr 0):VZ n v:=by
 cases n with
 | zero=>exact Empty.elim v
 | succ n =>
  obtain ⟨vh,vl⟩:=v
  obtain ⟨_,h2⟩:=h
  simp only at h2
  subst h2
  have e':vh=zr 0:=e
  subst e'
  rfl
theorem cn_lf {n:Nat} {v:VT n} (h:IsV n v) (k:isCn (vhd n v).kind):Lf n v:=by
 cases n with
 | zero=>exact Empty.elim v
 | succ n =>
  obtain ⟨vh,vl⟩:=v
  obtain ⟨⟨b1,b2,b3,b4⟩,_⟩:=h
  have hk:vh.kind<7:=by
   have:isCn vh.kind:=k
   rcases this with q|q|q|q <;> omega
  have hl:vl=[]:=by
   rcases b4 with b4|b4
   ·have:(7:Int)≤vh.kind:=b4
    omega
   ·exact b4
  refine ⟨?_,hl⟩
  have:=congrArg Hd.names b3
  have h8:(vh.kind==8)=false:=by simp;omega
  simpa [strip,zr,h8] using this
theorem Nod.lf {n:Nat} {x:ET (n + 1)} (h:Nod n x):Lf x.1.vn x.1.val:=by
 obtain ⟨⟨⟨b1,b2⟩,b3,b4,b5,b6⟩,h4,h12,h7,hv,hw⟩:=h
 obtain ⟨⟨k,nm,nms,vn,val⟩,l⟩:=x
 simp only at b1 b2 b3 b4 b5 b6 h4 h12 h7 hv hw ⊢
 rcases b6 with rfl|hz
 ·have e:lkV ⟨7,nm,nms,vn,val⟩ l.length=⟨vn,val⟩:=by simp [lkV]
  rw [e] at hv
  exact cn_lf hv (h7 rfl)
 ·exact (vz_lf hz).1
theorem lkV_same {n m:Nat} {x:ET (n + 1)} {y:ET (m + 1)} (h:Iso (n + 1) x (m + 1) y):(IsV _ (lkV x.1 x.2.length).2→IsV _ (lkV y.1 y.2.length).2)∧(Win _ (lkV x.1 x.2.length).2→Win _ (lkV y.1 y.2.length).2):=by
 obtain ⟨h1,h2,h3,h4,h5,h6,h7,h8⟩:=h
 unfold lkV
 rw [h1,h2,h3,h7]
 by_cases a:x.1.op=2∨x.1.op=5
 ·rw [if_pos a,if_pos a]
  exact ⟨id,id⟩
 ·rw [if_neg a,if_neg a]
  by_cases b:x.1.op=3∨x.1.op=6
  ·rw [if_pos b,if_pos b]
   exact ⟨id,id⟩
  ·rw [if_neg b,if_neg b]
   by_cases c:x.1.op=7
   ·rw [if_pos c,if_pos c]
    exact isv_lf h5 h6 h4
   ·rw [if_neg c,if_neg c]
    exact ⟨id,id⟩
theorem Iso.nod {n m:Nat} {x:ET (n + 1)} {y:ET (m + 1)} (h:Iso (n + 1) x (m + 1) y) (k:Nod n x):Nod m y:=by
 obtain ⟨hv,hw⟩:=lkV_same h
 obtain ⟨h1,h2,h3,h4,h5,h6,h7,h8⟩:=h
 obtain ⟨⟨b1,b3,b4,b5,b6⟩,k4,k12,k7,kv,kw⟩:=k
 refine ⟨⟨by rw [h1];exact b1,by rw [h1,h2];exact b3,by rw [h1,h3];exact b4,?_,?_⟩,by rw [h1,h7];exact k4,by rw [h1,h7];exact k12,by rw [h1,h4];exact k7,hv kv,hw kw⟩
 ·rw [h1]
  rcases b5 with q|q|q|q|q
  ·exact Or.inl q
  ·exact Or.inr (Or.inl q)
  ·exact Or.inr (Or.inr (Or.inl q))
  ·exact Or.inr (Or.inr (Or.inr (Or.inl q)))
  ·exact Or.inr (Or.inr (Or.inr (Or.inr (List.eq_nil_of_length_eq_zero (by rw [h7,q];rfl)))))
 ·rw [h1]
  rcases b6 with q|q
  ·exact Or.inl q
  ·exact Or.inr (lf_vz h6 (by rw [h4];exact (vz_lf q).2))
theorem Iso.nods:∀ {n m:Nat} {x:ET n} {y:ET m},Iso n x m y→Nods n x→Nods m y
 | 0,_,x,_,_,_=>Empty.elim x
 | _ + 1,0,_,y,_,_=>Empty.elim y
 | n + 1,m + 1,x,y,h,k=>by
  refine ⟨h.nod k.1,fun z hz=>?_⟩
  obtain ⟨i,hi,rfl⟩:=List.mem_iff_getElem.1 hz
  have hl:=h.2.2.2.2.2.2.1
  exact Iso.nods (h.2.2.2.2.2.2.2 i (by omega) hi) (k.2 _ (List.getElem_mem (by omega)))
theorem nods_ev:∀ {n:Nat} {x:ET n},Nods n x→evA bareP n x∧evA fiP n x∧evA shP n x
 | 0,x,_=>Empty.elim x
 | n + 1,x,h=>by
  have ih:=fun i (hi:i<x.2.length)=>nods_ev (h.2 _ (List.getElem_mem hi))
  obtain ⟨b,k4,k12,k7,kv,kw⟩:=h.1
  exact ⟨⟨b,fun i hi=>(ih i hi).1⟩,⟨⟨k4,k12,k7,kv⟩,fun i hi=>(ih i hi).2.1⟩,⟨⟨kv,kw⟩,fun i hi=>(ih i hi).2.2⟩⟩
theorem ok_lck {n:Nat} {x:ET n} (h:Nods n x) (h1:edep n x≤16) (h2:esiz n x≤512):lck dq n x=0:=by
 obtain ⟨a,b,c⟩:=nods_ev h
 unfold lck
 rw [if_neg (fun q=>q ⟨a,b⟩),if_pos ⟨c,h1,h2⟩]
theorem Iso.lck {n m:Nat} {x:ET n} {y:ET m} (h:Iso n x m y) (k:Go.Proofs.YtgicnopppgnjjaaGreatDoor.Lx.lck dq n x=0):Go.Proofs.YtgicnopppgnjjaaGreatDoor.Lx.lck dq m y=0:=by
 obtain ⟨a,b,c⟩:=lck_ok k
 obtain ⟨s1,s2⟩:=h.siz
 exact ok_lck (h.nods a) (by omega) (by omega)
end Lx
end Go.Proofs.YtgicnopppgnjjaaGreatDoor
namespace Go.Proofs.YtgicnopppgnjjaaGreatDoor
namespace Lx
variable {dq : {_f : (p : Prop) → Decidable p // True}}
def idE:ET 1:=(lf 1,[])
def ndX (d:Nd):ET 2:=(d.h,List.replicate d.kids.length idE)
def NdOk (d:Nd):Prop:=EBare d.h d.kids∧fiP 2 (ndX d)
theorem ebare_len {α β:Type} {h:Eh} {l:List α} {l':List β} (e:l'.length=l.length) (k:EBare h l):EBare h l':=by
 refine ⟨k.1,k.2.1,k.2.2.1,?_,k.2.2.2.2⟩
 rcases k.2.2.2.1 with q|q|q|q|q
 ·exact Or.inl q
 ·exact Or.inr (Or.inl q)
 ·exact Or.inr (Or.inr (Or.inl q))
 ·exact Or.inr (Or.inr (Or.inr (Or.inl q)))
 ·exact Or.inr (Or.inr (Or.inr (Or.inr (List.eq_nil_of_length_eq_zero (by rw [e,q];rfl)))))
theorem fi_len {n m:Nat} {x:ET (n + 1)} {y:ET (m + 1)} (e1:y.1=x.1) (e2:y.2.length=x.2.length) (k:fiP (n + 1) x):fiP (m + 1) y:=by
 obtain ⟨h,l⟩:=x
 obtain ⟨h',l'⟩:=y
 simp only at e1 e2
 subst e1
 unfold fiP at k ⊢
 simp only [ehd,elen] at k ⊢
 rw [e2]
 exact k
theorem id_ev:evA bareP 1 idE∧evA fiP 1 idE:=⟨ev_leaf (fine_plain 1 [] (Or.inl rfl)).bare,ev_leaf (fine_plain 1 [] (Or.inl rfl)).fi⟩
theorem ndX_ev (d:Nd):(evA bareP 2 (ndX d)∧evA fiP 2 (ndX d))↔NdOk d:=by
 constructor
 ·intro h
  exact ⟨ebare_len (by simp [ndX]) (show EBare d.h (ndX d).2 from h.1.1),h.2.1⟩
 ·intro h
  refine ⟨⟨ebare_len (l':=(ndX d).2) (by simp [ndX]) h.1,fun i hi=>?_⟩,⟨h.2,fun i hi=>?_⟩⟩
  ·have:(ndX d).2[i]=idE:=List.eq_of_mem_replicate (List.getElem_mem hi)
   rw [this]
   exact id_ev.1
  ·have:(ndX d).2[i]=idE:=List.eq_of_mem_replicate (List.getElem_mem hi)
   rw [this]
   exact id_ev.2
theorem nd_lck (d:Nd):lck dq 2 (ndX d)=140↔¬ NdOk d:=by
 unfold lck
 rw [ndX_ev d]
 by_cases h:NdOk d
 ·rw [if_neg (fun k=>k h)]
  constructor
  ·intro k
   split at k <;> cases k
  ·exact fun k=>absurd h k
 ·rw [if_pos h]
  exact ⟨fun _=>h,fun _=>rfl⟩
theorem prg_ok:∀ (n:Nat) (x:ET n) (k:Nat),(evA bareP n x∧evA fiP n x)↔∀ d∈prg n x k,NdOk d
 | 0,x,_=>Empty.elim x
 | n + 1,x,k=>by
  have hk:(kds (x.2.map (esiz n)) (k + 1)).length=x.2.length:=by rw [kds_len,List.length_map]
  constructor
  ·intro h d hd
   rcases List.mem_cons.1 (show d∈(⟨x.1,kds (x.2.map (esiz n)) (k + 1)⟩:Nd) :: prl (prg n) (esiz n) x.2 (k + 1) from hd) with rfl|hd
   ·exact ⟨ebare_len (l:=x.2) hk h.1.1,fi_len (x:=x) rfl (by simp [ndX,hk]) h.2.1⟩
   ·obtain ⟨i,hi,j,hj⟩:=prl_mem _ _ hd
    exact (prg_ok n x.2[i] j).1 ⟨h.1.2 i hi,h.2.2 i hi⟩ d hj
  ·intro h
   have h0:=h ⟨x.1,kds (x.2.map (esiz n)) (k + 1)⟩ (List.mem_cons_self ..)
   have hs:∀ i (hi:i<x.2.length),evA bareP n x.2[i]∧evA fiP n x.2[i]:=fun i hi=>by
    obtain ⟨j,hj⟩:=prl_has (P:=prg n) (S:=esiz n) x.2 (k + 1) i hi
    exact (prg_ok n x.2[i] j).2 fun d hd=>h d (List.mem_cons_of_mem _ (hj d hd))
   exact ⟨⟨ebare_len (l':=x.2) hk.symm h0.1,fun i hi=>(hs i hi).1⟩,⟨fi_len (y:=x) (x:=ndX ⟨x.1,kds (x.2.map (esiz n)) (k + 1)⟩) rfl (by simp [ndX,hk]) h0.2,fun i hi=>(hs i hi).2⟩⟩
theorem Eqv.iso:∀ {n m:Nat} {x:ET n} {y:ET m},Eqv n x m y→Nods n x→Iso n x m y
 | 0,_,x,_,_,_=>Empty.elim x
 | _ + 1,0,_,y,_,_=>Empty.elim y
 | n + 1,m + 1,x,y,h,k=>by
  obtain ⟨h1,h2,h3⟩:=h
  have lf:=k.1.lf
  refine ⟨by rw [h1],by rw [h1],by rw [h1],by rw [h1],lf,by rw [h1];exact lf,h2,fun i hi hi'=>(h3 i hi hi').iso (k.2 _ (List.getElem_mem hi))⟩
end Lx
end Go.Proofs.YtgicnopppgnjjaaGreatDoor
namespace Go.Proofs.YtgicnopppgnjjaaGreatDoor
namespace Lx
open Go.RowKit
variable {dq : {_f : (p : Prop) → Decidable p // True}}
theorem new_rng13 {W:World} {i:Nat} (h:i=W.heap.size):∀ (j:Nat) (v:Value),(nc13 1)[j]?=some v→(W.alloc (.cells #[.int .i64 1,.string ⟨#[]⟩,.slice none 0 0,.slice none 0 0,.int .i64 0,.bool false,.bool false,.string ⟨#[]⟩,.int .i64 0,.int .u64 0,.string ⟨#[]⟩,.slice none 0 0,.slice none 0 0] 33)).cell? ⟨i,0 + j,none⟩=some v:=by
 intro j v hj
 subst h
 unfold World.cell?
 rw [heap_alloc_last,Nat.zero_add]
 simpa [nc13] using hj
theorem ids_el {W:World} {g N:Nat} (hg:W.heap[g]?=some (.cells (rpt N (nc13 1)).toArray 33 (0,0))) (hN:N≤100000):EL 1 W (.slice (some ⟨g,0,none⟩) N N) (List.replicate N idE):=by
 have hlt:=(Array.getElem?_eq_some_iff.1 hg).1
 refine Or.inr ⟨g,0,N,none,by simp,by simp,by unfold maxLen;omega,fun _=>⟨rfl,hlt⟩,fun i hi=>?_⟩
 simp only [List.length_replicate] at hi
 simp only [List.getElem_replicate]
 refine ⟨zs,fun j v hj=>?_,Or.inl ⟨rfl,rfl⟩,⟨Or.inl ⟨rfl,rfl⟩,Or.inl ⟨rfl,rfl⟩⟩,Or.inl ⟨rfl,rfl⟩⟩
 have h9:(nc13 1)[j]?=some v:=hj
 unfold World.cell?
 rw [hg]
 have:=rpt_get hi h9
 rw [show (nc13 1).length=13 from rfl] at this
 simpa using this
theorem ids_ge (d:Nd) (h:GH d.h) (hk:d.kids.length≤100000):GE 2 (ndX d)∧esiz 2 (ndX d)≤200000:=by
 refine ⟨⟨h,by simpa [ndX] using hk,fun y hy=>?_⟩,?_⟩
 ·rw [List.eq_of_mem_replicate hy]
  exact ⟨gh_lf 1,Nat.zero_le _,fun z hz=>absurd hz (by simp [idE])⟩
 ·have:suml ((ndX d).2.map (esiz 1))=d.kids.length:=by
   show suml ((List.replicate d.kids.length idE).map (esiz 1))=_
   rw [List.map_replicate,show esiz 1 idE=1 from rfl]
   induction d.kids.length with
   | zero=>rfl
   | succ m ih=>rw [List.replicate_succ,suml,ih];omega
  show 1 + suml ((ndX d).2.map (esiz 1))≤200000
  omega
set_option maxHeartbeats 4000000 in
set_option maxRecDepth 100000 in
theorem isNone_any (d:Nd) (s:Sl) (w:World) (hr:NdR w d s) (hg:GH d.h) (hk:d.kids.length≤100000) (gu:Ut.Gu w):Calls Tryz.prog 66 #[.agg (ecl d.h s)] w fun e w'=>TB (¬ NdOk d) w e w':=by
 have dq:{_f:(p:Prop)→Decidable p // True}:=⟨fun p=>Classical.propDecidable p,trivial⟩
 obtain ⟨h1,h2⟩:=ids_ge d hg hk
 have CK:=hide (fun (q:Sl) (W:World) (hb:Below w.heap.size w W) (h:RE 2 W (ndX d) q)=>check_is (dq:=dq) 2 (ndX d) q W h ⟨h1,gu.below hb⟩ h2)
 have NK:Hid (lck dq 2 (ndX d)=140↔¬ NdOk d):=nd_lck d
 obtain ⟨E,hE⟩:∃ E,lck dq 2 (ndX d)=E:=⟨_,rfl⟩
 rw [hE] at CK NK
 obtain ⟨a1,c1,a2,c2,x3,y3,z3,x4,y4,z4,hqs⟩:=hr.shape
 subst hqs
 have NN:=hide hr.1
 have VV:=hide hr.2.1
 have IDS:=hide (fun (W:World) (g:Nat) (h:W.heap[g]?=some (.cells (rpt d.kids.length (nc13 1)).toArray 33 (0,0)))=>ids_el h hk)
 have RP:=hide (fun (W:World) (b o c:Nat) (hx:∀ j v,(nc13 1)[j]?=some v→W.cell? ⟨b,o + j,none⟩=some v) (hb:b<W.heap.size)=>repeatE_any (c:=c) d.kids.length hk hx hb)
 have EX:Hid (∀ q:Sl,ehd 2 (ndX d)=d.h):=fun _=>rfl
 clear hr hg gu hE h1 h2
 obtain ⟨p,hp⟩:∃ p,(¬ NdOk d)=p:=⟨_,rfl⟩
 rw [hp] at NK ⊢
 clear hp
 have RE2:Hid (∀ (W:World) (g:Nat),Below w.heap.size w W→W.heap[g]?=some (.cells (rpt d.kids.length (nc13 1)).toArray 33 (0,0))→RE 2 W (ndX d) ⟨.slice a1 d.h.names.length c1,.slice (some ⟨g,0,none⟩) d.kids.length d.kids.length,.slice x3 y3 z3,.slice x4 y4 z4⟩):=fun W g hb h=>⟨NN.out.below hb,VV.out.below hb,IDS.out W g h⟩
 have X0:Hid ((w.alloc (.cells (ecl d.h ⟨.slice a1 d.h.names.length c1,.slice a2 d.kids.length c2,.slice x3 y3 z3,.slice x4 y4 z4⟩) 67)).heap[w.heap.size]?=some (.cells (ecl d.h ⟨.slice a1 d.h.names.length c1,.slice a2 d.kids.length c2,.slice x3 y3 z3,.slice x4 y4 z4⟩) 67 (0,0))):=last_at3 rfl
 have CK2:=hide (fun (W:World) (g:Nat) (hb:Below w.heap.size w W) (h:W.heap[g]?=some (.cells (rpt d.kids.length (nc13 1)).toArray 33 (0,0)))=>CK.out ⟨.slice a1 d.h.names.length c1,.slice (some ⟨g,0,none⟩) d.kids.length d.kids.length,.slice x3 y3 z3,.slice x4 y4 z4⟩ W hb (RE2.out W g hb h))
 simp only [show ehd 2 (ndX d)=d.h from rfl] at CK2
 have C0:Hid (∀ W:World,W.heap[w.heap.size]?=some (.cells (ecl d.h ⟨.slice a1 d.h.names.length c1,.slice a2 d.kids.length c2,.slice x3 y3 z3,.slice x4 y4 z4⟩) 67 (0,0))→W.cell? ⟨w.heap.size,0,none⟩=some (.int .i64 d.h.op)∧W.cell? ⟨w.heap.size,1,none⟩=some (.string d.h.name)∧W.cell? ⟨w.heap.size,2,none⟩=some (.slice a1 d.h.names.length c1)∧W.cell? ⟨w.heap.size,3,none⟩=some (.slice a2 d.kids.length c2)∧W.cell? ⟨w.heap.size,4,none⟩=some (.int .i64 (vhd d.h.vn d.h.val).kind)∧W.cell? ⟨w.heap.size,5,none⟩=some (.bool (vhd d.h.vn d.h.val).flag)∧W.cell? ⟨w.heap.size,6,none⟩=some (.bool (vhd d.h.vn d.h.val).neg)∧W.cell? ⟨w.heap.size,7,none⟩=some (.string (vhd d.h.vn d.h.val).dig)∧W.cell? ⟨w.heap.size,8,none⟩=some (.int .i64 (vhd d.h.vn d.h.val).exp)∧W.cell? ⟨w.heap.size,9,none⟩=some (.int .u64 (vhd d.h.vn d.h.val).bits)∧W.cell? ⟨w.heap.size,10,none⟩=some (.string (vhd d.h.vn d.h.val).text)∧W.cell? ⟨w.heap.size,11,none⟩=some (.slice x3 y3 z3)∧W.cell? ⟨w.heap.size,12,none⟩=some (.slice x4 y4 z4)):=by
  intro W hW
  refine ⟨?_,?_,?_,?_,?_,?_,?_,?_,?_,?_,?_,?_,?_⟩
  iterate 13 (unfold World.cell?;rw [hW];rfl)
 clear CK RE2 IDS NN VV EX
 unfold ecl at X0 C0 CK2 ⊢
 dsimp only at X0 C0 CK2 ⊢
 go_enter Tryz.func66, Tryz.ntmps66
 go_wp2_with (go_at_call 121;refine Sto.out ?_)
 refine Sto.mk ?_
 refine (RP.out _ _ _ _ (new_rng13 (by simp)) (by simp)).mono ?_
 rintro e w1 ⟨rfl,hg1,hb1⟩
 have B1:=hide (below_then (w:=w) (below_al (below_al (Below.refl _ _))) hb1)
 have X1:=hide ((hb1.block w.heap.size (by simp <;> omega)).trans (low_at3 (by simp) X0.out))
 have c1':=C0.out _ X1.out
 have CC:=hide (CK2.out _ _ B1.out hg1)
 simp only [World.size_alloc] at CC
 clear hb1 hg1 X0 RP CK2 C0
 go_wp2_with (go_at_call 34;refine Sto.out ?_)
 refine Sto.mk ?_
 refine CC.out.mono ?_
 rintro e w2 ⟨rfl,hb2⟩
 have B2:=hide (below_then B1.out hb2)
 clear hb2 c1' CC
 go_wp2_with fail
 go_ret
 exact ⟨_,rfl,(show Hid _ from ⟨fun q=>NK.out.1 (by simpa using q),fun q=>by simpa using NK.out.2 q⟩),B2.out⟩
set_option maxHeartbeats 2000000 in
set_option maxRecDepth 100000 in
theorem many_any (d:Nd) (s:Sl) (w:World) (hr:NdR w d s):Calls Tryz.prog 64 #[.agg (ecl d.h s)] w fun e w'=>TB (d.h.op=3∧2≤d.kids.length) w e w':=by
 obtain ⟨a1,c1,a2,c2,x3,y3,z3,x4,y4,z4,hqs⟩:=hr.shape
 subst hqs
 clear hr
 obtain ⟨h,kids⟩:=d
 simp only
 obtain ⟨M,hM⟩:∃ M,kids.length=M:=⟨_,rfl⟩
 rw [hM]
 obtain ⟨k,hk⟩:∃ k,h.op=k:=⟨_,rfl⟩
 unfold ecl
 rw [hk]
 by_cases h3:k=3
 ·subst h3
  by_cases h2:(2:Int)≤(M:Int)
  ·go_enter Tryz.func64, Tryz.ntmps64
   go_wp2_with fail
   go_ret
   exact TB.yes (by first|omega|exact ⟨rfl,by omega⟩|exact ⟨trivial,by omega⟩) (below_al (Below.refl _ _))
  ·go_enter Tryz.func64, Tryz.ntmps64
   go_wp2_with fail
   go_ret
   exact TB.no (fun q=>by first|omega|(have:=q.2;omega)) (below_al (Below.refl _ _))
 ·have hne:(k==3)=false:=by simp [h3]
  go_enter Tryz.func64, Tryz.ntmps64
  go_wp2_with fail
  go_ret
  exact TB.no (fun q=>h3 q.1) (below_al (Below.refl _ _))
set_option maxHeartbeats 2000000 in
set_option maxRecDepth 100000 in
theorem index_none (P:Nd→Prop) (v:Value) (l:List Nd) (w:World) (hl:NdL w v l) (hc:∀ i (hi:i<l.length) s W,Below w.heap.size w W→NdR W l[i] s→Calls Tryz.prog 66 #[.agg (ecl l[i].h s)] W fun e w'=>TB (P l[i]) W e w') :
  Calls Tryz.prog 120 #[v,.func (.func 66) #[] #[]] w fun e w'=>∃ k:Int,e=.returned (.int .i64 k)∧Hid (0≤k↔∃ d∈l,P d)∧Below w.heap.size w w':=by
 obtain ⟨al,cl,rfl,hl1,hl2⟩:=hl.len
 have ml:maxLen=9223372036854775807:=rfl
 have HL:=hide hl
 have HC:=hide hc
 clear hl hc
 go_enter Tryz.func120, Tryz.ntmps120
 go_wp2_with fail
 go_loopw [8] (fun i w'=>∃ k:Nat,i=.int .i64 k∧k≤l.length∧Hid ((∀ i (h1:i<l.length),i<k→¬ P l[i])∧Below w.heap.size w w')) (fun i _=>l.length - (intOf i).toNat)
 case atStart=>exact ⟨0,rfl,Nat.zero_le _,(fun i _ h=>by omega),Below.refl _ _⟩
 case round =>
  obtain ⟨k,rfl,hk,H⟩:=hrel
  by_cases hkl:k<l.length
  ·have hki:(k:Int)<(l.length:Int):=by omega
   have hk63:(k:Int)<9223372036854775807:=by omega
   obtain ⟨b,o,c,he,hbl,hlc,hcm,q,hrg,hrd⟩:=HL.out.at k hkl
   have he':=Value.slice.inj he
   obtain ⟨rfl,_,rfl⟩:=he'
   clear he
   have hrg2:=rangeAt_below hrg H.out.2 hbl
   obtain ⟨x1,z1,x2,z2,x3,y3,z3,x4,y4,z4,hqs⟩:=hrd.shape
   subst hqs
   have q0:=range13 hrg2
   have hc:=hide (HC.out k hkl _ wr H.out.2 (hrd.below H.out.2))
   clear hrg hrg2 hrd
   obtain ⟨d,hd⟩:∃ d,l[k]=d:=⟨_,rfl⟩
   have HD:=hide hd
   rw [hd] at hc q0
   clear hd
   unfold ecl at hc
   dsimp only at hc q0
   go_wp2_with (go_at_call 66;refine Sto.out ?_)
   refine Sto.mk ?_
   refine hc.out.mono ?_
   rintro e w2 ⟨b2,rfl,hT,hb1⟩
   have hb2:=hide (below_then H.out.2 hb1)
   cases b2
   ·have hEq:Hid (¬ P d):=hide (fun q=>by have:=hT.2 q;cases this)
    go_wp2_with fail
    refine ⟨⟨k + 1,by go_num,by omega,(fun i h1 h3=>?_),hb2.out⟩,by simp [intOf];omega⟩
    by_cases e:i=k
    ·subst e;rw [HD.out];exact hEq.out
    ·exact H.out.1 i h1 (by omega)
   ·have hne:=hide (hT.1 rfl)
    go_wp2_with fail
    go_ret
    exact ⟨k,rfl,(show Hid _ from ⟨fun _=>⟨l[k],List.getElem_mem hkl,by rw [HD.out];exact hne.out⟩,fun _=>by omega⟩),hb2.out⟩
  ·have hki:¬ ((k:Int)<(l.length:Int)):=by omega
   have hE':=hide (show ∀ d∈l,¬ P d from fun d hd=>by
    obtain ⟨i,h1,rfl⟩:=List.mem_iff_getElem.1 hd
    exact H.out.1 i h1 (by omega))
   go_wp2_with fail
   go_ret
   exact ⟨-1,rfl,(show Hid _ from ⟨fun h=>by omega,fun ⟨d,h,q⟩=>absurd q (hE'.out d h)⟩),H.out.2⟩
set_option maxHeartbeats 2000000 in
set_option maxRecDepth 100000 in
theorem contains_none (P:Nd→Prop) (v:Value) (l:List Nd) (w:World) (hl:NdL w v l) (hc:∀ i (hi:i<l.length) s W,Below w.heap.size w W→NdR W l[i] s→Calls Tryz.prog 66 #[.agg (ecl l[i].h s)] W fun e w'=>TB (P l[i]) W e w') :
  Calls Tryz.prog 63 #[v,.func (.func 66) #[] #[]] w fun e w'=>TB (∃ d∈l,P d) w e w':=by
 have hc:=hide (index_none P v l w hl hc)
 obtain ⟨al,cl,rfl,hl1,hl2⟩:=hl.len
 obtain ⟨p,hp⟩:∃ p,(∃ d∈l,P d)=p:=⟨_,rfl⟩
 rw [hp] at hc ⊢
 clear hl hp
 go_enter Tryz.func63, Tryz.ntmps63
 go_wp2_with (go_at_call 120;refine hc.out.mono ?_;rintro e w1 ⟨k,rfl,hT,hb1⟩)
 go_ret
 exact ⟨_,rfl,(show Hid _ from ⟨fun q=>hT.out.1 (by simpa using q),fun q=>by simpa using hT.out.2 q⟩),hb1⟩
set_option maxHeartbeats 2000000 in
set_option maxRecDepth 100000 in
theorem index_many (P:Nd→Prop) (v:Value) (l:List Nd) (w:World) (hl:NdL w v l) (hc:∀ i (hi:i<l.length) s W,Below w.heap.size w W→NdR W l[i] s→Calls Tryz.prog 64 #[.agg (ecl l[i].h s)] W fun e w'=>TB (P l[i]) W e w') :
  Calls Tryz.prog 120 #[v,.func (.func 64) #[] #[]] w fun e w'=>∃ k:Int,e=.returned (.int .i64 k)∧Hid (0≤k↔∃ d∈l,P d)∧Below w.heap.size w w':=by
 obtain ⟨al,cl,rfl,hl1,hl2⟩:=hl.len
 have ml:maxLen=9223372036854775807:=rfl
 have HL:=hide hl
 have HC:=hide hc
 clear hl hc
 go_enter Tryz.func120, Tryz.ntmps120
 go_wp2_with fail
 go_loopw [8] (fun i w'=>∃ k:Nat,i=.int .i64 k∧k≤l.length∧Hid ((∀ i (h1:i<l.length),i<k→¬ P l[i])∧Below w.heap.size w w')) (fun i _=>l.length - (intOf i).toNat)
 case atStart=>exact ⟨0,rfl,Nat.zero_le _,(fun i _ h=>by omega),Below.refl _ _⟩
 case round =>
  obtain ⟨k,rfl,hk,H⟩:=hrel
  by_cases hkl:k<l.length
  ·have hki:(k:Int)<(l.length:Int):=by omega
   have hk63:(k:Int)<9223372036854775807:=by omega
   obtain ⟨b,o,c,he,hbl,hlc,hcm,q,hrg,hrd⟩:=HL.out.at k hkl
   have he':=Value.slice.inj he
   obtain ⟨rfl,_,rfl⟩:=he'
   clear he
   have hrg2:=rangeAt_below hrg H.out.2 hbl
   obtain ⟨x1,z1,x2,z2,x3,y3,z3,x4,y4,z4,hqs⟩:=hrd.shape
   subst hqs
   have q0:=range13 hrg2
   have hc:=hide (HC.out k hkl _ wr H.out.2 (hrd.below H.out.2))
   clear hrg hrg2 hrd
   obtain ⟨d,hd⟩:∃ d,l[k]=d:=⟨_,rfl⟩
   have HD:=hide hd
   rw [hd] at hc q0
   clear hd
   unfold ecl at hc
   dsimp only at hc q0
   go_wp2_with (go_at_call 64;refine Sto.out ?_)
   refine Sto.mk ?_
   refine hc.out.mono ?_
   rintro e w2 ⟨b2,rfl,hT,hb1⟩
   have hb2:=hide (below_then H.out.2 hb1)
   cases b2
   ·have hEq:Hid (¬ P d):=hide (fun q=>by have:=hT.2 q;cases this)
    go_wp2_with fail
    refine ⟨⟨k + 1,by go_num,by omega,(fun i h1 h3=>?_),hb2.out⟩,by simp [intOf];omega⟩
    by_cases e:i=k
    ·subst e;rw [HD.out];exact hEq.out
    ·exact H.out.1 i h1 (by omega)
   ·have hne:=hide (hT.1 rfl)
    go_wp2_with fail
    go_ret
    exact ⟨k,rfl,(show Hid _ from ⟨fun _=>⟨l[k],List.getElem_mem hkl,by rw [HD.out];exact hne.out⟩,fun _=>by omega⟩),hb2.out⟩
  ·have hki:¬ ((k:Int)<(l.length:Int)):=by omega
   have hE':=hide (show ∀ d∈l,¬ P d from fun d hd=>by
    obtain ⟨i,h1,rfl⟩:=List.mem_iff_getElem.1 hd
    exact H.out.1 i h1 (by omega))
   go_wp2_with fail
   go_ret
   exact ⟨-1,rfl,(show Hid _ from ⟨fun h=>by omega,fun ⟨d,h,q⟩=>absurd q (hE'.out d h)⟩),H.out.2⟩
set_option maxHeartbeats 2000000 in
set_option maxRecDepth 100000 in
theorem contains_many (P:Nd→Prop) (v:Value) (l:List Nd) (w:World) (hl:NdL w v l) (hc:∀ i (hi:i<l.length) s W,Below w.heap.size w W→NdR W l[i] s→Calls Tryz.prog 64 #[.agg (ecl l[i].h s)] W fun e w'=>TB (P l[i]) W e w') :
  Calls Tryz.prog 63 #[v,.func (.func 64) #[] #[]] w fun e w'=>TB (∃ d∈l,P d) w e w':=by
 have hc:=hide (index_many P v l w hl hc)
 obtain ⟨al,cl,rfl,hl1,hl2⟩:=hl.len
 obtain ⟨p,hp⟩:∃ p,(∃ d∈l,P d)=p:=⟨_,rfl⟩
 rw [hp] at hc ⊢
 clear hl hp
 go_enter Tryz.func63, Tryz.ntmps63
 go_wp2_with (go_at_call 120;refine hc.out.mono ?_;rintro e w1 ⟨k,rfl,hT,hb1⟩)
 go_ret
 exact ⟨_,rfl,(show Hid _ from ⟨fun q=>hT.out.1 (by simpa using q),fun q=>by simpa using hT.out.2 q⟩),hb1⟩
end Lx
end Go.Proofs.YtgicnopppgnjjaaGreatDoor
namespace Go.Proofs.YtgicnopppgnjjaaGreatDoor
namespace Lx
open Go.RowKit
variable {dq : {_f : (p : Prop) → Decidable p // True}}
def GN (l:List Nd):Prop:=l.length≤100000∧∀ d∈l,GH d.h∧d.kids.length≤100000
def mpB (l:List Nd):ET (l.length + 1):=mpA (bareH (lf 1)) (l.map bareN) l.length 0
def cckB (dq:{_f:(p:Prop)→Decidable p // True}) (l:List Nd):Int:=@ite _ (inOrd l∧∀ d∈l,NdOk d) (dq.1 _) (@ite _ (512<l.length) (dq.1 _) 2 (lck dq _ (mpB l))) 180
theorem gh_bare {h:Eh} (g:GH h):GH (bareH h):=by
 obtain ⟨op,nm,nms,vn,val⟩:=h
 obtain ⟨g1,g2,g3,g4,g5⟩:=g
 refine ⟨g1,g2,g3,?_,by show 1 + 0≤200000;omega⟩
 cases vn with
 | zero=>exact Empty.elim val
 | succ n =>
  obtain ⟨s1,s2,s3,s4,s5⟩:=g4
  exact ⟨s1,s2,Nat.zero_le _,fun s hs=>absurd hs (by simp [bareH,bareV]),fun y hy=>absurd hy (by simp [bareH])⟩
theorem mpA_ge {z:Eh} {l:List Nd} (hz:GH z) (hl:∀ d∈l,GH d.h∧d.kids.length≤100000):∀ (f i:Nat),GE (f + 1) (mpA z l f i):=by
 have hd:∀ i,GH (l.getD i (ndz z)).h∧(l.getD i (ndz z)).kids.length≤100000:=fun i=>by
  by_cases hi:i<l.length
  ·rw [List.getD_eq_getElem?_getD,List.getElem?_eq_getElem hi]
   exact hl _ (List.getElem_mem hi)
  ·rw [List.getD_eq_getElem?_getD,List.getElem?_eq_none (by omega)]
   exact ⟨hz,Nat.zero_le _⟩
 intro f
 induction f with
 | zero=>exact fun i=>⟨(hd i).1,Nat.zero_le _,fun y hy=>absurd hy (by simp [mpA])⟩
 | succ f ih =>
  intro i
  refine ⟨(hd i).1,by show ((l.getD i (ndz z)).kids.map _).length≤_;rw [List.length_map];exact (hd i).2,fun y hy=>?_⟩
  obtain ⟨k,_,rfl⟩:=List.mem_map.1 (show y∈(l.getD i (ndz z)).kids.map fun k=>mpA z l f k.toNat from hy)
  exact ih _
theorem gn_bare {l:List Nd} (h:GN l):∀ d∈l.map bareN,GH d.h∧d.kids.length≤100000:=by
 intro d hd
 obtain ⟨x,hx,rfl⟩:=List.mem_map.1 hd
 exact ⟨gh_bare (h.2 x hx).1,(h.2 x hx).2⟩
theorem mpB_ge {l:List Nd} (h:GN l):GE _ (mpB l):=mpA_ge (gh_bare (gh_lf 1)) (gn_bare h) _ _
theorem enF_bare (L:Nat):∀ (l:List Nd) (i:Nat),enF L (l.map bareN) i=enF L l i
 | [],_=>rfl
 | n :: l,i=>by
  rw [List.map_cons]
  unfold enF
  rw [enF_bare L l (i + 1)]
  rfl
theorem inOrd_bare (l:List Nd):inOrd (l.map bareN)↔inOrd l:=by
 unfold inOrd
 rw [List.length_map,enF_bare]
theorem mpB_prg {l:List Nd} (h:inOrd l):l≠[]∧prg _ (mpB l) 0=l.map bareN:=by
 obtain ⟨a,b⟩:=inOrd_prg (z:=bareH (lf 1)) ((inOrd_bare l).2 h)
 exact ⟨fun e=>a (by rw [e];rfl),b _ (by rw [List.length_map];omega)⟩
theorem mpB_siz {l:List Nd} (h:inOrd l):esiz _ (mpB l)=l.length:=by
 rw [←prg_len _ _ 0,(mpB_prg h).2,List.length_map]
set_option maxHeartbeats 4000000 in
set_option maxRecDepth 100000 in
theorem ccheck_any (l:List Nd) (v:Value) (w:World) (hl:NdL w v l) (hg:GN l) (gu:Ut.Gu w):Calls Tryz.prog 30 #[v] w fun e w'=>e=.returned (.int .i64 (cckB dq l))∧Below w.heap.size w w':=by
 have HO:=hide (order_any l v w hl hg.1)
 have HN:=hide (fun W (hb:Below w.heap.size w W)=>contains_none (fun d=>¬ NdOk d) v l W (hl.below hb) fun i hi s W' hb' hr=>isNone_any l[i] s W' hr (hg.2 _ (List.getElem_mem hi)).1 (hg.2 _ (List.getElem_mem hi)).2 ((gu.below hb).below hb'))
 have HM:=hide (fun (ho:inOrd l) W (hb:Below w.heap.size w W)=>mapAt_any (lf 1) l (inOrd_kids (lf 1) ho) hg.1 (fun d hd=>⟨by have:=(hg.2 d hd).1.2.1;omega,(hg.2 d hd).2⟩) l.length 0 v W (hl.below hb) (by have:=(mpB_prg ho).1;cases l with|nil=>exact absurd rfl this|cons a b=>simp) (by omega))
 have HC:=hide (fun (ho:inOrd l) W q (hb:Below w.heap.size w W) (h:RE _ W (mpB l) q)=>check_is (dq:=dq) _ (mpB l) q W h ⟨mpB_ge hg,gu.below hb⟩ (by rw [mpB_siz ho];have:=hg.1;omega))
 obtain ⟨al,cl,rfl,hl1,hl2⟩:=hl.len
 unfold cckB
 by_cases ho:inOrd l
 ·replace HM:=hide (HM.out ho)
  replace HC:=hide (HC.out ho)
  by_cases hn:∃ d∈l,¬ NdOk d
  ·rw [if_neg (fun k=>by obtain ⟨d,h1,h2⟩:=hn;exact h2 (k.2 d h1))]
   clear HM HC
   have hn':=hide hn
   have ho':=hide ho
   clear hn ho hl hg gu
   go_enter Tryz.func30, Tryz.ntmps30
   go_wp2_with (go_at_call 65;refine Sto.out ?_)
   refine Sto.mk ?_
   refine HO.out.mono ?_
   rintro e w1 ⟨b,rfl,hT,hb1⟩
   obtain rfl:b=true:=hT.2 ho'.out
   have B1:=hide hb1
   clear hb1 hT HO
   go_wp2_with (go_at_call 63;refine Sto.out ?_)
   refine Sto.mk ?_
   refine (HN.out _ B1.out).mono ?_
   rintro e w2 ⟨b,rfl,hT,hb2⟩
   obtain rfl:b=true:=hT.2 hn'.out
   have B2:=hide (below_then B1.out hb2)
   clear hb2 hT HN
   go_wp2_with fail
   go_ret
   exact ⟨rfl,B2.out⟩
  ·have hall:∀ d∈l,NdOk d:=fun d hd=>Classical.byContradiction fun q=>hn ⟨d,hd,q⟩
   rw [if_pos ⟨ho,hall⟩]
   have hn':=hide hn
   have ho':=hide ho
   obtain ⟨N,hN⟩:∃ N,l.length=N:=⟨_,rfl⟩
   unfold mpB at HC ⊢
   rw [hN] at HM HC ⊢
   obtain ⟨x,hx⟩:∃ x,mpA (bareH (lf 1)) (l.map bareN) N 0=x:=⟨_,rfl⟩
   simp only [hx] at HM HC ⊢
   obtain ⟨E,hE⟩:∃ E,lck dq (N + 1) x=E:=⟨_,rfl⟩
   rw [hE] at HC ⊢
   obtain ⟨h,hh⟩:∃ h,ehd (N + 1) x=h:=⟨_,rfl⟩
   rw [hh] at HM HC
   clear hn ho hl gu hall hE hh hx
   have hm:=hg.1
   rw [hN] at hm hl1 HO HN
   clear hg hN
   by_cases h5:512<N
   ·rw [if_pos h5]
    have h5i:(512:Int)<(N:Int):=by omega
    go_enter Tryz.func30, Tryz.ntmps30
    go_wp2_with (go_at_call 65;refine Sto.out ?_)
    refine Sto.mk ?_
    refine HO.out.mono ?_
    rintro e w1 ⟨b,rfl,hT,hb1⟩
    obtain rfl:b=true:=hT.2 ho'.out
    have B1:=hide hb1
    clear hb1 hT HO
    go_wp2_with (go_at_call 63;refine Sto.out ?_)
    refine Sto.mk ?_
    refine (HN.out _ B1.out).mono ?_
    rintro e w2 ⟨b,rfl,hT,hb2⟩
    obtain rfl:b=false:=by
     cases b
     ·rfl
     ·exact absurd (hT.1 rfl) hn'.out
    have B2:=hide (below_then B1.out hb2)
    clear hb2 hT HN
    go_wp2_with fail
    go_ret
    exact ⟨rfl,B2.out⟩
   ·rw [if_neg h5]
    have h5i:¬ (512:Int)<(N:Int):=by omega
    go_enter Tryz.func30, Tryz.ntmps30
    go_wp2_with (go_at_call 65;refine Sto.out ?_)
    refine Sto.mk ?_
    refine HO.out.mono ?_
    rintro e w1 ⟨b,rfl,hT,hb1⟩
    obtain rfl:b=true:=hT.2 ho'.out
    have B1:=hide hb1
    clear hb1 hT HO
    go_wp2_with (go_at_call 63;refine Sto.out ?_)
    refine Sto.mk ?_
    refine (HN.out _ B1.out).mono ?_
    rintro e w2 ⟨b,rfl,hT,hb2⟩
    obtain rfl:b=false:=by
     cases b
     ·rfl
     ·exact absurd (hT.1 rfl) hn'.out
    have B2:=hide (below_then B1.out hb2)
    clear hb2 hT HN
    go_wp2_with (go_at_call 60;refine Sto.out ?_)
    refine Sto.mk ?_
    refine (HM.out _ B2.out).mono ?_
    rintro e w3 ⟨q,rfl,hk,hb3⟩
    have B3:=hide (below_then B2.out hb3)
    have CC:=hide (HC.out w3 q B3.out hk.out.rd)
    clear hb3 HM HC
    go_wp2_with (go_at_call 34;refine Sto.out ?_)
    refine Sto.mk ?_
    refine CC.out.mono ?_
    rintro e w4 ⟨rfl,hb4⟩
    have B4:=hide (below_then B3.out hb4)
    clear hb4 CC
    go_wp2_with fail
    go_ret
    exact ⟨rfl,B4.out⟩
 ·rw [if_neg (fun k=>ho k.1)]
  have ho':=hide ho
  clear ho HM HC HN hl hg gu
  go_enter Tryz.func30, Tryz.ntmps30
  go_wp2_with (go_at_call 65;refine Sto.out ?_)
  refine Sto.mk ?_
  refine HO.out.mono ?_
  rintro e w1 ⟨b,rfl,hT,hb1⟩
  obtain rfl:b=false:=by
   cases b
   ·rfl
   ·exact absurd (hT.1 rfl) ho'.out
  have B1:=hide hb1
  clear hb1 hT HO
  go_wp2_with fail
  go_ret
  exact ⟨rfl,B1.out⟩
end Lx
end Go.Proofs.YtgicnopppgnjjaaGreatDoor
namespace Go.Proofs.YtgicnopppgnjjaaGreatDoor
namespace Lx
open Go.RowKit
theorem belowE_dn {L:Nat} {w W:World} (h:Below L w W) (n:Nat):Below L w (W.drewN n):=h.trans (below_drewN _ _ _)
end Lx
end Go.Proofs.YtgicnopppgnjjaaGreatDoor
