/- Merged by program: WeNames, WgFill, WhValue, WiCheck. -/
import Derived.Test.YtgicnopppgnjjaaGreatDoorZd09
import Derived.Test.YtgicnopppgnjjaaGreatDoorUZd08
import Derived.Maps.OwnSet
import Derived.StringKeys
import Derived.Test.YtgicnopppgnjjaaGreatDoorZd07
import Derived.Test.YtgicnopppgnjjaaGreatDoorZd00
set_option linter.unusedSimpArgs false
set_option linter.unusedVariables false
namespace Go.Proofs.YtgicnopppgnjjaaGreatDoor
open Go.RowKit Go.Maps
def okT (s:ByteArray):Bool:=Ut.okT (Ut.bl s)
def Nms (l:List ByteArray):Prop:=(∀ s∈l,okT s=true)∧l.Nodup
theorem keyS:Keyed Tryz.prog 9:=string_keyed Tryz.underlying9
theorem zeroU (w:World):(zeroValue 239).run Tryz.prog w=.ok (.agg #[]) w:=by kernel_rfl
def Sn (l:List ByteArray) (k:Nat):DataW Unit:=setOf (.agg []) ((l.take k).map fun s=>Lit.string s.data.toList)
theorem Sn_zero (l:List ByteArray):Sn l 0=.map []:=by simp [Sn,setOf]
theorem Sn_succ (l:List ByteArray) (k:Nat) (h:k<l.length):Sn l (k + 1)=(Sn l k).put (.string l[k].data.toList) (.agg []):=by
 unfold Sn
 rw [List.take_succ_eq_append_getElem h,List.map_append,List.map_singleton,setOf_snoc]
theorem has_Sn (l:List ByteArray) (k:Nat) (s:ByteArray):Maps.has (Sn l k) (.string s.data.toList)=true↔s∈l.take k:=by
 unfold Sn
 rw [has_setOf _ _ _ (fun y hy=>by obtain ⟨_,_,rfl⟩:=List.mem_map.1 hy;trivial),List.any_map]
 rw [List.any_eq_true]
 constructor
 ·rintro ⟨y,hy,e⟩
  have:y.data.toList=s.data.toList:=by simpa [Lit.sameKey] using e
  have:y=s:=ByteArray.ext (Array.toList_inj.1 this)
  rw [←this];exact hy
 ·intro h
  exact ⟨s,h,by simp [Lit.sameKey]⟩
theorem not_nodup {l:List ByteArray} {k:Nat} (h:k<l.length) (hm:l[k]∈l.take k):¬ l.Nodup:=by
 intro hn
 obtain ⟨j,hj,e⟩:=List.mem_iff_getElem.1 hm
 rw [List.length_take] at hj
 rw [List.getElem_take] at e
 have:=(List.getElem_inj hn).1 e
 omega
theorem nms_more {l:List ByteArray} {k:Nat} (h:k<l.length) (hn:Nms (l.take k)) (hm:¬ l[k]∈l.take k) (hok:okT l[k]=true):Nms (l.take (k + 1)):=by
 rw [List.take_succ_eq_append_getElem h]
 refine ⟨fun s hs=>?_,?_⟩
 ·rcases List.mem_append.1 hs with q|q
  ·exact hn.1 s q
  ·rw [List.mem_singleton.1 q];exact hok
 ·rw [List.nodup_append]
  refine ⟨hn.2,by simp,fun a ha b hb=>?_⟩
  rw [List.mem_singleton.1 hb]
  intro e
  rw [e] at ha
  exact hm ha
theorem ownsMap_below {w W:World} {k:TypeId} {b n:Nat} {D:DataW Unit} {R:Value→Option (DataW Unit×List MemPlace)} (h:w.ownsMap Tryz.prog k R b n D) (hb:Below w.heap.size w W):W.ownsMap Tryz.prog k R b n D:=by
 obtain ⟨es,clock,h1,F,hs,rfl⟩:=h
 have hlt:b<w.heap.size:=by
  by_cases hlt:b<w.heap.size
  ·exact hlt
  ·have hn:w.heap[b]?=none:=by simp;omega
   rw [hn] at h1;cases h1
 exact ⟨es,clock,(hb.block b hlt).trans h1,F,hs,rfl⟩
set_option maxHeartbeats 1000000 in
set_option maxRecDepth 100000 in
theorem areNames_any (v:Value) (l:List ByteArray) (w:World) (hv:NL w v l) (g:Ut.Gu w) (hz:l.length≤281474976710656∧∀ s∈l,s.size≤281474976710656) :
  Calls Tryz.prog 225 #[v] w fun e w'=>TB (Nms l) w e w':=by
 have hmm:=@run_makeMap Tryz.prog
 obtain ⟨av,cv,rfl,hv1,hv2⟩:=hv.len
 have hv:=hide hv
 have g:=hide g
 have hz:=hide hz
 have ml:maxLen=9223372036854775807:=rfl
 go_enter Tryz.func225, Tryz.ntmps225
 go_wp2_with fail
 go_loopw [11] (fun i wr=>∃ k:Nat,i=.int .i64 k∧k≤l.length∧Hid (Nms (l.take k)∧wr.ownsMap Tryz.prog 9 (unitElem (H:=Unit)) w.heap.size k (Sn l k)∧Below w.heap.size w wr∧w.heap.size<wr.heap.size)) (fun i _=>l.length - (intOf i).toNat)
 case atStart=>exact ⟨0,rfl,Nat.zero_le _,⟨(fun s hs=>by simp at hs),by simp⟩,by rw [Sn_zero];exact World.ownsMap_made _ _ _ _,below_al (Below.refl _ _),by simp⟩
 case round =>
  obtain ⟨k,rfl,hk,H⟩:=hrel
  by_cases hkl:k<l.length
  ·have hki:(k:Int)<(l.length:Int):=by omega
   have hk63:(k:Int)<9223372036854775807:=by omega
   obtain ⟨b,o,c,he,hbl,hlc,hcm,hcell⟩:=hv.out.at k hkl
   have he':=Value.slice.inj he
   obtain ⟨rfl,_,rfl⟩:=he'
   clear he
   have hcell:=(H.out.2.2.1.cell (p:=⟨b,o + k,none⟩) hbl).trans hcell
   obtain ⟨s,hs⟩:∃ s,l[k]=s:=⟨_,rfl⟩
   have hss:s.size≤281474976710656:=by rw [←hs];exact hz.out.2 _ (List.getElem_mem _)
   have hkey:keyOf Tryz.prog 9 (.string s)=some (.string s.data.toList):=WideMaps.keyOf_string_mk Tryz.underlying9 (by omega)
   have hkey:=hide hkey
   have hval:=hide (fun o=>Ut.valid_any s (wr.alloc o) (g.out.below (below_al H.out.2.2.1)) (by omega))
   have hsn:=hide (Sn_succ l k hkl)
   have hss':=hide hss
   rw [hs] at hcell hsn
   have hs':=hide hs
   clear hs hss
   by_cases hm:s∈l.take k
   ·have hhas:=(has_Sn l k s).2 hm
    have hno:¬ Nms l:=fun q=>not_nodup hkl (by rw [hs'.out];exact hm) q.2
    have hno':=hide hno
    clear hno hm
    go_wp2_with (at_lookup;refine wpList_lookup_own_unit _ rfl _ _ 238 rfl 9 239 keyS Tryz.underlying238 (zeroU _) w.heap.size k _ rfl H.out.2.1 _ _ rfl hkey.out ?_;rw [hhas])
    go_ret
    exact TB.no hno'.out (below_al H.out.2.2.1)
   ·have hhas:Maps.has (Sn l k) (.string s.data.toList)=false:=by
     cases hq:Maps.has (Sn l k) (.string s.data.toList)
     ·rfl
     ·exact absurd ((has_Sn l k s).1 hq) hm
    cases hok:okT s
    ·have hval:=hide (fun o=>show Calls Tryz.prog 152 #[.string s] (wr.alloc o) fun r w'=>r=.returned (.bool false)∧Below (wr.alloc o).heap.size (wr.alloc o) w' from by rw [←hok];exact hval.out o)
     have hno:¬ Nms l:=fun q=>by
      have:=q.1 l[k] (List.getElem_mem _)
      rw [hs'.out,hok] at this
      cases this
     have hno':=hide hno
     clear hno hm hok
     go_wp2_with (first|(at_lookup;refine wpList_lookup_own_unit _ rfl _ _ 238 rfl 9 239 keyS Tryz.underlying238 (zeroU _) w.heap.size k _ rfl H.out.2.1 _ _ rfl hkey.out ?_;rw [hhas])|(go_at_call 152;refine (hval.out _).mono ?_;rintro e w1 ⟨rfl,hb1⟩))
     go_ret
     exact TB.no hno'.out (below_then (below_al H.out.2.2.1) hb1)
    ·have hval:=hide (fun o=>show Calls Tryz.prog 152 #[.string s] (wr.alloc o) fun r w'=>r=.returned (.bool true)∧Below (wr.alloc o).heap.size (wr.alloc o) w' from by rw [←hok];exact hval.out o)
     have hm':=hide (nms_more hkl H.out.1 (by rw [hs'.out];exact hm) (by rw [hs'.out];exact hok))
     clear hm hok
     have hkm:k<maxLen:=by omega
     go_wp2_with (first|(at_lookup;refine wpList_lookup_own_unit _ rfl _ _ 238 rfl 9 239 keyS Tryz.underlying238 (zeroU _) w.heap.size k _ rfl H.out.2.1 _ _ rfl hkey.out ?_;rw [hhas])|(go_at_call 152;refine (hval.out _).mono ?_;rintro e w1 ⟨rfl,hb1⟩;have hown1:=ownsMap_below (World.ownsMap.alloc H.out.2.1 _) hb1)|(at_mapUpdate;refine wpList_mapUpdate_own _ rfl _ _ _ 238 rfl 9 239 keyS Tryz.underlying238 (unitElem (H:=Unit)) w.heap.size k _ rfl hown1 hkm _ _ _ rfl rfl hkey.out _ [] unitElem_mk ?_;intro w2 hown2 hgrow2))
     refine ⟨⟨k + 1,by go_num,by omega,hm'.out,by rw [hsn.out];exact hown2,?_,?_⟩,by simp [intOf];omega⟩
     ·exact (below_then (below_al H.out.2.2.1) hb1).grown hgrow2 (by have h1:=hb1.size;have h3:=H.out.2.2.2;simp at h1;omega) (fun j hj=>by cases hj;exact Nat.le_refl _)
     ·have h1:=hb1.size
      have h2:=hgrow2.size
      have h3:=H.out.2.2.2
      simp at h1
      omega
  ·have hki:¬ ((k:Int)<(l.length:Int)):=by omega
   have hE:=H.out.1
   rw [List.take_of_length_le (by omega)] at hE
   have hE':=hide hE
   clear hE
   go_wp2_with fail
   go_ret
   exact TB.yes hE'.out H.out.2.2.1
end Go.Proofs.YtgicnopppgnjjaaGreatDoor
namespace Go.Proofs.YtgicnopppgnjjaaGreatDoor
open Go.RowKit
def Filled (h:Hd) (m:Nat):Prop:=(h.kind=3→isN h.neg h.dig h.exp=true)∧(h.kind=5→okT h.text=true)∧(h.kind=8→h.names.length=m∧Nms h.names)∧(h.kind=9→okT h.text=true∧m=1)
theorem one_cell {w w1:World} {c1:Array Value} {T1:TypeId} (hb:Below (w.alloc (.cells c1 T1)).heap.size (w.alloc (.cells c1 T1)) w1) (j:Nat):w1.cell? ⟨w.heap.size,j,none⟩=c1[j]?:=by
 have h1:(w.alloc (.cells c1 T1)).heap=w.heap.push (.cells c1 T1):=rfl
 have b1:=hb.block w.heap.size (by rw [h1];simp)
 rw [h1,Array.getElem?_push_size] at b1
 unfold World.cell?
 rw [b1]
 rfl
theorem tells (p:Prop):∃ b:Bool,b=true↔p:=by
 by_cases h:p
 ·exact ⟨true,by simp [h]⟩
 ·exact ⟨false,by simp [h]⟩
theorem Calls.tb {f:FuncId} {args:Array Value} {w:World} {p:Prop} {b:Bool} (h:Calls Tryz.prog f args w fun e w'=>TB p w e w') (hb:b=true↔p):Calls Tryz.prog f args w fun e w'=>e=.returned (.bool b)∧Below w.heap.size w w':=by
 refine h.mono ?_
 rintro e w' ⟨c,rfl,hc,hw⟩
 have:c=b:=by rw [Bool.eq_iff_iff];exact Iff.trans hc hb.symm
 rw [this]
 exact ⟨rfl,hw⟩
set_option maxHeartbeats 1000000 in
set_option maxRecDepth 100000 in
theorem isFilled_any (n:Nat) (h:Hd) (l:List (VT n)) (ns ls:Value) (w:World) (hr:RD (n + 1) w (h,l) ns ls) (hz:Sz (n + 1) (h,l)) (g:Ut.Gu w) :
  Calls Tryz.prog 201 #[.agg (vals h ns ls)] w fun e w'=>TB (Filled h l.length) w e w':=by
 obtain ⟨al,cl,rfl,hc1,hc2⟩:=hr.len
 obtain ⟨an,cn,rfl,hn1,hn2⟩:=hr.1.len
 have ml:maxLen=9223372036854775807:=rfl
 simp only at hc1 hc2 hn1 hn2
 obtain ⟨z1,z2,z3,z4,z5⟩:=hz
 simp only at z1 z2 z3 z4
 have hB0:=hide (bx_new w h (.slice an h.names.length cn) (.slice al l.length cl))
 have hV:=hide (fun W (hb:Below w.heap.size w W)=>Ut.valid_any h.text W (g.below hb) (by omega))
 have hN:=hide (fun W (hb:Below w.heap.size w W)=>areNames_any (.slice an h.names.length cn) h.names W (hr.1.below hb) (g.below hb) ⟨z3,z4⟩)
 have hb0:Hid (∀ o,Below w.heap.size w (w.alloc o)):=fun o=>below_al (Below.refl _ _)
 clear hr g z4 z5
 show Calls _ _ #[.agg #[.int .i64 h.kind,.bool h.flag,.bool h.neg,.string h.dig,.int .i64 h.exp,.int .u64 h.bits,.string h.text,.slice an h.names.length cn,.slice al l.length cl]] _ _
 by_cases k3:h.kind=3
 ·obtain ⟨b,hb⟩:=tells (isN h.neg h.dig h.exp=true)
  have hx:=hide (show Filled h l.length↔b=true by rw [hb];simp [Filled,k3])
  have hC:Hid (∀ W,Calls Tryz.prog 208 #[.agg #[.bool h.neg,.string h.dig,.int .i64 h.exp]] W fun e w'=>e=.returned (.int .i64 (bif b then 0 else 10))∧Below W.heap.size W w'):=fun W=>by
   cases b
   ·exact check_no _ _ _ W (by omega) (by cases q:isN h.neg h.dig h.exp;rfl;exact absurd (hb.2 q) (by simp))
   ·exact check_ok _ _ _ W (by omega) (hb.1 rfl)
  rw [k3]
  clear hb
  cases b
  ·go_enter Tryz.func201, Tryz.ntmps201
   go_wp2_with (go_at_call 208;refine (hC.out _).mono ?_;rintro e w1 ⟨rfl,hb1⟩)
   go_ret
   exact TB.no (fun q=>by have:=hx.out.1 q;cases this) (below_then (hb0.out _) hb1)
  ·go_enter Tryz.func201, Tryz.ntmps201
   go_wp2_with (go_at_call 208;refine (hC.out _).mono ?_;rintro e w1 ⟨rfl,hb1⟩)
   go_ret
   exact TB.yes (hx.out.2 (by simp)) (below_then (hb0.out _) hb1)
 by_cases k5:h.kind=5
 ·have hx:=hide (show Filled h l.length↔okT h.text=true by simp [Filled,k5])
  have hV:=hide (fun o=>hV.out (w.alloc o) (hb0.out o))
  rw [k5]
  cases hk:okT h.text
  ·rw [hk] at hx
   have hV:Hid (∀ o,Calls Tryz.prog 152 #[.string h.text] (w.alloc o) fun r w'=>r=.returned (.bool false)∧Below (w.alloc o).heap.size (w.alloc o) w'):=fun o=>by rw [←hk];exact hV.out o
   clear hk
   go_enter Tryz.func201, Tryz.ntmps201
   go_wp2_with (go_at_call 152;refine (hV.out _).mono ?_;rintro e w1 ⟨rfl,hb1⟩)
   go_ret
   exact TB.no (fun q=>by have:=hx.out.1 q;cases this) (below_then (hb0.out _) hb1)
  ·rw [hk] at hx
   have hV:Hid (∀ o,Calls Tryz.prog 152 #[.string h.text] (w.alloc o) fun r w'=>r=.returned (.bool true)∧Below (w.alloc o).heap.size (w.alloc o) w'):=fun o=>by rw [←hk];exact hV.out o
   clear hk
   go_enter Tryz.func201, Tryz.ntmps201
   go_wp2_with (go_at_call 152;refine (hV.out _).mono ?_;rintro e w1 ⟨rfl,hb1⟩)
   go_ret
   exact TB.yes (hx.out.2 (by simp)) (below_then (hb0.out _) hb1)
 by_cases k8:h.kind=8
 ·by_cases hlen:(h.names.length:Int)=(l.length:Int)
  ·have hl':h.names.length=l.length:=by omega
   have hx:=hide (show Filled h l.length↔Nms h.names by simp [Filled,k8,hl'])
   have hN:=hide (fun o=>hN.out (w.alloc o) (hb0.out o))
   obtain ⟨b,hb⟩:=tells (Nms h.names)
   have hN:=hide (fun o=>Calls.tb (hN.out o) hb)
   have hb:=hide hb
   rw [k8]
   rw [hl'] at hN ⊢
   clear hlen hl'
   cases b
   ·go_enter Tryz.func201, Tryz.ntmps201
    go_wp2_with (go_at_call 225;refine (hN.out _).mono ?_;rintro e w1 ⟨rfl,hb1⟩)
    go_ret
    exact TB.no (fun q=>by have:=hb.out.2 (hx.out.1 q);cases this) (below_then (hb0.out _) hb1)
   ·go_enter Tryz.func201, Tryz.ntmps201
    go_wp2_with (go_at_call 225;refine (hN.out _).mono ?_;rintro e w1 ⟨rfl,hb1⟩)
    go_ret
    exact TB.yes (hx.out.2 (hb.out.1 (by simp))) (below_then (hb0.out _) hb1)
  ·have hx:Hid (¬ Filled h l.length):=by
    intro q
    have:=(q.2.2.1 k8).1
    omega
   rw [k8]
   go_enter Tryz.func201, Tryz.ntmps201
   go_wp2_with fail
   go_ret
   exact TB.no hx.out (hb0.out _)
 by_cases k9:h.kind=9
 ·have hV:=hide (fun o=>hV.out (w.alloc o) (hb0.out o))
  rw [k9]
  cases hk:okT h.text
  ·have hx:Hid (¬ Filled h l.length):=by
    intro q
    have:=(q.2.2.2 k9).1
    rw [hk] at this;cases this
   have hV:Hid (∀ o,Calls Tryz.prog 152 #[.string h.text] (w.alloc o) fun r w'=>r=.returned (.bool false)∧Below (w.alloc o).heap.size (w.alloc o) w'):=fun o=>by rw [←hk];exact hV.out o
   clear hk
   go_enter Tryz.func201, Tryz.ntmps201
   go_wp2_with (go_at_call 152;refine (hV.out _).mono ?_;rintro e w1 ⟨rfl,hb1⟩)
   go_ret
   exact TB.no hx.out (below_then (hb0.out _) hb1)
  ·have hx:=hide (show Filled h l.length↔l.length=1 by simp [Filled,k9,hk])
   have hV:Hid (∀ o,Calls Tryz.prog 152 #[.string h.text] (w.alloc o) fun r w'=>r=.returned (.bool true)∧Below (w.alloc o).heap.size (w.alloc o) w'):=fun o=>by rw [←hk];exact hV.out o
   clear hk
   by_cases h1:l.length=1
   ·rw [h1] at hx ⊢
    have hB1:=hide (bx_new w h (.slice an h.names.length cn) (.slice al 1 cl))
    rw [h1] at hB0
    go_enter Tryz.func201, Tryz.ntmps201
    go_wp2_with (go_at_call 152;refine (hV.out _).mono ?_;rintro e w1 ⟨rfl,hb1⟩;have c8:=one_cell hb1 8)
    go_ret
    exact TB.yes (hx.out.2 (by simp)) (below_then (hb0.out _) hb1)
   ·have h1i:¬ (l.length:Int)=1:=by omega
    have h1d:decide ((l.length:Int)=1)=false:=decide_eq_false h1i
    have h1d':=hide h1d
    have hx:Hid (¬ Filled h l.length):=fun q=>h1 (hx.out.1 q)
    clear h1
    go_enter Tryz.func201, Tryz.ntmps201
    go_wp2_with (go_at_call 152;refine (hV.out _).mono ?_;rintro e w1 ⟨rfl,hb1⟩;have c8:=one_cell hb1 8)
    go_ret
    first|exact TB.no hx.out (below_then (hb0.out _) hb1)|(show TB _ _ (.returned (.bool (decide ((l.length:Int)=1)))) _;rw [h1d'.out];exact TB.no hx.out (below_then (hb0.out _) hb1))
 ·have hx:=hide (show Filled h l.length by simp [Filled,k3,k5,k8,k9])
  go_enter Tryz.func201, Tryz.ntmps201
  go_wp2_with fail
  go_ret
  exact TB.yes hx.out (hb0.out _)
end Go.Proofs.YtgicnopppgnjjaaGreatDoor
namespace Go.Proofs.YtgicnopppgnjjaaGreatDoor
open Go.RowKit
def IsV:(n:Nat)→VT n→Prop
 | 0,_=>False
 | n + 1,x=>Bare x.1 x.2∧Filled x.1 x.2.length∧∀ y∈x.2,IsV n y
theorem mem_take_more {α:Type} {p:α→Prop} {l:List α} {k:Nat} (h:k<l.length) (hp:∀ y∈l.take k,p y) (hq:p l[k]):∀ y∈l.take (k + 1),p y:=by
 rw [List.take_succ_eq_append_getElem h]
 intro y hy
 rcases List.mem_append.1 hy with q|q
 ·exact hp y q
 ·rw [List.mem_singleton.1 q];exact hq
set_option maxHeartbeats 1000000 in
set_option maxRecDepth 100000 in
theorem isValue_any:∀ (n:Nat) (x:VT n) (ns ls:Value) (w:World),RD n w x ns ls→Sz n x→Ut.Gu w →
  Calls Tryz.prog 170 #[.agg (vals (vhd n x) ns ls)] w fun e w'=>TB (IsV n x) w e w':=by
 intro n
 induction n with
 | zero=>intro x;exact Empty.elim x
 | succ n ih =>
  intro x ns ls w hr hz g
  obtain ⟨h,l⟩:=x
  obtain ⟨al,cl,rfl,hc1,hc2⟩:=hr.len
  obtain ⟨an,cn,rfl,hn1,hn2⟩:=hr.1.len
  have ml:maxLen=9223372036854775807:=rfl
  simp only at hc1 hc2 hn1 hn2
  obtain ⟨b1,hb1⟩:=tells (Bare h l)
  obtain ⟨b2,hb2⟩:=tells (Filled h l.length)
  have hA:=hide (fun W (hb:Below w.heap.size w W)=>Calls.tb (isBare_any n h l (.slice an h.names.length cn) (.slice al l.length cl) W (hr.below hb)) hb1)
  have hF:=hide (fun W (hb:Below w.heap.size w W)=>Calls.tb (isFilled_any n h l (.slice an h.names.length cn) (.slice al l.length cl) W (hr.below hb) hz (g.below hb)) hb2)
  have hb0:Hid (∀ o,Below w.heap.size w (w.alloc o)):=fun o=>below_al (Below.refl _ _)
  have hr:=hide hr
  have hz:=hide hz
  have g:=hide g
  have ih':=hide ih
  have hb1':=hide hb1
  have hb2':=hide hb2
  clear ih hb1 hb2
  have hA0:=hide (fun o=>hA.out (w.alloc o) (hb0.out o))
  show Calls _ _ #[.agg #[.int .i64 h.kind,.bool h.flag,.bool h.neg,.string h.dig,.int .i64 h.exp,.int .u64 h.bits,.string h.text,.slice an h.names.length cn,.slice al l.length cl]] _ _
  have hB0:=hide (bx_new w h (.slice an h.names.length cn) (.slice al l.length cl))
  cases b1
  ·go_enter Tryz.func170, Tryz.ntmps170
   go_wp2_with (go_at_call 200;refine (hA0.out _).mono ?_;rintro e w1 ⟨rfl,hb1⟩)
   go_ret
   exact TB.no (fun q=>by have:=hb1'.out.2 q.1;cases this) (below_then (hb0.out _) hb1)
  cases b2
  ·go_enter Tryz.func170, Tryz.ntmps170
   go_wp2_with fail
   refine (hA0.out _).mono ?_
   rintro e w1 ⟨rfl,hb1⟩
   have hw1:=hide (below_then (hb0.out _) hb1)
   obtain ⟨c0,c1,c2,c3,c4,c5,c6,c7,c8⟩:=(hB0.out.below hb1).cells
   have hF1:=hide (hF.out w1 hw1.out)
   go_wp2_with (go_at_call 201;refine hF1.out.mono ?_;rintro e w2 ⟨rfl,hb2⟩)
   go_ret
   exact TB.no (fun q=>by have:=hb2'.out.2 q.2.1;cases this) (below_then hw1.out hb2)
  ·go_enter Tryz.func170, Tryz.ntmps170
   go_wp2_with fail
   refine (hA0.out _).mono ?_
   rintro e w1 ⟨rfl,hb1⟩
   have hw1:=hide (below_then (hb0.out _) hb1)
   have hB1:=hide (hB0.out.below hb1)
   obtain ⟨c0,c1,c2,c3,c4,c5,c6,c7,c8⟩:=hB1.out.cells
   have hF1:=hide (hF.out w1 hw1.out)
   go_wp2_with fail
   refine hF1.out.mono ?_
   rintro e w2 ⟨rfl,hb2⟩
   have hw2:=hide (below_then hw1.out hb2)
   clear c0 c1 c2 c3 c4 c5 c6 c7 c8
   obtain ⟨c0,c1,c2,c3,c4,c5,c6,c7,c8⟩:=(hB1.out.below hb2).cells
   go_wp2_with fail
   go_loopw [16] (fun i w'=>∃ k:Nat,i=.int .i64 k∧k≤l.length∧Hid ((∀ y∈l.take k,IsV n y)∧Below w.heap.size w w')) (fun i _=>l.length - (intOf i).toNat)
   case atStart=>exact ⟨0,rfl,Nat.zero_le _,(fun y hy=>by simp at hy),hw2.out⟩
   case round =>
    clear c0 c1 c2 c3 c4 c5 c6 c7 c8
    obtain ⟨k,rfl,hk,H⟩:=hrel
    by_cases hkl:k<l.length
    ·have hki:(k:Int)<(l.length:Int):=by omega
     have hk63:(k:Int)<9223372036854775807:=by omega
     obtain ⟨b,o,c,he,hbl,hlc,hcm,ns',ls',hrg,hrd⟩:=hr.out.at k hkl
     have he':=Value.slice.inj he
     obtain ⟨rfl,_,rfl⟩:=he'
     clear he
     obtain ⟨q0,q1,q2,q3,q4,q5,q6,q7,q8⟩:=range9 (rangeAt_below hrg H.out.2 hbl)
     have hrd':=hide (hrd.below H.out.2)
     obtain ⟨a1,m1,d1,a2,m2,d2,rfl,rfl⟩:=hrd.shape
     clear hrg hrd
     obtain ⟨bk,hbk⟩:=tells (IsV n l[k])
     have hcall:=hide (fun o=>Calls.tb (ih'.out l[k] (.slice a1 m1 d1) (.slice a2 m2 d2) (wr.alloc o) (hrd'.out.below (below_al (Below.refl _ _))) (hz.out.2.2.2.2 _ (List.getElem_mem _)) (g.out.below (below_al H.out.2))) hbk)
     have hbk':=hide hbk
     clear hbk
     cases bk
     ·go_wp2_with (go_at_call 170;refine (hcall.out _).mono ?_;rintro e w3 ⟨rfl,hb3⟩)
      go_ret
      exact TB.no (fun q=>by have:=hbk'.out.2 (q.2.2 _ (List.getElem_mem _));cases this) (below_then (below_al H.out.2) hb3)
     ·go_wp2_with (go_at_call 170;refine (hcall.out _).mono ?_;rintro e w3 ⟨rfl,hb3⟩)
      exact ⟨⟨k + 1,by go_num,by omega,mem_take_more hkl H.out.1 (hbk'.out.1 (by simp)),below_then (below_al H.out.2) hb3⟩,by simp [intOf];omega⟩
    ·have hki:¬ ((k:Int)<(l.length:Int)):=by omega
     have hE:=H.out.1
     rw [List.take_of_length_le (by omega)] at hE
     have hE':=hide hE
     clear hE
     go_wp2_with fail
     go_ret
     exact TB.yes ⟨hb1'.out.1 (by simp),hb2'.out.1 (by simp),hE'.out⟩ H.out.2
def Sht:(n:Nat)→VT n→Prop
 | 0,_=>False
 | n + 1,x=>(x.1.text.size:Int)≤(bif x.1.kind==9 then 64 else 4096)∧x.2.length≤256∧(∀ s∈x.1.names,s.size≤64)∧∀ y∈x.2,Sht n y
set_option maxHeartbeats 1000000 in
set_option maxRecDepth 100000 in
theorem isShort_any:∀ (n:Nat) (x:VT n) (ns ls:Value) (w:World),RD n w x ns ls→Sz n x →
  Calls Tryz.prog 171 #[.agg (vals (vhd n x) ns ls)] w fun e w'=>TB (Sht n x) w e w':=by
 intro n
 induction n with
 | zero=>intro x;exact Empty.elim x
 | succ n ih =>
  intro x ns ls w hr hz
  obtain ⟨h,l⟩:=x
  obtain ⟨al,cl,rfl,hc1,hc2⟩:=hr.len
  obtain ⟨an,cn,rfl,hn1,hn2⟩:=hr.1.len
  have ml:maxLen=9223372036854775807:=rfl
  simp only at hc1 hc2 hn1 hn2
  have hb0:Hid (∀ o,Below w.heap.size w (w.alloc o)):=fun o=>below_al (Below.refl _ _)
  have hr:=hide hr
  have hz:=hide hz
  have ih':=hide ih
  clear ih
  show Calls _ _ #[.agg #[.int .i64 h.kind,.bool h.flag,.bool h.neg,.string h.dig,.int .i64 h.exp,.int .u64 h.bits,.string h.text,.slice an h.names.length cn,.slice al l.length cl]] _ _
  have hB0:=hide (bx_new w h (.slice an h.names.length cn) (.slice al l.length cl))
  obtain ⟨M,hM⟩:∃ M:Int,(bif h.kind==9 then 64 else 4096)=M:=⟨_,rfl⟩
  by_cases k9:h.kind=9
  ·have hML:M=64:=by rw [←hM];simp [k9]
   by_cases ht:(64:Int)<(h.text.size:Int)
   ·have hx:=hide (show ¬ Sht (n + 1) (h,l) from fun q=>by have h2:(h.text.size:Int)≤(bif h.kind==9 then 64 else 4096):=q.1;rw [hM,hML] at h2;omega)
    rw [k9]
    go_enter Tryz.func171, Tryz.ntmps171
    go_wp2_with fail
    go_ret
    exact TB.no hx.out (hb0.out _)
   by_cases hl:(256:Int)<(l.length:Int)
   ·have hx:=hide (show ¬ Sht (n + 1) (h,l) from fun q=>by have h2:l.length≤256:=q.2.1;omega)
    rw [k9]
    go_enter Tryz.func171, Tryz.ntmps171
    go_wp2_with fail
    go_ret
    exact TB.no hx.out (hb0.out _)
   ·have hx0:=hide (show (h.text.size:Int)≤(bif h.kind==9 then 64 else 4096)∧l.length≤256 from ⟨by rw [hM,hML];omega,by omega⟩)
    rw [k9]
    go_enter Tryz.func171, Tryz.ntmps171
    go_wp2_with fail
    go_loopw [25] (fun i w'=>∃ k:Nat,i=.int .i64 k∧k≤h.names.length∧Hid ((∀ s∈h.names.take k,s.size≤64)∧Below w.heap.size w w'∧w'.cell? ⟨w.heap.size,8,none⟩=some (.slice al l.length cl))) (fun i _=>h.names.length - (intOf i).toNat)
    case atStart=>exact ⟨0,rfl,Nat.zero_le _,(fun y hy=>by simp at hy),hb0.out _,one_cell (Below.refl _ _) 8⟩
    case round =>
     obtain ⟨k,rfl,hk,H⟩:=hrel
     have c8:=H.out.2.2
     by_cases hkl:k<h.names.length
     ·have hki:(k:Int)<(h.names.length:Int):=by omega
      have hk63:(k:Int)<9223372036854775807:=by omega
      obtain ⟨b,o,c,he,hbl,hlc,hcm,hcell⟩:=hr.out.1.at k hkl
      have he':=Value.slice.inj he
      obtain ⟨rfl,_,rfl⟩:=he'
      clear he
      have hcell:=(H.out.2.1.cell (p:=⟨b,o + k,none⟩) hbl).trans hcell
      obtain ⟨s,hs⟩:∃ s,h.names[k]=s:=⟨_,rfl⟩
      simp only at hcell
      rw [hs] at hcell
      have hs':=hide hs
      clear hs
      by_cases h64:(64:Int)<(s.size:Int)
      ·have hno:=hide (show ¬ Sht (n + 1) (h,l) from fun q=>by
        have h2:=q.2.2.1 h.names[k] (List.getElem_mem _)
        rw [hs'.out] at h2
        omega)
       go_wp2_with fail
       go_ret
       exact TB.no hno.out H.out.2.1
      ·have hmo:=hide (mem_take_more (p:=fun s=>s.size≤64) hkl H.out.1 (by rw [hs'.out];omega))
       go_wp2_with fail
       exact ⟨⟨k + 1,by go_num,by omega,hmo.out,H.out.2⟩,by simp [intOf];omega⟩
     ·have hki:¬ ((k:Int)<(h.names.length:Int)):=by omega
      have hE:=H.out.1
      rw [List.take_of_length_le (by omega)] at hE
      have hE':=hide hE
      have hb2:=hide H.out.2.1
      clear hE
      go_wp2_with fail
      go_loopw [36] (fun i w'=>∃ k:Nat,i=.int .i64 k∧k≤l.length∧Hid ((∀ y∈l.take k,Sht n y)∧Below w.heap.size w w')) (fun i _=>l.length - (intOf i).toNat)
      case atStart=>exact ⟨0,rfl,Nat.zero_le _,(fun y hy=>by simp at hy),hb2.out⟩
      case round =>
       clear H c8 hki hk
       obtain ⟨k2,rfl,hk,H⟩:=hrel
       by_cases hkl:k2<l.length
       ·have hki:(k2:Int)<(l.length:Int):=by omega
        have hk63:(k2:Int)<9223372036854775807:=by omega
        obtain ⟨b,o,c,he,hbl,hlc,hcm,ns',ls',hrg,hrd⟩:=hr.out.at k2 hkl
        have he':=Value.slice.inj he
        obtain ⟨rfl,_,rfl⟩:=he'
        clear he
        obtain ⟨q0,q1,q2,q3,q4,q5,q6,q7,q8⟩:=range9 (rangeAt_below hrg H.out.2 hbl)
        have hrd':=hide (hrd.below H.out.2)
        obtain ⟨a1,m1,d1,a2,m2,d2,rfl,rfl⟩:=hrd.shape
        clear hrg hrd
        obtain ⟨bk,hbk⟩:=tells (Sht n l[k2])
        have hcall:=hide (fun o=>Calls.tb (ih'.out l[k2] (.slice a1 m1 d1) (.slice a2 m2 d2) (wr.alloc o) (hrd'.out.below (below_al (Below.refl _ _))) (hz.out.2.2.2.2 _ (List.getElem_mem _))) hbk)
        have hbk':=hide hbk
        clear hbk
        cases bk
        ·go_wp2_with (go_at_call 171;refine (hcall.out _).mono ?_;rintro e w3 ⟨rfl,hb3⟩)
         go_ret
         exact TB.no (fun q=>by have:=hbk'.out.2 (q.2.2.2 _ (List.getElem_mem _));cases this) (below_then (below_al H.out.2) hb3)
        ·go_wp2_with (go_at_call 171;refine (hcall.out _).mono ?_;rintro e w3 ⟨rfl,hb3⟩)
         exact ⟨⟨k2 + 1,by go_num,by omega,mem_take_more hkl H.out.1 (hbk'.out.1 (by simp)),below_then (below_al H.out.2) hb3⟩,by simp [intOf];omega⟩
       ·have hki:¬ ((k2:Int)<(l.length:Int)):=by omega
        have hE2:=H.out.1
        rw [List.take_of_length_le (by omega)] at hE2
        have hE2':=hide hE2
        clear hE2
        go_wp2_with fail
        go_ret
        exact TB.yes ⟨hx0.out.1,hx0.out.2,hE'.out,hE2'.out⟩ H.out.2
  ·have hML:M=4096:=by rw [←hM,show (h.kind==9)=false by rw [beq_eq_false_iff_ne];exact k9];rfl
   by_cases ht:(4096:Int)<(h.text.size:Int)
   ·have hx:=hide (show ¬ Sht (n + 1) (h,l) from fun q=>by have h2:(h.text.size:Int)≤(bif h.kind==9 then 64 else 4096):=q.1;rw [hM,hML] at h2;omega)
    go_enter Tryz.func171, Tryz.ntmps171
    go_wp2_with fail
    go_ret
    exact TB.no hx.out (hb0.out _)
   by_cases hl:(256:Int)<(l.length:Int)
   ·have hx:=hide (show ¬ Sht (n + 1) (h,l) from fun q=>by have h2:l.length≤256:=q.2.1;omega)
    go_enter Tryz.func171, Tryz.ntmps171
    go_wp2_with fail
    go_ret
    exact TB.no hx.out (hb0.out _)
   ·have hx0:=hide (show (h.text.size:Int)≤(bif h.kind==9 then 64 else 4096)∧l.length≤256 from ⟨by rw [hM,hML];omega,by omega⟩)
    go_enter Tryz.func171, Tryz.ntmps171
    go_wp2_with fail
    go_loopw [25] (fun i w'=>∃ k:Nat,i=.int .i64 k∧k≤h.names.length∧Hid ((∀ s∈h.names.take k,s.size≤64)∧Below w.heap.size w w'∧w'.cell? ⟨w.heap.size,8,none⟩=some (.slice al l.length cl))) (fun i _=>h.names.length - (intOf i).toNat)
    case atStart=>exact ⟨0,rfl,Nat.zero_le _,(fun y hy=>by simp at hy),hb0.out _,one_cell (Below.refl _ _) 8⟩
    case round =>
     obtain ⟨k,rfl,hk,H⟩:=hrel
     have c8:=H.out.2.2
     by_cases hkl:k<h.names.length
     ·have hki:(k:Int)<(h.names.length:Int):=by omega
      have hk63:(k:Int)<9223372036854775807:=by omega
      obtain ⟨b,o,c,he,hbl,hlc,hcm,hcell⟩:=hr.out.1.at k hkl
      have he':=Value.slice.inj he
      obtain ⟨rfl,_,rfl⟩:=he'
      clear he
      have hcell:=(H.out.2.1.cell (p:=⟨b,o + k,none⟩) hbl).trans hcell
      obtain ⟨s,hs⟩:∃ s,h.names[k]=s:=⟨_,rfl⟩
      simp only at hcell
      rw [hs] at hcell
      have hs':=hide hs
      clear hs
      by_cases h64:(64:Int)<(s.size:Int)
      ·have hno:=hide (show ¬ Sht (n + 1) (h,l) from fun q=>by
        have h2:=q.2.2.1 h.names[k] (List.getElem_mem _)
        rw [hs'.out] at h2
        omega)
       go_wp2_with fail
       go_ret
       exact TB.no hno.out H.out.2.1
      ·have hmo:=hide (mem_take_more (p:=fun s=>s.size≤64) hkl H.out.1 (by rw [hs'.out];omega))
       go_wp2_with fail
       exact ⟨⟨k + 1,by go_num,by omega,hmo.out,H.out.2⟩,by simp [intOf];omega⟩
     ·have hki:¬ ((k:Int)<(h.names.length:Int)):=by omega
      have hE:=H.out.1
      rw [List.take_of_length_le (by omega)] at hE
      have hE':=hide hE
      have hb2:=hide H.out.2.1
      clear hE
      go_wp2_with fail
      go_loopw [36] (fun i w'=>∃ k:Nat,i=.int .i64 k∧k≤l.length∧Hid ((∀ y∈l.take k,Sht n y)∧Below w.heap.size w w')) (fun i _=>l.length - (intOf i).toNat)
      case atStart=>exact ⟨0,rfl,Nat.zero_le _,(fun y hy=>by simp at hy),hb2.out⟩
      case round =>
       clear H c8 hki hk
       obtain ⟨k2,rfl,hk,H⟩:=hrel
       by_cases hkl:k2<l.length
       ·have hki:(k2:Int)<(l.length:Int):=by omega
        have hk63:(k2:Int)<9223372036854775807:=by omega
        obtain ⟨b,o,c,he,hbl,hlc,hcm,ns',ls',hrg,hrd⟩:=hr.out.at k2 hkl
        have he':=Value.slice.inj he
        obtain ⟨rfl,_,rfl⟩:=he'
        clear he
        obtain ⟨q0,q1,q2,q3,q4,q5,q6,q7,q8⟩:=range9 (rangeAt_below hrg H.out.2 hbl)
        have hrd':=hide (hrd.below H.out.2)
        obtain ⟨a1,m1,d1,a2,m2,d2,rfl,rfl⟩:=hrd.shape
        clear hrg hrd
        obtain ⟨bk,hbk⟩:=tells (Sht n l[k2])
        have hcall:=hide (fun o=>Calls.tb (ih'.out l[k2] (.slice a1 m1 d1) (.slice a2 m2 d2) (wr.alloc o) (hrd'.out.below (below_al (Below.refl _ _))) (hz.out.2.2.2.2 _ (List.getElem_mem _))) hbk)
        have hbk':=hide hbk
        clear hbk
        cases bk
        ·go_wp2_with (go_at_call 171;refine (hcall.out _).mono ?_;rintro e w3 ⟨rfl,hb3⟩)
         go_ret
         exact TB.no (fun q=>by have:=hbk'.out.2 (q.2.2.2 _ (List.getElem_mem _));cases this) (below_then (below_al H.out.2) hb3)
        ·go_wp2_with (go_at_call 171;refine (hcall.out _).mono ?_;rintro e w3 ⟨rfl,hb3⟩)
         exact ⟨⟨k2 + 1,by go_num,by omega,mem_take_more hkl H.out.1 (hbk'.out.1 (by simp)),below_then (below_al H.out.2) hb3⟩,by simp [intOf];omega⟩
       ·have hki:¬ ((k2:Int)<(l.length:Int)):=by omega
        have hE2:=H.out.1
        rw [List.take_of_length_le (by omega)] at hE2
        have hE2':=hide hE2
        clear hE2
        go_wp2_with fail
        go_ret
        exact TB.yes ⟨hx0.out.1,hx0.out.2,hE'.out,hE2'.out⟩ H.out.2
end Go.Proofs.YtgicnopppgnjjaaGreatDoor
namespace Go.Proofs.YtgicnopppgnjjaaGreatDoor
open Go.RowKit
def Win (n:Nat) (x:VT n):Prop:=Sht n x∧dep n x≤16∧siz n x≤4096
def Chk (n:Nat) (x:VT n) (e:Int):Prop:=(e=40∧¬ IsV n x)∨(e=2∧IsV n x∧¬ Win n x)∨(e=0∧IsV n x∧Win n x)
theorem chk_ex (n:Nat) (x:VT n):∃ e,Chk n x e:=by
 by_cases h:IsV n x
 ·by_cases k:Win n x
  ·exact ⟨0,Or.inr (Or.inr ⟨rfl,h,k⟩)⟩
  ·exact ⟨2,Or.inr (Or.inl ⟨rfl,h,k⟩)⟩
 ·exact ⟨40,Or.inl ⟨rfl,h⟩⟩
structure Rdy (n:Nat) (w:World) (x:VT n) (ns ls:Value):Prop where
 rd:RD n w x ns ls
 sz:Sz n x
 le:siz n x≤200000
set_option maxHeartbeats 1000000 in
set_option maxRecDepth 100000 in
theorem check_any (n:Nat) (x:VT n) (ns ls:Value) (w:World) (hr:Rdy n w x ns ls) (g:Ut.Gu w) (E:Int) (hE:Chk n x E) :
  Calls Tryz.prog 134 #[.agg (vals (vhd n x) ns ls)] w fun e w'=>e=.returned (.int .i64 E)∧Below w.heap.size w w':=by
 obtain ⟨a1,m1,d1,a2,m2,d2,rfl,rfl⟩:=hr.rd.shape
 obtain ⟨h,hh⟩:∃ h,vhd n x=h:=⟨_,rfl⟩
 obtain ⟨b1,hb1⟩:=tells (IsV n x)
 obtain ⟨b2,hb2⟩:=tells (Sht n x)
 have hV:=hide (fun o=>Calls.tb (isValue_any n x (.slice a1 m1 d1) (.slice a2 m2 d2) (w.alloc o) (hr.rd.below (below_al (Below.refl _ _))) hr.sz (g.below (below_al (Below.refl _ _)))) hb1)
 have hS:=hide (fun W (hb:Below w.heap.size w W)=>Calls.tb (isShort_any n x (.slice a1 m1 d1) (.slice a2 m2 d2) W (hr.rd.below hb) hr.sz) hb2)
 have hD:=hide (fun W (hb:Below w.heap.size w W)=>depth_any n x (.slice a1 m1 d1) (.slice a2 m2 d2) W (hr.rd.below hb) hr.le)
 have hZ:=hide (fun W (hb:Below w.heap.size w W)=>size_any n x (.slice a1 m1 d1) (.slice a2 m2 d2) W (hr.rd.below hb) hr.le)
 have hb0:Hid (∀ o,Below w.heap.size w (w.alloc o)):=fun o=>below_al (Below.refl _ _)
 obtain ⟨D,hDD⟩:∃ D,dep n x=D:=⟨_,rfl⟩
 obtain ⟨Z,hZZ⟩:∃ Z,siz n x=Z:=⟨_,rfl⟩
 have hE':=hide (show (E=40∧b1=false)∨(E=2∧b1=true∧¬ (b2=true∧D≤16∧Z≤4096))∨(E=0∧b1=true∧b2=true∧D≤16∧Z≤4096) by
  unfold Chk Win at hE
  rw [hDD,hZZ,←hb1,←hb2] at hE
  simpa using hE)
 rw [hh] at hV hS hD hZ ⊢
 rw [hDD] at hD
 rw [hZZ] at hZ
 have hB0:=hide (bx_new w h (.slice a1 m1 d1) (.slice a2 m2 d2))
 clear hr g hh hDD hZZ hE hb1 hb2
 show Calls _ _ #[.agg #[.int .i64 h.kind,.bool h.flag,.bool h.neg,.string h.dig,.int .i64 h.exp,.int .u64 h.bits,.string h.text,.slice a1 m1 d1,.slice a2 m2 d2]] _ _
 cases b1
 ·have e0:E=40:=by rcases hE'.out with ⟨q,_⟩|⟨_,q,_⟩|⟨_,q,_⟩;exact q;cases q;cases q
  subst e0
  go_enter Tryz.func134, Tryz.ntmps134
  go_wp2_with (go_at_call 170;refine (hV.out _).mono ?_;rintro e w1 ⟨rfl,hb1⟩)
  go_ret
  exact ⟨rfl,below_then (hb0.out _) hb1⟩
 ·have hE2:=hide (show (E=2∧¬ (b2=true∧D≤16∧Z≤4096))∨(E=0∧b2=true∧D≤16∧Z≤4096) by
   rcases hE'.out with ⟨_,q⟩|⟨q,_,r⟩|⟨q,_,r⟩
   ·cases q
   ·exact Or.inl ⟨q,r⟩
   ·exact Or.inr ⟨q,r⟩)
  clear hE'
  go_enter Tryz.func134, Tryz.ntmps134
  go_wp2_with fail
  refine (hV.out _).mono ?_
  rintro e w1 ⟨rfl,hb1⟩
  have hw1:=hide (below_then (hb0.out _) hb1)
  have hB1:=hide (hB0.out.below hb1)
  obtain ⟨c0,c1,c2,c3,c4,c5,c6,c7,c8⟩:=hB1.out.cells
  have hS1:=hide (hS.out w1 hw1.out)
  cases b2
  ·have e0:E=2:=by rcases hE2.out with ⟨q,_⟩|⟨_,q,_⟩;exact q;cases q
   subst e0
   go_wp2_with (go_at_call 171;refine hS1.out.mono ?_;rintro e w2 ⟨rfl,hb2⟩)
   go_ret
   exact ⟨rfl,below_then hw1.out hb2⟩
  ·have hE3:=hide (show (E=2∧¬ (D≤16∧Z≤4096))∨(E=0∧D≤16∧Z≤4096) by
    rcases hE2.out with ⟨q,r⟩|⟨q,_,r⟩
    ·exact Or.inl ⟨q,fun s=>r ⟨rfl,s⟩⟩
    ·exact Or.inr ⟨q,r⟩)
   clear hE2
   go_wp2_with fail
   refine hS1.out.mono ?_
   rintro e w2 ⟨rfl,hb2⟩
   have hw2:=hide (below_then hw1.out hb2)
   have hB2:=hide (hB1.out.below hb2)
   clear c0 c1 c2 c3 c4 c5 c6 c7 c8
   obtain ⟨c0,c1,c2,c3,c4,c5,c6,c7,c8⟩:=hB2.out.cells
   have hD1:=hide (hD.out w2 hw2.out)
   by_cases hd:(16:Int)<(D:Int)
   ·have e0:E=2:=by rcases hE3.out with ⟨q,_⟩|⟨_,q,_⟩;exact q;omega
    subst e0
    go_wp2_with (go_at_call 172;refine hD1.out.mono ?_;rintro e w3 ⟨rfl,hb3⟩)
    go_ret
    exact ⟨rfl,below_then hw2.out hb3⟩
   ·go_wp2_with fail
    refine hD1.out.mono ?_
    rintro e w3 ⟨rfl,hb3⟩
    have hw3:=hide (below_then hw2.out hb3)
    have hB3:=hide (hB2.out.below hb3)
    clear c0 c1 c2 c3 c4 c5 c6 c7 c8
    obtain ⟨c0,c1,c2,c3,c4,c5,c6,c7,c8⟩:=hB3.out.cells
    have hZ1:=hide (hZ.out w3 hw3.out)
    by_cases hz:(4096:Int)<(Z:Int)
    ·have e0:E=2:=by rcases hE3.out with ⟨q,_⟩|⟨_,_,q⟩;exact q;omega
     subst e0
     go_wp2_with (go_at_call 173;refine hZ1.out.mono ?_;rintro e w4 ⟨rfl,hb4⟩)
     go_ret
     exact ⟨rfl,below_then hw3.out hb4⟩
    ·have e0:E=0:=by
      rcases hE3.out with ⟨_,q⟩|⟨q,_⟩
      ·exact absurd ⟨by omega,by omega⟩ q
      ·exact q
     subst e0
     go_wp2_with (go_at_call 173;refine hZ1.out.mono ?_;rintro e w4 ⟨rfl,hb4⟩)
     go_ret
     exact ⟨rfl,below_then hw3.out hb4⟩
end Go.Proofs.YtgicnopppgnjjaaGreatDoor
