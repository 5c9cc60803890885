/- Merged by program: WeNames, HcPlaces, HdPlain, WgFill, WhValue, HeCheck, WiCheck, HfCheck, HhPart. -/
import Derived.Test.YtcnfchblfcfimaaGreatDoorZr10
import Derived.Test.YtcnfchblfcfimaaGreatDoorUZr07
import Derived.Maps.OwnSet
import Derived.StringKeys
import Derived.Test.YtcnfchblfcfimaaGreatDoorZr06
import Derived.Test.YtcnfchblfcfimaaGreatDoorZr00
set_option linter.unusedSimpArgs false
set_option linter.unusedVariables false
namespace Go.Proofs.YtcnfchblfcfimaaGreatDoor
open Go.RowKit Go.Maps
def okT (s:ByteArray):Bool:=Ut.okT (Ut.bl s)
def Nms (l:List ByteArray):Prop:=(∀ s∈l,okT s=true)∧l.Nodup
theorem keyS:Keyed Tryz.prog 9:=string_keyed Tryz.underlying9
theorem zeroU (w:World):(zeroValue 204).run Tryz.prog w=.ok (.agg #[]) w:=by kernel_rfl
def Sn (l:List ByteArray) (k:Nat):DataW Unit:=setOf (.agg []) ((l.take k).map fun s=>Lit.string s.data.toList)
theorem Sn_zero (l:List ByteArray):Sn l 0=.map []:=by simp [Sn,setOf]
theorem Sn_succ (l:List ByteArray) (k:Nat) (h:k<l.length):Sn l (k + 1)=(Sn l k).put (.string l[k].data.toList) (.agg []):=by
 unfold Sn
 rw [List.take_succ_eq_append_getElem h,List.map_append,List.map_singleton,setOf_snoc]
theorem has_Sn (l:List ByteArray) (k:Nat) (s:ByteArray):Maps.has (Sn l k) (.string s.data.toList)=true↔s∈l.take k:=by
 unfold Sn
 rw [has_setOf _ _ _ (fun y hy=>by obtain ⟨_,_,rfl⟩:=List.mem_map.1 hy;trivial),List.any_map]
 rw [List.any_eq_true]
 constructor
 ·rintro ⟨y,hy,e⟩
  have:y.data.toList=s.data.toList:=by simpa [Lit.sameKey] using e
  have:y=s:=ByteArray.ext (Array.toList_inj.1 this)
  rw [←this];exact hy
 ·intro h
  exact ⟨s,h,by simp [Lit.sameKey]⟩
theorem not_nodup {l:List ByteArray} {k:Nat} (h:k<l.length) (hm:l[k]∈l.take k):¬ l.Nodup:=by
 intro hn
 obtain ⟨j,hj,e⟩:=List.mem_iff_getElem.1 hm
 rw [List.length_take] at hj
 rw [List.getElem_take] at e
 have:=(List.getElem_inj hn).1 e
 omega
theorem nms_more {l:List ByteArray} {k:Nat} (h:k<l.length) (hn:Nms (l.take k)) (hm:¬ l[k]∈l.take k) (hok:okT l[k]=true):Nms (l.take (k + 1)):=by
 rw [List.take_succ_eq_append_getElem h]
 refine ⟨fun s hs=>?_,?_⟩
 ·rcases List.mem_append.1 hs with q|q
  ·exact hn.1 s q
  ·rw [List.mem_singleton.1 q];exact hok
 ·rw [List.nodup_append]
  refine ⟨hn.2,by simp,fun a ha b hb=>?_⟩
  rw [List.mem_singleton.1 hb]
  intro e
  rw [e] at ha
  exact hm ha
theorem ownsMap_below {w W:World} {k:TypeId} {b n:Nat} {D:DataW Unit} {R:Value→Option (DataW Unit×List MemPlace)} (h:w.ownsMap Tryz.prog k R b n D) (hb:Below w.heap.size w W):W.ownsMap Tryz.prog k R b n D:=by
 obtain ⟨es,clock,h1,F,hs,rfl⟩:=h
 have hlt:b<w.heap.size:=by
  by_cases hlt:b<w.heap.size
  ·exact hlt
  ·have hn:w.heap[b]?=none:=by simp;omega
   rw [hn] at h1;cases h1
 exact ⟨es,clock,(hb.block b hlt).trans h1,F,hs,rfl⟩
set_option maxHeartbeats 1000000 in
set_option maxRecDepth 100000 in
theorem areNames_any (v:Value) (l:List ByteArray) (w:World) (hv:NL w v l) (g:Ut.Gu w) (hz:l.length≤281474976710656∧∀ s∈l,s.size≤281474976710656) :
  Calls Tryz.prog 199 #[v] w fun e w'=>TB (Nms l) w e w':=by
 have hmm:=@run_makeMap Tryz.prog
 obtain ⟨av,cv,rfl,hv1,hv2⟩:=hv.len
 have hv:=hide hv
 have g:=hide g
 have hz:=hide hz
 have ml:maxLen=9223372036854775807:=rfl
 go_enter Tryz.func199, Tryz.ntmps199
 go_wp2_with fail
 go_loopw [11] (fun i wr=>∃ k:Nat,i=.int .i64 k∧k≤l.length∧Hid (Nms (l.take k)∧wr.ownsMap Tryz.prog 9 (unitElem (H:=Unit)) w.heap.size k (Sn l k)∧Below w.heap.size w wr∧w.heap.size<wr.heap.size)) (fun i _=>l.length - (intOf i).toNat)
 case atStart=>exact ⟨0,rfl,Nat.zero_le _,⟨(fun s hs=>by simp at hs),by simp⟩,by rw [Sn_zero];exact World.ownsMap_made _ _ _ _,below_al (Below.refl _ _),by simp⟩
 case round =>
  obtain ⟨k,rfl,hk,H⟩:=hrel
  by_cases hkl:k<l.length
  ·have hki:(k:Int)<(l.length:Int):=by omega
   have hk63:(k:Int)<9223372036854775807:=by omega
   obtain ⟨b,o,c,he,hbl,hlc,hcm,hcell⟩:=hv.out.at k hkl
   have he':=Value.slice.inj he
   obtain ⟨rfl,_,rfl⟩:=he'
   clear he
   have hcell:=(H.out.2.2.1.cell (p:=⟨b,o + k,none⟩) hbl).trans hcell
   obtain ⟨s,hs⟩:∃ s,l[k]=s:=⟨_,rfl⟩
   have hss:s.size≤281474976710656:=by rw [←hs];exact hz.out.2 _ (List.getElem_mem _)
   have hkey:keyOf Tryz.prog 9 (.string s)=some (.string s.data.toList):=WideMaps.keyOf_string_mk Tryz.underlying9 (by omega)
   have hkey:=hide hkey
   have hval:=hide (fun o=>Ut.valid_any s (wr.alloc o) (g.out.below (below_al H.out.2.2.1)) (by omega))
   have hsn:=hide (Sn_succ l k hkl)
   have hss':=hide hss
   rw [hs] at hcell hsn
   have hs':=hide hs
   clear hs hss
   by_cases hm:s∈l.take k
   ·have hhas:=(has_Sn l k s).2 hm
    have hno:¬ Nms l:=fun q=>not_nodup hkl (by rw [hs'.out];exact hm) q.2
    have hno':=hide hno
    clear hno hm
    go_wp2_with (at_lookup;refine wpList_lookup_own_unit _ rfl _ _ 203 rfl 9 204 keyS Tryz.underlying203 (zeroU _) w.heap.size k _ rfl H.out.2.1 _ _ rfl hkey.out ?_;rw [hhas])
    go_ret
    exact TB.no hno'.out (below_al H.out.2.2.1)
   ·have hhas:Maps.has (Sn l k) (.string s.data.toList)=false:=by
     cases hq:Maps.has (Sn l k) (.string s.data.toList)
     ·rfl
     ·exact absurd ((has_Sn l k s).1 hq) hm
    cases hok:okT s
    ·have hval:=hide (fun o=>show Calls Tryz.prog 129 #[.string s] (wr.alloc o) fun r w'=>r=.returned (.bool false)∧Below (wr.alloc o).heap.size (wr.alloc o) w' from by rw [←hok];exact hval.out o)
     have hno:¬ Nms l:=fun q=>by
      have:=q.1 l[k] (List.getElem_mem _)
      rw [hs'.out,hok] at this
      cases this
     have hno':=hide hno
     clear hno hm hok
     go_wp2_with (first|(at_lookup;refine wpList_lookup_own_unit _ rfl _ _ 203 rfl 9 204 keyS Tryz.underlying203 (zeroU _) w.heap.size k _ rfl H.out.2.1 _ _ rfl hkey.out ?_;rw [hhas])|(go_at_call 129;refine (hval.out _).mono ?_;rintro e w1 ⟨rfl,hb1⟩))
     go_ret
     exact TB.no hno'.out (below_then (below_al H.out.2.2.1) hb1)
    ·have hval:=hide (fun o=>show Calls Tryz.prog 129 #[.string s] (wr.alloc o) fun r w'=>r=.returned (.bool true)∧Below (wr.alloc o).heap.size (wr.alloc o) w' from by rw [←hok];exact hval.out o)
     have hm':=hide (nms_more hkl H.out.1 (by rw [hs'.out];exact hm) (by rw [hs'.out];exact hok))
     clear hm hok
     have hkm:k<maxLen:=by omega
     go_wp2_with (first|(at_lookup;refine wpList_lookup_own_unit _ rfl _ _ 203 rfl 9 204 keyS Tryz.underlying203 (zeroU _) w.heap.size k _ rfl H.out.2.1 _ _ rfl hkey.out ?_;rw [hhas])|(go_at_call 129;refine (hval.out _).mono ?_;rintro e w1 ⟨rfl,hb1⟩;have hown1:=ownsMap_below (World.ownsMap.alloc H.out.2.1 _) hb1)|(at_mapUpdate;refine wpList_mapUpdate_own _ rfl _ _ _ 203 rfl 9 204 keyS Tryz.underlying203 (unitElem (H:=Unit)) w.heap.size k _ rfl hown1 hkm _ _ _ rfl rfl hkey.out _ [] unitElem_mk ?_;intro w2 hown2 hgrow2))
     refine ⟨⟨k + 1,by go_num,by omega,hm'.out,by rw [hsn.out];exact hown2,?_,?_⟩,by simp [intOf];omega⟩
     ·exact (below_then (below_al H.out.2.2.1) hb1).grown hgrow2 (by have h1:=hb1.size;have h3:=H.out.2.2.2;simp at h1;omega) (fun j hj=>by cases hj;exact Nat.le_refl _)
     ·have h1:=hb1.size
      have h2:=hgrow2.size
      have h3:=H.out.2.2.2
      simp at h1
      omega
  ·have hki:¬ ((k:Int)<(l.length:Int)):=by omega
   have hE:=H.out.1
   rw [List.take_of_length_le (by omega)] at hE
   have hE':=hide hE
   clear hE
   go_wp2_with fail
   go_ret
   exact TB.yes hE'.out H.out.2.2.1
end Go.Proofs.YtcnfchblfcfimaaGreatDoor
namespace Go.Proofs.YtcnfchblfcfimaaGreatDoor
open Go.RowKit Go.Maps
def ks (s:ByteArray):Lit:=.string s.data.toList
theorem ks_inj {s t:ByteArray} (h:ks s=ks t):s=t:=by
 have:s.data.toList=t.data.toList:=by simpa [ks] using h
 exact ByteArray.ext (Array.toList_inj.1 this)
theorem ks_key (s:ByteArray):WideAt.IsKeyLit (ks s):=trivial
def Pl (l:List ByteArray):Nat→DataW Unit
 | 0=>.map []
 | k + 1=>(Pl l k).put (ks (l[k]?.getD ⟨#[]⟩)) (.lit (.int .i64 k))
theorem Pl_succ (l:List ByteArray) (k:Nat) (h:k<l.length):Pl l (k + 1)=(Pl l k).put (ks l[k]) (.lit (.int .i64 k)):=by
 simp only [Pl,List.getElem?_eq_getElem h,Option.getD_some]
theorem Pl_tidy (l:List ByteArray):∀ k,Tidy (Pl l k)
 | 0=>tidy_empty
 | k + 1=>(Pl_tidy l k).put (ks_key _) _
theorem has_Pl (l:List ByteArray) (s:ByteArray):∀ k,k≤l.length→(Maps.has (Pl l k) (ks s)=true↔s∈l.take k)
 | 0,_=>by simp [Pl,Maps.has]
 | k + 1,h=>by
  rw [Pl_succ l k (by omega),List.take_succ_eq_append_getElem (by omega),List.mem_append,List.mem_singleton,←has_Pl l s k (by omega)]
  by_cases e:s=l[k]
  ·subst e
   simp [has_put_same (Pl_tidy l k).isMap (ks_key _)]
  ·rw [has_put_other (fun q=>e (ks_inj q))]
   simp [e]
theorem Pl_size_le (l:List ByteArray):∀ k,Maps.size (Pl l k)≤k
 | 0=>by simp [Pl,Maps.size]
 | k + 1=>by
  have:=Pl_size_le l k
  simp only [Pl]
  rw [size_put (Pl_tidy l k)]
  split <;> omega
theorem Pl_size (l:List ByteArray):∀ k,k≤l.length→(Maps.size (Pl l k)=k↔(l.take k).Nodup)
 | 0,_=>by simp [Pl,Maps.size]
 | k + 1,h=>by
  have h1:=Pl_size l k (by omega)
  have h2:=Pl_size_le l k
  rw [Pl_succ l k (by omega),size_put (Pl_tidy l k),List.take_succ_eq_append_getElem (by omega),List.nodup_append]
  by_cases hm:l[k]∈l.take k
  ·rw [if_pos ((has_Pl l _ k (by omega)).2 hm)]
   constructor
   ·intro q;omega
   ·rintro ⟨_,_,q⟩;exact absurd rfl (q _ hm _ (List.mem_singleton.2 rfl))
  ·rw [if_neg (fun q=>hm ((has_Pl l _ k (by omega)).1 q))]
   constructor
   ·intro q
    refine ⟨h1.1 (by omega),by simp,fun a ha b hb=>?_⟩
    rw [List.mem_singleton.1 hb]
    intro e
    rw [e] at ha
    exact hm ha
   ·rintro ⟨q,_,_⟩
    have:=h1.2 q
    omega
theorem run_makeMap_hint (w:World) (k:Nat):(Instr.makeMap 194 (some (.int .i64 k))).run Tryz.prog w=.ok (.map (some w.heap.size)) (w.alloc (.map #[] 0)):=by
 simp [Instr.makeMap,run_underlying Tryz.underlying194,asInt,asIntOf,Result.andThen]
def MP (W:World) (b:Nat) (l:List ByteArray):Prop:=W.ownsMap Tryz.prog 9 (plainElem (H:=Unit) Tryz.prog 3) b l.length (Pl l l.length)
theorem u3:Tryz.prog.underlying 3=some (.int .i64):=Tryz.underlying3
theorem wfk (k:Nat) (h:k≤281474976710656):(Lit.int .i64 (k:Int)).wf=true:=by
 simp [Lit.wf]
 have:IntKind.i64.min=-9223372036854775808:=by decide
 rw [this]
 omega
set_option maxHeartbeats 1000000 in
set_option maxRecDepth 100000 in
theorem places_any (v:Value) (l:List ByteArray) (w:World) (hv:NL w v l) (hz:l.length≤281474976710656∧∀ s∈l,s.size≤281474976710656) :
  Calls Tryz.prog 205 #[v] w fun e w'=>e=.returned (.map (some w.heap.size))∧Hid (MP w' w.heap.size l)∧Below w.heap.size w w':=by
 have hmm:=fun (w:World)=>run_makeMap_hint w l.length
 obtain ⟨av,cv,rfl,hv1,hv2⟩:=hv.len
 have hv:=hide hv
 have hz:=hide hz
 have ml:maxLen=9223372036854775807:=rfl
 go_enter Tryz.func205, Tryz.ntmps205
 go_wp2_with fail
 go_loopw [11] (fun i wr=>∃ k:Nat,i=.int .i64 k∧k≤l.length∧Hid (wr.ownsMap Tryz.prog 9 (plainElem (H:=Unit) Tryz.prog 3) w.heap.size k (Pl l k)∧Below w.heap.size w wr)) (fun i _=>l.length - (intOf i).toNat)
 case atStart=>exact ⟨0,rfl,Nat.zero_le _,World.ownsMap_made _ _ _ _,below_al (Below.refl _ _)⟩
 case round =>
  obtain ⟨k,rfl,hk,H⟩:=hrel
  by_cases hkl:k<l.length
  ·have hki:(k:Int)<(l.length:Int):=by omega
   have hk63:(k:Int)<9223372036854775807:=by omega
   obtain ⟨b,o,c,he,hbl,hlc,hcm,hcell⟩:=hv.out.at k hkl
   have he':=Value.slice.inj he
   obtain ⟨rfl,_,rfl⟩:=he'
   clear he
   have hcell:=(H.out.2.cell (p:=⟨b,o + k,none⟩) hbl).trans hcell
   obtain ⟨s,hs⟩:∃ s,l[k]=s:=⟨_,rfl⟩
   have hss:s.size≤281474976710656:=by rw [←hs];exact hz.out.2 _ (List.getElem_mem _)
   have hkey:keyOf Tryz.prog 9 (.string s)=some (ks s):=WideMaps.keyOf_string_mk Tryz.underlying9 (by omega)
   have hkey:=hide hkey
   have hsn:=hide (Pl_succ l k hkl)
   rw [hs] at hcell hsn
   have hkm:k<maxLen:=by omega
   have hwf:=hide (wfk k (by have:=hz.out.1;omega))
   clear hs hss
   go_wp2_with (at_mapUpdate;refine wpList_mapUpdate_own _ rfl _ _ _ 194 rfl 9 3 keyS Tryz.underlying194 (plainElem (H:=Unit) Tryz.prog 3) w.heap.size k _ rfl H.out.1 hkm _ _ _ rfl rfl hkey.out _ [] (plainElem_int u3 hwf.out) ?_;intro w2 hown2 hgrow2)
   refine ⟨⟨k + 1,by go_num,by omega,by rw [hsn.out];exact hown2,?_⟩,by simp [intOf];omega⟩
   exact H.out.2.grown hgrow2 H.out.2.size (fun j hj=>by cases hj;exact Nat.le_refl _)
  ·have hki:¬ ((k:Int)<(l.length:Int)):=by omega
   have hE:=H.out
   have hkk:k=l.length:=by omega
   rw [hkk] at hE
   have hE':=hide hE
   clear hE hkk
   go_wp2_with fail
   go_ret
   exact ⟨rfl,hE'.out.1,hE'.out.2⟩
set_option maxHeartbeats 1000000 in
set_option maxRecDepth 100000 in
theorem tareNames_any (v:Value) (l:List ByteArray) (w:World) (hv:NL w v l) (g:Ut.Gu w) (hz:l.length≤281474976710656∧∀ s∈l,s.size≤281474976710656) :
  Calls Tryz.prog 172 #[v] w fun e w'=>TB (Nms l) w e w':=by
 obtain ⟨av,cv,rfl,hv1,hv2⟩:=hv.len
 have hv:=hide hv
 have g:=hide g
 have hz:=hide hz
 have ml:maxLen=9223372036854775807:=rfl
 go_enter Tryz.func172, Tryz.ntmps172
 go_wp2_with fail
 go_loopw [7] (fun i wr=>∃ k:Nat,i=.int .i64 k∧k≤l.length∧Hid ((∀ s∈l.take k,okT s=true)∧Below w.heap.size w wr)) (fun i _=>l.length - (intOf i).toNat)
 case atStart=>exact ⟨0,rfl,Nat.zero_le _,(fun s hs=>by simp at hs),Below.refl _ _⟩
 case round =>
  obtain ⟨k,rfl,hk,H⟩:=hrel
  by_cases hkl:k<l.length
  ·have hki:(k:Int)<(l.length:Int):=by omega
   have hk63:(k:Int)<9223372036854775807:=by omega
   obtain ⟨b,o,c,he,hbl,hlc,hcm,hcell⟩:=hv.out.at k hkl
   have he':=Value.slice.inj he
   obtain ⟨rfl,_,rfl⟩:=he'
   clear he
   have hcell:=(H.out.2.cell (p:=⟨b,o + k,none⟩) hbl).trans hcell
   obtain ⟨s,hs⟩:∃ s,l[k]=s:=⟨_,rfl⟩
   have hss:s.size≤281474976710656:=by rw [←hs];exact hz.out.2 _ (List.getElem_mem _)
   have hval:=hide (Ut.valid_any s wr (g.out.below H.out.2) (by omega))
   rw [hs] at hcell
   have hs':=hide hs
   clear hs hss
   cases hok:okT s
   ·have hval:=hide (show Calls Tryz.prog 129 #[.string s] wr fun r w'=>r=.returned (.bool false)∧Below wr.heap.size wr w' from by rw [←hok];exact hval.out)
    have hno:¬ Nms l:=fun q=>by
     have:=q.1 l[k] (List.getElem_mem _)
     rw [hs'.out,hok] at this
     cases this
    have hno':=hide hno
    clear hno hok
    go_wp2_with (go_at_call 129;refine hval.out.mono ?_;rintro e w1 ⟨rfl,hb1⟩)
    go_ret
    exact TB.no hno'.out (below_then H.out.2 hb1)
   ·have hval:=hide (show Calls Tryz.prog 129 #[.string s] wr fun r w'=>r=.returned (.bool true)∧Below wr.heap.size wr w' from by rw [←hok];exact hval.out)
    have hok':=hide hok
    clear hok
    go_wp2_with (go_at_call 129;refine hval.out.mono ?_;rintro e w1 ⟨rfl,hb1⟩)
    refine ⟨⟨k + 1,by go_num,by omega,?_,below_then H.out.2 hb1⟩,by simp [intOf];omega⟩
    intro u hu
    rw [List.take_succ_eq_append_getElem hkl] at hu
    rcases List.mem_append.1 hu with q|q
    ·exact H.out.1 u q
    ·rw [List.mem_singleton.1 q,hs'.out];exact hok'.out
  ·have hki:¬ ((k:Int)<(l.length:Int)):=by omega
   have hE:=H.out.1
   rw [List.take_of_length_le (by omega)] at hE
   have hE':=hide hE
   clear hE
   have hpl:=hide (places_any (.slice av l.length cv) l wr (hv.out.below H.out.2) hz.out)
   have hsz:=Pl_size l l.length (Nat.le_refl _)
   have hsl:=Pl_size_le l l.length
   rw [List.take_of_length_le (Nat.le_refl _)] at hsz
   obtain ⟨Z,hZ⟩:∃ Z,Maps.size (Pl l l.length)=Z:=⟨_,rfl⟩
   rw [hZ] at hsz hsl
   have hsz:=hide hsz
   have hZ:=hide hZ
   have hsl:=hide hsl
   by_cases hq:Z=l.length
   ·have hqi:(Z:Int)=(l.length:Int):=by omega
    go_wp2_with (first|(go_at_call 205;refine hpl.out.mono ?_;rintro e w1 ⟨rfl,hm1,hb1⟩)|(at_len;refine wpList_len_own _ rfl _ 194 rfl 9 3 Tryz.underlying194 _ wr.heap.size l.length (Pl l l.length) rfl hm1.out ?_;rw [hZ.out]))
    go_ret
    exact TB.yes ⟨hE'.out,hsz.out.1 hq⟩ (below_then H.out.2 hb1)
   ·have hqi:¬ (Z:Int)=(l.length:Int):=by omega
    go_wp2_with (first|(go_at_call 205;refine hpl.out.mono ?_;rintro e w1 ⟨rfl,hm1,hb1⟩)|(at_len;refine wpList_len_own _ rfl _ 194 rfl 9 3 Tryz.underlying194 _ wr.heap.size l.length (Pl l l.length) rfl hm1.out ?_;rw [hZ.out]))
    go_ret
    show TB _ _ (.returned (.bool ((Z:Int)==(l.length:Int)))) _
    rw [beq_eq_false_iff_ne.2 hqi]
    exact TB.no (fun (q:Nms l)=>hq (hsz.out.2 q.2)) (below_then H.out.2 hb1)
end Go.Proofs.YtcnfchblfcfimaaGreatDoor
namespace Go.Proofs.YtcnfchblfcfimaaGreatDoor
open Go.RowKit Go.Maps
def pkC:Array Value:=#[.int .i64 1,.int .i64 0,.int .i64 2,.int .i64 1,.int .i64 3,.int .i64 2,.int .i64 4,.int .i64 3,.int .i64 5,.int .i64 3,.int .i64 6,.int .i64 4,.int .i64 7,.int .i64 5,.int .i64 8,.int .i64 6]
def Gt (w:World):Prop:=∃ t fr,w.heap[5]?=some (.cells pkC t fr)
theorem Gt.lt {w:World} (g:Gt w):5<w.heap.size:=by
 obtain ⟨t,fr,h⟩:=g
 exact (Array.getElem?_eq_some_iff.1 h).1
theorem Gt.below {w W:World} (g:Gt w) (h:Below w.heap.size w W):Gt W:=by
 obtain ⟨t,fr,hc⟩:=g
 exact ⟨t,fr,(h.block _ (Array.getElem?_eq_some_iff.1 hc).1).trans hc⟩
def pk (k:Int):Int:=if k=1 then 0 else if k=2 then 1 else if k=3 then 2 else if k=4 then 3 else if k=5 then 3 else if k=6 then 4 else if k=7 then 5 else if k=8 then 6 else 0
def plR (k:Int):Array Value:=if 1≤k∧k≤8 then #[.agg #[.int .i64 k,.int .i64 (pk k)],.bool true] else #[.agg #[.int .i64 0,.int .i64 0],.bool false]
theorem ix_pk (j:Nat) (hj:j<8) (w:World):(Instr.index 196 (.agg pkC) (.int .i64 j)).run Tryz.prog w=.ok (.agg #[.int .i64 ((j:Int) + 1),.int .i64 (pk ((j:Int) + 1))]) w:=by
 match j,hj with
 | 0,_=>exact (show (Instr.index 196 (.agg pkC) (.int .i64 0)).run Tryz.prog w=.ok (.agg #[.int .i64 1,.int .i64 0]) w by kernel_rfl)
 | 1,_=>exact (show (Instr.index 196 (.agg pkC) (.int .i64 1)).run Tryz.prog w=.ok (.agg #[.int .i64 2,.int .i64 1]) w by kernel_rfl)
 | 2,_=>exact (show (Instr.index 196 (.agg pkC) (.int .i64 2)).run Tryz.prog w=.ok (.agg #[.int .i64 3,.int .i64 2]) w by kernel_rfl)
 | 3,_=>exact (show (Instr.index 196 (.agg pkC) (.int .i64 3)).run Tryz.prog w=.ok (.agg #[.int .i64 4,.int .i64 3]) w by kernel_rfl)
 | 4,_=>exact (show (Instr.index 196 (.agg pkC) (.int .i64 4)).run Tryz.prog w=.ok (.agg #[.int .i64 5,.int .i64 3]) w by kernel_rfl)
 | 5,_=>exact (show (Instr.index 196 (.agg pkC) (.int .i64 5)).run Tryz.prog w=.ok (.agg #[.int .i64 6,.int .i64 4]) w by kernel_rfl)
 | 6,_=>exact (show (Instr.index 196 (.agg pkC) (.int .i64 6)).run Tryz.prog w=.ok (.agg #[.int .i64 7,.int .i64 5]) w by kernel_rfl)
 | 7,_=>exact (show (Instr.index 196 (.agg pkC) (.int .i64 7)).run Tryz.prog w=.ok (.agg #[.int .i64 8,.int .i64 6]) w by kernel_rfl)
def PZ (W:World) (i:Nat):Prop:=W.heap[i]?=some (.cells #[.int .i64 0,.int .i64 0] 163 (0,0))
theorem PZ.lt {W:World} {i:Nat} (q:PZ W i):i<W.heap.size:=(Array.getElem?_eq_some_iff.1 q).1
theorem PZ.below {W W1:World} {i:Nat} (q:PZ W i) (h:Below W.heap.size W W1):PZ W1 i:=(h.block _ q.lt).trans q
theorem PZ.cells {W:World} {i:Nat} (q:PZ W i):W.cell? ⟨i,0,none⟩=some (.int .i64 0)∧W.cell? ⟨i,1,none⟩=some (.int .i64 0):=by
 unfold PZ at q
 simp [World.cell?,q]
theorem PZ.frz {W:World} {i:Nat} (q:PZ W i) (j:Nat):W.frozen? ⟨i,j,none⟩=false:=by
 unfold PZ at q
 simp [World.frozen?,q]
set_option maxHeartbeats 1000000 in
set_option maxRecDepth 100000 in
theorem plain_any (k:Int) (w:World) (g:Gt w) :
  Calls Tryz.prog 173 #[.int .i64 k] w fun e w'=>e=.returned (.tuple (plR k))∧Below w.heap.size w w':=by
 have hg:=g.lt
 obtain ⟨t,fr,hc⟩:=g
 have hc1:∀ o,(w.alloc o).heap[5]?=some (.cells pkC t fr):=fun o=>by rw [(below_al (Below.refl w.heap.size w)).block _ hg];exact hc
 have hz0:=hide (show PZ (w.alloc (.cells #[.int .i64 0,.int .i64 0] 163)) w.heap.size from heap_alloc_last w _)
 clear hg hc
 go_enter Tryz.func173, Tryz.ntmps173
 go_wp2_with (refine wpList_load_row rfl 196 _ rfl 5 rfl t pkC fr _ (hc1 _) Tryz.underlying196 rfl (by kernel_rfl) ?_)
 clear hc1
 go_loopw [7] (fun i w'=>∃ j:Nat,j≤8∧i=.int .i64 j∧Hid ((∀ i:Nat,i<j→(i:Int) + 1≠k)∧Below w.heap.size w w'∧PZ w' w.heap.size)) (fun i _=>(8 - intOf i).toNat)
 case atStart=>exact ⟨0,by omega,rfl,(fun i h=>by omega),below_al (Below.refl _ _),hz0.out⟩
 case round =>
  clear hz0
  obtain ⟨j,hj,rfl,H⟩:=hrel
  obtain ⟨z0,z1⟩:=H.out.2.2.cells
  have zf:=H.out.2.2.frz
  have hlt:=H.out.2.2.lt
  have zf':∀ o j,(wr.alloc o).frozen? ⟨w.heap.size,j,none⟩=false:=fun o j=>(H.out.2.2.below (below_al (Below.refl _ _))).frz j
  have z0':∀ o,(wr.alloc o).cell? ⟨w.heap.size,0,none⟩=some (.int .i64 0):=fun o=>(H.out.2.2.below (below_al (Below.refl _ _))).cells.1
  have z1':∀ o,(wr.alloc o).cell? ⟨w.heap.size,1,none⟩=some (.int .i64 0):=fun o=>(H.out.2.2.below (below_al (Below.refl _ _))).cells.2
  by_cases hj8:j<8
  ·have hji:(j:Int)<8:=by omega
   have hix:=ix_pk j hj8
   obtain ⟨J,hJ⟩:∃ J:Int,Hid (J=(j:Int) + 1):=⟨_,rfl⟩
   rw [←hJ.out] at hix
   obtain ⟨V,hV⟩:∃ V:Int,Hid (V=pk J):=⟨_,rfl⟩
   rw [←hV.out] at hix
   by_cases hk:J=k
   ·subst hk
    have hR:=hide (show plR J=#[.agg #[.int .i64 J,.int .i64 V],.bool true] by
     have:=hJ.out
     rw [hV.out]
     unfold plR
     rw [if_pos (by omega)])
    go_wp2_with fail
    refine bodyPost_ret (v:=.tuple #[.agg #[.int .i64 J,.int .i64 V],.bool true]) (by simp [results,Tryz.results173,go_sem, *]) rfl ⟨by rw [hR.out],?_⟩
    repeat (first|exact H.out.2.1|refine below_al ?_|refine Below.setCell ?_ (by show _≤_;exact Nat.le_refl _) _)
   ·have hk':(J==k)=false:=beq_eq_false_iff_ne.2 hk
    go_wp2_with fail
    refine ⟨⟨j + 1,by omega,by go_num,?_,below_al H.out.2.1,H.out.2.2.below (below_al (Below.refl _ _))⟩,by simp [intOf];omega⟩
    intro i hi
    by_cases e:i=j
    ·subst e
     rw [←hJ.out]
     exact hk
    ·exact H.out.1 i (by omega)
  ·have hji:¬ (j:Int)<8:=by omega
   have hR:=hide (show plR k=#[.agg #[.int .i64 0,.int .i64 0],.bool false] by
    unfold plR
    rw [if_neg]
    rintro ⟨h1,h2⟩
    exact H.out.1 (k - 1).toNat (by omega) (by omega))
   go_wp2_with fail
   refine bodyPost_ret (v:=.tuple #[.agg #[.int .i64 0,.int .i64 0],.bool false]) (by simp [results,Tryz.results173,go_sem, *]) rfl ⟨by rw [hR.out],?_⟩
   repeat (first|exact H.out.2.1|refine below_al ?_|refine Below.setCell ?_ (by show _≤_;exact Nat.le_refl _) _)
end Go.Proofs.YtcnfchblfcfimaaGreatDoor
namespace Go.Proofs.YtcnfchblfcfimaaGreatDoor
open Go.RowKit
def Filled (h:Hd) (m:Nat):Prop:=(h.kind=3→isN h.neg h.dig h.exp=true)∧(h.kind=5→okT h.text=true)∧(h.kind=8→h.names.length=m∧Nms h.names)∧(h.kind=9→okT h.text=true∧m=1)
theorem one_cell {w w1:World} {c1:Array Value} {T1:TypeId} (hb:Below (w.alloc (.cells c1 T1)).heap.size (w.alloc (.cells c1 T1)) w1) (j:Nat):w1.cell? ⟨w.heap.size,j,none⟩=c1[j]?:=by
 have h1:(w.alloc (.cells c1 T1)).heap=w.heap.push (.cells c1 T1):=rfl
 have b1:=hb.block w.heap.size (by rw [h1];simp)
 rw [h1,Array.getElem?_push_size] at b1
 unfold World.cell?
 rw [b1]
 rfl
theorem tells (p:Prop):∃ b:Bool,b=true↔p:=by
 by_cases h:p
 ·exact ⟨true,by simp [h]⟩
 ·exact ⟨false,by simp [h]⟩
theorem Calls.tb {f:FuncId} {args:Array Value} {w:World} {p:Prop} {b:Bool} (h:Calls Tryz.prog f args w fun e w'=>TB p w e w') (hb:b=true↔p):Calls Tryz.prog f args w fun e w'=>e=.returned (.bool b)∧Below w.heap.size w w':=by
 refine h.mono ?_
 rintro e w' ⟨c,rfl,hc,hw⟩
 have:c=b:=by rw [Bool.eq_iff_iff];exact Iff.trans hc hb.symm
 rw [this]
 exact ⟨rfl,hw⟩
set_option maxHeartbeats 1000000 in
set_option maxRecDepth 100000 in
theorem isFilled_any (n:Nat) (h:Hd) (l:List (VT n)) (ns ls:Value) (w:World) (hr:RD (n + 1) w (h,l) ns ls) (hz:Sz (n + 1) (h,l)) (g:Ut.Gu w) :
  Calls Tryz.prog 165 #[.agg (vals h ns ls)] w fun e w'=>TB (Filled h l.length) w e w':=by
 obtain ⟨al,cl,rfl,hc1,hc2⟩:=hr.len
 obtain ⟨an,cn,rfl,hn1,hn2⟩:=hr.1.len
 have ml:maxLen=9223372036854775807:=rfl
 simp only at hc1 hc2 hn1 hn2
 obtain ⟨z1,z2,z3,z4,z5⟩:=hz
 simp only at z1 z2 z3 z4
 have hB0:=hide (bx_new w h (.slice an h.names.length cn) (.slice al l.length cl))
 have hV:=hide (fun W (hb:Below w.heap.size w W)=>Ut.valid_any h.text W (g.below hb) (by omega))
 have hN:=hide (fun W (hb:Below w.heap.size w W)=>areNames_any (.slice an h.names.length cn) h.names W (hr.1.below hb) (g.below hb) ⟨z3,z4⟩)
 have hb0:Hid (∀ o,Below w.heap.size w (w.alloc o)):=fun o=>below_al (Below.refl _ _)
 clear hr g z4 z5
 show Calls _ _ #[.agg #[.int .i64 h.kind,.bool h.flag,.bool h.neg,.string h.dig,.int .i64 h.exp,.int .u64 h.bits,.string h.text,.slice an h.names.length cn,.slice al l.length cl]] _ _
 by_cases k3:h.kind=3
 ·obtain ⟨b,hb⟩:=tells (isN h.neg h.dig h.exp=true)
  have hx:=hide (show Filled h l.length↔b=true by rw [hb];simp [Filled,k3])
  have hC:Hid (∀ W,Calls Tryz.prog 160 #[.agg #[.bool h.neg,.string h.dig,.int .i64 h.exp]] W fun e w'=>e=.returned (.int .i64 (bif b then 0 else 10))∧Below W.heap.size W w'):=fun W=>by
   cases b
   ·exact check_no _ _ _ W (by omega) (by cases q:isN h.neg h.dig h.exp;rfl;exact absurd (hb.2 q) (by simp))
   ·exact check_ok _ _ _ W (by omega) (hb.1 rfl)
  rw [k3]
  clear hb
  cases b
  ·go_enter Tryz.func165, Tryz.ntmps165
   go_wp2_with (go_at_call 160;refine (hC.out _).mono ?_;rintro e w1 ⟨rfl,hb1⟩)
   go_ret
   exact TB.no (fun q=>by have:=hx.out.1 q;cases this) (below_then (hb0.out _) hb1)
  ·go_enter Tryz.func165, Tryz.ntmps165
   go_wp2_with (go_at_call 160;refine (hC.out _).mono ?_;rintro e w1 ⟨rfl,hb1⟩)
   go_ret
   exact TB.yes (hx.out.2 (by simp)) (below_then (hb0.out _) hb1)
 by_cases k5:h.kind=5
 ·have hx:=hide (show Filled h l.length↔okT h.text=true by simp [Filled,k5])
  have hV:=hide (fun o=>hV.out (w.alloc o) (hb0.out o))
  rw [k5]
  cases hk:okT h.text
  ·rw [hk] at hx
   have hV:Hid (∀ o,Calls Tryz.prog 129 #[.string h.text] (w.alloc o) fun r w'=>r=.returned (.bool false)∧Below (w.alloc o).heap.size (w.alloc o) w'):=fun o=>by rw [←hk];exact hV.out o
   clear hk
   go_enter Tryz.func165, Tryz.ntmps165
   go_wp2_with (go_at_call 129;refine (hV.out _).mono ?_;rintro e w1 ⟨rfl,hb1⟩)
   go_ret
   exact TB.no (fun q=>by have:=hx.out.1 q;cases this) (below_then (hb0.out _) hb1)
  ·rw [hk] at hx
   have hV:Hid (∀ o,Calls Tryz.prog 129 #[.string h.text] (w.alloc o) fun r w'=>r=.returned (.bool true)∧Below (w.alloc o).heap.size (w.alloc o) w'):=fun o=>by rw [←hk];exact hV.out o
   clear hk
   go_enter Tryz.func165, Tryz.ntmps165
   go_wp2_with (go_at_call 129;refine (hV.out _).mono ?_;rintro e w1 ⟨rfl,hb1⟩)
   go_ret
   exact TB.yes (hx.out.2 (by simp)) (below_then (hb0.out _) hb1)
 by_cases k8:h.kind=8
 ·by_cases hlen:(h.names.length:Int)=(l.length:Int)
  ·have hl':h.names.length=l.length:=by omega
   have hx:=hide (show Filled h l.length↔Nms h.names by simp [Filled,k8,hl'])
   have hN:=hide (fun o=>hN.out (w.alloc o) (hb0.out o))
   obtain ⟨b,hb⟩:=tells (Nms h.names)
   have hN:=hide (fun o=>Calls.tb (hN.out o) hb)
   have hb:=hide hb
   rw [k8]
   rw [hl'] at hN ⊢
   clear hlen hl'
   cases b
   ·go_enter Tryz.func165, Tryz.ntmps165
    go_wp2_with (go_at_call 199;refine (hN.out _).mono ?_;rintro e w1 ⟨rfl,hb1⟩)
    go_ret
    exact TB.no (fun q=>by have:=hb.out.2 (hx.out.1 q);cases this) (below_then (hb0.out _) hb1)
   ·go_enter Tryz.func165, Tryz.ntmps165
    go_wp2_with (go_at_call 199;refine (hN.out _).mono ?_;rintro e w1 ⟨rfl,hb1⟩)
    go_ret
    exact TB.yes (hx.out.2 (hb.out.1 (by simp))) (below_then (hb0.out _) hb1)
  ·have hx:Hid (¬ Filled h l.length):=by
    intro q
    have:=(q.2.2.1 k8).1
    omega
   rw [k8]
   go_enter Tryz.func165, Tryz.ntmps165
   go_wp2_with fail
   go_ret
   exact TB.no hx.out (hb0.out _)
 by_cases k9:h.kind=9
 ·have hV:=hide (fun o=>hV.out (w.alloc o) (hb0.out o))
  rw [k9]
  cases hk:okT h.text
  ·have hx:Hid (¬ Filled h l.length):=by
    intro q
    have:=(q.2.2.2 k9).1
    rw [hk] at this;cases this
   have hV:Hid (∀ o,Calls Tryz.prog 129 #[.string h.text] (w.alloc o) fun r w'=>r=.returned (.bool false)∧Below (w.alloc o).heap.size (w.alloc o) w'):=fun o=>by rw [←hk];exact hV.out o
   clear hk
   go_enter Tryz.func165, Tryz.ntmps165
   go_wp2_with (go_at_call 129;refine (hV.out _).mono ?_;rintro e w1 ⟨rfl,hb1⟩)
   go_ret
   exact TB.no hx.out (below_then (hb0.out _) hb1)
  ·have hx:=hide (show Filled h l.length↔l.length=1 by simp [Filled,k9,hk])
   have hV:Hid (∀ o,Calls Tryz.prog 129 #[.string h.text] (w.alloc o) fun r w'=>r=.returned (.bool true)∧Below (w.alloc o).heap.size (w.alloc o) w'):=fun o=>by rw [←hk];exact hV.out o
   clear hk
   by_cases h1:l.length=1
   ·rw [h1] at hx ⊢
    have hB1:=hide (bx_new w h (.slice an h.names.length cn) (.slice al 1 cl))
    rw [h1] at hB0
    go_enter Tryz.func165, Tryz.ntmps165
    go_wp2_with (go_at_call 129;refine (hV.out _).mono ?_;rintro e w1 ⟨rfl,hb1⟩;have c8:=one_cell hb1 8)
    go_ret
    exact TB.yes (hx.out.2 (by simp)) (below_then (hb0.out _) hb1)
   ·have h1i:¬ (l.length:Int)=1:=by omega
    have h1d:decide ((l.length:Int)=1)=false:=decide_eq_false h1i
    have h1d':=hide h1d
    have hx:Hid (¬ Filled h l.length):=fun q=>h1 (hx.out.1 q)
    clear h1
    go_enter Tryz.func165, Tryz.ntmps165
    go_wp2_with (go_at_call 129;refine (hV.out _).mono ?_;rintro e w1 ⟨rfl,hb1⟩;have c8:=one_cell hb1 8)
    go_ret
    first|exact TB.no hx.out (below_then (hb0.out _) hb1)|(show TB _ _ (.returned (.bool (decide ((l.length:Int)=1)))) _;rw [h1d'.out];exact TB.no hx.out (below_then (hb0.out _) hb1))
 ·have hx:=hide (show Filled h l.length by simp [Filled,k3,k5,k8,k9])
  go_enter Tryz.func165, Tryz.ntmps165
  go_wp2_with fail
  go_ret
  exact TB.yes hx.out (hb0.out _)
end Go.Proofs.YtcnfchblfcfimaaGreatDoor
namespace Go.Proofs.YtcnfchblfcfimaaGreatDoor
open Go.RowKit
def IsV:(n:Nat)→VT n→Prop
 | 0,_=>False
 | n + 1,x=>Bare x.1 x.2∧Filled x.1 x.2.length∧∀ y∈x.2,IsV n y
theorem mem_take_more {α:Type} {p:α→Prop} {l:List α} {k:Nat} (h:k<l.length) (hp:∀ y∈l.take k,p y) (hq:p l[k]):∀ y∈l.take (k + 1),p y:=by
 rw [List.take_succ_eq_append_getElem h]
 intro y hy
 rcases List.mem_append.1 hy with q|q
 ·exact hp y q
 ·rw [List.mem_singleton.1 q];exact hq
set_option maxHeartbeats 1000000 in
set_option maxRecDepth 100000 in
theorem isValue_any:∀ (n:Nat) (x:VT n) (ns ls:Value) (w:World),RD n w x ns ls→Sz n x→Ut.Gu w →
  Calls Tryz.prog 135 #[.agg (vals (vhd n x) ns ls)] w fun e w'=>TB (IsV n x) w e w':=by
 intro n
 induction n with
 | zero=>intro x;exact Empty.elim x
 | succ n ih =>
  intro x ns ls w hr hz g
  obtain ⟨h,l⟩:=x
  obtain ⟨al,cl,rfl,hc1,hc2⟩:=hr.len
  obtain ⟨an,cn,rfl,hn1,hn2⟩:=hr.1.len
  have ml:maxLen=9223372036854775807:=rfl
  simp only at hc1 hc2 hn1 hn2
  obtain ⟨b1,hb1⟩:=tells (Bare h l)
  obtain ⟨b2,hb2⟩:=tells (Filled h l.length)
  have hA:=hide (fun W (hb:Below w.heap.size w W)=>Calls.tb (isBare_any n h l (.slice an h.names.length cn) (.slice al l.length cl) W (hr.below hb)) hb1)
  have hF:=hide (fun W (hb:Below w.heap.size w W)=>Calls.tb (isFilled_any n h l (.slice an h.names.length cn) (.slice al l.length cl) W (hr.below hb) hz (g.below hb)) hb2)
  have hb0:Hid (∀ o,Below w.heap.size w (w.alloc o)):=fun o=>below_al (Below.refl _ _)
  have hr:=hide hr
  have hz:=hide hz
  have g:=hide g
  have ih':=hide ih
  have hb1':=hide hb1
  have hb2':=hide hb2
  clear ih hb1 hb2
  have hA0:=hide (fun o=>hA.out (w.alloc o) (hb0.out o))
  show Calls _ _ #[.agg #[.int .i64 h.kind,.bool h.flag,.bool h.neg,.string h.dig,.int .i64 h.exp,.int .u64 h.bits,.string h.text,.slice an h.names.length cn,.slice al l.length cl]] _ _
  have hB0:=hide (bx_new w h (.slice an h.names.length cn) (.slice al l.length cl))
  cases b1
  ·go_enter Tryz.func135, Tryz.ntmps135
   go_wp2_with (go_at_call 164;refine (hA0.out _).mono ?_;rintro e w1 ⟨rfl,hb1⟩)
   go_ret
   exact TB.no (fun q=>by have:=hb1'.out.2 q.1;cases this) (below_then (hb0.out _) hb1)
  cases b2
  ·go_enter Tryz.func135, Tryz.ntmps135
   go_wp2_with fail
   refine (hA0.out _).mono ?_
   rintro e w1 ⟨rfl,hb1⟩
   have hw1:=hide (below_then (hb0.out _) hb1)
   obtain ⟨c0,c1,c2,c3,c4,c5,c6,c7,c8⟩:=(hB0.out.below hb1).cells
   have hF1:=hide (hF.out w1 hw1.out)
   go_wp2_with (go_at_call 165;refine hF1.out.mono ?_;rintro e w2 ⟨rfl,hb2⟩)
   go_ret
   exact TB.no (fun q=>by have:=hb2'.out.2 q.2.1;cases this) (below_then hw1.out hb2)
  ·go_enter Tryz.func135, Tryz.ntmps135
   go_wp2_with fail
   refine (hA0.out _).mono ?_
   rintro e w1 ⟨rfl,hb1⟩
   have hw1:=hide (below_then (hb0.out _) hb1)
   have hB1:=hide (hB0.out.below hb1)
   obtain ⟨c0,c1,c2,c3,c4,c5,c6,c7,c8⟩:=hB1.out.cells
   have hF1:=hide (hF.out w1 hw1.out)
   go_wp2_with fail
   refine hF1.out.mono ?_
   rintro e w2 ⟨rfl,hb2⟩
   have hw2:=hide (below_then hw1.out hb2)
   clear c0 c1 c2 c3 c4 c5 c6 c7 c8
   obtain ⟨c0,c1,c2,c3,c4,c5,c6,c7,c8⟩:=(hB1.out.below hb2).cells
   go_wp2_with fail
   go_loopw [16] (fun i w'=>∃ k:Nat,i=.int .i64 k∧k≤l.length∧Hid ((∀ y∈l.take k,IsV n y)∧Below w.heap.size w w')) (fun i _=>l.length - (intOf i).toNat)
   case atStart=>exact ⟨0,rfl,Nat.zero_le _,(fun y hy=>by simp at hy),hw2.out⟩
   case round =>
    clear c0 c1 c2 c3 c4 c5 c6 c7 c8
    obtain ⟨k,rfl,hk,H⟩:=hrel
    by_cases hkl:k<l.length
    ·have hki:(k:Int)<(l.length:Int):=by omega
     have hk63:(k:Int)<9223372036854775807:=by omega
     obtain ⟨b,o,c,he,hbl,hlc,hcm,ns',ls',hrg,hrd⟩:=hr.out.at k hkl
     have he':=Value.slice.inj he
     obtain ⟨rfl,_,rfl⟩:=he'
     clear he
     obtain ⟨q0,q1,q2,q3,q4,q5,q6,q7,q8⟩:=range9 (rangeAt_below hrg H.out.2 hbl)
     have hrd':=hide (hrd.below H.out.2)
     obtain ⟨a1,m1,d1,a2,m2,d2,rfl,rfl⟩:=hrd.shape
     clear hrg hrd
     obtain ⟨bk,hbk⟩:=tells (IsV n l[k])
     have hcall:=hide (fun o=>Calls.tb (ih'.out l[k] (.slice a1 m1 d1) (.slice a2 m2 d2) (wr.alloc o) (hrd'.out.below (below_al (Below.refl _ _))) (hz.out.2.2.2.2 _ (List.getElem_mem _)) (g.out.below (below_al H.out.2))) hbk)
     have hbk':=hide hbk
     clear hbk
     cases bk
     ·go_wp2_with (go_at_call 135;refine (hcall.out _).mono ?_;rintro e w3 ⟨rfl,hb3⟩)
      go_ret
      exact TB.no (fun q=>by have:=hbk'.out.2 (q.2.2 _ (List.getElem_mem _));cases this) (below_then (below_al H.out.2) hb3)
     ·go_wp2_with (go_at_call 135;refine (hcall.out _).mono ?_;rintro e w3 ⟨rfl,hb3⟩)
      exact ⟨⟨k + 1,by go_num,by omega,mem_take_more hkl H.out.1 (hbk'.out.1 (by simp)),below_then (below_al H.out.2) hb3⟩,by simp [intOf];omega⟩
    ·have hki:¬ ((k:Int)<(l.length:Int)):=by omega
     have hE:=H.out.1
     rw [List.take_of_length_le (by omega)] at hE
     have hE':=hide hE
     clear hE
     go_wp2_with fail
     go_ret
     exact TB.yes ⟨hb1'.out.1 (by simp),hb2'.out.1 (by simp),hE'.out⟩ H.out.2
def Sht:(n:Nat)→VT n→Prop
 | 0,_=>False
 | n + 1,x=>(x.1.text.size:Int)≤(bif x.1.kind==9 then 64 else 4096)∧x.2.length≤256∧(∀ s∈x.1.names,s.size≤64)∧∀ y∈x.2,Sht n y
set_option maxHeartbeats 1000000 in
set_option maxRecDepth 100000 in
theorem isShort_any:∀ (n:Nat) (x:VT n) (ns ls:Value) (w:World),RD n w x ns ls→Sz n x →
  Calls Tryz.prog 136 #[.agg (vals (vhd n x) ns ls)] w fun e w'=>TB (Sht n x) w e w':=by
 intro n
 induction n with
 | zero=>intro x;exact Empty.elim x
 | succ n ih =>
  intro x ns ls w hr hz
  obtain ⟨h,l⟩:=x
  obtain ⟨al,cl,rfl,hc1,hc2⟩:=hr.len
  obtain ⟨an,cn,rfl,hn1,hn2⟩:=hr.1.len
  have ml:maxLen=9223372036854775807:=rfl
  simp only at hc1 hc2 hn1 hn2
  have hb0:Hid (∀ o,Below w.heap.size w (w.alloc o)):=fun o=>below_al (Below.refl _ _)
  have hr:=hide hr
  have hz:=hide hz
  have ih':=hide ih
  clear ih
  show Calls _ _ #[.agg #[.int .i64 h.kind,.bool h.flag,.bool h.neg,.string h.dig,.int .i64 h.exp,.int .u64 h.bits,.string h.text,.slice an h.names.length cn,.slice al l.length cl]] _ _
  have hB0:=hide (bx_new w h (.slice an h.names.length cn) (.slice al l.length cl))
  obtain ⟨M,hM⟩:∃ M:Int,(bif h.kind==9 then 64 else 4096)=M:=⟨_,rfl⟩
  by_cases k9:h.kind=9
  ·have hML:M=64:=by rw [←hM];simp [k9]
   by_cases ht:(64:Int)<(h.text.size:Int)
   ·have hx:=hide (show ¬ Sht (n + 1) (h,l) from fun q=>by have h2:(h.text.size:Int)≤(bif h.kind==9 then 64 else 4096):=q.1;rw [hM,hML] at h2;omega)
    rw [k9]
    go_enter Tryz.func136, Tryz.ntmps136
    go_wp2_with fail
    go_ret
    exact TB.no hx.out (hb0.out _)
   by_cases hl:(256:Int)<(l.length:Int)
   ·have hx:=hide (show ¬ Sht (n + 1) (h,l) from fun q=>by have h2:l.length≤256:=q.2.1;omega)
    rw [k9]
    go_enter Tryz.func136, Tryz.ntmps136
    go_wp2_with fail
    go_ret
    exact TB.no hx.out (hb0.out _)
   ·have hx0:=hide (show (h.text.size:Int)≤(bif h.kind==9 then 64 else 4096)∧l.length≤256 from ⟨by rw [hM,hML];omega,by omega⟩)
    rw [k9]
    go_enter Tryz.func136, Tryz.ntmps136
    go_wp2_with fail
    go_loopw [25] (fun i w'=>∃ k:Nat,i=.int .i64 k∧k≤h.names.length∧Hid ((∀ s∈h.names.take k,s.size≤64)∧Below w.heap.size w w'∧w'.cell? ⟨w.heap.size,8,none⟩=some (.slice al l.length cl))) (fun i _=>h.names.length - (intOf i).toNat)
    case atStart=>exact ⟨0,rfl,Nat.zero_le _,(fun y hy=>by simp at hy),hb0.out _,one_cell (Below.refl _ _) 8⟩
    case round =>
     obtain ⟨k,rfl,hk,H⟩:=hrel
     have c8:=H.out.2.2
     by_cases hkl:k<h.names.length
     ·have hki:(k:Int)<(h.names.length:Int):=by omega
      have hk63:(k:Int)<9223372036854775807:=by omega
      obtain ⟨b,o,c,he,hbl,hlc,hcm,hcell⟩:=hr.out.1.at k hkl
      have he':=Value.slice.inj he
      obtain ⟨rfl,_,rfl⟩:=he'
      clear he
      have hcell:=(H.out.2.1.cell (p:=⟨b,o + k,none⟩) hbl).trans hcell
      obtain ⟨s,hs⟩:∃ s,h.names[k]=s:=⟨_,rfl⟩
      simp only at hcell
      rw [hs] at hcell
      have hs':=hide hs
      clear hs
      by_cases h64:(64:Int)<(s.size:Int)
      ·have hno:=hide (show ¬ Sht (n + 1) (h,l) from fun q=>by
        have h2:=q.2.2.1 h.names[k] (List.getElem_mem _)
        rw [hs'.out] at h2
        omega)
       go_wp2_with fail
       go_ret
       exact TB.no hno.out H.out.2.1
      ·have hmo:=hide (mem_take_more (p:=fun s=>s.size≤64) hkl H.out.1 (by rw [hs'.out];omega))
       go_wp2_with fail
       exact ⟨⟨k + 1,by go_num,by omega,hmo.out,H.out.2⟩,by simp [intOf];omega⟩
     ·have hki:¬ ((k:Int)<(h.names.length:Int)):=by omega
      have hE:=H.out.1
      rw [List.take_of_length_le (by omega)] at hE
      have hE':=hide hE
      have hb2:=hide H.out.2.1
      clear hE
      go_wp2_with fail
      go_loopw [36] (fun i w'=>∃ k:Nat,i=.int .i64 k∧k≤l.length∧Hid ((∀ y∈l.take k,Sht n y)∧Below w.heap.size w w')) (fun i _=>l.length - (intOf i).toNat)
      case atStart=>exact ⟨0,rfl,Nat.zero_le _,(fun y hy=>by simp at hy),hb2.out⟩
      case round =>
       clear H c8 hki hk
       obtain ⟨k2,rfl,hk,H⟩:=hrel
       by_cases hkl:k2<l.length
       ·have hki:(k2:Int)<(l.length:Int):=by omega
        have hk63:(k2:Int)<9223372036854775807:=by omega
        obtain ⟨b,o,c,he,hbl,hlc,hcm,ns',ls',hrg,hrd⟩:=hr.out.at k2 hkl
        have he':=Value.slice.inj he
        obtain ⟨rfl,_,rfl⟩:=he'
        clear he
        obtain ⟨q0,q1,q2,q3,q4,q5,q6,q7,q8⟩:=range9 (rangeAt_below hrg H.out.2 hbl)
        have hrd':=hide (hrd.below H.out.2)
        obtain ⟨a1,m1,d1,a2,m2,d2,rfl,rfl⟩:=hrd.shape
        clear hrg hrd
        obtain ⟨bk,hbk⟩:=tells (Sht n l[k2])
        have hcall:=hide (fun o=>Calls.tb (ih'.out l[k2] (.slice a1 m1 d1) (.slice a2 m2 d2) (wr.alloc o) (hrd'.out.below (below_al (Below.refl _ _))) (hz.out.2.2.2.2 _ (List.getElem_mem _))) hbk)
        have hbk':=hide hbk
        clear hbk
        cases bk
        ·go_wp2_with (go_at_call 136;refine (hcall.out _).mono ?_;rintro e w3 ⟨rfl,hb3⟩)
         go_ret
         exact TB.no (fun q=>by have:=hbk'.out.2 (q.2.2.2 _ (List.getElem_mem _));cases this) (below_then (below_al H.out.2) hb3)
        ·go_wp2_with (go_at_call 136;refine (hcall.out _).mono ?_;rintro e w3 ⟨rfl,hb3⟩)
         exact ⟨⟨k2 + 1,by go_num,by omega,mem_take_more hkl H.out.1 (hbk'.out.1 (by simp)),below_then (below_al H.out.2) hb3⟩,by simp [intOf];omega⟩
       ·have hki:¬ ((k2:Int)<(l.length:Int)):=by omega
        have hE2:=H.out.1
        rw [List.take_of_length_le (by omega)] at hE2
        have hE2':=hide hE2
        clear hE2
        go_wp2_with fail
        go_ret
        exact TB.yes ⟨hx0.out.1,hx0.out.2,hE'.out,hE2'.out⟩ H.out.2
  ·have hML:M=4096:=by rw [←hM,show (h.kind==9)=false by rw [beq_eq_false_iff_ne];exact k9];rfl
   by_cases ht:(4096:Int)<(h.text.size:Int)
   ·have hx:=hide (show ¬ Sht (n + 1) (h,l) from fun q=>by have h2:(h.text.size:Int)≤(bif h.kind==9 then 64 else 4096):=q.1;rw [hM,hML] at h2;omega)
    go_enter Tryz.func136, Tryz.ntmps136
    go_wp2_with fail
    go_ret
    exact TB.no hx.out (hb0.out _)
   by_cases hl:(256:Int)<(l.length:Int)
   ·have hx:=hide (show ¬ Sht (n + 1) (h,l) from fun q=>by have h2:l.length≤256:=q.2.1;omega)
    go_enter Tryz.func136, Tryz.ntmps136
    go_wp2_with fail
    go_ret
    exact TB.no hx.out (hb0.out _)
   ·have hx0:=hide (show (h.text.size:Int)≤(bif h.kind==9 then 64 else 4096)∧l.length≤256 from ⟨by rw [hM,hML];omega,by omega⟩)
    go_enter Tryz.func136, Tryz.ntmps136
    go_wp2_with fail
    go_loopw [25] (fun i w'=>∃ k:Nat,i=.int .i64 k∧k≤h.names.length∧Hid ((∀ s∈h.names.take k,s.size≤64)∧Below w.heap.size w w'∧w'.cell? ⟨w.heap.size,8,none⟩=some (.slice al l.length cl))) (fun i _=>h.names.length - (intOf i).toNat)
    case atStart=>exact ⟨0,rfl,Nat.zero_le _,(fun y hy=>by simp at hy),hb0.out _,one_cell (Below.refl _ _) 8⟩
    case round =>
     obtain ⟨k,rfl,hk,H⟩:=hrel
     have c8:=H.out.2.2
     by_cases hkl:k<h.names.length
     ·have hki:(k:Int)<(h.names.length:Int):=by omega
      have hk63:(k:Int)<9223372036854775807:=by omega
      obtain ⟨b,o,c,he,hbl,hlc,hcm,hcell⟩:=hr.out.1.at k hkl
      have he':=Value.slice.inj he
      obtain ⟨rfl,_,rfl⟩:=he'
      clear he
      have hcell:=(H.out.2.1.cell (p:=⟨b,o + k,none⟩) hbl).trans hcell
      obtain ⟨s,hs⟩:∃ s,h.names[k]=s:=⟨_,rfl⟩
      simp only at hcell
      rw [hs] at hcell
      have hs':=hide hs
      clear hs
      by_cases h64:(64:Int)<(s.size:Int)
      ·have hno:=hide (show ¬ Sht (n + 1) (h,l) from fun q=>by
        have h2:=q.2.2.1 h.names[k] (List.getElem_mem _)
        rw [hs'.out] at h2
        omega)
       go_wp2_with fail
       go_ret
       exact TB.no hno.out H.out.2.1
      ·have hmo:=hide (mem_take_more (p:=fun s=>s.size≤64) hkl H.out.1 (by rw [hs'.out];omega))
       go_wp2_with fail
       exact ⟨⟨k + 1,by go_num,by omega,hmo.out,H.out.2⟩,by simp [intOf];omega⟩
     ·have hki:¬ ((k:Int)<(h.names.length:Int)):=by omega
      have hE:=H.out.1
      rw [List.take_of_length_le (by omega)] at hE
      have hE':=hide hE
      have hb2:=hide H.out.2.1
      clear hE
      go_wp2_with fail
      go_loopw [36] (fun i w'=>∃ k:Nat,i=.int .i64 k∧k≤l.length∧Hid ((∀ y∈l.take k,Sht n y)∧Below w.heap.size w w')) (fun i _=>l.length - (intOf i).toNat)
      case atStart=>exact ⟨0,rfl,Nat.zero_le _,(fun y hy=>by simp at hy),hb2.out⟩
      case round =>
       clear H c8 hki hk
       obtain ⟨k2,rfl,hk,H⟩:=hrel
       by_cases hkl:k2<l.length
       ·have hki:(k2:Int)<(l.length:Int):=by omega
        have hk63:(k2:Int)<9223372036854775807:=by omega
        obtain ⟨b,o,c,he,hbl,hlc,hcm,ns',ls',hrg,hrd⟩:=hr.out.at k2 hkl
        have he':=Value.slice.inj he
        obtain ⟨rfl,_,rfl⟩:=he'
        clear he
        obtain ⟨q0,q1,q2,q3,q4,q5,q6,q7,q8⟩:=range9 (rangeAt_below hrg H.out.2 hbl)
        have hrd':=hide (hrd.below H.out.2)
        obtain ⟨a1,m1,d1,a2,m2,d2,rfl,rfl⟩:=hrd.shape
        clear hrg hrd
        obtain ⟨bk,hbk⟩:=tells (Sht n l[k2])
        have hcall:=hide (fun o=>Calls.tb (ih'.out l[k2] (.slice a1 m1 d1) (.slice a2 m2 d2) (wr.alloc o) (hrd'.out.below (below_al (Below.refl _ _))) (hz.out.2.2.2.2 _ (List.getElem_mem _))) hbk)
        have hbk':=hide hbk
        clear hbk
        cases bk
        ·go_wp2_with (go_at_call 136;refine (hcall.out _).mono ?_;rintro e w3 ⟨rfl,hb3⟩)
         go_ret
         exact TB.no (fun q=>by have:=hbk'.out.2 (q.2.2.2 _ (List.getElem_mem _));cases this) (below_then (below_al H.out.2) hb3)
        ·go_wp2_with (go_at_call 136;refine (hcall.out _).mono ?_;rintro e w3 ⟨rfl,hb3⟩)
         exact ⟨⟨k2 + 1,by go_num,by omega,mem_take_more hkl H.out.1 (hbk'.out.1 (by simp)),below_then (below_al H.out.2) hb3⟩,by simp [intOf];omega⟩
       ·have hki:¬ ((k2:Int)<(l.length:Int)):=by omega
        have hE2:=H.out.1
        rw [List.take_of_length_le (by omega)] at hE2
        have hE2':=hide hE2
        clear hE2
        go_wp2_with fail
        go_ret
        exact TB.yes ⟨hx0.out.1,hx0.out.2,hE'.out,hE2'.out⟩ H.out.2
end Go.Proofs.YtcnfchblfcfimaaGreatDoor
namespace Go.Proofs.YtcnfchblfcfimaaGreatDoor
open Go.RowKit Go.Maps
def TFil (h:Th) (m:Nat):Prop:=(h.kind=9∧h.names.length=0∧m=1)∨((h.kind=10∨h.kind=11)∧h.names.length=m∧Nms h.names)∨(1≤h.kind∧h.kind≤8∧h.names.length=0∧m=0)
def IsT:(n:Nat)→TT n→Prop
 | 0,_=>False
 | n + 1,x=>TFil x.1 x.2.length∧∀ y∈x.2,IsT n y
set_option maxHeartbeats 1000000 in
set_option maxRecDepth 100000 in
theorem tisFilled_any (n:Nat) (h:Th) (l:List (TT n)) (ns ls:Value) (w:World) (hr:RT (n + 1) w (h,l) ns ls) (hz:TSz (n + 1) (h,l)) (g:Ut.Gu w) (gt:Gt w) :
  Calls Tryz.prog 146 #[.agg (tvs h ns ls)] w fun e w'=>TB (TFil h l.length) w e w':=by
 obtain ⟨al,cl,rfl,hc1,hc2⟩:=hr.len
 obtain ⟨an,cn,rfl,hn1,hn2⟩:=hr.1.len
 have ml:maxLen=9223372036854775807:=rfl
 simp only at hc1 hc2 hn1 hn2
 obtain ⟨z3,z4,z5⟩:=hz
 simp only at z3 z4
 have hN:=hide (fun W (hb:Below w.heap.size w W)=>tareNames_any (.slice an h.names.length cn) h.names W (hr.1.below hb) (g.below hb) ⟨z3,z4⟩)
 have hP:=hide (fun W (hb:Below w.heap.size w W)=>plain_any h.kind W (gt.below hb))
 have hb0:Hid (∀ o,Below w.heap.size w (w.alloc o)):=fun o=>below_al (Below.refl _ _)
 have hB0:=hide (tx_new w h (.slice an h.names.length cn) (.slice al l.length cl))
 clear hr g z4 z5 gt
 show Calls _ _ #[.agg #[.int .i64 h.kind,.slice an h.names.length cn,.slice al l.length cl]] _ _
 by_cases k9:h.kind=9
 ·rw [k9]
  by_cases hn0:(h.names.length:Int)=0
  ·by_cases hl1:(l.length:Int)=1
   ·have hx:Hid (TFil h l.length):=Or.inl ⟨k9,by omega,by omega⟩
    go_enter Tryz.func146, Tryz.ntmps146
    go_wp2_with fail
    go_ret
    exact TB.yes hx.out (hb0.out _)
   ·have hx:Hid (¬ TFil h l.length):=by
     rintro (⟨_,_,q⟩|⟨q,_⟩|⟨_,q,_⟩) <;> omega
    have qe:((l.length:Int)==1)=false:=beq_eq_false_iff_ne.2 hl1
    go_enter Tryz.func146, Tryz.ntmps146
    go_wp2_with fail
    go_ret
    exact TB.no hx.out (hb0.out _)
  ·have hx:Hid (¬ TFil h l.length):=by
    rintro (⟨_,q,_⟩|⟨q,_⟩|⟨_,q,_⟩) <;> omega
   have qe:((h.names.length:Int)==0)=false:=beq_eq_false_iff_ne.2 hn0
   go_enter Tryz.func146, Tryz.ntmps146
   go_wp2_with fail
   go_ret
   exact TB.no hx.out (hb0.out _)
 have key:∀ kk:Int,(kk=10∨kk=11)→h.kind=kk→Calls Tryz.prog 146 #[.agg #[.int .i64 kk,.slice an h.names.length cn,.slice al l.length cl]] w fun e w'=>TB (TFil h l.length) w e w':=by
  intro kk hkk hk
  have hB0:=hide (tx_new w {h with kind:=kk} (.slice an h.names.length cn) (.slice al l.length cl))
  by_cases hlen:(h.names.length:Int)=(l.length:Int)
  ·have hl':h.names.length=l.length:=by omega
   have hx:=hide (show TFil h l.length↔Nms h.names by
    constructor
    ·rintro (⟨q,_⟩|⟨_,_,q⟩|⟨_,q,_⟩)
     ·omega
     ·exact q
     ·omega
    ·exact fun q=>Or.inr (Or.inl ⟨by omega,hl',q⟩))
   have hN:=hide (fun o=>hN.out (w.alloc o) (hb0.out o))
   obtain ⟨b,hb⟩:=tells (Nms h.names)
   have hN:=hide (fun o=>Calls.tb (hN.out o) hb)
   have hb:=hide hb
   rw [hl'] at hN ⊢
   clear hlen hl' hk
   rcases hkk with rfl|rfl
   all_goals
    cases b
    ·go_enter Tryz.func146, Tryz.ntmps146
     go_wp2_with (go_at_call 172;refine (hN.out _).mono ?_;rintro e w1 ⟨rfl,hb1⟩)
     go_ret
     exact TB.no (fun q=>by have:=hb.out.2 (hx.out.1 q);cases this) (below_then (hb0.out _) hb1)
    ·go_enter Tryz.func146, Tryz.ntmps146
     go_wp2_with (go_at_call 172;refine (hN.out _).mono ?_;rintro e w1 ⟨rfl,hb1⟩)
     go_ret
     exact TB.yes (hx.out.2 (hb.out.1 (by simp))) (below_then (hb0.out _) hb1)
  ·have hx:Hid (¬ TFil h l.length):=by
    rintro (⟨q,_⟩|⟨_,q,_⟩|⟨_,q,_⟩) <;> omega
   clear hk
   rcases hkk with rfl|rfl
   all_goals
    go_enter Tryz.func146, Tryz.ntmps146
    go_wp2_with fail
    go_ret
    exact TB.no hx.out (hb0.out _)
 by_cases k10:h.kind=10
 ·rw [k10];exact key 10 (Or.inl rfl) k10
 by_cases k11:h.kind=11
 ·rw [k11];exact key 11 (Or.inr rfl) k11
 clear key
 by_cases hk:1≤h.kind∧h.kind≤8
 ·have hP:Hid (∀ o,Calls Tryz.prog 173 #[.int .i64 h.kind] (w.alloc o) fun e w'=>e=.returned (.tuple #[.agg #[.int .i64 h.kind,.int .i64 (pk h.kind)],.bool true])∧Below (w.alloc o).heap.size (w.alloc o) w'):=fun o=>by
   have:=hP.out (w.alloc o) (hb0.out o)
   unfold plR at this
   rw [if_pos hk] at this
   exact this
  have hB0:Hid (∀ w1,Below (w.alloc (.cells (tvs h (.slice an h.names.length cn) (.slice al l.length cl)) 48)).heap.size (w.alloc (.cells (tvs h (.slice an h.names.length cn) (.slice al l.length cl)) 48)) w1→Tx w1 w.heap.size h (.slice an h.names.length cn) (.slice al l.length cl)):=fun w1 hb=>hB0.out.below hb
  by_cases hn0:(h.names.length:Int)=0
  ·by_cases hl1:(l.length:Int)=0
   ·have hx:Hid (TFil h l.length):=Or.inr (Or.inr ⟨hk.1,hk.2,by omega,by omega⟩)
    go_enter Tryz.func146, Tryz.ntmps146
    go_wp2_with (go_at_call 173;refine (hP.out _).mono ?_;rintro e w1 ⟨rfl,hb1⟩;have c1:=fun o=>((hB0.out w1 hb1).below (below_al (o:=o) (Below.refl _ _))).cells.2.1;have c2:=fun o=>((hB0.out w1 hb1).below (below_al (o:=o) (Below.refl _ _))).cells.2.2)
    go_ret
    exact TB.yes hx.out (below_al (below_then (hb0.out _) hb1))
   ·have hx:Hid (¬ TFil h l.length):=by
     rintro (⟨q,_⟩|⟨q,_⟩|⟨_,_,_,q⟩) <;> omega
    have qe:((l.length:Int)==0)=false:=beq_eq_false_iff_ne.2 hl1
    go_enter Tryz.func146, Tryz.ntmps146
    go_wp2_with (go_at_call 173;refine (hP.out _).mono ?_;rintro e w1 ⟨rfl,hb1⟩;have c1:=fun o=>((hB0.out w1 hb1).below (below_al (o:=o) (Below.refl _ _))).cells.2.1;have c2:=fun o=>((hB0.out w1 hb1).below (below_al (o:=o) (Below.refl _ _))).cells.2.2)
    go_ret
    exact TB.no hx.out (below_al (below_then (hb0.out _) hb1))
  ·have hx:Hid (¬ TFil h l.length):=by
    rintro (⟨q,_⟩|⟨q,_⟩|⟨_,_,q,_⟩) <;> omega
   have qe:((h.names.length:Int)==0)=false:=beq_eq_false_iff_ne.2 hn0
   go_enter Tryz.func146, Tryz.ntmps146
   go_wp2_with (go_at_call 173;refine (hP.out _).mono ?_;rintro e w1 ⟨rfl,hb1⟩;have c1:=fun o=>((hB0.out w1 hb1).below (below_al (o:=o) (Below.refl _ _))).cells.2.1;have c2:=fun o=>((hB0.out w1 hb1).below (below_al (o:=o) (Below.refl _ _))).cells.2.2)
   go_ret
   exact TB.no hx.out (below_al (below_then (hb0.out _) hb1))
 ·have hP:Hid (∀ o,Calls Tryz.prog 173 #[.int .i64 h.kind] (w.alloc o) fun e w'=>e=.returned (.tuple #[.agg #[.int .i64 0,.int .i64 0],.bool false])∧Below (w.alloc o).heap.size (w.alloc o) w'):=fun o=>by
   have:=hP.out (w.alloc o) (hb0.out o)
   unfold plR at this
   rw [if_neg hk] at this
   exact this
  have hx:Hid (¬ TFil h l.length):=by
   rintro (⟨q,_⟩|⟨q,_⟩|⟨q1,q2,_⟩) <;> omega
  go_enter Tryz.func146, Tryz.ntmps146
  go_wp2_with (go_at_call 173;refine (hP.out _).mono ?_;rintro e w1 ⟨rfl,hb1⟩)
  go_ret
  exact TB.no hx.out (below_al (below_then (hb0.out _) hb1))
end Go.Proofs.YtcnfchblfcfimaaGreatDoor
namespace Go.Proofs.YtcnfchblfcfimaaGreatDoor
open Go.RowKit
def Win (n:Nat) (x:VT n):Prop:=Sht n x∧dep n x≤16∧siz n x≤4096
def Chk (n:Nat) (x:VT n) (e:Int):Prop:=(e=40∧¬ IsV n x)∨(e=2∧IsV n x∧¬ Win n x)∨(e=0∧IsV n x∧Win n x)
theorem chk_ex (n:Nat) (x:VT n):∃ e,Chk n x e:=by
 by_cases h:IsV n x
 ·by_cases k:Win n x
  ·exact ⟨0,Or.inr (Or.inr ⟨rfl,h,k⟩)⟩
  ·exact ⟨2,Or.inr (Or.inl ⟨rfl,h,k⟩)⟩
 ·exact ⟨40,Or.inl ⟨rfl,h⟩⟩
structure Rdy (n:Nat) (w:World) (x:VT n) (ns ls:Value):Prop where
 rd:RD n w x ns ls
 sz:Sz n x
 le:siz n x≤200000
set_option maxHeartbeats 1000000 in
set_option maxRecDepth 100000 in
theorem check_any (n:Nat) (x:VT n) (ns ls:Value) (w:World) (hr:Rdy n w x ns ls) (g:Ut.Gu w) (E:Int) (hE:Chk n x E) :
  Calls Tryz.prog 84 #[.agg (vals (vhd n x) ns ls)] w fun e w'=>e=.returned (.int .i64 E)∧Below w.heap.size w w':=by
 obtain ⟨a1,m1,d1,a2,m2,d2,rfl,rfl⟩:=hr.rd.shape
 obtain ⟨h,hh⟩:∃ h,vhd n x=h:=⟨_,rfl⟩
 obtain ⟨b1,hb1⟩:=tells (IsV n x)
 obtain ⟨b2,hb2⟩:=tells (Sht n x)
 have hV:=hide (fun o=>Calls.tb (isValue_any n x (.slice a1 m1 d1) (.slice a2 m2 d2) (w.alloc o) (hr.rd.below (below_al (Below.refl _ _))) hr.sz (g.below (below_al (Below.refl _ _)))) hb1)
 have hS:=hide (fun W (hb:Below w.heap.size w W)=>Calls.tb (isShort_any n x (.slice a1 m1 d1) (.slice a2 m2 d2) W (hr.rd.below hb) hr.sz) hb2)
 have hD:=hide (fun W (hb:Below w.heap.size w W)=>depth_any n x (.slice a1 m1 d1) (.slice a2 m2 d2) W (hr.rd.below hb) hr.le)
 have hZ:=hide (fun W (hb:Below w.heap.size w W)=>size_any n x (.slice a1 m1 d1) (.slice a2 m2 d2) W (hr.rd.below hb) hr.le)
 have hb0:Hid (∀ o,Below w.heap.size w (w.alloc o)):=fun o=>below_al (Below.refl _ _)
 obtain ⟨D,hDD⟩:∃ D,dep n x=D:=⟨_,rfl⟩
 obtain ⟨Z,hZZ⟩:∃ Z,siz n x=Z:=⟨_,rfl⟩
 have hE':=hide (show (E=40∧b1=false)∨(E=2∧b1=true∧¬ (b2=true∧D≤16∧Z≤4096))∨(E=0∧b1=true∧b2=true∧D≤16∧Z≤4096) by
  unfold Chk Win at hE
  rw [hDD,hZZ,←hb1,←hb2] at hE
  simpa using hE)
 rw [hh] at hV hS hD hZ ⊢
 rw [hDD] at hD
 rw [hZZ] at hZ
 have hB0:=hide (bx_new w h (.slice a1 m1 d1) (.slice a2 m2 d2))
 clear hr g hh hDD hZZ hE hb1 hb2
 show Calls _ _ #[.agg #[.int .i64 h.kind,.bool h.flag,.bool h.neg,.string h.dig,.int .i64 h.exp,.int .u64 h.bits,.string h.text,.slice a1 m1 d1,.slice a2 m2 d2]] _ _
 cases b1
 ·have e0:E=40:=by rcases hE'.out with ⟨q,_⟩|⟨_,q,_⟩|⟨_,q,_⟩;exact q;cases q;cases q
  subst e0
  go_enter Tryz.func84, Tryz.ntmps84
  go_wp2_with (go_at_call 135;refine (hV.out _).mono ?_;rintro e w1 ⟨rfl,hb1⟩)
  go_ret
  exact ⟨rfl,below_then (hb0.out _) hb1⟩
 ·have hE2:=hide (show (E=2∧¬ (b2=true∧D≤16∧Z≤4096))∨(E=0∧b2=true∧D≤16∧Z≤4096) by
   rcases hE'.out with ⟨_,q⟩|⟨q,_,r⟩|⟨q,_,r⟩
   ·cases q
   ·exact Or.inl ⟨q,r⟩
   ·exact Or.inr ⟨q,r⟩)
  clear hE'
  go_enter Tryz.func84, Tryz.ntmps84
  go_wp2_with fail
  refine (hV.out _).mono ?_
  rintro e w1 ⟨rfl,hb1⟩
  have hw1:=hide (below_then (hb0.out _) hb1)
  have hB1:=hide (hB0.out.below hb1)
  obtain ⟨c0,c1,c2,c3,c4,c5,c6,c7,c8⟩:=hB1.out.cells
  have hS1:=hide (hS.out w1 hw1.out)
  cases b2
  ·have e0:E=2:=by rcases hE2.out with ⟨q,_⟩|⟨_,q,_⟩;exact q;cases q
   subst e0
   go_wp2_with (go_at_call 136;refine hS1.out.mono ?_;rintro e w2 ⟨rfl,hb2⟩)
   go_ret
   exact ⟨rfl,below_then hw1.out hb2⟩
  ·have hE3:=hide (show (E=2∧¬ (D≤16∧Z≤4096))∨(E=0∧D≤16∧Z≤4096) by
    rcases hE2.out with ⟨q,r⟩|⟨q,_,r⟩
    ·exact Or.inl ⟨q,fun s=>r ⟨rfl,s⟩⟩
    ·exact Or.inr ⟨q,r⟩)
   clear hE2
   go_wp2_with fail
   refine hS1.out.mono ?_
   rintro e w2 ⟨rfl,hb2⟩
   have hw2:=hide (below_then hw1.out hb2)
   have hB2:=hide (hB1.out.below hb2)
   clear c0 c1 c2 c3 c4 c5 c6 c7 c8
   obtain ⟨c0,c1,c2,c3,c4,c5,c6,c7,c8⟩:=hB2.out.cells
   have hD1:=hide (hD.out w2 hw2.out)
   by_cases hd:(16:Int)<(D:Int)
   ·have e0:E=2:=by rcases hE3.out with ⟨q,_⟩|⟨_,q,_⟩;exact q;omega
    subst e0
    go_wp2_with (go_at_call 137;refine hD1.out.mono ?_;rintro e w3 ⟨rfl,hb3⟩)
    go_ret
    exact ⟨rfl,below_then hw2.out hb3⟩
   ·go_wp2_with fail
    refine hD1.out.mono ?_
    rintro e w3 ⟨rfl,hb3⟩
    have hw3:=hide (below_then hw2.out hb3)
    have hB3:=hide (hB2.out.below hb3)
    clear c0 c1 c2 c3 c4 c5 c6 c7 c8
    obtain ⟨c0,c1,c2,c3,c4,c5,c6,c7,c8⟩:=hB3.out.cells
    have hZ1:=hide (hZ.out w3 hw3.out)
    by_cases hz:(4096:Int)<(Z:Int)
    ·have e0:E=2:=by rcases hE3.out with ⟨q,_⟩|⟨_,_,q⟩;exact q;omega
     subst e0
     go_wp2_with (go_at_call 138;refine hZ1.out.mono ?_;rintro e w4 ⟨rfl,hb4⟩)
     go_ret
     exact ⟨rfl,below_then hw3.out hb4⟩
    ·have e0:E=0:=by
      rcases hE3.out with ⟨_,q⟩|⟨q,_⟩
      ·exact absurd ⟨by omega,by omega⟩ q
      ·exact q
     subst e0
     go_wp2_with (go_at_call 138;refine hZ1.out.mono ?_;rintro e w4 ⟨rfl,hb4⟩)
     go_ret
     exact ⟨rfl,below_then hw3.out hb4⟩
end Go.Proofs.YtcnfchblfcfimaaGreatDoor
namespace Go.Proofs.YtcnfchblfcfimaaGreatDoor
open Go.RowKit Go.Maps
set_option maxHeartbeats 1000000 in
set_option maxRecDepth 100000 in
theorem isType_any:∀ (n:Nat) (x:TT n) (ns ls:Value) (w:World),RT n w x ns ls→TSz n x→Ut.Gu w→Gt w →
  Calls Tryz.prog 98 #[.agg (tvs (thd n x) ns ls)] w fun e w'=>TB (IsT n x) w e w':=by
 intro n
 induction n with
 | zero=>intro x;exact Empty.elim x
 | succ n ih =>
  intro x ns ls w hr hz g gt
  obtain ⟨h,l⟩:=x
  obtain ⟨al,cl,rfl,hc1,hc2⟩:=hr.len
  obtain ⟨an,cn,rfl,hn1,hn2⟩:=hr.1.len
  obtain ⟨b1,hb1⟩:=tells (TFil h l.length)
  have hF:=hide (fun o=>Calls.tb (tisFilled_any n h l (.slice an h.names.length cn) (.slice al l.length cl) (w.alloc o) (hr.below (below_al (Below.refl _ _))) hz (g.below (below_al (Below.refl _ _))) (gt.below (below_al (Below.refl _ _)))) hb1)
  have hb1':=hide hb1
  have hr:=hide hr
  have hz:=hide hz
  have g:=hide g
  have gt:=hide gt
  have ih':=hide ih
  clear ih hb1
  simp only at hn1 hn2 hc1 hc2
  have ml:maxLen=9223372036854775807:=rfl
  have hb0:Hid (∀ o,Below w.heap.size w (w.alloc o)):=fun o=>below_al (Below.refl _ _)
  have hB0:=hide (tx_new w h (.slice an h.names.length cn) (.slice al l.length cl))
  show Calls _ _ #[.agg #[.int .i64 h.kind,.slice an h.names.length cn,.slice al l.length cl]] _ _
  cases b1
  ·go_enter Tryz.func98, Tryz.ntmps98
   go_wp2_with (go_at_call 146;refine (hF.out _).mono ?_;rintro e w1 ⟨rfl,hb1⟩)
   go_ret
   exact TB.no (fun q=>by have:=hb1'.out.2 q.1;cases this) (below_then (hb0.out _) hb1)
  ·go_enter Tryz.func98, Tryz.ntmps98
   go_wp2_with fail
   refine (hF.out _).mono ?_
   rintro e w1 ⟨rfl,hb1⟩
   have hw1:=hide (below_then (hb0.out _) hb1)
   obtain ⟨c0,c1,c2⟩:=(hB0.out.below hb1).cells
   go_wp2_with fail
   go_loopw [11] (fun i w'=>∃ k:Nat,i=.int .i64 k∧k≤l.length∧Hid ((∀ y∈l.take k,IsT n y)∧Below w.heap.size w w')) (fun i _=>l.length - (intOf i).toNat)
   case atStart=>exact ⟨0,rfl,Nat.zero_le _,(fun y hy=>by simp at hy),hw1.out⟩
   case round =>
    clear c0 c1 c2
    obtain ⟨k,rfl,hk,H⟩:=hrel
    by_cases hkl:k<l.length
    ·have hki:(k:Int)<(l.length:Int):=by omega
     have hk63:(k:Int)<9223372036854775807:=by omega
     obtain ⟨b,o,c,he,hbl,hlc,hcm,ns',ls',hrg,hrd⟩:=hr.out.at k hkl
     have he':=Value.slice.inj he
     obtain ⟨rfl,_,rfl⟩:=he'
     clear he
     obtain ⟨q0,q1,q2⟩:=range3 (rangeAt_below hrg H.out.2 hbl)
     have hrd':=hide (hrd.below H.out.2)
     obtain ⟨a1,m1,d1,a2,m2,d2,rfl,rfl⟩:=hrd.shape
     clear hrg hrd
     obtain ⟨bk,hbk⟩:=tells (IsT n l[k])
     have hcall:=hide (fun o=>Calls.tb (ih'.out l[k] (.slice a1 m1 d1) (.slice a2 m2 d2) (wr.alloc o) (hrd'.out.below (below_al (Below.refl _ _))) (hz.out.2.2 _ (List.getElem_mem _)) (g.out.below (below_al H.out.2)) (gt.out.below (below_al H.out.2))) hbk)
     have hbk':=hide hbk
     clear hbk
     cases bk
     ·go_wp2_with (go_at_call 98;refine (hcall.out _).mono ?_;rintro e w3 ⟨rfl,hb3⟩)
      go_ret
      exact TB.no (fun q=>by have:=hbk'.out.2 (q.2 _ (List.getElem_mem _));cases this) (below_then (below_al H.out.2) hb3)
     ·go_wp2_with (go_at_call 98;refine (hcall.out _).mono ?_;rintro e w3 ⟨rfl,hb3⟩)
      exact ⟨⟨k + 1,by go_num,by omega,mem_take_more hkl H.out.1 (hbk'.out.1 (by simp)),below_then (below_al H.out.2) hb3⟩,by simp [intOf];omega⟩
    ·have hki:¬ ((k:Int)<(l.length:Int)):=by omega
     have hE:=H.out.1
     rw [List.take_of_length_le (by omega)] at hE
     have hE':=hide hE
     clear hE
     go_wp2_with fail
     go_ret
     exact TB.yes ⟨hb1'.out.1 (by simp),hE'.out⟩ H.out.2
def TSht:(n:Nat)→TT n→Prop
 | 0,_=>False
 | n + 1,x=>x.1.names.length≤256∧(∀ s∈x.1.names,s.size≤64)∧∀ y∈x.2,TSht n y
set_option maxHeartbeats 1000000 in
set_option maxRecDepth 100000 in
theorem tisShort_any:∀ (n:Nat) (x:TT n) (ns ls:Value) (w:World),RT n w x ns ls→TSz n x →
  Calls Tryz.prog 99 #[.agg (tvs (thd n x) ns ls)] w fun e w'=>TB (TSht n x) w e w':=by
 intro n
 induction n with
 | zero=>intro x;exact Empty.elim x
 | succ n ih =>
  intro x ns ls w hr hz
  obtain ⟨h,l⟩:=x
  obtain ⟨al,cl,rfl,hc1,hc2⟩:=hr.len
  obtain ⟨an,cn,rfl,hn1,hn2⟩:=hr.1.len
  have hr:=hide hr
  have hz:=hide hz
  have ih':=hide ih
  clear ih
  simp only at hn1 hn2 hc1 hc2
  have ml:maxLen=9223372036854775807:=rfl
  have hb0:Hid (∀ o,Below w.heap.size w (w.alloc o)):=fun o=>below_al (Below.refl _ _)
  have hB0:=hide (tx_new w h (.slice an h.names.length cn) (.slice al l.length cl))
  show Calls _ _ #[.agg #[.int .i64 h.kind,.slice an h.names.length cn,.slice al l.length cl]] _ _
  by_cases h2:(256:Int)<(h.names.length:Int)
  ·have hx:Hid (¬ TSht (n + 1) (h,l)):=fun q=>by have:=q.1;simp only at this;omega
   go_enter Tryz.func99, Tryz.ntmps99
   go_wp2_with fail
   go_ret
   exact TB.no hx.out (hb0.out _)
  ·have h2':=hide h2
   go_enter Tryz.func99, Tryz.ntmps99
   go_wp2_with fail
   clear h2
   go_loopw [14] (fun i w'=>∃ k:Nat,i=.int .i64 k∧k≤h.names.length∧Hid ((∀ y∈h.names.take k,y.size≤64)∧Below w.heap.size w w'∧Tx w' w.heap.size h (.slice an h.names.length cn) (.slice al l.length cl))) (fun i _=>h.names.length - (intOf i).toNat)
   case atStart=>exact ⟨0,rfl,Nat.zero_le _,(fun y hy=>by simp at hy),hb0.out _,hB0.out⟩
   case round =>
    obtain ⟨k,rfl,hk,H⟩:=hrel
    obtain ⟨c0,c1,c2⟩:=H.out.2.2.cells
    by_cases hkl:k<h.names.length
    ·have hki:(k:Int)<(h.names.length:Int):=by omega
     have hk63:(k:Int)<9223372036854775807:=by omega
     obtain ⟨b,o,c,he,hbl,hlc,hcm,hcell⟩:=hr.out.1.at k hkl
     have he':=Value.slice.inj he
     obtain ⟨rfl,_,rfl⟩:=he'
     clear he
     have hcell:=(H.out.2.1.cell (p:=⟨b,o + k,none⟩) hbl).trans hcell
     obtain ⟨s,hs⟩:∃ s,Hid (h.names[k]=s):=⟨_,hide rfl⟩
     simp only at hcell
     rw [hs.out] at hcell
     by_cases h64:(64:Int)<(s.size:Int)
     ·have hx:Hid (¬ TSht (n + 1) (h,l)):=fun q=>by have:=q.2.1 _ (List.getElem_mem hkl);simp only [hs.out] at this;omega
      go_wp2_with fail
      go_ret
      exact TB.no hx.out H.out.2.1
     ·go_wp2_with fail
      exact ⟨⟨k + 1,by go_num,by omega,mem_take_more hkl H.out.1 (by rw [hs.out];omega),H.out.2⟩,by simp [intOf];omega⟩
    ·have hki:¬ ((k:Int)<(h.names.length:Int)):=by omega
     have hE:=H.out.1
     rw [List.take_of_length_le (by omega)] at hE
     have hE':=hide hE
     clear hE
     have hH:=hide H.out.2.1
     go_wp2_with fail
     go_loopw [25] (fun i w'=>∃ k:Nat,i=.int .i64 k∧k≤l.length∧Hid ((∀ y∈l.take k,TSht n y)∧Below w.heap.size w w')) (fun i _=>l.length - (intOf i).toNat)
     case atStart=>exact ⟨0,rfl,Nat.zero_le _,(fun y hy=>by simp at hy),hH.out⟩
     case round =>
      clear c0 c1 c2 H hki hk
      obtain ⟨k,rfl,hk,H⟩:=hrel
      by_cases hkl:k<l.length
      ·have hki:(k:Int)<(l.length:Int):=by omega
       have hk63:(k:Int)<9223372036854775807:=by omega
       obtain ⟨b,o,c,he,hbl,hlc,hcm,ns',ls',hrg,hrd⟩:=hr.out.at k hkl
       have he':=Value.slice.inj he
       obtain ⟨rfl,_,rfl⟩:=he'
       clear he
       obtain ⟨q0,q1,q2⟩:=range3 (rangeAt_below hrg H.out.2 hbl)
       have hrd':=hide (hrd.below H.out.2)
       obtain ⟨a1,m1,d1,a2,m2,d2,rfl,rfl⟩:=hrd.shape
       clear hrg hrd
       obtain ⟨bk,hbk⟩:=tells (TSht n l[k])
       have hcall:=hide (fun o=>Calls.tb (ih'.out l[k] (.slice a1 m1 d1) (.slice a2 m2 d2) (wr.alloc o) (hrd'.out.below (below_al (Below.refl _ _))) (hz.out.2.2 _ (List.getElem_mem _))) hbk)
       have hbk':=hide hbk
       clear hbk
       cases bk
       ·go_wp2_with (go_at_call 99;refine (hcall.out _).mono ?_;rintro e w3 ⟨rfl,hb3⟩)
        go_ret
        exact TB.no (fun q=>by have:=hbk'.out.2 (q.2.2 _ (List.getElem_mem _));cases this) (below_then (below_al H.out.2) hb3)
       ·go_wp2_with (go_at_call 99;refine (hcall.out _).mono ?_;rintro e w3 ⟨rfl,hb3⟩)
        exact ⟨⟨k + 1,by go_num,by omega,mem_take_more hkl H.out.1 (hbk'.out.1 (by simp)),below_then (below_al H.out.2) hb3⟩,by simp [intOf];omega⟩
      ·have hki:¬ ((k:Int)<(l.length:Int)):=by omega
       have hF:=H.out.1
       rw [List.take_of_length_le (by omega)] at hF
       have hF':=hide hF
       clear hF
       go_wp2_with fail
       go_ret
       exact TB.yes ⟨by have:=h2'.out;simp only;omega,hE'.out,hF'.out⟩ H.out.2
def TWin (n:Nat) (x:TT n):Prop:=TSht n x∧tdep n x≤16∧tsiz n x≤4096
def TChk (n:Nat) (x:TT n) (e:Int):Prop:=(e=110∧¬ IsT n x)∨(e=2∧IsT n x∧¬ TWin n x)∨(e=0∧IsT n x∧TWin n x)
structure TRd (n:Nat) (w:World) (x:TT n) (ns ls:Value):Prop where
 rd:RT n w x ns ls
 sz:TSz n x
 le:tsiz n x≤200000
set_option maxHeartbeats 1000000 in
set_option maxRecDepth 100000 in
theorem tcheck_any (n:Nat) (x:TT n) (ns ls:Value) (w:World) (hr:TRd n w x ns ls) (g:Ut.Gu w) (gt:Gt w) (E:Int) (hE:TChk n x E) :
  Calls Tryz.prog 52 #[.agg (tvs (thd n x) ns ls)] w fun e w'=>e=.returned (.int .i64 E)∧Below w.heap.size w w':=by
 obtain ⟨a1,m1,d1,a2,m2,d2,rfl,rfl⟩:=hr.rd.shape
 obtain ⟨h,hh⟩:∃ h,thd n x=h:=⟨_,rfl⟩
 obtain ⟨b1,hb1⟩:=tells (IsT n x)
 obtain ⟨b2,hb2⟩:=tells (TSht n x)
 have hV:=hide (fun o=>Calls.tb (isType_any n x (.slice a1 m1 d1) (.slice a2 m2 d2) (w.alloc o) (hr.rd.below (below_al (Below.refl _ _))) hr.sz (g.below (below_al (Below.refl _ _))) (gt.below (below_al (Below.refl _ _)))) hb1)
 have hS:=hide (fun W (hb:Below w.heap.size w W)=>Calls.tb (tisShort_any n x (.slice a1 m1 d1) (.slice a2 m2 d2) W (hr.rd.below hb) hr.sz) hb2)
 have hD:=hide (fun W (hb:Below w.heap.size w W)=>tdepth_any n x (.slice a1 m1 d1) (.slice a2 m2 d2) W (hr.rd.below hb) hr.le)
 have hZ:=hide (fun W (hb:Below w.heap.size w W)=>tsize_any n x (.slice a1 m1 d1) (.slice a2 m2 d2) W (hr.rd.below hb) hr.le)
 have hb0:Hid (∀ o,Below w.heap.size w (w.alloc o)):=fun o=>below_al (Below.refl _ _)
 obtain ⟨D,hDD⟩:∃ D,tdep n x=D:=⟨_,rfl⟩
 obtain ⟨Z,hZZ⟩:∃ Z,tsiz n x=Z:=⟨_,rfl⟩
 have hE':=hide (show (E=110∧b1=false)∨(E=2∧b1=true∧¬ (b2=true∧D≤16∧Z≤4096))∨(E=0∧b1=true∧b2=true∧D≤16∧Z≤4096) by
  unfold TChk TWin at hE
  rw [hDD,hZZ,←hb1,←hb2] at hE
  simpa using hE)
 rw [hh] at hV hS hD hZ ⊢
 rw [hDD] at hD
 rw [hZZ] at hZ
 have hB0:=hide (tx_new w h (.slice a1 m1 d1) (.slice a2 m2 d2))
 clear hr g gt hh hDD hZZ hE hb1 hb2
 show Calls _ _ #[.agg #[.int .i64 h.kind,.slice a1 m1 d1,.slice a2 m2 d2]] _ _
 cases b1
 ·have e0:E=110:=by rcases hE'.out with ⟨q,_⟩|⟨_,q,_⟩|⟨_,q,_⟩;exact q;cases q;cases q
  subst e0
  go_enter Tryz.func52, Tryz.ntmps52
  go_wp2_with (go_at_call 98;refine (hV.out _).mono ?_;rintro e w1 ⟨rfl,hb1⟩)
  go_ret
  exact ⟨rfl,below_then (hb0.out _) hb1⟩
 ·have hE2:=hide (show (E=2∧¬ (b2=true∧D≤16∧Z≤4096))∨(E=0∧b2=true∧D≤16∧Z≤4096) by
   rcases hE'.out with ⟨_,q⟩|⟨q,_,r⟩|⟨q,_,r⟩
   ·cases q
   ·exact Or.inl ⟨q,r⟩
   ·exact Or.inr ⟨q,r⟩)
  clear hE'
  go_enter Tryz.func52, Tryz.ntmps52
  go_wp2_with fail
  refine (hV.out _).mono ?_
  rintro e w1 ⟨rfl,hb1⟩
  have hw1:=hide (below_then (hb0.out _) hb1)
  have hB1:=hide (hB0.out.below hb1)
  obtain ⟨c0,c1,c2⟩:=hB1.out.cells
  have hS1:=hide (hS.out w1 hw1.out)
  cases b2
  ·have e0:E=2:=by rcases hE2.out with ⟨q,_⟩|⟨_,q,_⟩;exact q;cases q
   subst e0
   go_wp2_with (go_at_call 99;refine hS1.out.mono ?_;rintro e w2 ⟨rfl,hb2⟩)
   go_ret
   exact ⟨rfl,below_then hw1.out hb2⟩
  ·have hE3:=hide (show (E=2∧¬ (D≤16∧Z≤4096))∨(E=0∧D≤16∧Z≤4096) by
    rcases hE2.out with ⟨q,r⟩|⟨q,_,r⟩
    ·exact Or.inl ⟨q,fun s=>r ⟨rfl,s⟩⟩
    ·exact Or.inr ⟨q,r⟩)
   clear hE2
   go_wp2_with fail
   refine hS1.out.mono ?_
   rintro e w2 ⟨rfl,hb2⟩
   have hw2:=hide (below_then hw1.out hb2)
   have hB2:=hide (hB1.out.below hb2)
   clear c0 c1 c2
   obtain ⟨c0,c1,c2⟩:=hB2.out.cells
   have hD1:=hide (hD.out w2 hw2.out)
   by_cases hd:(16:Int)<(D:Int)
   ·have e0:E=2:=by rcases hE3.out with ⟨q,_⟩|⟨_,q,_⟩;exact q;omega
    subst e0
    go_wp2_with (go_at_call 100;refine hD1.out.mono ?_;rintro e w3 ⟨rfl,hb3⟩)
    go_ret
    exact ⟨rfl,below_then hw2.out hb3⟩
   ·go_wp2_with fail
    refine hD1.out.mono ?_
    rintro e w3 ⟨rfl,hb3⟩
    have hw3:=hide (below_then hw2.out hb3)
    have hB3:=hide (hB2.out.below hb3)
    clear c0 c1 c2
    obtain ⟨c0,c1,c2⟩:=hB3.out.cells
    have hZ1:=hide (hZ.out w3 hw3.out)
    by_cases hz:(4096:Int)<(Z:Int)
    ·have e0:E=2:=by rcases hE3.out with ⟨q,_⟩|⟨_,_,q⟩;exact q;omega
     subst e0
     go_wp2_with (go_at_call 101;refine hZ1.out.mono ?_;rintro e w4 ⟨rfl,hb4⟩)
     go_ret
     exact ⟨rfl,below_then hw3.out hb4⟩
    ·have e0:E=0:=by
      rcases hE3.out with ⟨_,q⟩|⟨q,_⟩
      ·exact absurd ⟨by omega,by omega⟩ q
      ·exact q
     subst e0
     go_wp2_with (go_at_call 101;refine hZ1.out.mono ?_;rintro e w4 ⟨rfl,hb4⟩)
     go_ret
     exact ⟨rfl,below_then hw3.out hb4⟩
end Go.Proofs.YtcnfchblfcfimaaGreatDoor
namespace Go.Proofs.YtcnfchblfcfimaaGreatDoor
open Go.RowKit Go.Maps
theorem below_dr {B:Nat} {w W:World} (h:Below B w W):Below B w W.drew:=⟨h.os,h.tape,h.output,h.size,h.block⟩
end Go.Proofs.YtcnfchblfcfimaaGreatDoor
