import Derived.Test.YtcnfchblfcfimaaGreatDoorZh22
import Derived.Test.YtcnfchblfcfimaaGreatDoorUZh13
import Derived.Maps.OwnSet
import Derived.StringKeys
import Derived.Test.YtcnfchblfcfimaaGreatDoorZh24
import Derived.Test.YtcnfchblfcfimaaGreatDoorZh02
set_option linter.all false
set_option maxHeartbeats 4000000
set_option maxRecDepth 100000
namespace Go.Proofs.YtcnfchblfcfimaaGreatDoor
open Proofs.Tryz RowKit
section
open Go.RowKit Go.Maps
def okT(s:ByteArray):Bool:=Ut.okT (Ut.bl s)
def oB(l:List ByteArray):Prop:=(∀s∈l,okT s=true)/\l.Nodup
theorem DZ:Keyed prog 9:=string_keyed Tryz.underlying9
theorem Cl(w:World):(zeroValue 204).run prog w=.ok (.agg #[]) w:=by kernel_rfl
def Sn(l:List ByteArray)(k:Nat):DataW Unit:=setOf (.agg []) ((l.take k).map fun s=>Lit.string s.data.toList)
theorem IR(l:List ByteArray):Sn l 0=.map []:=by simp[Sn,setOf]
theorem IS(l:List ByteArray)(k:Nat)(h:k<l.length):Sn l (k+1)=(Sn l k).put (.string l[k].data.toList) (.agg []):=by unfold Sn;rw[List.take_succ_eq_append_getElem h,List.map_append,List.map_singleton,setOf_snoc]
theorem EW(l:List ByteArray)(k:Nat)(s:ByteArray):Maps.has (Sn l k) (.string s.data.toList)=true↔s∈l.take k:=by
 unfold Sn;rw[has_setOf _ _ _ (fun y hy=>by obtain⟨_,_,rfl⟩:=List.mem_map.1 hy;trivial),List.any_map];rw[List.any_eq_true];constructor
 ·rintro⟨y,hy,e⟩
  have:y.data.toList=s.data.toList:=by simpa [Lit.sameKey] using e
  have:y=s:=ByteArray.ext (Array.toList_inj.1 this);rw[<-this];exact hy
 intro h;exact⟨s,h,by simp[Lit.sameKey]⟩
theorem AD{l:List ByteArray}{k:Nat}(h:k<l.length)(hm:l[k]∈l.take k):¬l.Nodup:=by intro hn;obtain⟨j,hj,e⟩:=List.mem_iff_getElem.1 hm;rw[List.length_take]at hj;rw[List.getElem_take]at e;have:=(List.getElem_inj hn).1 e;omega
theorem DC{l:List ByteArray}{k:Nat}(h:k<l.length)(hn:oB (l.take k))(hm:¬l[k]∈l.take k)(eS:okT l[k]=true):oB (l.take (k+1)):=by
 rw[List.take_succ_eq_append_getElem h];refine⟨fun s hs=>?_,?_⟩
 ·rcases List.mem_append.1 hs with q|q
  ·exact hn.1 s q
  rw[List.mem_singleton.1 q];exact eS
 rw[List.nodup_append];refine⟨hn.2,by simp,fun a ha b hb=>?_⟩;rw[List.mem_singleton.1 hb];intro e;rw[e]at ha;exact hm ha
theorem qF{w W:World}{k:TypeId}{b n:Nat}{D:DataW Unit}{R:Value->Option (DataW Unit×List MemPlace)}(h:w.ownsMap prog k R b n D)(hb:Below w.heap.size w W):W.ownsMap prog k R b n D:=by
 obtain⟨es,clock,h1,F,hs,rfl⟩:=h;have bm:b<w.heap.size:=by
  by_cases bm:b<w.heap.size
  ·exact bm
  have hn:w.heap[b]?=none:=by simp;omega
  rw[hn]at h1;cases h1
 exact⟨es,clock,(hb.block b bm).trans h1,F,hs,rfl⟩
theorem tH(v:Value)(l:List ByteArray)(w:World)(hv:NL w v l)(g:Ut.Gu w)(hz:l.length<=281474976710656/\∀s∈l,s.size<=281474976710656):Calls prog 199 #[v] w fun e w'=>TB (oB l) w e w':=by
 have Ca:=@run_makeMap prog;obtain⟨av,cv,rfl,Hv,Lu⟩:=hv.len;have hv:=aa hv;have g:=aa g;have hz:=aa hz;have ml:maxLen=9223372036854775807:=rfl;go_enter func199,ntmps199;go_wp2_with fail
 go_loopw [11] (fun i wr=>∃k:Nat,i=.int .i64 k/\k<=l.length/\Hid (oB (l.take k)/\wr.ownsMap prog 9 (unitElem (H:=Unit)) w.heap.size k (Sn l k)/\Below w.heap.size w wr/\w.heap.size<wr.heap.size)) (fun i _=>l.length-(intOf i).toNat)
 case atStart=>exact⟨0,rfl,Nat.zero_le _,⟨(fun s hs=>by simp at hs),by simp⟩,by rw[IR];exact World.ownsMap_made _ _ _ _,ab af,by simp⟩
 case round=>
  obtain⟨k,rfl,hk,H⟩:=hrel;by_cases aE:k<l.length
  ·have bF:(k:Int)<(l.length:Int):=by omega
   have cR:(k:Int)<9223372036854775807:=by omega
   obtain⟨b,o,c,he,cQ,gq,iE,hcell⟩:=hv.out.at k aE;have cy:=Value.slice.inj he;obtain⟨rfl,_,rfl⟩:=cy;clear he;have hcell:=(H.out.2.2.1.cell (p:=⟨b,o+k,none⟩) cQ).trans hcell;obtain⟨s,hs⟩:∃s,l[k]=s:=⟨_,rfl⟩
   have Ni:s.size<=281474976710656:=by rw[<-hs];exact hz.out.2 _ (List.getElem_mem _)
   have qL:keyOf prog 9 (.string s)=some (.string s.data.toList):=WideMaps.keyOf_string_mk Tryz.underlying9 (by omega);have qL:=aa qL;have fZ:=aa (fun o=>Ut.valid_any s (wr.alloc o) (g.out.below (ab H.out.2.2.1)) (by omega));have vM:=aa (IS l k aE);have VJ:=aa Ni;rw[hs]at hcell vM;have eK:=aa hs;clear hs Ni;by_cases hm:s∈l.take k
   ·have Im:=(EW l k s).2 hm
    have iH:¬oB l:=fun q=>AD aE (by rw[eK.out];exact hm) q.2;have xv:=aa iH;clear iH hm;go_wp2_with(at_lookup;refine wpList_lookup_own_unit _ rfl _ _ 203 rfl 9 204 DZ Tryz.underlying203 (Cl _) w.heap.size k _ rfl H.out.2.1 _ _ rfl qL.out ?_;rw[Im])
    go_ret;exact TB.no xv.out (ab H.out.2.2.1)
   have Im:Maps.has (Sn l k) (.string s.data.toList)=false:=by
    cases hq:Maps.has (Sn l k) (.string s.data.toList)
    ·rfl
    exact absurd ((EW l k s).1 hq) hm
   cases eS:okT s
   ·have fZ:=aa (fun o=>show Calls prog 129 #[.string s] (wr.alloc o) fun r w'=>r=.returned (.bool false)/\Below (wr.alloc o).heap.size (wr.alloc o) w' from by rw[<-eS];exact fZ.out o)
    have iH:¬oB l:=fun q=>by have:=q.1 l[k] (List.getElem_mem _);rw[eK.out,eS]at this;cases this
    have xv:=aa iH;clear iH hm eS;go_wp2_with(first|(at_lookup;refine wpList_lookup_own_unit _ rfl _ _ 203 rfl 9 204 DZ Tryz.underlying203 (Cl _) w.heap.size k _ rfl H.out.2.1 _ _ rfl qL.out ?_;rw[Im])|(go_at_call 129;refine(fZ.out _).mono ?_;rintro e w1 ⟨rfl,ai⟩))
    go_ret;exact TB.no xv.out (ac (ab H.out.2.2.1) ai)
   have fZ:=aa (fun o=>show Calls prog 129 #[.string s] (wr.alloc o) fun r w'=>r=.returned (.bool true)/\Below (wr.alloc o).heap.size (wr.alloc o) w' from by rw[<-eS];exact fZ.out o);have Nm:=aa (DC aE H.out.1 (by rw[eK.out];exact hm) (by rw[eK.out];exact eS));clear hm eS;have Gi:k<maxLen:=by omega
   go_wp2_with(first|(at_lookup;refine wpList_lookup_own_unit _ rfl _ _ 203 rfl 9 204 DZ Tryz.underlying203 (Cl _) w.heap.size k _ rfl H.out.2.1 _ _ rfl qL.out ?_;rw[Im])|(go_at_call 129;refine(fZ.out _).mono ?_;rintro e w1 ⟨rfl,ai⟩;have Pz:=qF (World.ownsMap.alloc H.out.2.1 _) ai)|(at_mapUpdate;refine wpList_mapUpdate_own _ rfl _ _ _ 203 rfl 9 204 DZ Tryz.underlying203 (unitElem (H:=Unit)) w.heap.size k _ rfl Pz Gi _ _ _ rfl rfl qL.out _ [] unitElem_mk ?_;intro w2 Ev hgrow2))
   refine⟨⟨k+1,by go_num,by omega,Nm.out,by rw[vM.out];exact Ev,?_,?_⟩,by simp[intOf];omega⟩
   ·exact(ac (ab H.out.2.2.1) ai).grown hgrow2 (by have h1:=ai.size;have h3:=H.out.2.2.2;simp at h1;omega) (fun j hj=>by cases hj;exact Nat.le_refl _)
   have h1:=ai.size;have h2:=hgrow2.size;have h3:=H.out.2.2.2;simp at h1;omega
  have bF:¬((k:Int)<(l.length:Int)):=by omega
  have hE:=H.out.1;rw[List.take_of_length_le (by omega)]at hE;have iJ:=aa hE;clear hE;go_wp2_with fail
  go_ret;exact TB.yes iJ.out H.out.2.2.1
end
def bI(h:Hd)(m:Nat):Prop:=(h.kind=3->eI h.neg h.dig h.exp=true)/\(h.kind=5->okT h.text=true)/\(h.kind=8->h.names.length=m/\oB h.names)/\(h.kind=9->okT h.text=true/\m=1)
theorem gK{w w1:World}{c1:Array Value}{T1:TypeId}(hb:Below (w.alloc (.cells c1 T1)).heap.size (w.alloc (.cells c1 T1)) w1)(j:Nat):w1.cell? ⟨w.heap.size,j,none⟩=c1[j]?:=by have h1:(w.alloc (.cells c1 T1)).heap=w.heap.push (.cells c1 T1):=rfl;have b1:=hb.block w.heap.size (by rw[h1];simp);rw[h1,Array.getElem?_push_size]at b1;unfold World.cell?;rw[b1];rfl
theorem dX(p:Prop):∃b:Bool,b=true↔p:=by
 by_cases h:p
 ·exact⟨true,by simp[h]⟩
 exact⟨false,by simp[h]⟩
theorem Calls.tb{f:FuncId}{args:Array Value}{w:World}{p:Prop}{b:Bool}(h:Calls prog f args w fun e w'=>TB p w e w')(hb:b=true↔p):Calls prog f args w fun e w'=>e=.returned (.bool b)/\Below w.heap.size w w':=by
 refine h.mono ?_;rintro e w' ⟨c,rfl,hc,hw⟩;have:c=b:=by rw[Bool.eq_iff_iff];exact Iff.trans hc hb.symm
 rw[this];exact⟨rfl,hw⟩
theorem sI(n:Nat)(h:Hd)(l:List (VT n))(ns ls:Value)(w:World)(hr:RD (n+1) w (h,l) ns ls)(hz:Sz (n+1) (h,l))(g:Ut.Gu w):Calls prog 165 #[.agg (aP h ns ls)] w fun e w'=>TB (bI h l.length) w e w':=by
 obtain⟨al,cl,rfl,bB,br⟩:=hr.len;obtain⟨an,cn,rfl,cm,df⟩:=hr.1.len;have ml:maxLen=9223372036854775807:=rfl;simp only at bB br cm df;obtain⟨z1,z2,z3,z4,z5⟩:=hz;simp only at z1 z2 z3 z4;have dM:=aa (eg w h (.slice an h.names.length cn) (.slice al l.length cl));have hV:=aa (fun W (hb:Below w.heap.size w W)=>Ut.valid_any h.text W (g.below hb) (by omega));have hN:=aa (fun W (hb:Below w.heap.size w W)=>tH (.slice an h.names.length cn) h.names W (hr.1.below hb) (g.below hb) ⟨z3,z4⟩);have db:Hid (∀o,Below w.heap.size w (w.alloc o)):=fun o=>ab af;clear hr g z4 z5;show Calls _ _ #[.agg #[.int .i64 h.kind,.bool h.flag,.bool h.neg,.string h.dig,.int .i64 h.exp,.int .u64 h.bits,.string h.text,.slice an h.names.length cn,.slice al l.length cl]] _ _;by_cases k3:h.kind=3
 ·obtain⟨b,hb⟩:=dX (eI h.neg h.dig h.exp=true)
  have hx:=aa (show bI h l.length↔b=true by rw[hb];simp[bI,k3]);have hC:Hid (∀W,Calls prog 160 #[.agg #[.bool h.neg,.string h.dig,.int .i64 h.exp]] W fun e w'=>e=.returned (.int .i64 (bif b then 0 else 10))/\Below W.heap.size W w'):=fun W=>by
   cases b
   ·exact vC _ _ _ W (by omega) (by cases q:eI h.neg h.dig h.exp;rfl;exact absurd (hb.2 q) (by simp))
   exact fu _ _ _ W (by omega) (hb.1 rfl)
  rw[k3];clear hb;cases b
  ·go_enter func165,ntmps165
   go_wp2_with(go_at_call 160;refine(hC.out _).mono ?_;rintro e w1 ⟨rfl,ai⟩)
   go_ret;exact TB.no (fun q=>by have:=hx.out.1 q;cases this) (ac (db.out _) ai)
  go_enter func165,ntmps165;go_wp2_with(go_at_call 160;refine(hC.out _).mono ?_;rintro e w1 ⟨rfl,ai⟩)
  go_ret;exact TB.yes (hx.out.2 (by simp)) (ac (db.out _) ai)
 by_cases k5:h.kind=5
 ·have hx:=aa (show bI h l.length↔okT h.text=true by simp[bI,k5])
  have hV:=aa (fun o=>hV.out (w.alloc o) (db.out o));rw[k5];cases hk:okT h.text
  ·rw[hk]at hx
   have hV:Hid (∀o,Calls prog 129 #[.string h.text] (w.alloc o) fun r w'=>r=.returned (.bool false)/\Below (w.alloc o).heap.size (w.alloc o) w'):=fun o=>by rw[<-hk];exact hV.out o
   clear hk;go_enter func165,ntmps165;go_wp2_with(go_at_call 129;refine(hV.out _).mono ?_;rintro e w1 ⟨rfl,ai⟩)
   go_ret;exact TB.no (fun q=>by have:=hx.out.1 q;cases this) (ac (db.out _) ai)
  rw[hk]at hx;have hV:Hid (∀o,Calls prog 129 #[.string h.text] (w.alloc o) fun r w'=>r=.returned (.bool true)/\Below (w.alloc o).heap.size (w.alloc o) w'):=fun o=>by rw[<-hk];exact hV.out o
  clear hk;go_enter func165,ntmps165;go_wp2_with(go_at_call 129;refine(hV.out _).mono ?_;rintro e w1 ⟨rfl,ai⟩)
  go_ret;exact TB.yes (hx.out.2 (by simp)) (ac (db.out _) ai)
 by_cases k8:h.kind=8
 ·by_cases aL:(h.names.length:Int)=(l.length:Int)
  ·have qJ:h.names.length=l.length:=by omega
   have hx:=aa (show bI h l.length↔oB h.names by simp[bI,k8,qJ]);have hN:=aa (fun o=>hN.out (w.alloc o) (db.out o));obtain⟨b,hb⟩:=dX (oB h.names);have hN:=aa (fun o=>Calls.tb (hN.out o) hb);have hb:=aa hb;rw[k8];rw[qJ]at hN ⊢;clear aL qJ;cases b
   ·go_enter func165,ntmps165
    go_wp2_with(go_at_call 199;refine(hN.out _).mono ?_;rintro e w1 ⟨rfl,ai⟩)
    go_ret;exact TB.no (fun q=>by have:=hb.out.2 (hx.out.1 q);cases this) (ac (db.out _) ai)
   go_enter func165,ntmps165;go_wp2_with(go_at_call 199;refine(hN.out _).mono ?_;rintro e w1 ⟨rfl,ai⟩)
   go_ret;exact TB.yes (hx.out.2 (hb.out.1 (by simp))) (ac (db.out _) ai)
  have hx:Hid (¬bI h l.length):=by intro q;have:=(q.2.2.1 k8).1;omega
  rw[k8];go_enter func165,ntmps165;go_wp2_with fail
  go_ret;exact TB.no hx.out (db.out _)
 by_cases k9:h.kind=9
 ·have hV:=aa (fun o=>hV.out (w.alloc o) (db.out o))
  rw[k9];cases hk:okT h.text
  ·have hx:Hid (¬bI h l.length):=by
    intro q;have:=(q.2.2.2 k9).1;rw[hk]at this;cases this
   have hV:Hid (∀o,Calls prog 129 #[.string h.text] (w.alloc o) fun r w'=>r=.returned (.bool false)/\Below (w.alloc o).heap.size (w.alloc o) w'):=fun o=>by rw[<-hk];exact hV.out o
   clear hk;go_enter func165,ntmps165;go_wp2_with(go_at_call 129;refine(hV.out _).mono ?_;rintro e w1 ⟨rfl,ai⟩)
   go_ret;exact TB.no hx.out (ac (db.out _) ai)
  have hx:=aa (show bI h l.length↔l.length=1 by simp[bI,k9,hk]);have hV:Hid (∀o,Calls prog 129 #[.string h.text] (w.alloc o) fun r w'=>r=.returned (.bool true)/\Below (w.alloc o).heap.size (w.alloc o) w'):=fun o=>by rw[<-hk];exact hV.out o
  clear hk;by_cases h1:l.length=1
  ·rw[h1]at hx ⊢
   have bO:=aa (eg w h (.slice an h.names.length cn) (.slice al 1 cl));rw[h1]at dM;go_enter func165,ntmps165;go_wp2_with(go_at_call 129;refine(hV.out _).mono ?_;rintro e w1 ⟨rfl,ai⟩;have c8:=gK ai 8)
   go_ret;exact TB.yes (hx.out.2 (by simp)) (ac (db.out _) ai)
  have h1i:¬(l.length:Int)=1:=by omega
  have h1d:decide ((l.length:Int)=1)=false:=decide_eq_false h1i;have h1d':=aa h1d;have hx:Hid (¬bI h l.length):=fun q=>h1 (hx.out.1 q);clear h1;go_enter func165,ntmps165;go_wp2_with(go_at_call 129;refine(hV.out _).mono ?_;rintro e w1 ⟨rfl,ai⟩;have c8:=gK ai 8)
  go_ret
  first|exact TB.no hx.out (ac (db.out _) ai)|(show TB _ _ (.returned (.bool (decide ((l.length:Int)=1)))) _;rw[h1d'.out];exact TB.no hx.out (ac (db.out _) ai))
 have hx:=aa (show bI h l.length by simp[bI,k3,k5,k8,k9]);go_enter func165,ntmps165;go_wp2_with fail
 go_ret;exact TB.yes hx.out (db.out _)
def iL:(n:Nat)->VT n->Prop
 |0,_=>False
 |n+1,x=>dk x.1 x.2/\bI x.1 x.2.length/\∀y∈x.2,iL n y
theorem bS{α:Type}{p:α->Prop}{l:List α}{k:Nat}(h:k<l.length)(hp:∀y∈l.take k,p y)(hq:p l[k]):∀y∈l.take (k+1),p y:=by
 rw[List.take_succ_eq_append_getElem h];intro y hy;rcases List.mem_append.1 hy with q|q
 ·exact hp y q
 rw[List.mem_singleton.1 q];exact hq
theorem uW:∀(n:Nat) (x:VT n) (ns ls:Value) (w:World),RD n w x ns ls->Sz n x->Ut.Gu w ->
  Calls prog 135 #[.agg (aP (aI n x) ns ls)] w fun e w'=>TB (iL n x) w e w':=by
 intro n
 induction n with
 |zero=>intro x;exact Empty.elim x
 |succ n ih=>
  intro x ns ls w hr hz g;obtain⟨h,l⟩:=x;obtain⟨al,cl,rfl,bB,br⟩:=hr.len;obtain⟨an,cn,rfl,cm,df⟩:=hr.1.len;have ml:maxLen=9223372036854775807:=rfl;simp only at bB br cm df;obtain⟨b1,ai⟩:=dX (dk h l);obtain⟨b2,aq⟩:=dX (bI h l.length);have hA:=aa (fun W (hb:Below w.heap.size w W)=>Calls.tb (xg n h l (.slice an h.names.length cn) (.slice al l.length cl) W (hr.below hb)) ai);have hF:=aa (fun W (hb:Below w.heap.size w W)=>Calls.tb (sI n h l (.slice an h.names.length cn) (.slice al l.length cl) W (hr.below hb) hz (g.below hb)) aq);have db:Hid (∀o,Below w.heap.size w (w.alloc o)):=fun o=>ab af;have hr:=aa hr;have hz:=aa hz;have g:=aa g;have ih':=aa ih;have EV:=aa ai;have sS:=aa aq;clear ih ai aq;have ND:=aa (fun o=>hA.out (w.alloc o) (db.out o));show Calls _ _ #[.agg #[.int .i64 h.kind,.bool h.flag,.bool h.neg,.string h.dig,.int .i64 h.exp,.int .u64 h.bits,.string h.text,.slice an h.names.length cn,.slice al l.length cl]] _ _;have dM:=aa (eg w h (.slice an h.names.length cn) (.slice al l.length cl));cases b1
  ·go_enter func135,ntmps135
   go_wp2_with(go_at_call 164;refine(ND.out _).mono ?_;rintro e w1 ⟨rfl,ai⟩)
   go_ret;exact TB.no (fun q=>by have:=EV.out.2 q.1;cases this) (ac (db.out _) ai)
  cases b2
  ·go_enter func135,ntmps135
   go_wp2_with fail
   refine(ND.out _).mono ?_;rintro e w1 ⟨rfl,ai⟩;have aT:=aa (ac (db.out _) ai);obtain⟨c0,c1,c2,c3,c4,c5,c6,c7,c8⟩:=(dM.out.below ai).cells;have TG:=aa (hF.out w1 aT.out);go_wp2_with(go_at_call 165;refine TG.out.mono ?_;rintro e w2 ⟨rfl,aq⟩)
   go_ret;exact TB.no (fun q=>by have:=sS.out.2 q.2.1;cases this) (ac aT.out aq)
  go_enter func135,ntmps135;go_wp2_with fail
  refine(ND.out _).mono ?_;rintro e w1 ⟨rfl,ai⟩;have aT:=aa (ac (db.out _) ai);have bO:=aa (dM.out.below ai);obtain⟨c0,c1,c2,c3,c4,c5,c6,c7,c8⟩:=bO.out.cells;have TG:=aa (hF.out w1 aT.out);go_wp2_with fail
  refine TG.out.mono ?_;rintro e w2 ⟨rfl,aq⟩;have gi:=aa (ac aT.out aq);clear c0 c1 c2 c3 c4 c5 c6 c7 c8;obtain⟨c0,c1,c2,c3,c4,c5,c6,c7,c8⟩:=(bO.out.below aq).cells;go_wp2_with fail
  go_loopw [16] (fun i w'=>∃k:Nat,i=.int .i64 k/\k<=l.length/\Hid ((∀y∈l.take k,iL n y)/\Below w.heap.size w w')) (fun i _=>l.length-(intOf i).toNat)
  case atStart=>exact⟨0,rfl,Nat.zero_le _,(fun y hy=>by simp at hy),gi.out⟩
  case round=>
   clear c0 c1 c2 c3 c4 c5 c6 c7 c8;obtain⟨k,rfl,hk,H⟩:=hrel;by_cases aE:k<l.length
   ·have bF:(k:Int)<(l.length:Int):=by omega
    have cR:(k:Int)<9223372036854775807:=by omega
    obtain⟨b,o,c,he,cQ,gq,iE,ns',ls',bT,bf⟩:=hr.out.at k aE;have cy:=Value.slice.inj he;obtain⟨rfl,_,rfl⟩:=cy;clear he;obtain⟨q0,q1,q2,q3,q4,q5,q6,q7,q8⟩:=fm (am bT H.out.2 cQ);have cA:=aa (bf.below H.out.2);obtain⟨a1,m1,d1,a2,m2,d2,rfl,rfl⟩:=bf.shape;clear bT bf;obtain⟨bk,kF⟩:=dX (iL n l[k]);have hcall:=aa (fun o=>Calls.tb (ih'.out l[k] (.slice a1 m1 d1) (.slice a2 m2 d2) (wr.alloc o) (cA.out.below (ab af)) (hz.out.2.2.2.2 _ (List.getElem_mem _)) (g.out.below (ab H.out.2))) kF);have kE:=aa kF;clear kF;cases bk
    ·go_wp2_with(go_at_call 135;refine(hcall.out _).mono ?_;rintro e w3 ⟨rfl,ar⟩)
     go_ret;exact TB.no (fun q=>by have:=kE.out.2 (q.2.2 _ (List.getElem_mem _));cases this) (ac (ab H.out.2) ar)
    go_wp2_with(go_at_call 135;refine(hcall.out _).mono ?_;rintro e w3 ⟨rfl,ar⟩)
    exact⟨⟨k+1,by go_num,by omega,bS aE H.out.1 (kE.out.1 (by simp)),ac (ab H.out.2) ar⟩,by simp[intOf];omega⟩
   have bF:¬((k:Int)<(l.length:Int)):=by omega
   have hE:=H.out.1;rw[List.take_of_length_le (by omega)]at hE;have iJ:=aa hE;clear hE;go_wp2_with fail
   go_ret;exact TB.yes ⟨EV.out.1 (by simp),sS.out.1 (by simp),iJ.out⟩ H.out.2
def yg:(n:Nat)->VT n->Prop
 |0,_=>False
 |n+1,x=>(x.1.text.size:Int)<=(bif x.1.kind==9 then 64 else 4096)/\x.2.length<=256/\(∀s∈x.1.names,s.size<=64)/\∀y∈x.2,yg n y
theorem uX:∀(n:Nat) (x:VT n) (ns ls:Value) (w:World),RD n w x ns ls->Sz n x ->
  Calls prog 136 #[.agg (aP (aI n x) ns ls)] w fun e w'=>TB (yg n x) w e w':=by
 intro n
 induction n with
 |zero=>intro x;exact Empty.elim x
 |succ n ih=>
  intro x ns ls w hr hz;obtain⟨h,l⟩:=x;obtain⟨al,cl,rfl,bB,br⟩:=hr.len;obtain⟨an,cn,rfl,cm,df⟩:=hr.1.len;have ml:maxLen=9223372036854775807:=rfl;simp only at bB br cm df;have db:Hid (∀o,Below w.heap.size w (w.alloc o)):=fun o=>ab af;have hr:=aa hr;have hz:=aa hz;have ih':=aa ih;clear ih;show Calls _ _ #[.agg #[.int .i64 h.kind,.bool h.flag,.bool h.neg,.string h.dig,.int .i64 h.exp,.int .u64 h.bits,.string h.text,.slice an h.names.length cn,.slice al l.length cl]] _ _;have dM:=aa (eg w h (.slice an h.names.length cn) (.slice al l.length cl));obtain⟨M,hM⟩:∃M:Int,(bif h.kind==9 then 64 else 4096)=M:=⟨_,rfl⟩
  by_cases k9:h.kind=9
  ·have Qp:M=64:=by rw[<-hM];simp[k9]
   by_cases ht:(64:Int)<(h.text.size:Int)
   ·have hx:=aa (show ¬yg (n+1) (h,l)from fun q=>by have h2:(h.text.size:Int)<=(bif h.kind==9 then 64 else 4096):=q.1;rw[hM,Qp]at h2;omega)
    rw[k9];go_enter func136,ntmps136;go_wp2_with fail
    go_ret;exact TB.no hx.out (db.out _)
   by_cases hl:(256:Int)<(l.length:Int)
   ·have hx:=aa (show ¬yg (n+1) (h,l)from fun q=>by have h2:l.length<=256:=q.2.1;omega)
    rw[k9];go_enter func136,ntmps136;go_wp2_with fail
    go_ret;exact TB.no hx.out (db.out _)
   have iW:=aa (show(h.text.size:Int)<=(bif h.kind==9 then 64 else 4096)/\l.length<=256 from⟨by rw[hM,Qp];omega,by omega⟩);rw[k9];go_enter func136,ntmps136;go_wp2_with fail
   go_loopw [25] (fun i w'=>∃k:Nat,i=.int .i64 k/\k<=h.names.length/\Hid ((∀s∈h.names.take k,s.size<=64)/\Below w.heap.size w w'/\w'.cell? ⟨w.heap.size,8,none⟩=some (.slice al l.length cl))) (fun i _=>h.names.length-(intOf i).toNat)
   case atStart=>exact⟨0,rfl,Nat.zero_le _,(fun y hy=>by simp at hy),db.out _,gK af 8⟩
   case round=>
    obtain⟨k,rfl,hk,H⟩:=hrel;have c8:=H.out.2.2;by_cases aE:k<h.names.length
    ·have bF:(k:Int)<(h.names.length:Int):=by omega
     have cR:(k:Int)<9223372036854775807:=by omega
     obtain⟨b,o,c,he,cQ,gq,iE,hcell⟩:=hr.out.1.at k aE;have cy:=Value.slice.inj he;obtain⟨rfl,_,rfl⟩:=cy;clear he;have hcell:=(H.out.2.1.cell (p:=⟨b,o+k,none⟩) cQ).trans hcell;obtain⟨s,hs⟩:∃s,h.names[k]=s:=⟨_,rfl⟩
     simp only at hcell;rw[hs]at hcell;have eK:=aa hs;clear hs;by_cases Fe:(64:Int)<(s.size:Int)
     ·have iH:=aa (show ¬yg (n+1) (h,l)from fun q=>by
       have h2:=q.2.2.1 h.names[k] (List.getElem_mem _);rw[eK.out]at h2;omega)
      go_wp2_with fail
      go_ret;exact TB.no iH.out H.out.2.1
     have LW:=aa (bS (p:=fun s=>s.size<=64) aE H.out.1 (by rw[eK.out];omega));go_wp2_with fail
     exact⟨⟨k+1,by go_num,by omega,LW.out,H.out.2⟩,by simp[intOf];omega⟩
    have bF:¬((k:Int)<(h.names.length:Int)):=by omega
    have hE:=H.out.1;rw[List.take_of_length_le (by omega)]at hE;have iJ:=aa hE;have aq:=aa H.out.2.1;clear hE;go_wp2_with fail
    go_loopw [36] (fun i w'=>∃k:Nat,i=.int .i64 k/\k<=l.length/\Hid ((∀y∈l.take k,yg n y)/\Below w.heap.size w w')) (fun i _=>l.length-(intOf i).toNat)
    case atStart=>exact⟨0,rfl,Nat.zero_le _,(fun y hy=>by simp at hy),aq.out⟩
    case round=>
     clear H c8 bF hk;obtain⟨k2,rfl,hk,H⟩:=hrel;by_cases aE:k2<l.length
     ·have bF:(k2:Int)<(l.length:Int):=by omega
      have cR:(k2:Int)<9223372036854775807:=by omega
      obtain⟨b,o,c,he,cQ,gq,iE,ns',ls',bT,bf⟩:=hr.out.at k2 aE;have cy:=Value.slice.inj he;obtain⟨rfl,_,rfl⟩:=cy;clear he;obtain⟨q0,q1,q2,q3,q4,q5,q6,q7,q8⟩:=fm (am bT H.out.2 cQ);have cA:=aa (bf.below H.out.2);obtain⟨a1,m1,d1,a2,m2,d2,rfl,rfl⟩:=bf.shape;clear bT bf;obtain⟨bk,kF⟩:=dX (yg n l[k2]);have hcall:=aa (fun o=>Calls.tb (ih'.out l[k2] (.slice a1 m1 d1) (.slice a2 m2 d2) (wr.alloc o) (cA.out.below (ab af)) (hz.out.2.2.2.2 _ (List.getElem_mem _))) kF);have kE:=aa kF;clear kF;cases bk
      ·go_wp2_with(go_at_call 136;refine(hcall.out _).mono ?_;rintro e w3 ⟨rfl,ar⟩)
       go_ret;exact TB.no (fun q=>by have:=kE.out.2 (q.2.2.2 _ (List.getElem_mem _));cases this) (ac (ab H.out.2) ar)
      go_wp2_with(go_at_call 136;refine(hcall.out _).mono ?_;rintro e w3 ⟨rfl,ar⟩)
      exact⟨⟨k2+1,by go_num,by omega,bS aE H.out.1 (kE.out.1 (by simp)),ac (ab H.out.2) ar⟩,by simp[intOf];omega⟩
     have bF:¬((k2:Int)<(l.length:Int)):=by omega
     have th:=H.out.1;rw[List.take_of_length_le (by omega)]at th;have Mu:=aa th;clear th;go_wp2_with fail
     go_ret;exact TB.yes ⟨iW.out.1,iW.out.2,iJ.out,Mu.out⟩ H.out.2
  have Qp:M=4096:=by rw[<-hM,show(h.kind==9)=false by rw[beq_eq_false_iff_ne];exact k9];rfl
  by_cases ht:(4096:Int)<(h.text.size:Int)
  ·have hx:=aa (show ¬yg (n+1) (h,l)from fun q=>by have h2:(h.text.size:Int)<=(bif h.kind==9 then 64 else 4096):=q.1;rw[hM,Qp]at h2;omega)
   go_enter func136,ntmps136;go_wp2_with fail
   go_ret;exact TB.no hx.out (db.out _)
  by_cases hl:(256:Int)<(l.length:Int)
  ·have hx:=aa (show ¬yg (n+1) (h,l)from fun q=>by have h2:l.length<=256:=q.2.1;omega)
   go_enter func136,ntmps136;go_wp2_with fail
   go_ret;exact TB.no hx.out (db.out _)
  have iW:=aa (show(h.text.size:Int)<=(bif h.kind==9 then 64 else 4096)/\l.length<=256 from⟨by rw[hM,Qp];omega,by omega⟩);go_enter func136,ntmps136;go_wp2_with fail
  go_loopw [25] (fun i w'=>∃k:Nat,i=.int .i64 k/\k<=h.names.length/\Hid ((∀s∈h.names.take k,s.size<=64)/\Below w.heap.size w w'/\w'.cell? ⟨w.heap.size,8,none⟩=some (.slice al l.length cl))) (fun i _=>h.names.length-(intOf i).toNat)
  case atStart=>exact⟨0,rfl,Nat.zero_le _,(fun y hy=>by simp at hy),db.out _,gK af 8⟩
  case round=>
   obtain⟨k,rfl,hk,H⟩:=hrel;have c8:=H.out.2.2;by_cases aE:k<h.names.length
   ·have bF:(k:Int)<(h.names.length:Int):=by omega
    have cR:(k:Int)<9223372036854775807:=by omega
    obtain⟨b,o,c,he,cQ,gq,iE,hcell⟩:=hr.out.1.at k aE;have cy:=Value.slice.inj he;obtain⟨rfl,_,rfl⟩:=cy;clear he;have hcell:=(H.out.2.1.cell (p:=⟨b,o+k,none⟩) cQ).trans hcell;obtain⟨s,hs⟩:∃s,h.names[k]=s:=⟨_,rfl⟩
    simp only at hcell;rw[hs]at hcell;have eK:=aa hs;clear hs;by_cases Fe:(64:Int)<(s.size:Int)
    ·have iH:=aa (show ¬yg (n+1) (h,l)from fun q=>by
      have h2:=q.2.2.1 h.names[k] (List.getElem_mem _);rw[eK.out]at h2;omega)
     go_wp2_with fail
     go_ret;exact TB.no iH.out H.out.2.1
    have LW:=aa (bS (p:=fun s=>s.size<=64) aE H.out.1 (by rw[eK.out];omega));go_wp2_with fail
    exact⟨⟨k+1,by go_num,by omega,LW.out,H.out.2⟩,by simp[intOf];omega⟩
   have bF:¬((k:Int)<(h.names.length:Int)):=by omega
   have hE:=H.out.1;rw[List.take_of_length_le (by omega)]at hE;have iJ:=aa hE;have aq:=aa H.out.2.1;clear hE;go_wp2_with fail
   go_loopw [36] (fun i w'=>∃k:Nat,i=.int .i64 k/\k<=l.length/\Hid ((∀y∈l.take k,yg n y)/\Below w.heap.size w w')) (fun i _=>l.length-(intOf i).toNat)
   case atStart=>exact⟨0,rfl,Nat.zero_le _,(fun y hy=>by simp at hy),aq.out⟩
   case round=>
    clear H c8 bF hk;obtain⟨k2,rfl,hk,H⟩:=hrel;by_cases aE:k2<l.length
    ·have bF:(k2:Int)<(l.length:Int):=by omega
     have cR:(k2:Int)<9223372036854775807:=by omega
     obtain⟨b,o,c,he,cQ,gq,iE,ns',ls',bT,bf⟩:=hr.out.at k2 aE;have cy:=Value.slice.inj he;obtain⟨rfl,_,rfl⟩:=cy;clear he;obtain⟨q0,q1,q2,q3,q4,q5,q6,q7,q8⟩:=fm (am bT H.out.2 cQ);have cA:=aa (bf.below H.out.2);obtain⟨a1,m1,d1,a2,m2,d2,rfl,rfl⟩:=bf.shape;clear bT bf;obtain⟨bk,kF⟩:=dX (yg n l[k2]);have hcall:=aa (fun o=>Calls.tb (ih'.out l[k2] (.slice a1 m1 d1) (.slice a2 m2 d2) (wr.alloc o) (cA.out.below (ab af)) (hz.out.2.2.2.2 _ (List.getElem_mem _))) kF);have kE:=aa kF;clear kF;cases bk
     ·go_wp2_with(go_at_call 136;refine(hcall.out _).mono ?_;rintro e w3 ⟨rfl,ar⟩)
      go_ret;exact TB.no (fun q=>by have:=kE.out.2 (q.2.2.2 _ (List.getElem_mem _));cases this) (ac (ab H.out.2) ar)
     go_wp2_with(go_at_call 136;refine(hcall.out _).mono ?_;rintro e w3 ⟨rfl,ar⟩)
     exact⟨⟨k2+1,by go_num,by omega,bS aE H.out.1 (kE.out.1 (by simp)),ac (ab H.out.2) ar⟩,by simp[intOf];omega⟩
    have bF:¬((k2:Int)<(l.length:Int)):=by omega
    have th:=H.out.1;rw[List.take_of_length_le (by omega)]at th;have Mu:=aa th;clear th;go_wp2_with fail
    go_ret;exact TB.yes ⟨iW.out.1,iW.out.2,iJ.out,Mu.out⟩ H.out.2
theorem wV{α:Type}{l:List α}{k:Nat}(h:k<l.length)(hn:(l.take k).Nodup)(hm:∀j (hj:j<k),l[j]'(by omega)≠l[k]):(l.take (k+1)).Nodup:=by rw[List.take_succ_eq_append_getElem h];rw[List.nodup_append];refine⟨hn,by simp,?_⟩;intro a ha b hb;rw[List.mem_singleton.1 hb];obtain⟨j,hj,rfl⟩:=List.getElem_of_mem ha;rw[List.getElem_take];exact hm j (by rw[List.length_take]at hj;omega)
theorem wg(v:Value)(l:List ByteArray)(w:World)(hr:NL w v l):Calls prog 223 #[v] w fun e w'=>TB l.Nodup w e w':=by
 obtain⟨an,cn,rfl,cm,df⟩:=hr.len;have ml:maxLen=9223372036854775807:=rfl
 replace hr:=aa hr
 go_enter func223,ntmps223;go_wp2_with fail
 go_loopw [3] (fun i w'=>∃k:Nat,i=.int .i64 k/\k<=l.length/\Hid ((l.take k).Nodup/\Below w.heap.size w w')) (fun i _=>l.length-(intOf i).toNat)
 case atStart=>exact⟨0,rfl,Nat.zero_le _,by simp,af⟩
 case round=>
  obtain⟨k,rfl,hk,H⟩:=hrel;by_cases aE:k<l.length
  ·have bF:(k:Int)<(l.length:Int):=by omega
   have cR:(k:Int)<9223372036854775807:=by omega
   go_wp2_with fail
   go_loopw [4] (fun i w'=>∃j:Nat,i=.int .i64 j/\j<=k/\Hid ((∀i (hi:i<j) (Tc:i<l.length),l[i]≠l[k])/\Below w.heap.size w w')) (fun i _=>k-(intOf i).toNat)
   case atStart=>exact⟨0,rfl,Nat.zero_le _,(fun i hi=>absurd hi (by omega)),H.out.2⟩
   case round=>
    obtain⟨j,rfl,hj,J⟩:=hrel;by_cases oN:j<k
    ·have xA:j<l.length:=by omega
     have SU:(j:Int)<(k:Int):=by omega
     have Wk:(j:Int)<(l.length:Int):=by omega
     have Wl:(j:Int)<9223372036854775807:=by omega
     obtain⟨b,o,c,he,cQ,gq,iE,hcell⟩:=hr.out.at k aE;obtain⟨b',o',c',cy,md,EG,EU,hcell'⟩:=hr.out.at j xA;have q1:=Value.slice.inj he;have q2:=Value.slice.inj cy;obtain⟨rfl,_,rfl⟩:=q1;obtain⟨q3,_,rfl⟩:=q2;have q4:=Option.some.inj q3;simp only[Addr.mk.injEq]at q4;obtain⟨rfl,rfl,_⟩:=q4;clear he cy q3;have hcell:=(J.out.2.cell (p:=⟨b,o+k,none⟩) cQ).trans hcell;have hcell':=(J.out.2.cell (p:=⟨b,o+j,none⟩) cQ).trans hcell';obtain⟨s,hs⟩:∃s,l[k]=s:=⟨_,rfl⟩
     obtain⟨t,ht⟩:∃t,l[j]=t:=⟨_,rfl⟩
     simp only[hs]at hcell;simp only[ht]at hcell';by_cases cb:s=t
     ·have aQ:¬l.Nodup:=fun hn=>(List.pairwise_iff_getElem.1 hn j k xA aE oN) (by rw[ht,hs,cb])
      have pR:=aa aQ;subst cb;clear aQ hs ht;go_wp2_with fail
      go_quiet (fail)
      go_wp2_with fail
      go_ret;exact TB.no pR.out (eF J.out.2 _)
     have LW:Hid (∀i (hi:i<j+1) (Tc:i<l.length),l[i]≠l[k]):=fun i hi Tc=>by
      rcases Nat.lt_or_ge i j with q|q
      ·exact J.out.1 i q Tc
      obtain rfl:i=j:=by omega
      rw[ht,hs];exact fun e=>cb e.symm
     have LD:decide (s=t)=false:=decide_eq_false cb;have LC:=gv cb;clear hs ht;go_wp2_with fail
     go_quiet (fail)
     go_wp2_with fail
     exact⟨⟨j+1,by go_num,by omega,LW.out,eF J.out.2 _⟩,by simp[intOf];omega⟩
    have SU:¬((j:Int)<(k:Int)):=by omega
    obtain rfl:j=k:=by omega
    have hN:=aa (wV aE H.out.1 (fun i hi=>J.out.1 i hi (by omega)));go_wp2_with fail
    exact⟨⟨j+1,by go_num,by omega,hN.out,J.out.2⟩,by simp[intOf];omega⟩
  have bF:¬((k:Int)<(l.length:Int)):=by omega
  have hE:=H.out.1;rw[List.take_of_length_le (by omega)]at hE;have iJ:=aa hE;clear hE;go_wp2_with fail
  go_ret;exact TB.yes iJ.out H.out.2
def yc(n:Nat)(x:VT n):Prop:=yg n x/\rx n x<=16/\jA n x<=4096
def TW(n:Nat)(x:VT n)(e:Int):Prop:=(e=40/\¬iL n x)\/(e=2/\iL n x/\¬yc n x)\/(e=0/\iL n x/\yc n x)
theorem FG(n:Nat)(x:VT n):∃e,TW n x e:=by
 by_cases h:iL n x
 ·by_cases k:yc n x
  ·exact⟨0,Or.inr (Or.inr ⟨rfl,h,k⟩)⟩
  exact⟨2,Or.inr (Or.inl ⟨rfl,h,k⟩)⟩
 exact⟨40,Or.inl ⟨rfl,h⟩⟩
structure UV(n:Nat)(w:World)(x:VT n)(ns ls:Value):Prop where
 rd:RD n w x ns ls
 sz:Sz n x
 le:jA n x<=200000
theorem ry(n:Nat)(x:VT n)(ns ls:Value)(w:World)(hr:UV n w x ns ls)(g:Ut.Gu w)(E:Int)(hE:TW n x E):Calls prog 84 #[.agg (aP (aI n x) ns ls)] w fun e w'=>e=.returned (.int .i64 E)/\Below w.heap.size w w':=by
 obtain⟨a1,m1,d1,a2,m2,d2,rfl,rfl⟩:=hr.rd.shape;obtain⟨h,hh⟩:∃h,aI n x=h:=⟨_,rfl⟩
 obtain⟨b1,ai⟩:=dX (iL n x);obtain⟨b2,aq⟩:=dX (yg n x);have hV:=aa (fun o=>Calls.tb (uW n x (.slice a1 m1 d1) (.slice a2 m2 d2) (w.alloc o) (hr.rd.below (ab af)) hr.sz (g.below (ab af))) ai);have hS:=aa (fun W (hb:Below w.heap.size w W)=>Calls.tb (uX n x (.slice a1 m1 d1) (.slice a2 m2 d2) W (hr.rd.below hb) hr.sz) aq);have hD:=aa (fun W (hb:Below w.heap.size w W)=>Bq n x (.slice a1 m1 d1) (.slice a2 m2 d2) W (hr.rd.below hb) hr.le);have hZ:=aa (fun W (hb:Below w.heap.size w W)=>CN n x (.slice a1 m1 d1) (.slice a2 m2 d2) W (hr.rd.below hb) hr.le);have db:Hid (∀o,Below w.heap.size w (w.alloc o)):=fun o=>ab af;obtain⟨D,oz⟩:∃D,rx n x=D:=⟨_,rfl⟩
 obtain⟨Z,zx⟩:∃Z,jA n x=Z:=⟨_,rfl⟩
 have iJ:=aa (show(E=40/\b1=false)\/(E=2/\b1=true/\¬(b2=true/\D<=16/\Z<=4096))\/(E=0/\b1=true/\b2=true/\D<=16/\Z<=4096)by
  unfold TW yc at hE;rw[oz,zx,<-ai,<-aq]at hE
  simpa using hE)
 rw[hh]at hV hS hD hZ ⊢;rw[oz]at hD;rw[zx]at hZ;have dM:=aa (eg w h (.slice a1 m1 d1) (.slice a2 m2 d2));clear hr g hh oz zx hE ai aq;show Calls _ _ #[.agg #[.int .i64 h.kind,.bool h.flag,.bool h.neg,.string h.dig,.int .i64 h.exp,.int .u64 h.bits,.string h.text,.slice a1 m1 d1,.slice a2 m2 d2]] _ _;cases b1
 ·have e0:E=40:=by rcases iJ.out with⟨q,_⟩|⟨_,q,_⟩|⟨_,q,_⟩;exact q;cases q;cases q
  subst e0;go_enter func84,ntmps84;go_wp2_with(go_at_call 135;refine(hV.out _).mono ?_;rintro e w1 ⟨rfl,ai⟩)
  go_ret;exact⟨rfl,ac (db.out _) ai⟩
 have th:=aa (show(E=2/\¬(b2=true/\D<=16/\Z<=4096))\/(E=0/\b2=true/\D<=16/\Z<=4096)by
  rcases iJ.out with⟨_,q⟩|⟨q,_,r⟩|⟨q,_,r⟩
  ·cases q
  ·exact Or.inl ⟨q,r⟩
  exact Or.inr ⟨q,r⟩)
 clear iJ;go_enter func84,ntmps84;go_wp2_with fail
 refine(hV.out _).mono ?_;rintro e w1 ⟨rfl,ai⟩;have aT:=aa (ac (db.out _) ai);have bO:=aa (dM.out.below ai);obtain⟨c0,c1,c2,c3,c4,c5,c6,c7,c8⟩:=bO.out.cells;have Ql:=aa (hS.out w1 aT.out);cases b2
 ·have e0:E=2:=by rcases th.out with⟨q,_⟩|⟨_,q,_⟩;exact q;cases q
  subst e0;go_wp2_with(go_at_call 136;refine Ql.out.mono ?_;rintro e w2 ⟨rfl,aq⟩)
  go_ret;exact⟨rfl,ac aT.out aq⟩
 have Mt:=aa (show(E=2/\¬(D<=16/\Z<=4096))\/(E=0/\D<=16/\Z<=4096)by
  rcases th.out with⟨q,r⟩|⟨q,_,r⟩
  ·exact Or.inl ⟨q,fun s=>r ⟨rfl,s⟩⟩
  exact Or.inr ⟨q,r⟩)
 clear th;go_wp2_with fail
 refine Ql.out.mono ?_;rintro e w2 ⟨rfl,aq⟩;have gi:=aa (ac aT.out aq);have jR:=aa (bO.out.below aq);clear c0 c1 c2 c3 c4 c5 c6 c7 c8;obtain⟨c0,c1,c2,c3,c4,c5,c6,c7,c8⟩:=jR.out.cells;have Cg:=aa (hD.out w2 gi.out);by_cases hd:(16:Int)<(D:Int)
 ·have e0:E=2:=by rcases Mt.out with⟨q,_⟩|⟨_,q,_⟩;exact q;omega
  subst e0;go_wp2_with(go_at_call 137;refine Cg.out.mono ?_;rintro e w3 ⟨rfl,ar⟩)
  go_ret;exact⟨rfl,ac gi.out ar⟩
 go_wp2_with fail
 refine Cg.out.mono ?_;rintro e w3 ⟨rfl,ar⟩;have zj:=aa (ac gi.out ar);have iA:=aa (jR.out.below ar);clear c0 c1 c2 c3 c4 c5 c6 c7 c8;obtain⟨c0,c1,c2,c3,c4,c5,c6,c7,c8⟩:=iA.out.cells;have Qf:=aa (hZ.out w3 zj.out);by_cases hz:(4096:Int)<(Z:Int)
 ·have e0:E=2:=by rcases Mt.out with⟨q,_⟩|⟨_,_,q⟩;exact q;omega
  subst e0;go_wp2_with(go_at_call 138;refine Qf.out.mono ?_;rintro e w4 ⟨rfl,aO⟩)
  go_ret;exact⟨rfl,ac zj.out aO⟩
 have e0:E=0:=by
  rcases Mt.out with⟨_,q⟩|⟨q,_⟩
  ·exact absurd ⟨by omega,by omega⟩ q
  exact q
 subst e0;go_wp2_with(go_at_call 138;refine Qf.out.mono ?_;rintro e w4 ⟨rfl,aO⟩)
 go_ret;exact⟨rfl,ac zj.out aO⟩
theorem jw{s:ByteArray}(h:¬s=⟨#[]⟩):¬s.toList=[]:=fun e=>h (ByteArray.ext (Array.toList_inj.1 (by rw[ByteArray.toList_eq]at e;exact e)))
theorem nb{h:Hd}{α:Type}{l:List α}(k:¬bV h=zr h.kind):¬dk h l:=fun q=>k q.2.2.1
theorem BT{h:Hd}{α:Type}{l:List α}(hk:h.kind<7)(k:¬l=[]):¬dk h l:=fun q=>by
 rcases q.2.2.2 with e|e
 ·omega
 exact k e
theorem QR(n:Nat)(h:Hd)(l:List (VT n))(ns ls:Value)(w:World)(hr:RD (n+1) w (h,l) ns ls)(hk:h.kind=1):Calls prog 203 #[.agg (aP h ns ls)] w fun e w'=>TB (dk h l) w e w':=by
 obtain⟨al,cl,rfl,bB,br⟩:=hr.len;obtain⟨an,cn,rfl,cm,df⟩:=hr.1.len;have ml:maxLen=9223372036854775807:=rfl;simp only at bB br cm df;clear hr;obtain⟨k,fl,ng,dg,ex,bt,tx,nm⟩:=h;simp only at hk cm df;subst hk;show Calls _ _ #[.agg #[.int .i64 1,.bool fl,.bool ng,.string dg,.int .i64 ex,.int .u64 bt,.string tx,.slice an nm.length cn,.slice al l.length cl]] _ _;cases fl;cases ng;by_cases e:dg=⟨#[]⟩
 subst e;by_cases e:ex=0;subst e;by_cases e:bt=0;subst e;by_cases e:tx=⟨#[]⟩
 subst e;by_cases e:nm=[]
 subst e;by_cases e:l=[]
 subst e
 ·go_enter func203,ntmps203
  go_wp2_with fail
  go_ret;exact TB.yes ⟨by show(1:Int)<=1;decide,by show(1:Int)<=9;decide,by simp[bV,zr],Or.inr rfl⟩ (ab (ab af))
 all_goals
  try have q1:=decide_eq_false e
  try have q2:=gv e
  try have q3:=jw e
  try have q4:(0:Int)<_:=Int.natCast_pos.2 (List.length_pos_iff.2 e)
  try have q6:¬(l.length:Int)=0:=by have:=List.length_pos_iff.2 e;omega
  try have q7:=aa (decide_eq_false q6)
  go_enter func203,ntmps203;go_wp2_with fail
  go_ret
  first|(refine TB.no (nb ?_) (ab (ab af));intro q;simp[bV,zr]at q;done)|(refine TB.no (nb ?_) (ab (ab af));intro q;simp[bV,zr,e]at q;done)|exact TB.no (BT (by show(1:Int)<7;decide) e) (ab (ab af))|(show TB _ _ (.returned (.bool (decide ((l.length:Int)=0)))) _;rw[q7.out];exact TB.no (BT (by show(1:Int)<7;decide) e) (ab (ab af)))
theorem QQ(n:Nat)(h:Hd)(l:List (VT n))(ns ls:Value)(w:World)(hr:RD (n+1) w (h,l) ns ls)(hk:h.kind=2):Calls prog 203 #[.agg (aP h ns ls)] w fun e w'=>TB (dk h l) w e w':=by
 obtain⟨al,cl,rfl,bB,br⟩:=hr.len;obtain⟨an,cn,rfl,cm,df⟩:=hr.1.len;have ml:maxLen=9223372036854775807:=rfl;simp only at bB br cm df;clear hr;obtain⟨k,fl,ng,dg,ex,bt,tx,nm⟩:=h;simp only at hk cm df;subst hk;show Calls _ _ #[.agg #[.int .i64 2,.bool fl,.bool ng,.string dg,.int .i64 ex,.int .u64 bt,.string tx,.slice an nm.length cn,.slice al l.length cl]] _ _;cases ng;by_cases e:dg=⟨#[]⟩
 subst e;by_cases e:ex=0;subst e;by_cases e:bt=0;subst e;by_cases e:tx=⟨#[]⟩
 subst e;by_cases e:nm=[]
 subst e;by_cases e:l=[]
 subst e
 ·go_enter func203,ntmps203
  go_wp2_with fail
  go_ret;exact TB.yes ⟨by show(1:Int)<=2;decide,by show(2:Int)<=9;decide,by simp[bV,zr],Or.inr rfl⟩ (ab (ab af))
 all_goals
  try have q1:=decide_eq_false e
  try have q2:=gv e
  try have q3:=jw e
  try have q4:(0:Int)<_:=Int.natCast_pos.2 (List.length_pos_iff.2 e)
  try have q6:¬(l.length:Int)=0:=by have:=List.length_pos_iff.2 e;omega
  try have q7:=aa (decide_eq_false q6)
  go_enter func203,ntmps203;go_wp2_with fail
  go_ret
  first|(refine TB.no (nb ?_) (ab (ab af));intro q;simp[bV,zr]at q;done)|(refine TB.no (nb ?_) (ab (ab af));intro q;simp[bV,zr,e]at q;done)|exact TB.no (BT (by show(2:Int)<7;decide) e) (ab (ab af))|(show TB _ _ (.returned (.bool (decide ((l.length:Int)=0)))) _;rw[q7.out];exact TB.no (BT (by show(2:Int)<7;decide) e) (ab (ab af)))
theorem QP(n:Nat)(h:Hd)(l:List (VT n))(ns ls:Value)(w:World)(hr:RD (n+1) w (h,l) ns ls)(hk:h.kind=3):Calls prog 203 #[.agg (aP h ns ls)] w fun e w'=>TB (dk h l) w e w':=by
 obtain⟨al,cl,rfl,bB,br⟩:=hr.len;obtain⟨an,cn,rfl,cm,df⟩:=hr.1.len;have ml:maxLen=9223372036854775807:=rfl;simp only at bB br cm df;clear hr;obtain⟨k,fl,ng,dg,ex,bt,tx,nm⟩:=h;simp only at hk cm df;subst hk;show Calls _ _ #[.agg #[.int .i64 3,.bool fl,.bool ng,.string dg,.int .i64 ex,.int .u64 bt,.string tx,.slice an nm.length cn,.slice al l.length cl]] _ _;cases fl;by_cases e:bt=0;subst e;by_cases e:tx=⟨#[]⟩
 subst e;by_cases e:nm=[]
 subst e;by_cases e:l=[]
 subst e
 ·go_enter func203,ntmps203
  go_wp2_with fail
  go_ret;exact TB.yes ⟨by show(1:Int)<=3;decide,by show(3:Int)<=9;decide,by simp[bV,zr],Or.inr rfl⟩ (ab (ab af))
 all_goals
  try have q1:=decide_eq_false e
  try have q2:=gv e
  try have q3:=jw e
  try have q4:(0:Int)<_:=Int.natCast_pos.2 (List.length_pos_iff.2 e)
  try have q6:¬(l.length:Int)=0:=by have:=List.length_pos_iff.2 e;omega
  try have q7:=aa (decide_eq_false q6)
  go_enter func203,ntmps203;go_wp2_with fail
  go_ret
  first|(refine TB.no (nb ?_) (ab (ab af));intro q;simp[bV,zr]at q;done)|(refine TB.no (nb ?_) (ab (ab af));intro q;simp[bV,zr,e]at q;done)|exact TB.no (BT (by show(3:Int)<7;decide) e) (ab (ab af))|(show TB _ _ (.returned (.bool (decide ((l.length:Int)=0)))) _;rw[q7.out];exact TB.no (BT (by show(3:Int)<7;decide) e) (ab (ab af)))
theorem QO(n:Nat)(h:Hd)(l:List (VT n))(ns ls:Value)(w:World)(hr:RD (n+1) w (h,l) ns ls)(hk:h.kind=4):Calls prog 203 #[.agg (aP h ns ls)] w fun e w'=>TB (dk h l) w e w':=by
 obtain⟨al,cl,rfl,bB,br⟩:=hr.len;obtain⟨an,cn,rfl,cm,df⟩:=hr.1.len;have ml:maxLen=9223372036854775807:=rfl;simp only at bB br cm df;clear hr;obtain⟨k,fl,ng,dg,ex,bt,tx,nm⟩:=h;simp only at hk cm df;subst hk;show Calls _ _ #[.agg #[.int .i64 4,.bool fl,.bool ng,.string dg,.int .i64 ex,.int .u64 bt,.string tx,.slice an nm.length cn,.slice al l.length cl]] _ _;cases fl;cases ng;by_cases e:dg=⟨#[]⟩
 subst e;by_cases e:ex=0;subst e;by_cases e:tx=⟨#[]⟩
 subst e;by_cases e:nm=[]
 subst e;by_cases e:l=[]
 subst e
 ·go_enter func203,ntmps203
  go_wp2_with fail
  go_ret;exact TB.yes ⟨by show(1:Int)<=4;decide,by show(4:Int)<=9;decide,by simp[bV,zr],Or.inr rfl⟩ (ab (ab af))
 all_goals
  try have q1:=decide_eq_false e
  try have q2:=gv e
  try have q3:=jw e
  try have q4:(0:Int)<_:=Int.natCast_pos.2 (List.length_pos_iff.2 e)
  try have q6:¬(l.length:Int)=0:=by have:=List.length_pos_iff.2 e;omega
  try have q7:=aa (decide_eq_false q6)
  go_enter func203,ntmps203;go_wp2_with fail
  go_ret
  first|(refine TB.no (nb ?_) (ab (ab af));intro q;simp[bV,zr]at q;done)|(refine TB.no (nb ?_) (ab (ab af));intro q;simp[bV,zr,e]at q;done)|exact TB.no (BT (by show(4:Int)<7;decide) e) (ab (ab af))|(show TB _ _ (.returned (.bool (decide ((l.length:Int)=0)))) _;rw[q7.out];exact TB.no (BT (by show(4:Int)<7;decide) e) (ab (ab af)))
theorem QN(n:Nat)(h:Hd)(l:List (VT n))(ns ls:Value)(w:World)(hr:RD (n+1) w (h,l) ns ls)(hk:h.kind=5):Calls prog 203 #[.agg (aP h ns ls)] w fun e w'=>TB (dk h l) w e w':=by
 obtain⟨al,cl,rfl,bB,br⟩:=hr.len;obtain⟨an,cn,rfl,cm,df⟩:=hr.1.len;have ml:maxLen=9223372036854775807:=rfl;simp only at bB br cm df;clear hr;obtain⟨k,fl,ng,dg,ex,bt,tx,nm⟩:=h;simp only at hk cm df;subst hk;show Calls _ _ #[.agg #[.int .i64 5,.bool fl,.bool ng,.string dg,.int .i64 ex,.int .u64 bt,.string tx,.slice an nm.length cn,.slice al l.length cl]] _ _;cases fl;cases ng;by_cases e:dg=⟨#[]⟩
 subst e;by_cases e:ex=0;subst e;by_cases e:bt=0;subst e;by_cases e:nm=[]
 subst e;by_cases e:l=[]
 subst e
 ·go_enter func203,ntmps203
  go_wp2_with fail
  go_ret;exact TB.yes ⟨by show(1:Int)<=5;decide,by show(5:Int)<=9;decide,by simp[bV,zr],Or.inr rfl⟩ (ab (ab af))
 all_goals
  try have q1:=decide_eq_false e
  try have q2:=gv e
  try have q3:=jw e
  try have q4:(0:Int)<_:=Int.natCast_pos.2 (List.length_pos_iff.2 e)
  try have q6:¬(l.length:Int)=0:=by have:=List.length_pos_iff.2 e;omega
  try have q7:=aa (decide_eq_false q6)
  go_enter func203,ntmps203;go_wp2_with fail
  go_ret
  first|(refine TB.no (nb ?_) (ab (ab af));intro q;simp[bV,zr]at q;done)|(refine TB.no (nb ?_) (ab (ab af));intro q;simp[bV,zr,e]at q;done)|exact TB.no (BT (by show(5:Int)<7;decide) e) (ab (ab af))|(show TB _ _ (.returned (.bool (decide ((l.length:Int)=0)))) _;rw[q7.out];exact TB.no (BT (by show(5:Int)<7;decide) e) (ab (ab af)))
theorem QM(n:Nat)(h:Hd)(l:List (VT n))(ns ls:Value)(w:World)(hr:RD (n+1) w (h,l) ns ls)(hk:h.kind=6):Calls prog 203 #[.agg (aP h ns ls)] w fun e w'=>TB (dk h l) w e w':=by
 obtain⟨al,cl,rfl,bB,br⟩:=hr.len;obtain⟨an,cn,rfl,cm,df⟩:=hr.1.len;have ml:maxLen=9223372036854775807:=rfl;simp only at bB br cm df;clear hr;obtain⟨k,fl,ng,dg,ex,bt,tx,nm⟩:=h;simp only at hk cm df;subst hk;show Calls _ _ #[.agg #[.int .i64 6,.bool fl,.bool ng,.string dg,.int .i64 ex,.int .u64 bt,.string tx,.slice an nm.length cn,.slice al l.length cl]] _ _;cases fl;cases ng;by_cases e:dg=⟨#[]⟩
 subst e;by_cases e:ex=0;subst e;by_cases e:bt=0;subst e;by_cases e:nm=[]
 subst e;by_cases e:l=[]
 subst e
 ·go_enter func203,ntmps203
  go_wp2_with fail
  go_ret;exact TB.yes ⟨by show(1:Int)<=6;decide,by show(6:Int)<=9;decide,by simp[bV,zr],Or.inr rfl⟩ (ab (ab af))
 all_goals
  try have q1:=decide_eq_false e
  try have q2:=gv e
  try have q3:=jw e
  try have q4:(0:Int)<_:=Int.natCast_pos.2 (List.length_pos_iff.2 e)
  try have q6:¬(l.length:Int)=0:=by have:=List.length_pos_iff.2 e;omega
  try have q7:=aa (decide_eq_false q6)
  go_enter func203,ntmps203;go_wp2_with fail
  go_ret
  first|(refine TB.no (nb ?_) (ab (ab af));intro q;simp[bV,zr]at q;done)|(refine TB.no (nb ?_) (ab (ab af));intro q;simp[bV,zr,e]at q;done)|exact TB.no (BT (by show(6:Int)<7;decide) e) (ab (ab af))|(show TB _ _ (.returned (.bool (decide ((l.length:Int)=0)))) _;rw[q7.out];exact TB.no (BT (by show(6:Int)<7;decide) e) (ab (ab af)))
theorem QL(n:Nat)(h:Hd)(l:List (VT n))(ns ls:Value)(w:World)(hr:RD (n+1) w (h,l) ns ls)(hk:h.kind=7):Calls prog 203 #[.agg (aP h ns ls)] w fun e w'=>TB (dk h l) w e w':=by
 obtain⟨al,cl,rfl,bB,br⟩:=hr.len;obtain⟨an,cn,rfl,cm,df⟩:=hr.1.len;have ml:maxLen=9223372036854775807:=rfl;simp only at bB br cm df;clear hr;obtain⟨k,fl,ng,dg,ex,bt,tx,nm⟩:=h;simp only at hk cm df;subst hk;show Calls _ _ #[.agg #[.int .i64 7,.bool fl,.bool ng,.string dg,.int .i64 ex,.int .u64 bt,.string tx,.slice an nm.length cn,.slice al l.length cl]] _ _;cases fl;cases ng;by_cases e:dg=⟨#[]⟩
 subst e;by_cases e:ex=0;subst e;by_cases e:bt=0;subst e;by_cases e:tx=⟨#[]⟩
 subst e;by_cases e:nm=[]
 subst e
 ·go_enter func203,ntmps203
  go_wp2_with fail
  go_ret;exact TB.yes ⟨by show(1:Int)<=7;decide,by show(7:Int)<=9;decide,by simp[bV,zr],Or.inl (by show(7:Int)<=7;decide)⟩ (ab (ab af))
 all_goals
  try have q1:=decide_eq_false e
  try have q2:=gv e
  try have q3:=jw e
  try have q4:(0:Int)<_:=Int.natCast_pos.2 (List.length_pos_iff.2 e)
  go_enter func203,ntmps203;go_wp2_with fail
  go_ret
  first|(refine TB.no (nb ?_) (ab (ab af));intro q;simp[bV,zr]at q;done)|(refine TB.no (nb ?_) (ab (ab af));intro q;simp[bV,zr,e]at q;done)
theorem QK(n:Nat)(h:Hd)(l:List (VT n))(ns ls:Value)(w:World)(hr:RD (n+1) w (h,l) ns ls)(hk:h.kind=8):Calls prog 203 #[.agg (aP h ns ls)] w fun e w'=>TB (dk h l) w e w':=by
 obtain⟨al,cl,rfl,bB,br⟩:=hr.len;obtain⟨an,cn,rfl,cm,df⟩:=hr.1.len;have ml:maxLen=9223372036854775807:=rfl;simp only at bB br cm df;clear hr;obtain⟨k,fl,ng,dg,ex,bt,tx,nm⟩:=h;simp only at hk cm df;subst hk;show Calls _ _ #[.agg #[.int .i64 8,.bool fl,.bool ng,.string dg,.int .i64 ex,.int .u64 bt,.string tx,.slice an nm.length cn,.slice al l.length cl]] _ _;cases fl;cases ng;by_cases e:dg=⟨#[]⟩
 subst e;by_cases e:ex=0;subst e;by_cases e:bt=0;subst e;by_cases e:tx=⟨#[]⟩
 subst e
 ·go_enter func203,ntmps203
  go_wp2_with fail
  go_ret;exact TB.yes ⟨by show(1:Int)<=8;decide,by show(8:Int)<=9;decide,by simp[bV,zr],Or.inl (by show(7:Int)<=8;decide)⟩ (ab (ab af))
 all_goals
  try have q1:=decide_eq_false e
  try have q2:=gv e
  try have q3:=jw e
  try have q4:(0:Int)<_:=Int.natCast_pos.2 (List.length_pos_iff.2 e)
  go_enter func203,ntmps203;go_wp2_with fail
  go_ret
  first|(refine TB.no (nb ?_) (ab (ab af));intro q;simp[bV,zr]at q;done)|(refine TB.no (nb ?_) (ab (ab af));intro q;simp[bV,zr,e]at q;done)
theorem QJ(n:Nat)(h:Hd)(l:List (VT n))(ns ls:Value)(w:World)(hr:RD (n+1) w (h,l) ns ls)(hk:h.kind=9):Calls prog 203 #[.agg (aP h ns ls)] w fun e w'=>TB (dk h l) w e w':=by
 obtain⟨al,cl,rfl,bB,br⟩:=hr.len;obtain⟨an,cn,rfl,cm,df⟩:=hr.1.len;have ml:maxLen=9223372036854775807:=rfl;simp only at bB br cm df;clear hr;obtain⟨k,fl,ng,dg,ex,bt,tx,nm⟩:=h;simp only at hk cm df;subst hk;show Calls _ _ #[.agg #[.int .i64 9,.bool fl,.bool ng,.string dg,.int .i64 ex,.int .u64 bt,.string tx,.slice an nm.length cn,.slice al l.length cl]] _ _;cases fl;cases ng;by_cases e:dg=⟨#[]⟩
 subst e;by_cases e:ex=0;subst e;by_cases e:bt=0;subst e;by_cases e:nm=[]
 subst e
 ·go_enter func203,ntmps203
  go_wp2_with fail
  go_ret;exact TB.yes ⟨by show(1:Int)<=9;decide,by show(9:Int)<=9;decide,by simp[bV,zr],Or.inl (by show(7:Int)<=9;decide)⟩ (ab (ab af))
 all_goals
  try have q1:=decide_eq_false e
  try have q2:=gv e
  try have q3:=jw e
  try have q4:(0:Int)<_:=Int.natCast_pos.2 (List.length_pos_iff.2 e)
  go_enter func203,ntmps203;go_wp2_with fail
  go_ret
  first|(refine TB.no (nb ?_) (ab (ab af));intro q;simp[bV,zr]at q;done)|(refine TB.no (nb ?_) (ab (ab af));intro q;simp[bV,zr,e]at q;done)
theorem rplain_any(n:Nat)(h:Hd)(l:List (VT n))(ns ls:Value)(w:World)(hr:RD (n+1) w (h,l) ns ls):Calls prog 203 #[.agg (aP h ns ls)] w fun e w'=>TB (dk h l) w e w':=by
 by_cases k1:h.kind=1
 ·exact QR n h l ns ls w hr k1
 by_cases k2:h.kind=2
 ·exact QQ n h l ns ls w hr k2
 by_cases k3:h.kind=3
 ·exact QP n h l ns ls w hr k3
 by_cases k4:h.kind=4
 ·exact QO n h l ns ls w hr k4
 by_cases k5:h.kind=5
 ·exact QN n h l ns ls w hr k5
 by_cases k6:h.kind=6
 ·exact QM n h l ns ls w hr k6
 by_cases k7:h.kind=7
 ·exact QL n h l ns ls w hr k7
 by_cases k8:h.kind=8
 ·exact QK n h l ns ls w hr k8
 by_cases k9:h.kind=9
 ·exact QJ n h l ns ls w hr k9
 have hx:¬dk h l:=by rintro⟨q1,q2,_⟩;omega
 have jC:=aa hx;obtain⟨a1,m1,d1,a2,m2,d2,rfl,rfl⟩:=hr.shape;clear hx hr;show Calls _ _ #[.agg #[.int .i64 h.kind,.bool h.flag,.bool h.neg,.string h.dig,.int .i64 h.exp,.int .u64 h.bits,.string h.text,.slice a1 m1 d1,.slice a2 m2 d2]] _ _;by_cases b1:h.kind<1
 ·go_enter func203,ntmps203
  go_wp2_with fail
  go_ret;exact TB.no jC.out (ab (ab af))
 have b2:9<h.kind:=by omega
 go_enter func203,ntmps203;go_wp2_with fail
 go_ret;exact TB.no jC.out (ab (ab af))
def tL:Prop:=∀(s:ByteArray) (w:World),s.size<=281474976710656->Calls prog 141 #[.string s] w fun e w'=>e=.returned (.bool (okT s))/\Below w.heap.size w w'
theorem im(rv:tL)(n:Nat)(h:Hd)(l:List (VT n))(ns ls:Value)(w:World)(hr:RD (n+1) w (h,l) ns ls)(hz:Sz (n+1) (h,l)):Calls prog 204 #[.agg (aP h ns ls)] w fun e w'=>TB (bI h l.length) w e w':=by
 obtain⟨al,cl,rfl,bB,br⟩:=hr.len;obtain⟨an,cn,rfl,cm,df⟩:=hr.1.len;have ml:maxLen=9223372036854775807:=rfl;simp only at bB br cm df;obtain⟨z1,z2,z3,z4,z5⟩:=hz;simp only at z1 z2 z3 z4;have dM:=aa (eg w h (.slice an h.names.length cn) (.slice al l.length cl));have db:Hid (∀o,Below w.heap.size w (w.alloc o)):=fun o=>ab af;have hV:=aa (fun W=>rv h.text W (by omega));have z4:=aa z4
 replace hr:=aa hr
 replace rv:=aa rv
 clear z5;show Calls _ _ #[.agg #[.int .i64 h.kind,.bool h.flag,.bool h.neg,.string h.dig,.int .i64 h.exp,.int .u64 h.bits,.string h.text,.slice an h.names.length cn,.slice al l.length cl]] _ _;by_cases k3:h.kind=3
 ·have hx:=aa (show bI h l.length↔eI h.neg h.dig h.exp=true by simp[bI,k3])
  have hC:=aa (fun W=>bQ h.neg h.dig h.exp W (by omega));obtain⟨b,hb⟩:∃b,eI h.neg h.dig h.exp=b:=⟨_,rfl⟩
  rw[hb]at hC hx;rw[k3];clear hb;go_enter func204,ntmps204;go_wp2_with(go_at_call 168;refine(hC.out _).mono ?_;rintro e w1 ⟨rfl,ai⟩)
  go_ret;exact⟨b,rfl,(show Hid _ from hx.out.symm),ac (db.out _) ai⟩
 by_cases k5:h.kind=5
 ·have hx:=aa (show bI h l.length↔okT h.text=true by simp[bI,k5])
  obtain⟨b,hb⟩:∃b,okT h.text=b:=⟨_,rfl⟩
  rw[hb]at hV hx;rw[k5];clear hb;go_enter func204,ntmps204;go_wp2_with(go_at_call 141;refine(hV.out _).mono ?_;rintro e w1 ⟨rfl,ai⟩)
  go_ret;exact⟨b,rfl,(show Hid _ from hx.out.symm),ac (db.out _) ai⟩
 by_cases k9:h.kind=9
 ·obtain⟨b,hb⟩:∃b,okT h.text=b:=⟨_,rfl⟩
  have hx:=aa (show bI h l.length↔(b=true/\l.length=1)by simp[bI,k9,hb]);rw[hb]at hV;rw[k9];clear hb;cases b
  ·go_enter func204,ntmps204
   go_wp2_with(go_at_call 141;refine(hV.out _).mono ?_;rintro e w1 ⟨rfl,ai⟩;have c8:=gK ai 8)
   go_ret;exact TB.no (fun q=>by have:=(hx.out.1 q).1;cases this) (ac (db.out _) ai)
  by_cases h1:l.length=1
  ·rw[h1]at hx dM ⊢
   go_enter func204,ntmps204;go_wp2_with(go_at_call 141;refine(hV.out _).mono ?_;rintro e w1 ⟨rfl,ai⟩;have c8:=gK ai 8)
   go_ret;exact TB.yes (hx.out.2 (by simp)) (ac (db.out _) ai)
  have h1i:¬(l.length:Int)=1:=by omega
  have h1d:=aa (show decide ((l.length:Int)=1)=false from decide_eq_false h1i);have gT:Hid (¬bI h l.length):=fun q=>h1 (hx.out.1 q).2;clear h1 hx;go_enter func204,ntmps204;go_wp2_with(go_at_call 141;refine(hV.out _).mono ?_;rintro e w1 ⟨rfl,ai⟩;have c8:=gK ai 8)
  go_ret
  first|exact TB.no gT.out (ac (db.out _) ai)|(show TB _ _ (.returned (.bool (decide ((l.length:Int)=1)))) _;rw[h1d.out];exact TB.no gT.out (ac (db.out _) ai))
 by_cases k8:h.kind=8
 ·have hx:=aa (show bI h l.length↔(h.names.length=l.length/\oB h.names)by simp[bI,k8])
  have Xc:Hid (Bx (w.alloc (.cells #[.int .i64 8,.bool h.flag,.bool h.neg,.string h.dig,.int .i64 h.exp,.int .u64 h.bits,.string h.text,.slice an h.names.length cn,.slice al l.length cl] 31)) w.heap.size h (.slice an h.names.length cn) (.slice al l.length cl)):=by have:=dM.out;unfold aP at this;rw[k8]at this;exact this
  rw[k8];go_enter func204,ntmps204;go_wp2_with fail
  go_loopw [3] (fun i w'=>∃k:Nat,i=.int .i64 k/\k<=h.names.length/\Hid ((∀s∈h.names.take k,okT s=true)/\Below w.heap.size w w')/\Hid (Bx w' w.heap.size h (.slice an h.names.length cn) (.slice al l.length cl))) (fun i _=>h.names.length-(intOf i).toNat)
  case atStart=>exact⟨0,rfl,Nat.zero_le _,⟨(fun y hy=>by simp at hy),db.out _⟩,Xc.out⟩
  case round=>
   obtain⟨k,rfl,hk,H,hB⟩:=hrel;have c7:=hB.out.cells.2.2.2.2.2.2.2.1;have c8:=hB.out.cells.2.2.2.2.2.2.2.2;by_cases aE:k<h.names.length
   ·have bF:(k:Int)<(h.names.length:Int):=by omega
    have cR:(k:Int)<9223372036854775807:=by omega
    obtain⟨b,o,c,he,cQ,gq,iE,hcell⟩:=hr.out.1.at k aE;have cy:=Value.slice.inj he;obtain⟨rfl,_,rfl⟩:=cy;clear he;have hcell:=(H.out.2.cell (p:=⟨b,o+k,none⟩) cQ).trans hcell;obtain⟨s,hs⟩:∃s,h.names[k]=s:=⟨_,rfl⟩
    simp only at hcell;rw[hs]at hcell;have cC:s.size<=281474976710656:=by rw[<-hs];exact z4.out _ (List.getElem_mem _)
    have Tu:=aa (rv.out s wr cC);obtain⟨q,hq⟩:∃q,okT s=q:=⟨_,rfl⟩
    rw[hq]at Tu;have zm:=aa hq;have eK:=aa hs;clear hs hq cC;cases q
    ·have iH:=aa (show ¬bI h l.length from fun p=>by
      have:=(hx.out.1 p).2.1 h.names[k] (List.getElem_mem _);rw[eK.out,zm.out]at this;cases this)
     go_wp2_with(go_at_call 141;refine Tu.out.mono ?_;rintro e w3 ⟨rfl,ar⟩)
     go_ret;exact TB.no iH.out (ac H.out.2 ar)
    have LW:=aa (bS (p:=fun s=>okT s=true) aE H.out.1 (by rw[eK.out,zm.out]));go_wp2_with(go_at_call 141;refine Tu.out.mono ?_;rintro e w3 ⟨rfl,ar⟩)
    exact⟨⟨k+1,by go_num,by omega,⟨LW.out,ac H.out.2 ar⟩,hB.out.below ar⟩,by simp[intOf];omega⟩
   have bF:¬((k:Int)<(h.names.length:Int)):=by omega
   have hE:=H.out.1;rw[List.take_of_length_le (by omega)]at hE;have iJ:=aa hE;clear hE;by_cases aL:(h.names.length:Int)=(l.length:Int)
   ·obtain⟨q,hq⟩:=dX h.names.Nodup
    have hU:=aa (Calls.tb (wg (.slice an h.names.length cn) h.names wr (hr.out.1.below H.out.2)) hq);have eA:=aa (show q=true↔bI h l.length by rw[hx.out,hq];exact⟨fun p=>⟨by omega,iJ.out,p⟩,fun p=>p.2.2⟩)
    clear hq;go_wp2_with(go_at_call 223;refine hU.out.mono ?_;rintro e w3 ⟨rfl,ar⟩)
    go_ret;exact⟨q,rfl,(show Hid _ from eA.out),ac H.out.2 ar⟩
   have iH:=aa (show ¬bI h l.length from fun p=>by have:=(hx.out.1 p).1;omega);go_wp2_with fail
   go_ret;exact TB.no iH.out H.out.2
 have hx:=aa (show bI h l.length by simp[bI,k3,k5,k8,k9]);go_enter func204,ntmps204;go_wp2_with fail
 go_ret;exact TB.yes hx.out (db.out _)
theorem xN(rv:tL):∀(n:Nat) (x:VT n) (ns ls:Value) (w:World),RD n w x ns ls->Sz n x ->
  Calls prog 171 #[.agg (aP (aI n x) ns ls)] w fun e w'=>TB (iL n x) w e w':=by
 intro n
 induction n with
 |zero=>intro x;exact Empty.elim x
 |succ n ih=>
  intro x ns ls w hr hz;obtain⟨h,l⟩:=x;obtain⟨b1,ai⟩:=dX (dk h l);obtain⟨b2,aq⟩:=dX (bI h l.length);have hP:=aa (fun W (hb:Below w.heap.size w W)=>Calls.tb (rplain_any n h l ns ls W (hr.below hb)) ai);have hO:=aa (fun W (hb:Below w.heap.size w W)=>Calls.tb (im rv n h l ns ls W (hr.below hb) hz) aq);obtain⟨al,cl,rfl,bB,br⟩:=hr.len;obtain⟨an,mn,cn,_,_,_,rfl,_⟩:=hr.shape;have ml:maxLen=9223372036854775807:=rfl;simp only at bB br;have db:Hid (∀o,Below w.heap.size w (w.alloc o)):=fun o=>ab af;have dM:=aa (eg w h (.slice an mn cn) (.slice al l.length cl))
  replace hr:=aa hr
  replace hz:=aa hz
  replace ai:=aa ai
  replace aq:=aa aq
  have ih':=aa ih;clear ih rv;show Calls _ _ #[.agg #[.int .i64 h.kind,.bool h.flag,.bool h.neg,.string h.dig,.int .i64 h.exp,.int .u64 h.bits,.string h.text,.slice an mn cn,.slice al l.length cl]] _ _;cases b1
  ·have iH:=aa (show ¬iL (n+1) (h,l)from fun q=>by have:=ai.out.2 q.1;cases this)
   go_enter func171,ntmps171;go_wp2_with(go_at_call 203;refine(hP.out _ (db.out _)).mono ?_;rintro e w1 ⟨rfl,ar⟩)
   go_ret;exact TB.no iH.out (ac (db.out _) ar)
  go_enter func171,ntmps171;go_wp2_with fail
  refine(hP.out _ (db.out _)).mono ?_;rintro e w1 ⟨rfl,ar⟩;have aT:=aa (ac (db.out _) ar);have bO:=aa (dM.out.below ar);clear dM ar;obtain⟨c0,c1,c2,c3,c4,c5,c6,c7,c8⟩:=bO.out.cells;have tU:=aa (hO.out w1 aT.out);cases b2
  ·have iH:=aa (show ¬iL (n+1) (h,l)from fun q=>by have:=aq.out.2 q.2.1;cases this)
   go_wp2_with(go_at_call 204;refine tU.out.mono ?_;rintro e w2 ⟨rfl,aO⟩)
   go_ret;exact TB.no iH.out (ac aT.out aO)
  go_wp2_with fail
  refine tU.out.mono ?_;rintro e w2 ⟨rfl,aO⟩;have gi:=aa (ac aT.out aO);have jR:=aa (bO.out.below aO);clear bO aO tU c0 c1 c2 c3 c4 c5 c6 c7 c8;go_wp2_with fail
  go_loopw [3] (fun i w'=>∃k:Nat,i=.int .i64 k/\k<=l.length/\Hid ((∀y∈l.take k,iL n y)/\Below w.heap.size w w')/\Hid (Bx w' w.heap.size h (.slice an mn cn) (.slice al l.length cl))) (fun i _=>l.length-(intOf i).toNat)
  case atStart=>exact⟨0,rfl,Nat.zero_le _,⟨(fun y hy=>by simp at hy),gi.out⟩,jR.out⟩
  case round=>
   obtain⟨k,rfl,hk,H,hB⟩:=hrel;have c8:=hB.out.cells.2.2.2.2.2.2.2.2;by_cases aE:k<l.length
   ·have bF:(k:Int)<(l.length:Int):=by omega
    have cR:(k:Int)<9223372036854775807:=by omega
    obtain⟨b,o,c,he,cQ,gq,iE,ns',ls',bT,bf⟩:=hr.out.at k aE;have cy:=Value.slice.inj he;obtain⟨rfl,_,rfl⟩:=cy;clear he;obtain⟨q0,q1,q2,q3,q4,q5,q6,q7,q8⟩:=fm (am bT H.out.2 cQ);have cA:=aa (bf.below H.out.2);obtain⟨a1,m1,d1,a2,m2,d2,rfl,rfl⟩:=bf.shape;clear bT bf;obtain⟨bk,kF⟩:=dX (iL n l[k]);have hcall:=aa (Calls.tb (ih'.out l[k] (.slice a1 m1 d1) (.slice a2 m2 d2) wr cA.out (hz.out.2.2.2.2 _ (List.getElem_mem _))) kF);have kE:=aa kF;clear kF;cases bk
    ·go_wp2_with(go_at_call 171;refine hcall.out.mono ?_;rintro e w3 ⟨rfl,ar⟩)
     go_ret;exact TB.no (fun q=>by have:=kE.out.2 (q.2.2 _ (List.getElem_mem _));cases this) (ac H.out.2 ar)
    go_wp2_with(go_at_call 171;refine hcall.out.mono ?_;rintro e w3 ⟨rfl,ar⟩)
    exact⟨⟨k+1,by go_num,by omega,⟨bS aE H.out.1 (kE.out.1 (by simp)),ac H.out.2 ar⟩,hB.out.below ar⟩,by simp[intOf];omega⟩
   have bF:¬((k:Int)<(l.length:Int)):=by omega
   have th:=H.out.1;rw[List.take_of_length_le (by omega)]at th;have Ln:=aa (show iL (n+1) (h,l)from⟨ai.out.1 (by simp),aq.out.1 (by simp),th⟩);clear th;go_wp2_with fail
   go_ret;exact TB.yes Ln.out H.out.2
