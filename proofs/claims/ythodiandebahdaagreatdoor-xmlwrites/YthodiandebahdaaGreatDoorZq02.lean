/- Merged by program: JaPut, OcPower, NmMath, NdCmp, NfTrim, NhForm, NnSem, NoOrd, NpFormF, NqAdd, NrSum, OgPrint, JbHex. -/
import Derived.Test.YthodiandebahdaaGreatDoorZq01
namespace Go.Proofs.YthodiandebahdaaGreatDoor
open Go.RowKit
set_option linter.unusedSimpArgs false
set_option linter.unusedVariables false
set_option maxHeartbeats 8000000
def Sto (p:Prop):Prop:=p
theorem Sto.out {p:Prop} (h:Sto p):p:=h
theorem Sto.mk {p:Prop} (h:p):Sto p:=h
def WB (W:World)(i:Nat)(A:List UInt8):Prop:=∃ v,W.heap[i]?=some (.cells #[v] 82 (0,0))∧Own W (i+1) v A
def pan (E:Int):List PanicEntry:=[{v:=.iface 33 (.int .i64 E),recovered:=false}]
def FW (i:Nat)(W w':World):Prop:=Below i W w'∧∀ v,W.heap[i]?=some (.cells #[v] 82 (0,0)) →
 (∀ q,q<W.heap.size→q≠i→v.ownBlock≠some q→w'.heap[q]?=W.heap[q]?)∧∃ v',w'.heap[i]?=some (.cells #[v'] 82 (0,0))∧(v'.ownBlock=v.ownBlock∨∀ g,v'.ownBlock=some g→W.heap.size≤g)
theorem FW.refl (i:Nat)(W:World):FW i W W:=⟨Below.refl _ _,fun v h=>⟨fun _ _ _ _=>rfl,v,h,Or.inl rfl⟩⟩
theorem FW.trans {i:Nat} {W w1 w2:World} (h:FW i W w1)(k:FW i w1 w2):FW i W w2:=by
 refine ⟨h.1.trans k.1,fun v hv=>?_⟩
 obtain ⟨h1,v1,hv1,ho1⟩:=h.2 v hv
 obtain ⟨k1,v2,hv2,ho2⟩:=k.2 v1 hv1
 have z:=h.1.size
 refine ⟨fun q q1 q2 q3=>(k1 q (by omega) q2 (fun e=>?_)).trans (h1 q q1 q2 q3),v2,hv2,?_⟩
 ·rcases ho1 with o|o
  ·exact q3 (o ▸ e)
  ·have:=o q e;omega
 ·rcases ho2 with o2|o2
  ·rcases ho1 with o1|o1
   ·exact Or.inl (o2.trans o1)
   ·exact Or.inr fun g e=>o1 g (o2 ▸ e)
  ·exact Or.inr fun g e=>Nat.le_trans z (o2 g e)
theorem FW.of {i:Nat} {W w1:World} (h:Below W.heap.size W w1)(hi:i<W.heap.size):FW i W w1 :=
 ⟨h.mono (Nat.le_of_lt hi),fun v hv=>⟨fun q q1 _ _=>h.block q q1,v,(h.block i hi).trans hv,Or.inl rfl⟩⟩
def NB (q:Nat)(W:World)(i:Nat):Prop:=q<W.heap.size∧q≠i∧∃ v,W.heap[i]?=some (.cells #[v] 82 (0,0))∧v.ownBlock≠some q
theorem FW.kept {i q:Nat} {W w':World} (h:FW i W w')(n:NB q W i):w'.heap[q]?=W.heap[q]?∧NB q w' i:=by
 obtain ⟨n1,n2,v,hv,n3⟩:=n
 obtain ⟨h1,v',hv',ho⟩:=h.2 v hv
 refine ⟨h1 q n1 n2 n3,Nat.lt_of_lt_of_le n1 h.1.size,n2,v',hv',fun e=>?_⟩
 rcases ho with o|o
 ·exact n3 (o ▸ e)
 ·have:=o q e;omega
def WO (i:Nat)(A T:List UInt8)(W:World)(e:Ending)(w':World):Prop :=
 FW i W w'∧((A.length+T.length≤65536∧e=.returned (.tuple #[])∧WB w' i (A++T))∨(65536<A.length+T.length∧e=.panicked (pan 2)))
theorem WB.lt {W:World} {i:Nat} {A:List UInt8} (h:WB W i A):i<W.heap.size:=by
 obtain ⟨v,h1,_⟩:=h
 exact (Array.getElem?_eq_some_iff.1 h1).1
theorem NB.new {W:World} {i:Nat} {A:List UInt8} {o:Obj} (h:WB W i A):NB W.heap.size (W.alloc o) i:=by
 have hlt:=h.lt
 obtain ⟨v,h1,h2⟩:=h
 exact ⟨by simp,by omega,v,(Below.heap_alloc _ _ _ hlt).trans h1,fun e=>by have:=(World.ownsRow.lt h2 _ e).2;omega⟩
theorem str_at {P:Program} (w:World)(base:Nat)(t u ty e:TypeId)(i:TypeInfo)(ht:P.underlying t=some (.slice e))(hu:P.underlying u=some .string)(hi:P.info? e=some i)(hz:i.zero=some (.int .u8 0))
  (hsize:i.size=1)(hby:i.bytes=1)(v:Value)(n:Nat)(xs:List Value)(hown:w.ownsRow base e 1 v n xs)(s:ByteArray)(hbytes:n+s.size≤140737488355328)
  (v':Value)(w':World)(h:(Builtin.append_ #[t,u] ty #[v,.string s]).run P w=.ok v' w'):v'.ownBlock=v.ownBlock∨v'.ownBlock=some w.heap.size:=by
 have hxl:xs.length=n:=by simpa using hown.1
 rcases hown.2 with ⟨rfl,rfl⟩|⟨g,cap,cur,rfl,hbg,hg,hnc,hcm,hcs,htake⟩
 ·by_cases hm:s.size=0
  ·have hf:=Lib.run_firstCells_string (P:=P) w 1 s
   rw [hm] at hf
   have:(Builtin.append_ #[t,u] ty #[.slice none 0 0,.string s]).run P w=.ok (.slice none 0 0) w:=by
    simp [Builtin.append_,run_underlying ht,run_underlying hu,sizeOf,typeInfo,hi,hsize,Builtin.lenOf,hm,hf]
   rw [this] at h
   cases h
   exact Or.inl rfl
  ·have hr:=run_append_nil_string (P:=P) w t u ty e i (.int .u8 0) ht hu hi hz s (by omega) (by omega) (by rw [hby];omega)
   rw [hr] at h
   cases h
   exact Or.inr rfl
 ·by_cases hroom:n+s.size≤cap
  ·have hcs':cur.size=cap:=by simpa using hcs
   have hr:=Lib.run_append_room_string (P:=P) w t u ty e i ht hu hi hsize g n cap cur hg s hroom (by omega)
   rw [hr] at h
   cases h
   exact Or.inl rfl
  ·have holds:∀ j u,xs[j]?=some u→w.cell? ((⟨g,0,none⟩:Addr).add j)=some u:=hown.cells (g:=g) rfl
   have hr:=Lib.run_append_grow_string (P:=P) w t u ty e i (.int .u8 0) ht hu hi hz ⟨g,0,none⟩ n cap xs (by rw [hsize];simpa using hxl) holds s (by omega) (by omega) (by rw [hby];exact growslice_fits (by omega) (by omega))
   rw [hr] at h
   cases h
   exact Or.inr rfl
theorem app_str2 {w:World} {ops:Array Oper} {rest:List Oper} {o:Oper} {a:Act} {Q:Exit→Act→World→Prop} (hgd:o.guard=none)(sl x:Operand)(ho:o.op=.call {callee:=.builtin .append,args:=#[sl,x],argTypes:=#[32,9]})
  (B:Nat)(v:Value)(l:List UInt8)(hs:a.eval sl=v)(hown:Own w B v l)(s:ByteArray)(hx:a.eval x=.string s)(hl:l.length+s.size≤100000)(hB:B≤w.heap.size)
  (h:∀ v' w',Hid (Own w' B v' (l++bl s))→Hid (w.grownBy w' v.ownBlock)→Hid (v'.ownBlock=v.ownBlock∨v'.ownBlock=some w.heap.size)→wpList Tryz.prog ops Q rest (a.put o.dst v') w'):wpList Tryz.prog ops Q (o :: rest) a w:=by
 obtain ⟨i0,hi,hz0,hz1,hz2⟩:=info_parts info5
 refine wpList_plain hgd fun K hK=>?_
 obtain ⟨v',w',hr,h2,h3,h4⟩:=Lib.run_append_own_string (P:=Tryz.prog) w B 32 9 o.type 5 i0 Tryz.underlying32 Tryz.underlying9 hi hz0 hz1 hz2 v l.length (bcs l) hown s (by unfold maxLen;omega) (by omega) hB
 have hat:=str_at (P:=Tryz.prog) w B 32 9 o.type 5 i0 Tryz.underlying32 Tryz.underlying9 hi hz0 hz1 hz2 v l.length (bcs l) hown s (by omega) v' w' hr
 unfold Oper.wp execOp
 simp only [ho,resolve,invoke,builtin,Sem.run_bind,Sem.run_pure,Result.andThen_ok,List.map_toArray,List.map_cons,List.map_nil,hs,hx,hr]
 refine hK _ _ (h v' w' ?_ h3 hat)
 show Own _ _ _ _
 unfold Own
 rw [bcs_append,List.length_append,bl_length,←strCells_bcs];exact h2
set_option maxRecDepth 100000 in
theorem put_all (s:ByteArray)(A:List UInt8)(W:World)(i:Nat)(h:WB W i A)(hA:A.length≤65536) :
  Calls Tryz.prog 40 #[.pointer (some ⟨i,0,none⟩),.string s] W fun e w'=>WO i A (bl s) W e w':=by
 have hlt:=h.lt
 obtain ⟨v,h1,h2⟩:=h
 obtain ⟨a,c,rfl⟩:∃ a c,v=.slice a A.length c:=by
  rcases h2.2 with ⟨rfl,e⟩|⟨g,cap,cur,rfl,_⟩
  ·exact ⟨none,0,by rw [e]⟩
  ·exact ⟨_,_,rfl⟩
 have c0:W.cell? ⟨i,0,none⟩=some (.slice a A.length c):=by simp [World.cell?,h1]
 have f0:W.frozen? ⟨i,0,none⟩=false:=by simp [World.frozen?,h1]
 have h1':=hide h1
 have h2':=hide h2
 have hbl:=hide (bl_length s)
 clear h1 h2
 have hw:IntKind.i64.wrap (65536 - (A.length:Int))=65536 - (A.length:Int):=by rw [IntKind.wrap_i64] <;> omega
 by_cases hbig:(65536:Int) - (A.length:Int)<(s.size:Int)
 ·go_enter Tryz.func40, Tryz.ntmps40
  go_wp2_with fail
  exact ⟨rfl,FW.refl _ _,Or.inr ⟨by rw [hbl.out];omega,rfl⟩⟩
 ·go_enter Tryz.func40, Tryz.ntmps40
  go_wp2_with (at_builtin;refine Sto.out ?_)
  refine Sto.mk ?_
  refine app_str2 rfl (.tmp 18) (.tmp 19) rfl (i+1) (.slice a A.length c) A rfl h2'.out s rfl (by omega) (by omega) ?_
  intro v' w' ho hg hat
  have hz:=hg.out.size
  have hll:=World.ownsRow.lt h2'.out
  have hblk:Hid (w'.heap[i]?=some (.cells #[.slice a A.length c] 82 (0,0))):=(hg.out.block i hlt (fun q=>by have:=(hll i q.symm).1;omega)).trans h1'.out
  have c1:w'.cell? ⟨i,0,none⟩=some (.slice a A.length c):=by simp [World.cell?,hblk.out]
  have f1:w'.frozen? ⟨i,0,none⟩=false:=by simp [World.frozen?,hblk.out]
  have ho':v'.oneCell'=true:=by
   rcases ho.out.2 with ⟨rfl,e⟩|⟨g,cap,cur,rfl,_⟩
   ·rfl
   ·rfl
  clear c0 f0
  obtain ⟨a2,n2,c2,rfl⟩:∃ a2 n2 c2,v'=.slice a2 n2 c2:=by
   rcases ho.out.2 with ⟨rfl,e⟩|⟨g,cap,cur,rfl,_⟩
   ·exact ⟨_,_,_,rfl⟩
   ·exact ⟨_,_,_,rfl⟩
  have hn2:n2=(A++bl s).length:=by
   have:=ho.out.1
   rcases ho.out.2 with ⟨e,e2⟩|⟨g,cap,cur,e,_⟩
   ·cases e;exact e2.symm
   ·cases e;rfl
  have hn2':=hide hn2
  clear hn2
  go_wp2_with fail
  go_end0
  have hblk2:(w'.setCell ⟨i,0,none⟩ (.slice a2 n2 c2)).heap[i]?=some (.cells #[.slice a2 n2 c2] 82 (0,0)):=by
   rw [setCell_eq_setRow w' i 0 _ _ (0,0) _ hblk.out,setRow_heap w' i _ _ _ (0,0) hblk.out]
   rfl
  refine ⟨⟨((Below.refl i W).grown hg.out (by omega) (fun g e=>by have:=(hll g e).1;omega)).setCell (p:=⟨i,0,none⟩) (Nat.le_refl i) _,fun v hv=>?_⟩,Or.inl ⟨by rw [hbl.out];omega,rfl,.slice a2 n2 c2,hblk2,?_⟩⟩
  ·have hv2:v=.slice a A.length c:=by
    rw [h1'.out] at hv
    cases hv
    rfl
   subst hv2
   refine ⟨fun q q1 q2 q3=>?_,_,hblk2,?_⟩
   ·rw [heap_set_ne q2,hg.out.block q q1 (fun e=>q3 e.symm)]
   ·rcases hat.out with e|e
    ·exact Or.inl e
    ·exact Or.inr fun g hg'=>by rw [e] at hg';cases hg';exact Nat.le_refl _
  ·have:=ho.out
   unfold Own at this ⊢
   exact ownsRow_of this fun g e hg=>heap_set_ne (by have:=(World.ownsRow.lt ho.out g e).1;omega)
theorem put_any (s:ByteArray)(A:List UInt8)(W:World)(i:Nat)(h:WB W i A)(hA:A.length≤65536)(hs:s.size≤281474976710656) :
  Calls Tryz.prog 40 #[.pointer (some ⟨i,0,none⟩),.string s] W fun e w'=>WO i A (bl s) W e w':=put_all s A W i h hA
def powered (l:List UInt8)(p:List UInt8):List UInt8:=l.take 1++(if 1<l.length then 46 :: l.drop 1 else [])++101 :: p
def val:List Nat→Nat
 | []=>0
 | d :: l=>d * 10 ^ l.length+val l
def Dgs (l:List Nat):Prop:=∀ d∈l,d≤9
def dg (s:ByteArray):List Nat:=(bl s).map fun c=>c.toNat - 48
theorem dg_length (s:ByteArray):(dg s).length=s.size:=by simp [dg,bl_length]
theorem dg_get (s:ByteArray)(k:Nat)(h:k<s.size):(dg s)[k]'(by rw [dg_length];exact h)=s[k].toNat - 48:=by
 simp only [dg,List.getElem_map]
 rw [bl_get s k h]
theorem dg_dgs (s:ByteArray)(h:allD (bl s)=true):Dgs (dg s):=by
 intro d hd
 simp only [dg,List.mem_map] at hd
 obtain ⟨c,hc,rfl⟩:=hd
 have:=(isDig_iff c).1 ((List.all_eq_true.1 h) c hc)
 omega
theorem allD_get (s:ByteArray)(h:allD (bl s)=true)(k:Nat)(hk:k<s.size):48≤s[k].toNat∧s[k].toNat≤57:=by
 have h1:s[k]∈bl s:=by rw [←bl_get s k hk];exact List.getElem_mem _
 have:=(isDig_iff s[k]).1 ((List.all_eq_true.1 h) _ h1)
 omega
theorem isN_len {n:Bool} {s:ByteArray} {x:Int} (h:isN n s x=true):s.size≤40∧-400≤x∧x≤400:=by
 simp [isN,isZ,isO] at h
 rcases h with ⟨⟨_,h1⟩,h2⟩|h
 ·have:=bl_length s;rw [h1] at this;simp at this;omega
 ·rw [bl_length] at h;omega
def lz (d:List Nat):Nat:=(d.takeWhile (·==0)).length
theorem lz_of (d:List Nat)(k:Nat)(hk:k≤d.length)(h1:∀ i (h:i<d.length),i<k→d[i]=0)(h2:∀ h:k<d.length,d[k]≠0):lz d=k :=
 takeWhile_of _ d k hk (fun j h hj=>by simp [h1 j h hj]) (fun h=>by simpa using h2 h)
def lenOf:Value→Nat | .slice _ m _=>m|_=>0
theorem trimByte_any (b o n c:Nat)(d:List Nat)(w:World)(hd:d.length=n)(hn0:0<n)(hn:n≤100000)(hc:n≤c)(hc':c≤100000)
  (hcell:∀ i (h:i<d.length),w.cell? ⟨b,o+i,none⟩=some (.int .u8 (d[i]:Nat))) :
  Calls Tryz.prog 194 #[.slice (some ⟨b,o,none⟩) n c,.int .u8 0] w fun e w'=>(lz d<n→e=.returned (.slice (some ⟨b,o+lz d,none⟩) (n - lz d) (c - lz d)))∧(lz d=n→e=.returned (.slice none 0 0))∧w'=w:=by
 go_enter Tryz.func194, Tryz.ntmps194
 go_wp2
 go_loop [0] (fun s=>∃ k:Nat,k≤n∧(∀ i (h:i<d.length),i<k→d[i]=0)∧((k<n∧s=.slice (some ⟨b,o+k,none⟩) (n - k) (c - k))∨(k=n∧∃ a cc,s=.slice a 0 cc))) (fun s=>lenOf s)
 case atStart=>exact ⟨0,Nat.zero_le _,fun i h hi=>by omega,Or.inl ⟨hn0,rfl⟩⟩
 case round =>
  obtain ⟨k,hk,hz,hs⟩:=hrel
  rcases hs with ⟨hlt,rfl⟩|⟨rfl,a,cc,rfl⟩
  ·have hck:=hcell k (by omega)
   by_cases h0:d[k]'(by omega)=0
   ·rw [h0] at hck
    have hz':∀ i (h:i<d.length),i<k+1→d[i]=0:=fun i h hi=>by
     by_cases e:i=k
     ·subst e;exact h0
     ·exact hz i h (by omega)
    have hz':=hide hz'
    go_wp2
    refine ⟨⟨k+1,by omega,hz'.out,?_⟩,by simp [lenOf];omega⟩
    by_cases hl:k+1<n
    ·exact Or.inl ⟨hl,by rw [if_neg (by omega)];simp [Nat.sub_sub,Nat.add_assoc]⟩
    ·exact Or.inr ⟨by omega,_,_,by rw [show n - k - 1=0 by omega]⟩
   ·have h1:((d[k]'(by omega):Int)==0)=false:=by simp;exact h0
    have h2:(((n - k:Nat):Int)==0)=false:=by simp;omega
    have hl:=hide (lz_of d k (by omega) hz (fun _=>h0))
    clear h0
    go_wp2
    go_ret
    exact ⟨fun _=>by rw [hl.out];rfl,fun h=>by rw [hl.out] at h;omega,rfl⟩
  ·have hl:=hide (lz_of d k (by omega) hz (fun h=>by omega))
   go_wp2
   go_ret
   exact ⟨fun h=>by rw [hl.out] at h;omega,fun h=>rfl,rfl⟩
set_option maxRecDepth 100000 in
theorem trimLeft_any (b o n c:Nat)(d:List Nat)(w:World)(hd:d.length=n)(hn0:0<n)(hn:n≤100000)(hc:n≤c)(hc':c≤100000)
  (hcell:∀ i (h:i<d.length),w.cell? ⟨b,o+i,none⟩=some (.int .u8 (d[i]:Nat))) :
  Calls Tryz.prog 192 #[.slice (some ⟨b,o,none⟩) n c,.string ⟨#[0]⟩] w fun e w'=>(lz d<n→e=.returned (.slice (some ⟨b,o+lz d,none⟩) (n - lz d) (c - lz d)))∧(lz d=n→e=.returned (.slice none 0 0))∧w'=w:=by
 have h2:((n:Int)==0)=false:=by simp;omega
 have hcell:=hide hcell
 by_cases hl:lz d<n
 ·go_enter Tryz.func192, Tryz.ntmps192
  go_wp2_with (go_at_call 194;refine (trimByte_any b o n c d _ hd hn0 hn hc hc' hcell.out).mono ?_;rintro e w' ⟨h1,_,rfl⟩;obtain rfl:=h1 hl)
  go_ret
  exact ⟨fun _=>rfl,fun h=>by omega,rfl⟩
 ·have hl':Hid (lz d=n):=by
   have:lz d≤n:=by
    unfold lz;rw [←hd];exact (List.takeWhile_prefix _).length_le
   show lz d=n
   omega
  go_enter Tryz.func192, Tryz.ntmps192
  go_wp2_with (go_at_call 194;refine (trimByte_any b o n c d _ hd hn0 hn hc hc' hcell.out).mono ?_;rintro e w' ⟨_,h1,rfl⟩;obtain rfl:=h1 hl'.out)
  go_ret
  exact ⟨fun h=>by omega,fun _=>rfl,rfl⟩
def mkS (l:List Nat):ByteArray:=strOfNums (l.map fun v:Nat=>((v:Int)+48))
def formE (ok neg:Bool)(s:ByteArray)(x:Int):Ending :=
 if ok then .returned (.tuple #[.agg #[.bool neg,.string s,.int .i64 x],.int .i64 0]) else .returned (.tuple #[.agg #[.bool false,.string ⟨#[]⟩,.int .i64 0],.int .i64 2])
def tz (d:List Nat):Nat:=lz d.reverse
theorem tz_of (d:List Nat)(m k:Nat)(hm:d.length=m)(hk:k<m)(h1:∀ i (h:i<d.length),m - k≤i→d[i]=0)(h2:d[m - k - 1]'(by omega)≠0):tz d=k:=by
 refine lz_of d.reverse k (by simp;omega) (fun i h hi=>?_) (fun h=>?_)
 ·rw [List.getElem_reverse]
  exact h1 _ _ (by simp at h;omega)
 ·rw [List.getElem_reverse]
  have e:d.length - 1 - k=m - k - 1:=by omega
  simp only [e];exact h2
theorem lz_ne (d:List Nat)(h:lz d<d.length):d[lz d]≠0:=by
 intro h0
 have key:∀ (l:List Nat)(h:(l.takeWhile (·==0)).length<l.length),l[(l.takeWhile (·==0)).length]≠0:=by
  intro l
  induction l with
  | nil=>intro h;simp at h
  | cons a l ih =>
   intro h
   by_cases ha:a=0
   ·subst ha
    simp only [List.takeWhile_cons,beq_self_eq_true,if_true,List.length_cons,List.getElem_cons_succ]
    exact ih (by simpa using h)
   ·simp [ha]
 exact key d h h0
set_option maxRecDepth 100000 in
theorem form_zero (neg:Bool)(b o n c:Nat)(d:List Nat)(x:Int)(w:World)(hd:d.length=n)(hn0:0<n)(hn:n≤100000)(hc:n≤c)(hc':c≤100000)(hb:b<w.heap.size)
  (hcell:∀ i (h:i<d.length),w.cell? ⟨b,o+i,none⟩=some (.int .u8 (d[i]:Nat)))(hz:lz d=n) :
  Calls Tryz.prog 177 #[.bool neg,.slice (some ⟨b,o,none⟩) n c,.int .i64 x] w fun e w'=>e=.returned (.tuple #[.agg #[.bool false,.string ⟨#[48]⟩,.int .i64 0],.int .i64 0])∧Below w.heap.size w w':=by
 have hcell':∀ cs T,∀ i (h:i<d.length),(w.alloc (.cells cs T)).cell? ⟨b,o+i,none⟩=some (.int .u8 (d[i]:Nat)):=fun cs T i h=>by
  rw [←hcell i h];exact ((Below.refl w.heap.size w).alloc (Nat.le_refl _) _).cell (p:=⟨b,o+i,none⟩) hb
 have hcell':=hide hcell'
 have hz:=hide hz
 clear hcell
 go_enter Tryz.func177, Tryz.ntmps177
 go_wp2_with (go_at_call 192;refine (trimLeft_any b o n c d _ hd hn0 hn hc hc' (hcell'.out _ _)).mono ?_;rintro e w' ⟨_,h1,rfl⟩;obtain rfl:=h1 hz.out)
 exact bodyPost_ret (v:=.tuple #[.agg #[.bool false,.string ⟨#[48]⟩,.int .i64 0],.int .i64 0]) (by simp [results,Tryz.results177,go_sem]) rfl ⟨rfl,(Below.refl _ _).alloc (Nat.le_refl _) _⟩
set_option maxRecDepth 100000 in
theorem form_some (neg:Bool)(b o n c:Nat)(d d1 d2:List Nat)(m k1:Nat)(x:Int)(w:World)(hd:d.length=n)(hn:n≤100000)(hc:n≤c)(hc':c≤100000)(hb:b<w.heap.size)
  (hcell:∀ i (h:i<d.length),w.cell? ⟨b,o+i,none⟩=some (.int .u8 (d[i]:Nat)))(hz:lz d<n)(hx:-1000000≤x)(hx':x≤1000000)
  (hd1:d1=d.drop (lz d))(hm:m=n - lz d)(hk1:k1=tz d1)(hd2:d2=d1.take (m - k1))(hdg:Dgs d)(fit:Bool)(hfit:fit=decide (d2.length≤40∧-400≤x+k1∧x+k1≤400)) :
  Calls Tryz.prog 177 #[.bool neg,.slice (some ⟨b,o,none⟩) n c,.int .i64 x] w fun e w'=>
   e=formE fit neg (mkS d2) (x+k1)∧Below w.heap.size w w':=by
 have hcell':∀ cs T,∀ i (h:i<d.length),(w.alloc (.cells cs T)).cell? ⟨b,o+i,none⟩=some (.int .u8 (d[i]:Nat)):=fun cs T i h=>by
  rw [←hcell i h];exact ((Below.refl w.heap.size w).alloc (Nat.le_refl _) _).cell (p:=⟨b,o+i,none⟩) hb
 have hcell':=hide hcell'
 clear hcell
 have hne:Hid (d1[0]?≠some 0):=by
  show d1[0]?≠some 0
  rw [hd1,List.getElem?_drop,List.getElem?_eq_getElem (by omega)]
  have:=lz_ne d (by omega)
  simpa using this
 have hg1:Hid (∀ i (h:i<d1.length)(h':lz d+i<d.length),d1[i]=d[lz d+i]):=by
  show ∀ i (h:i<d1.length)(h':lz d+i<d.length),d1[i]=d[lz d+i]
  intro i h h'
  simp only [hd1,List.getElem_drop]
 have hdd1:=hide hd1
 have hmm:=hide hm
 have hmn:m≤n:=by omega
 have hm0:0<m:=by omega
 have hnc:m+lz d=n:=by omega
 have hz':=hide hz
 have hd1l:d1.length=m:=by rw [hd1,List.length_drop];omega
 obtain ⟨z,hzz⟩:∃ z,lz d=z:=⟨_,rfl⟩
 have hhk:=hide hk1
 have hhd2:=hide hd2
 have hhfit:=hide hfit
 have hdg:=hide hdg
 clear hd1 hk1 hd2 hfit
 have ec:Hid (n - lz d=m∧c - lz d=c - z):=by constructor <;> omega
 rw [hzz] at hnc
 have hzz:=hide hzz
 clear hm hz
 go_enter Tryz.func177, Tryz.ntmps177
 go_wp2_with (go_at_call 192;refine (trimLeft_any b o n c d _ hd (by omega) hn hc hc' (hcell'.out _ _)).mono ?_;rintro e w' ⟨h1,_,rfl⟩;have h1:=h1 hz'.out;rw [ec.out.1,ec.out.2,hzz.out] at h1;obtain rfl:=h1)
 have hmz:((m:Int)==0)=false:=by simp;omega
 go_loop [1,2] (fun s e=>∃ k:Nat,k<m∧s=.slice (some ⟨b,o+z,none⟩) (m - k) (c - z)∧e=.int .i64 (x+k)∧Hid (∀ i (h:i<d1.length),m - k≤i→d1[i]=0)) (fun s _=>lenOf s)
 case atStart=>exact ⟨0,hm0,rfl,by simp,fun i h hi=>by omega⟩
 case round =>
  obtain ⟨k,hk,rfl,rfl,hzr⟩:=hrel
  obtain ⟨q,hq⟩:∃ q,d1[m - k - 1]'(by omega)=q:=⟨_,rfl⟩
  have hcl:=hcell'.out #[Value.bool false,Value.string {data:=#[]},Value.int IntKind.i64 0] 24 (z+(m - k - 1)) (by omega)
  have hq':d[z+(m - k - 1)]'(by omega)=q:=by
   rw [←hq,hg1.out (m - k - 1) (by omega) (by rw [hzz.out];omega)]
   simp only [hzz.out]
  rw [hq',←Nat.add_assoc] at hcl
  have hq:=hide hq
  clear hq'
  by_cases h0:q=0
  ·subst h0
   have hzr':Hid (∀ i (h:i<d1.length),m - (k+1)≤i→d1[i]=0):=by
    show ∀ i (h:i<d1.length),m - (k+1)≤i→d1[i]=0
    intro i h hi
    by_cases e:i=m - k - 1
    ·subst e;exact hq.out
    ·exact hzr.out i h (by omega)
   have hk':k+1<m:=by
    by_cases e:k+1<m
    ·exact e
    ·have h1:=hzr'.out 0 (by omega) (by omega)
     exact absurd (by rw [List.getElem?_eq_getElem (by omega),h1]) hne.out
   go_wp2
   refine ⟨⟨k+1,hk',by rw [Nat.sub_sub],?_,hzr'.out⟩,by simp [lenOf];omega⟩
   show Value.int _ _=Value.int _ _
   congr 1
   omega
  ·have h0':((q:Int)==0)=false:=by simp;exact h0
   have hkk:k1=k:=by rw [hhk.out];exact tz_of d1 m k hd1l hk hzr.out (by rw [hq.out];exact h0)
   have hl2:d2.length=m - k:=by rw [hhd2.out,List.length_take,hkk];omega
   subst hkk
   have hl2':=hide hl2
   clear h0
   by_cases h40:40<m - k1
   ·go_wp2
    exact bodyPost_ret (v:=.tuple #[.agg #[.bool false,.string ⟨#[]⟩,.int .i64 0],.int .i64 2]) (by simp [results,Tryz.results177,go_sem]) rfl ⟨by
     have:fit=false:=by rw [hhfit.out];exact decide_eq_false (by omega)
     rw [this];rfl,(Below.refl _ _).alloc (Nat.le_refl _) _⟩
   by_cases he:-400≤x+k1∧x+k1≤400
   ·have e3:decide (-400≤x+k1∧x+k1≤400)=true:=decide_eq_true he
    have hft:Hid (fit=true):=by
     show fit=true
     rw [hhfit.out];exact decide_eq_true ⟨by omega,he⟩
    go_wp2_with (go_at_call 122;refine (expFits_any _ _).mono ?_;rintro e w' ⟨rfl,rfl⟩;rw [e3])
    have hg2:Hid (∀ i (h:i<d2.length)(h':z+i<d.length),d2[i]=d[z+i]):=by
     show ∀ i (h:i<d2.length)(h':z+i<d.length),d2[i]=d[z+i]
     intro i h h'
     simp only [hhd2.out,List.getElem_take]
     rw [hg1.out i (by omega) (by rw [hzz.out];exact h')]
     simp only [hzz.out]
    go_loopw [42] (fun i wr=>∃ k:Nat,k≤m - k1∧i=.int .i64 k∧Hid (Arr wr (w.heap.size+1) 218 ((d2.take k).map (fun v=>48+v)++List.replicate (40 - k) 0))∧Hid (Below (w.heap.size+1) (w.alloc (.cells #[Value.bool false,Value.string {data:=#[]},Value.int IntKind.i64 0] 24)) wr)) (fun i _=>m - k1 - (intOf i).toNat)
    case atStart =>
     refine ⟨0,Nat.zero_le _,rfl,?_,?_⟩
     ·show Arr _ _ _ _
      rw [show w.heap.size+1=(w.alloc (.cells #[Value.bool false,Value.string {data:=#[]},Value.int IntKind.i64 0] 24)).heap.size from by simp]
      exact arr_new _ _ 40 _ rfl
     ·exact (Below.refl _ _).alloc (by simp) _
    case round =>
     obtain ⟨k,hk,rfl,hAr,hB⟩:=hrel
     by_cases hlt:k<m - k1
     ·have hcl:=hcell'.out #[Value.bool false,Value.string {data:=#[]},Value.int IntKind.i64 0] 24 (z+k) (by omega)
      rw [←hB.out.cell (p:=⟨b,o+(z+k),none⟩) (by show b<_;omega),←hg2.out k (by omega) (by omega),←Nat.add_assoc] at hcl
      have hv9:d2[k]'(by omega)≤9:=by rw [hg2.out k (by omega) (by omega)];exact hdg.out _ (List.getElem_mem _)
      obtain ⟨v,hv⟩:∃ v,d2[k]'(by omega)=v:=⟨_,rfl⟩
      rw [hv] at hcl hv9
      have hcs:=hAr.out.cell k (by simp;omega)
      have hfz:=hAr.out.frozen k
      have hv:=hide hv
      have hset:Hid (((d2.take k).map (fun v=>48+v)++List.replicate (40 - k) 0).set k (48+v)=(d2.take (k+1)).map (fun v=>48+v)++List.replicate (40 - (k+1)) 0):=by
       show _=_
       have hlen:((d2.take k).map (fun v=>48+v)).length=k:=by simp;omega
       rw [List.set_append_right _ _ (by omega),hlen,Nat.sub_self,show 40 - k=(40 - (k+1))+1 by omega,List.replicate_succ,List.set_cons_zero,List.take_succ_eq_append_getElem (by omega),List.map_append,hv.out]
       simp
      go_wp2
      refine ⟨⟨k+1,by omega,by go_num,?_,?_⟩,by simp [intOf];omega⟩
      ·show Arr _ _ _ _
       rw [←hset.out]
       exact hAr.out.set k (48+v)
      ·exact hB.out.setCell (Nat.le_refl _) _
     ·have hke:k=m - k1:=by omega
      subst hke
      have htk:d2.take (m - k1)=d2:=List.take_of_length_le (by omega)
      rw [htk] at hAr
      have hconv:(convert 32 9 (.slice (some ⟨w.heap.size+1,0,none⟩) (m - k1) 40)).run Tryz.prog wr=.ok (.string (mkS d2)) wr:=by
       refine run_convert_bytes_arg (P:=Tryz.prog) wr 32 5 Tryz.underlying32 Tryz.underlying5 (w.heap.size+1) 0 (m - k1) 40 (d2.map fun v:Nat=>((v:Int)+48)) (by simp;omega) (fun i hi=>?_) 9 Tryz.underlying9
       rw [Nat.zero_add,hAr.out.cell i (by simp;omega)]
       congr 2
       rw [List.getElem_append_left (by simp;omega),List.getElem_map,List.getD_eq_getElem?_getD,List.getElem?_map,List.getElem?_eq_getElem (by omega)]
       simp;omega
      have hr0:=hB.out.cell (p:=⟨w.heap.size,0,none⟩) (Nat.lt_succ_self _)
      have hr1:=hB.out.cell (p:=⟨w.heap.size,1,none⟩) (Nat.lt_succ_self _)
      have hr2:=hB.out.cell (p:=⟨w.heap.size,2,none⟩) (Nat.lt_succ_self _)
      have hf0:=hB.out.frozen (p:=⟨w.heap.size,0,none⟩) (Nat.lt_succ_self _)
      have hf1:=hB.out.frozen (p:=⟨w.heap.size,1,none⟩) (Nat.lt_succ_self _)
      have hf2:=hB.out.frozen (p:=⟨w.heap.size,2,none⟩) (Nat.lt_succ_self _)
      simp [go_sem] at hr0 hr1 hr2 hf0 hf1 hf2
      clear htk
      go_wp2
      refine bodyPost_ret (v:=.tuple #[.agg #[.bool neg,.string (mkS d2),.int .i64 (x+k1)],.int .i64 0]) (by simp [results,Tryz.results177,go_sem,hr0,hr1,hr2]) rfl ⟨by rw [hft.out];rfl,?_⟩
      exact ((((((Below.refl _ w).alloc (Nat.le_refl _) _).trans (hB.out.mono (Nat.le_succ _))).setCell (Nat.le_refl _) _).setCell (Nat.le_refl _) _).setCell (Nat.le_refl _) _)
   ·have e3:decide (-400≤x+k1∧x+k1≤400)=false:=decide_eq_false he
    have hft:Hid (fit=false):=by
     show fit=false
     rw [hhfit.out];exact decide_eq_false (fun h=>he h.2)
    go_wp2_with (go_at_call 122;refine (expFits_any _ _).mono ?_;rintro e w' ⟨rfl,rfl⟩;rw [e3])
    exact bodyPost_ret (v:=.tuple #[.agg #[.bool false,.string ⟨#[]⟩,.int .i64 0],.int .i64 2]) (by simp [results,Tryz.results177,go_sem]) rfl ⟨by
     rw [hft.out];rfl,(Below.refl _ _).alloc (Nat.le_refl _) _⟩
def mag (s:ByteArray)(x:Int):Nat:=val (dg s) * 10 ^ (x+400).toNat
def Zv (n:Bool)(s:ByteArray)(x:Int):Int:=if n then -(mag s x:Int) else mag s x
structure Can (l:List Nat):Prop where
 dgs:Dgs l
 first:∀ c,l.head?=some c→c≠0
 last:∀ c,l.getLast?=some c→c≠0
theorem isO_facts {s:ByteArray} {x:Int} (h:isO (bl s) x=true):1≤s.size∧s.size≤40∧-400≤x∧x≤400∧allD (bl s)=true∧Can (dg s)∧dg s≠[]:=by
 simp only [isO,Bool.and_eq_true,decide_eq_true_eq,bne_iff_ne,ne_eq,bl_length] at h
 obtain ⟨⟨⟨⟨⟨h1,h2⟩,h3,h4⟩,h5⟩,h6⟩,h7⟩:=h
 refine ⟨h1,h2,h3,h4,h5,⟨dg_dgs s h5,?_,?_⟩,?_⟩
 ·intro c hc
  have:(dg s).head?=(bl s).head?.map fun c=>c.toNat - 48:=by simp [dg]
  rw [this,head_bl s h1] at hc
  rw [head_bl s h1] at h6
  simp at hc
  have hd:=allD_get s h5 0 h1
  have:s[0].toNat≠48:=fun e=>h6 (by congr 1;exact UInt8.toNat_inj.1 e)
  omega
 ·intro c hc
  have:(dg s).getLast?=(bl s).getLast?.map fun c=>c.toNat - 48:=by simp [dg]
  rw [this,last_bl s h1] at hc
  rw [last_bl s h1] at h7
  simp at hc
  have hd:=allD_get s h5 (s.size - 1) (by omega)
  have:(s[s.size - 1]'(by omega)).toNat≠48:=fun e=>h7 (by congr 1;exact UInt8.toNat_inj.1 e)
  omega
 ·intro e
  have:=dg_length s
  rw [e] at this;simp at this;omega
theorem isZ_facts {n:Bool} {s:ByteArray} {x:Int} (h:isZ n s x=true):n=false∧bl s=[48]∧x=0:=by
 simp [isZ] at h;exact ⟨h.1.1,h.1.2,h.2⟩
theorem isZ_mag {n:Bool} {s:ByteArray} {x:Int} (h:isZ n s x=true):dg s=[0]∧s.size=1∧mag s x=0∧Zv n s x=0:=by
 obtain ⟨rfl,h2,rfl⟩:=isZ_facts h
 have h3:dg s=[0]:=by simp [dg,h2]
 have h4:s.size=1:=by rw [←bl_length,h2];rfl
 have h5:mag s 0=0:=by unfold mag;rw [h3,show val [0]=0 from rfl,Nat.zero_mul]
 exact ⟨h3,h4,h5,by simp [Zv,h5]⟩
def dl (l:List UInt8):List Nat:=l.map fun c=>c.toNat - 48
def dz (d:List Nat):List Nat:=d.drop (lz d)
def core (d:List Nat):List Nat:=(dz d).take ((dz d).length - tz (dz d))
def formF (neg:Bool)(d:List Nat)(x:Int):Bool×ByteArray×Int×Int :=
 if lz d=d.length then (false,⟨#[48]⟩,0,0)
 else if (core d).length≤40∧-400≤x+tz (dz d)∧x+tz (dz d)≤400 then (neg,mkS (core d),x+tz (dz d),0) else (false,⟨#[]⟩,0,2)
def retF (r:Bool×ByteArray×Int×Int):Ending:=.returned (.tuple #[.agg #[.bool r.1,.string r.2.1,.int .i64 r.2.2.1],.int .i64 r.2.2.2])
theorem lz_le (d:List Nat):lz d≤d.length:=(List.takeWhile_prefix _).length_le
theorem tz_le (d:List Nat):tz d≤d.length:=by have:=lz_le d.reverse;simpa [tz] using this
theorem form_any (neg:Bool)(b o n c:Nat)(d:List Nat)(x:Int)(w:World)(hd:d.length=n)(hn0:0<n)(hn:n≤100000)(hc:n≤c)(hc':c≤100000)(hb:b<w.heap.size)
  (hcell:∀ i (h:i<d.length),w.cell? ⟨b,o+i,none⟩=some (.int .u8 (d[i]:Nat)))(hx:-1000000≤x)(hx':x≤1000000)(hdg:Dgs d) :
  Calls Tryz.prog 177 #[.bool neg,.slice (some ⟨b,o,none⟩) n c,.int .i64 x] w fun e w'=>e=retF (formF neg d x)∧Below w.heap.size w w':=by
 by_cases hz:lz d=n
 ·refine (form_zero neg b o n c d x w hd hn0 hn hc hc' hb hcell hz).mono ?_
  rintro e w' ⟨rfl,hB⟩
  refine ⟨?_,hB⟩
  unfold formF;rw [if_pos (by rw [hd];exact hz)];rfl
 ·have:=lz_le d
  have hl:(dz d).length=n - lz d:=by rw [dz,List.length_drop,hd]
  refine (form_some neg b o n c d (dz d) (core d) (n - lz d) (tz (dz d)) x w hd hn hc hc' hb hcell (by omega) hx hx' rfl rfl rfl (by rw [core,hl]) hdg _ rfl).mono ?_
  rintro e w' ⟨rfl,hB⟩
  refine ⟨?_,hB⟩
  have e1:formF neg d x=if (core d).length≤40∧-400≤x+tz (dz d)∧x+tz (dz d)≤400 then (neg,mkS (core d),x+tz (dz d),0) else (false,⟨#[]⟩,0,2):=by
   unfold formF;rw [if_neg (by rw [hd];exact hz)]
  rw [e1]
  by_cases h:(core d).length≤40∧-400≤x+tz (dz d)∧x+tz (dz d)≤400
  ·rw [if_pos h,decide_eq_true h];rfl
  ·rw [if_neg h,decide_eq_false h];rfl
theorem take_lz (d:List Nat):d.take (lz d)=List.replicate (lz d) 0:=by
 induction d with
 | nil=>rfl
 | cons a d ih =>
  by_cases h:a=0
  ·subst h
   have:lz (0 :: d)=lz d+1:=by simp [lz]
   rw [this,List.take_succ_cons,ih,List.replicate_succ]
  ·have:lz (a :: d)=0:=by simp [lz,h]
   rw [this];rfl
theorem tz_split (d:List Nat):d=d.take (d.length - tz d)++List.replicate (tz d) 0:=by
 have h:=take_lz d.reverse
 have:=congrArg List.reverse h
 rw [List.reverse_take,List.reverse_reverse,List.length_reverse,List.reverse_replicate] at this
 conv=>lhs;rw [←List.take_append_drop (d.length - tz d) d]
 rw [show d.drop (d.length - tz d)=List.replicate (tz d) 0 from this]
theorem lz_head (d:List Nat)(h:lz d<d.length):∀ c,(dz d).head?=some c→c≠0:=by
 intro c hc
 have:=lz_ne d h
 rw [dz,List.head?_drop,List.getElem?_eq_getElem h] at hc
 rw [←Option.some.inj hc];exact this
theorem tz_lt (d:List Nat)(h:lz d<d.length):tz (dz d)<(dz d).length:=by
 have h1:=tz_le (dz d)
 have hl:0<(dz d).length:=by rw [dz,List.length_drop];omega
 by_cases e:tz (dz d)<(dz d).length
 ·exact e
 ·have h2:=tz_split (dz d)
  rw [show (dz d).length - tz (dz d)=0 by omega,List.take_zero,List.nil_append] at h2
  have h3:(dz d).head?=some 0:=by
   rw [h2,List.head?_replicate,if_neg (by omega)]
  exact absurd rfl (lz_head d h 0 h3)
theorem core_len (d:List Nat):(core d).length=(dz d).length - tz (dz d):=by rw [core,List.length_take];omega
theorem core_can (d:List Nat)(h:lz d<d.length)(hd:Dgs d):Can (core d)∧core d≠[]:=by
 have h1:=tz_lt d h
 have hl:=core_len d
 have hne:core d≠[]:=by intro e;rw [e] at hl;simp at hl;omega
 refine ⟨⟨?_,?_,?_⟩,hne⟩
 ·intro x hx
  exact hd x (List.mem_of_mem_drop (List.mem_of_mem_take hx))
 ·intro c hc
  refine lz_head d h c ?_
  rw [core,List.head?_take,if_neg (by omega)] at hc
  exact hc
 ·intro c hc
  have h2:=lz_ne (dz d).reverse (by simpa [tz] using h1)
  rw [List.getElem_reverse] at h2
  rw [core,List.getLast?_take,if_neg (by omega)] at hc
  rw [List.getElem?_eq_getElem (by omega)] at hc
  simp only [Option.some_or] at hc
  have e:(dz d).length - tz (dz d) - 1=(dz d).length - 1 - lz (dz d).reverse:=by unfold tz;omega
  simp only [e] at hc
  rw [←Option.some.inj hc];exact h2
theorem mkS_size (l:List Nat):(mkS l).size=l.length:=by simp [mkS,strOfNums_size]
theorem mkS_bl (l:List Nat):bl (mkS l)=l.map fun v=>UInt8.ofNat (v+48):=by
 unfold bl mkS
 rw [strOfNums_data,List.map_map]
 apply List.map_congr_left
 intro v _
 show UInt8.ofNat ((v:Int)+48).toNat=_
 congr 1
theorem ofNat_toNat (v:Nat)(h:v≤9):(UInt8.ofNat (v+48)).toNat=v+48:=by
 rw [UInt8.toNat_ofNat'];omega
theorem mkS_all (l:List Nat)(h:Dgs l):allD (bl (mkS l))=true:=by
 rw [mkS_bl]
 unfold allD
 rw [List.all_eq_true]
 intro c hc
 rw [List.mem_map] at hc
 obtain ⟨v,hv,rfl⟩:=hc
 rw [isDig_iff,ofNat_toNat v (h v hv)]
 have:=h v hv
 omega
theorem mkS_isO (l:List Nat)(x:Int)(h:Can l)(hne:l≠[])(h40:l.length≤40)(hx:-400≤x)(hx':x≤400):isO (bl (mkS l)) x=true:=by
 have hl:1≤l.length:=List.length_pos_iff.2 hne
 simp only [isO,Bool.and_eq_true,decide_eq_true_eq,bne_iff_ne,ne_eq]
 refine ⟨⟨⟨⟨⟨?_,?_⟩,hx,hx'⟩,mkS_all l h.dgs⟩,?_⟩,?_⟩
 ·rw [bl_length,mkS_size];exact hl
 ·rw [bl_length,mkS_size];exact h40
 ·rw [mkS_bl,List.head?_map]
  intro e
  cases hh:l.head? with
  | none=>rw [hh] at e;cases e
  | some v =>
   rw [hh] at e
   have e1:=Option.some.inj e
   have e2:=congrArg UInt8.toNat e1
   have hm:v∈l:=List.mem_of_head? hh
   have h9:=h.dgs v hm
   rw [ofNat_toNat v h9] at e2
   have:=h.first v hh
   have:(48:UInt8).toNat=48:=rfl
   omega
 ·rw [mkS_bl,List.getLast?_map]
  intro e
  cases hh:l.getLast? with
  | none=>rw [hh] at e;cases e
  | some v =>
   rw [hh] at e
   have e1:=Option.some.inj e
   have e2:=congrArg UInt8.toNat e1
   have hm:v∈l:=List.mem_of_getLast? hh
   have h9:=h.dgs v hm
   rw [ofNat_toNat v h9] at e2
   have:=h.last v hh
   have:(48:UInt8).toNat=48:=rfl
   omega
def Box (W:World)(i:Nat)(n:Bool)(s:ByteArray)(x:Int):Prop:=W.heap[i]?=some (.cells #[.bool n,.string s,.int .i64 x] 24 (0,0))
theorem Box.cells {W:World} {i:Nat} {n:Bool} {s:ByteArray} {x:Int} (h:Box W i n s x) :
  W.cell? ⟨i,0,none⟩=some (.bool n)∧W.cell? ⟨i,1,none⟩=some (.string s)∧W.cell? ⟨i,2,none⟩=some (.int .i64 x)∧W.frozen? ⟨i,0,none⟩=false∧W.frozen? ⟨i,1,none⟩=false∧W.frozen? ⟨i,2,none⟩=false:=by
 unfold Box at h
 simp [World.cell?,World.frozen?,h]
theorem Box.lt {W:World} {i:Nat} {n:Bool} {s:ByteArray} {x:Int} (h:Box W i n s x):i<W.heap.size:=by
 unfold Box at h
 by_cases hlt:i<W.heap.size
 ·exact hlt
 ·have hn:W.heap[i]?=none:=by simp;omega
  rw [hn] at h;cases h
theorem Box.below {W W1:World} {i B:Nat} {n:Bool} {s:ByteArray} {x:Int} (h:Box W i n s x)(hb:Below B W W1)(hi:i<B):Box W1 i n s x:=by
 unfold Box at h ⊢;rw [hb.block i hi];exact h
theorem Box.only {W W1:World} {i b:Nat} {n:Bool} {s:ByteArray} {x:Int} (h:Box W i n s x)(hb:Only b W W1)(hi:i≠b):Box W1 i n s x:=by
 unfold Box at h ⊢;rw [hb.block i hi];exact h
theorem box_new (w:World)(n:Bool)(s:ByteArray)(x:Int):Box (w.alloc (.cells #[.bool n,.string s,.int .i64 x] 24)) w.heap.size n s x:=by
 unfold Box
 show (w.heap.push _)[w.heap.size]?=_
 simp
theorem Box.alloc {W:World} {i:Nat} {n:Bool} {s:ByteArray} {x:Int} (h:Box W i n s x)(o:Obj):Box (W.alloc o) i n s x:=by
 have hl:=h.lt
 unfold Box at h ⊢
 rw [←h]
 exact Below.heap_alloc W o i hl
theorem isN_all {n:Bool} {s:ByteArray} {x:Int} (h:isN n s x=true):allD (bl s)=true∧1≤s.size∧s.size≤40∧-400≤x∧x≤400∧Dgs (dg s):=by
 cases hz:isZ n s x
 ·have ho:isO (bl s) x=true:=by simpa [isN,hz] using h
  obtain ⟨a1,a2,a3,a4,a5,a6,a7⟩:=isO_facts ho
  exact ⟨a5,a1,a2,a3,a4,a6.dgs⟩
 ·obtain ⟨_,h2,h3⟩:=isZ_facts hz
  have h4:=(isZ_mag hz).2.1
  have h5:allD (bl s)=true:=by rw [h2];rfl
  exact ⟨h5,by omega,by omega,by omega,by omega,dg_dgs s h5⟩
structure Two (na:Bool)(a:ByteArray)(xa:Int)(nb:Bool)(b:ByteArray)(xb y low:Int):Prop where
 n1:isN na a xa=true
 n2:isN nb b xb=true
 le:mag b xb≤mag a xa
 y0:isZ nb b xb=true→y=xa
 y1:isZ nb b xb=false→y=xb
 l0:low=min xa y
theorem own_conv {W:World} {B:Nat} {v:Value} {l:List UInt8} (h:Own W B v l):(convert 32 9 v).run Tryz.prog W=.ok (.string (mkB l)) W:=by
 have hc:=h
 obtain ⟨h0,h⟩:=h
 rcases h with ⟨rfl,hn⟩|⟨g,cap,cur,rfl,hg,hh,h1,h2,h3,h4⟩
 ·have:l=[]:=List.eq_nil_of_length_eq_zero hn
  subst this
  exact run_convert_bytes_nil W 32 5 Tryz.underlying32 Tryz.underlying5 0 0 9 Tryz.underlying9
 ·refine run_convert_bytes_back W 32 9 5 ⟨g,0,none⟩ cap l Tryz.underlying32 Tryz.underlying5 Tryz.underlying9 (fun j hj=>?_)
  have hcells:∀ j u,(bcs l)[j]?=some u→W.cell? ((⟨g,0,none⟩:Addr).add j)=some u:=World.ownsRow.cells hc (g:=g) rfl
  exact hcells j _ (by simp [bcs,List.getElem?_eq_getElem hj])
def sgnB (n:Bool):List UInt8:=if n then [45] else []
def hx (d:Nat):UInt8:=if d<10 then UInt8.ofNat (48+d) else UInt8.ofNat (87+d)
def hexL (l:List UInt8):List UInt8:=l.flatMap fun c=>[hx (c.toNat / 16),hx (c.toNat % 16)]
theorem hexL_snoc (l:List UInt8)(c:UInt8):hexL (l++[c])=hexL l++[hx (c.toNat / 16),hx (c.toNat % 16)]:=by simp [hexL]
theorem hexL_len (l:List UInt8):(hexL l).length=2 * l.length:=by
 induction l with
 | nil=>rfl
 | cons a l ih=>simp only [hexL,List.flatMap_cons,List.length_append,List.length_cons,List.length_nil] at ih ⊢;omega
theorem hxd_get (d:Nat)(h:d<16)(h':d<(⟨#[48,49,50,51,52,53,54,55,56,57,97,98,99,100,101,102]⟩:ByteArray).size):(⟨#[48,49,50,51,52,53,54,55,56,57,97,98,99,100,101,102]⟩:ByteArray)[d]=hx d:=by
 have:d=0∨d=1∨d=2∨d=3∨d=4∨d=5∨d=6∨d=7∨d=8∨d=9∨d=10∨d=11∨d=12∨d=13∨d=14∨d=15:=by omega
 rcases this with rfl|rfl|rfl|rfl|rfl|rfl|rfl|rfl|rfl|rfl|rfl|rfl|rfl|rfl|rfl|rfl <;> rfl
theorem step_bytes {w:World} {ops:Array Oper} {o:Oper} {a:Act} {K:Act→World→Prop} {Q:Exit→Act→World→Prop} {E:Prop} (hgd:o.guard=none)(s x:Operand)(ho:o.op=.call {callee:=.builtin .append,args:=#[s,x],argTypes:=#[32,32]})
  (B:Nat)(v:Value)(l:List UInt8)(hs:a.eval s=v)(hown:Own w B v l)(ad:Addr)(m c:Nat)(news:List UInt8)(hx:a.eval x=.slice (some ad) m c)(hm:news.length=m)
  (hnews:∀ j u,(bcs news)[j]?=some u→w.cell? (ad.add j)=some u)(hl:l.length+m≤1000000)(hB:B≤w.heap.size)(hp:0<l.length+m)
  (h:∀ av c' w',Hid (Own w' B (.slice av (l.length+m) c') (l++news))→Hid (Below B w w')→w.heap.size≤w'.heap.size→K (a.put o.dst (.slice av (l.length+m) c')) w') :
  if Region.wanted o (yielded ops a.tmps)=true then Oper.wp Tryz.prog o a w K Q else E:=by
 have hw:Region.wanted o (yielded ops a.tmps)=true:=by simp [Region.wanted,hgd]
 rw [if_pos hw]
 obtain ⟨i0,hi,hz0,hz1,hz2⟩:=info_parts info5
 obtain ⟨v',w',hr,h1,h2,h3⟩:=run_append_own (P:=Tryz.prog) w B 32 o.type 5 i0 _ 1 1 Tryz.underlying32 hi hz0 hz1 hz2 rfl (by decide) v l.length (bcs l) hown ad m c (bcs news) (by rw [bcs_length,hm];simp) hnews (by
  intro u hu
  simp only [bcs,List.mem_map] at hu
  obtain ⟨c,_,rfl⟩:=hu
  rfl) (by unfold maxLen;omega) (by omega) hB
 unfold Oper.wp execOp
 simp only [ho,resolve,invoke,builtin,Sem.run_bind,Sem.run_pure,Result.andThen_ok,List.map_toArray,List.map_cons,List.map_nil,hs,hx,hr]
 have hO:Own w' B v' (l++news):=by unfold Own;rw [bcs_append,List.length_append,hm];exact h1
 rcases h1.2 with ⟨rfl,e⟩|⟨g',cap,cur,rfl,_⟩
 ·omega
 ·exact h _ _ w' hO ((Below.refl B w).grown h2 hB hown.row) h2.size
end Go.Proofs.YthodiandebahdaaGreatDoor
