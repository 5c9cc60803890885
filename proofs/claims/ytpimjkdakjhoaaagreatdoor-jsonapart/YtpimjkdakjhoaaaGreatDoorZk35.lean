/- Merged by program: KnUnhex, KoWord, KyNew, FdBuild. -/
import Derived.Deep.OwnRows
import Derived.Test.YtpimjkdakjhoaaaGreatDoorZk34
import Derived.Test.YtpimjkdakjhoaaaGreatDoorZk31
namespace Go.Proofs.YtpimjkdakjhoaaaGreatDoor
open Go.RowKit
set_option linter.unusedSimpArgs false
set_option linter.unusedVariables false
set_option maxHeartbeats 8000000
theorem made_b (n:Nat):madeCells #[.int .u8 0] n=((List.replicate n 0).map fun v:Nat=>Value.int .u8 (v:Int)).toArray:=by
 apply Array.toList_inj.1
 rw [toList_madeCells_one]
 simp
def hxP (l:List UInt8):Nat→Option (List Nat)
 | 0=>some []
 | k + 1=>match hxP l k,l[2 * k]?,l[2 * k + 1]? with
  | some t,some a,some b=>match hxD a,hxD b with
   | some x,some y=>some (t++[x.val * 16 + y.val])
   | _,_=>none
  | _,_,_=>none
theorem hxP_len (l:List UInt8):∀ k t,hxP l k=some t→t.length=k
 | 0,t,h=>by simp [hxP] at h;subst h;rfl
 | k + 1,t,h=>by
  unfold hxP at h
  split at h
  ·rename_i t0 a b h0 ha hb
   split at h
   ·cases h;rw [List.length_append,hxP_len l k t0 h0];rfl
   ·cases h
  ·cases h
theorem hxP_lt (l:List UInt8):∀ k t,hxP l k=some t→∀ x∈t,x<256
 | 0,t,h=>by simp [hxP] at h;subst h;intro x hx;simp at hx
 | k + 1,t,h=>by
  unfold hxP at h
  split at h
  ·rename_i t0 a b h0 ha hb
   split at h
   ·rename_i x y _ _
    cases h
    intro z hz
    rcases List.mem_append.1 hz with q|q
    ·exact hxP_lt l k t0 h0 z q
    ·simp at q;have:=x.isLt;have:=y.isLt;omega
   ·cases h
  ·cases h
theorem hxP_cons (a b:UInt8) (l:List UInt8):∀ k,hxP (a :: b :: l) (k + 1)=match hxD a,hxD b,hxP l k with
  | some x,some y,some t=>some ((x.val * 16 + y.val) :: t)
  | _,_,_=>none
 | 0=>by
  simp only [hxP,Nat.mul_zero,List.getElem?_cons_zero,Nat.zero_add,List.getElem?_cons_succ]
  cases hxD a <;> cases hxD b <;> rfl
 | k + 1=>by
  have e1:(a :: b :: l)[2 * (k + 1)]?=l[2 * k]?:=by
   rw [show 2 * (k + 1)=2 * k + 1 + 1 by omega,List.getElem?_cons_succ,List.getElem?_cons_succ]
  have e2:(a :: b :: l)[2 * (k + 1) + 1]?=l[2 * k + 1]?:=by
   rw [show 2 * (k + 1) + 1=2 * k + 1 + 1 + 1 by omega,List.getElem?_cons_succ,List.getElem?_cons_succ]
  rw [hxP,hxP_cons a b l k,e1,e2]
  conv=>rhs;rw [hxP]
  cases hxD a with
  | none=>rfl
  | some x =>
   cases hxD b with
   | none=>rfl
   | some y =>
    cases hxP l k with
    | none=>rfl
    | some t =>
     simp only
     cases l[2 * k]? with
     | none=>rfl
     | some c =>
      cases l[2 * k + 1]? with
      | none=>rfl
      | some d =>
       simp only
       cases hxD c with
       | none=>rfl
       | some u=>cases hxD d <;> rfl
theorem hx2_P:∀ (n:Nat) (l:List UInt8),l.length=2 * n→hx2 l=(hxP l n).map fun t=>t.map UInt8.ofNat
 | 0,l,h=>by
  cases l with
  | nil=>rfl
  | cons a l=>simp at h
 | n + 1,l,h=>by
  match l,h with
  | a :: b :: l,h =>
   rw [hxP_cons,hx2,hx2_P n l (by simp at h;omega)]
   cases hxD a with
   | none=>rfl
   | some x =>
    cases hxD b with
    | none=>rfl
    | some y=>cases hxP l n <;> rfl
theorem hx2_odd:∀ (n:Nat) (l:List UInt8),l.length=2 * n + 1→hx2 l=none
 | 0,l,h=>by
  match l,h with
  | [a],_=>rfl
 | n + 1,l,h=>by
  match l,h with
  | a :: b :: l,h =>
   rw [hx2,hx2_odd n l (by simp at h;omega)]
   cases hxD a <;> cases hxD b <;> rfl
theorem hxP_none (l:List UInt8) (k:Nat) (h:hxP l k=none):∀ d,hxP l (k + d)=none
 | 0=>h
 | d + 1=>by
  rw [←Nat.add_assoc,hxP,hxP_none l k h d]
theorem or16b (x y:Fin 16):bits .or .i64 ((x.val:Int) * 16) (y.val:Int)=((x.val * 16 + y.val:Nat):Int):=or16 x.val y.val (by omega) y.isLt
def uxR (s:ByteArray):Ending:=match hx2 (bl s) with
 | none=>.returned (.tuple #[.string ⟨#[]⟩,.bool false])
 | some l=>.returned (.tuple #[.string (mkB l),.bool true])
set_option maxRecDepth 20000 in
theorem unhex_j (s:ByteArray) (w:World) (hs:s.size≤100000):Calls Tryz.prog 124 #[.string s] w fun e w'=>e=uxR s∧Below w.heap.size w w':=by
 have ml:maxLen=9223372036854775807:=rfl
 obtain ⟨n,hn⟩:∃ n,s.size=2 * n∨s.size=2 * n + 1:=⟨s.size / 2,by omega⟩
 rcases hn with hn|hn
 ·have hr:Hid (∀ o,hxP (bl s) n=o→uxR s=match o with|none=>.returned (.tuple #[.string ⟨#[]⟩,.bool false])|some t=>.returned (.tuple #[.string (mkB (t.map UInt8.ofNat)),.bool true])):=by
   intro o ho
   unfold uxR
   rw [hx2_P n (bl s) (by rw [bl_length];exact hn),ho]
   cases o <;> rfl
  have e2:Int.tmod (s.size:Int) 2=0:=by rw [hn,Int.tmod_eq_emod_of_nonneg (by omega)];omega
  have e3:Int.tdiv (s.size:Int) 2=(n:Int):=by rw [hn,Int.tdiv_eq_ediv_of_nonneg (by omega)];omega
  have hmk:=fun w=>run_make_row' (P:=Tryz.prog) 32 5 (.int .u8 0) 1 Tryz.underlying32 info5 rfl .i64 .i64 n (by omega) (by omega) w
  have hn':=hide hn
  have hsz:∀ k,k<n→2 * k<s.size∧2 * k + 1<s.size:=fun k hk=>by omega
  have hsz':=hide hsz
  have hnb:n≤50000:=by omega
  have hsN:Hid ((s.size:Int)=2 * n):=(by omega:(s.size:Int)=2 * n)
  clear hn hs hsz
  go_enter Tryz.func124, Tryz.ntmps124
  go_wp2
  go_loopw [18] (fun i wr=>∃ (k:Nat) (t:List Nat),k≤n∧i=.int .i64 k∧Hid (hxP (bl s) k=some t)∧Hid (Arr wr w.heap.size 5 (t++List.replicate (n - k) 0))∧Hid (Below w.heap.size w wr)) (fun i _=>n - (intOf i).toNat)
  case atStart =>
   refine ⟨0,[],by omega,rfl,rfl,?_,below_al (Below.refl _ _)⟩
   exact arr_new w 5 n _ (made_b n)
  case round =>
   obtain ⟨k,t,hk,rfl,hT,hA,hB⟩:=hrel
   by_cases hlt:k<n
   ·obtain ⟨hs1,hs2⟩:=hsz'.out k hlt
    have hg1:=hide (show (bl s)[2 * k]?=some s[2 * k] by rw [List.getElem?_eq_getElem (by rw [bl_length];exact hs1),bl_get s _ hs1])
    have hg2:=hide (show (bl s)[2 * k + 1]?=some s[2 * k + 1] by rw [List.getElem?_eq_getElem (by rw [bl_length];exact hs2),bl_get s _ hs2])
    have hlt':(k:Int)<n:=by omega
    have ht1:(2 * (k:Int)).toNat=2 * k:=by omega
    have ht2:(2 * (k:Int) + 1).toNat=2 * k + 1:=by omega
    have hw1:IntKind.i64.wrap (2 * (k:Int))=2 * (k:Int):=by rw [IntKind.wrap_i64] <;> omega
    have hw2:IntKind.i64.wrap (2 * (k:Int) + 1)=2 * (k:Int) + 1:=by rw [IntKind.wrap_i64] <;> omega
    have hi1:2 * (k:Int)<s.size:=by omega
    have hi2:2 * (k:Int) + 1<s.size:=by omega
    obtain ⟨a,ha⟩:∃ a,s[2 * k]=a:=⟨_,rfl⟩
    obtain ⟨b,hb⟩:∃ b,s[2 * k + 1]=b:=⟨_,rfl⟩
    rw [ha] at hg1
    rw [hb] at hg2
    have SA:=hide (fun w=>sib_any hxE (a.toNat:Int) w)
    have SB:=hide (fun w=>sib_any hxE (b.toNat:Int) w)
    rw [hx_idx a] at SA
    rw [hx_idx b] at SB
    simp only [hxE] at SA SB
    have hA1:=fun (nq:Nat)=>(show Arr (wr.drewN nq) w.heap.size 5 (t++List.replicate (n - k) 0) from hA.out)
    have htl:=hxP_len _ _ _ hT.out
    cases hxa:hxD a with
    | none =>
     rw [hxa] at SA
     have hno:Hid (hxP (bl s) n=none):=by
      have:=hxP_none (bl s) (k + 1) (by rw [hxP,hT.out,hg1.out,hg2.out];simp only [hxa]) (n - (k + 1))
      rw [show k + 1 + (n - (k + 1))=n by omega] at this
      exact this
     obtain ⟨xb,SB⟩:∃ xb:Int,Hid (∀ w,Calls Tryz.prog 63 #[.string ⟨#[48,49,50,51,52,53,54,55,56,57,97,98,99,100,101,102]⟩,.int .u8 b.toNat] w fun r w'=>r=.returned (.int .i64 xb)∧w'=w):=⟨_,SB⟩
     clear hA1 hxa
     go_wp2
     go_quiet (first|(go_at_call 63;exact Calls.quiet_of_same (SA.out _))|(go_at_call 63;exact Calls.quiet_of_same (SB.out _)))
     go_wp2
     exact bodyPost_ret (v:=.tuple #[.string ⟨#[]⟩,.bool false]) (by simp [results,Tryz.results124,go_sem]) rfl ⟨by rw [hr.out none hno.out],hB.out.trans ⟨rfl,rfl,rfl,Nat.le_refl _,fun _ _=>rfl⟩⟩
    | some x =>
     rw [hxa] at SA
     have hx0:decide ((x.val:Int)<0)=false:=by simp
     cases hxb:hxD b with
     | none =>
      rw [hxb] at SB
      have hno:Hid (hxP (bl s) n=none):=by
       have:=hxP_none (bl s) (k + 1) (by rw [hxP,hT.out,hg1.out,hg2.out];simp only [hxa,hxb]) (n - (k + 1))
       rw [show k + 1 + (n - (k + 1))=n by omega] at this
       exact this
      clear hA1 hxa hxb
      go_wp2
      go_quiet (first|(go_at_call 63;exact Calls.quiet_of_same (SA.out _))|(go_at_call 63;exact Calls.quiet_of_same (SB.out _)))
      go_wp2
      exact bodyPost_ret (v:=.tuple #[.string ⟨#[]⟩,.bool false]) (by simp [results,Tryz.results124,go_sem]) rfl ⟨by rw [hr.out none hno.out],hB.out.trans ⟨rfl,rfl,rfl,Nat.le_refl _,fun _ _=>rfl⟩⟩
     | some y =>
      rw [hxb] at SB
      have hy0:decide ((y.val:Int)<0)=false:=by simp
      have hor:=or16b x y
      have hst:Hid (hxP (bl s) (k + 1)=some (t++[x.val * 16 + y.val])):=by
       show _=_
       rw [hxP,hT.out,hg1.out,hg2.out];simp only [hxa,hxb]
      have hxl:=x.isLt
      have hyl:=y.isLt
      obtain ⟨v,hv⟩:∃ v,x.val * 16 + y.val=v:=⟨_,rfl⟩
      rw [hv] at hor hst
      have hv8:IntKind.u8.wrap (v:Int)=(v:Int):=by rw [IntKind.wrap_u8] <;> omega
      have hcl:∀ nq,(wr.drewN nq).cell? ⟨w.heap.size,k,none⟩=some (.int .u8 0):=fun nq=>by
       have:=(hA1 nq).cell k (by rw [List.length_append,htl,List.length_replicate];omega)
       rw [this,List.getElem_append_right (by omega),List.getElem_replicate]
       rfl
      have hfz:∀ nq,(wr.drewN nq).frozen? ⟨w.heap.size,k,none⟩=false:=fun nq=>(hA1 nq).frozen k
      have hset:Hid (∀ nq,Arr ((wr.drewN nq).setCell ⟨w.heap.size,k,none⟩ (.int .u8 (v:Int))) w.heap.size 5 ((t++[v])++List.replicate (n - (k + 1)) 0)):=fun nq=>by
       have:=(hA1 nq).set k v
       rw [List.set_append_right _ _ (by omega),htl,Nat.sub_self,show n - k=(n - (k + 1)) + 1 by omega,List.replicate_succ,List.set_cons_zero] at this
       rw [List.append_assoc]
       exact this
      have hx16:IntKind.i64.wrap ((x.val:Int) * 16)=(x.val:Int) * 16:=by rw [IntKind.wrap_i64] <;> omega
      clear hA1 hxa hxb hv
      go_wp2
      go_quiet (first|(go_at_call 63;exact Calls.quiet_of_same (SA.out _))|(go_at_call 63;exact Calls.quiet_of_same (SB.out _)))
      go_wp2
      refine ⟨⟨k + 1,t++[v],by omega,by go_num,hst.out,hset.out _,?_⟩,by simp [intOf];omega⟩
      exact (show Below w.heap.size w (wr.drewN _) from hB.out.trans ⟨rfl,rfl,rfl,Nat.le_refl _,fun _ _=>rfl⟩).setCell (p:=⟨w.heap.size,k,none⟩) (Nat.le_refl _) _
   ·have hke:k=n:=by omega
    subst hke
    have htl:=hxP_len _ _ _ hT.out
    have hcv:(convert 32 9 (.slice (some ⟨w.heap.size,0,none⟩) k k)).run Tryz.prog wr=.ok (.string (mkB (t.map UInt8.ofNat))) wr:=by
     have:=run_convert_bytes_back (P:=Tryz.prog) wr 32 9 5 ⟨w.heap.size,0,none⟩ k (t.map UInt8.ofNat) Tryz.underlying32 Tryz.underlying5 Tryz.underlying9 (fun j hj=>by
      rw [List.length_map] at hj
      have hc:=hA.out.cell j (by rw [List.length_append];omega)
      rw [show (⟨w.heap.size,0,none⟩:Addr).add j=⟨w.heap.size,j,none⟩ by unfold Addr.add;split <;> simp_all,hc,List.getElem_append_left hj,List.getElem_map]
      rw [UInt8.toNat_ofNat_of_lt' (hxP_lt _ _ _ hT.out _ (List.getElem_mem _))])
     rw [List.length_map,htl] at this
     exact this
    go_wp2
    exact bodyPost_ret (v:=.tuple #[.string (mkB (t.map UInt8.ofNat)),.bool true]) (by simp [results,Tryz.results124,go_sem]) rfl ⟨by rw [hr.out (some t) hT.out],hB.out⟩
 ·have hr:Hid (uxR s=.returned (.tuple #[.string ⟨#[]⟩,.bool false])):=by
   show _=_
   unfold uxR
   rw [hx2_odd n (bl s) (by rw [bl_length];exact hn)]
  have e2:Int.tmod (s.size:Int) 2=1:=by rw [hn,Int.tmod_eq_emod_of_nonneg (by omega)];omega
  rw [hr.out]
  clear hn
  go_enter Tryz.func124, Tryz.ntmps124
  go_wp2
  exact bodyPost_ret (v:=.tuple #[.string ⟨#[]⟩,.bool false]) (by simp [results,Tryz.results124,go_sem]) rfl ⟨rfl,Below.refl _ _⟩
def NP (W:World) (r:Nat) (g:Gv) (m:Mv) (o:Sum Int (Hd×St)) (e:Ending) (w':World):Prop :=
 RF g m W w'∧match o with
 | .inl E=>e=.panicked (pan E)∧∃ s,RdB w' r s
 | .inr x=>e=.returned (.agg (evs x.1))∧∃ m',RM w' r g m' x.2∧OM W m m'
section
variable {W W1 W2 : World} {r : Nat} {g : Gv} {m : Mv} {st : St}
structure But (k:Nat) (W w':World):Prop where
 os:w'.os=W.os
 tape:w'.tape=W.tape
 output:w'.output=W.output
 size:w'.heap.size=W.heap.size
 blk:∀ q,q≠k→w'.heap[q]?=W.heap[q]?
theorem But.refl (k:Nat) (W:World):But k W W:=⟨rfl,rfl,rfl,rfl,fun _ _=>rfl⟩
theorem But.set {k:Nat} (h:But k W W1) (j:Nat) (u:Value):But k W (W1.setCell ⟨k,j,none⟩ u) :=
 ⟨h.os,h.tape,h.output,by simpa using h.size,fun q hq=>(Below.heap_setCell _ _ _ _ hq).trans (h.blk q hq)⟩
theorem But.below {k L:Nat} (h:But k W W1) (hk:L≤k):Below L W W1:=⟨h.os,h.tape,h.output,Nat.le_of_eq h.size.symm,fun q hq=>h.blk q (by omega)⟩
theorem RM.apart (h:RM W r g m st) {k:Nat} {e:Hd} (hE:EB W k e) (nb:NoB m k) (hlo:g.lo≤k) (hb:But k W W1):RM W1 r g m st:=by
 have hr:=h.rd
 unfold RdB at hr
 have ht:=h.ty.tb
 unfold TyB at ht
 unfold EB at hE
 have key:∀ {q:Nat} {c:Array Value} {T:TypeId} {f:Nat×Nat},W.heap[q]?=some (.cells c T f)→T≠74→W1.heap[q]?=some (.cells c T f):=fun {q c T f} hq hT=>by
  rw [hb.blk q (fun e=>by rw [e,hE] at hq;exact hT (cells_ty hq).symm),hq]
 have row:∀ {u:Value} {B T sz n:Nat} {xs:List Value},W.ownsRow B T sz u n xs→u.ownBlock≠some k→W1.ownsRow B T sz u n xs:=fun {u B T sz n xs} ho hn=>own_of ho fun q hq _=>hb.blk q (fun e=>hn (by rw [hq,e]))
 have rowT:∀ {u:Value} {B T sz n:Nat} {xs:List Value},W.ownsRow B T sz u n xs→T≠74→W1.ownsRow B T sz u n xs:=fun {u B T sz n xs} ho hT=>row ho (ty_ne hE ho (Ne.symm hT))
 refine ⟨key hr (by decide),row h.word nb.1,row h.held nb.2.1,h.dif,rowT h.opn (by decide),row h.told nb.2.2,?_,?_,Gu.low h.gu (hb.below hlo) h.gk.low,h.gk,h.qf,h.wl,h.kl,h.tl⟩
 ·exact h.ck.keep (Nat.le_of_eq hb.size.symm) fun q _ hq=>hb.blk q (fun e=>by subst e;exact ty_no hE (by decide) (by decide) hq)
 ·exact h.ty.keep (Nat.le_of_eq hb.size.symm) (by rw [key ht (by decide),ht]) fun q hq=>by
   obtain ⟨c,f,hc⟩:=own_blk h.ty.row hq
   rw [key hc (by decide),hc]
theorem RF.fresh (h:RF g m W W1) {k:Nat} (hk:W.heap.size≤k) (hlo:g.lo≤W.heap.size) (hb:But k W1 W2):RF g m W W2 :=
 ⟨h.below.trans (hb.below (by omega)),fun q c T f hq t1 t2 t3 t4 t5 t6 n1 n2 n3=>by
  have:=(Array.getElem?_eq_some_iff.1 hq).1
  rw [hb.blk q (by omega)]
  exact h.keep q c T f hq t1 t2 t3 t4 t5 t6 n1 n2 n3⟩
def set7 (w:World) (k:Nat) (e:Hd):World:=((((((w.setCell ⟨k,0,none⟩ (.int .i64 e.kind)).setCell ⟨k,1,none⟩ (.bool e.flag)).setCell ⟨k,2,none⟩ (.bool e.neg)).setCell ⟨k,3,none⟩ (.string e.dig)).setCell ⟨k,4,none⟩ (.int .i64 e.exp)).setCell ⟨k,5,none⟩ (.int .u64 e.bits)).setCell ⟨k,6,none⟩ (.string e.text)
theorem blk_set {w:World} {k:Nat} {c:Array Value} {T:TypeId} (h:w.heap[k]?=some (.cells c T (0,0))) (j:Nat) (u:Value):(w.setCell ⟨k,j,none⟩ u).heap[k]?=some (.cells (c.setIfInBounds j u) T (0,0)):=by
 rw [setCell_eq_setRow w k j _ _ (0,0) _ h,setRow_heap w k _ _ _ (0,0) h]
theorem eb_set7 {w:World} {k:Nat} {h0:Hd} (h:EB w k h0) (e:Hd):EB (set7 w k e) k e∧But k w (set7 w k e):=by
 constructor
 ·unfold EB evs at h
  have h1:=blk_set h 0 (.int .i64 e.kind)
  simp at h1
  have h2:=blk_set h1 1 (.bool e.flag)
  simp at h2
  have h3:=blk_set h2 2 (.bool e.neg)
  simp at h3
  have h4:=blk_set h3 3 (.string e.dig)
  simp at h4
  have h5:=blk_set h4 4 (.int .i64 e.exp)
  simp at h5
  have h6:=blk_set h5 5 (.int .u64 e.bits)
  simp at h6
  have h7:=blk_set h6 6 (.string e.text)
  simp at h7
  exact h7
 ·exact (((((((But.refl k w).set 0 _).set 1 _).set 2 _).set 3 _).set 4 _).set 5 _).set 6 _
set_option maxRecDepth 100000 in
theorem number_r (h:RM W r g m st) (s:ByteArray) (hs:s.size≤100000):Calls Tryz.prog 126 #[.pointer (some ⟨r,0,none⟩),.string s] W fun x w'=>NP W r g m (numS st s) x w':=by
 obtain ⟨W0,hW0⟩:∃ W0,W0=W.alloc (.cells (evs (zr 0)) 74):=⟨_,rfl⟩
 have B0:Hid (Below W.heap.size W W0):=by rw [hW0];exact below_al (Below.refl _ _)
 have E0:Hid (EB W0 W.heap.size (zr 0)):=by rw [hW0];exact EB.new W (zr 0)
 have M0:=hide (h.then B0.out)
 have NB:=hide (h.nob (Nat.le_refl _))
 have lo:=hide h.lo
 clear h
 obtain ⟨k,hk⟩:∃ k,W.heap.size=k:=⟨_,rfl⟩
 have hk':=hide hk
 rw [hk] at E0 NB
 have P:Hid (Calls Tryz.prog 143 #[.string s] (W.alloc (.cells (evs (zr 0)) 74)) fun e w'=>e=retF (parseF (bl s))∧RF g m W w'∧RM w' r g m st∧EB w' k (zr 0)):=by
  rw [←hW0]
  refine (parse_any s W0 hs).mono ?_
  rintro e w1 ⟨h1,h2⟩
  exact ⟨h1,RF.of (below_then B0.out h2) lo.out,M0.out.then h2,E0.out.below h2⟩
 have PA:=hide (fun w1 (h1:RM w1 r g m st) (hE:EB w1 k (zr 0))=>pass_r h1)
 clear hW0 hs
 unfold numS
 obtain ⟨⟨b,d,x,E⟩,hp⟩:∃ p,parseF (bl s)=p:=⟨_,rfl⟩
 rw [hp] at P ⊢
 have hE:=parseF_err (bl s)
 have hz:=fun q=>parseF_size (l:=bl s) q
 rw [hp] at hE hz
 simp only [retF,evs,zr] at P
 by_cases h0:E=0
 ·subst h0
  rw [if_pos rfl]
  clear hE hz hp PA
  simp only [evNum,evs,zr]
  go_enter Tryz.func126, Tryz.ntmps126
  go_wp2_with (go_at_call 143;refine P.out.mono ?_;rintro e w1 ⟨rfl,hp1,hp2,hp3⟩;have F1:=hide hp1;have M1:=hide hp2;have E1:=hide hp3;clear hp1 hp2 hp3;obtain ⟨b0,b1,b2,b3,b4,b5,b6⟩:=E1.out.cells;have fz:∀ j,w1.frozen? ⟨k,j,none⟩=false:=(fun j=>by have q:=E1.out;unfold EB at q;simp [World.frozen?,q]);have lt1:k<w1.heap.size:=E1.out.lt)
  have Q:=eb_set7 E1.out ⟨3,false,b,d,x,0,⟨#[]⟩,[]⟩
  obtain ⟨w2,hw2⟩:∃ w2,set7 w1 k ⟨3,false,b,d,x,0,⟨#[]⟩,[]⟩=w2:=⟨_,rfl⟩
  rw [hw2] at Q
  simp only [set7] at hw2
  rw [hw2]
  obtain ⟨Q1,Q2⟩:=Q
  have Q3:=Q1.below (W1:=w2.alloc (.cells #[.bool b,.string d,.int .i64 x] 24)) (below_al (Below.refl _ _))
  obtain ⟨c0,c1,c2,c3,c4,c5,c6⟩:=Q3.cells
  simp only at c0 c1 c2 c3 c4 c5 c6
  have hlo:g.lo≤k:=by have:=lo.out;rw [hk'.out] at this;exact this
  have R2:=(M1.out.apart E1.out NB.out hlo Q2)
  refine bodyPost_ret (v:=.agg #[.int .i64 3,.bool false,.bool b,.string d,.int .i64 x,.int .u64 0,.string ⟨#[]⟩]) (by simp [results,Tryz.results126,go_sem,c0,c1,c2,c3,c4,c5,c6]) rfl ⟨?_,rfl,m,R2.then (below_al (Below.refl _ _)),OM.refl _ _⟩
  exact (F1.out.fresh (Nat.le_of_eq hk'.out) lo.out Q2).trans (OM.refl _ _) (RF.of (below_al (Below.refl _ _)) R2.lo)
 ·have hz:=hz h0
  simp only [Prod.mk.injEq] at hz
  obtain ⟨rfl,rfl,rfl,_⟩:=hz
  rw [if_neg h0]
  by_cases h2:E=2
  ·subst h2
   rw [if_pos rfl]
   clear hE hp h0
   cases hq:passS st with
   | inl E =>
    simp only [bnd]
    rw [hq] at PA
    clear hq
    go_enter Tryz.func126, Tryz.ntmps126
    go_wp2_with (first
     | (go_at_call 143;refine P.out.mono ?_;rintro e w1 ⟨rfl,hp1,hp2,hp3⟩;have F1:=hide hp1;have M1:=hide hp2;have E1:=hide hp3;clear hp1 hp2 hp3;obtain ⟨b0,b1,b2,b3,b4,b5,b6⟩:=E1.out.cells;have fz:∀ j,w1.frozen? ⟨k,j,none⟩=false:=(fun j=>by have q:=E1.out;unfold EB at q;simp [World.frozen?,q]);have lt1:k<w1.heap.size:=E1.out.lt)
     | (go_at_call 59;refine (PA.out _ (M1.out.then (below_al (Below.refl _ _))) (E1.out.below (below_al (Below.refl _ _)))).mono ?_;rintro q w2 ⟨hp1,rfl,hp2⟩;have F2:=hide (F1.out.trans (OM.refl _ _) ((RF.of (below_al (Below.refl _ _)) M1.out.lo).trans (OM.refl _ _) hp1));have M2:=hide hp2;clear hp1 hp2))
    exact ⟨rfl,F2.out,rfl,M2.out⟩
   | inr y =>
    simp only [bnd,evs,zr]
    rw [hq] at PA
    clear hq
    have PA2:Hid (∀ w1,RM w1 r g m st→EB w1 k (zr 0)→Calls Tryz.prog 59 #[.pointer (some ⟨r,0,none⟩)] w1 fun q w'=>∃ m2,q=.returned (.tuple #[])∧RF g m w1 w'∧RM w' r g m2 y∧OM w1 m m2∧EB w' k (zr 0)):=fun w1 h1 hE=>(PA.out w1 h1 hE).mono (by
     rintro q w2 ⟨hp1,rfl,m2,hp2,hp3⟩
     exact ⟨m2,rfl,hp1,hp2,hp3,hp1.eb hE NB.out.1 NB.out.2.1 NB.out.2.2⟩)
    clear PA
    go_enter Tryz.func126, Tryz.ntmps126
    go_wp2_with (first
     | (go_at_call 143;refine P.out.mono ?_;rintro e w1 ⟨rfl,hp1,hp2,hp3⟩;have F1:=hide hp1;have M1:=hide hp2;have E1:=hide hp3;clear hp1 hp2 hp3;obtain ⟨b0,b1,b2,b3,b4,b5,b6⟩:=E1.out.cells;have fz:∀ j,w1.frozen? ⟨k,j,none⟩=false:=(fun j=>by have q:=E1.out;unfold EB at q;simp [World.frozen?,q]);have lt1:k<w1.heap.size:=E1.out.lt)
     | (go_at_call 59;refine (PA2.out _ (M1.out.then (below_al (Below.refl _ _))) (E1.out.below (below_al (Below.refl _ _)))).mono ?_;rintro q w2 ⟨m2,rfl,hp1,hp2,hp3,hp4⟩;have F2:=hide (F1.out.trans (OM.refl _ _) ((RF.of (below_al (Below.refl _ _)) M1.out.lo).trans (OM.refl _ _) hp1));have M2:=hide hp2;have O2:Hid (OM W m m2):=(OM.refl _ _).trans hp3 (Nat.le_trans F1.out.below.size (by simp));have NB2:Hid (NoB m2 k):=NB.out.om hp3 (E1.out.below (below_al (Below.refl _ _))).lt;have E2:=hide hp4;clear hp1 hp2 hp3 hp4;obtain ⟨e0,e1,e2,e3,e4,e5,e6⟩:=E2.out.cells;have fz2:∀ j,w2.frozen? ⟨k,j,none⟩=false:=(fun j=>by have q:=E2.out;unfold EB at q;simp [World.frozen?,q]);have lt2:k<w2.heap.size:=E2.out.lt))
    have Q:=eb_set7 E2.out (zr 1)
    obtain ⟨w3,hw3⟩:∃ w3,set7 w2 k (zr 1)=w3:=⟨_,rfl⟩
    rw [hw3] at Q
    simp only [set7,zr] at hw3
    rw [hw3]
    obtain ⟨Q1,Q2⟩:=Q
    obtain ⟨c0,c1,c2,c3,c4,c5,c6⟩:=Q1.cells
    simp only [zr] at c0 c1 c2 c3 c4 c5 c6
    have hlo:g.lo≤k:=by have:=lo.out;rw [hk'.out] at this;exact this
    have R2:=(M2.out.apart E2.out NB2.out hlo Q2)
    refine bodyPost_ret (v:=.agg #[.int .i64 1,.bool false,.bool false,.string ⟨#[]⟩,.int .i64 0,.int .u64 0,.string ⟨#[]⟩]) (by simp [results,Tryz.results126,go_sem,c0,c1,c2,c3,c4,c5,c6]) rfl ⟨?_,rfl,m2,R2,O2.out⟩
    exact F2.out.fresh (Nat.le_of_eq hk'.out) lo.out Q2
  ·rw [if_neg h2]
   have hE':E=10:=hE.elim (fun q=>absurd q h0) (fun q=>q.elim id (fun q=>absurd q h2))
   subst hE'
   clear hE hp h0 h2 PA
   go_enter Tryz.func126, Tryz.ntmps126
   go_wp2_with (go_at_call 143;refine P.out.mono ?_;rintro e w1 ⟨rfl,hp1,hp2,hp3⟩;have F1:=hide hp1;have M1:=hide hp2;have E1:=hide hp3;clear hp1 hp2 hp3;obtain ⟨b0,b1,b2,b3,b4,b5,b6⟩:=E1.out.cells;have fz:∀ j,w1.frozen? ⟨k,j,none⟩=false:=(fun j=>by have q:=E1.out;unfold EB at q;simp [World.frozen?,q]);have lt1:k<w1.heap.size:=E1.out.lt)
   exact ⟨rfl,F1.out.trans (OM.refl _ _) (RF.of (below_al (Below.refl _ _)) M1.out.lo),rfl,_,(M1.out.then (below_al (Below.refl _ _))).rd⟩
theorem wordE_z {s:ByteArray} {x:Hd×St} (h:wordE st s=.inr x):EvZ x.1∧x.2.n=st.n∧x.2.ks=st.ks∧x.2.wait=st.wait∧x.2.behind=st.behind∧x.2.q=st.q∧x.2.word=st.word∧x.2.total=st.total:=by
 have z1:EvZ (zr 1):=⟨by decide,by decide,rfl⟩
 unfold wordE at h
 split at h
 ·cases h;exact ⟨z1,rfl,rfl,rfl,rfl,rfl,rfl,rfl⟩
 split at h
 ·cases h;exact ⟨⟨by show (ByteArray.size ⟨#[]⟩)≤_;decide,by show (ByteArray.size ⟨#[]⟩)≤_;decide,rfl⟩,rfl,rfl,rfl,rfl,rfl,rfl,rfl⟩
 split at h
 ·cases h;exact ⟨⟨by show (ByteArray.size ⟨#[]⟩)≤_;decide,by show (ByteArray.size ⟨#[]⟩)≤_;decide,rfl⟩,rfl,rfl,rfl,rfl,rfl,rfl,rfl⟩
 unfold numS at h
 split at h
 ·rename_i he
  cases h
  refine ⟨⟨by show (ByteArray.size ⟨#[]⟩)≤_;decide,?_,rfl⟩,rfl,rfl,rfl,rfl,rfl,rfl,rfl⟩
  obtain ⟨⟨b,d,x,E⟩,hp⟩:∃ p,parseF (bl s)=p:=⟨_,rfl⟩
  rw [hp] at he ⊢
  simp only at he
  subst he
  have:=isN_len (parseF_isN hp)
  simp only [evNum]
  omega
 split at h
 ·unfold passS at h
  split at h
  ·cases h
  ·cases h;exact ⟨z1,rfl,rfl,rfl,rfl,rfl,rfl,rfl⟩
 ·cases h
end
theorem new_r (w:World) (gu:Ut.Gu w) (h8:8≤w.heap.size):Calls Tryz.prog 16 #[] w fun e w'=>∃ r g m,e=.returned (.pointer (some ⟨r,0,none⟩))∧RM w' r g m st0∧Below w.heap.size w w'∧g.lo=w.heap.size∧m.told=.slice none 0 0:=by
 have CN:=hide (fun w=>cnew_any w)
 have TN:=hide (fun w=>tnew_any w)
 go_enter Tryz.func16, Tryz.ntmps16
 go_wp2_with (first
  | (go_at_call 28;refine (CN.out _).mono ?_;rintro e w1 ⟨rfl,hp1,hp2⟩;have P0:=hide hp1;have P1:=hide hp2;clear hp1 hp2)
  | (go_at_call 29;refine (TN.out _).mono ?_;rintro e w2 ⟨rfl,hp2,hp3⟩;have P2:=hide hp2;have P3:=hide hp3;clear hp2 hp3))
 go_ret
 have z1:=P1.out.size
 have z2:=P3.out.size
 have k0:=P0.out.lt
 have k2:=P2.out.lt
 have B3:Below w2.heap.size w2 (w2.alloc (.cells (st0.rv ⟨w.heap.size,w1.heap.size,w2.heap.size + 1,w.heap.size⟩ ⟨.slice none 0 0,.slice none 0 0,.slice none 0 0,.slice none 0 0,.slice none 0 0⟩).cells 69)):=below_al (Below.refl _ _)
 have B2:Below w.heap.size w w2:=P1.out.trans (P3.out.mono (by omega))
 refine ⟨w2.heap.size,⟨w.heap.size,w1.heap.size,w2.heap.size + 1,w.heap.size⟩,⟨.slice none 0 0,.slice none 0 0,.slice none 0 0,.slice none 0 0,.slice none 0 0⟩,rfl,?_,B2.trans (B3.mono (by omega)),rfl,rfl⟩
 refine ⟨heap_alloc_new _ _,own_nil _ _,own_nil _ _,(fun k hk=>by (cases hk)),World.ownsRow_nil _ _ _ _,World.ownsRow_nil _ _ _ _,?_,?_,(gu.below B2).below B3,⟨by show w.heap.size≤w2.heap.size;omega,Nat.le_refl _,by show w.heap.size≤w1.heap.size;omega,by show w.heap.size<w2.heap.size + 1;omega,h8⟩,⟨by simp [st0,q0],by simp [st0,q0],Or.inl rfl,by simp [st0,q0]⟩,by simp [st0],by simp [st0],by simp [st0]⟩
 ·refine ⟨.slice none 0 0,[],Ck.new ((P0.out.same (P3.out.block _ k0)).same (B3.block _ (by omega))) (by show w.heap.size<w2.heap.size + 1;omega) (by simp),rfl,by simp,fun p hp=>by simp at hp⟩
 ·exact TyA.new (P2.out.same (B3.block _ k2)) (by show w1.heap.size<w2.heap.size + 1;omega) (by simp)
theorem build_c1:∀ (n:Nat) (x:VT n),NF n x→(fl n x).length≤1→∀ (b o:Nat) (W:World),EL W b o (fl n x)→b<W.heap.size →
  Calls Tryz.prog 36 #[.slice (some ⟨b,o,none⟩) (fl n x).length 1] W fun e w'=>∃ ns ls sv,e=.returned (.tuple #[.agg (vals (vhd n x) ns ls),sv])∧Hid (KR n w' x ns ls W.heap.size w'.heap.size)∧Hid (Below W.heap.size W w')∧True
 | 0,x,_,_,_,_,_,_,_=>Empty.elim x
 | n + 1,(h,l),nf,hl,b,o,W,he,hb=>by
  have h7:h.kind<7:=by
   by_cases h7:h.kind<7
   ·exact h7
   ·rw [fl_succ,if_neg h7] at hl
    simp at hl
  have hl0:l=[]:=nf.2.2.1 h7
  subst hl0
  have hn0:h.names=[]:=nf.2.2.2.2.1 (by show h.kind≠8;omega)
  have hf:fl (n + 1) ((h,[]):VT (n + 1))=[h]:=by rw [fl_succ,if_pos h7,hd0_id hn0]
  rw [hf] at he ⊢
  refine (build_one n h h7 hn0 b o W he hb).mono ?_
  rintro e w' ⟨ns,ls,sv,rfl,h1,h2⟩
  exact ⟨ns,ls,sv,rfl,h1,h2,trivial⟩
set_option maxRecDepth 100000 in
theorem Build_one (es:List Hd) (b o:Nat) (w:World) (hB:Bd w es b o 1) (g:Ut.Gu w) (n:Nat) (x:VT n) (tr:doneS (runE es)=true→es=fl n x∧NF n x∧Sz n x∧siz n x≤200000) (E:Int) (hE:Chk n x E) :
  Calls Tryz.prog 20 #[.slice (some ⟨b,o,none⟩) es.length 1] w fun e w'=>Below w.heap.size w w'∧BR es n x E w w' e:=by
 have hnew:=hide cnew_any
 have hlen:=hB.len
 have hmax:=hB.max
 have hsm:=hB.small
 have hlt:=hB.lt
 have hB':=hide hB
 have tr':=hide tr
 have hE':=hide hE
 have g':=hide g
 have ml:maxLen=9223372036854775807:=rfl
 clear hB tr hE g
 go_enter Tryz.func20, Tryz.ntmps20
 go_wp2_with (go_at_call 28;refine (hnew.out _).mono ?_;rintro e w1 ⟨rfl,hk1,hb1⟩)
 simp only [World.size_alloc] at hk1
 have z1:w.heap.size + 1<w1.heap.size:=hk1.lt
 have HR1:=hide ((bx_new w (zr 0) (.slice none 0 0) (.slice none 0 0)).below hb1)
 have HB1:=hide (below_then (below_al (Below.refl _ _)) hb1)
 have HC1:=hide (CkS.new hk1 (by omega))
 clear hk1 hb1 hnew
 go_loopw [13] (fun u W=>∃ k:Nat,u=.int .i64 k∧k≤es.length∧Hid (CkS W (w.heap.size + 1) (w.heap.size + 1 + 1) k (runE (es.take k))∧runE (es.take k)≠none∧Below w.heap.size w W∧Bx W w.heap.size (zr 0) (.slice none 0 0) (.slice none 0 0)∧w.heap.size + 1<W.heap.size)) (fun u _=>es.length - (intOf u).toNat)
 case atStart=>exact ⟨0,rfl,Nat.zero_le _,hide ⟨by simpa [runE,runS] using HC1.out,by simp [runE,runS],HB1.out,HR1.out,z1⟩⟩
 case round =>
  obtain ⟨k,rfl,hk,HH⟩:=hrel
  obtain ⟨hC,hne,hbw,hR,hz⟩:=HH.out
  have hbr:b<wr.heap.size:=Nat.lt_of_lt_of_le hlt hbw.size
  have zw:w.heap.size<wr.heap.size:=by omega
  obtain ⟨r0,r1,r2,r3,r4,r5,r6,r7,r8⟩:=hR.cells
  have fR:=hR.frz
  simp only [zr] at r0 r1 r2 r3 r4 r5 r6
  clear HC1 HR1 HB1 HH
  by_cases hkl:k<es.length
  ·have hki:(k:Int)<(es.length:Int):=by omega
   obtain ⟨c0,c1,c2,c3,c4,c5,c6⟩:=range7 (rangeAt_below (hB'.out.at k hkl) hbw hlt)
   have fd:=hide (cfeed_any (W:=wr.alloc (.cells (evs es[k]) 74)) (i:=w.heap.size + 1) (B:=w.heap.size + 1 + 1) (n:=k) (runE (es.take k)) es[k] (hB'.out.ez _ (List.getElem_mem hkl)) (hC.then (below_al (Below.refl _ _))) (by simp;omega) (by omega) (by simp;omega) (by omega) (g'.out.below (below_al hbw)) (mayB es[k]) (mayB_iff _))
   rw [←runE_take es k hkl] at fd
   obtain ⟨h,hh⟩:∃ h,es[k]=h:=⟨_,rfl⟩
   rw [hh] at c0 c1 c2 c3 c4 c5 c6 fd
   simp only [evs] at fd
   have hR':=hide hR
   have hbw':=hide hbw
   have hrun:=hide (fun q:runE (es.take (k + 1))=none=>runE_cut es (k + 1) q)
   obtain ⟨s,hs⟩:∃ s,runE (es.take (k + 1))=s:=⟨_,rfl⟩
   rw [hs] at fd hrun
   have hs':=hide hs
   clear hC hne hR hbw hs
   cases s with
   | none =>
    go_wp2_with (go_at_call 34;refine fd.out.mono ?_;rintro e w2 ⟨rfl,hc2',hb2⟩;have R2:=hide ((hR'.out.below (below_al (Below.refl _ _))).low hb2 (Nat.lt_succ_self _));obtain ⟨r0,r1,r2,r3,r4,r5,r6,r7,r8⟩:=R2.out.cells;have fR:=R2.out.frz;simp only [zr] at r0 r1 r2 r3 r4 r5 r6;have B2:=hide ((below_al hbw'.out).trans (hb2.mono (Nat.le_succ _)));clear hc2' hb2)
    refine bodyPost_ret (v:=.tuple #[.agg #[.int .i64 0,.bool false,.bool false,.string ⟨#[]⟩,.int .i64 0,.int .u64 0,.string ⟨#[]⟩,.slice none 0 0,.slice none 0 0],.int .i64 50]) (by simp [results,Tryz.results20,go_sem, *]) rfl ⟨?_,?_⟩
    ·(iterate 9 (refine Below.setCell ?_ (by show _≤_;exact Nat.le_refl _) _))
     exact B2.out
    ·have hn:=hrun.out trivial
     exact ⟨fun _=>rfl,fun h=>absurd hn h,fun h=>by rw [hn] at h;cases h⟩
   | some y =>
    go_wp2_with (go_at_call 34;refine fd.out.mono ?_;rintro e w2 ⟨rfl,hc2',hb2⟩;have R2:=hide ((hR'.out.below (below_al (Below.refl _ _))).low hb2 (Nat.lt_succ_self _));have B2:=hide ((below_al hbw'.out).trans (hb2.mono (Nat.le_succ _)));have C2:=hide hc2';have z2:=hb2.size;simp only [World.size_alloc] at z2;clear hc2' hb2)
    exact ⟨⟨k + 1,by go_num,by omega,hide ⟨by rw [hs'.out];exact C2.out,by rw [hs'.out];simp,B2.out,R2.out,by omega⟩⟩,by simp [intOf];omega⟩
  ·have hki:¬ ((k:Int)<(es.length:Int)):=by omega
   have hkeq:k=es.length:=by omega
   subst hkeq
   rw [List.take_length] at hC hne
   have dn:=hide hC.done
   have hne':=hide hne
   have hR':=hide hR
   have hbw':=hide hbw
   clear hC hne hR hbw
   have drewN_below:∀ m,Below wr.heap.size wr (wr.drewN m):=fun m=>⟨rfl,rfl,rfl,Nat.le_refl _,fun _ _=>rfl⟩
   by_cases hd:doneS (runE es)=true
   ·obtain ⟨he,nf,sz,le⟩:=tr'.out hd
    have bl:=hide (fun W (hb:Below w.heap.size w W)=>build_c1 n x nf (by rw [←he];exact hlen) b o W (by rw [←he];exact hB'.out.el.below hb hlt) (Nat.lt_of_lt_of_le hlt hb.size))
    have ck:=hide (fun W ns ls (hb:Below w.heap.size w W) (hr:RD n W x ns ls)=>check_any n x ns ls W ⟨hr,sz,le⟩ (g'.out.below hb) E hE'.out)
    rw [hd] at dn
    have dd:=hide drewN_below
    have he':=hide he
    have hd':=hide hd
    rw [←he] at bl
    obtain ⟨hx,hhx⟩:∃ hx,vhd n x=hx:=⟨_,rfl⟩
    rw [hhx] at bl ck
    simp only [vals] at bl ck
    clear drewN_below r0 r1 r2 r3 r4 r5 r6 r7 r8 fR hd he
    go_wp2_with (go_at_call 35;refine dn.out.mono ?_;rintro e w2 ⟨rfl,m2,rfl⟩)
    have B2:=hide (hbw'.out.trans ((dd.out m2).mono hbw'.out.size))
    refine (bl.out _ B2.out).mono ?_
    rintro e w3 ⟨ns3,ls3,sv,rfl,hk3,hb3,_⟩
    obtain ⟨q1,q2,q3,q4,q5,q6,rfl,rfl⟩:=hk3.out.rd.shape
    have B3:=hide (below_then B2.out hb3.out)
    have z3:wr.heap.size≤w3.heap.size:=hb3.out.size
    have R3:=hide ((hR'.out.below (dd.out m2)).below hb3.out)
    by_cases hE0:E=0
    ·subst hE0
     go_wp2_with (go_at_call 23;refine (ck.out _ _ _ (below_al B3.out) (hk3.out.rd.below (below_al (Below.refl _ _)))).mono ?_;rintro e w4 ⟨rfl,hb4⟩;have R4:=hide ((R3.out.below (below_al (Below.refl _ _))).below hb4);obtain ⟨r0,r1,r2,r3,r4,r5,r6,r7,r8⟩:=R4.out.cells;have fR:=R4.out.frz;simp only [zr] at r0 r1 r2 r3 r4 r5 r6;have V4:=hide ((bx_new w3 hx (.slice q1 q2 q3) (.slice q4 q5 q6)).below hb4);obtain ⟨v0,v1,v2,v3,v4,v5,v6,v7,v8⟩:=V4.out.cells;have B4:=hide (below_then (below_al B3.out) hb4);have z4:=hb4.size;simp only [World.size_alloc] at z4;have K4:=hide (hk3.out.move (W1:=w4) (by omega) (fun q p1 p2=>by rw [hb4.block q (by simp;omega),Below.heap_alloc _ _ _ p2]));clear hb4)
     refine bodyPost_ret (v:=.tuple #[.agg #[.int .i64 hx.kind,.bool hx.flag,.bool hx.neg,.string hx.dig,.int .i64 hx.exp,.int .u64 hx.bits,.string hx.text,.slice q1 q2 q3,.slice q4 q5 q6],.int .i64 0]) (by simp [results,Tryz.results20,go_sem, *]) rfl ⟨?_,?_⟩
     ·(iterate 9 (refine Below.setCell ?_ (by show _≤_;exact Nat.le_refl _) _))
      exact B4.out
     ·refine ⟨fun h=>absurd h hne'.out,fun _ h=>(by rw [hd'.out] at h;cases h),fun _=>⟨fun h=>absurd rfl h,fun _=>⟨.slice q1 q2 q3,.slice q4 q5 q6,wr.heap.size,w3.heap.size,by rw [hhx];rfl,by omega,?_⟩⟩⟩
      refine hide (K4.out.move (by simp;omega) ?_)
      intro q p1 p2
      have p1':wr.heap.size≤q:=p1
      simp only [heap_set_ne (show q≠w.heap.size by omega)]
    ·have hE1:(E != 0)=true:=by simpa using hE0
     go_wp2_with (go_at_call 23;refine (ck.out _ _ _ (below_al B3.out) (hk3.out.rd.below (below_al (Below.refl _ _)))).mono ?_;rintro e w4 ⟨rfl,hb4⟩;have R4:=hide ((R3.out.below (below_al (Below.refl _ _))).below hb4);obtain ⟨r0,r1,r2,r3,r4,r5,r6,r7,r8⟩:=R4.out.cells;have fR:=R4.out.frz;simp only [zr] at r0 r1 r2 r3 r4 r5 r6;have V4:=hide ((bx_new w3 hx (.slice q1 q2 q3) (.slice q4 q5 q6)).below hb4);obtain ⟨v0,v1,v2,v3,v4,v5,v6,v7,v8⟩:=V4.out.cells;have B4:=hide (below_then (below_al B3.out) hb4);have z4:=hb4.size;simp only [World.size_alloc] at z4;have K4:=hide (hk3.out.move (W1:=w4) (by omega) (fun q p1 p2=>by rw [hb4.block q (by simp;omega),Below.heap_alloc _ _ _ p2]));clear hb4)
     refine bodyPost_ret (v:=.tuple #[.agg #[.int .i64 0,.bool false,.bool false,.string ⟨#[]⟩,.int .i64 0,.int .u64 0,.string ⟨#[]⟩,.slice none 0 0,.slice none 0 0],.int .i64 2]) (by simp [results,Tryz.results20,go_sem, *]) rfl ⟨?_,?_⟩
     ·(iterate 9 (refine Below.setCell ?_ (by show _≤_;exact Nat.le_refl _) _))
      exact B4.out
     ·exact ⟨fun h=>absurd h hne'.out,fun _ h=>(by rw [hd'.out] at h;cases h),fun _=>⟨fun _=>rfl,fun h=>absurd h hE0⟩⟩
   ·rw [Bool.not_eq_true] at hd
    rw [hd] at dn
    have hd':=hide hd
    have dd:=hide (fun m=>(hR'.out.below (drewN_below m)).cells)
    have df:=hide (fun m=>(hR'.out.below (drewN_below m)).frz)
    have db:=hide drewN_below
    clear drewN_below r0 r1 r2 r3 r4 r5 r6 r7 r8 fR hd
    go_wp2_with (go_at_call 35;refine dn.out.mono ?_;rintro e w2 ⟨rfl,m2,rfl⟩;obtain ⟨r0,r1,r2,r3,r4,r5,r6,r7,r8⟩:=dd.out m2;have fR:=df.out m2;simp only [zr] at r0 r1 r2 r3 r4 r5 r6)
    refine bodyPost_ret (v:=.tuple #[.agg #[.int .i64 0,.bool false,.bool false,.string ⟨#[]⟩,.int .i64 0,.int .u64 0,.string ⟨#[]⟩,.slice none 0 0,.slice none 0 0],.int .i64 51]) (by simp [results,Tryz.results20,go_sem, *]) rfl ⟨?_,?_⟩
    ·(iterate 9 (refine Below.setCell ?_ (by show _≤_;exact Nat.le_refl _) _))
     exact hbw'.out.trans ((db.out m2).mono hbw'.out.size)
    ·exact ⟨fun h=>absurd h hne'.out,fun _ _=>rfl,fun h=>by rw [hd'.out] at h;cases h⟩
theorem Build_es (v:Value) (es:List Hd) (w:World) (hv:ES w v es) (hs:es.length≤199000) (hz:∀ e∈es,EvZ e) (g:Ut.Gu w) :
  Calls Tryz.prog 20 #[v] w fun e w'=>Below w.heap.size w w'∧∃ y E,e=.returned (.tuple #[.agg y,.int .i64 E])∧(E≠0→y=#[.int .i64 0,.bool false,.bool false,.string ⟨#[]⟩,.int .i64 0,.int .u64 0,.string ⟨#[]⟩,.slice none 0 0,.slice none 0 0])∧(doneS (runE es)=false→E≠0) ∧
   (doneS (runE es)=true→∃ x:VT es.length,es=fl es.length x∧IsV es.length x∧Sz es.length x∧(E=0↔Win es.length x)∧(E=0→∃ ns ls s f,y=vals (vhd es.length x) ns ls∧w.heap.size≤s∧KR es.length w' x ns ls s f)):=by
 obtain ⟨a,c,rfl,h1,h2,h3⟩:=hv
 by_cases h0:es.length=0
 ·have e:es=[]:=List.eq_nil_of_length_eq_zero h0
  subst e
  refine (Build_empty a c w).mono ?_
  rintro e w' ⟨hb,rfl⟩
  exact ⟨hb,_,_,rfl,fun _=>rfl,fun _=>by decide,fun h=>by cases h⟩
 ·obtain ⟨b,o,rfl,hlt,hel⟩:=h3 (by omega)
  have hB:Bd w es b o c:=⟨hel,hlt,h1,h2,hs,hz⟩
  have hc2:c≠1→2≤c:=fun q=>by omega
  by_cases hd:doneS (runE es)=true
  ·obtain ⟨x,hx,hfl⟩:=parse es ((doneS_iff _).1 hd)
   have hsz:Sz es.length x:=fl_sz _ x hx (by rw [←hfl];exact hs) (by rw [←hfl];exact hz)
   have hsi:siz es.length x≤200000:=by have:=fl_siz _ x hx;rw [←hfl] at this;omega
   obtain ⟨E,hE⟩:=chk_ex es.length x
   have hE0:E=0↔Win es.length x:=by
    rw [chk_zero hE];exact ⟨fun q=>q.2,fun q=>⟨hx,q⟩⟩
   have main:∀ e w',Below w.heap.size w w'∧BR es es.length x E w w' e→Below w.heap.size w w'∧∃ y E,e=.returned (.tuple #[.agg y,.int .i64 E])∧(E≠0→y=#[.int .i64 0,.bool false,.bool false,.string ⟨#[]⟩,.int .i64 0,.int .u64 0,.string ⟨#[]⟩,.slice none 0 0,.slice none 0 0])∧(doneS (runE es)=false→E≠0) ∧
     (doneS (runE es)=true→∃ x:VT es.length,es=fl es.length x∧IsV es.length x∧Sz es.length x∧(E=0↔Win es.length x)∧(E=0→∃ ns ls s f,y=vals (vhd es.length x) ns ls∧w.heap.size≤s∧KR es.length w' x ns ls s f)):=by
    rintro e w' ⟨hb,_,_,hbr⟩
    obtain ⟨r1,r2⟩:=hbr hd
    by_cases e0:E=0
    ·obtain ⟨ns,ls,s',f,rfl,hs',hk⟩:=r2 e0
     refine ⟨hb,_,0,rfl,fun q=>absurd rfl q,fun q=>(by rw [hd] at q;cases q),fun _=>⟨x,hfl,hx,hsz,?_,fun _=>⟨ns,ls,s',f,rfl,hs',hk.out⟩⟩⟩
     exact ⟨fun _=>hE0.1 e0,fun _=>rfl⟩
    ·rw [r1 e0]
     exact ⟨hb,_,2,rfl,fun _=>rfl,fun _=>by decide,fun _=>⟨x,hfl,hx,hsz,⟨fun q=>(by cases q),fun q=>absurd (hE0.2 q) e0⟩,fun q=>(by cases q)⟩⟩
   by_cases hc:c=1
   ·subst hc
    exact (Build_one es b o w hB g es.length x (fun _=>⟨hfl,isv_nf _ x hx,hsz,hsi⟩) E hE).mono main
   ·exact (Build_any es b o c w hB (hc2 hc) g es.length x (fun _=>⟨hfl,isv_nf _ x hx,hsz,hsi⟩) E hE).mono main
  ·have hd':doneS (runE es)=false:=by simpa using hd
   have main:∀ e w',Below w.heap.size w w'∧BR es 1 null1 0 w w' e→Below w.heap.size w w'∧∃ y E,e=.returned (.tuple #[.agg y,.int .i64 E])∧(E≠0→y=#[.int .i64 0,.bool false,.bool false,.string ⟨#[]⟩,.int .i64 0,.int .u64 0,.string ⟨#[]⟩,.slice none 0 0,.slice none 0 0])∧(doneS (runE es)=false→E≠0) ∧
     (doneS (runE es)=true→∃ x:VT es.length,es=fl es.length x∧IsV es.length x∧Sz es.length x∧(E=0↔Win es.length x)∧(E=0→∃ ns ls s f,y=vals (vhd es.length x) ns ls∧w.heap.size≤s∧KR es.length w' x ns ls s f)):=by
    rintro e w' ⟨hb,r1,r2,_⟩
    by_cases hn:runE es=none
    ·rw [r1 hn]
     exact ⟨hb,_,50,rfl,fun _=>rfl,fun _=>by decide,fun q=>absurd q hd⟩
    ·rw [r2 hn hd']
     exact ⟨hb,_,51,rfl,fun _=>rfl,fun _=>by decide,fun q=>absurd q hd⟩
   by_cases hc:c=1
   ·subst hc
    exact (Build_one es b o w hB g 1 null1 (fun q=>absurd q hd) 0 null_chk).mono main
   ·exact (Build_any es b o c w hB (hc2 hc) g 1 null1 (fun q=>absurd q hd) 0 null_chk).mono main
end Go.Proofs.YtpimjkdakjhoaaaGreatDoor
