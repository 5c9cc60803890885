/- Merged by program: KnUnhex, KoWord, KyNew, FbParse. -/
import Derived.Deep.OwnRows
import Derived.Test.YtpimjkdakjhoaaaGreatDoorZw34
import Derived.Test.YtpimjkdakjhoaaaGreatDoorZw09
namespace Go.Proofs.YtpimjkdakjhoaaaGreatDoor
open Go.RowKit
set_option linter.unusedSimpArgs false
set_option linter.unusedVariables false
set_option maxHeartbeats 8000000
theorem made_b (n:Nat):madeCells #[.int .u8 0] n=((List.replicate n 0).map fun v:Nat=>Value.int .u8 (v:Int)).toArray:=by
 apply Array.toList_inj.1
 rw [toList_madeCells_one]
 simp
def hxP (l:List UInt8):Nat→Option (List Nat)
 | 0=>some []
 | k + 1=>match hxP l k,l[2 * k]?,l[2 * k + 1]? with
  | some t,some a,some b=>match hxD a,hxD b with
   | some x,some y=>some (t++[x.val * 16 + y.val])
   | _,_=>none
  | _,_,_=>none
theorem hxP_len (l:List UInt8):∀ k t,hxP l k=some t→t.length=k
 | 0,t,h=>by simp [hxP] at h;subst h;rfl
 | k + 1,t,h=>by
  unfold hxP at h
  split at h
  ·rename_i t0 a b h0 ha hb
   split at h
   ·cases h;rw [List.length_append,hxP_len l k t0 h0];rfl
   ·cases h
  ·cases h
theorem hxP_lt (l:List UInt8):∀ k t,hxP l k=some t→∀ x∈t,x<256
 | 0,t,h=>by simp [hxP] at h;subst h;intro x hx;simp at hx
 | k + 1,t,h=>by
  unfold hxP at h
  split at h
  ·rename_i t0 a b h0 ha hb
   split at h
   ·rename_i x y _ _
    cases h
    intro z hz
    rcases List.mem_append.1 hz with q|q
    ·exact hxP_lt l k t0 h0 z q
    ·simp at q;have:=x.isLt;have:=y.isLt;omega
   ·cases h
  ·cases h
theorem hxP_cons (a b:UInt8) (l:List UInt8):∀ k,hxP (a :: b :: l) (k + 1)=match hxD a,hxD b,hxP l k with
  | some x,some y,some t=>some ((x.val * 16 + y.val) :: t)
  | _,_,_=>none
 | 0=>by
  simp only [hxP,Nat.mul_zero,List.getElem?_cons_zero,Nat.zero_add,List.getElem?_cons_succ]
  cases hxD a <;> cases hxD b <;> rfl
 | k + 1=>by
  have e1:(a :: b :: l)[2 * (k + 1)]?=l[2 * k]?:=by
   rw [show 2 * (k + 1)=2 * k + 1 + 1 by omega,List.getElem?_cons_succ,List.getElem?_cons_succ]
  have e2:(a :: b :: l)[2 * (k + 1) + 1]?=l[2 * k + 1]?:=by
   rw [show 2 * (k + 1) + 1=2 * k + 1 + 1 + 1 by omega,List.getElem?_cons_succ,List.getElem?_cons_succ]
  rw [hxP,hxP_cons a b l k,e1,e2]
  conv=>rhs;rw [hxP]
  cases hxD a with
  | none=>rfl
  | some x =>
   cases hxD b with
   | none=>rfl
   | some y =>
    cases hxP l k with
    | none=>rfl
    | some t =>
     simp only
     cases l[2 * k]? with
     | none=>rfl
     | some c =>
      cases l[2 * k + 1]? with
      | none=>rfl
      | some d =>
       simp only
       cases hxD c with
       | none=>rfl
       | some u=>cases hxD d <;> rfl
theorem hx2_P:∀ (n:Nat) (l:List UInt8),l.length=2 * n→hx2 l=(hxP l n).map fun t=>t.map UInt8.ofNat
 | 0,l,h=>by
  cases l with
  | nil=>rfl
  | cons a l=>simp at h
 | n + 1,l,h=>by
  match l,h with
  | a :: b :: l,h =>
   rw [hxP_cons,hx2,hx2_P n l (by simp at h;omega)]
   cases hxD a with
   | none=>rfl
   | some x =>
    cases hxD b with
    | none=>rfl
    | some y=>cases hxP l n <;> rfl
theorem hx2_odd:∀ (n:Nat) (l:List UInt8),l.length=2 * n + 1→hx2 l=none
 | 0,l,h=>by
  match l,h with
  | [a],_=>rfl
 | n + 1,l,h=>by
  match l,h with
  | a :: b :: l,h =>
   rw [hx2,hx2_odd n l (by simp at h;omega)]
   cases hxD a <;> cases hxD b <;> rfl
theorem hxP_none (l:List UInt8) (k:Nat) (h:hxP l k=none):∀ d,hxP l (k + d)=none
 | 0=>h
 | d + 1=>by
  rw [←Nat.add_assoc,hxP,hxP_none l k h d]
theorem or16b (x y:_root_.Fin 16):bits .or .i64 ((x.val:Int) * 16) (y.val:Int)=((x.val * 16 + y.val:Nat):Int):=or16 x.val y.val (by omega) y.isLt
def uxR (s:ByteArray):Ending:=match hx2 (bl s) with
 | none=>.returned (.tuple #[.string ⟨#[]⟩,.bool false])
 | some l=>.returned (.tuple #[.string (mkB l),.bool true])
set_option maxRecDepth 20000 in
theorem unhex_j (s:ByteArray) (w:World) (hs:s.size≤100000):Calls Tryz.prog 124 #[.string s] w fun e w'=>e=uxR s∧Below w.heap.size w w':=by
 have ml:maxLen=9223372036854775807:=rfl
 obtain ⟨n,hn⟩:∃ n,s.size=2 * n∨s.size=2 * n + 1:=⟨s.size / 2,by omega⟩
 rcases hn with hn|hn
 ·have hr:Hid (∀ o,hxP (bl s) n=o→uxR s=match o with|none=>.returned (.tuple #[.string ⟨#[]⟩,.bool false])|some t=>.returned (.tuple #[.string (mkB (t.map UInt8.ofNat)),.bool true])):=by
   intro o ho
   unfold uxR
   rw [hx2_P n (bl s) (by rw [bl_length];exact hn),ho]
   cases o <;> rfl
  have e2:Int.tmod (s.size:Int) 2=0:=by rw [hn,Int.tmod_eq_emod_of_nonneg (by omega)];omega
  have e3:Int.tdiv (s.size:Int) 2=(n:Int):=by rw [hn,Int.tdiv_eq_ediv_of_nonneg (by omega)];omega
  have hmk:=fun w=>run_make_row' (P:=Tryz.prog) 32 5 (.int .u8 0) 1 Tryz.underlying32 info5 rfl .i64 .i64 n (by omega) (by omega) w
  have hn':=hide hn
  have hsz:∀ k,k<n→2 * k<s.size∧2 * k + 1<s.size:=fun k hk=>by omega
  have hsz':=hide hsz
  have hnb:n≤50000:=by omega
  have hsN:Hid ((s.size:Int)=2 * n):=(by omega:(s.size:Int)=2 * n)
  clear hn hs hsz
  go_enter Tryz.func124, Tryz.ntmps124
  go_wp2
  go_loopw [18] (fun i wr=>∃ (k:Nat) (t:List Nat),k≤n∧i=.int .i64 k∧Hid (hxP (bl s) k=some t)∧Hid (Arr wr w.heap.size 5 (t++List.replicate (n - k) 0))∧Hid (Below w.heap.size w wr)) (fun i _=>n - (intOf i).toNat)
  case atStart =>
   refine ⟨0,[],by omega,rfl,rfl,?_,below_al (Below.refl _ _)⟩
   exact arr_new w 5 n _ (made_b n)
  case round =>
   obtain ⟨k,t,hk,rfl,hT,hA,hB⟩:=hrel
   by_cases hlt:k<n
   ·obtain ⟨hs1,hs2⟩:=hsz'.out k hlt
    have hg1:=hide (show (bl s)[2 * k]?=some s[2 * k] by rw [List.getElem?_eq_getElem (by rw [bl_length];exact hs1),bl_get s _ hs1])
    have hg2:=hide (show (bl s)[2 * k + 1]?=some s[2 * k + 1] by rw [List.getElem?_eq_getElem (by rw [bl_length];exact hs2),bl_get s _ hs2])
    have hlt':(k:Int)<n:=by omega
    have ht1:(2 * (k:Int)).toNat=2 * k:=by omega
    have ht2:(2 * (k:Int) + 1).toNat=2 * k + 1:=by omega
    have hw1:IntKind.i64.wrap (2 * (k:Int))=2 * (k:Int):=by rw [IntKind.wrap_i64] <;> omega
    have hw2:IntKind.i64.wrap (2 * (k:Int) + 1)=2 * (k:Int) + 1:=by rw [IntKind.wrap_i64] <;> omega
    have hi1:2 * (k:Int)<s.size:=by omega
    have hi2:2 * (k:Int) + 1<s.size:=by omega
    obtain ⟨a,ha⟩:∃ a,s[2 * k]=a:=⟨_,rfl⟩
    obtain ⟨b,hb⟩:∃ b,s[2 * k + 1]=b:=⟨_,rfl⟩
    rw [ha] at hg1
    rw [hb] at hg2
    have SA:=hide (fun w=>sib_any hxE (a.toNat:Int) w)
    have SB:=hide (fun w=>sib_any hxE (b.toNat:Int) w)
    rw [hx_idx a] at SA
    rw [hx_idx b] at SB
    simp only [hxE] at SA SB
    have hA1:=fun (nq:Nat)=>(show Arr (wr.drewN nq) w.heap.size 5 (t++List.replicate (n - k) 0) from hA.out)
    have htl:=hxP_len _ _ _ hT.out
    cases hxa:hxD a with
    | none =>
     rw [hxa] at SA
     have hno:Hid (hxP (bl s) n=none):=by
      have:=hxP_none (bl s) (k + 1) (by rw [hxP,hT.out,hg1.out,hg2.out];simp only [hxa]) (n - (k + 1))
      rw [show k + 1 + (n - (k + 1))=n by omega] at this
      exact this
     obtain ⟨xb,SB⟩:∃ xb:Int,Hid (∀ w,Calls Tryz.prog 63 #[.string ⟨#[48,49,50,51,52,53,54,55,56,57,97,98,99,100,101,102]⟩,.int .u8 b.toNat] w fun r w'=>r=.returned (.int .i64 xb)∧w'=w):=⟨_,SB⟩
     clear hA1 hxa
     go_wp2
     go_quiet (first|(go_at_call 63;exact Calls.quiet_of_same (SA.out _))|(go_at_call 63;exact Calls.quiet_of_same (SB.out _)))
     go_wp2
     exact bodyPost_ret (v:=.tuple #[.string ⟨#[]⟩,.bool false]) (by simp [results,Tryz.results124,go_sem]) rfl ⟨by rw [hr.out none hno.out],hB.out.trans ⟨rfl,rfl,rfl,Nat.le_refl _,fun _ _=>rfl⟩⟩
    | some x =>
     rw [hxa] at SA
     have hx0:decide ((x.val:Int)<0)=false:=by simp
     cases hxb:hxD b with
     | none =>
      rw [hxb] at SB
      have hno:Hid (hxP (bl s) n=none):=by
       have:=hxP_none (bl s) (k + 1) (by rw [hxP,hT.out,hg1.out,hg2.out];simp only [hxa,hxb]) (n - (k + 1))
       rw [show k + 1 + (n - (k + 1))=n by omega] at this
       exact this
      clear hA1 hxa hxb
      go_wp2
      go_quiet (first|(go_at_call 63;exact Calls.quiet_of_same (SA.out _))|(go_at_call 63;exact Calls.quiet_of_same (SB.out _)))
      go_wp2
      exact bodyPost_ret (v:=.tuple #[.string ⟨#[]⟩,.bool false]) (by simp [results,Tryz.results124,go_sem]) rfl ⟨by rw [hr.out none hno.out],hB.out.trans ⟨rfl,rfl,rfl,Nat.le_refl _,fun _ _=>rfl⟩⟩
     | some y =>
      rw [hxb] at SB
      have hy0:decide ((y.val:Int)<0)=false:=by simp
      have hor:=or16b x y
      have hst:Hid (hxP (bl s) (k + 1)=some (t++[x.val * 16 + y.val])):=by
       show _=_
       rw [hxP,hT.out,hg1.out,hg2.out];simp only [hxa,hxb]
      have hxl:=x.isLt
      have hyl:=y.isLt
      obtain ⟨v,hv⟩:∃ v,x.val * 16 + y.val=v:=⟨_,rfl⟩
      rw [hv] at hor hst
      have hv8:IntKind.u8.wrap (v:Int)=(v:Int):=by rw [IntKind.wrap_u8] <;> omega
      have hcl:∀ nq,(wr.drewN nq).cell? ⟨w.heap.size,k,none⟩=some (.int .u8 0):=fun nq=>by
       have:=(hA1 nq).cell k (by rw [List.length_append,htl,List.length_replicate];omega)
       rw [this,List.getElem_append_right (by omega),List.getElem_replicate]
       rfl
      have hfz:∀ nq,(wr.drewN nq).frozen? ⟨w.heap.size,k,none⟩=false:=fun nq=>(hA1 nq).frozen k
      have hset:Hid (∀ nq,Arr ((wr.drewN nq).setCell ⟨w.heap.size,k,none⟩ (.int .u8 (v:Int))) w.heap.size 5 ((t++[v])++List.replicate (n - (k + 1)) 0)):=fun nq=>by
       have:=(hA1 nq).set k v
       rw [List.set_append_right _ _ (by omega),htl,Nat.sub_self,show n - k=(n - (k + 1)) + 1 by omega,List.replicate_succ,List.set_cons_zero] at this
       rw [List.append_assoc]
       exact this
      have hx16:IntKind.i64.wrap ((x.val:Int) * 16)=(x.val:Int) * 16:=by rw [IntKind.wrap_i64] <;> omega
      clear hA1 hxa hxb hv
      go_wp2
      go_quiet (first|(go_at_call 63;exact Calls.quiet_of_same (SA.out _))|(go_at_call 63;exact Calls.quiet_of_same (SB.out _)))
      go_wp2
      refine ⟨⟨k + 1,t++[v],by omega,by go_num,hst.out,hset.out _,?_⟩,by simp [intOf];omega⟩
      exact (show Below w.heap.size w (wr.drewN _) from hB.out.trans ⟨rfl,rfl,rfl,Nat.le_refl _,fun _ _=>rfl⟩).setCell (p:=⟨w.heap.size,k,none⟩) (Nat.le_refl _) _
   ·have hke:k=n:=by omega
    subst hke
    have htl:=hxP_len _ _ _ hT.out
    have hcv:(convert 32 9 (.slice (some ⟨w.heap.size,0,none⟩) k k)).run Tryz.prog wr=.ok (.string (mkB (t.map UInt8.ofNat))) wr:=by
     have:=run_convert_bytes_back (P:=Tryz.prog) wr 32 9 5 ⟨w.heap.size,0,none⟩ k (t.map UInt8.ofNat) Tryz.underlying32 Tryz.underlying5 Tryz.underlying9 (fun j hj=>by
      rw [List.length_map] at hj
      have hc:=hA.out.cell j (by rw [List.length_append];omega)
      rw [show (⟨w.heap.size,0,none⟩:Addr).add j=⟨w.heap.size,j,none⟩ by unfold Addr.add;split <;> simp_all,hc,List.getElem_append_left hj,List.getElem_map]
      rw [UInt8.toNat_ofNat_of_lt' (hxP_lt _ _ _ hT.out _ (List.getElem_mem _))])
     rw [List.length_map,htl] at this
     exact this
    go_wp2
    exact bodyPost_ret (v:=.tuple #[.string (mkB (t.map UInt8.ofNat)),.bool true]) (by simp [results,Tryz.results124,go_sem]) rfl ⟨by rw [hr.out (some t) hT.out],hB.out⟩
 ·have hr:Hid (uxR s=.returned (.tuple #[.string ⟨#[]⟩,.bool false])):=by
   show _=_
   unfold uxR
   rw [hx2_odd n (bl s) (by rw [bl_length];exact hn)]
  have e2:Int.tmod (s.size:Int) 2=1:=by rw [hn,Int.tmod_eq_emod_of_nonneg (by omega)];omega
  rw [hr.out]
  clear hn
  go_enter Tryz.func124, Tryz.ntmps124
  go_wp2
  exact bodyPost_ret (v:=.tuple #[.string ⟨#[]⟩,.bool false]) (by simp [results,Tryz.results124,go_sem]) rfl ⟨rfl,Below.refl _ _⟩
def NP (W:World) (r:Nat) (g:Gv) (m:Mv) (o:Sum Int (Hd×St)) (e:Ending) (w':World):Prop :=
 RF g m W w'∧match o with
 | .inl E=>e=.panicked (pan E)∧∃ s,RdB w' r s
 | .inr x=>e=.returned (.agg (evs x.1))∧∃ m',RM w' r g m' x.2∧OM W m m'
section
variable {W W1 W2 : World} {r : Nat} {g : Gv} {m : Mv} {st : St}
structure But (k:Nat) (W w':World):Prop where
 os:w'.os=W.os
 tape:w'.tape=W.tape
 output:w'.output=W.output
 size:w'.heap.size=W.heap.size
 blk:∀ q,q≠k→w'.heap[q]?=W.heap[q]?
theorem But.refl (k:Nat) (W:World):But k W W:=⟨rfl,rfl,rfl,rfl,fun _ _=>rfl⟩
theorem But.set {k:Nat} (h:But k W W1) (j:Nat) (u:Value):But k W (W1.setCell ⟨k,j,none⟩ u) :=
 ⟨h.os,h.tape,h.output,by simpa using h.size,fun q hq=>(Below.heap_setCell _ _ _ _ hq).trans (h.blk q hq)⟩
theorem But.below {k L:Nat} (h:But k W W1) (hk:L≤k):Below L W W1:=⟨h.os,h.tape,h.output,Nat.le_of_eq h.size.symm,fun q hq=>h.blk q (by omega)⟩
theorem RM.apart (h:RM W r g m st) {k:Nat} {e:Hd} (hE:EB W k e) (nb:NoB m k) (hlo:g.lo≤k) (hb:But k W W1):RM W1 r g m st:=by
 have hr:=h.rd
 unfold RdB at hr
 have ht:=h.ty.tb
 unfold TyB at ht
 unfold EB at hE
 have key:∀ {q:Nat} {c:Array Value} {T:TypeId} {f:Nat×Nat},W.heap[q]?=some (.cells c T f)→T≠74→W1.heap[q]?=some (.cells c T f):=fun {q c T f} hq hT=>by
  rw [hb.blk q (fun e=>by rw [e,hE] at hq;exact hT (cells_ty hq).symm),hq]
 have row:∀ {u:Value} {B T sz n:Nat} {xs:List Value},W.ownsRow B T sz u n xs→u.ownBlock≠some k→W1.ownsRow B T sz u n xs:=fun {u B T sz n xs} ho hn=>own_of ho fun q hq _=>hb.blk q (fun e=>hn (by rw [hq,e]))
 have rowT:∀ {u:Value} {B T sz n:Nat} {xs:List Value},W.ownsRow B T sz u n xs→T≠74→W1.ownsRow B T sz u n xs:=fun {u B T sz n xs} ho hT=>row ho (ty_ne hE ho (Ne.symm hT))
 refine ⟨key hr (by decide),row h.word nb.1,row h.held nb.2.1,h.dif,rowT h.opn (by decide),row h.told nb.2.2,?_,?_,Gu.low h.gu (hb.below hlo) h.gk.low,h.gk,h.qf,h.wl,h.kl,h.tl⟩
 ·exact h.ck.keep (Nat.le_of_eq hb.size.symm) fun q _ hq=>hb.blk q (fun e=>by subst e;exact ty_no hE (by decide) (by decide) hq)
 ·exact h.ty.keep (Nat.le_of_eq hb.size.symm) (by rw [key ht (by decide),ht]) fun q hq=>by
   obtain ⟨c,f,hc⟩:=own_blk h.ty.row hq
   rw [key hc (by decide),hc]
theorem RF.fresh (h:RF g m W W1) {k:Nat} (hk:W.heap.size≤k) (hlo:g.lo≤W.heap.size) (hb:But k W1 W2):RF g m W W2 :=
 ⟨h.below.trans (hb.below (by omega)),fun q c T f hq t1 t2 t3 t4 t5 t6 n1 n2 n3=>by
  have:=(Array.getElem?_eq_some_iff.1 hq).1
  rw [hb.blk q (by omega)]
  exact h.keep q c T f hq t1 t2 t3 t4 t5 t6 n1 n2 n3⟩
def set7 (w:World) (k:Nat) (e:Hd):World:=((((((w.setCell ⟨k,0,none⟩ (.int .i64 e.kind)).setCell ⟨k,1,none⟩ (.bool e.flag)).setCell ⟨k,2,none⟩ (.bool e.neg)).setCell ⟨k,3,none⟩ (.string e.dig)).setCell ⟨k,4,none⟩ (.int .i64 e.exp)).setCell ⟨k,5,none⟩ (.int .u64 e.bits)).setCell ⟨k,6,none⟩ (.string e.text)
theorem blk_set {w:World} {k:Nat} {c:Array Value} {T:TypeId} (h:w.heap[k]?=some (.cells c T (0,0))) (j:Nat) (u:Value):(w.setCell ⟨k,j,none⟩ u).heap[k]?=some (.cells (c.setIfInBounds j u) T (0,0)):=by
 rw [setCell_eq_setRow w k j _ _ (0,0) _ h,setRow_heap w k _ _ _ (0,0) h]
theorem eb_set7 {w:World} {k:Nat} {h0:Hd} (h:EB w k h0) (e:Hd):EB (set7 w k e) k e∧But k w (set7 w k e):=by
 constructor
 ·unfold EB evs at h
  have h1:=blk_set h 0 (.int .i64 e.kind)
  simp at h1
  have h2:=blk_set h1 1 (.bool e.flag)
  simp at h2
  have h3:=blk_set h2 2 (.bool e.neg)
  simp at h3
  have h4:=blk_set h3 3 (.string e.dig)
  simp at h4
  have h5:=blk_set h4 4 (.int .i64 e.exp)
  simp at h5
  have h6:=blk_set h5 5 (.int .u64 e.bits)
  simp at h6
  have h7:=blk_set h6 6 (.string e.text)
  simp at h7
  exact h7
 ·exact (((((((But.refl k w).set 0 _).set 1 _).set 2 _).set 3 _).set 4 _).set 5 _).set 6 _
set_option maxRecDepth 100000 in
theorem number_r (h:RM W r g m st) (s:ByteArray) (hs:s.size≤100000):Calls Tryz.prog 126 #[.pointer (some ⟨r,0,none⟩),.string s] W fun x w'=>NP W r g m (numS st s) x w':=by
 obtain ⟨W0,hW0⟩:∃ W0,W0=W.alloc (.cells (evs (zr 0)) 74):=⟨_,rfl⟩
 have B0:Hid (Below W.heap.size W W0):=by rw [hW0];exact below_al (Below.refl _ _)
 have E0:Hid (EB W0 W.heap.size (zr 0)):=by rw [hW0];exact EB.new W (zr 0)
 have M0:=hide (h.then B0.out)
 have NB:=hide (h.nob (Nat.le_refl _))
 have lo:=hide h.lo
 clear h
 obtain ⟨k,hk⟩:∃ k,W.heap.size=k:=⟨_,rfl⟩
 have hk':=hide hk
 rw [hk] at E0 NB
 have P:Hid (Calls Tryz.prog 143 #[.string s] (W.alloc (.cells (evs (zr 0)) 74)) fun e w'=>e=retF (parseF (bl s))∧RF g m W w'∧RM w' r g m st∧EB w' k (zr 0)):=by
  rw [←hW0]
  refine (parse_any s W0 hs).mono ?_
  rintro e w1 ⟨h1,h2⟩
  exact ⟨h1,RF.of (below_then B0.out h2) lo.out,M0.out.then h2,E0.out.below h2⟩
 have PA:=hide (fun w1 (h1:RM w1 r g m st) (hE:EB w1 k (zr 0))=>pass_r h1)
 clear hW0 hs
 unfold numS
 obtain ⟨⟨b,d,x,E⟩,hp⟩:∃ p,parseF (bl s)=p:=⟨_,rfl⟩
 rw [hp] at P ⊢
 have hE:=parseF_err (bl s)
 have hz:=fun q=>parseF_size (l:=bl s) q
 rw [hp] at hE hz
 simp only [retF,evs,zr] at P
 by_cases h0:E=0
 ·subst h0
  rw [if_pos rfl]
  clear hE hz hp PA
  simp only [evNum,evs,zr]
  go_enter Tryz.func126, Tryz.ntmps126
  go_wp2_with (go_at_call 143;refine P.out.mono ?_;rintro e w1 ⟨rfl,hp1,hp2,hp3⟩;have F1:=hide hp1;have M1:=hide hp2;have E1:=hide hp3;clear hp1 hp2 hp3;obtain ⟨b0,b1,b2,b3,b4,b5,b6⟩:=E1.out.cells;have fz:∀ j,w1.frozen? ⟨k,j,none⟩=false:=(fun j=>by have q:=E1.out;unfold EB at q;simp [World.frozen?,q]);have lt1:k<w1.heap.size:=E1.out.lt)
  have Q:=eb_set7 E1.out ⟨3,false,b,d,x,0,⟨#[]⟩,[]⟩
  obtain ⟨w2,hw2⟩:∃ w2,set7 w1 k ⟨3,false,b,d,x,0,⟨#[]⟩,[]⟩=w2:=⟨_,rfl⟩
  rw [hw2] at Q
  simp only [set7] at hw2
  rw [hw2]
  obtain ⟨Q1,Q2⟩:=Q
  have Q3:=Q1.below (W1:=w2.alloc (.cells #[.bool b,.string d,.int .i64 x] 24)) (below_al (Below.refl _ _))
  obtain ⟨c0,c1,c2,c3,c4,c5,c6⟩:=Q3.cells
  simp only at c0 c1 c2 c3 c4 c5 c6
  have hlo:g.lo≤k:=by have:=lo.out;rw [hk'.out] at this;exact this
  have R2:=(M1.out.apart E1.out NB.out hlo Q2)
  refine bodyPost_ret (v:=.agg #[.int .i64 3,.bool false,.bool b,.string d,.int .i64 x,.int .u64 0,.string ⟨#[]⟩]) (by simp [results,Tryz.results126,go_sem,c0,c1,c2,c3,c4,c5,c6]) rfl ⟨?_,rfl,m,R2.then (below_al (Below.refl _ _)),OM.refl _ _⟩
  exact (F1.out.fresh (Nat.le_of_eq hk'.out) lo.out Q2).trans (OM.refl _ _) (RF.of (below_al (Below.refl _ _)) R2.lo)
 ·have hz:=hz h0
  simp only [Prod.mk.injEq] at hz
  obtain ⟨rfl,rfl,rfl,_⟩:=hz
  rw [if_neg h0]
  by_cases h2:E=2
  ·subst h2
   rw [if_pos rfl]
   clear hE hp h0
   cases hq:passS st with
   | inl E =>
    simp only [bnd]
    rw [hq] at PA
    clear hq
    go_enter Tryz.func126, Tryz.ntmps126
    go_wp2_with (first
     | (go_at_call 143;refine P.out.mono ?_;rintro e w1 ⟨rfl,hp1,hp2,hp3⟩;have F1:=hide hp1;have M1:=hide hp2;have E1:=hide hp3;clear hp1 hp2 hp3;obtain ⟨b0,b1,b2,b3,b4,b5,b6⟩:=E1.out.cells;have fz:∀ j,w1.frozen? ⟨k,j,none⟩=false:=(fun j=>by have q:=E1.out;unfold EB at q;simp [World.frozen?,q]);have lt1:k<w1.heap.size:=E1.out.lt)
     | (go_at_call 59;refine (PA.out _ (M1.out.then (below_al (Below.refl _ _))) (E1.out.below (below_al (Below.refl _ _)))).mono ?_;rintro q w2 ⟨hp1,rfl,hp2⟩;have F2:=hide (F1.out.trans (OM.refl _ _) ((RF.of (below_al (Below.refl _ _)) M1.out.lo).trans (OM.refl _ _) hp1));have M2:=hide hp2;clear hp1 hp2))
    exact ⟨rfl,F2.out,rfl,M2.out⟩
   | inr y =>
    simp only [bnd,evs,zr]
    rw [hq] at PA
    clear hq
    have PA2:Hid (∀ w1,RM w1 r g m st→EB w1 k (zr 0)→Calls Tryz.prog 59 #[.pointer (some ⟨r,0,none⟩)] w1 fun q w'=>∃ m2,q=.returned (.tuple #[])∧RF g m w1 w'∧RM w' r g m2 y∧OM w1 m m2∧EB w' k (zr 0)):=fun w1 h1 hE=>(PA.out w1 h1 hE).mono (by
     rintro q w2 ⟨hp1,rfl,m2,hp2,hp3⟩
     exact ⟨m2,rfl,hp1,hp2,hp3,hp1.eb hE NB.out.1 NB.out.2.1 NB.out.2.2⟩)
    clear PA
    go_enter Tryz.func126, Tryz.ntmps126
    go_wp2_with (first
     | (go_at_call 143;refine P.out.mono ?_;rintro e w1 ⟨rfl,hp1,hp2,hp3⟩;have F1:=hide hp1;have M1:=hide hp2;have E1:=hide hp3;clear hp1 hp2 hp3;obtain ⟨b0,b1,b2,b3,b4,b5,b6⟩:=E1.out.cells;have fz:∀ j,w1.frozen? ⟨k,j,none⟩=false:=(fun j=>by have q:=E1.out;unfold EB at q;simp [World.frozen?,q]);have lt1:k<w1.heap.size:=E1.out.lt)
     | (go_at_call 59;refine (PA2.out _ (M1.out.then (below_al (Below.refl _ _))) (E1.out.below (below_al (Below.refl _ _)))).mono ?_;rintro q w2 ⟨m2,rfl,hp1,hp2,hp3,hp4⟩;have F2:=hide (F1.out.trans (OM.refl _ _) ((RF.of (below_al (Below.refl _ _)) M1.out.lo).trans (OM.refl _ _) hp1));have M2:=hide hp2;have O2:Hid (OM W m m2):=(OM.refl _ _).trans hp3 (Nat.le_trans F1.out.below.size (by simp));have NB2:Hid (NoB m2 k):=NB.out.om hp3 (E1.out.below (below_al (Below.refl _ _))).lt;have E2:=hide hp4;clear hp1 hp2 hp3 hp4;obtain ⟨e0,e1,e2,e3,e4,e5,e6⟩:=E2.out.cells;have fz2:∀ j,w2.frozen? ⟨k,j,none⟩=false:=(fun j=>by have q:=E2.out;unfold EB at q;simp [World.frozen?,q]);have lt2:k<w2.heap.size:=E2.out.lt))
    have Q:=eb_set7 E2.out (zr 1)
    obtain ⟨w3,hw3⟩:∃ w3,set7 w2 k (zr 1)=w3:=⟨_,rfl⟩
    rw [hw3] at Q
    simp only [set7,zr] at hw3
    rw [hw3]
    obtain ⟨Q1,Q2⟩:=Q
    obtain ⟨c0,c1,c2,c3,c4,c5,c6⟩:=Q1.cells
    simp only [zr] at c0 c1 c2 c3 c4 c5 c6
    have hlo:g.lo≤k:=by have:=lo.out;rw [hk'.out] at this;exact this
    have R2:=(M2.out.apart E2.out NB2.out hlo Q2)
    refine bodyPost_ret (v:=.agg #[.int .i64 1,.bool false,.bool false,.string ⟨#[]⟩,.int .i64 0,.int .u64 0,.string ⟨#[]⟩]) (by simp [results,Tryz.results126,go_sem,c0,c1,c2,c3,c4,c5,c6]) rfl ⟨?_,rfl,m2,R2,O2.out⟩
    exact F2.out.fresh (Nat.le_of_eq hk'.out) lo.out Q2
  ·rw [if_neg h2]
   have hE':E=10:=hE.elim (fun q=>absurd q h0) (fun q=>q.elim id (fun q=>absurd q h2))
   subst hE'
   clear hE hp h0 h2 PA
   go_enter Tryz.func126, Tryz.ntmps126
   go_wp2_with (go_at_call 143;refine P.out.mono ?_;rintro e w1 ⟨rfl,hp1,hp2,hp3⟩;have F1:=hide hp1;have M1:=hide hp2;have E1:=hide hp3;clear hp1 hp2 hp3;obtain ⟨b0,b1,b2,b3,b4,b5,b6⟩:=E1.out.cells;have fz:∀ j,w1.frozen? ⟨k,j,none⟩=false:=(fun j=>by have q:=E1.out;unfold EB at q;simp [World.frozen?,q]);have lt1:k<w1.heap.size:=E1.out.lt)
   exact ⟨rfl,F1.out.trans (OM.refl _ _) (RF.of (below_al (Below.refl _ _)) M1.out.lo),rfl,_,(M1.out.then (below_al (Below.refl _ _))).rd⟩
theorem wordE_z {s:ByteArray} {x:Hd×St} (h:wordE st s=.inr x):EvZ x.1∧x.2.n=st.n∧x.2.ks=st.ks∧x.2.wait=st.wait∧x.2.behind=st.behind∧x.2.q=st.q∧x.2.word=st.word∧x.2.total=st.total:=by
 have z1:EvZ (zr 1):=⟨by decide,by decide,rfl⟩
 unfold wordE at h
 split at h
 ·cases h;exact ⟨z1,rfl,rfl,rfl,rfl,rfl,rfl,rfl⟩
 split at h
 ·cases h;exact ⟨⟨by show (ByteArray.size ⟨#[]⟩)≤_;decide,by show (ByteArray.size ⟨#[]⟩)≤_;decide,rfl⟩,rfl,rfl,rfl,rfl,rfl,rfl,rfl⟩
 split at h
 ·cases h;exact ⟨⟨by show (ByteArray.size ⟨#[]⟩)≤_;decide,by show (ByteArray.size ⟨#[]⟩)≤_;decide,rfl⟩,rfl,rfl,rfl,rfl,rfl,rfl,rfl⟩
 unfold numS at h
 split at h
 ·rename_i he
  cases h
  refine ⟨⟨by show (ByteArray.size ⟨#[]⟩)≤_;decide,?_,rfl⟩,rfl,rfl,rfl,rfl,rfl,rfl,rfl⟩
  obtain ⟨⟨b,d,x,E⟩,hp⟩:∃ p,parseF (bl s)=p:=⟨_,rfl⟩
  rw [hp] at he ⊢
  simp only at he
  subst he
  have:=isN_len (parseF_isN hp)
  simp only [evNum]
  omega
 split at h
 ·unfold passS at h
  split at h
  ·cases h
  ·cases h;exact ⟨z1,rfl,rfl,rfl,rfl,rfl,rfl,rfl⟩
 ·cases h
end
theorem new_r (w:World) (gu:Ut.Gu w) (h8:8≤w.heap.size):Calls Tryz.prog 16 #[] w fun e w'=>∃ r g m,e=.returned (.pointer (some ⟨r,0,none⟩))∧RM w' r g m st0∧Below w.heap.size w w'∧g.lo=w.heap.size∧m.told=.slice none 0 0:=by
 have CN:=hide (fun w=>cnew_any w)
 have TN:=hide (fun w=>tnew_any w)
 go_enter Tryz.func16, Tryz.ntmps16
 go_wp2_with (first
  | (go_at_call 28;refine (CN.out _).mono ?_;rintro e w1 ⟨rfl,hp1,hp2⟩;have P0:=hide hp1;have P1:=hide hp2;clear hp1 hp2)
  | (go_at_call 29;refine (TN.out _).mono ?_;rintro e w2 ⟨rfl,hp2,hp3⟩;have P2:=hide hp2;have P3:=hide hp3;clear hp2 hp3))
 go_ret
 have z1:=P1.out.size
 have z2:=P3.out.size
 have k0:=P0.out.lt
 have k2:=P2.out.lt
 have B3:Below w2.heap.size w2 (w2.alloc (.cells (st0.rv ⟨w.heap.size,w1.heap.size,w2.heap.size + 1,w.heap.size⟩ ⟨.slice none 0 0,.slice none 0 0,.slice none 0 0,.slice none 0 0,.slice none 0 0⟩).cells 69)):=below_al (Below.refl _ _)
 have B2:Below w.heap.size w w2:=P1.out.trans (P3.out.mono (by omega))
 refine ⟨w2.heap.size,⟨w.heap.size,w1.heap.size,w2.heap.size + 1,w.heap.size⟩,⟨.slice none 0 0,.slice none 0 0,.slice none 0 0,.slice none 0 0,.slice none 0 0⟩,rfl,?_,B2.trans (B3.mono (by omega)),rfl,rfl⟩
 refine ⟨heap_alloc_new _ _,own_nil _ _,own_nil _ _,(fun k hk=>by (cases hk)),World.ownsRow_nil _ _ _ _,World.ownsRow_nil _ _ _ _,?_,?_,(gu.below B2).below B3,⟨by show w.heap.size≤w2.heap.size;omega,Nat.le_refl _,by show w.heap.size≤w1.heap.size;omega,by show w.heap.size<w2.heap.size + 1;omega,h8⟩,⟨by simp [st0,q0],by simp [st0,q0],Or.inl rfl,by simp [st0,q0]⟩,by simp [st0],by simp [st0],by simp [st0]⟩
 ·refine ⟨.slice none 0 0,[],Ck.new ((P0.out.same (P3.out.block _ k0)).same (B3.block _ (by omega))) (by show w.heap.size<w2.heap.size + 1;omega) (by simp),rfl,by simp,fun p hp=>by simp at hp⟩
 ·exact TyA.new (P2.out.same (B3.block _ k2)) (by show w1.heap.size<w2.heap.size + 1;omega) (by simp)
def Prt (N j:Nat) (p:Pa) (busy:Bool) (es:List Hd):Prop :=
 ∃ (n:Nat) (h:Hd) (l:List (VT n)),j + (n + 1)=N∧h.kind=p.1∧7≤p.1∧p.1≤9∧strip h=zr p.1∧h.names=p.2.2∧(p.1≠8→p.2.2=[])∧(p.1=9→okT h.text=true)∧(p.1=8→Nms p.2.2)∧(∀ y∈l,IsV n y) ∧
  (p.1=8→p.2.2.length=l.length + (if p.2.1 || busy then 1 else 0))∧(p.1=9→l.length=if p.2.1 || busy then 0 else 1)∧(busy=true→p.2.1=false)∧(p.1=7→p.2.1=false) ∧
  es=hd0 h :: (kids n h l l.length++(if p.2.1 || busy then preN h l.length else []))
def Rep (N:Nat):List Pa→Bool→List Hd→Prop
 | [],_,es=>es=[]
 | p :: r,busy,es=>∃ es0 e1,es=es0++e1∧Rep N r true es0∧Prt N r.length p busy e1
def Inv (N:Nat) (st:List Pa) (bg:Bool) (es:List Hd):Prop :=
 (st=[]∧bg=false∧es=[])∨(st=[]∧bg=true∧∃ x:VT N,IsV N x∧es=fl N x)∨(st≠[]∧bg=true∧Rep N st false es)
theorem kids_same (n:Nat) (h h':Hd) (l l':List (VT n)) (k:Nat) (hk:h'.kind=h.kind) (hn:∀ i,i<k→h'.names[i]?=h.names[i]?) (hl:∀ i,i<k→l'[i]?=l[i]?):kids n h' l' k=kids n h l k:=by
 unfold kids
 congr 1
 refine List.map_congr_left fun i hi=>?_
 have hi':i<k:=List.mem_range.1 hi
 unfold kid preN
 rw [hk,hn i hi',hl i hi']
theorem child_done (N:Nat) (r:List Pa) (es0:List Hd) (n:Nat) (c:VT n) (hn:r.length + n=N) (hc:IsV n c) (hr:Rep N r true es0):Inv N r true (es0++fl n c):=by
 cases r with
 | nil =>
  have e:es0=[]:=hr
  have hn':n=N:=by simpa using hn
  subst hn'
  rw [e]
  exact Or.inr (Or.inl ⟨rfl,rfl,c,hc,rfl⟩)
 | cons p r =>
  obtain ⟨a,e1,rfl,hr',m,h,l,q1,q2,q3,q4,q5,q6,q7,q8,q9,q10,q11,q12,q13,q14,rfl⟩:=hr
  have hm:m=n:=by simp at hn;omega
  subst hm
  have hw:=q13 rfl
  simp only [hw,Bool.false_or,if_true,Bool.or_true] at q11 q12 ⊢
  refine Or.inr (Or.inr ⟨by simp,rfl,a,(hd0 h :: (kids m h l l.length++preN h l.length))++fl m c,by simp,hr',m,h,l++[c],q1,q2,q3,q4,q5,q6,q7,q8,q9,?_,?_,?_,fun e=>(by cases e),q14,?_⟩)
  ·intro y hy
   rcases List.mem_append.1 hy with q|q
   ·exact q10 y q
   ·rw [List.mem_singleton.1 q];exact hc
  ·intro e;rw [q11 e,hw];simp
  ·intro e;rw [hw];simp [q12 e]
  ·rw [hw]
   simp only [List.length_append,List.length_cons,List.length_nil,Nat.zero_add,Bool.or_self,if_false,List.append_nil,List.cons_append,List.append_assoc]
   congr 1
   rw [kids_succ m h (l++[c]) l.length (by simp),kids_same m h h l (l++[c]) l.length rfl (fun _ _=>rfl) (fun i hi=>by rw [List.getElem?_append_left hi])]
   simp
theorem to_busy {N:Nat} {k:Int} {w:Bool} {ns:List ByteArray} {r:List Pa} {es:List Hd} (h:Rep N ((k,w,ns) :: r) false es) (hw:w=true∨k=7):Rep N ((k,false,ns) :: r) true es:=by
 obtain ⟨a,e1,rfl,hr',n,h,l,q1,q2,q3,q4,q5,q6,q7,q8,q9,q10,q11,q12,q13,q14,rfl⟩:=h
 refine ⟨a,_,rfl,hr',n,h,l,q1,q2,q3,q4,q5,q6,q7,q8,q9,q10,?_,?_,fun _=>rfl,fun _=>rfl,?_⟩
 ·intro e
  rcases hw with rfl|e7
  ·simpa using q11 e
  ·have:k=8:=e;omega
 ·intro e
  rcases hw with rfl|e7
  ·simpa using q12 e
  ·have:k=9:=e;omega
 ·rcases hw with rfl|e7
  ·simp
  ·have hp:preN h l.length=[]:=by unfold preN;rw [if_neg (by rw [q2];show k≠8;omega)]
   have:w=false:=q14 e7
   simp [this,hp]
theorem val_busy {N:Nat} {st st':List Pa} {bg bg':Bool} {es:List Hd} (h:Inv N st bg es) (hv:valE st bg=some (st',bg')):bg'=true∧Rep N st' true es∧st'.length=st.length:=by
 cases st with
 | nil =>
  cases bg with
  | true=>cases hv
  | false =>
   cases hv
   rcases h with ⟨_,_,rfl⟩|⟨_,e,_⟩|⟨e,_⟩
   ·exact ⟨rfl,rfl,rfl⟩
   ·cases e
   ·exact absurd rfl e
 | cons p r =>
  obtain ⟨k,w,ns⟩:=p
  rcases h with ⟨e,_⟩|⟨e,_⟩|⟨_,hb,hr⟩
  ·cases e
  ·cases e
  ·have hv2:(if w=true∨k=7 then some ((k,false,ns) :: r,bg) else none)=some (st',bg'):=hv
   by_cases hw:w=true∨k=7
   ·rw [if_pos hw] at hv2
    cases hv2
    exact ⟨hb,to_busy hr hw,rfl⟩
   ·rw [if_neg hw] at hv2
    cases hv2
theorem may_fields {h:Hd} (hm:May h):(if h.kind=9∨h.kind=10 then ({h with kind:=9}:Hd) else if h.kind=11 then {h with kind:=1} else h).names=[]∧sB (if h.kind=9∨h.kind=10 then {h with kind:=9} else if h.kind=11 then {h with kind:=1} else h)=true:=by
 have:=(mayB_iff h).2 hm
 unfold mayB at this
 exact ⟨((sB_iff _).1 this).2.2.2.1,this⟩
theorem may_10 {h:Hd} (hm:May h) (hk:h.kind=10):h=evN h.text∧okT h.text=true:=by
 have:=(may_fields hm).2
 rw [if_pos (Or.inr hk)] at this
 obtain ⟨_,_,h3,h4,_,_,h7⟩:=(sB_iff _).1 this
 obtain ⟨kd,f,ng,dg,ex,bt,tx,nm⟩:=h
 simp only at hk h4
 subst hk h4
 unfold strip zr at h3
 simp at h3
 obtain ⟨rfl,rfl,rfl,rfl,rfl⟩:=h3
 exact ⟨rfl,h7 rfl⟩
theorem may_11 {h:Hd} (hm:May h) (hk:h.kind=11):h=evE:=by
 have:=(may_fields hm).2
 rw [if_neg (by omega),if_pos hk] at this
 obtain ⟨_,_,h3,h4,_,_,h7⟩:=(sB_iff _).1 this
 obtain ⟨kd,f,ng,dg,ex,bt,tx,nm⟩:=h
 simp only at hk h4
 subst hk h4
 unfold strip zr at h3
 simp at h3
 obtain ⟨rfl,rfl,rfl,rfl,rfl,rfl⟩:=h3
 rfl
theorem may_val {h:Hd} (hm:May h) (h10:h.kind≠10) (h11:h.kind≠11):1≤h.kind∧h.kind≤9∧strip h=zr h.kind∧h.names=[]∧(h.kind=3→isN h.neg h.dig h.exp=true)∧(h.kind=5→okT h.text=true)∧(h.kind=9→okT h.text=true):=by
 have:=(may_fields hm).2
 by_cases h9:h.kind=9
 ·rw [if_pos (Or.inl h9)] at this
  have e:({h with kind:=9}:Hd)=h:=by cases h;simp at h9;subst h9;rfl
  rw [e] at this
  exact (sB_iff _).1 this
 ·rw [if_neg (by omega),if_neg h11] at this
  exact (sB_iff _).1 this
theorem hd0_id {h:Hd} (hn:h.names=[]):hd0 h=h:=by
 obtain ⟨kd,f,ng,dg,ex,bt,tx,nm⟩:=h
 simp only at hn
 subst hn
 rfl
theorem inv_step {N:Nat} {st st':List Pa} {bg bg':Bool} {es:List Hd} {h:Hd} (hN:st.length<N) (hI:Inv N st bg es) (hm:May h) (hs:stepE st bg h=some (st',bg')):Inv N st' bg' (es++[h])∧st'.length≤st.length + 1:=by
 by_cases h10:h.kind=10
 ·obtain ⟨he,hok⟩:=may_10 hm h10
  unfold stepE at hs
  rw [if_pos h10] at hs
  cases st with
  | nil=>cases hs
  | cons p r =>
   obtain ⟨k,w,ns⟩:=p
   by_cases hc:k=8∧w=false∧inN ns h.text=false
   ·have hs2:some ((8,true,ns++[h.text]) :: r,bg)=some (st',bg'):=by
     have:=hs
     simp only [if_pos hc] at this
     exact this
    cases hs2
    obtain ⟨rfl,rfl,hnot⟩:=hc
    rcases hI with ⟨e,_⟩|⟨e,_⟩|⟨_,hb,a,e1,rfl,hr',n,hh,l,q1,q2,q3,q4,q5,q6,q7,q8,q9,q10,q11,q12,q13,q14,rfl⟩
    ·cases e
    ·cases e
    ·have hlen:ns.length=l.length:=by have:=q11 rfl;simpa using this
     have q6':hh.names=ns:=q6
     have hk8:hh.kind=8:=q2
     have hmem:h.text ∉ ns:=fun hin=>by rw [(inN_iff ns h.text).2 hin] at hnot;cases hnot
     obtain ⟨hn1,hn2⟩:=q9 rfl
     refine ⟨Or.inr (Or.inr ⟨by simp,hb,a,_,List.append_assoc _ _ _,hr',n,{hh with names:=ns++[h.text]},l,q1,q2,q3,q4,?_,rfl,fun e=>absurd rfl e,fun e=>(by cases e),fun _=>⟨?_,?_⟩,q10,?_,fun e=>(by cases e),fun e=>(by cases e),fun e=>(by cases e),?_⟩),by simp⟩
     ·have q5':strip hh=zr 8:=q5
      unfold strip zr at q5' ⊢
      simp [hk8] at q5' ⊢
      exact q5'
     ·intro s hs'
      rcases List.mem_append.1 hs' with q|q
      ·exact hn1 s q
      ·rw [List.mem_singleton.1 q];exact hok
     ·rw [List.nodup_append]
      exact ⟨hn2,by simp,fun x hx y hy=>by rw [List.mem_singleton.1 hy];rintro rfl;exact hmem hx⟩
     ·intro _;simp [hlen]
     ·have hk1:kids n {hh with names:=ns++[h.text]} l l.length=kids n hh l l.length:=kids_same n hh _ l l l.length rfl (fun i hi=>by show (ns++[h.text])[i]?=hh.names[i]?;rw [q6',List.getElem?_append_left (by omega)]) (fun _ _=>rfl)
      have hp1:preN {hh with names:=ns++[h.text]} l.length=[h]:=by
       unfold preN
       rw [if_pos hk8]
       show [evN (((ns++[h.text])[l.length]?).getD ByteArray.empty)]=[h]
       rw [←hlen]
       simp [←he]
      simp only [Bool.or_false,Bool.or_self,if_true,Bool.false_eq_true,if_false,List.append_nil,hk1,hp1]
      rfl
   ·simp only [if_neg hc] at hs
    cases hs
 ·by_cases h11:h.kind=11
  ·have he:=may_11 hm h11
   unfold stepE at hs
   rw [if_neg h10,if_pos h11] at hs
   cases st with
   | nil=>cases hs
   | cons p r =>
    obtain ⟨k,w,ns⟩:=p
    cases w with
    | true=>cases hs
    | false =>
     cases hs
     rcases hI with ⟨e,_⟩|⟨e,_⟩|⟨_,hb,a,e1,rfl,hr',n,hh,l,q1,q2,q3,q4,q5,q6,q7,q8,q9,q10,q11,q12,q13,q14,rfl⟩
     ·cases e
     ·cases e
     ·subst hb
      have q2:hh.kind=k:=q2
      have q3:7≤k:=q3
      have q4:k≤9:=q4
      have q5:strip hh=zr k:=q5
      have q6:hh.names=ns:=q6
      have hv:IsV (n + 1) ((hh,l):VT (n + 1)):=by
       refine ⟨⟨by show 1≤hh.kind;omega,by show hh.kind≤9;omega,by show strip hh=zr hh.kind;rw [q2];exact q5,Or.inl (by show 7≤hh.kind;omega)⟩,⟨fun e=>?_,fun e=>?_,fun e=>?_,fun e=>?_⟩,q10⟩
       ·have:hh.kind=3:=e;omega
       ·have:hh.kind=5:=e;omega
       ·have e8:k=8:=q2.symm.trans e
        refine ⟨?_,?_⟩
        ·show hh.names.length=l.length
         rw [q6];have:=q11 e8;simpa using this
        ·show Nms hh.names
         rw [q6];exact q9 e8
       ·have e9:k=9:=q2.symm.trans e
        exact ⟨q8 e9,by have:=q12 e9;simpa using this⟩
      have hfl:fl (n + 1) ((hh,l):VT (n + 1))=hd0 hh :: (kids n hh l l.length++[evE]):=by rw [fl_succ,if_neg (by omega)]
      have hd:=child_done N _ a (n + 1) (hh,l) q1 hv hr'
      rw [hfl] at hd
      refine ⟨?_,by simp;omega⟩
      rw [he]
      simpa using hd
  ·obtain ⟨m1,m2,m3,m4,m5,m6,m7⟩:=may_val hm h10 h11
   unfold stepE at hs
   rw [if_neg h10,if_neg h11] at hs
   cases hv:valE st bg with
   | none=>rw [hv] at hs;cases hs
   | some x =>
    obtain ⟨s1,b1⟩:=x
    rw [hv] at hs
    have hs2:some (newE h.kind++s1,b1)=some (st',bg'):=hs
    cases hs2
    obtain ⟨hb,hrep,hlen⟩:=val_busy hI hv
    subst hb
    obtain ⟨n,hn⟩:∃ n,s1.length + (n + 1)=N:=⟨N - s1.length - 1,by omega⟩
    by_cases h7:h.kind<7
    ·have hnew:newE h.kind=[]:=by unfold newE;rw [if_neg (by omega),if_neg (by omega),if_neg (by omega)]
     rw [hnew]
     have hv2:IsV (n + 1) ((h,[]):VT (n + 1)):=⟨⟨m1,m2,m3,Or.inr rfl⟩,⟨m5,m6,fun e=>(by have:h.kind=8:=e;omega),fun e=>(by have:h.kind=9:=e;omega)⟩,fun y hy=>(by cases hy)⟩
     have hd:=child_done N s1 es (n + 1) (h,[]) hn hv2 hrep
     rw [fl_succ,if_pos h7,hd0_id m4] at hd
     exact ⟨hd,by simp;omega⟩
    ·have hk:h.kind=7∨h.kind=8∨h.kind=9:=by omega
     have hnew:newE h.kind=[(h.kind,decide (h.kind=9),[])]:=by
      rcases hk with e|e|e <;> rw [e] <;> rfl
     rw [hnew]
     refine ⟨Or.inr (Or.inr ⟨by simp,rfl,es,[h],rfl,hrep,n,h,[],hn,rfl,by show 7≤h.kind;omega,m2,m3,m4,fun _=>rfl,m7,fun _=>⟨fun s hs'=>(by cases hs'),List.nodup_nil⟩,fun y hy=>(by cases hy),?_,?_,fun e=>(by cases e),?_,?_⟩),by simp;omega⟩
     ·intro e
      have e8:h.kind=8:=e
      simp [e8]
     ·intro e
      have e9:h.kind=9:=e
      simp [e9]
     ·intro e
      have e7:h.kind=7:=e
      simp [e7]
     ·have hp:(if (decide (h.kind=9) || false)=true then preN h 0 else [])=[]:=by
       by_cases e9:h.kind=9
       ·simp only [e9,decide_true,Bool.true_or,if_true]
        unfold preN
        rw [if_neg (by omega)]
       ·simp [e9]
      show [h]=hd0 h :: (kids n h [] 0++(if (decide (h.kind=9) || false)=true then preN h 0 else []))
      rw [hp,kids_zero,hd0_id m4]
      rfl
theorem run_inv (N:Nat):∀ (k:Nat) (es:List Hd),es.length=k→k≤N→∀ (st:List Pa) (bg:Bool),runE es=some (st,bg)→Inv N st bg es∧st.length≤es.length:=by
 intro k
 induction k with
 | zero =>
  intro es hl _ st bg hr
  have e:es=[]:=List.eq_nil_of_length_eq_zero hl
  subst e
  have:some (([]:List Pa),false)=some (st,bg):=hr
  cases this
  exact ⟨Or.inl ⟨rfl,rfl,rfl⟩,by simp⟩
 | succ k ih =>
  intro es hl hN st bg hr
  rcases List.eq_nil_or_concat es with rfl|⟨p,h,rfl⟩
  ·cases hl
  ·rw [List.concat_eq_append] at hl hr ⊢
   have hp:p.length=k:=by simpa using hl
   have hr2:feedE (runE p) (mayB h) h=some (st,bg):=by
    unfold runE at hr ⊢
    rw [runS_app] at hr
    exact hr
   cases hq:runE p with
   | none=>rw [hq,feedE_none] at hr2;cases hr2
   | some x =>
    obtain ⟨s0,b0⟩:=x
    rw [hq] at hr2
    cases hmb:mayB h with
    | false=>rw [hmb] at hr2;cases hr2
    | true =>
     have hm:=(mayB_iff h).1 hmb
     rw [feedE_ok hm] at hr2
     obtain ⟨h1,h2⟩:=ih p hp (by omega) s0 b0 hq
     obtain ⟨h3,h4⟩:=inv_step (by omega) h1 hm hr2
     exact ⟨h3,by simp;omega⟩
theorem parse (es:List Hd) (hd:runE es=some ([],true)):∃ x:VT es.length,IsV es.length x∧es=fl es.length x:=by
 obtain ⟨h,_⟩:=run_inv es.length es.length es rfl (Nat.le_refl _) [] true hd
 rcases h with ⟨_,e,_⟩|⟨_,_,x,h1,h2⟩|⟨e,_⟩
 ·cases e
 ·exact ⟨x,h1,h2⟩
 ·exact absurd rfl e
end Go.Proofs.YtpimjkdakjhoaaaGreatDoor
