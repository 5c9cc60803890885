/- Merged by program: YhHex, DgNum. -/
import Derived.Test.YthodiandebahdaaGreatDoorZy25
import Derived.Deep.OwnRows
namespace Go.Proofs.YthodiandebahdaaGreatDoor
open Go.RowKit
set_option linter.unusedSimpArgs false
set_option linter.unusedVariables false
set_option maxHeartbeats 8000000
def hxE:ByteArray:=⟨#[48,49,50,51,52,53,54,55,56,57,97,98,99,100,101,102]⟩
set_option maxRecDepth 100000 in
theorem hx_idx_n:∀ n,n<256→firstIdx hxE n.toUInt8=(match hxD n.toUInt8 with|none=>-1|some i=>(i.val:Int)):=by decide +kernel
theorem hx_idx (c:UInt8):firstIdx hxE ((c.toNat:Int).toNat.toUInt8)=(match hxD c with|none=>-1|some i=>(i.val:Int)):=by
 have h:=hx_idx_n c.toNat c.toNat_lt
 have e:c.toNat.toUInt8=c:=by simp
 rw [Int.toNat_natCast,h,e]
theorem or16 (n d:Nat) (hn:n<65536) (hd:d<16):bits .or .i64 ((n:Int) * 16) (d:Int)=((n * 16 + d:Nat):Int):=by
 have hx:n * 16 ||| d=n * 16 + d:=nat_join 4 _ _ (Nat.mul_mod_left _ _) hd
 have e:(n:Int) * 16=((n * 16:Nat):Int):=by omega
 rw [e]
 show IntKind.i64.wrap ((BitVec.ofInt 64 ((n * 16:Nat):Int) ||| BitVec.ofInt 64 (d:Int)).toNat:Int)=_
 rw [BitVec.toNat_or,BitVec.ofInt_natCast,BitVec.ofInt_natCast,BitVec.toNat_ofNat,BitVec.toNat_ofNat,Nat.mod_eq_of_lt (by omega:n * 16<2 ^ 64),Nat.mod_eq_of_lt (by omega:d<2 ^ 64),hx,IntKind.wrap_i64] <;> omega
theorem made_b (n:Nat):madeCells #[.int .u8 0] n=((List.replicate n 0).map fun v:Nat=>Value.int .u8 (v:Int)).toArray:=by
 apply Array.toList_inj.1
 rw [toList_madeCells_one]
 simp
def hxP (l:List UInt8):Nat→Option (List Nat)
 | 0=>some []
 | k + 1=>match hxP l k,l[2 * k]?,l[2 * k + 1]? with
  | some t,some a,some b=>match hxD a,hxD b with
   | some x,some y=>some (t++[x.val * 16 + y.val])
   | _,_=>none
  | _,_,_=>none
theorem hxP_len (l:List UInt8):∀ k t,hxP l k=some t→t.length=k
 | 0,t,h=>by simp [hxP] at h;subst h;rfl
 | k + 1,t,h=>by
  unfold hxP at h
  split at h
  ·rename_i t0 a b h0 ha hb
   split at h
   ·cases h;rw [List.length_append,hxP_len l k t0 h0];rfl
   ·cases h
  ·cases h
theorem hxP_lt (l:List UInt8):∀ k t,hxP l k=some t→∀ x∈t,x<256
 | 0,t,h=>by simp [hxP] at h;subst h;intro x hx;simp at hx
 | k + 1,t,h=>by
  unfold hxP at h
  split at h
  ·rename_i t0 a b h0 ha hb
   split at h
   ·rename_i x y _ _
    cases h
    intro z hz
    rcases List.mem_append.1 hz with q|q
    ·exact hxP_lt l k t0 h0 z q
    ·simp at q;have:=x.isLt;have:=y.isLt;omega
   ·cases h
  ·cases h
theorem hxP_cons (a b:UInt8) (l:List UInt8):∀ k,hxP (a :: b :: l) (k + 1)=match hxD a,hxD b,hxP l k with
  | some x,some y,some t=>some ((x.val * 16 + y.val) :: t)
  | _,_,_=>none
 | 0=>by
  simp only [hxP,Nat.mul_zero,List.getElem?_cons_zero,Nat.zero_add,List.getElem?_cons_succ]
  cases hxD a <;> cases hxD b <;> rfl
 | k + 1=>by
  have e1:(a :: b :: l)[2 * (k + 1)]?=l[2 * k]?:=by
   rw [show 2 * (k + 1)=2 * k + 1 + 1 by omega,List.getElem?_cons_succ,List.getElem?_cons_succ]
  have e2:(a :: b :: l)[2 * (k + 1) + 1]?=l[2 * k + 1]?:=by
   rw [show 2 * (k + 1) + 1=2 * k + 1 + 1 + 1 by omega,List.getElem?_cons_succ,List.getElem?_cons_succ]
  rw [hxP,hxP_cons a b l k,e1,e2]
  conv=>rhs;rw [hxP]
  cases hxD a with
  | none=>rfl
  | some x =>
   cases hxD b with
   | none=>rfl
   | some y =>
    cases hxP l k with
    | none=>rfl
    | some t =>
     simp only
     cases l[2 * k]? with
     | none=>rfl
     | some c =>
      cases l[2 * k + 1]? with
      | none=>rfl
      | some d =>
       simp only
       cases hxD c with
       | none=>rfl
       | some u=>cases hxD d <;> rfl
theorem hx2_P:∀ (n:Nat) (l:List UInt8),l.length=2 * n→hx2 l=(hxP l n).map fun t=>t.map UInt8.ofNat
 | 0,l,h=>by
  cases l with
  | nil=>rfl
  | cons a l=>simp at h
 | n + 1,l,h=>by
  match l,h with
  | a :: b :: l,h =>
   rw [hxP_cons,hx2,hx2_P n l (by simp at h;omega)]
   cases hxD a with
   | none=>rfl
   | some x =>
    cases hxD b with
    | none=>rfl
    | some y=>cases hxP l n <;> rfl
theorem hx2_odd:∀ (n:Nat) (l:List UInt8),l.length=2 * n + 1→hx2 l=none
 | 0,l,h=>by
  match l,h with
  | [a],_=>rfl
 | n + 1,l,h=>by
  match l,h with
  | a :: b :: l,h =>
   rw [hx2,hx2_odd n l (by simp at h;omega)]
   cases hxD a <;> cases hxD b <;> rfl
theorem hxP_none (l:List UInt8) (k:Nat) (h:hxP l k=none):∀ d,hxP l (k + d)=none
 | 0=>h
 | d + 1=>by
  rw [←Nat.add_assoc,hxP,hxP_none l k h d]
theorem or16b (x y:Fin 16):bits .or .i64 ((x.val:Int) * 16) (y.val:Int)=((x.val * 16 + y.val:Nat):Int):=or16 x.val y.val (by omega) y.isLt
def uxR (s:ByteArray):Ending:=match hx2 (bl s) with
 | none=>.returned (.tuple #[.string ⟨#[]⟩,.bool false])
 | some l=>.returned (.tuple #[.string (mkB l),.bool true])
def hdR (c:UInt8):Ending:=match hxD c with
 | none=>.returned (.tuple #[.int .i64 0,.bool false])
 | some d=>.returned (.tuple #[.int .i64 (d.val:Int),.bool true])
theorem hdig_q (c:UInt8) (w:World):Calls Tryz.prog 180 #[.int .u8 c.toNat] w fun e w'=>e=hdR c∧w'=w:=by
 have IB:=hide (sib_any hxE c.toNat w)
 rw [hx_idx] at IB
 unfold hdR
 cases hc:hxD c with
 | none =>
  rw [hc] at IB
  clear hc
  simp only [hxE] at IB
  go_enter Tryz.func180, Tryz.ntmps180
  go_wp2_with (go_at_call 62;refine IB.out.mono ?_;rintro e w1 ⟨rfl,hw1⟩;have hws:=hw1.symm;clear hw1;subst hws)
  exact bodyPost_ret (v:=.tuple #[.int .i64 0,.bool false]) (by simp [results,Tryz.results180,go_sem];first|done|decide) rfl ⟨rfl,rfl⟩
 | some d =>
  rw [hc] at IB
  clear hc
  simp only [hxE] at IB ⊢
  obtain ⟨n,hn⟩:∃ n:Nat,d.val=n:=⟨_,rfl⟩
  have hd:=d.isLt
  rw [hn] at IB hd ⊢
  clear hn
  go_enter Tryz.func180, Tryz.ntmps180
  go_wp2_with (go_at_call 62;refine IB.out.mono ?_;rintro e w1 ⟨rfl,hw1⟩;have hws:=hw1.symm;clear hw1;subst hws)
  exact bodyPost_ret (v:=.tuple #[.int .i64 (n:Int),.bool true]) (by simp [results,Tryz.results180,go_sem];first|done|omega) rfl ⟨rfl,rfl⟩
set_option maxRecDepth 20000 in
theorem hexB_q (s:ByteArray) (w:World) (hs:s.size≤100000):Calls Tryz.prog 151 #[.string s] w fun e w'=>e=uxR s∧Below w.heap.size w w':=by
 have ml:maxLen=9223372036854775807:=rfl
 obtain ⟨n,hn⟩:∃ n,s.size=2 * n∨s.size=2 * n + 1:=⟨s.size / 2,by omega⟩
 rcases hn with hn|hn
 ·have hr:Hid (∀ o,hxP (bl s) n=o→uxR s=match o with|none=>.returned (.tuple #[.string ⟨#[]⟩,.bool false])|some t=>.returned (.tuple #[.string (mkB (t.map UInt8.ofNat)),.bool true])):=by
   intro o ho
   unfold uxR
   rw [hx2_P n (bl s) (by rw [bl_length];exact hn),ho]
   cases o <;> rfl
  have e2:Int.tmod (s.size:Int) 2=0:=by rw [hn,Int.tmod_eq_emod_of_nonneg (by omega)];omega
  have e3:Int.tdiv (s.size:Int) 2=(n:Int):=by rw [hn,Int.tdiv_eq_ediv_of_nonneg (by omega)];omega
  have hmk:=fun w=>run_make_row' (P:=Tryz.prog) 32 5 (.int .u8 0) 1 Tryz.underlying32 info5 rfl .i64 .i64 n (by omega) (by omega) w
  have hn':=hide hn
  have hsz:∀ k,k<n→2 * k<s.size∧2 * k + 1<s.size:=fun k hk=>by omega
  have hsz':=hide hsz
  have hnb:n≤50000:=by omega
  have hsN:Hid ((s.size:Int)=2 * n):=(by omega:(s.size:Int)=2 * n)
  clear hn hs hsz
  go_enter Tryz.func151, Tryz.ntmps151
  go_wp2
  go_loopw [20] (fun i wr=>∃ (k:Nat) (t:List Nat),k≤n∧i=.int .i64 k∧Hid (hxP (bl s) k=some t)∧Hid (Arr wr w.heap.size 5 (t++List.replicate (n - k) 0))∧Hid (Below w.heap.size w wr)) (fun i _=>n - (intOf i).toNat)
  case atStart =>
   refine ⟨0,[],by omega,rfl,rfl,?_,below_al (Below.refl _ _)⟩
   exact arr_new w 5 n _ (made_b n)
  case round =>
   obtain ⟨k,t,hk,rfl,hT,hA,hB⟩:=hrel
   by_cases hlt:k<n
   ·obtain ⟨hs1,hs2⟩:=hsz'.out k hlt
    have hg1:=hide (show (bl s)[2 * k]?=some s[2 * k] by rw [List.getElem?_eq_getElem (by rw [bl_length];exact hs1),bl_get s _ hs1])
    have hg2:=hide (show (bl s)[2 * k + 1]?=some s[2 * k + 1] by rw [List.getElem?_eq_getElem (by rw [bl_length];exact hs2),bl_get s _ hs2])
    have hlt':(k:Int)<n:=by omega
    have ht1:(2 * (k:Int)).toNat=2 * k:=by omega
    have ht2:(2 * (k:Int) + 1).toNat=2 * k + 1:=by omega
    have hw1:IntKind.i64.wrap (2 * (k:Int))=2 * (k:Int):=by rw [IntKind.wrap_i64] <;> omega
    have hw2:IntKind.i64.wrap (2 * (k:Int) + 1)=2 * (k:Int) + 1:=by rw [IntKind.wrap_i64] <;> omega
    have hi1:2 * (k:Int)<s.size:=by omega
    have hi2:2 * (k:Int) + 1<s.size:=by omega
    obtain ⟨a,ha⟩:∃ a,s[2 * k]=a:=⟨_,rfl⟩
    obtain ⟨b,hb⟩:∃ b,s[2 * k + 1]=b:=⟨_,rfl⟩
    rw [ha] at hg1
    rw [hb] at hg2
    have hA1:=fun (nq:Nat)=>(show Arr (wr.drewN nq) w.heap.size 5 (t++List.replicate (n - k) 0) from hA.out)
    have htl:=hxP_len _ _ _ hT.out
    cases hxa:hxD a with
    | none =>
     have hno:Hid (hxP (bl s) n=none):=by
      have:=hxP_none (bl s) (k + 1) (by rw [hxP,hT.out,hg1.out,hg2.out];simp only [hxa]) (n - (k + 1))
      rw [show k + 1 + (n - (k + 1))=n by omega] at this
      exact this
     obtain ⟨xb,bb,RB⟩:∃ (xb:Int) (bb:Bool),Hid (hdR b=.returned (.tuple #[.int .i64 xb,.bool bb])):=by
      cases hq:hxD b with
      | none=>exact ⟨0,false,by show _=_;unfold hdR;rw [hq]⟩
      | some y=>exact ⟨(y.val:Int),true,by show _=_;unfold hdR;rw [hq]⟩
     have RA:Hid (hdR a=.returned (.tuple #[.int .i64 0,.bool false])):=by show _=_;unfold hdR;rw [hxa]
     clear hA1 hxa
     go_wp2_with (go_at_call 180;refine (hdig_q _ _).mono ?_;rintro e w1 ⟨he,hw1⟩;(first|rw [RA.out] at he|rw [RB.out] at he);subst he;have hws:=hw1.symm;clear hw1;subst hws)
     exact bodyPost_ret (v:=.tuple #[.string ⟨#[]⟩,.bool false]) (by simp [results,Tryz.results151,go_sem]) rfl ⟨by rw [hr.out none hno.out],hB.out.trans ⟨rfl,rfl,rfl,Nat.le_refl _,fun _ _=>rfl⟩⟩
    | some x =>
     have RA:Hid (hdR a=.returned (.tuple #[.int .i64 (x.val:Int),.bool true])):=by show _=_;unfold hdR;rw [hxa]
     have hx0:decide ((x.val:Int)<0)=false:=by simp
     cases hxb:hxD b with
     | none =>
      have RB:Hid (hdR b=.returned (.tuple #[.int .i64 0,.bool false])):=by show _=_;unfold hdR;rw [hxb]
      have hno:Hid (hxP (bl s) n=none):=by
       have:=hxP_none (bl s) (k + 1) (by rw [hxP,hT.out,hg1.out,hg2.out];simp only [hxa,hxb]) (n - (k + 1))
       rw [show k + 1 + (n - (k + 1))=n by omega] at this
       exact this
      clear hA1 hxa hxb
      go_wp2_with (go_at_call 180;refine (hdig_q _ _).mono ?_;rintro e w1 ⟨he,hw1⟩;(first|rw [RA.out] at he|rw [RB.out] at he);subst he;have hws:=hw1.symm;clear hw1;subst hws)
      exact bodyPost_ret (v:=.tuple #[.string ⟨#[]⟩,.bool false]) (by simp [results,Tryz.results151,go_sem]) rfl ⟨by rw [hr.out none hno.out],hB.out.trans ⟨rfl,rfl,rfl,Nat.le_refl _,fun _ _=>rfl⟩⟩
     | some y =>
      have RB:Hid (hdR b=.returned (.tuple #[.int .i64 (y.val:Int),.bool true])):=by show _=_;unfold hdR;rw [hxb]
      have hy0:decide ((y.val:Int)<0)=false:=by simp
      have hor:=or16b x y
      have hst:Hid (hxP (bl s) (k + 1)=some (t++[x.val * 16 + y.val])):=by
       show _=_
       rw [hxP,hT.out,hg1.out,hg2.out];simp only [hxa,hxb]
      have hxl:=x.isLt
      have hyl:=y.isLt
      obtain ⟨v,hv⟩:∃ v,x.val * 16 + y.val=v:=⟨_,rfl⟩
      rw [hv] at hor hst
      have hv8:IntKind.u8.wrap (v:Int)=(v:Int):=by rw [IntKind.wrap_u8] <;> omega
      have hcl:∀ nq,(wr.drewN nq).cell? ⟨w.heap.size,k,none⟩=some (.int .u8 0):=fun nq=>by
       have:=(hA1 nq).cell k (by rw [List.length_append,htl,List.length_replicate];omega)
       rw [this,List.getElem_append_right (by omega),List.getElem_replicate]
       rfl
      have hfz:∀ nq,(wr.drewN nq).frozen? ⟨w.heap.size,k,none⟩=false:=fun nq=>(hA1 nq).frozen k
      have hset:Hid (∀ nq,Arr ((wr.drewN nq).setCell ⟨w.heap.size,k,none⟩ (.int .u8 (v:Int))) w.heap.size 5 ((t++[v])++List.replicate (n - (k + 1)) 0)):=fun nq=>by
       have:=(hA1 nq).set k v
       rw [List.set_append_right _ _ (by omega),htl,Nat.sub_self,show n - k=(n - (k + 1)) + 1 by omega,List.replicate_succ,List.set_cons_zero] at this
       rw [List.append_assoc]
       exact this
      have hx16:IntKind.i64.wrap ((x.val:Int) * 16)=(x.val:Int) * 16:=by rw [IntKind.wrap_i64] <;> omega
      have hcl0:wr.cell? ⟨w.heap.size,k,none⟩=some (.int .u8 0):=hcl 0
      have hfz0:wr.frozen? ⟨w.heap.size,k,none⟩=false:=hfz 0
      clear hA1 hxa hxb hv hcl hfz
      go_wp2_with (go_at_call 180;refine (hdig_q _ _).mono ?_;rintro e w1 ⟨he,hw1⟩;(first|rw [RA.out] at he|rw [RB.out] at he);subst he;have hws:=hw1.symm;clear hw1;subst hws)
      refine ⟨⟨k + 1,t++[v],by omega,by go_num,hst.out,hset.out 0,?_⟩,by simp [intOf];omega⟩
      exact hB.out.setCell (p:=⟨w.heap.size,k,none⟩) (Nat.le_refl _) _
   ·have hke:k=n:=by omega
    subst hke
    have htl:=hxP_len _ _ _ hT.out
    have hcv:(convert 32 9 (.slice (some ⟨w.heap.size,0,none⟩) k k)).run Tryz.prog wr=.ok (.string (mkB (t.map UInt8.ofNat))) wr:=by
     have:=run_convert_bytes_back (P:=Tryz.prog) wr 32 9 5 ⟨w.heap.size,0,none⟩ k (t.map UInt8.ofNat) Tryz.underlying32 Tryz.underlying5 Tryz.underlying9 (fun j hj=>by
      rw [List.length_map] at hj
      have hc:=hA.out.cell j (by rw [List.length_append];omega)
      rw [show (⟨w.heap.size,0,none⟩:Addr).add j=⟨w.heap.size,j,none⟩ by unfold Addr.add;split <;> simp_all,hc,List.getElem_append_left hj,List.getElem_map]
      rw [UInt8.toNat_ofNat_of_lt' (hxP_lt _ _ _ hT.out _ (List.getElem_mem _))])
     rw [List.length_map,htl] at this
     exact this
    go_wp2
    exact bodyPost_ret (v:=.tuple #[.string (mkB (t.map UInt8.ofNat)),.bool true]) (by simp [results,Tryz.results151,go_sem]) rfl ⟨by rw [hr.out (some t) hT.out],hB.out⟩
 ·have hr:Hid (uxR s=.returned (.tuple #[.string ⟨#[]⟩,.bool false])):=by
   show _=_
   unfold uxR
   rw [hx2_odd n (bl s) (by rw [bl_length];exact hn)]
  have e2:Int.tmod (s.size:Int) 2=1:=by rw [hn,Int.tmod_eq_emod_of_nonneg (by omega)];omega
  rw [hr.out]
  clear hn
  go_enter Tryz.func151, Tryz.ntmps151
  go_wp2
  exact bodyPost_ret (v:=.tuple #[.string ⟨#[]⟩,.bool false]) (by simp [results,Tryz.results151,go_sem]) rfl ⟨rfl,Below.refl _ _⟩
theorem evZ0 (k:Int):EvZ (zr k):=⟨by show (ByteArray.size ⟨#[]⟩)≤_;decide,by show (ByteArray.size ⟨#[]⟩)≤_;decide,rfl⟩
theorem zN (s:ByteArray) (h:s.size≤100000):EvZ (evN s):=⟨by show s.size≤_;omega,by show (ByteArray.size ⟨#[]⟩)≤_;decide,rfl⟩
theorem zT (s:ByteArray) (h:s.size≤100000):EvZ (evText s):=⟨by show s.size≤_;omega,by show (ByteArray.size ⟨#[]⟩)≤_;decide,rfl⟩
theorem zB (s:ByteArray) (h:s.size≤100000):EvZ (evBytes s):=⟨by show s.size≤_;omega,by show (ByteArray.size ⟨#[]⟩)≤_;decide,rfl⟩
theorem zK (k:Int) (s:ByteArray) (h:s.size≤100000):EvZ {zr k with text:=s}:=⟨by show s.size≤_;omega,by show (ByteArray.size ⟨#[]⟩)≤_;decide,rfl⟩
theorem zF (b:Nat):EvZ (evFloat b):=⟨by show (ByteArray.size ⟨#[]⟩)≤_;decide,by show (ByteArray.size ⟨#[]⟩)≤_;decide,rfl⟩
theorem zFl (k:Int) (b:Bool):EvZ {zr k with flag:=b}:=⟨by show (ByteArray.size ⟨#[]⟩)≤_;decide,by show (ByteArray.size ⟨#[]⟩)≤_;decide,rfl⟩
section
variable {W W1 W2 : World} {E0 : Int} {g : Tg} {m : Tm} {st : Tl}
theorem TP.base {o:Sum Int Tl} {e:Ending} (h:TM E0 W g m st) (hb:Below W.heap.size W W1) (k:TP E0 W1 g m o e W2):TP E0 W g m o e W2:=TP.trans (TF.of hb h.lo) (OB.refl _ _) k
set_option maxRecDepth 100000 in
theorem tellN_q (h:TM E0 W g m st) (s:ByteArray) (hs:s.size≤100000) (hd:(parseF (bl s)).2.1.size≤100000) (hn:st.n≤199990):Calls Tryz.prog 130 #[.pointer (some ⟨g.t,0,none⟩),.string s] W fun q w'=>TP E0 W g m (tellN E0 st s) q w':=by
 have H:=hide h
 have PA:=hide (fun w=>parse_any s w hs)
 have c0:W.cell? ⟨g.t,0,none⟩=some (.int .i64 E0):=(h.tb.cell 0).trans rfl
 clear h
 unfold tellN
 obtain ⟨⟨b,d,x,E⟩,hp⟩:∃ p,parseF (bl s)=p:=⟨_,rfl⟩
 rw [hp] at PA hd ⊢
 clear hp
 simp only [retF] at PA hd ⊢
 by_cases h0:E=0
 ·subst h0
  rw [if_pos rfl]
  have T:=hide (fun w (hb:Below W.heap.size W w)=>tell_q (H.out.then hb) (evNum (b,d,x,0)) ⟨by show (ByteArray.size ⟨#[]⟩)≤_;decide,by show d.size≤_;omega,rfl⟩ (by omega))
  obtain ⟨o,ho⟩:∃ o,tellT E0 st (evNum (b,d,x,0))=o:=⟨_,rfl⟩
  rw [ho] at T ⊢
  clear ho
  simp only [evs,evNum,zr] at T
  clear c0
  cases o with
  | inl E =>
   go_enter Tryz.func130, Tryz.ntmps130
   go_wp2_with (first|(go_at_call 149;refine (PA.out _).mono ?_;rintro q w1 ⟨rfl,hb1⟩;have B1:Hid (Below W.heap.size W w1):=below_then (by repeat (first|exact Below.refl _ _|refine Below.drew ?_|refine below_al ?_)) hb1;have M1:=hide (H.out.then B1.out);have hz1:g.t<w1.heap.size:=M1.out.lt;have d0:w1.cell? ⟨g.t,0,none⟩=some (.int .i64 E0):=(M1.out.tb.cell 0).trans rfl;clear hb1)|(go_at_call 128;refine (T.out _ (below_then B1.out (by repeat (first|exact Below.refl _ _|refine Below.drew ?_|refine below_al ?_)))).mono ?_;rintro q w2 hp;have K:=hide (TP.base H.out (below_then B1.out (by repeat (first|exact Below.refl _ _|refine Below.drew ?_|refine below_al ?_))) hp);obtain ⟨_,rfl,_⟩:=hp))
   exact ⟨rfl,K.out⟩
  | inr x =>
   go_enter Tryz.func130, Tryz.ntmps130
   go_wp2_with (first|(go_at_call 149;refine (PA.out _).mono ?_;rintro q w1 ⟨rfl,hb1⟩;have B1:Hid (Below W.heap.size W w1):=below_then (by repeat (first|exact Below.refl _ _|refine Below.drew ?_|refine below_al ?_)) hb1;have M1:=hide (H.out.then B1.out);have hz1:g.t<w1.heap.size:=M1.out.lt;have d0:w1.cell? ⟨g.t,0,none⟩=some (.int .i64 E0):=(M1.out.tb.cell 0).trans rfl;clear hb1)|(go_at_call 128;refine (T.out _ (below_then B1.out (by repeat (first|exact Below.refl _ _|refine Below.drew ?_|refine below_al ?_)))).mono ?_;rintro q w2 hp;have K:=hide (TP.base H.out (below_then B1.out (by repeat (first|exact Below.refl _ _|refine Below.drew ?_|refine below_al ?_))) hp);obtain ⟨_,rfl,_⟩:=hp))
   go_end0
   exact K.out
 ·rw [if_neg h0]
  have n0:(E==0)=false:=by simpa using h0
  by_cases h2:E=2
  ·subst h2
   rw [if_pos rfl]
   clear h0 n0
   have P:=hide (fun w (hb:Below W.heap.size W w)=>pass_t (H.out.then hb))
   cases hp:passT st with
   | inl E =>
    rw [hp] at P
    clear hp
    simp only [bnd]
    go_enter Tryz.func130, Tryz.ntmps130
    go_wp2_with (first|(go_at_call 149;refine (PA.out _).mono ?_;rintro q w1 ⟨rfl,hb1⟩;have B1:Hid (Below W.heap.size W w1):=below_then (by repeat (first|exact Below.refl _ _|refine Below.drew ?_|refine below_al ?_)) hb1;have M1:=hide (H.out.then B1.out);have hz1:g.t<w1.heap.size:=M1.out.lt;have d0:w1.cell? ⟨g.t,0,none⟩=some (.int .i64 E0):=(M1.out.tb.cell 0).trans rfl;clear hb1)|(go_at_call 86;refine (P.out _ (below_then B1.out (by repeat (first|exact Below.refl _ _|refine Below.drew ?_|refine below_al ?_)))).mono ?_;rintro q w2 hp;have K:=hide (TP.base H.out (below_then B1.out (by repeat (first|exact Below.refl _ _|refine Below.drew ?_|refine below_al ?_))) hp);obtain ⟨hp1,rfl,hp2⟩:=hp))
    exact ⟨rfl,K.out⟩
   | inr y =>
    have hyn:=passT_n hp
    rw [hp] at P
    clear hp
    simp only [bnd]
    have T:=hide (fun w m1 (h1:TM E0 w g m1 y)=>tell_q h1 (zr 1) (evZ0 1) (by omega))
    obtain ⟨o,ho⟩:∃ o,tellT E0 y (zr 1)=o:=⟨_,rfl⟩
    rw [ho] at T ⊢
    clear ho hyn
    simp only [evs,zr] at T
    cases o with
    | inl E =>
     go_enter Tryz.func130, Tryz.ntmps130
     go_wp2_with (first|(go_at_call 149;refine (PA.out _).mono ?_;rintro q w1 ⟨rfl,hb1⟩;have B1:Hid (Below W.heap.size W w1):=below_then (by repeat (first|exact Below.refl _ _|refine Below.drew ?_|refine below_al ?_)) hb1;have M1:=hide (H.out.then B1.out);have hz1:g.t<w1.heap.size:=M1.out.lt;have d0:w1.cell? ⟨g.t,0,none⟩=some (.int .i64 E0):=(M1.out.tb.cell 0).trans rfl;clear hb1)|(go_at_call 86;refine (P.out _ (below_then B1.out (by repeat (first|exact Below.refl _ _|refine Below.drew ?_|refine below_al ?_)))).mono ?_;rintro q w2 ⟨hp1,rfl,m2,hp2,hp3⟩;have F2:Hid (TF g m W w2):=(TF.of (below_then B1.out (by repeat (first|exact Below.refl _ _|refine Below.drew ?_|refine below_al ?_))) H.out.lo).trans (OB.refl _ _) hp1;have M2:=hide hp2;have O2:Hid (OB W m.told m2.told):=(OB.refl _ _).trans hp3 (show Below W.heap.size W _ from (below_then B1.out (by repeat (first|exact Below.refl _ _|refine Below.drew ?_|refine below_al ?_)))).size;clear hp1 hp2 hp3)|(go_at_call 128;refine (T.out _ _ M2.out).mono ?_;rintro q w3 hp;have K:=hide (TP.trans F2.out O2.out hp);obtain ⟨_,rfl,_⟩:=hp))
     exact ⟨rfl,K.out⟩
    | inr z =>
     go_enter Tryz.func130, Tryz.ntmps130
     go_wp2_with (first|(go_at_call 149;refine (PA.out _).mono ?_;rintro q w1 ⟨rfl,hb1⟩;have B1:Hid (Below W.heap.size W w1):=below_then (by repeat (first|exact Below.refl _ _|refine Below.drew ?_|refine below_al ?_)) hb1;have M1:=hide (H.out.then B1.out);have hz1:g.t<w1.heap.size:=M1.out.lt;have d0:w1.cell? ⟨g.t,0,none⟩=some (.int .i64 E0):=(M1.out.tb.cell 0).trans rfl;clear hb1)|(go_at_call 86;refine (P.out _ (below_then B1.out (by repeat (first|exact Below.refl _ _|refine Below.drew ?_|refine below_al ?_)))).mono ?_;rintro q w2 ⟨hp1,rfl,m2,hp2,hp3⟩;have F2:Hid (TF g m W w2):=(TF.of (below_then B1.out (by repeat (first|exact Below.refl _ _|refine Below.drew ?_|refine below_al ?_))) H.out.lo).trans (OB.refl _ _) hp1;have M2:=hide hp2;have O2:Hid (OB W m.told m2.told):=(OB.refl _ _).trans hp3 (show Below W.heap.size W _ from (below_then B1.out (by repeat (first|exact Below.refl _ _|refine Below.drew ?_|refine below_al ?_)))).size;clear hp1 hp2 hp3)|(go_at_call 128;refine (T.out _ _ M2.out).mono ?_;rintro q w3 hp;have K:=hide (TP.trans F2.out O2.out hp);obtain ⟨_,rfl,_⟩:=hp))
     go_end0
     exact K.out
  ·rw [if_neg h2]
   have n2:(E==2)=false:=by simpa using h2
   go_enter Tryz.func130, Tryz.ntmps130
   go_wp2_with (go_at_call 149;refine (PA.out _).mono ?_;rintro q w1 ⟨rfl,hb1⟩;have B1:Hid (Below W.heap.size W w1):=below_then (by repeat (first|exact Below.refl _ _|refine Below.drew ?_|refine below_al ?_)) hb1;have M1:=hide (H.out.then B1.out);have hz1:g.t<w1.heap.size:=M1.out.lt;have d0:w1.cell? ⟨g.t,0,none⟩=some (.int .i64 E0):=(M1.out.tb.cell 0).trans rfl;clear hb1)
   exact ⟨rfl,(TF.of B1.out H.out.lo).trans (OB.refl _ _) (TF.of (by repeat (first|exact Below.refl _ _|refine Below.drew ?_|refine below_al ?_)) (by have:=M1.out.lo;omega)),rfl,_,(M1.out.then (by repeat (first|exact Below.refl _ _|refine Below.drew ?_|refine below_al ?_))).tb⟩
end
end Go.Proofs.YthodiandebahdaaGreatDoor
