/- Merged by program: BdLeaf, BeBytes, BfPart, BwLeaf, BxDoc. -/
import Derived.Test.YthodiandebahdaaGreatDoorZy35
import Derived.Test.YthodiandebahdaaGreatDoorZy23
namespace Go.Proofs.YthodiandebahdaaGreatDoor
open Go.RowKit
set_option linter.unusedSimpArgs false
set_option linter.unusedVariables false
set_option maxHeartbeats 8000000
def rkw (st:Xs) (k:Nat) (kd:Int):Xs:={st with t:={st.t with total:=st.t.total + k},mark:=[],rk:=kd}
section
variable {st : Xs} {ks : List Int} {told : List Hd} {c c' : List Pa × Bool} {t t' : Nat × List Tp} {T : Nat} {f : Bool}
theorem Sy.row (h:Sy st ks told c t T f) (hk:lastK ks≠8) (hf:lastK ks=7∨f=false) (kd:Int) (hkd:kd≠0) (r1 r2 B l:List UInt8) (h1:mkGo [60] r1=some (2,kd,false)) (h2:mkGo [60] r2=some (3,kd,false))
  (hb:∀ y:Xs,InR y→y.rk=kd→y.held=[]→y.t.total + B.length≤65536→feedX y B=.inr (hw y B.length l [])) (ht:T + ((60 :: r1)++(B++(60 :: r2))).length≤65536) :
  ∃ z,feedX st ((60 :: r1)++(B++(60 :: r2)))=endRowS z kd∧z.rk=kd∧z.held=l∧Sy (row0 z) ks told c t (T + ((60 :: r1)++(B++(60 :: r2))).length) f:=by
 simp only [List.length_append,List.length_cons] at ht ⊢
 have f1:feedX st (60 :: r1)=.inr (rkw st (r1.length + 1) kd):=by
  rw [mark_feed 60 r1 _ (Or.inl rfl) h.mark h.ref h.pas h1 (by rw [h.tot];omega)]
  unfold markS
  rw [if_neg (show ¬ (2:Nat)=1 by decide),if_pos rfl,if_neg (by rw [(h.mw (r1.length + 1)).want hk hf];decide)]
  rfl
 rw [feedX_app,f1]
 show ∃ z,feedX (rkw st (r1.length + 1) kd) (B++(60 :: r2))=_∧_
 have hT:(rkw st (r1.length + 1) kd).t.total=T + (r1.length + 1):=by show st.t.total + _=_;rw [h.tot]
 rw [feedX_app,hb (rkw st (r1.length + 1) kd) ⟨rfl,h.ref,hkd,h.pas⟩ rfl h.held (by rw [hT];omega)]
 show ∃ z,feedX (hw (rkw st (r1.length + 1) kd) B.length l []) (60 :: r2)=_∧_
 have hT2:(hw (rkw st (r1.length + 1) kd) B.length l []).t.total=T + (r1.length + 1) + B.length:=by show (rkw st (r1.length + 1) kd).t.total + _=_;rw [hT]
 rw [mark_feed (st:=hw (rkw st (r1.length + 1) kd) B.length l []) 60 r2 _ (Or.inl rfl) rfl rfl h.pas h2 (by rw [hT2];omega)]
 refine ⟨Go.Proofs.YthodiandebahdaaGreatDoor.mw (hw (rkw st (r1.length + 1) kd) B.length l []) (r2.length + 1) [],rfl,rfl,rfl,⟨rfl,rfl,rfl,rfl,h.pas,h.ks,h.told,h.ck,h.ty,?_,h.fil⟩⟩
 show (hw (rkw st (r1.length + 1) kd) B.length l []).t.total + (r2.length + 1)=_
 rw [hT2]
 omega
theorem Sy.text (h:Sy st ks told c t T f) (hk:lastK ks≠8) (hf:lastK ks=7∨f=false) (s:ByteArray) (hs:(bl s).length≤4096) (ht:T + (mText++(xeL (bl s)++mTextE)).length≤65536) (k:Okk c t [evText s] c' t') :
  ∃ y,feedX st (mText++(xeL (bl s)++mTextE))=.inr y∧Sy y ks (told++[evText s]) c' t' (T + (mText++(xeL (bl s)++mTextE)).length) true:=by
 obtain ⟨z,z1,z2,z3,z4⟩:=h.row hk hf 5 (by decide) mText.tail mTextE.tail (xeL (bl s)) (bl s) marks.2.2.2.2.2.2.2.1 marks.2.2.2.2.2.2.2.2.1 (fun y hy hr hh ht=>by
  have:=row_feed (bl s) y hy (by rw [hr];rfl) (by rw [hr,hh];simpa [mostK] using hs) ht
  rw [hh] at this
  exact this) ht
 obtain ⟨y,y1,y2⟩:=z4.elem k
 refine ⟨y,?_,y2⟩
 show feedX st ((60 :: mText.tail)++(xeL (bl s)++(60 :: mTextE.tail)))=_
 rw [z1]
 unfold endRowS
 rw [if_neg (fun q=>q z2),if_neg (by decide),if_neg (by decide),if_pos rfl,z3,mkB_bl]
 exact y1
end
theorem hex_two (c:UInt8):∃ x y:Fin 16,hxD (hx (c.toNat / 16))=some x∧hxD (hx (c.toNat % 16))=some y∧UInt8.ofNat (x.val * 16 + y.val)=c:=by
 have key:∀ n:Fin 16,hxD (hx n.val)=some n:=by decide +kernel
 have h1:c.toNat / 16<16:=by have:=c.toNat_lt;omega
 have h2:c.toNat % 16<16:=by omega
 refine ⟨⟨_,h1⟩,⟨_,h2⟩,key ⟨_,h1⟩,key ⟨_,h2⟩,?_⟩
 show UInt8.ofNat (c.toNat / 16 * 16 + c.toNat % 16)=c
 rw [show c.toNat / 16 * 16 + c.toNat % 16=c.toNat by omega]
 simp
theorem hx_plain (n:Nat) (h:n<16):32≤(hx n).toNat∧hx n≠60∧hx n≠34:=by
 have key:∀ n:Fin 16,32≤(hx n.val).toNat∧hx n.val≠60∧hx n.val≠34:=by decide +kernel
 exact key ⟨n,h⟩
theorem hexL_cons (c:UInt8) (l:List UInt8):hexL (c :: l)=hx (c.toNat / 16) :: hx (c.toNat % 16) :: hexL l:=by simp [hexL]
theorem hx2_hexL:∀ l:List UInt8,hx2 (hexL l)=some l
 | []=>rfl
 | c :: l=>by
  obtain ⟨x,y,h1,h2,h3⟩:=hex_two c
  rw [hexL_cons]
  unfold hx2
  rw [h1,h2,hx2_hexL l]
  simp only [h3]
theorem hexL_plain (l:List UInt8):∀ d∈hexL l,32≤d.toNat∧d≠60∧d≠34:=by
 intro d hd
 unfold hexL at hd
 obtain ⟨c,_,hc⟩:=List.mem_flatMap.1 hd
 have:=c.toNat_lt
 simp only [List.mem_cons,List.not_mem_nil,or_false] at hc
 rcases hc with rfl|rfl
 ·exact hx_plain _ (by omega)
 ·exact hx_plain _ (by omega)
section
variable {st : Xs} {ks : List Int} {told : List Hd} {c c' : List Pa × Bool} {t t' : Nat × List Tp} {T : Nat} {f : Bool}
theorem Sy.bytes (h:Sy st ks told c t T f) (hk:lastK ks≠8) (hf:lastK ks=7∨f=false) (s:ByteArray) (hs:(bl s).length≤4096) (ht:T + (mBytes++(hexL (bl s)++mBytesE)).length≤65536) (k:Okk c t [evBytes s] c' t') :
  ∃ y,feedX st (mBytes++(hexL (bl s)++mBytesE))=.inr y∧Sy y ks (told++[evBytes s]) c' t' (T + (mBytes++(hexL (bl s)++mBytesE)).length) true:=by
 obtain ⟨z,z1,z2,z3,z4⟩:=h.row hk hf 6 (by decide) mBytes.tail mBytesE.tail (hexL (bl s)) (hexL (bl s)) marks.2.2.2.2.2.2.2.2.2.1 marks.2.2.2.2.2.2.2.2.2.2.1 (fun y hy hr hh ht=>by
  have:=plain_feed (hexL (bl s)) y hy (by rw [hr];rfl) (fun q=>by rw [hr] at q;cases q) (hexL_plain _) (by rw [hr,hh,hexL_len];show 0 + 2 * (bl s).length≤8192;omega) ht
  rw [hh] at this
  exact this) ht
 obtain ⟨y,y1,y2⟩:=z4.elem k
 refine ⟨y,?_,y2⟩
 show feedX st ((60 :: mBytes.tail)++(hexL (bl s)++(60 :: mBytesE.tail)))=_
 rw [z1]
 unfold endRowS
 rw [if_neg (fun q=>q z2),if_neg (by decide),if_neg (by decide),if_neg (by decide),if_pos rfl,z3]
 unfold bytesS
 rw [bl_mkB,hx2_hexL]
 show elemS (row0 z) (evBytes (mkB (bl s)))=_
 rw [mkB_bl]
 exact y1
end
section
variable {st : Xs} {ks : List Int} {told : List Hd} {c c' : List Pa × Bool} {t t' : Nat × List Tp} {T : Nat} {f : Bool}
theorem Sy.opn (h:Sy st ks told c t T f) (hk:lastK ks≠8) (hf:lastK ks=7∨f=false) (r:List UInt8) (kd:Int) (hm:mkGo [60] r=some (4,kd,false)) (ht:T + (r.length + 1)≤65536) (k:Okk c t [zr kd] c' t') :
  ∃ y,feedX st (60 :: r)=.inr y∧Sy y (ks++[kd]) (told++[zr kd]) c' t' (T + (r.length + 1)) false:=by
 obtain ⟨y,h1,h2⟩:=(h.mw (r.length + 1)).begin k
 refine ⟨y,?_,h2⟩
 rw [mark_feed 60 r _ (Or.inl rfl) h.mark h.ref h.pas hm (by rw [h.tot];exact ht)]
 unfold markS
 rw [if_neg (show ¬ (4:Nat)=1 by decide),if_neg (show ¬ (4:Nat)=2 by decide),if_neg (show ¬ (4:Nat)=3 by decide),if_pos rfl,if_neg (by rw [(h.mw (r.length + 1)).want hk hf];decide)]
 exact h1
theorem Sy.shut (h:Sy st ks told c t T f) (r:List UInt8) (kd:Int) (hk:lastK ks=kd) (hn:kd≠10) (hf:kd=9→f=true) (hm:mkGo [60] r=some (7,kd,false)) (ht:T + (r.length + 1)≤65536) (k:Okk c t [evE] c' t') :
  ∃ y,feedX st (60 :: r)=.inr y∧Sy y ks.dropLast (told++[evE]) c' t' (T + (r.length + 1)) true:=by
 have hq:=h.mw (r.length + 1)
 have hd:Sy {Go.Proofs.YthodiandebahdaaGreatDoor.mw st (r.length + 1) [] with ks:=(Go.Proofs.YthodiandebahdaaGreatDoor.mw st (r.length + 1) []).ks.dropLast} ks.dropLast told c t (T + (r.length + 1)) f:=⟨hq.mark,hq.ref,hq.held,hq.rk,hq.pas,by show st.ks.dropLast=_;rw [h.ks],hq.told,hq.ck,hq.ty,hq.tot,hq.fil⟩
 obtain ⟨y,h1,h2⟩:=hd.elem k
 refine ⟨y,?_,h2⟩
 rw [mark_feed 60 r _ (Or.inl rfl) h.mark h.ref h.pas hm (by rw [h.tot];exact ht)]
 unfold markS
 rw [if_neg (show ¬ (7:Nat)=1 by decide),if_neg (show ¬ (7:Nat)=2 by decide),if_neg (show ¬ (7:Nat)=3 by decide),if_neg (show ¬ (7:Nat)=4 by decide),if_neg (show ¬ (7:Nat)=5 by decide),if_neg (show ¬ (7:Nat)=6 by decide)]
 unfold endPartS
 rw [if_neg ?_,if_neg hn]
 ·exact h1
 ·rintro (q|q|⟨q|q,q2⟩)
  ·exact q hq.rk
  ·rw [hq.ks] at q;exact q hk
  ·exact hn q
  ·rw [hq.fil,hf q] at q2;cases q2
theorem Sy.shutF (h:Sy st ks told c t T true) (r:List UInt8) (hk:lastK ks=10) (hm:mkGo [60] r=some (7,10,false)) (ht:T + (r.length + 1)≤65536) :
  ∃ y,feedX st (60 :: r)=.inr y∧Sy y ks.dropLast told c t (T + (r.length + 1)) true:=by
 have hq:=h.mw (r.length + 1)
 have hd:Sy {Go.Proofs.YthodiandebahdaaGreatDoor.mw st (r.length + 1) [] with ks:=(Go.Proofs.YthodiandebahdaaGreatDoor.mw st (r.length + 1) []).ks.dropLast} ks.dropLast told c t (T + (r.length + 1)) true:=⟨hq.mark,hq.ref,hq.held,hq.rk,hq.pas,by show st.ks.dropLast=_;rw [h.ks],hq.told,hq.ck,hq.ty,hq.tot,hq.fil⟩
 refine ⟨_,?_,hd⟩
 rw [mark_feed 60 r _ (Or.inl rfl) h.mark h.ref h.pas hm (by rw [h.tot];exact ht)]
 unfold markS
 rw [if_neg (show ¬ (7:Nat)=1 by decide),if_neg (show ¬ (7:Nat)=2 by decide),if_neg (show ¬ (7:Nat)=3 by decide),if_neg (show ¬ (7:Nat)=4 by decide),if_neg (show ¬ (7:Nat)=5 by decide),if_neg (show ¬ (7:Nat)=6 by decide)]
 unfold endPartS
 rw [if_neg ?_,if_pos rfl]
 rintro (q|q|⟨_,q2⟩)
 ·exact q hq.rk
 ·rw [hq.ks] at q;exact q hk
 ·rw [hq.fil] at q2;cases q2
end
theorem fhd_v:∀ d:_root_.Fin 16,fhv (UInt8.ofNat (fhd d.val))=some d.val∧(32≤(UInt8.ofNat (fhd d.val)).toNat∧UInt8.ofNat (fhd d.val)≠60∧UInt8.ofNat (fhd d.val)≠34):=by decide
theorem fuh_low (b:Nat):∀ (k a:Nat),((flowL b k).map fun v=>UInt8.ofNat v).foldl fuhS (some a)=some (a * 16 ^ k + b % 16 ^ k)
 | 0,a=>by simp [flowL,Nat.mod_one]
 | k + 1,a=>by
  have hd16:b / 16 ^ k % 16<16:=Nat.mod_lt _ (by decide)
  have h1:=(fhd_v ⟨b / 16 ^ k % 16,hd16⟩).1
  simp only at h1
  simp only [flowL,List.map_cons,List.foldl_cons]
  have:fuhS (some a) (UInt8.ofNat (fhd (b / 16 ^ k % 16)))=some (a * 16 + b / 16 ^ k % 16):=by unfold fuhS;rw [h1]
  rw [this,fuh_low b k,Nat.mod_pow_succ,Nat.add_mul,Nat.pow_succ]
  congr 1
  rw [Nat.mul_assoc,Nat.mul_comm 16,Nat.mul_comm (b / 16 ^ k % 16)]
  omega
theorem fhex_bl (b:Nat):bl (fhexS b)=(flowL b 16).map fun v=>UInt8.ofNat v:=by
 unfold bl fhexS
 rw [strOfNums_data,List.map_map]
 apply List.map_congr_left
 intro v _
 show UInt8.ofNat ((v:Int)).toNat=_
 rw [Int.toNat_natCast]
theorem flowL_small (b:Nat):∀ (k:Nat),∀ c∈(flowL b k).map fun v=>UInt8.ofNat v,32≤c.toNat∧c≠60∧c≠34
 | 0,c,h=>by simp [flowL] at h
 | k + 1,c,h=>by
  simp only [flowL,List.map_cons,List.mem_cons] at h
  rcases h with rfl|h
  ·exact (fhd_v ⟨b / 16 ^ k % 16,Nat.mod_lt _ (by decide)⟩).2
  ·exact flowL_small b k c h
theorem fhex_ok (b:Nat) (h:b<18446744073709551616):(∀ c∈bl (fhexS b),32≤c.toNat∧c≠60∧c≠34)∧(bl (fhexS b)).length=16∧funh (fhexS b)=(b,0):=by
 have hl:(bl (fhexS b)).length=16:=by rw [fhex_bl,List.length_map,flowL_len]
 refine ⟨by rw [fhex_bl];exact flowL_small b 16,hl,?_⟩
 refine funh_some _ (by rw [←bl_length];exact hl) b ?_
 unfold fuh
 rw [fhex_bl,fuh_low]
 congr 1
 have:b % 16 ^ 16=b:=Nat.mod_eq_of_lt (by simpa using h)
 omega
def okC (c:UInt8):Bool:=isDig c || c==45 || c==46 || c==101
theorem okC_facts (c:UInt8) (h:okC c=true):32≤c.toNat∧c≠60∧c≠34:=by
 have key:∀ n:_root_.Fin 256,okC (UInt8.ofNat n.val)=true→32≤(UInt8.ofNat n.val).toNat∧UInt8.ofNat n.val≠60∧UInt8.ofNat n.val≠34:=by decide +kernel
 have:=key ⟨c.toNat,c.toNat_lt⟩
 have e:UInt8.ofNat c.toNat=c:=by simp
 simp only [e] at this
 exact this h
theorem okC_dig {l:List UInt8} (h:allD l=true):∀ c∈l,okC c=true:=by
 intro c hc
 have:=List.all_eq_true.1 h c hc
 unfold okC
 rw [this];rfl
theorem itoa_okC (p:Int) (h1:-439≤p) (h2:p≤439):∀ c∈Lib.itoa p,okC c=true:=by
 unfold Lib.itoa
 split
 ·intro c hc
  rcases List.mem_cons.1 hc with rfl|hc
  ·rfl
  ·exact okC_dig (dec_facts p.natAbs (by omega)).2.1 c hc
 ·exact okC_dig (dec_facts p.toNat (by omega)).2.1
theorem print_okC (n:Bool) (s:ByteArray) (x:Int) (h:isN n s x=true):∀ c∈printL n (bl s) x,okC c=true:=by
 obtain ⟨had,h1,h40,hx1,hx2,_⟩:=isN_all h
 have hd:=okC_dig had
 have hrep:∀ k,∀ c∈List.replicate k (48:UInt8),okC c=true:=fun k c hc=>by rw [List.eq_of_mem_replicate hc];rfl
 have hll:=bl_length s
 unfold printL
 intro c hc
 rcases List.mem_append.1 hc with q|q
 ·cases n with
  | true=>rw [List.mem_singleton.1 (show c∈[45] from q)];rfl
  | false=>cases q
 ·split at q
  ·rcases List.mem_append.1 q with q|q
   ·exact hd c q
   ·exact hrep _ c q
  ·split at q
   ·unfold pointed at q
    split at q
    ·rcases List.mem_cons.1 q with rfl|q
     ·rfl
     rcases List.mem_cons.1 q with rfl|q
     ·rfl
     rcases List.mem_append.1 q with q|q
     ·exact hrep _ c q
     ·exact hd c q
    ·rcases List.mem_append.1 q with q|q
     ·exact hd c (List.mem_of_mem_take q)
     rcases List.mem_cons.1 q with rfl|q
     ·rfl
     ·exact hd c (List.mem_of_mem_drop q)
   ·unfold powered at q
    rcases List.mem_append.1 q with q|q
    ·rcases List.mem_append.1 q with q|q
     ·exact hd c (List.mem_of_mem_take q)
     ·split at q
      ·rcases List.mem_cons.1 q with rfl|q
       ·rfl
       ·exact hd c (List.mem_of_mem_drop q)
      ·cases q
    ·rcases List.mem_cons.1 q with rfl|q
     ·rfl
     ·exact itoa_okC _ (by omega) (by omega) c q
theorem print_short (n:Bool) (s:ByteArray) (x:Int) (h:isN n s x=true):(printL n (bl s) x).length≤512:=by
 obtain ⟨_,h1,h40,hx1,hx2,_⟩:=isN_all h
 have hs:(sgnB n).length≤1:=by cases n <;> simp [sgnB]
 have hil:=Lib.itoa_length_le (x + s.size - 1) (by omega) (by omega)
 unfold printL
 rw [List.length_append,bl_length]
 split
 ·rw [List.length_append,List.length_replicate,bl_length];omega
 ·split
  ·have:(pointed (bl s) (-x).toNat).length≤200:=by
    unfold pointed
    split <;> simp [bl_length] <;> omega
   omega
  ·have:(powered (bl s) (Lib.itoa (x + s.size - 1))).length≤200:=by
    unfold powered
    split <;> simp [bl_length] <;> omega
   omega
section
variable {h : Hd}
theorem head_1 (hs:strip h=zr h.kind) (hk:h.kind=1):hd0 h=zr 1:=by
 cases h;simp only at hk;subst hk;simp [strip,zr] at hs;simp [hd0,zr,hs]
theorem head_2 (hs:strip h=zr h.kind) (hk:h.kind=2):hd0 h=evFlag h.flag:=by
 cases h;simp only at hk;subst hk;simp [strip,zr] at hs;simp [hd0,zr,evFlag,hs]
theorem head_3 (hs:strip h=zr h.kind) (hk:h.kind=3):hd0 h=evNum (h.neg,h.dig,h.exp,0):=by
 cases h;simp only at hk;subst hk;simp [strip,zr] at hs;simp [hd0,zr,evNum,hs]
theorem head_4 (hs:strip h=zr h.kind) (hk:h.kind=4) (hb:0≤h.bits):hd0 h=evFloat h.bits.toNat:=by
 have e:((h.bits.toNat:Nat):Int)=h.bits:=Int.toNat_of_nonneg hb
 cases h;simp only at hk;subst hk;simp [strip,zr] at hs;simp only at e;simp [hd0,zr,evFloat,hs,e]
theorem head_5 (hs:strip h=zr h.kind) (hk:h.kind=5):hd0 h=evText h.text:=by
 cases h;simp only at hk;subst hk;simp [strip,zr] at hs;simp [hd0,zr,evText,hs]
theorem head_6 (hs:strip h=zr h.kind) (hk:h.kind=6):hd0 h=evBytes h.text:=by
 cases h;simp only at hk;subst hk;simp [strip,zr] at hs;simp [hd0,zr,evBytes,hs]
theorem head_7 (hs:strip h=zr h.kind) (hk:h.kind=7):hd0 h=zr 7:=by
 cases h;simp only at hk;subst hk;simp [strip,zr] at hs;simp [hd0,zr,hs]
theorem head_8 (hs:strip h=zr h.kind) (hk:h.kind=8):hd0 h=zr 8:=by
 cases h;simp only at hk;subst hk;simp [strip,zr] at hs;simp [hd0,zr,hs]
theorem head_9 (hs:strip h=zr h.kind) (hk:h.kind=9):hd0 h=evTag h.text:=by
 cases h;simp only at hk;subst hk;simp [strip,zr] at hs;simp [hd0,zr,evTag,hs]
end
section
variable {n : Nat} {h : Hd} {l : List (VT n)}
theorem xtx_1 (hk:h.kind=1):xtx (n + 1) ((h,l):VT (n + 1))=mNull:=by
 show (if h.kind=1 then _ else _)=_
 rw [if_pos hk]
theorem xtx_2 (hk:h.kind=2):xtx (n + 1) ((h,l):VT (n + 1))=xflg h.flag:=by
 show (if h.kind=1 then _ else _)=_
 rw [if_neg (show ¬ h.kind=1 by omega),if_pos hk]
theorem xtx_3 (hk:h.kind=3):xtx (n + 1) ((h,l):VT (n + 1))=mNum++(printL h.neg (bl h.dig) h.exp++mNumE):=by
 show (if h.kind=1 then _ else _)=_
 rw [if_neg (show ¬ h.kind=1 by omega),if_neg (show ¬ h.kind=2 by omega),if_pos hk]
theorem xtx_4 (hk:h.kind=4):xtx (n + 1) ((h,l):VT (n + 1))=mFloat++(bl (fhexS h.bits.toNat)++mFloatE):=by
 show (if h.kind=1 then _ else _)=_
 rw [if_neg (show ¬ h.kind=1 by omega),if_neg (show ¬ h.kind=2 by omega),if_neg (show ¬ h.kind=3 by omega),if_pos hk]
theorem xtx_5 (hk:h.kind=5):xtx (n + 1) ((h,l):VT (n + 1))=mText++(xeL (bl h.text)++mTextE):=by
 show (if h.kind=1 then _ else _)=_
 rw [if_neg (show ¬ h.kind=1 by omega),if_neg (show ¬ h.kind=2 by omega),if_neg (show ¬ h.kind=3 by omega),if_neg (show ¬ h.kind=4 by omega),if_pos hk]
theorem xtx_6 (hk:h.kind=6):xtx (n + 1) ((h,l):VT (n + 1))=mBytes++(hexL (bl h.text)++mBytesE):=by
 show (if h.kind=1 then _ else _)=_
 rw [if_neg (show ¬ h.kind=1 by omega),if_neg (show ¬ h.kind=2 by omega),if_neg (show ¬ h.kind=3 by omega),if_neg (show ¬ h.kind=4 by omega),if_neg (show ¬ h.kind=5 by omega),if_pos hk]
theorem xtx_7 (hk:h.kind=7):xtx (n + 1) ((h,l):VT (n + 1))=mList++(xel n l l.length++mListE):=by
 show (if h.kind=1 then _ else _)=_
 rw [if_neg (show ¬ h.kind=1 by omega),if_neg (show ¬ h.kind=2 by omega),if_neg (show ¬ h.kind=3 by omega),if_neg (show ¬ h.kind=4 by omega),if_neg (show ¬ h.kind=5 by omega),if_neg (show ¬ h.kind=6 by omega),if_pos hk]
 rfl
theorem xtx_8 (hk:h.kind=8):xtx (n + 1) ((h,l):VT (n + 1))=mRec++(xrc n h.names l l.length++mRecE):=by
 show (if h.kind=1 then _ else _)=_
 rw [if_neg (show ¬ h.kind=1 by omega),if_neg (show ¬ h.kind=2 by omega),if_neg (show ¬ h.kind=3 by omega),if_neg (show ¬ h.kind=4 by omega),if_neg (show ¬ h.kind=5 by omega),if_neg (show ¬ h.kind=6 by omega),if_neg (show ¬ h.kind=7 by omega),if_pos hk]
 rfl
theorem xtx_9 (hk:h.kind=9):xtx (n + 1) ((h,l):VT (n + 1))=mTag++(xeL (bl h.text)++(mNameE++((l[0]?).elim [] (xtx n)++mTagE))):=by
 show (if h.kind=1 then _ else _)=_
 rw [if_neg (show ¬ h.kind=1 by omega),if_neg (show ¬ h.kind=2 by omega),if_neg (show ¬ h.kind=3 by omega),if_neg (show ¬ h.kind=4 by omega),if_neg (show ¬ h.kind=5 by omega),if_neg (show ¬ h.kind=6 by omega),if_neg (show ¬ h.kind=7 by omega),if_neg (show ¬ h.kind=8 by omega)]
end
theorem lastX_snoc (ks:List Int) (k:Int):lastK (ks++[k])=k:=by simp [lastK]
theorem feedX_then {st x:Xs} {a b:List UInt8} (h:feedX st a=.inr x):feedX st (a++b)=feedX x b:=by
 rw [feedX_app,h];rfl
section
variable {st : Xs} {ks : List Int} {told : List Hd} {c c' : List Pa × Bool} {t t' : Nat × List Tp} {T : Nat} {f : Bool}
theorem Sy.name (h:Sy st ks told c t T f) (kd:Int) (hk:(kd=10∧lastK ks=8)∨(kd=9∧lastK ks≠8∧(lastK ks=7∨f=false))) (r1:List UInt8) (h1:mkGo [60] r1=some (5,kd,false)) (s:ByteArray) (hs:(bl s).length≤64)
  (ht:T + ((60 :: r1)++(xeL (bl s)++mNameE)).length≤65536) (k:Okk c t [{zr kd with text:=s}] c' t') :
  ∃ y,feedX st ((60 :: r1)++(xeL (bl s)++mNameE))=.inr y∧Sy y (ks++[kd]) (told++[{zr kd with text:=s}]) c' t' (T + ((60 :: r1)++(xeL (bl s)++mNameE)).length) false:=by
 have hN:mkGo [34] [62]=some (6,0,false):=by decide +kernel
 have eN:mNameE=34 :: [62]:=rfl
 rw [eN] at ht ⊢
 simp only [List.length_append,List.length_cons,List.length_nil] at ht ⊢
 have hq:=h.mw (r1.length + 1)
 have f1:feedX st (60 :: r1)=.inr (rkw st (r1.length + 1) kd):=by
  rw [mark_feed 60 r1 _ (Or.inl rfl) h.mark h.ref h.pas h1 (by rw [h.tot];omega)]
  unfold markS
  rw [if_neg (show ¬ (5:Nat)=1 by decide),if_neg (show ¬ (5:Nat)=2 by decide),if_neg (show ¬ (5:Nat)=3 by decide),if_neg (show ¬ (5:Nat)=4 by decide),if_pos rfl]
  unfold beginNameS
  rcases hk with ⟨e1,e2⟩|⟨e1,e2,e3⟩
  ·rw [if_neg (show ¬ kd=9 by omega),if_neg ?_]
   ·rfl
   ·rintro (q|q)
    ·exact q hq.rk
    ·rw [hq.ks] at q;exact q e2
  ·rw [if_pos e1,if_neg (by rw [hq.want e2 e3];decide)]
   rfl
 rw [feedX_then f1]
 have hT:(rkw st (r1.length + 1) kd).t.total=T + (r1.length + 1):=by show st.t.total + _=_;rw [h.tot]
 have hk0:kd≠0:=by rcases hk with ⟨e,_⟩|⟨e,_⟩ <;> omega
 have ha:areD kd=false:=by rcases hk with ⟨e,_⟩|⟨e,_⟩ <;> rw [e] <;> rfl
 have hm:mostK kd=64:=by rcases hk with ⟨e,_⟩|⟨e,_⟩ <;> rw [e] <;> rfl
 have hh:(rkw st (r1.length + 1) kd).held=[]:=h.held
 have f2:=row_feed (bl s) (rkw st (r1.length + 1) kd) ⟨rfl,h.ref,hk0,h.pas⟩ ha (by rw [hh];show 0 + _≤mostK kd;omega) (by rw [hT];omega)
 rw [hh,List.nil_append] at f2
 rw [feedX_then f2]
 have hT2:(hw (rkw st (r1.length + 1) kd) (xeL (bl s)).length (bl s) []).t.total=T + (r1.length + 1) + (xeL (bl s)).length:=by show (rkw st (r1.length + 1) kd).t.total + _=_;rw [hT]
 rw [mark_feed (st:=hw (rkw st (r1.length + 1) kd) (xeL (bl s)).length (bl s) []) 34 [62] _ (Or.inr rfl) rfl rfl h.pas hN (by rw [hT2];simp;omega)]
 unfold markS
 rw [if_neg (show ¬ (6:Nat)=1 by decide),if_neg (show ¬ (6:Nat)=2 by decide),if_neg (show ¬ (6:Nat)=3 by decide),if_neg (show ¬ (6:Nat)=4 by decide),if_neg (show ¬ (6:Nat)=5 by decide),if_pos rfl]
 unfold endNameS
 obtain ⟨Z,hZ⟩:∃ Z,Go.Proofs.YthodiandebahdaaGreatDoor.mw (hw (rkw st (r1.length + 1) kd) (xeL (bl s)).length (bl s) []) (([62]:List UInt8).length + 1) []=Z:=⟨_,rfl⟩
 rw [hZ]
 have z1:Z.rk=kd:=by rw [←hZ];rfl
 have z2:Z.held=bl s:=by rw [←hZ];rfl
 have z3:Sy (row0 Z) ks told c t (T + (r1.length + 1) + (xeL (bl s)).length + 2) f:=⟨by rw [←hZ];rfl,rfl,rfl,rfl,by rw [←hZ];exact h.pas,by rw [←hZ];exact h.ks,by rw [←hZ];exact h.told,by rw [←hZ];exact h.ck,by rw [←hZ];exact h.ty,by rw [←hZ];show (hw (rkw st (r1.length + 1) kd) (xeL (bl s)).length (bl s) []).t.total + 2=_;rw [hT2],by rw [←hZ];exact h.fil⟩
 rw [z1,z2,mkB_bl,if_neg (by rcases hk with ⟨e,_⟩|⟨e,_⟩ <;> omega)]
 obtain ⟨y,y1,y2⟩:=z3.begin k
 refine ⟨y,y1,?_⟩
 have et:T + (r1.length + 1) + (xeL (bl s)).length + 2=T + (r1.length + 1 + ((xeL (bl s)).length + (0 + 1 + 1))):=by omega
 rw [et] at y2
 exact y2
end
def VX (n:Nat):Prop:=∀ (x:VT n),Vo n x→∀ (st:Xs) (ks:List Int) (told:List Hd) (c:List Pa×Bool) (t:Nat×List Tp) (T:Nat) (f:Bool),Sy st ks told c t T f→lastK ks≠8→(lastK ks=7∨f=false)→T + (xtx n x).length≤65536 →
 ∀ c' t',Okk c t (fl n x) c' t'→∃ z,feedX st (xtx n x)=.inr z∧Sy z ks (told++fl n x) c' t' (T + (xtx n x).length) true
section
variable {n : Nat}
theorem vx_leaf (h:Hd) (l:List (VT n)) (hv:Vo (n + 1) ((h,l):VT (n + 1))) (hk:h.kind<7) (st:Xs) (ks:List Int) (told:List Hd) (c:List Pa×Bool) (t:Nat×List Tp) (T:Nat) (f:Bool) (hs:Sy st ks told c t T f) (h8:lastK ks≠8) (h7:lastK ks=7∨f=false)
  (ht:T + (xtx (n + 1) ((h,l):VT (n + 1))).length≤65536) (c':List Pa×Bool) (t':Nat×List Tp) (hok:Okk c t (fl (n + 1) ((h,l):VT (n + 1))) c' t') :
  ∃ z,feedX st (xtx (n + 1) ((h,l):VT (n + 1)))=.inr z∧Sy z ks (told++fl (n + 1) ((h,l):VT (n + 1))) c' t' (T + (xtx (n + 1) ((h,l):VT (n + 1))).length) true:=by
 obtain ⟨⟨⟨b1,b2,b3,b4⟩,⟨f1,f2,f3,f4⟩,_⟩,⟨s1,s2,s3,_⟩,⟨g1,g2,_⟩⟩:=hv
 have b1:1≤h.kind:=b1
 have b3:strip h=zr h.kind:=b3
 have g1:0≤h.bits:=g1
 have g2:h.bits<18446744073709551616:=g2
 have s1:(h.text.size:Int)≤(bif h.kind==9 then 64 else 4096):=s1
 have s1':h.text.size≤4096:=by
  cases hq:(h.kind==9) <;> rw [hq] at s1 <;> simp at s1 <;> omega
 have hfl:fl (n + 1) ((h,l):VT (n + 1))=[hd0 h]:=by rw [fl_succ,if_pos hk]
 rw [hfl] at hok ⊢
 obtain ⟨k1,k2,k3,k4,k5,k6,k7,k8,k9,k10,k11,k12,k13,k14,k15,k16,k17,k18,k19,k20⟩:=marks
 have hc:h.kind=1∨h.kind=2∨h.kind=3∨h.kind=4∨h.kind=5∨h.kind=6:=by omega
 rcases hc with hk|hk|hk|hk|hk|hk
 ·rw [xtx_1 hk] at ht ⊢
  rw [head_1 b3 hk] at hok ⊢
  exact hs.one h8 h7 mNull.tail 1 false k1 ht hok
 ·rw [xtx_2 hk] at ht ⊢
  rw [head_2 b3 hk] at hok ⊢
  cases hf:h.flag with
  | true =>
   rw [hf] at hok ht
   exact hs.one h8 h7 mTrue.tail 2 true k2 ht hok
  | false =>
   rw [hf] at hok ht
   exact hs.one h8 h7 mFalse.tail 2 false k3 ht hok
 ·rw [xtx_3 hk] at ht ⊢
  rw [head_3 b3 hk] at hok ⊢
  have hN:=f1 hk
  have p1:=print_short h.neg h.dig h.exp hN
  have p2:=print_okC h.neg h.dig h.exp hN
  have p7:=parse_print h.neg h.dig h.exp hN
  obtain ⟨z,z1,z2,z3,z4⟩:=hs.row h8 h7 3 (by decide) mNum.tail mNumE.tail _ (printL h.neg (bl h.dig) h.exp) k4 k5 (fun y hy hr hh ht=>by
   have:=plain_feed (printL h.neg (bl h.dig) h.exp) y hy (by rw [hr];rfl) (fun q=>by rw [hr] at q;cases q) (fun c q=>okC_facts c (p2 c q)) (by rw [hr,hh];show 0 + _≤512;omega) ht
   rw [hh] at this
   exact this) ht
  obtain ⟨y,y1,y2⟩:=z4.elem hok
  refine ⟨y,?_,y2⟩
  show feedX st ((60 :: mNum.tail)++(printL h.neg (bl h.dig) h.exp++(60 :: mNumE.tail)))=_
  rw [z1]
  unfold endRowS
  rw [if_neg (fun q=>q z2),if_pos rfl,z3]
  unfold numS tellN
  rw [bl_mkB,p7,if_pos rfl]
  exact y1
 ·rw [xtx_4 hk] at ht ⊢
  rw [head_4 b3 hk g1] at hok ⊢
  obtain ⟨q1,q2,q3⟩:=fhex_ok h.bits.toNat (by omega)
  obtain ⟨z,z1,z2,z3,z4⟩:=hs.row h8 h7 4 (by decide) mFloat.tail mFloatE.tail _ (bl (fhexS h.bits.toNat)) k6 k7 (fun y hy hr hh ht=>by
   have:=plain_feed (bl (fhexS h.bits.toNat)) y hy (by rw [hr];rfl) (fun q=>by rw [hh,q2];decide) q1 (by rw [hr,hh,q2];decide) ht
   rw [hh] at this
   exact this) ht
  obtain ⟨y,y1,y2⟩:=z4.elem hok
  refine ⟨y,?_,y2⟩
  show feedX st ((60 :: mFloat.tail)++(bl (fhexS h.bits.toNat)++(60 :: mFloatE.tail)))=_
  rw [z1]
  unfold endRowS
  rw [if_neg (fun q=>q z2),if_neg (by decide),if_pos rfl,z3]
  unfold floatS
  rw [mkB_bl,q3,if_pos rfl]
  exact y1
 ·rw [xtx_5 hk] at ht ⊢
  rw [head_5 b3 hk] at hok ⊢
  exact hs.text h8 h7 h.text (by rw [bl_length];omega) ht hok
 ·rw [xtx_6 hk] at ht ⊢
  rw [head_6 b3 hk] at hok ⊢
  exact hs.bytes h8 h7 h.text (by rw [bl_length];omega) ht hok
theorem vx_els (vf:VX n) (h:Hd) (l:List (VT n)) (hv:∀ y∈l,Vo n y) (hk:h.kind=7) (ks:List Int) (told:List Hd) (st:Xs) (c:List Pa×Bool) (t:Nat×List Tp) (T:Nat) (f:Bool) (hs:Sy st (ks++[7]) told c t T f) :
  ∀ k,k≤l.length→T + (xel n l k).length≤65536→∀ c' t',Okk c t (kids n h l k) c' t' →
   ∃ z g,feedX st (xel n l k)=.inr z∧Sy z (ks++[7]) (told++kids n h l k) c' t' (T + (xel n l k).length) g
 | 0,_,_,c',t',ho=>by
  obtain ⟨rfl,rfl⟩:=ho.nil
  refine ⟨st,f,rfl,?_⟩
  rw [kids_zero,List.append_nil]
  exact hs
 | k + 1,hkl,hT,c',t',ho=>by
  rw [xel_succ n l k (by omega)] at hT ⊢
  rw [kids_succ n h l k (by omega)] at ho ⊢
  have hp:preN h k=[]:=by unfold preN;rw [if_neg (by omega)]
  rw [hp,List.append_nil] at ho ⊢
  simp only [List.length_append] at hT ⊢
  obtain ⟨c1,t1,o1,o2⟩:=ho.split
  obtain ⟨z,g,e1,d1⟩:=vx_els vf h l hv hk ks told st c t T f hs k (by omega) (by omega) c1 t1 o1
  obtain ⟨z2,e2,d2⟩:=vf l[k] (hv _ (List.getElem_mem _)) z _ _ _ _ _ g d1 (by rw [lastX_snoc];decide) (Or.inl (lastX_snoc _ _)) (by omega) c' t' o2
  refine ⟨z2,true,?_,?_⟩
  ·rw [feedX_then e1];exact e2
  ·rw [List.append_assoc,Nat.add_assoc] at d2
   exact d2
theorem vx_list (vf:VX n) (h:Hd) (l:List (VT n)) (hv:Vo (n + 1) ((h,l):VT (n + 1))) (hk:h.kind=7) (st:Xs) (ks:List Int) (told:List Hd) (c:List Pa×Bool) (t:Nat×List Tp) (T:Nat) (f:Bool) (hs:Sy st ks told c t T f) (h8:lastK ks≠8) (h7:lastK ks=7∨f=false)
  (ht:T + (xtx (n + 1) ((h,l):VT (n + 1))).length≤65536) (c':List Pa×Bool) (t':Nat×List Tp) (hok:Okk c t (fl (n + 1) ((h,l):VT (n + 1))) c' t') :
  ∃ z,feedX st (xtx (n + 1) ((h,l):VT (n + 1)))=.inr z∧Sy z ks (told++fl (n + 1) ((h,l):VT (n + 1))) c' t' (T + (xtx (n + 1) ((h,l):VT (n + 1))).length) true:=by
 have b3:strip h=zr h.kind:=hv.1.1.2.2.1
 have hfl:fl (n + 1) ((h,l):VT (n + 1))=zr 7 :: (kids n h l l.length++[evE]):=by rw [fl_succ,if_neg (by omega),head_7 b3 hk]
 obtain ⟨k1,k2,k3,k4,k5,k6,k7,k8,k9,k10,k11,k12,k13,k14,k15,k16,k17,k18,k19,k20⟩:=marks
 rw [hfl] at hok ⊢
 rw [xtx_7 hk] at ht ⊢
 rw [show mList=60 :: mList.tail from rfl,show mListE=60 :: mListE.tail from rfl] at ht ⊢
 simp only [List.length_append,List.length_cons] at ht ⊢
 obtain ⟨c1,t1,o1,o2⟩:=hok.cons
 obtain ⟨c2,t2,o2,o3⟩:=o2.split
 obtain ⟨y1,e1,s1⟩:=hs.opn h8 h7 mList.tail 7 k12 (by omega) o1
 rw [feedX_then e1]
 obtain ⟨z,g,e3,d3⟩:=vx_els vf h l (fun y hy=>by
  obtain ⟨i,hi,rfl⟩:=List.getElem_of_mem hy
  exact hv.kid i hi) hk ks _ _ _ _ _ _ s1 l.length (Nat.le_refl _) (by omega) c2 t2 o2
 rw [feedX_then e3]
 obtain ⟨y4,e4,s4⟩:=d3.shut mListE.tail 7 (lastX_snoc _ _) (by decide) (fun q=>absurd q (by decide)) k13 (by omega) o3
 refine ⟨y4,e4,?_⟩
 rw [List.dropLast_concat] at s4
 have et:T + (mList.tail.length + 1) + (xel n l l.length).length + (mListE.tail.length + 1)=T + (mList.tail.length + 1 + ((xel n l l.length).length + (mListE.tail.length + 1))):=by omega
 rw [et] at s4
 have el:told++[zr 7]++kids n h l l.length++[evE]=told++zr 7 :: (kids n h l l.length++[evE]):=by simp
 rw [el] at s4
 exact s4
theorem vx_fields (vf:VX n) (h:Hd) (l:List (VT n)) (hv:∀ y∈l,Vo n y) (hk:h.kind=8) (hn:h.names.length=l.length) (hz:∀ s∈h.names,s.size≤64) (ks:List Int) (told:List Hd) (st:Xs) (c:List Pa×Bool) (t:Nat×List Tp) (T:Nat) (f:Bool) (hs:Sy st (ks++[8]) told c t T f) :
  ∀ k,k≤l.length→T + (xrc n h.names l k).length≤65536→∀ c' t',Okk c t (kids n h l k) c' t' →
   ∃ z g,feedX st (xrc n h.names l k)=.inr z∧Sy z (ks++[8]) (told++kids n h l k) c' t' (T + (xrc n h.names l k).length) g
 | 0,_,_,c',t',ho=>by
  obtain ⟨rfl,rfl⟩:=ho.nil
  refine ⟨st,f,rfl,?_⟩
  rw [kids_zero,List.append_nil]
  exact hs
 | k + 1,hkl,hT,c',t',ho=>by
  have hkn:k<h.names.length:=by omega
  obtain ⟨k1,k2,k3,k4,k5,k6,k7,k8,k9,k10,k11,k12,k13,k14,k15,k16,k17,k18,k19,k20⟩:=marks
  rw [xrc_succ n h.names l k (by omega) hkn] at hT ⊢
  rw [kids_succ n h l k (by omega)] at ho ⊢
  have hp:preN h k=[evN h.names[k]]:=by unfold preN;rw [if_pos hk,List.getElem?_eq_getElem hkn];rfl
  rw [hp,List.append_assoc] at ho ⊢
  obtain ⟨c1,t1,o1,o2⟩:=ho.split
  obtain ⟨c2,t2,o2,o3⟩:=o2.split
  have eq1:mField++(xeL (bl h.names[k])++(mNameE++(xtx n l[k]++mFieldE)))=((60 :: mField.tail)++(xeL (bl h.names[k])++mNameE))++(xtx n l[k]++(60 :: mFieldE.tail)):=by
   simp only [List.append_assoc];rfl
  rw [eq1] at hT ⊢
  have hle:(xrc n h.names l k++(((60 :: mField.tail)++(xeL (bl h.names[k])++mNameE))++(xtx n l[k]++(60 :: mFieldE.tail)))).length=(xrc n h.names l k).length + (((60 :: mField.tail)++(xeL (bl h.names[k])++mNameE)).length + ((xtx n l[k]).length + (mFieldE.tail.length + 1))):=by simp only [List.length_append,List.length_cons]
  rw [hle] at hT ⊢
  clear hle
  obtain ⟨z,g,e1,d1⟩:=vx_fields vf h l hv hk hn hz ks told st c t T f hs k (by omega) (by omega) c1 t1 o1
  rw [feedX_then e1]
  have hmem:=List.getElem_mem hkn
  obtain ⟨y4,e4,s4⟩:=d1.name 10 (Or.inl ⟨rfl,lastX_snoc _ _⟩) mField.tail k16 h.names[k] (by have:=hz _ hmem;rw [bl_length];omega) (by omega) o2
  rw [feedX_then e4]
  obtain ⟨z2,e6,d6⟩:=vf l[k] (hv _ (List.getElem_mem _)) y4 _ _ _ _ _ _ s4 (by rw [lastX_snoc];decide) (Or.inr rfl) (by omega) c' t' o3
  rw [feedX_then e6]
  obtain ⟨y7,e7,s7⟩:=d6.shutF mFieldE.tail (lastX_snoc _ _) k17 (by omega)
  refine ⟨y7,true,e7,?_⟩
  rw [List.dropLast_concat] at s7
  have el:told++kids n h l k++[evN h.names[k]]++fl n l[k]=told++(kids n h l k++([evN h.names[k]]++fl n l[k])):=by simp
  have et:T + (xrc n h.names l k).length + (60 :: mField.tail++(xeL (bl h.names[k])++mNameE)).length + (xtx n l[k]).length + (mFieldE.tail.length + 1)=T + ((xrc n h.names l k).length + ((60 :: mField.tail++(xeL (bl h.names[k])++mNameE)).length + ((xtx n l[k]).length + (mFieldE.tail.length + 1)))):=by omega
  rw [et] at s7
  have s7':Sy y7 (ks++[8]) (told++kids n h l k++[evN h.names[k]]++fl n l[k]) c' t' _ true:=s7
  rw [el] at s7'
  exact s7'
theorem vx_rec (vf:VX n) (h:Hd) (l:List (VT n)) (hv:Vo (n + 1) ((h,l):VT (n + 1))) (hk:h.kind=8) (st:Xs) (ks:List Int) (told:List Hd) (c:List Pa×Bool) (t:Nat×List Tp) (T:Nat) (f:Bool) (hs:Sy st ks told c t T f) (h8:lastK ks≠8) (h7:lastK ks=7∨f=false)
  (ht:T + (xtx (n + 1) ((h,l):VT (n + 1))).length≤65536) (c':List Pa×Bool) (t':Nat×List Tp) (hok:Okk c t (fl (n + 1) ((h,l):VT (n + 1))) c' t') :
  ∃ z,feedX st (xtx (n + 1) ((h,l):VT (n + 1)))=.inr z∧Sy z ks (told++fl (n + 1) ((h,l):VT (n + 1))) c' t' (T + (xtx (n + 1) ((h,l):VT (n + 1))).length) true:=by
 have b3:strip h=zr h.kind:=hv.1.1.2.2.1
 obtain ⟨hn,hm⟩:=hv.1.2.1.2.2.1 hk
 have hn:h.names.length=l.length:=hn
 have hz:∀ s∈h.names,s.size≤64:=hv.2.1.2.2.1
 have hfl:fl (n + 1) ((h,l):VT (n + 1))=zr 8 :: (kids n h l l.length++[evE]):=by rw [fl_succ,if_neg (by omega),head_8 b3 hk]
 obtain ⟨k1,k2,k3,k4,k5,k6,k7,k8,k9,k10,k11,k12,k13,k14,k15,k16,k17,k18,k19,k20⟩:=marks
 rw [hfl] at hok ⊢
 rw [xtx_8 hk] at ht ⊢
 rw [show mRec=60 :: mRec.tail from rfl,show mRecE=60 :: mRecE.tail from rfl] at ht ⊢
 simp only [List.length_append,List.length_cons] at ht ⊢
 obtain ⟨c1,t1,o1,o2⟩:=hok.cons
 obtain ⟨c2,t2,o2,o3⟩:=o2.split
 obtain ⟨y1,e1,s1⟩:=hs.opn h8 h7 mRec.tail 8 k14 (by omega) o1
 rw [feedX_then e1]
 obtain ⟨z,g,e3,d3⟩:=vx_fields vf h l (fun y hy=>by
  obtain ⟨i,hi,rfl⟩:=List.getElem_of_mem hy
  exact hv.kid i hi) hk hn hz ks _ _ _ _ _ _ s1 l.length (Nat.le_refl _) (by omega) c2 t2 o2
 rw [feedX_then e3]
 obtain ⟨y4,e4,s4⟩:=d3.shut mRecE.tail 8 (lastX_snoc _ _) (by decide) (fun q=>absurd q (by decide)) k15 (by omega) o3
 refine ⟨y4,e4,?_⟩
 rw [List.dropLast_concat] at s4
 have et:T + (mRec.tail.length + 1) + (xrc n h.names l l.length).length + (mRecE.tail.length + 1)=T + (mRec.tail.length + 1 + ((xrc n h.names l l.length).length + (mRecE.tail.length + 1))):=by omega
 rw [et] at s4
 have el:told++[zr 8]++kids n h l l.length++[evE]=told++zr 8 :: (kids n h l l.length++[evE]):=by simp
 rw [el] at s4
 exact s4
theorem vx_tag (vf:VX n) (h:Hd) (l:List (VT n)) (hv:Vo (n + 1) ((h,l):VT (n + 1))) (hk:h.kind=9) (st:Xs) (ks:List Int) (told:List Hd) (c:List Pa×Bool) (t:Nat×List Tp) (T:Nat) (f:Bool) (hs:Sy st ks told c t T f) (h8:lastK ks≠8) (h7:lastK ks=7∨f=false)
  (ht:T + (xtx (n + 1) ((h,l):VT (n + 1))).length≤65536) (c':List Pa×Bool) (t':Nat×List Tp) (hok:Okk c t (fl (n + 1) ((h,l):VT (n + 1))) c' t') :
  ∃ z,feedX st (xtx (n + 1) ((h,l):VT (n + 1)))=.inr z∧Sy z ks (told++fl (n + 1) ((h,l):VT (n + 1))) c' t' (T + (xtx (n + 1) ((h,l):VT (n + 1))).length) true:=by
 have b3:strip h=zr h.kind:=hv.1.1.2.2.1
 obtain ⟨ox,ol⟩:=hv.1.2.1.2.2.2 hk
 have ol:l.length=1:=ol
 have s1:(h.text.size:Int)≤(bif h.kind==9 then 64 else 4096):=hv.2.1.1
 have s1':h.text.size≤64:=by rw [hk] at s1;simp at s1;omega
 obtain ⟨v,rfl⟩:∃ v,l=[v]:=by
  match l,ol with
  | [v],_=>exact ⟨v,rfl⟩
 have hfl:fl (n + 1) ((h,[v]):VT (n + 1))=evTag h.text :: (fl n v++[evE]):=by
  rw [fl_succ,if_neg (by omega),head_9 b3 hk]
  have:kids n h [v] [v].length=fl n v:=by
   show kids n h [v] (0 + 1)=_
   rw [kids_succ n h [v] 0 (by simp),kids_zero]
   have hp:preN h 0=[]:=by unfold preN;rw [if_neg (by omega)]
   rw [hp];rfl
  rw [this]
 obtain ⟨k1,k2,k3,k4,k5,k6,k7,k8,k9,k10,k11,k12,k13,k14,k15,k16,k17,k18,k19,k20⟩:=marks
 rw [hfl] at hok ⊢
 rw [xtx_9 hk] at ht ⊢
 have ev:(([v]:List (VT n))[0]?).elim [] (xtx n)=xtx n v:=rfl
 have eq1:mTag++(xeL (bl h.text)++(mNameE++(xtx n v++mTagE)))=((60 :: mTag.tail)++(xeL (bl h.text)++mNameE))++(xtx n v++(60 :: mTagE.tail)):=by
  simp only [List.append_assoc];rfl
 rw [ev,eq1] at ht ⊢
 have hle:(((60 :: mTag.tail)++(xeL (bl h.text)++mNameE))++(xtx n v++(60 :: mTagE.tail))).length=((60 :: mTag.tail)++(xeL (bl h.text)++mNameE)).length + ((xtx n v).length + (mTagE.tail.length + 1)):=by simp only [List.length_append,List.length_cons]
 rw [hle] at ht ⊢
 clear hle
 obtain ⟨c1,t1,o1,o2⟩:=hok.cons
 obtain ⟨c2,t2,o2,o3⟩:=o2.split
 obtain ⟨y4,e4,s4⟩:=hs.name 9 (Or.inr ⟨rfl,h8,h7⟩) mTag.tail k18 h.text (by rw [bl_length];omega) (by omega) o1
 rw [feedX_then e4]
 obtain ⟨z2,e6,d6⟩:=vf v (hv.kid 0 (by simp)) y4 _ _ _ _ _ _ s4 (by rw [lastX_snoc];decide) (Or.inr rfl) (by omega) c2 t2 o2
 rw [feedX_then e6]
 obtain ⟨y7,e7,s7⟩:=d6.shut mTagE.tail 9 (lastX_snoc _ _) (by decide) (fun _=>rfl) k19 (by omega) o3
 refine ⟨y7,e7,?_⟩
 rw [List.dropLast_concat] at s7
 have el:told++[evTag h.text]++fl n v++[evE]=told++evTag h.text :: (fl n v++[evE]):=by simp
 have et:T + (60 :: mTag.tail++(xeL (bl h.text)++mNameE)).length + (xtx n v).length + (mTagE.tail.length + 1)=T + ((60 :: mTag.tail++(xeL (bl h.text)++mNameE)).length + ((xtx n v).length + (mTagE.tail.length + 1))):=by omega
 rw [et] at s7
 have s7':Sy y7 ks (told++[evTag h.text]++fl n v++[evE]) c' t' _ true:=s7
 rw [el] at s7'
 exact s7'
end
theorem vx_all:∀ n,VX n
 | 0=>fun x=>Empty.elim x
 | n + 1=>by
  have ih:=vx_all n
  intro x hv st ks told c t T f hs h8 h7 ht c' t' hok
  obtain ⟨h,l⟩:=x
  have b1:1≤h.kind:=hv.1.1.1
  have b2:h.kind≤9:=hv.1.1.2.1
  by_cases q7:h.kind<7
  ·exact vx_leaf h l hv q7 st ks told c t T f hs h8 h7 ht c' t' hok
  by_cases q8:h.kind=7
  ·exact vx_list ih h l hv q8 st ks told c t T f hs h8 h7 ht c' t' hok
  by_cases q9:h.kind=8
  ·exact vx_rec ih h l hv q9 st ks told c t T f hs h8 h7 ht c' t' hok
  ·exact vx_tag ih h l hv (by omega) st ks told c t T f hs h8 h7 ht c' t' hok
theorem sy_x0:Sy x0 [] [] ([],false) (0,[]) 0 false:=⟨rfl,rfl,rfl,rfl,rfl,rfl,rfl,rfl,rfl,rfl,rfl⟩
theorem readX_doc (n:Nat) (x:VT n) (hv:Vo n x) (hl:(xtx n x).length≤65536) (t':Nat×List Tp) (hc:runE (fl n x)=some ([],true)) (ht:runT (some (0,[])) (fl n x)=some t'):readX (xtx n x)=.inr (fl n x):=by
 obtain ⟨z,e1,d1⟩:=vx_all n x hv x0 [] [] _ _ 0 false sy_x0 (by decide) (Or.inr rfl) (by omega) _ _ ⟨hc,ht⟩
 rw [readX_eq,e1]
 show bnd (finX z) _=_
 unfold finX
 rw [if_neg (by rw [d1.mark,d1.ks,d1.fil];simp),if_neg (by rw [d1.pas];decide)]
 show Sum.inr z.t.told=_
 rw [d1.told]
 rfl
end Go.Proofs.YthodiandebahdaaGreatDoor
