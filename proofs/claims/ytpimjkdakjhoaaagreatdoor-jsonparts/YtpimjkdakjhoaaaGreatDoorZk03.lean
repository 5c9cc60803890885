/- Merged by program: NpFormF, NqAdd, NrSum, OgPrint, JbHex, JcHex, JdText, JfSmall. -/
import Derived.Test.YtpimjkdakjhoaaaGreatDoorZk02
namespace Go.Proofs.YtpimjkdakjhoaaaGreatDoor
open Go.RowKit
set_option linter.unusedSimpArgs false
set_option linter.unusedVariables false
set_option maxHeartbeats 8000000
def dz (d:List Nat):List Nat:=d.drop (lz d)
def core (d:List Nat):List Nat:=(dz d).take ((dz d).length - tz (dz d))
def formF (neg:Bool) (d:List Nat) (x:Int):Bool×ByteArray×Int×Int :=
 if lz d=d.length then (false,⟨#[48]⟩,0,0)
 else if (core d).length≤40∧-400≤x + tz (dz d)∧x + tz (dz d)≤400 then (neg,mkS (core d),x + tz (dz d),0) else (false,⟨#[]⟩,0,2)
def retF (r:Bool×ByteArray×Int×Int):Ending:=.returned (.tuple #[.agg #[.bool r.1,.string r.2.1,.int .i64 r.2.2.1],.int .i64 r.2.2.2])
theorem lz_le (d:List Nat):lz d≤d.length:=(List.takeWhile_prefix _).length_le
theorem tz_le (d:List Nat):tz d≤d.length:=by have:=lz_le d.reverse;simpa [tz] using this
theorem form_any (neg:Bool) (b o n c:Nat) (d:List Nat) (x:Int) (w:World) (hd:d.length=n) (hn0:0<n) (hn:n≤100000) (hc:n≤c) (hc':c≤100000) (hb:b<w.heap.size)
  (hcell:∀ i (h:i<d.length),w.cell? ⟨b,o + i,none⟩=some (.int .u8 (d[i]:Nat))) (hx:-1000000≤x) (hx':x≤1000000) (hdg:Dgs d) :
  Calls Tryz.prog 152 #[.bool neg,.slice (some ⟨b,o,none⟩) n c,.int .i64 x] w fun e w'=>e=retF (formF neg d x)∧Below w.heap.size w w':=by
 by_cases hz:lz d=n
 ·refine (form_zero neg b o n c d x w hd hn0 hn hc hc' hb hcell hz).mono ?_
  rintro e w' ⟨rfl,hB⟩
  refine ⟨?_,hB⟩
  unfold formF;rw [if_pos (by rw [hd];exact hz)];rfl
 ·have:=lz_le d
  have hl:(dz d).length=n - lz d:=by rw [dz,List.length_drop,hd]
  refine (form_some neg b o n c d (dz d) (core d) (n - lz d) (tz (dz d)) x w hd hn hc hc' hb hcell (by omega) hx hx' rfl rfl rfl (by rw [core,hl]) hdg _ rfl).mono ?_
  rintro e w' ⟨rfl,hB⟩
  refine ⟨?_,hB⟩
  have e1:formF neg d x=if (core d).length≤40∧-400≤x + tz (dz d)∧x + tz (dz d)≤400 then (neg,mkS (core d),x + tz (dz d),0) else (false,⟨#[]⟩,0,2):=by
   unfold formF;rw [if_neg (by rw [hd];exact hz)]
  rw [e1]
  by_cases h:(core d).length≤40∧-400≤x + tz (dz d)∧x + tz (dz d)≤400
  ·rw [if_pos h,decide_eq_true h];rfl
  ·rw [if_neg h,decide_eq_false h];rfl
theorem take_lz (d:List Nat):d.take (lz d)=List.replicate (lz d) 0:=by
 induction d with
 | nil=>rfl
 | cons a d ih =>
  by_cases h:a=0
  ·subst h
   have:lz (0 :: d)=lz d + 1:=by simp [lz]
   rw [this,List.take_succ_cons,ih,List.replicate_succ]
  ·have:lz (a :: d)=0:=by simp [lz,h]
   rw [this];rfl
theorem lz_split (d:List Nat):d=List.replicate (lz d) 0++dz d:=by
 rw [←take_lz,dz,List.take_append_drop]
theorem tz_split (d:List Nat):d=d.take (d.length - tz d)++List.replicate (tz d) 0:=by
 have h:=take_lz d.reverse
 have:=congrArg List.reverse h
 rw [List.reverse_take,List.reverse_reverse,List.length_reverse,List.reverse_replicate] at this
 conv=>lhs;rw [←List.take_append_drop (d.length - tz d) d]
 rw [show d.drop (d.length - tz d)=List.replicate (tz d) 0 from this]
theorem core_split (d:List Nat):d=List.replicate (lz d) 0++(core d++List.replicate (tz (dz d)) 0):=by
 conv=>lhs;rw [lz_split d]
 congr 1
 exact tz_split (dz d)
theorem core_val (d:List Nat):val d=val (core d) * 10 ^ tz (dz d):=by
 conv=>lhs;rw [core_split d]
 rw [val_zero_left,val_zero_right]
theorem lz_head (d:List Nat) (h:lz d<d.length):∀ c,(dz d).head?=some c→c≠0:=by
 intro c hc
 have:=lz_ne d h
 rw [dz,List.head?_drop,List.getElem?_eq_getElem h] at hc
 rw [←Option.some.inj hc];exact this
theorem tz_lt (d:List Nat) (h:lz d<d.length):tz (dz d)<(dz d).length:=by
 have h1:=tz_le (dz d)
 have hl:0<(dz d).length:=by rw [dz,List.length_drop];omega
 by_cases e:tz (dz d)<(dz d).length
 ·exact e
 ·have h2:=tz_split (dz d)
  rw [show (dz d).length - tz (dz d)=0 by omega,List.take_zero,List.nil_append] at h2
  have h3:(dz d).head?=some 0:=by
   rw [h2,List.head?_replicate,if_neg (by omega)]
  exact absurd rfl (lz_head d h 0 h3)
theorem core_len (d:List Nat):(core d).length=(dz d).length - tz (dz d):=by rw [core,List.length_take];omega
theorem core_can (d:List Nat) (h:lz d<d.length) (hd:Dgs d):Can (core d)∧core d≠[]:=by
 have h1:=tz_lt d h
 have hl:=core_len d
 have hne:core d≠[]:=by intro e;rw [e] at hl;simp at hl;omega
 refine ⟨⟨?_,?_,?_⟩,hne⟩
 ·intro x hx
  exact hd x (List.mem_of_mem_drop (List.mem_of_mem_take hx))
 ·intro c hc
  refine lz_head d h c ?_
  rw [core,List.head?_take,if_neg (by omega)] at hc
  exact hc
 ·intro c hc
  have h2:=lz_ne (dz d).reverse (by simpa [tz] using h1)
  rw [List.getElem_reverse] at h2
  rw [core,List.getLast?_take,if_neg (by omega)] at hc
  rw [List.getElem?_eq_getElem (by omega)] at hc
  simp only [Option.some_or] at hc
  have e:(dz d).length - tz (dz d) - 1=(dz d).length - 1 - lz (dz d).reverse:=by unfold tz;omega
  simp only [e] at hc
  rw [←Option.some.inj hc];exact h2
theorem mkS_size (l:List Nat):(mkS l).size=l.length:=by simp [mkS,strOfNums_size]
theorem mkS_bl (l:List Nat):bl (mkS l)=l.map fun v=>UInt8.ofNat (v + 48):=by
 unfold bl mkS
 rw [strOfNums_data,List.map_map]
 apply List.map_congr_left
 intro v _
 show UInt8.ofNat ((v:Int) + 48).toNat=_
 congr 1
theorem ofNat_toNat (v:Nat) (h:v≤9):(UInt8.ofNat (v + 48)).toNat=v + 48:=by
 rw [UInt8.toNat_ofNat'];omega
theorem mkS_dg (l:List Nat) (h:Dgs l):dg (mkS l)=l:=by
 unfold dg
 rw [mkS_bl,List.map_map]
 conv=>rhs;rw [←List.map_id l]
 apply List.map_congr_left
 intro v hv
 show (UInt8.ofNat (v + 48)).toNat - 48=v
 rw [ofNat_toNat v (h v hv)];omega
theorem mkS_all (l:List Nat) (h:Dgs l):allD (bl (mkS l))=true:=by
 rw [mkS_bl]
 unfold allD
 rw [List.all_eq_true]
 intro c hc
 rw [List.mem_map] at hc
 obtain ⟨v,hv,rfl⟩:=hc
 rw [isDig_iff,ofNat_toNat v (h v hv)]
 have:=h v hv
 omega
theorem mkS_isO (l:List Nat) (x:Int) (h:Can l) (hne:l≠[]) (h40:l.length≤40) (hx:-400≤x) (hx':x≤400):isO (bl (mkS l)) x=true:=by
 have hl:1≤l.length:=List.length_pos_iff.2 hne
 simp only [isO,Bool.and_eq_true,decide_eq_true_eq,bne_iff_ne,ne_eq]
 refine ⟨⟨⟨⟨⟨?_,?_⟩,hx,hx'⟩,mkS_all l h.dgs⟩,?_⟩,?_⟩
 ·rw [bl_length,mkS_size];exact hl
 ·rw [bl_length,mkS_size];exact h40
 ·rw [mkS_bl,List.head?_map]
  intro e
  cases hh:l.head? with
  | none=>rw [hh] at e;cases e
  | some v =>
   rw [hh] at e
   have e1:=Option.some.inj e
   have e2:=congrArg UInt8.toNat e1
   have hm:v∈l:=List.mem_of_head? hh
   have h9:=h.dgs v hm
   rw [ofNat_toNat v h9] at e2
   have:=h.first v hh
   have:(48:UInt8).toNat=48:=rfl
   omega
 ·rw [mkS_bl,List.getLast?_map]
  intro e
  cases hh:l.getLast? with
  | none=>rw [hh] at e;cases e
  | some v =>
   rw [hh] at e
   have e1:=Option.some.inj e
   have e2:=congrArg UInt8.toNat e1
   have hm:v∈l:=List.mem_of_getLast? hh
   have h9:=h.dgs v hm
   rw [ofNat_toNat v h9] at e2
   have:=h.last v hh
   have:(48:UInt8).toNat=48:=rfl
   omega
def IsSum (Z:Int) (r:Bool×ByteArray×Int×Int):Prop :=
 (r.2.2.2=0∧isN r.1 r.2.1 r.2.2.1=true∧Zv r.1 r.2.1 r.2.2.1=Z)∨(r=(false,⟨#[]⟩,0,2)∧∀ n s x,isN n s x=true→Zv n s x≠Z)
theorem formF_sum (neg:Bool) (d:List Nat) (x:Int) (hd:Dgs d) (hx:-400≤x):IsSum (if neg then -((val d * 10 ^ (x + 400).toNat:Nat):Int) else (val d * 10 ^ (x + 400).toNat:Nat)) (formF neg d x):=by
 unfold formF
 by_cases hz:lz d=d.length
 ·rw [if_pos hz]
  left
  refine ⟨rfl,rfl,?_⟩
  have h0:val d=0:=by
   rw [lz_split d,dz,hz,List.drop_length,List.append_nil,val_zeros]
  rw [h0]
  have:=(isZ_mag (n:=false) (s:=⟨#[48]⟩) (x:=0) rfl).2.2.2
  rw [this]
  simp
 ·have hlt:lz d<d.length:=by have:=lz_le d;omega
  rw [if_neg hz]
  obtain ⟨hc,hne⟩:=core_can d hlt hd
  have hv:=core_val d
  have hmag:val d * 10 ^ (x + 400).toNat=val (core d) * 10 ^ (x + tz (dz d) + 400).toNat:=by
   rw [hv,Nat.mul_assoc,←Nat.pow_add]
   congr 2
   omega
  by_cases hf:(core d).length≤40∧-400≤x + tz (dz d)∧x + tz (dz d)≤400
  ·rw [if_pos hf]
   left
   have ho:=mkS_isO (core d) (x + tz (dz d)) hc hne hf.1 hf.2.1 hf.2.2
   refine ⟨rfl,by simp [isN,ho],?_⟩
   show Zv neg (mkS (core d)) (x + tz (dz d))=_
   rw [hmag]
   unfold Zv mag
   rw [mkS_dg _ hc.dgs]
  ·rw [if_neg hf]
   right
   refine ⟨rfl,fun n s y h e=>hf ?_⟩
   have hp:0<val d * 10 ^ (x + 400).toNat:=by
    rw [hmag]
    exact Nat.mul_pos (val_pos_of_last _ hne hc.last) (Nat.pow_pos (by decide))
   simp only [isN,Bool.or_eq_true] at h
   rcases h with h|h
   ·have:=(isZ_mag h).2.2.2
    rw [this] at e
    split at e <;> omega
   ·obtain ⟨b1,b2,b3,b4,b5,b6,b7⟩:=isO_facts h
    have hm:mag s y=val d * 10 ^ (x + 400).toNat:=by
     have:=isO_pos h
     unfold Zv at e
     split at e <;> split at e <;> omega
    rw [hmag] at hm
    obtain ⟨e1,e2⟩:=can_inj b6 hc b7 hne hm
    rw [←e1,dg_length]
    refine ⟨b2,?_⟩
    omega
theorem isSum_unique {Z:Int} {r r':Bool×ByteArray×Int×Int} (h:IsSum Z r) (h':IsSum Z r'):r=r':=by
 obtain ⟨n,s,x,e⟩:=r
 obtain ⟨n',s',x',e'⟩:=r'
 rcases h with ⟨h1,h2,h3⟩|⟨h1,h2⟩ <;> rcases h' with ⟨g1,g2,g3⟩|⟨g1,g2⟩
 ·obtain ⟨r1,r2,r3⟩:=num_inj h2 g2 (h3.trans g3.symm)
  simp only at h1 g1 r1 r2 r3
  subst h1 g1 r1 r2 r3
  rfl
 ·exact absurd h3 (g2 _ _ _ h2)
 ·exact absurd g3 (h2 _ _ _ g2)
 ·rw [h1,g1]
def Box (W:World) (i:Nat) (n:Bool) (s:ByteArray) (x:Int):Prop:=W.heap[i]?=some (.cells #[.bool n,.string s,.int .i64 x] 24 (0,0))
theorem Box.cells {W:World} {i:Nat} {n:Bool} {s:ByteArray} {x:Int} (h:Box W i n s x) :
  W.cell? ⟨i,0,none⟩=some (.bool n)∧W.cell? ⟨i,1,none⟩=some (.string s)∧W.cell? ⟨i,2,none⟩=some (.int .i64 x)∧W.frozen? ⟨i,0,none⟩=false∧W.frozen? ⟨i,1,none⟩=false∧W.frozen? ⟨i,2,none⟩=false:=by
 unfold Box at h
 simp [World.cell?,World.frozen?,h]
theorem Box.lt {W:World} {i:Nat} {n:Bool} {s:ByteArray} {x:Int} (h:Box W i n s x):i<W.heap.size:=by
 unfold Box at h
 by_cases hlt:i<W.heap.size
 ·exact hlt
 ·have hn:W.heap[i]?=none:=by simp;omega
  rw [hn] at h;cases h
theorem Box.below {W W1:World} {i B:Nat} {n:Bool} {s:ByteArray} {x:Int} (h:Box W i n s x) (hb:Below B W W1) (hi:i<B):Box W1 i n s x:=by
 unfold Box at h ⊢;rw [hb.block i hi];exact h
theorem Box.only {W W1:World} {i b:Nat} {n:Bool} {s:ByteArray} {x:Int} (h:Box W i n s x) (hb:Only b W W1) (hi:i≠b):Box W1 i n s x:=by
 unfold Box at h ⊢;rw [hb.block i hi];exact h
theorem box_new (w:World) (n:Bool) (s:ByteArray) (x:Int):Box (w.alloc (.cells #[.bool n,.string s,.int .i64 x] 24)) w.heap.size n s x:=by
 unfold Box
 show (w.heap.push _)[w.heap.size]?=_
 simp
theorem Box.alloc {W:World} {i:Nat} {n:Bool} {s:ByteArray} {x:Int} (h:Box W i n s x) (o:Obj):Box (W.alloc o) i n s x:=by
 have hl:=h.lt
 unfold Box at h ⊢
 rw [←h]
 exact Below.heap_alloc W o i hl
theorem isN_all {n:Bool} {s:ByteArray} {x:Int} (h:isN n s x=true):allD (bl s)=true∧1≤s.size∧s.size≤40∧-400≤x∧x≤400∧Dgs (dg s):=by
 cases hz:isZ n s x
 ·have ho:isO (bl s) x=true:=by simpa [isN,hz] using h
  obtain ⟨a1,a2,a3,a4,a5,a6,a7⟩:=isO_facts ho
  exact ⟨a5,a1,a2,a3,a4,a6.dgs⟩
 ·obtain ⟨_,h2,h3⟩:=isZ_facts hz
  have h4:=(isZ_mag hz).2.1
  have h5:allD (bl s)=true:=by rw [h2];rfl
  exact ⟨h5,by omega,by omega,by omega,by omega,dg_dgs s h5⟩
structure Two (na:Bool) (a:ByteArray) (xa:Int) (nb:Bool) (b:ByteArray) (xb y low:Int):Prop where
 n1:isN na a xa=true
 n2:isN nb b xb=true
 le:mag b xb≤mag a xa
 y0:isZ nb b xb=true→y=xa
 y1:isZ nb b xb=false→y=xb
 l0:low=min xa y
theorem own_conv {W:World} {B:Nat} {v:Value} {l:List UInt8} (h:Own W B v l):(convert 32 9 v).run Tryz.prog W=.ok (.string (mkB l)) W:=by
 have hc:=h
 obtain ⟨h0,h⟩:=h
 rcases h with ⟨rfl,hn⟩|⟨g,cap,cur,rfl,hg,hh,h1,h2,h3,h4⟩
 ·have:l=[]:=List.eq_nil_of_length_eq_zero hn
  subst this
  exact run_convert_bytes_nil W 32 5 Tryz.underlying32 Tryz.underlying5 0 0 9 Tryz.underlying9
 ·refine run_convert_bytes_back W 32 9 5 ⟨g,0,none⟩ cap l Tryz.underlying32 Tryz.underlying5 Tryz.underlying9 (fun j hj=>?_)
  have hcells:∀ j u,(bcs l)[j]?=some u→W.cell? ((⟨g,0,none⟩:Addr).add j)=some u:=World.ownsRow.cells hc (g:=g) rfl
  exact hcells j _ (by simp [bcs,List.getElem?_eq_getElem hj])
def sgnB (n:Bool):List UInt8:=if n then [45] else []
def hx (d:Nat):UInt8:=if d<10 then UInt8.ofNat (48 + d) else UInt8.ofNat (87 + d)
def hexL (l:List UInt8):List UInt8:=l.flatMap fun c=>[hx (c.toNat / 16),hx (c.toNat % 16)]
theorem hexL_snoc (l:List UInt8) (c:UInt8):hexL (l++[c])=hexL l++[hx (c.toNat / 16),hx (c.toNat % 16)]:=by simp [hexL]
theorem hexL_len (l:List UInt8):(hexL l).length=2 * l.length:=by
 induction l with
 | nil=>rfl
 | cons a l ih=>simp only [hexL,List.flatMap_cons,List.length_append,List.length_cons,List.length_nil] at ih ⊢;omega
theorem hxd_get (d:Nat) (h:d<16) (h':d<(⟨#[48,49,50,51,52,53,54,55,56,57,97,98,99,100,101,102]⟩:ByteArray).size):(⟨#[48,49,50,51,52,53,54,55,56,57,97,98,99,100,101,102]⟩:ByteArray)[d]=hx d:=by
 have:d=0∨d=1∨d=2∨d=3∨d=4∨d=5∨d=6∨d=7∨d=8∨d=9∨d=10∨d=11∨d=12∨d=13∨d=14∨d=15:=by omega
 rcases this with rfl|rfl|rfl|rfl|rfl|rfl|rfl|rfl|rfl|rfl|rfl|rfl|rfl|rfl|rfl|rfl <;> rfl
theorem step_bytes {w:World} {ops:Array Oper} {o:Oper} {a:Act} {K:Act→World→Prop} {Q:Exit→Act→World→Prop} {E:Prop} (hgd:o.guard=none) (s x:Operand) (ho:o.op=.call {callee:=.builtin .append,args:=#[s,x],argTypes:=#[32,32]})
  (B:Nat) (v:Value) (l:List UInt8) (hs:a.eval s=v) (hown:Own w B v l) (ad:Addr) (m c:Nat) (news:List UInt8) (hx:a.eval x=.slice (some ad) m c) (hm:news.length=m)
  (hnews:∀ j u,(bcs news)[j]?=some u→w.cell? (ad.add j)=some u) (hl:l.length + m≤1000000) (hB:B≤w.heap.size) (hp:0<l.length + m)
  (h:∀ av c' w',Hid (Own w' B (.slice av (l.length + m) c') (l++news))→Hid (Below B w w')→w.heap.size≤w'.heap.size→K (a.put o.dst (.slice av (l.length + m) c')) w') :
  if Region.wanted o (yielded ops a.tmps)=true then Oper.wp Tryz.prog o a w K Q else E:=by
 have hw:Region.wanted o (yielded ops a.tmps)=true:=by simp [Region.wanted,hgd]
 rw [if_pos hw]
 obtain ⟨i0,hi,hz0,hz1,hz2⟩:=info_parts info5
 obtain ⟨v',w',hr,h1,h2,h3⟩:=run_append_own (P:=Tryz.prog) w B 32 o.type 5 i0 _ 1 1 Tryz.underlying32 hi hz0 hz1 hz2 rfl (by decide) v l.length (bcs l) hown ad m c (bcs news) (by rw [bcs_length,hm];simp) hnews (by
  intro u hu
  simp only [bcs,List.mem_map] at hu
  obtain ⟨c,_,rfl⟩:=hu
  rfl) (by unfold maxLen;omega) (by omega) hB
 unfold Oper.wp execOp
 simp only [ho,resolve,invoke,builtin,Sem.run_bind,Sem.run_pure,Result.andThen_ok,List.map_toArray,List.map_cons,List.map_nil,hs,hx,hr]
 have hO:Own w' B v' (l++news):=by unfold Own;rw [bcs_append,List.length_append,hm];exact h1
 rcases h1.2 with ⟨rfl,e⟩|⟨g',cap,cur,rfl,_⟩
 ·omega
 ·exact h _ _ w' hO ((Below.refl B w).grown h2 hB hown.row) h2.size
set_option maxRecDepth 100000 in
theorem jhex_any (s:ByteArray) (w:World) (hs:s.size≤40000) :
  Calls Tryz.prog 47 #[.string s] w fun e w'=>e=.returned (.string (mkB (hexL (bl s))))∧Below w.heap.size w w':=by
 have hw:IntKind.i64.wrap (2 * (s.size:Int))=2 * (s.size:Int):=by rw [IntKind.wrap_i64] <;> omega
 obtain ⟨i0,hi,hz0,hz1,hz2⟩:=info_parts info5
 go_enter Tryz.func47, Tryz.ntmps47
 go_wp2_with (refine wpList_make_own w rfl _ _ 32 rfl w.heap.size 5 i0 (.int .u8 0) 1 Tryz.underlying32 hi hz0 hz1 .i64 .i64 _ (2 * s.size) rfl rfl (by simp) (by rw [hz2];omega) (by unfold maxLen;omega) (Nat.le_refl _) ?_;refine Sto.out ?_)
 refine Sto.mk ?_
 intro w1 ho1 hg1
 have O1:Hid (Own w1 w.heap.size (.slice (some ⟨w.heap.size,0,none⟩) 0 (2 * s.size)) []):=ho1
 have B1:Hid (Below w.heap.size w w1):=(Below.refl _ w).grown hg1 (Nat.le_refl _) (fun k hk=>by cases hk)
 clear ho1 hg1 hi hz0 hz1 hz2
 go_wp2_with fail
 go_loopw [3,11] (fun b i W=>∃ (k:Nat) (a:Option Addr) (cp:Nat),i=.int .i64 k∧b=.slice a (2 * k) cp∧k≤s.size∧Hid (Own W w.heap.size (.slice a (2 * k) cp) (hexL ((bl s).take k))∧Below w.heap.size w W)) (fun _ i _=>s.size - (intOf i).toNat)
 case atStart=>exact ⟨0,_,_,rfl,rfl,Nat.zero_le _,hide ⟨by simpa [hexL] using O1.out,B1.out⟩⟩
 case round =>
  obtain ⟨k,a,cp,rfl,rfl,hk,HH⟩:=hrel
  obtain ⟨hO,hB⟩:=HH.out
  have OR:=hide hO
  have BR:=hide hB
  clear HH hO hB O1 B1
  have zr1:w.heap.size≤wr.heap.size:=BR.out.size
  by_cases hkl:k<s.size
  ·have hki:(k:Int)<(s.size:Int):=by omega
   have hst:=hide (show hexL ((bl s).take (k + 1))=hexL ((bl s).take k)++[hx (s[k].toNat / 16),hx (s[k].toNat % 16)] by
    rw [List.take_succ_eq_append_getElem (by rw [bl_length];exact hkl),hexL_snoc,bl_get s k hkl])
   have hlen:(hexL ((bl s).take k)).length=2 * k:=by rw [hexL_len,List.length_take,bl_length];omega
   obtain ⟨c,hc⟩:∃ c,s[k]=c:=⟨_,rfl⟩
   have hcl:c.toNat<256:=c.toNat_lt
   have hm:bits .and .u8 (c.toNat:Int) 15=((c.toNat % 16:Nat):Int):=by
    have:=u8_and_nat c.toNat 15 hcl (by omega)
    rw [nat_mask4] at this
    exact this
   have hd1:c.toNat / 16<16:=by omega
   have hd2:c.toNat % 16<16:=by omega
   have hds1:c.toNat / 16<(⟨#[48,49,50,51,52,53,54,55,56,57,97,98,99,100,101,102]⟩:ByteArray).size:=hd1
   have hds2:c.toNat % 16<(⟨#[48,49,50,51,52,53,54,55,56,57,97,98,99,100,101,102]⟩:ByteArray).size:=hd2
   have hg1:=hxd_get (c.toNat / 16) hd1 hds1
   have hg2:=hxd_get (c.toNat % 16) hd2 hds2
   rw [hc] at hst
   have hlen':=hide hlen
   clear hlen
   have hn:=hide (news_two wr (hx (c.toNat / 16)) (hx (c.toNat % 16)) 5)
   have hq1:((c.toNat:Int) / 16).toNat=c.toNat / 16:=by omega
   have hq2:(0:Int)≤(c.toNat:Int) / 16:=by omega
   have hq3:(c.toNat:Int) / 16<16:=by omega
   have hq4:((c.toNat:Int) % 16).toNat=c.toNat % 16:=by omega
   have hq5:(0:Int)≤(c.toNat:Int) % 16:=by omega
   have hq6:(c.toNat:Int) % 16<16:=by omega
   go_wp2_with fail
   go_region_law (refine step_bytes rfl (.tmp 14) (.tmp 25) rfl w.heap.size (.slice a (2 * k) cp) (hexL ((bl s).take k)) rfl (ownsRow_of OR.out fun g hg hlt=>(show Below wr.heap.size wr _ by repeat (first|exact Below.refl _ _|refine Below.drew ?_|refine below_al ?_)).block g hlt) ⟨wr.heap.size,0,none⟩ 2 2 [hx (c.toNat / 16),hx (c.toNat % 16)] rfl rfl hn.out (by rw [hlen'.out];omega) (by simp;omega) (by omega) ?_;intro av c' w' ho hb hz;have hO':=hide ho.out;have hB':Hid (Below w.heap.size w w'):=(BR.out.trans ((show Below wr.heap.size wr _ by repeat (first|exact Below.refl _ _|refine Below.drew ?_|refine below_al ?_)).mono zr1)).trans hb.out;clear ho hb)
   all_goals
    go_wp2_with fail
    refine ⟨⟨k + 1,av,c',by go_num,by rw [hlen'.out];rfl,hkl,hide ⟨?_,hB'.out⟩⟩,by simp [intOf];omega⟩
    rw [hst.out]
    have h1:=hO'.out
    rw [hlen'.out] at h1
    exact h1
  ·have hki:¬ ((k:Int)<(s.size:Int)):=by omega
   have hke:k=s.size:=by omega
   have hcv:=own_conv OR.out
   rw [List.take_of_length_le (by rw [bl_length];omega)] at hcv
   clear hkl hke
   go_wp2_with fail
   go_ret
   exact ⟨rfl,BR.out⟩
def escB (c:UInt8):List UInt8:=if c=34∨c=92 then [92,c] else if c.toNat<32 then [92,117,48,48,hx (c.toNat / 16),hx (c.toNat % 16)] else [c]
def escL (l:List UInt8):List UInt8:=l.flatMap escB
def quo (l:List UInt8):List UInt8:=34 :: (escL l++[34])
theorem escL_snoc (l:List UInt8) (c:UInt8):escL (l++[c])=escL l++escB c:=by simp [escL]
theorem escL_app (a b:List UInt8):escL (a++b)=escL a++escL b:=by simp [escL]
theorem bless (c:UInt8):Op.bytesLess [c] [32]=decide (c.toNat<32):=by
 simp [Op.bytesLess,UInt8.lt_iff_toNat_lt]
theorem WO.trans {i:Nat} {A T U:List UInt8} {W w1 w2:World} {e:Ending} (h1:FW i W w1) (hA:A.length + T.length≤65536) (h2:WO i (A++T) U w1 e w2):WO i A (T++U) W e w2:=by
 obtain ⟨hb,h⟩:=h2
 refine ⟨h1.trans hb,?_⟩
 rcases h with ⟨q1,q2,q3⟩|⟨q1,q2⟩
 ·exact Or.inl ⟨by simp at q1 ⊢;omega,q2,by simpa using q3⟩
 ·exact Or.inr ⟨by simp at q1 ⊢;omega,q2⟩
theorem WO.fail {i:Nat} {A T U:List UInt8} {W w1:World} (h1:FW i W w1) (h:65536<A.length + T.length):WO i A (T++U) W (.panicked (pan 2)) w1:=⟨h1,Or.inr ⟨by simp;omega,rfl⟩⟩
theorem byte_str (s:ByteArray) (k:Nat) (h:k<s.size):s.extract k (k + 1)=mkB [s[k]]:=by
 apply ByteArray.ext
 simp [mkB,ByteArray.data_extract]
 apply Array.ext
 ·simp;omega
 ·intro i h1 h2
  simp at h1 h2
  have:i=0:=by omega
  subst this
  simp
  rfl
theorem jcat_run (a b c:ByteArray) (w:World) (h:a++b=c) (hs:a.size + b.size≤100000):(Op.stringOp .add a b).run Tryz.prog w=.ok (.string c) w:=by
 rw [←h];exact run_string_add_sum w a b (by omega)
theorem WB.below {W W1:World} {i:Nat} {A:List UInt8} (h:WB W i A) (hb:Below W.heap.size W W1):WB W1 i A:=by
 have hlt:=h.lt
 obtain ⟨v,h1,h2⟩:=h
 exact ⟨v,(hb.block i hlt).trans h1,ownsRow_of h2 fun g _ hg=>hb.block g hg⟩
set_option maxRecDepth 100000 in
theorem text_any (s:ByteArray) (A:List UInt8) (W:World) (i:Nat) (h:WB W i A) (hA:A.length≤65536) (hs:s.size≤281474976710656) :
  Calls Tryz.prog 46 #[.pointer (some ⟨i,0,none⟩),.string s] W fun e w'=>WO i A (quo (bl s)) W e w':=by
 have hp:=hide (fun s A W (h:WB W i A) (hA:A.length≤65536) (hs:s.size≤281474976710656)=>put_any s A W i h hA hs)
 have hq:=hide (show quo (bl s)=[34]++(escL (bl s)++[34]) from rfl)
 have h':=hide h
 have hA':=hide hA
 clear h hA
 go_enter Tryz.func46, Tryz.ntmps46
 go_wp2_with (go_at_call 41;refine Sto.out ?_)
 refine Sto.mk ((hp.out _ A W h'.out hA'.out (by decide)).mono ?_)
 rintro e w1 ⟨hb1,⟨q1,rfl,hW1⟩|⟨q1,rfl⟩⟩
 ·have B1:=hide hb1
  have W1:Hid (WB w1 i (A++[34])):=hW1
  have Q1:Hid (A.length + 1≤65536):=q1
  clear hb1 hW1 q1
  go_wp2_with fail
  go_loopw [10] (fun j wr=>∃ k:Nat,j=.int .i64 k∧k≤s.size∧Hid (FW i W wr∧WB wr i (A++[34]++escL ((bl s).take k))∧(A++[34]++escL ((bl s).take k)).length≤65536)) (fun j _=>s.size - (intOf j).toNat)
  case atStart=>exact ⟨0,rfl,Nat.zero_le _,hide ⟨B1.out,by simpa [escL] using W1.out,by simpa [escL] using Q1.out⟩⟩
  case round =>
   obtain ⟨k,rfl,hk,HH⟩:=hrel
   obtain ⟨hB,hW,hL⟩:=HH.out
   have BR:=hide hB
   have WR:=hide hW
   have LR:=hide hL
   clear HH hB hW hL B1 W1 Q1
   by_cases hkl:k<s.size
   ·have hki:(k:Int)<(s.size:Int):=by omega
    have hk63:(k:Int)<9223372036854775807:=by omega
    have hk1:(k:Int) + 1≤(s.size:Int):=by omega
    obtain ⟨c,hc⟩:∃ c,s[k]=c:=⟨_,rfl⟩
    have hex:=byte_str s k hkl
    rw [hc] at hex
    obtain ⟨S1,hS1⟩:∃ S1,mkB [c]=S1:=⟨_,rfl⟩
    rw [hS1] at hex
    have hS1':=hide hS1
    have hst:=hide (show escL ((bl s).take (k + 1))=escL ((bl s).take k)++escB c by rw [List.take_succ_eq_append_getElem (by rw [bl_length];exact hkl),escL_snoc,bl_get s k hkl,hc])
    clear hS1
    have hT:S1.toList=[c]:=by rw [←hS1'.out,ByteArray.toList_eq];rfl
    have hfin:Hid (∀ (w1:World) (e:Ending) (w2:World) (T:List UInt8),escB c=T→FW i wr w1→WO i (A++[34]++escL ((bl s).take k)) T w1 e w2→(e=.returned (.tuple #[])∧FW i W w2∧WB w2 i (A++[34]++escL ((bl s).take (k + 1)))∧(A++[34]++escL ((bl s).take (k + 1))).length≤65536)∨(e=.panicked (pan 2)∧WO i A (quo (bl s)) W (.panicked (pan 2)) w2)):=by
     intro w1 e w2 T hT hb1 hw
     obtain ⟨hb2,hh⟩:=hw
     have hb3:=(BR.out.trans hb1).trans hb2
     rcases hh with ⟨q1,q2,q3⟩|⟨q1,q2⟩
     ·refine Or.inl ⟨q2,hb3,?_,?_⟩
      ·rw [hst.out,hT,←List.append_assoc];exact q3
      ·rw [hst.out,hT,←List.append_assoc,List.length_append];exact q1
     ·refine Or.inr ⟨q2,hb3,Or.inr ⟨?_,rfl⟩⟩
      have hpre:(escL ((bl s).take (k + 1))).length≤(escL (bl s)).length:=by
       have h1:=List.take_append_drop (k + 1) (bl s)
       have h2:escL (bl s)=escL ((bl s).take (k + 1))++escL ((bl s).drop (k + 1)):=by rw [←escL_app,h1]
       rw [h2,List.length_append];omega
      rw [hst.out,hT,List.length_append] at hpre
      unfold quo
      simp at q1 ⊢
      omega
    by_cases h34:c=34∨c=92
    ·have hE:=hide (show escB c=[92,c] from if_pos h34)
     obtain ⟨S2,hS2⟩:∃ S2,mkB [92,c]=S2:=⟨_,rfl⟩
     have hb2:=hide (show bl S2=[92,c] by rw [←hS2];rfl)
     have hz2:=hide (show S2.size≤281474976710656 by rw [←bl_length,hb2.out];simp)
     have hadd:∀ w,(Op.stringOp .add ⟨#[92]⟩ S1).run Tryz.prog w=.ok (.string S2) w:=fun w=>by
      have:(⟨#[92]⟩:ByteArray)++S1=S2:=by rw [←hS1'.out,←hS2];apply ByteArray.ext;simp [mkB]
      exact jcat_run _ _ _ w this (by rw [←hS1'.out];show 1 + 1≤_;omega)
     clear hS2
     rcases h34 with e34|e92
     ·have d34:(c==34)=true:=by simpa using e34
      have hc':=hide e34
      subst e34
      go_wp2_with (go_at_call 41;refine Sto.out ?_)
      refine Sto.mk ((hp.out S2 _ wr WR.out LR.out hz2.out).mono ?_)
      rintro e w2 hw2
      rw [hb2.out] at hw2
      rcases hfin.out wr e w2 _ hE.out (FW.refl _ _) hw2 with ⟨rfl,g1,g2,g3⟩|⟨rfl,g1⟩
      ·have G:=hide (And.intro g1 (And.intro g2 g3))
       clear g1 g2 g3 hw2
       go_wp2_with fail
       exact ⟨⟨k + 1,by go_num,hkl,G⟩,by simp [intOf];omega⟩
      ·have G:=hide g1
       clear g1 hw2
       go_wp2_with fail
       exact ⟨rfl,G.out⟩
     ·have n34:¬ c=34:=by rw [e92];decide
      have hc':=hide e92
      subst e92
      go_wp2_with (go_at_call 41;refine Sto.out ?_)
      refine Sto.mk ((hp.out S2 _ wr WR.out LR.out hz2.out).mono ?_)
      rintro e w2 hw2
      rw [hb2.out] at hw2
      rcases hfin.out wr e w2 _ hE.out (FW.refl _ _) hw2 with ⟨rfl,g1,g2,g3⟩|⟨rfl,g1⟩
      ·have G:=hide (And.intro g1 (And.intro g2 g3))
       clear g1 g2 g3 hw2
       go_wp2_with fail
       exact ⟨⟨k + 1,by go_num,hkl,G⟩,by simp [intOf];omega⟩
      ·have G:=hide g1
       clear g1 hw2
       go_wp2_with fail
       exact ⟨rfl,G.out⟩
    ·have n34:¬ c=34:=fun q=>h34 (Or.inl q)
     have n92:¬ c=92:=fun q=>h34 (Or.inr q)
     have m34:(c==34)=false:=by simpa using n34
     have m92:(c==92)=false:=by simpa using n92
     have o34:([c]==([34]:List UInt8))=false:=by simpa using n34
     have o92:([c]==([92]:List UInt8))=false:=by simpa using n92
     by_cases h32:c.toNat<32
     ·have hE:=hide (show escB c=[92,117,48,48,hx (c.toNat / 16),hx (c.toNat % 16)] by unfold escB;rw [if_neg h34,if_pos h32])
      have hlt:Op.bytesLess [c] [32]=true:=by rw [bless];exact decide_eq_true h32
      have h32':=hide h32
      clear h32
      have jh:=hide (fun w=>jhex_any S1 w (by rw [←hS1'.out];show 1≤_;omega))
      have hb1:=hide (show hexL (bl S1)=[hx (c.toNat / 16),hx (c.toNat % 16)] by rw [←hS1'.out];rfl)
      rw [hb1.out] at jh
      obtain ⟨S3,hS3⟩:∃ S3,mkB [hx (c.toNat / 16),hx (c.toNat % 16)]=S3:=⟨_,rfl⟩
      rw [hS3] at jh
      obtain ⟨S2,hS2⟩:∃ S2,mkB [92,117,48,48,hx (c.toNat / 16),hx (c.toNat % 16)]=S2:=⟨_,rfl⟩
      have hb2:=hide (show bl S2=[92,117,48,48,hx (c.toNat / 16),hx (c.toNat % 16)] by rw [←hS2];rfl)
      have hz2:=hide (show S2.size≤281474976710656 by rw [←bl_length,hb2.out];simp)
      have hadd:∀ w,(Op.stringOp .add ⟨#[92,117,48,48]⟩ S3).run Tryz.prog w=.ok (.string S2) w:=fun w=>by
       have:(⟨#[92,117,48,48]⟩:ByteArray)++S3=S2:=by rw [←hS3,←hS2];apply ByteArray.ext;simp [mkB]
       exact jcat_run _ _ _ w this (by rw [←hS3];show 4 + 2≤_;omega)
      clear hS2 hS3 h34
      go_wp2_with (go_at_call 47;refine Sto.out ?_)
      refine Sto.mk ((jh.out _).mono ?_)
      rintro e w5 ⟨rfl,hb5⟩
      have B5:Hid (FW i wr w5):=FW.of hb5 WR.out.lt
      have W5:Hid (WB w5 i (A++[34]++escL ((bl s).take k))):=WR.out.below hb5
      clear hb5
      go_wp2_with (go_at_call 41;refine Sto.out ?_)
      refine Sto.mk ((hp.out S2 _ w5 W5.out LR.out hz2.out).mono ?_)
      rintro e w2 hw2
      rw [hb2.out] at hw2
      rcases hfin.out w5 e w2 _ hE.out B5.out hw2 with ⟨rfl,g1,g2,g3⟩|⟨rfl,g1⟩
      ·have G:=hide (And.intro g1 (And.intro g2 g3))
       clear g1 g2 g3 hw2
       go_wp2_with fail
       exact ⟨⟨k + 1,by go_num,hkl,G⟩,by simp [intOf];omega⟩
      ·have G:=hide g1
       clear g1 hw2
       go_wp2_with fail
       exact ⟨rfl,G.out⟩
     ·have hE:=hide (show escB c=[c] by unfold escB;rw [if_neg h34,if_neg h32])
      have hlt:Op.bytesLess [c] [32]=false:=by rw [bless];exact decide_eq_false h32
      have h32':=hide h32
      clear h32
      have hb2:=hide (show bl S1=[c] by rw [←hS1'.out];rfl)
      have hz2:=hide (show S1.size≤281474976710656 by rw [←bl_length,hb2.out];simp)
      clear h34
      go_wp2_with (go_at_call 41;refine Sto.out ?_)
      refine Sto.mk ((hp.out S1 _ wr WR.out LR.out hz2.out).mono ?_)
      rintro e w2 hw2
      rw [hb2.out] at hw2
      rcases hfin.out wr e w2 _ hE.out (FW.refl _ _) hw2 with ⟨rfl,g1,g2,g3⟩|⟨rfl,g1⟩
      ·have G:=hide (And.intro g1 (And.intro g2 g3))
       clear g1 g2 g3 hw2
       go_wp2_with fail
       exact ⟨⟨k + 1,by go_num,hkl,G⟩,by simp [intOf];omega⟩
      ·have G:=hide g1
       clear g1 hw2
       go_wp2_with fail
       exact ⟨rfl,G.out⟩
   ·have hki:¬ ((k:Int)<(s.size:Int)):=by omega
    have hfull:=hide (show (bl s).take k=bl s from List.take_of_length_le (by rw [bl_length];omega))
    go_wp2_with (go_at_call 41;refine Sto.out ?_)
    refine Sto.mk ((hp.out _ _ wr WR.out LR.out (by decide)).mono ?_)
    rw [hfull.out] at WR LR ⊢
    rintro e w2 hw2'
    have hw2:WO i (A++[34]++escL (bl s)) [34] wr e w2:=hw2'
    clear hw2'
    have hw3:=WO.trans (T:=[34]++escL (bl s)) BR.out (by have:=LR.out;simp at this ⊢;omega) (by simpa using hw2)
    rcases hw2 with ⟨hb2,⟨q2,rfl,hW2⟩|⟨q2,rfl⟩⟩
    ·have H3:=hide hw3
     clear hw3 hb2 q2 hW2
     go_wp2_with fail
     go_end0
     have:=H3.out
     rw [hq.out]
     simpa using this
    ·have H3:=hide hw3
     clear hw3 hb2 q2
     go_wp2_with fail
     refine ⟨rfl,?_⟩
     have:=H3.out
     rw [hq.out]
     simpa using this
 ·have H1:=hide (WO.fail (U:=escL (bl s)++[34]) hb1 q1)
  clear hb1 q1
  go_wp2_with fail
  refine ⟨rfl,?_⟩
  rw [hq.out]
  exact H1.out
def nmd (a b:List UInt8):List UInt8:=[123]++(quo a++([58]++(quo b++[125])))
set_option maxRecDepth 100000 in
theorem named_any (a b:ByteArray) (A:List UInt8) (W:World) (i:Nat) (h:WB W i A) (hA:A.length≤65536) (ha:a.size≤281474976710656) (hb:b.size≤281474976710656) :
  Calls Tryz.prog 44 #[.pointer (some ⟨i,0,none⟩),.string a,.string b] W fun e w'=>WO i A (nmd (bl a) (bl b)) W e w':=by
 have hp:=hide (fun s A W (h:WB W i A) (hA:A.length≤65536) (hs:s.size≤281474976710656)=>put_any s A W i h hA hs)
 have ht:=hide (fun s A W (h:WB W i A) (hA:A.length≤65536) (hs:s.size≤281474976710656)=>text_any s A W i h hA hs)
 have h':=hide h
 have hA':=hide hA
 clear h hA
 have hq:=hide (show nmd (bl a) (bl b)=[123]++(quo (bl a)++([58]++(quo (bl b)++[125]))) from rfl)
 have ha':=hide ha
 have hb':=hide hb
 clear ha hb
 go_enter Tryz.func44, Tryz.ntmps44
 go_wp2_with (go_at_call 41;refine Sto.out ?_)
 refine Sto.mk ((hp.out ⟨#[123]⟩ (A) W h'.out hA'.out (by decide)).mono ?_)
 rintro e w1 hw1
 replace hw1:WO i (A) ([123]) W e w1:=hw1
 rcases hw1 with ⟨hb1,⟨q1,rfl,hW1⟩|⟨q1,rfl⟩⟩
 ·have B1:Hid (FW i W w1):=hb1
  have X1:Hid (WB w1 i (A++([123]))):=hW1
  have L1:Hid ((A++([123])).length≤65536):=by show _≤_;rw [List.length_append];exact q1
  clear hb1 hW1 q1
  go_wp2_with (go_at_call 46;refine Sto.out ?_)
  refine Sto.mk ((ht.out a (A++([123])) w1 X1.out L1.out ha'.out).mono ?_)
  rintro e w2 hw2
  replace hw2:WO i (A++([123])) (quo (bl a)) w1 e w2:=hw2
  rcases hw2 with ⟨hb2,⟨q2,rfl,hW2⟩|⟨q2,rfl⟩⟩
  ·have B2:Hid (FW i W w2):=B1.out.trans hb2
   have X2:Hid (WB w2 i (A++([123])++(quo (bl a)))):=hW2
   have L2:Hid ((A++([123])++(quo (bl a))).length≤65536):=by show _≤_;rw [List.length_append];exact q2
   clear hb2 hW2 q2
   go_wp2_with (go_at_call 41;refine Sto.out ?_)
   refine Sto.mk ((hp.out ⟨#[58]⟩ (A++([123])++(quo (bl a))) w2 X2.out L2.out (by decide)).mono ?_)
   rintro e w3 hw3
   replace hw3:WO i (A++([123])++(quo (bl a))) ([58]) w2 e w3:=hw3
   rcases hw3 with ⟨hb3,⟨q3,rfl,hW3⟩|⟨q3,rfl⟩⟩
   ·have B3:Hid (FW i W w3):=B2.out.trans hb3
    have X3:Hid (WB w3 i (A++([123])++(quo (bl a))++([58]))):=hW3
    have L3:Hid ((A++([123])++(quo (bl a))++([58])).length≤65536):=by show _≤_;rw [List.length_append];exact q3
    clear hb3 hW3 q3
    go_wp2_with (go_at_call 46;refine Sto.out ?_)
    refine Sto.mk ((ht.out b (A++([123])++(quo (bl a))++([58])) w3 X3.out L3.out hb'.out).mono ?_)
    rintro e w4 hw4
    replace hw4:WO i (A++([123])++(quo (bl a))++([58])) (quo (bl b)) w3 e w4:=hw4
    rcases hw4 with ⟨hb4,⟨q4,rfl,hW4⟩|⟨q4,rfl⟩⟩
    ·have B4:Hid (FW i W w4):=B3.out.trans hb4
     have X4:Hid (WB w4 i (A++([123])++(quo (bl a))++([58])++(quo (bl b)))):=hW4
     have L4:Hid ((A++([123])++(quo (bl a))++([58])++(quo (bl b))).length≤65536):=by show _≤_;rw [List.length_append];exact q4
     clear hb4 hW4 q4
     go_wp2_with (go_at_call 41;refine Sto.out ?_)
     refine Sto.mk ((hp.out ⟨#[125]⟩ (A++([123])++(quo (bl a))++([58])++(quo (bl b))) w4 X4.out L4.out (by decide)).mono ?_)
     rintro e w5 hw5
     replace hw5:WO i (A++([123])++(quo (bl a))++([58])++(quo (bl b))) ([125]) w4 e w5:=hw5
     have H:=hide (WO.trans (A:=A) (T:=([123])++(quo (bl a))++([58])++(quo (bl b))) B4.out (by have:=L4.out;simp only [List.length_append] at this ⊢;omega) (by simpa only [List.append_assoc] using hw5))
     rcases hw5 with ⟨_,⟨_,rfl,_⟩|⟨_,rfl⟩⟩
     ·go_wp2_with fail
      go_end0
      rw [hq.out]
      simpa only [List.append_assoc,List.cons_append,List.nil_append] using H.out
     ·go_wp2_with fail
      refine ⟨rfl,?_⟩
      rw [hq.out]
      simpa only [List.append_assoc,List.cons_append,List.nil_append] using H.out
    ·have H:=hide (WO.fail (A:=A) (T:=([123])++(quo (bl a))++([58])++(quo (bl b))) (U:=([125])) (B3.out.trans hb4) (by first|exact q4|(simp only [List.length_append] at q4 ⊢;omega)))
     clear hb4 q4
     go_wp2_with fail
     refine ⟨rfl,?_⟩
     rw [hq.out]
     simpa only [List.append_assoc,List.cons_append,List.nil_append] using H.out
   ·have H:=hide (WO.fail (A:=A) (T:=([123])++(quo (bl a))++([58])) (U:=(quo (bl b))++([125])) (B2.out.trans hb3) (by first|exact q3|(simp only [List.length_append] at q3 ⊢;omega)))
    clear hb3 q3
    go_wp2_with fail
    refine ⟨rfl,?_⟩
    rw [hq.out]
    simpa only [List.append_assoc,List.cons_append,List.nil_append] using H.out
  ·have H:=hide (WO.fail (A:=A) (T:=([123])++(quo (bl a))) (U:=([58])++(quo (bl b))++([125])) (B1.out.trans hb2) (by first|exact q2|(simp only [List.length_append] at q2 ⊢;omega)))
   clear hb2 q2
   go_wp2_with fail
   refine ⟨rfl,?_⟩
   rw [hq.out]
   simpa only [List.append_assoc,List.cons_append,List.nil_append] using H.out
 ·have H:=hide (WO.fail (A:=A) (T:=([123])) (U:=(quo (bl a))++([58])++(quo (bl b))++([125])) hb1 (by first|exact q1|(simp only [List.length_append] at q1 ⊢;omega)))
  clear hb1 q1
  go_wp2_with fail
  refine ⟨rfl,?_⟩
  rw [hq.out]
  simpa only [List.append_assoc,List.cons_append,List.nil_append] using H.out
def flgL (b:Bool):List UInt8:=bif b then [116,114,117,101] else [102,97,108,115,101]
set_option maxRecDepth 100000 in
theorem flag_true (A:List UInt8) (W:World) (i:Nat) (h:WB W i A) (hA:A.length≤65536) :
  Calls Tryz.prog 42 #[.pointer (some ⟨i,0,none⟩),.bool true] W fun e w'=>WO i A (flgL true) W e w':=by
 have hp:=hide (fun s A W (h:WB W i A) (hA:A.length≤65536) (hs:s.size≤281474976710656)=>put_any s A W i h hA hs)
 have ht:=hide (fun s A W (h:WB W i A) (hA:A.length≤65536) (hs:s.size≤281474976710656)=>text_any s A W i h hA hs)
 have h':=hide h
 have hA':=hide hA
 clear h hA
 have hq:=hide (show flgL true=[116,114,117,101] from rfl)
 go_enter Tryz.func42, Tryz.ntmps42
 go_wp2_with (go_at_call 41;refine Sto.out ?_)
 refine Sto.mk ((hp.out ⟨#[116,114,117,101]⟩ (A) W h'.out hA'.out (by decide)).mono ?_)
 rintro e w1 hw1
 replace hw1:WO i (A) ([116,114,117,101]) W e w1:=hw1
 have H:=hide hw1
 rcases hw1 with ⟨_,⟨_,rfl,_⟩|⟨_,rfl⟩⟩
 ·go_wp2_with fail
  go_end0
  rw [hq.out]
  simpa only [List.append_assoc,List.cons_append,List.nil_append] using H.out
 ·go_wp2_with fail
  refine ⟨rfl,?_⟩
  rw [hq.out]
  simpa only [List.append_assoc,List.cons_append,List.nil_append] using H.out
set_option maxRecDepth 100000 in
theorem flag_false (A:List UInt8) (W:World) (i:Nat) (h:WB W i A) (hA:A.length≤65536) :
  Calls Tryz.prog 42 #[.pointer (some ⟨i,0,none⟩),.bool false] W fun e w'=>WO i A (flgL false) W e w':=by
 have hp:=hide (fun s A W (h:WB W i A) (hA:A.length≤65536) (hs:s.size≤281474976710656)=>put_any s A W i h hA hs)
 have ht:=hide (fun s A W (h:WB W i A) (hA:A.length≤65536) (hs:s.size≤281474976710656)=>text_any s A W i h hA hs)
 have h':=hide h
 have hA':=hide hA
 clear h hA
 have hq:=hide (show flgL false=[102,97,108,115,101] from rfl)
 go_enter Tryz.func42, Tryz.ntmps42
 go_wp2_with (go_at_call 41;refine Sto.out ?_)
 refine Sto.mk ((hp.out ⟨#[102,97,108,115,101]⟩ (A) W h'.out hA'.out (by decide)).mono ?_)
 rintro e w1 hw1
 replace hw1:WO i (A) ([102,97,108,115,101]) W e w1:=hw1
 have H:=hide hw1
 rcases hw1 with ⟨_,⟨_,rfl,_⟩|⟨_,rfl⟩⟩
 ·go_wp2_with fail
  go_end0
  rw [hq.out]
  simpa only [List.append_assoc,List.cons_append,List.nil_append] using H.out
 ·go_wp2_with fail
  refine ⟨rfl,?_⟩
  rw [hq.out]
  simpa only [List.append_assoc,List.cons_append,List.nil_append] using H.out
theorem flag_any (b:Bool) (A:List UInt8) (W:World) (i:Nat) (h:WB W i A) (hA:A.length≤65536) :
  Calls Tryz.prog 42 #[.pointer (some ⟨i,0,none⟩),.bool b] W fun e w'=>WO i A (flgL b) W e w':=by
 cases b
 ·exact flag_false A W i h hA
 ·exact flag_true A W i h hA
def cmL (n:Nat):List UInt8:=bif n==0 then [] else [44]
set_option maxRecDepth 100000 in
theorem comma_any (n:Nat) (A:List UInt8) (W:World) (i:Nat) (h:WB W i A) (hA:A.length≤65536) :
  Calls Tryz.prog 76 #[.pointer (some ⟨i,0,none⟩),.int .i64 n] W fun e w'=>WO i A (cmL n) W e w':=by
 have hp:=hide (fun s A W (h:WB W i A) (hA:A.length≤65536) (hs:s.size≤281474976710656)=>put_any s A W i h hA hs)
 have ht:=hide (fun s A W (h:WB W i A) (hA:A.length≤65536) (hs:s.size≤281474976710656)=>text_any s A W i h hA hs)
 have h':=hide h
 have hA':=hide hA
 clear h hA
 by_cases hn:n=0
 ·subst hn
  go_enter Tryz.func76, Tryz.ntmps76
  go_wp2_with fail
  go_end0
  exact ⟨FW.refl _ _,Or.inl ⟨by have:=hA'.out;simp [cmL];omega,rfl,by simpa [cmL] using h'.out⟩⟩
 ·have hq:=hide (show cmL n=[44] by unfold cmL;rw [show (n==0)=false by simpa using hn];rfl)
  have hn1:(0:Int)<(n:Int):=by omega
  have hn':=hide hn
  clear hn
  go_enter Tryz.func76, Tryz.ntmps76
  go_wp2_with (go_at_call 41;refine Sto.out ?_)
  refine Sto.mk ((hp.out ⟨#[44]⟩ (A) W h'.out hA'.out (by decide)).mono ?_)
  rintro e w1 hw1
  replace hw1:WO i (A) ([44]) W e w1:=hw1
  have H:=hide hw1
  rcases hw1 with ⟨_,⟨_,rfl,_⟩|⟨_,rfl⟩⟩
  ·go_wp2_with fail
   go_end0
   rw [hq.out]
   simpa only [List.append_assoc,List.cons_append,List.nil_append] using H.out
  ·go_wp2_with fail
   refine ⟨rfl,?_⟩
   rw [hq.out]
   simpa only [List.append_assoc,List.cons_append,List.nil_append] using H.out
end Go.Proofs.YtpimjkdakjhoaaaGreatDoor
