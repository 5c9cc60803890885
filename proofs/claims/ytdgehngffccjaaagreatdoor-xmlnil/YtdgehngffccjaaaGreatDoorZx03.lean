/- Merged by program: NhForm, NnSem, NoOrd, NpFormF, NqAdd, NrSum, OgPrint, JbHex, JcHex, JdText, JeFhex. -/
import Derived.Test.YtdgehngffccjaaaGreatDoorZx02
namespace Go.Proofs.YtdgehngffccjaaaGreatDoor
open Go.RowKit
set_option linter.unusedSimpArgs false
set_option linter.unusedVariables false
set_option maxHeartbeats 8000000
def mkS (l:List Nat):ByteArray:=strOfNums (l.map fun v:Nat=>((v:Int) + 48))
def formE (ok neg:Bool) (s:ByteArray) (x:Int):Ending :=
 if ok then .returned (.tuple #[.agg #[.bool neg,.string s,.int .i64 x],.int .i64 0]) else .returned (.tuple #[.agg #[.bool false,.string ⟨#[]⟩,.int .i64 0],.int .i64 2])
def tz (d:List Nat):Nat:=lz d.reverse
theorem tz_of (d:List Nat) (m k:Nat) (hm:d.length=m) (hk:k<m) (h1:∀ i (h:i<d.length),m - k≤i→d[i]=0) (h2:d[m - k - 1]'(by omega)≠0):tz d=k:=by
 refine lz_of d.reverse k (by simp;omega) (fun i h hi=>?_) (fun h=>?_)
 ·rw [List.getElem_reverse]
  exact h1 _ _ (by simp at h;omega)
 ·rw [List.getElem_reverse]
  have e:d.length - 1 - k=m - k - 1:=by omega
  simp only [e];exact h2
theorem lz_ne (d:List Nat) (h:lz d<d.length):d[lz d]≠0:=by
 intro h0
 have key:∀ (l:List Nat) (h:(l.takeWhile (·==0)).length<l.length),l[(l.takeWhile (·==0)).length]≠0:=by
  intro l
  induction l with
  | nil=>intro h;simp at h
  | cons a l ih =>
   intro h
   by_cases ha:a=0
   ·subst ha
    simp only [List.takeWhile_cons,beq_self_eq_true,if_true,List.length_cons,List.getElem_cons_succ]
    exact ih (by simpa using h)
   ·simp [ha]
 exact key d h h0
set_option maxRecDepth 100000 in
theorem form_zero (neg:Bool) (b o n c:Nat) (d:List Nat) (x:Int) (w:World) (hd:d.length=n) (hn0:0<n) (hn:n≤100000) (hc:n≤c) (hc':c≤100000) (hb:b<w.heap.size)
  (hcell:∀ i (h:i<d.length),w.cell? ⟨b,o + i,none⟩=some (.int .u8 (d[i]:Nat))) (hz:lz d=n) :
  Calls Tryz.prog 168 #[.bool neg,.slice (some ⟨b,o,none⟩) n c,.int .i64 x] w fun e w'=>e=.returned (.tuple #[.agg #[.bool false,.string ⟨#[48]⟩,.int .i64 0],.int .i64 0])∧Below w.heap.size w w':=by
 have hcell':∀ cs T,∀ i (h:i<d.length),(w.alloc (.cells cs T)).cell? ⟨b,o + i,none⟩=some (.int .u8 (d[i]:Nat)):=fun cs T i h=>by
  rw [←hcell i h];exact ((Below.refl w.heap.size w).alloc (Nat.le_refl _) _).cell (p:=⟨b,o + i,none⟩) hb
 have hcell':=hide hcell'
 have hz:=hide hz
 clear hcell
 go_enter Tryz.func168, Tryz.ntmps168
 go_wp2_with (go_at_call 191;refine (trimLeft_any b o n c d _ hd hn0 hn hc hc' (hcell'.out _ _)).mono ?_;rintro e w' ⟨_,h1,rfl⟩;obtain rfl:=h1 hz.out)
 exact bodyPost_ret (v:=.tuple #[.agg #[.bool false,.string ⟨#[48]⟩,.int .i64 0],.int .i64 0]) (by simp [results,Tryz.results168,go_sem]) rfl ⟨rfl,(Below.refl _ _).alloc (Nat.le_refl _) _⟩
set_option maxRecDepth 100000 in
theorem form_some (neg:Bool) (b o n c:Nat) (d d1 d2:List Nat) (m k1:Nat) (x:Int) (w:World) (hd:d.length=n) (hn:n≤100000) (hc:n≤c) (hc':c≤100000) (hb:b<w.heap.size)
  (hcell:∀ i (h:i<d.length),w.cell? ⟨b,o + i,none⟩=some (.int .u8 (d[i]:Nat))) (hz:lz d<n) (hx:-1000000≤x) (hx':x≤1000000)
  (hd1:d1=d.drop (lz d)) (hm:m=n - lz d) (hk1:k1=tz d1) (hd2:d2=d1.take (m - k1)) (hdg:Dgs d) (fit:Bool) (hfit:fit=decide (d2.length≤40∧-400≤x + k1∧x + k1≤400)) :
  Calls Tryz.prog 168 #[.bool neg,.slice (some ⟨b,o,none⟩) n c,.int .i64 x] w fun e w'=>
   e=formE fit neg (mkS d2) (x + k1)∧Below w.heap.size w w':=by
 have hcell':∀ cs T,∀ i (h:i<d.length),(w.alloc (.cells cs T)).cell? ⟨b,o + i,none⟩=some (.int .u8 (d[i]:Nat)):=fun cs T i h=>by
  rw [←hcell i h];exact ((Below.refl w.heap.size w).alloc (Nat.le_refl _) _).cell (p:=⟨b,o + i,none⟩) hb
 have hcell':=hide hcell'
 clear hcell
 have hne:Hid (d1[0]?≠some 0):=by
  show d1[0]?≠some 0
  rw [hd1,List.getElem?_drop,List.getElem?_eq_getElem (by omega)]
  have:=lz_ne d (by omega)
  simpa using this
 have hg1:Hid (∀ i (h:i<d1.length) (h':lz d + i<d.length),d1[i]=d[lz d + i]):=by
  show ∀ i (h:i<d1.length) (h':lz d + i<d.length),d1[i]=d[lz d + i]
  intro i h h'
  simp only [hd1,List.getElem_drop]
 have hdd1:=hide hd1
 have hmm:=hide hm
 have hmn:m≤n:=by omega
 have hm0:0<m:=by omega
 have hnc:m + lz d=n:=by omega
 have hz':=hide hz
 have hd1l:d1.length=m:=by rw [hd1,List.length_drop];omega
 obtain ⟨z,hzz⟩:∃ z,lz d=z:=⟨_,rfl⟩
 have hhk:=hide hk1
 have hhd2:=hide hd2
 have hhfit:=hide hfit
 have hdg:=hide hdg
 clear hd1 hk1 hd2 hfit
 have ec:Hid (n - lz d=m∧c - lz d=c - z):=by constructor <;> omega
 rw [hzz] at hnc
 have hzz:=hide hzz
 clear hm hz
 go_enter Tryz.func168, Tryz.ntmps168
 go_wp2_with (go_at_call 191;refine (trimLeft_any b o n c d _ hd (by omega) hn hc hc' (hcell'.out _ _)).mono ?_;rintro e w' ⟨h1,_,rfl⟩;have h1:=h1 hz'.out;rw [ec.out.1,ec.out.2,hzz.out] at h1;obtain rfl:=h1)
 have hmz:((m:Int)==0)=false:=by simp;omega
 go_loop [1,2] (fun s e=>∃ k:Nat,k<m∧s=.slice (some ⟨b,o + z,none⟩) (m - k) (c - z)∧e=.int .i64 (x + k)∧Hid (∀ i (h:i<d1.length),m - k≤i→d1[i]=0)) (fun s _=>lenOf s)
 case atStart=>exact ⟨0,hm0,rfl,by simp,fun i h hi=>by omega⟩
 case round =>
  obtain ⟨k,hk,rfl,rfl,hzr⟩:=hrel
  obtain ⟨q,hq⟩:∃ q,d1[m - k - 1]'(by omega)=q:=⟨_,rfl⟩
  have hcl:=hcell'.out #[Value.bool false,Value.string {data:=#[]},Value.int IntKind.i64 0] 33 (z + (m - k - 1)) (by omega)
  have hq':d[z + (m - k - 1)]'(by omega)=q:=by
   rw [←hq,hg1.out (m - k - 1) (by omega) (by rw [hzz.out];omega)]
   simp only [hzz.out]
  rw [hq',←Nat.add_assoc] at hcl
  have hq:=hide hq
  clear hq'
  by_cases h0:q=0
  ·subst h0
   have hzr':Hid (∀ i (h:i<d1.length),m - (k + 1)≤i→d1[i]=0):=by
    show ∀ i (h:i<d1.length),m - (k + 1)≤i→d1[i]=0
    intro i h hi
    by_cases e:i=m - k - 1
    ·subst e;exact hq.out
    ·exact hzr.out i h (by omega)
   have hk':k + 1<m:=by
    by_cases e:k + 1<m
    ·exact e
    ·have h1:=hzr'.out 0 (by omega) (by omega)
     exact absurd (by rw [List.getElem?_eq_getElem (by omega),h1]) hne.out
   go_wp2
   refine ⟨⟨k + 1,hk',by rw [Nat.sub_sub],?_,hzr'.out⟩,by simp [lenOf];omega⟩
   show Value.int _ _=Value.int _ _
   congr 1
   omega
  ·have h0':((q:Int)==0)=false:=by simp;exact h0
   have hkk:k1=k:=by rw [hhk.out];exact tz_of d1 m k hd1l hk hzr.out (by rw [hq.out];exact h0)
   have hl2:d2.length=m - k:=by rw [hhd2.out,List.length_take,hkk];omega
   subst hkk
   have hl2':=hide hl2
   clear h0
   by_cases h40:40<m - k1
   ·go_wp2
    exact bodyPost_ret (v:=.tuple #[.agg #[.bool false,.string ⟨#[]⟩,.int .i64 0],.int .i64 2]) (by simp [results,Tryz.results168,go_sem]) rfl ⟨by
     have:fit=false:=by rw [hhfit.out];exact decide_eq_false (by omega)
     rw [this];rfl,(Below.refl _ _).alloc (Nat.le_refl _) _⟩
   by_cases he:-400≤x + k1∧x + k1≤400
   ·have e3:decide (-400≤x + k1∧x + k1≤400)=true:=decide_eq_true he
    have hft:Hid (fit=true):=by
     show fit=true
     rw [hhfit.out];exact decide_eq_true ⟨by omega,he⟩
    go_wp2_with (go_at_call 134;refine (expFits_any _ _).mono ?_;rintro e w' ⟨rfl,rfl⟩;rw [e3])
    have hg2:Hid (∀ i (h:i<d2.length) (h':z + i<d.length),d2[i]=d[z + i]):=by
     show ∀ i (h:i<d2.length) (h':z + i<d.length),d2[i]=d[z + i]
     intro i h h'
     simp only [hhd2.out,List.getElem_take]
     rw [hg1.out i (by omega) (by rw [hzz.out];exact h')]
     simp only [hzz.out]
    go_loopw [42] (fun i wr=>∃ k:Nat,k≤m - k1∧i=.int .i64 k∧Hid (Arr wr (w.heap.size + 1) 217 ((d2.take k).map (fun v=>48 + v)++List.replicate (40 - k) 0))∧Hid (Below (w.heap.size + 1) (w.alloc (.cells #[Value.bool false,Value.string {data:=#[]},Value.int IntKind.i64 0] 33)) wr)) (fun i _=>m - k1 - (intOf i).toNat)
    case atStart =>
     refine ⟨0,Nat.zero_le _,rfl,?_,?_⟩
     ·show Arr _ _ _ _
      rw [show w.heap.size + 1=(w.alloc (.cells #[Value.bool false,Value.string {data:=#[]},Value.int IntKind.i64 0] 33)).heap.size from by simp]
      exact arr_new _ _ 40 _ rfl
     ·exact (Below.refl _ _).alloc (by simp) _
    case round =>
     obtain ⟨k,hk,rfl,hAr,hB⟩:=hrel
     by_cases hlt:k<m - k1
     ·have hcl:=hcell'.out #[Value.bool false,Value.string {data:=#[]},Value.int IntKind.i64 0] 33 (z + k) (by omega)
      rw [←hB.out.cell (p:=⟨b,o + (z + k),none⟩) (by show b<_;omega),←hg2.out k (by omega) (by omega),←Nat.add_assoc] at hcl
      have hv9:d2[k]'(by omega)≤9:=by rw [hg2.out k (by omega) (by omega)];exact hdg.out _ (List.getElem_mem _)
      obtain ⟨v,hv⟩:∃ v,d2[k]'(by omega)=v:=⟨_,rfl⟩
      rw [hv] at hcl hv9
      have hcs:=hAr.out.cell k (by simp;omega)
      have hfz:=hAr.out.frozen k
      have hv:=hide hv
      have hset:Hid (((d2.take k).map (fun v=>48 + v)++List.replicate (40 - k) 0).set k (48 + v)=(d2.take (k + 1)).map (fun v=>48 + v)++List.replicate (40 - (k + 1)) 0):=by
       show _=_
       have hlen:((d2.take k).map (fun v=>48 + v)).length=k:=by simp;omega
       rw [List.set_append_right _ _ (by omega),hlen,Nat.sub_self,show 40 - k=(40 - (k + 1)) + 1 by omega,List.replicate_succ,List.set_cons_zero,List.take_succ_eq_append_getElem (by omega),List.map_append,hv.out]
       simp
      go_wp2
      refine ⟨⟨k + 1,by omega,by go_num,?_,?_⟩,by simp [intOf];omega⟩
      ·show Arr _ _ _ _
       rw [←hset.out]
       exact hAr.out.set k (48 + v)
      ·exact hB.out.setCell (Nat.le_refl _) _
     ·have hke:k=m - k1:=by omega
      subst hke
      have htk:d2.take (m - k1)=d2:=List.take_of_length_le (by omega)
      rw [htk] at hAr
      have hconv:(convert 22 9 (.slice (some ⟨w.heap.size + 1,0,none⟩) (m - k1) 40)).run Tryz.prog wr=.ok (.string (mkS d2)) wr:=by
       refine run_convert_bytes_arg (P:=Tryz.prog) wr 22 5 Tryz.underlying22 Tryz.underlying5 (w.heap.size + 1) 0 (m - k1) 40 (d2.map fun v:Nat=>((v:Int) + 48)) (by simp;omega) (fun i hi=>?_) 9 Tryz.underlying9
       rw [Nat.zero_add,hAr.out.cell i (by simp;omega)]
       congr 2
       rw [List.getElem_append_left (by simp;omega),List.getElem_map,List.getD_eq_getElem?_getD,List.getElem?_map,List.getElem?_eq_getElem (by omega)]
       simp;omega
      have hr0:=hB.out.cell (p:=⟨w.heap.size,0,none⟩) (Nat.lt_succ_self _)
      have hr1:=hB.out.cell (p:=⟨w.heap.size,1,none⟩) (Nat.lt_succ_self _)
      have hr2:=hB.out.cell (p:=⟨w.heap.size,2,none⟩) (Nat.lt_succ_self _)
      have hf0:=hB.out.frozen (p:=⟨w.heap.size,0,none⟩) (Nat.lt_succ_self _)
      have hf1:=hB.out.frozen (p:=⟨w.heap.size,1,none⟩) (Nat.lt_succ_self _)
      have hf2:=hB.out.frozen (p:=⟨w.heap.size,2,none⟩) (Nat.lt_succ_self _)
      simp [go_sem] at hr0 hr1 hr2 hf0 hf1 hf2
      clear htk
      go_wp2
      refine bodyPost_ret (v:=.tuple #[.agg #[.bool neg,.string (mkS d2),.int .i64 (x + k1)],.int .i64 0]) (by simp [results,Tryz.results168,go_sem,hr0,hr1,hr2]) rfl ⟨by rw [hft.out];rfl,?_⟩
      exact ((((((Below.refl _ w).alloc (Nat.le_refl _) _).trans (hB.out.mono (Nat.le_succ _))).setCell (Nat.le_refl _) _).setCell (Nat.le_refl _) _).setCell (Nat.le_refl _) _)
   ·have e3:decide (-400≤x + k1∧x + k1≤400)=false:=decide_eq_false he
    have hft:Hid (fit=false):=by
     show fit=false
     rw [hhfit.out];exact decide_eq_false (fun h=>he h.2)
    go_wp2_with (go_at_call 134;refine (expFits_any _ _).mono ?_;rintro e w' ⟨rfl,rfl⟩;rw [e3])
    exact bodyPost_ret (v:=.tuple #[.agg #[.bool false,.string ⟨#[]⟩,.int .i64 0],.int .i64 2]) (by simp [results,Tryz.results168,go_sem]) rfl ⟨by
     rw [hft.out];rfl,(Below.refl _ _).alloc (Nat.le_refl _) _⟩
def mag (s:ByteArray) (x:Int):Nat:=val (dg s) * 10 ^ (x + 400).toNat
def Zv (n:Bool) (s:ByteArray) (x:Int):Int:=if n then -(mag s x:Int) else mag s x
structure Can (l:List Nat):Prop where
 dgs:Dgs l
 first:∀ c,l.head?=some c→c≠0
 last:∀ c,l.getLast?=some c→c≠0
theorem isO_facts {s:ByteArray} {x:Int} (h:isO (bl s) x=true):1≤s.size∧s.size≤40∧-400≤x∧x≤400∧allD (bl s)=true∧Can (dg s)∧dg s≠[]:=by
 simp only [isO,Bool.and_eq_true,decide_eq_true_eq,bne_iff_ne,ne_eq,bl_length] at h
 obtain ⟨⟨⟨⟨⟨h1,h2⟩,h3,h4⟩,h5⟩,h6⟩,h7⟩:=h
 refine ⟨h1,h2,h3,h4,h5,⟨dg_dgs s h5,?_,?_⟩,?_⟩
 ·intro c hc
  have:(dg s).head?=(bl s).head?.map fun c=>c.toNat - 48:=by simp [dg]
  rw [this,head_bl s h1] at hc
  rw [head_bl s h1] at h6
  simp at hc
  have hd:=allD_get s h5 0 h1
  have:s[0].toNat≠48:=fun e=>h6 (by congr 1;exact UInt8.toNat_inj.1 e)
  omega
 ·intro c hc
  have:(dg s).getLast?=(bl s).getLast?.map fun c=>c.toNat - 48:=by simp [dg]
  rw [this,last_bl s h1] at hc
  rw [last_bl s h1] at h7
  simp at hc
  have hd:=allD_get s h5 (s.size - 1) (by omega)
  have:(s[s.size - 1]'(by omega)).toNat≠48:=fun e=>h7 (by congr 1;exact UInt8.toNat_inj.1 e)
  omega
 ·intro e
  have:=dg_length s
  rw [e] at this;simp at this;omega
theorem isZ_facts {n:Bool} {s:ByteArray} {x:Int} (h:isZ n s x=true):n=false∧bl s=[48]∧x=0:=by
 simp [isZ] at h;exact ⟨h.1.1,h.1.2,h.2⟩
theorem isZ_mag {n:Bool} {s:ByteArray} {x:Int} (h:isZ n s x=true):dg s=[0]∧s.size=1∧mag s x=0∧Zv n s x=0:=by
 obtain ⟨rfl,h2,rfl⟩:=isZ_facts h
 have h3:dg s=[0]:=by simp [dg,h2]
 have h4:s.size=1:=by rw [←bl_length,h2];rfl
 have h5:mag s 0=0:=by unfold mag;rw [h3,show val [0]=0 from rfl,Nat.zero_mul]
 exact ⟨h3,h4,h5,by simp [Zv,h5]⟩
def dl (l:List UInt8):List Nat:=l.map fun c=>c.toNat - 48
def dz (d:List Nat):List Nat:=d.drop (lz d)
def core (d:List Nat):List Nat:=(dz d).take ((dz d).length - tz (dz d))
def formF (neg:Bool) (d:List Nat) (x:Int):Bool×ByteArray×Int×Int :=
 if lz d=d.length then (false,⟨#[48]⟩,0,0)
 else if (core d).length≤40∧-400≤x + tz (dz d)∧x + tz (dz d)≤400 then (neg,mkS (core d),x + tz (dz d),0) else (false,⟨#[]⟩,0,2)
def retF (r:Bool×ByteArray×Int×Int):Ending:=.returned (.tuple #[.agg #[.bool r.1,.string r.2.1,.int .i64 r.2.2.1],.int .i64 r.2.2.2])
theorem lz_le (d:List Nat):lz d≤d.length:=(List.takeWhile_prefix _).length_le
theorem tz_le (d:List Nat):tz d≤d.length:=by have:=lz_le d.reverse;simpa [tz] using this
theorem form_any (neg:Bool) (b o n c:Nat) (d:List Nat) (x:Int) (w:World) (hd:d.length=n) (hn0:0<n) (hn:n≤100000) (hc:n≤c) (hc':c≤100000) (hb:b<w.heap.size)
  (hcell:∀ i (h:i<d.length),w.cell? ⟨b,o + i,none⟩=some (.int .u8 (d[i]:Nat))) (hx:-1000000≤x) (hx':x≤1000000) (hdg:Dgs d) :
  Calls Tryz.prog 168 #[.bool neg,.slice (some ⟨b,o,none⟩) n c,.int .i64 x] w fun e w'=>e=retF (formF neg d x)∧Below w.heap.size w w':=by
 by_cases hz:lz d=n
 ·refine (form_zero neg b o n c d x w hd hn0 hn hc hc' hb hcell hz).mono ?_
  rintro e w' ⟨rfl,hB⟩
  refine ⟨?_,hB⟩
  unfold formF;rw [if_pos (by rw [hd];exact hz)];rfl
 ·have:=lz_le d
  have hl:(dz d).length=n - lz d:=by rw [dz,List.length_drop,hd]
  refine (form_some neg b o n c d (dz d) (core d) (n - lz d) (tz (dz d)) x w hd hn hc hc' hb hcell (by omega) hx hx' rfl rfl rfl (by rw [core,hl]) hdg _ rfl).mono ?_
  rintro e w' ⟨rfl,hB⟩
  refine ⟨?_,hB⟩
  have e1:formF neg d x=if (core d).length≤40∧-400≤x + tz (dz d)∧x + tz (dz d)≤400 then (neg,mkS (core d),x + tz (dz d),0) else (false,⟨#[]⟩,0,2):=by
   unfold formF;rw [if_neg (by rw [hd];exact hz)]
  rw [e1]
  by_cases h:(core d).length≤40∧-400≤x + tz (dz d)∧x + tz (dz d)≤400
  ·rw [if_pos h,decide_eq_true h];rfl
  ·rw [if_neg h,decide_eq_false h];rfl
theorem take_lz (d:List Nat):d.take (lz d)=List.replicate (lz d) 0:=by
 induction d with
 | nil=>rfl
 | cons a d ih =>
  by_cases h:a=0
  ·subst h
   have:lz (0 :: d)=lz d + 1:=by simp [lz]
   rw [this,List.take_succ_cons,ih,List.replicate_succ]
  ·have:lz (a :: d)=0:=by simp [lz,h]
   rw [this];rfl
theorem tz_split (d:List Nat):d=d.take (d.length - tz d)++List.replicate (tz d) 0:=by
 have h:=take_lz d.reverse
 have:=congrArg List.reverse h
 rw [List.reverse_take,List.reverse_reverse,List.length_reverse,List.reverse_replicate] at this
 conv=>lhs;rw [←List.take_append_drop (d.length - tz d) d]
 rw [show d.drop (d.length - tz d)=List.replicate (tz d) 0 from this]
theorem lz_head (d:List Nat) (h:lz d<d.length):∀ c,(dz d).head?=some c→c≠0:=by
 intro c hc
 have:=lz_ne d h
 rw [dz,List.head?_drop,List.getElem?_eq_getElem h] at hc
 rw [←Option.some.inj hc];exact this
theorem tz_lt (d:List Nat) (h:lz d<d.length):tz (dz d)<(dz d).length:=by
 have h1:=tz_le (dz d)
 have hl:0<(dz d).length:=by rw [dz,List.length_drop];omega
 by_cases e:tz (dz d)<(dz d).length
 ·exact e
 ·have h2:=tz_split (dz d)
  rw [show (dz d).length - tz (dz d)=0 by omega,List.take_zero,List.nil_append] at h2
  have h3:(dz d).head?=some 0:=by
   rw [h2,List.head?_replicate,if_neg (by omega)]
  exact absurd rfl (lz_head d h 0 h3)
theorem core_len (d:List Nat):(core d).length=(dz d).length - tz (dz d):=by rw [core,List.length_take];omega
theorem core_can (d:List Nat) (h:lz d<d.length) (hd:Dgs d):Can (core d)∧core d≠[]:=by
 have h1:=tz_lt d h
 have hl:=core_len d
 have hne:core d≠[]:=by intro e;rw [e] at hl;simp at hl;omega
 refine ⟨⟨?_,?_,?_⟩,hne⟩
 ·intro x hx
  exact hd x (List.mem_of_mem_drop (List.mem_of_mem_take hx))
 ·intro c hc
  refine lz_head d h c ?_
  rw [core,List.head?_take,if_neg (by omega)] at hc
  exact hc
 ·intro c hc
  have h2:=lz_ne (dz d).reverse (by simpa [tz] using h1)
  rw [List.getElem_reverse] at h2
  rw [core,List.getLast?_take,if_neg (by omega)] at hc
  rw [List.getElem?_eq_getElem (by omega)] at hc
  simp only [Option.some_or] at hc
  have e:(dz d).length - tz (dz d) - 1=(dz d).length - 1 - lz (dz d).reverse:=by unfold tz;omega
  simp only [e] at hc
  rw [←Option.some.inj hc];exact h2
theorem mkS_size (l:List Nat):(mkS l).size=l.length:=by simp [mkS,strOfNums_size]
theorem mkS_bl (l:List Nat):bl (mkS l)=l.map fun v=>UInt8.ofNat (v + 48):=by
 unfold bl mkS
 rw [strOfNums_data,List.map_map]
 apply List.map_congr_left
 intro v _
 show UInt8.ofNat ((v:Int) + 48).toNat=_
 congr 1
theorem ofNat_toNat (v:Nat) (h:v≤9):(UInt8.ofNat (v + 48)).toNat=v + 48:=by
 rw [UInt8.toNat_ofNat'];omega
theorem mkS_all (l:List Nat) (h:Dgs l):allD (bl (mkS l))=true:=by
 rw [mkS_bl]
 unfold allD
 rw [List.all_eq_true]
 intro c hc
 rw [List.mem_map] at hc
 obtain ⟨v,hv,rfl⟩:=hc
 rw [isDig_iff,ofNat_toNat v (h v hv)]
 have:=h v hv
 omega
theorem mkS_isO (l:List Nat) (x:Int) (h:Can l) (hne:l≠[]) (h40:l.length≤40) (hx:-400≤x) (hx':x≤400):isO (bl (mkS l)) x=true:=by
 have hl:1≤l.length:=List.length_pos_iff.2 hne
 simp only [isO,Bool.and_eq_true,decide_eq_true_eq,bne_iff_ne,ne_eq]
 refine ⟨⟨⟨⟨⟨?_,?_⟩,hx,hx'⟩,mkS_all l h.dgs⟩,?_⟩,?_⟩
 ·rw [bl_length,mkS_size];exact hl
 ·rw [bl_length,mkS_size];exact h40
 ·rw [mkS_bl,List.head?_map]
  intro e
  cases hh:l.head? with
  | none=>rw [hh] at e;cases e
  | some v =>
   rw [hh] at e
   have e1:=Option.some.inj e
   have e2:=congrArg UInt8.toNat e1
   have hm:v∈l:=List.mem_of_head? hh
   have h9:=h.dgs v hm
   rw [ofNat_toNat v h9] at e2
   have:=h.first v hh
   have:(48:UInt8).toNat=48:=rfl
   omega
 ·rw [mkS_bl,List.getLast?_map]
  intro e
  cases hh:l.getLast? with
  | none=>rw [hh] at e;cases e
  | some v =>
   rw [hh] at e
   have e1:=Option.some.inj e
   have e2:=congrArg UInt8.toNat e1
   have hm:v∈l:=List.mem_of_getLast? hh
   have h9:=h.dgs v hm
   rw [ofNat_toNat v h9] at e2
   have:=h.last v hh
   have:(48:UInt8).toNat=48:=rfl
   omega
def Box (W:World) (i:Nat) (n:Bool) (s:ByteArray) (x:Int):Prop:=W.heap[i]?=some (.cells #[.bool n,.string s,.int .i64 x] 33 (0,0))
theorem Box.cells {W:World} {i:Nat} {n:Bool} {s:ByteArray} {x:Int} (h:Box W i n s x) :
  W.cell? ⟨i,0,none⟩=some (.bool n)∧W.cell? ⟨i,1,none⟩=some (.string s)∧W.cell? ⟨i,2,none⟩=some (.int .i64 x)∧W.frozen? ⟨i,0,none⟩=false∧W.frozen? ⟨i,1,none⟩=false∧W.frozen? ⟨i,2,none⟩=false:=by
 unfold Box at h
 simp [World.cell?,World.frozen?,h]
theorem Box.lt {W:World} {i:Nat} {n:Bool} {s:ByteArray} {x:Int} (h:Box W i n s x):i<W.heap.size:=by
 unfold Box at h
 by_cases hlt:i<W.heap.size
 ·exact hlt
 ·have hn:W.heap[i]?=none:=by simp;omega
  rw [hn] at h;cases h
theorem Box.below {W W1:World} {i B:Nat} {n:Bool} {s:ByteArray} {x:Int} (h:Box W i n s x) (hb:Below B W W1) (hi:i<B):Box W1 i n s x:=by
 unfold Box at h ⊢;rw [hb.block i hi];exact h
theorem Box.only {W W1:World} {i b:Nat} {n:Bool} {s:ByteArray} {x:Int} (h:Box W i n s x) (hb:Only b W W1) (hi:i≠b):Box W1 i n s x:=by
 unfold Box at h ⊢;rw [hb.block i hi];exact h
theorem box_new (w:World) (n:Bool) (s:ByteArray) (x:Int):Box (w.alloc (.cells #[.bool n,.string s,.int .i64 x] 33)) w.heap.size n s x:=by
 unfold Box
 show (w.heap.push _)[w.heap.size]?=_
 simp
theorem Box.alloc {W:World} {i:Nat} {n:Bool} {s:ByteArray} {x:Int} (h:Box W i n s x) (o:Obj):Box (W.alloc o) i n s x:=by
 have hl:=h.lt
 unfold Box at h ⊢
 rw [←h]
 exact Below.heap_alloc W o i hl
theorem isN_all {n:Bool} {s:ByteArray} {x:Int} (h:isN n s x=true):allD (bl s)=true∧1≤s.size∧s.size≤40∧-400≤x∧x≤400∧Dgs (dg s):=by
 cases hz:isZ n s x
 ·have ho:isO (bl s) x=true:=by simpa [isN,hz] using h
  obtain ⟨a1,a2,a3,a4,a5,a6,a7⟩:=isO_facts ho
  exact ⟨a5,a1,a2,a3,a4,a6.dgs⟩
 ·obtain ⟨_,h2,h3⟩:=isZ_facts hz
  have h4:=(isZ_mag hz).2.1
  have h5:allD (bl s)=true:=by rw [h2];rfl
  exact ⟨h5,by omega,by omega,by omega,by omega,dg_dgs s h5⟩
structure Two (na:Bool) (a:ByteArray) (xa:Int) (nb:Bool) (b:ByteArray) (xb y low:Int):Prop where
 n1:isN na a xa=true
 n2:isN nb b xb=true
 le:mag b xb≤mag a xa
 y0:isZ nb b xb=true→y=xa
 y1:isZ nb b xb=false→y=xb
 l0:low=min xa y
theorem own_conv {W:World} {B:Nat} {v:Value} {l:List UInt8} (h:Own W B v l):(convert 22 9 v).run Tryz.prog W=.ok (.string (mkB l)) W:=by
 have hc:=h
 obtain ⟨h0,h⟩:=h
 rcases h with ⟨rfl,hn⟩|⟨g,cap,cur,rfl,hg,hh,h1,h2,h3,h4⟩
 ·have:l=[]:=List.eq_nil_of_length_eq_zero hn
  subst this
  exact run_convert_bytes_nil W 22 5 Tryz.underlying22 Tryz.underlying5 0 0 9 Tryz.underlying9
 ·refine run_convert_bytes_back W 22 9 5 ⟨g,0,none⟩ cap l Tryz.underlying22 Tryz.underlying5 Tryz.underlying9 (fun j hj=>?_)
  have hcells:∀ j u,(bcs l)[j]?=some u→W.cell? ((⟨g,0,none⟩:Addr).add j)=some u:=World.ownsRow.cells hc (g:=g) rfl
  exact hcells j _ (by simp [bcs,List.getElem?_eq_getElem hj])
def sgnB (n:Bool):List UInt8:=if n then [45] else []
def hx (d:Nat):UInt8:=if d<10 then UInt8.ofNat (48 + d) else UInt8.ofNat (87 + d)
def hexL (l:List UInt8):List UInt8:=l.flatMap fun c=>[hx (c.toNat / 16),hx (c.toNat % 16)]
theorem hexL_snoc (l:List UInt8) (c:UInt8):hexL (l++[c])=hexL l++[hx (c.toNat / 16),hx (c.toNat % 16)]:=by simp [hexL]
theorem hexL_len (l:List UInt8):(hexL l).length=2 * l.length:=by
 induction l with
 | nil=>rfl
 | cons a l ih=>simp only [hexL,List.flatMap_cons,List.length_append,List.length_cons,List.length_nil] at ih ⊢;omega
theorem hxd_get (d:Nat) (h:d<16) (h':d<(⟨#[48,49,50,51,52,53,54,55,56,57,97,98,99,100,101,102]⟩:ByteArray).size):(⟨#[48,49,50,51,52,53,54,55,56,57,97,98,99,100,101,102]⟩:ByteArray)[d]=hx d:=by
 have:d=0∨d=1∨d=2∨d=3∨d=4∨d=5∨d=6∨d=7∨d=8∨d=9∨d=10∨d=11∨d=12∨d=13∨d=14∨d=15:=by omega
 rcases this with rfl|rfl|rfl|rfl|rfl|rfl|rfl|rfl|rfl|rfl|rfl|rfl|rfl|rfl|rfl|rfl <;> rfl
theorem step_bytes {w:World} {ops:Array Oper} {o:Oper} {a:Act} {K:Act→World→Prop} {Q:Exit→Act→World→Prop} {E:Prop} (hgd:o.guard=none) (s x:Operand) (ho:o.op=.call {callee:=.builtin .append,args:=#[s,x],argTypes:=#[22,22]})
  (B:Nat) (v:Value) (l:List UInt8) (hs:a.eval s=v) (hown:Own w B v l) (ad:Addr) (m c:Nat) (news:List UInt8) (hx:a.eval x=.slice (some ad) m c) (hm:news.length=m)
  (hnews:∀ j u,(bcs news)[j]?=some u→w.cell? (ad.add j)=some u) (hl:l.length + m≤1000000) (hB:B≤w.heap.size) (hp:0<l.length + m)
  (h:∀ av c' w',Hid (Own w' B (.slice av (l.length + m) c') (l++news))→Hid (Below B w w')→w.heap.size≤w'.heap.size→K (a.put o.dst (.slice av (l.length + m) c')) w') :
  if Region.wanted o (yielded ops a.tmps)=true then Oper.wp Tryz.prog o a w K Q else E:=by
 have hw:Region.wanted o (yielded ops a.tmps)=true:=by simp [Region.wanted,hgd]
 rw [if_pos hw]
 obtain ⟨i0,hi,hz0,hz1,hz2⟩:=info_parts info5
 obtain ⟨v',w',hr,h1,h2,h3⟩:=run_append_own (P:=Tryz.prog) w B 22 o.type 5 i0 _ 1 1 Tryz.underlying22 hi hz0 hz1 hz2 rfl (by decide) v l.length (bcs l) hown ad m c (bcs news) (by rw [bcs_length,hm];simp) hnews (by
  intro u hu
  simp only [bcs,List.mem_map] at hu
  obtain ⟨c,_,rfl⟩:=hu
  rfl) (by unfold maxLen;omega) (by omega) hB
 unfold Oper.wp execOp
 simp only [ho,resolve,invoke,builtin,Sem.run_bind,Sem.run_pure,Result.andThen_ok,List.map_toArray,List.map_cons,List.map_nil,hs,hx,hr]
 have hO:Own w' B v' (l++news):=by unfold Own;rw [bcs_append,List.length_append,hm];exact h1
 rcases h1.2 with ⟨rfl,e⟩|⟨g',cap,cur,rfl,_⟩
 ·omega
 ·exact h _ _ w' hO ((Below.refl B w).grown h2 hB hown.row) h2.size
set_option maxRecDepth 100000 in
theorem jhex_any (s:ByteArray) (w:World) (hs:s.size≤40000) :
  Calls Tryz.prog 55 #[.string s] w fun e w'=>e=.returned (.string (mkB (hexL (bl s))))∧Below w.heap.size w w':=by
 have hw:IntKind.i64.wrap (2 * (s.size:Int))=2 * (s.size:Int):=by rw [IntKind.wrap_i64] <;> omega
 obtain ⟨i0,hi,hz0,hz1,hz2⟩:=info_parts info5
 go_enter Tryz.func55, Tryz.ntmps55
 go_wp2_with (refine wpList_make_own w rfl _ _ 22 rfl w.heap.size 5 i0 (.int .u8 0) 1 Tryz.underlying22 hi hz0 hz1 .i64 .i64 _ (2 * s.size) rfl rfl (by simp) (by rw [hz2];omega) (by unfold maxLen;omega) (Nat.le_refl _) ?_;refine Sto.out ?_)
 refine Sto.mk ?_
 intro w1 ho1 hg1
 have O1:Hid (Own w1 w.heap.size (.slice (some ⟨w.heap.size,0,none⟩) 0 (2 * s.size)) []):=ho1
 have B1:Hid (Below w.heap.size w w1):=(Below.refl _ w).grown hg1 (Nat.le_refl _) (fun k hk=>by cases hk)
 clear ho1 hg1 hi hz0 hz1 hz2
 go_wp2_with fail
 go_loopw [3,11] (fun b i W=>∃ (k:Nat) (a:Option Addr) (cp:Nat),i=.int .i64 k∧b=.slice a (2 * k) cp∧k≤s.size∧Hid (Own W w.heap.size (.slice a (2 * k) cp) (hexL ((bl s).take k))∧Below w.heap.size w W)) (fun _ i _=>s.size - (intOf i).toNat)
 case atStart=>exact ⟨0,_,_,rfl,rfl,Nat.zero_le _,hide ⟨by simpa [hexL] using O1.out,B1.out⟩⟩
 case round =>
  obtain ⟨k,a,cp,rfl,rfl,hk,HH⟩:=hrel
  obtain ⟨hO,hB⟩:=HH.out
  have OR:=hide hO
  have BR:=hide hB
  clear HH hO hB O1 B1
  have zr1:w.heap.size≤wr.heap.size:=BR.out.size
  by_cases hkl:k<s.size
  ·have hki:(k:Int)<(s.size:Int):=by omega
   have hst:=hide (show hexL ((bl s).take (k + 1))=hexL ((bl s).take k)++[hx (s[k].toNat / 16),hx (s[k].toNat % 16)] by
    rw [List.take_succ_eq_append_getElem (by rw [bl_length];exact hkl),hexL_snoc,bl_get s k hkl])
   have hlen:(hexL ((bl s).take k)).length=2 * k:=by rw [hexL_len,List.length_take,bl_length];omega
   obtain ⟨c,hc⟩:∃ c,s[k]=c:=⟨_,rfl⟩
   have hcl:c.toNat<256:=c.toNat_lt
   have hm:bits .and .u8 (c.toNat:Int) 15=((c.toNat % 16:Nat):Int):=by
    have:=u8_and_nat c.toNat 15 hcl (by omega)
    rw [nat_mask4] at this
    exact this
   have hd1:c.toNat / 16<16:=by omega
   have hd2:c.toNat % 16<16:=by omega
   have hds1:c.toNat / 16<(⟨#[48,49,50,51,52,53,54,55,56,57,97,98,99,100,101,102]⟩:ByteArray).size:=hd1
   have hds2:c.toNat % 16<(⟨#[48,49,50,51,52,53,54,55,56,57,97,98,99,100,101,102]⟩:ByteArray).size:=hd2
   have hg1:=hxd_get (c.toNat / 16) hd1 hds1
   have hg2:=hxd_get (c.toNat % 16) hd2 hds2
   rw [hc] at hst
   have hlen':=hide hlen
   clear hlen
   have hn:=hide (news_two wr (hx (c.toNat / 16)) (hx (c.toNat % 16)) 5)
   have hq1:((c.toNat:Int) / 16).toNat=c.toNat / 16:=by omega
   have hq2:(0:Int)≤(c.toNat:Int) / 16:=by omega
   have hq3:(c.toNat:Int) / 16<16:=by omega
   have hq4:((c.toNat:Int) % 16).toNat=c.toNat % 16:=by omega
   have hq5:(0:Int)≤(c.toNat:Int) % 16:=by omega
   have hq6:(c.toNat:Int) % 16<16:=by omega
   go_wp2_with fail
   go_region_law (refine step_bytes rfl (.tmp 14) (.tmp 25) rfl w.heap.size (.slice a (2 * k) cp) (hexL ((bl s).take k)) rfl (ownsRow_of OR.out fun g hg hlt=>(show Below wr.heap.size wr _ by repeat (first|exact Below.refl _ _|refine Below.drew ?_|refine below_al ?_)).block g hlt) ⟨wr.heap.size,0,none⟩ 2 2 [hx (c.toNat / 16),hx (c.toNat % 16)] rfl rfl hn.out (by rw [hlen'.out];omega) (by simp;omega) (by omega) ?_;intro av c' w' ho hb hz;have hO':=hide ho.out;have hB':Hid (Below w.heap.size w w'):=(BR.out.trans ((show Below wr.heap.size wr _ by repeat (first|exact Below.refl _ _|refine Below.drew ?_|refine below_al ?_)).mono zr1)).trans hb.out;clear ho hb)
   all_goals
    go_wp2_with fail
    refine ⟨⟨k + 1,av,c',by go_num,by rw [hlen'.out];rfl,hkl,hide ⟨?_,hB'.out⟩⟩,by simp [intOf];omega⟩
    rw [hst.out]
    have h1:=hO'.out
    rw [hlen'.out] at h1
    exact h1
  ·have hki:¬ ((k:Int)<(s.size:Int)):=by omega
   have hke:k=s.size:=by omega
   have hcv:=own_conv OR.out
   rw [List.take_of_length_le (by rw [bl_length];omega)] at hcv
   clear hkl hke
   go_wp2_with fail
   go_ret
   exact ⟨rfl,BR.out⟩
def escB (c:UInt8):List UInt8:=if c=34∨c=92 then [92,c] else if c.toNat<32 then [92,117,48,48,hx (c.toNat / 16),hx (c.toNat % 16)] else [c]
def escL (l:List UInt8):List UInt8:=l.flatMap escB
def quo (l:List UInt8):List UInt8:=34 :: (escL l++[34])
theorem bless (c:UInt8):Op.bytesLess [c] [32]=decide (c.toNat<32):=by
 simp [Op.bytesLess,UInt8.lt_iff_toNat_lt]
theorem WO.trans {i:Nat} {A T U:List UInt8} {W w1 w2:World} {e:Ending} (h1:FW i W w1) (hA:A.length + T.length≤65536) (h2:WO i (A++T) U w1 e w2):WO i A (T++U) W e w2:=by
 obtain ⟨hb,h⟩:=h2
 refine ⟨h1.trans hb,?_⟩
 rcases h with ⟨q1,q2,q3⟩|⟨q1,q2⟩
 ·exact Or.inl ⟨by simp at q1 ⊢;omega,q2,by simpa using q3⟩
 ·exact Or.inr ⟨by simp at q1 ⊢;omega,q2⟩
theorem byte_str (s:ByteArray) (k:Nat) (h:k<s.size):s.extract k (k + 1)=mkB [s[k]]:=by
 apply ByteArray.ext
 simp [mkB,ByteArray.data_extract]
 apply Array.ext
 ·simp;omega
 ·intro i h1 h2
  simp at h1 h2
  have:i=0:=by omega
  subst this
  simp
  rfl
theorem jcat_run (a b c:ByteArray) (w:World) (h:a++b=c) (hs:a.size + b.size≤100000):(Op.stringOp .add a b).run Tryz.prog w=.ok (.string c) w:=by
 rw [←h];exact run_string_add_sum w a b (by omega)
theorem WB.below {W W1:World} {i:Nat} {A:List UInt8} (h:WB W i A) (hb:Below W.heap.size W W1):WB W1 i A:=by
 have hlt:=h.lt
 obtain ⟨v,h1,h2⟩:=h
 exact ⟨v,(hb.block i hlt).trans h1,ownsRow_of h2 fun g _ hg=>hb.block g hg⟩
def fhd (d:Nat):Nat:=if d<10 then 48 + d else 87 + d
def flowL (b:Nat):Nat→List Nat
 | 0=>[]
 | k + 1=>fhd (b / 16 ^ k % 16) :: flowL b k
theorem flowL_len (b k:Nat):(flowL b k).length=k:=by
 induction k with
 | zero=>rfl
 | succ k ih=>simp [flowL,ih]
def fhexS (b:Nat):ByteArray:=strOfNums ((flowL b 16).map fun v:Nat=>(v:Int))
theorem fhexd_get (d:Nat) (h:d<16) (h':d<(⟨#[48,49,50,51,52,53,54,55,56,57,97,98,99,100,101,102]⟩:ByteArray).size):((⟨#[48,49,50,51,52,53,54,55,56,57,97,98,99,100,101,102]⟩:ByteArray)[d]).toNat=fhd d:=by
 have:d=0∨d=1∨d=2∨d=3∨d=4∨d=5∨d=6∨d=7∨d=8∨d=9∨d=10∨d=11∨d=12∨d=13∨d=14∨d=15:=by omega
 rcases this with rfl|rfl|rfl|rfl|rfl|rfl|rfl|rfl|rfl|rfl|rfl|rfl|rfl|rfl|rfl|rfl <;> rfl
theorem fhex_any (b:Nat) (w:World) (hb:b<18446744073709551616) :
  Calls Tryz.prog 53 #[.int .u64 b] w fun e w'=>e=.returned (.string (fhexS b))∧Below w.heap.size w w':=by
 go_enter Tryz.func53, Tryz.ntmps53
 go_wp2
 go_loopw [0,5] (fun x i wr=>∃ k:Nat,k≤16∧i=.int .i64 k∧x=.int .u64 (b / 16 ^ k:Nat)∧Hid (Arr wr w.heap.size 112 (List.replicate (16 - k) 0++flowL b k))∧Hid (Below w.heap.size w wr)) (fun x i _=>16 - (intOf i).toNat)
 case atStart =>
  refine ⟨0,by omega,rfl,by simp,?_,?_⟩
  ·exact arr_new _ _ 16 _ rfl
  ·exact below_al (Below.refl _ _)
 case round =>
  obtain ⟨k,hk,rfl,rfl,hAr,hB⟩:=hrel
  obtain ⟨y,hy⟩:∃ y,b / 16 ^ k=y:=⟨_,rfl⟩
  have hyb:y<18446744073709551616:=by rw [←hy];exact Nat.lt_of_le_of_lt (Nat.div_le_self _ _) hb
  have hy1:=hide (show b / 16 ^ (k + 1)=y / 16 by rw [Nat.pow_succ,←Nat.div_div_eq_div_mul,hy])
  rw [hy]
  by_cases hlt:k<16
  ·obtain ⟨d,hdd⟩:∃ d,y % 16=d:=⟨_,rfl⟩
   have hd16:d<16:=by omega
   have hm:bits .and .u64 (y:Int) 15=(d:Int):=by
    have:=u64_and_nat y 15 hyb (by omega)
    rw [nat_mask4,hdd] at this
    exact this
   have hds:d<(⟨#[48,49,50,51,52,53,54,55,56,57,97,98,99,100,101,102]⟩:ByteArray).size:=hd16
   have hg:=fhexd_get d hd16 hds
   have hcs:=hAr.out.cell (15 - k) (by simp;omega)
   have hfz:=hAr.out.frozen (15 - k)
   have hlow:=hide (show flowL b (k + 1)=fhd d :: flowL b k by simp only [flowL];rw [hy,hdd])
   have hy:=hide hy
   have hi1:(0:Int)≤15 - (k:Int):=by omega
   have hi2:(15:Int) - (k:Int)<16:=by omega
   have hi3:((15:Int) - (k:Int)).toNat=15 - k:=by omega
   have hset:Hid ((List.replicate (16 - k) 0++flowL b k).set (15 - k) (fhd d)=List.replicate (16 - (k + 1)) 0++flowL b (k + 1)):=by
    show _=_
    rw [hlow.out,show 16 - k=(16 - (k + 1)) + 1 by omega,List.replicate_succ',List.append_assoc,List.set_append_right _ _ (by simp <;> omega),List.length_replicate,show 15 - k - (16 - (k + 1))=0 by omega]
    rfl
   go_wp2
   refine ⟨⟨k + 1,by omega,by go_num,by rw [hy1.out];rfl,?_,?_⟩,by simp [intOf];omega⟩
   ·show Arr _ _ _ _
    rw [←hset.out]
    exact hAr.out.set (15 - k) (fhd d)
   ·exact hB.out.setCell (Nat.le_refl _) _
  ·have hke:k=16:=by omega
   subst hke
   have hAr':Hid (Arr wr w.heap.size 112 (flowL b 16)):=by
    have:=hAr.out
    show Arr _ _ _ _
    simpa using this
   have hl:=flowL_len b 16
   have hconv:(convert 22 9 (.slice (some ⟨w.heap.size,0,none⟩) 16 16)).run Tryz.prog wr=.ok (.string (fhexS b)) wr:=by
    refine run_convert_bytes_arg (P:=Tryz.prog) wr 22 5 Tryz.underlying22 Tryz.underlying5 w.heap.size 0 16 16 ((flowL b 16).map fun v:Nat=>(v:Int)) (by simp [hl]) (fun i hi=>?_) 9 Tryz.underlying9
    rw [Nat.zero_add,hAr'.out.cell i (by omega)]
    congr 2
    rw [List.getD_eq_getElem?_getD,List.getElem?_map,List.getElem?_eq_getElem (by omega)]
    rfl
   clear hl
   go_wp2
   go_ret
   exact ⟨rfl,hB.out⟩
end Go.Proofs.YtdgehngffccjaaaGreatDoor
