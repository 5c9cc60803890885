/- Merged by program: ArPrint, AsAwake, AtJoins. -/
import Derived.Test.YtcnfchblfcfimaaGreatDoorZb24
import Derived.BigQuiet
import Derived.Test.YtcnfchblfcfimaaGreatDoorZb09
set_option linter.unusedSimpArgs false
set_option linter.unusedVariables false
namespace Go.Proofs.YtcnfchblfcfimaaGreatDoor
namespace Lx
open Go.RowKit
theorem below_drewN (w:World) (n B:Nat):Below B w (w.drewN n):=⟨rfl,rfl,rfl,Nat.le_refl _,fun _ _=>rfl⟩
theorem add_none0 (g q:Nat):((⟨g,0,none⟩:Addr).add q)=⟨g,0 + q,none⟩:=by
 unfold Addr.add
 split
 ·rename_i h;rw [h]
 ·simp
def TS (W:World) (v:Value) (l:List Tk):Prop:=∃ a c,v=.slice a l.length c∧l.length≤c∧c≤maxLen∧(0<l.length→∃ b o,a=some ⟨b,o,none⟩∧b<W.heap.size∧∀ k (h:k<l.length),W.cell? ⟨b,o + k * 3,none⟩=some (.int .i64 l[k].w)∧W.cell? ⟨b,o + k * 3 + 1,none⟩=some (.string (mkB l[k].s))∧W.cell? ⟨b,o + k * 3 + 2,none⟩=some (.int .i64 l[k].p))
theorem TS.of {w W:World} {v:Value} {l:List Tk} (h:TS w v l) (hz:w.heap.size≤W.heap.size) (hb:∀ k,k<w.heap.size→W.heap[k]?=w.heap[k]?):TS W v l:=by
 obtain ⟨a,c,rfl,h1,h2,h3⟩:=h
 refine ⟨a,c,rfl,h1,h2,fun hp=>?_⟩
 obtain ⟨b,o,e,hlt,hc⟩:=h3 hp
 refine ⟨b,o,e,by omega,fun k hk=>?_⟩
 have hq:∀ x,W.cell? ⟨b,x,none⟩=w.cell? ⟨b,x,none⟩:=fun x=>World.cell?_of_block (w:=w) (hb b hlt)
 rw [hq,hq,hq]
 exact hc k hk
theorem TS.below {w W:World} {v:Value} {l:List Tk} (h:TS w v l) (hb:Below w.heap.size w W):TS W v l:=h.of hb.size hb.block
theorem TS.nil (W:World):TS W (.slice none 0 0) []:=⟨none,0,rfl,by simp,by unfold maxLen;omega,fun h=>by simp at h⟩
theorem tcs_at:∀ (l:List Tk) (k:Nat) (h:k<l.length),(tcs l)[k * 3]?=some (.int .i64 l[k].w)∧(tcs l)[k * 3 + 1]?=some (.string (mkB l[k].s))∧(tcs l)[k * 3 + 2]?=some (.int .i64 l[k].p)
 | [],k,h=>by simp at h
 | t :: l,0,h=>by simp [tcs]
 | t :: l,k + 1,h=>by
  have:=tcs_at l k (by simpa using h)
  have e:tcs (t :: l)=[.int .i64 t.w,.string (mkB t.s),.int .i64 t.p]++tcs l:=by simp [tcs]
  rw [e]
  have ap:∀ q,([.int .i64 t.w,.string (mkB t.s),.int .i64 t.p]++tcs l:List Value)[3 + q]?=(tcs l)[q]?:=fun q=>by rw [List.getElem?_append_right (by simp)];simp
  have e1:(k + 1) * 3=3 + k * 3:=by omega
  have e2:(k + 1) * 3 + 1=3 + (k * 3 + 1):=by omega
  have e3:(k + 1) * 3 + 2=3 + (k * 3 + 2):=by omega
  rw [e2,e3,e1,ap,ap,ap]
  simpa using this
theorem OT.ts {W:World} {B:Nat} {v:Value} {l:List Tk} (h:OT W B v l) (hl:l.length≤100000):TS W v l:=by
 have hc:=h
 have hlt:=World.ownsRow.lt h
 rcases h.2 with ⟨rfl,h0⟩|⟨g,cap,cur,rfl,h1,h2,h3,h4,h5⟩
 ·have:l=[]:=List.length_eq_zero_iff.1 h0
  subst this
  exact TS.nil W
 ·refine ⟨_,cap,rfl,h3,by first|exact h4|(unfold maxLen;omega),fun hp=>⟨g,0,rfl,(hlt g rfl).2,fun k hk=>?_⟩⟩
  have hcells:∀ j u,(tcs l)[j]?=some u→W.cell? ((⟨g,0,none⟩:Addr).add j)=some u:=World.ownsRow.cells hc (g:=g) rfl
  obtain ⟨t1,t2,t3⟩:=tcs_at l k hk
  have ad:∀ q,((⟨g,0,none⟩:Addr).add q)=⟨g,0 + q,none⟩:=fun q=>add_none0 g q
  exact ⟨by have:=hcells _ _ t1;rwa [ad] at this,by have:=hcells _ _ t2;rwa [ad] at this,by have:=hcells _ _ t3;rwa [ad] at this⟩
theorem TS.shape {W:World} {v:Value} {l:List Tk} (h:TS W v l):∃ a c,v=.slice a l.length c∧l.length≤c∧c≤maxLen:=by
 obtain ⟨a,c,rfl,h1,h2,_⟩:=h
 exact ⟨a,c,rfl,h1,h2⟩
theorem TS.at {W:World} {a:Option Addr} {n c:Nat} {l:List Tk} (h:TS W (.slice a n c) l) (k:Nat) (hk:k<l.length):∃ b o,a=some ⟨b,o,none⟩∧b<W.heap.size∧W.cell? ⟨b,o + k * 3,none⟩=some (.int .i64 l[k].w)∧W.cell? ⟨b,o + k * 3 + 1,none⟩=some (.string (mkB l[k].s))∧W.cell? ⟨b,o + k * 3 + 2,none⟩=some (.int .i64 l[k].p):=by
 obtain ⟨a',c',e,h1,h2,h3⟩:=h
 cases e
 obtain ⟨b,o,e,hlt,hc⟩:=h3 (by omega)
 exact ⟨b,o,e,hlt,hc k hk⟩
def tot (l:List Tk):Nat:=l.length + (l.map fun t=>t.s.length).sum
theorem kdW_hit {w:Int} {k:Nat} (h1:1≤k) (h5:k<5) (h:((wdK k:Nat):Int)=w):kdW w=k:=by
 have:k=1∨k=2∨k=3∨k=4:=by omega
 rcases this with rfl|rfl|rfl|rfl <;> (subst h;rfl)
theorem kdW_miss {w:Int} (h:∀ i,1≤i→i<5→¬ ((wdK i:Nat):Int)=w):kdW w=0:=by
 have a1:=h 1 (by omega) (by omega)
 have a2:=h 2 (by omega) (by omega)
 have a3:=h 3 (by omega) (by omega)
 have a4:=h 4 (by omega) (by omega)
 simp only [wdK] at a1 a2 a3 a4
 unfold kdW
 (repeat' split) <;> simp_all
set_option maxHeartbeats 1000000 in
theorem kindOf_any (x:Int) (w:World) (g:Gg w):Calls Tryz.prog 71 #[.int .i64 x] w fun e w'=>e=.returned (.int .i64 (kdW x:Nat))∧w'=w:=by
 have wo:=hide g.wo
 clear g
 go_enter Tryz.func71, Tryz.ntmps71
 go_wp2
 go_loop [3] (fun i=>∃ k:Nat,i=.int .i64 k∧1≤k∧k≤5∧Hid (∀ i,1≤i→i<k→¬ ((wdK i:Nat):Int)=x)) (fun i=>5 - (intOf i).toNat)
 case atStart=>exact ⟨1,rfl,by omega,by omega,fun i h1 h2=>by omega⟩
 case round =>
  obtain ⟨k,rfl,h1,h5,H⟩:=hrel
  by_cases hk:k<5
  ·have hki:(k:Int)<5:=by omega
   have hk0:(0:Int)≤(k:Int):=by omega
   have hc:=wo.out k hk
   by_cases he:((wdK k:Nat):Int)=x
   ·have hd:=hide (kdW_hit h1 hk he)
    have e1:(((wdK k:Nat):Int)==x)=true:=by simpa using he
    clear he
    go_wp2
    go_ret
    exact ⟨by rw [hd.out];rfl,rfl⟩
   ·have e1:(((wdK k:Nat):Int)==x)=false:=by simpa using he
    have H2:Hid (∀ i,1≤i→i<k + 1→¬ ((wdK i:Nat):Int)=x):=fun i a b=>by
     by_cases hi:i=k
     ·subst hi;exact he
     ·exact H.out i a (by omega)
    clear he H
    go_wp2
    go_round
    case rel=>exact ⟨k + 1,by go_num,by omega,by omega,H2⟩
    case measure=>simp [intOf];omega
  ·have hki:¬ (k:Int)<5:=by omega
   have hd:Hid (kdW x=0):=kdW_miss fun i a b=>H.out i a (by omega)
   clear H
   go_wp2
   go_ret
   exact ⟨by rw [hd.out];rfl,rfl⟩
set_option maxHeartbeats 2000000 in
set_option maxRecDepth 100000 in
theorem isTok_any (hP:ParseOk) (t:Tk) (w:World) (g:Gg w) (hs:t.s.length≤70000):Calls Tryz.prog 70 #[.agg #[.int .i64 t.w,.string (mkB t.s),.int .i64 t.p]] w fun e w'=>e=.returned (.bool (isT nok t.w t.s))∧Below w.heap.size w w':=by
 obtain ⟨x,l,p⟩:=t
 simp only at hs ⊢
 have g1:Hid (∀ o,Gg (w.alloc o)):=fun o=>g.below (below_al (Below.refl _ _)) g.sz
 obtain ⟨s,hsd⟩:∃ s,mkB l=s:=⟨_,rfl⟩
 have hsb:bl s=l:=by rw [←hsd,bl_mkB]
 have hsz:s.size=l.length:=by rw [←hsd,mkB_size]
 rw [hsd]
 have hko:=hide (fun o=>kindOf_any x (w.alloc o) (g1.out o))
 have hB0:Hid (∀ o,Below w.heap.size w (w.alloc o)):=fun o=>below_al (Below.refl _ _)
 unfold isT
 obtain ⟨k,hk⟩:∃ k,kdW x=k:=⟨_,rfl⟩
 have hk5:k<5:=by rw [←hk];unfold kdW;(repeat' split) <;> omega
 rw [hk] at hko ⊢
 clear hk g hsd
 by_cases h0:k=0
 ·subst h0
  rw [if_pos rfl]
  clear hsb
  go_enter Tryz.func70, Tryz.ntmps70
  go_wp2_with (go_at_call 71;refine (hko.out _).mono ?_;rintro e w1 ⟨rfl,hw1⟩;have hw1s:=hw1.symm;clear hw1;subst hw1s)
  go_ret
  exact ⟨rfl,hB0.out _⟩
 ·rw [if_neg h0]
  have e0:((k:Int)==0)=false:=by simp;omega
  by_cases h3:k=3
  ·subst h3
   rw [if_pos rfl]
   have hva:=hide (fun o=>Ut.valid_any s (w.alloc o) (g1.out o).gu (by omega))
   have hvt:Ut.okT (Ut.bl s)=okT l:=by rw [←hsb];rfl
   rw [hvt] at hva
   obtain ⟨b,hb⟩:∃ b,okT l=b:=⟨_,rfl⟩
   rw [hb] at hva ⊢
   clear hsb hvt hb h0
   go_enter Tryz.func70, Tryz.ntmps70
   go_wp2_with (first|(go_at_call 71;refine (hko.out _).mono ?_;rintro e w1 ⟨rfl,hw1⟩;have hw1s:=hw1.symm;clear hw1;subst hw1s)|(go_at_call 129;refine (hva.out _).mono ?_;rintro e w2 ⟨rfl,hb2⟩;have hb2:=hide (below_then (hB0.out _) hb2)))
   go_ret
   exact ⟨rfl,hb2.out⟩
  ·rw [if_neg h3]
   have e3:((k:Int)==3)=false:=by simp;omega
   by_cases hn:l=[]
   ·rw [if_pos hn]
    have hs0:s=⟨#[]⟩:=by rw [←mkB_bl s,hsb,hn];rfl
    subst hs0
    clear hsb hsz hn
    go_enter Tryz.func70, Tryz.ntmps70
    go_wp2_with (go_at_call 71;refine (hko.out _).mono ?_;rintro e w1 ⟨rfl,hw1⟩;have hw1s:=hw1.symm;clear hw1;subst hw1s)
    go_ret
    exact ⟨rfl,hB0.out _⟩
   ·rw [if_neg hn]
    have hpos:0<s.size:=by rw [hsz];exact List.length_pos_iff.2 hn
    have hne:¬ s.toList=[]:=by rw [bl_toList,hsb];exact hn
    have hneb:s.toList.isEmpty=false:=by rw [bl_toList,hsb];cases l with|nil=>exact absurd rfl hn|cons a t=>rfl
    have hcut:=hide (fun o=>cut_any hP k hk5 s (w.alloc o) (g1.out o) hpos (Or.inr ⟨h3,by omega⟩))
    rw [hsb] at hcut
    obtain ⟨xn,hxn⟩:∃ xn,cutK nok k l=xn:=⟨_,rfl⟩
    rw [hxn] at hcut ⊢
    obtain ⟨y,n⟩:=xn
    simp only [cutE] at hcut ⊢
    have hnl:((n:Int)==(s.size:Int))=(n==l.length):=by rw [hsz];cases h:(n==l.length) <;> simp at h ⊢ <;> omega
    obtain ⟨b,hb⟩:∃ b,(n==l.length)=b:=⟨_,rfl⟩
    rw [hb] at hnl ⊢
    clear hsb hsz hn hxn hb h0 h3 hpos
    go_enter Tryz.func70, Tryz.ntmps70
    go_wp2_with (first|(go_at_call 71;refine (hko.out _).mono ?_;rintro e w1 ⟨rfl,hw1⟩;have hw1s:=hw1.symm;clear hw1;subst hw1s)|(go_at_call 113;refine (hcut.out _).mono ?_;rintro e w2 ⟨rfl,hb2⟩;have hc2:w2.cell? ⟨w.heap.size,1,none⟩=some (.string s):=(World.cell?_of_block (hb2.block w.heap.size (by simp))).trans (by simp);have hb2:=hide (below_then (hB0.out _) hb2)))
    go_ret
    exact ⟨rfl,hb2.out⟩
set_option maxHeartbeats 1000000 in
set_option maxRecDepth 100000 in
theorem spell_any (t:Tk) (w:World) (hs:t.s.length≤5000):Calls Tryz.prog 72 #[.agg #[.int .i64 t.w,.string (mkB t.s),.int .i64 t.p]] w fun e w'=>e=.returned (.string (mkB (splT t)))∧Below w.heap.size w w':=by
 obtain ⟨x,l,p⟩:=t
 simp only at hs ⊢
 unfold splT spl
 simp only
 obtain ⟨s,hsd⟩:∃ s,mkB l=s:=⟨_,rfl⟩
 have hsb:bl s=l:=by rw [←hsd,bl_mkB]
 have hsz:s.size=l.length:=by rw [←hsd,mkB_size]
 have hB0:Hid (∀ o,Below w.heap.size w (w.alloc o)):=fun o=>below_al (Below.refl _ _)
 have hq:=hide (fun o=>quote_any s (w.alloc o) (by omega))
 rw [hsb] at hq
 obtain ⟨Z,hZ⟩:∃ Z,mkB (quo l)=Z:=⟨_,rfl⟩
 rw [hZ] at hq
 rw [hsd]
 by_cases h2:x=2
 ·subst h2
  rw [if_pos rfl,hZ]
  clear hsd hsb hsz hZ
  go_enter Tryz.func72, Tryz.ntmps72
  go_wp2_with (go_at_call 130;refine (hq.out _).mono ?_;rintro e w2 ⟨rfl,hb2⟩;have hb2:=hide (below_then (hB0.out _) hb2))
  go_ret
  exact ⟨rfl,hb2.out⟩
 ·rw [if_neg h2,hsd]
  have e2:(x==2)=false:=by simpa using h2
  clear hsd hsb hsz hZ h2
  go_enter Tryz.func72, Tryz.ntmps72
  go_wp2
  go_ret
  exact ⟨rfl,hB0.out _⟩
section
variable {w : World} {ops : Array Oper} {rest : List Oper} {o : Oper} {a : Act} {Q : Exit → Act → World → Prop}
theorem app_bytes2 (hgd:o.guard=none) (s x:Operand) (ho:o.op=.call {callee:=.builtin .append,args:=#[s,x],argTypes:=#[94,94]})
  (B:Nat) (v:Value) (l:List UInt8) (hs:a.eval s=v) (hown:Own w B v l) (ad:Addr) (m c:Nat) (news:List UInt8) (hx:a.eval x=.slice (some ad) m c) (hm:news.length=m)
  (hnews:∀ j u,(bcs news)[j]?=some u→w.cell? (ad.add j)=some u) (hl:l.length + m≤100000) (hB:B≤w.heap.size)
  (h:∀ v' w',Hid (Own w' B v' (l++news))→Hid (w.grownBy w' v.ownBlock)→wpList Tryz.prog ops Q rest (a.put o.dst v') w'):wpList Tryz.prog ops Q (o :: rest) a w:=by
 obtain ⟨i0,hi,hz0,hz1,hz2⟩:=info_parts info5
 refine wpList_append_own w hgd s x 94 ho B 5 i0 (.int .u8 0) 1 1 Tryz.underlying94 hi hz0 hz1 hz2 rfl (by decide) v l.length (bcs l) hs hown ad m c (bcs news) hx (by rw [bcs_length,hm];simp) hnews ?_ ?_ ?_ hB ?_
 ·intro u hu
  simp only [bcs,List.mem_map] at hu
  obtain ⟨c,_,rfl⟩:=hu
  rfl
 ·unfold maxLen;omega
 ·omega
 ·intro v' w' h1 h2 _
  refine h v' w' ?_ h2
  show Own _ _ _ _
  unfold Own
  rw [bcs_append,List.length_append,hm];exact h1
end
def lon (t:Tk):Bool:=decide (lgK (kdW t.w)<t.s.length)
def prR (l:List Tk):Nat×List UInt8:=if ¬ (∀ t∈l,isT nok t.w t.s=true) then (1,[]) else if 1024<l.length∨(∃ t∈l,lon t=true)∨4096<(jn (l.map splT)).length then (2,[]) else (0,jn (l.map splT))
def prE (x:Nat×List UInt8):Ending:=.returned (.tuple #[.string (mkB x.2),.int .i64 (x.1:Nat)])
theorem mem_sum:∀ {l:List Nat} {a:Nat},a∈l→a≤l.sum
 | b :: l,a,h=>by
  rw [List.sum_cons]
  rcases List.mem_cons.1 h with rfl|h
  ·omega
  ·have:=mem_sum h;omega
theorem jn_snoc:∀ (l:List (List UInt8)) (a:List UInt8),jn (l++[a])=(if l=[] then a else jn l++32 :: a)
 | [],a=>rfl
 | [b],a=>by simp [jn]
 | b :: c :: l,a=>by
  have:=jn_snoc (c :: l) a
  rw [if_neg (by simp)] at this ⊢
  simp only [List.cons_append] at this ⊢
  simp only [jn]
  rw [this]
  simp
theorem jn_take (l:List (List UInt8)):∀ k,(jn (l.take k)).length≤(jn l).length:=by
 intro k
 induction l generalizing k with
 | nil=>simp
 | cons a l ih =>
  cases k with
  | zero=>simp [jn]
  | succ k =>
   rw [List.take_succ_cons]
   cases l with
   | nil=>simp
   | cons b l =>
    cases k with
    | zero=>simp [jn]
    | succ k =>
     have:=ih (k + 1)
     rw [List.take_succ_cons] at this ⊢
     simp only [jn,List.length_append,List.length_cons]
     omega
set_option maxHeartbeats 4000000 in
set_option maxRecDepth 100000 in
theorem print_any (hP:ParseOk) (u:Value) (l:List Tk) (w:World) (hu:TS w u l) (g:Gg w) (hz:tot l≤70000):Calls Tryz.prog 34 #[u] w fun e w'=>e=prE (prR l)∧Below w.heap.size w w':=by
 obtain ⟨au,cu,rfl,hu1,hu2⟩:=hu.shape
 have hu:=hide hu
 have g0:=hide g
 have hP0:=hide hP
 have ml:maxLen=9223372036854775807:=rfl
 have hzt:Hid (∀ t∈l,t.s.length≤70000):=fun t ht=>by
  have:t.s.length≤(l.map fun t=>t.s.length).sum:=mem_sum (List.mem_map.2 ⟨t,ht,rfl⟩)
  unfold tot at hz
  omega
 have hl7:l.length≤70000:=by unfold tot at hz;omega
 obtain ⟨U,hU⟩:∃ U,prR l=U:=⟨_,rfl⟩
 rw [hU]
 have HU:=hide hU
 clear hU g hP hz
 go_enter Tryz.func34, Tryz.ntmps34
 go_wp2
 go_loopw [11] (fun i W=>∃ k:Nat,i=.int .i64 k∧k≤l.length∧Hid ((∀ j (h:j<l.length),j<k→isT nok l[j].w l[j].s=true)∧Below w.heap.size w W)) (fun i _=>l.length - (intOf i).toNat)
 case atStart=>exact ⟨0,rfl,Nat.zero_le _,fun j h1 h2=>by omega,Below.refl _ _⟩
 case round =>
  obtain ⟨k,rfl,hk,H⟩:=hrel
  by_cases hkl:k<l.length
  ·have hki:(k:Int)<(l.length:Int):=by omega
   obtain ⟨hA,hB⟩:=H.out
   have A1:=hide hA
   have B1:=hide hB
   have gr:=hide (g0.out.below hB g0.out.sz)
   obtain ⟨b,o,rfl,hb,p1,p2,p3⟩:=(hu.out.below hB).at k hkl
   have hti:Hid (∀ W,Below wr.heap.size wr W→Calls Tryz.prog 70 #[.agg #[.int .i64 l[k].w,.string (mkB l[k].s),.int .i64 l[k].p]] W fun e w'=>e=.returned (.bool (isT nok l[k].w l[k].s))∧Below W.heap.size W w'):=(fun W hb=>isTok_any hP0.out l[k] W (gr.out.below hb gr.out.sz) (hzt.out _ (List.getElem_mem _)))
   clear H hA hB
   obtain ⟨x,hx⟩:∃ x,l[k].w=x:=⟨_,rfl⟩
   obtain ⟨y,hy⟩:∃ y,mkB l[k].s=y:=⟨_,rfl⟩
   obtain ⟨z,hz⟩:∃ z,l[k].p=z:=⟨_,rfl⟩
   obtain ⟨q,hq⟩:∃ q,isT nok l[k].w l[k].s=q:=⟨_,rfl⟩
   rw [hq] at hti
   rw [hx] at p1 hti
   rw [hy] at p2 hti
   rw [hz] at p3 hti
   have hq:=hide hq
   clear hx hy hz
   rename_i hqq
   clear hqq
   go_wp2_with fail
   refine (hti.out _ (below_al (Below.refl _ _))).mono ?_
   rintro e w1 ⟨rfl,hb1⟩
   have B2:=hide (below_then (below_al B1.out) hb1)
   clear hb1
   cases q
   ·have U2:Hid (U=(1,[])):=by
     show _=_
     rw [←HU.out]
     unfold prR
     rw [if_pos (fun h=>by have:=h _ (List.getElem_mem hkl);rw [hq.out] at this;cases this)]
    go_wp2
    go_ret2
    exact ⟨by rw [U2.out];rfl,B2.out⟩
   ·have A2:Hid (∀ j (h:j<l.length),j<k + 1→isT nok l[j].w l[j].s=true):=fun j h1 h2=>by
     by_cases hjk:j=k
     ·subst hjk;exact hq.out
     ·exact A1.out j h1 (by omega)
    clear A1 hq
    go_wp2
    go_roundw
    case rel=>exact ⟨k + 1,by go_num,by omega,A2.out,B2.out⟩
    case measure=>simp [intOf];omega
  ·have hki:¬ (k:Int)<(l.length:Int):=by omega
   have hall:Hid (∀ t∈l,isT nok t.w t.s=true):=fun t ht=>by
    obtain ⟨j,hj,rfl⟩:=List.mem_iff_getElem.1 ht
    exact H.out.1 j hj (by omega)
   have B0:=hide H.out.2
   have U1:Hid (U=if 1024<l.length∨(∃ t∈l,lon t=true)∨4096<(jn (l.map splT)).length then (2,[]) else (0,jn (l.map splT))):=by
    show _=_
    rw [←HU.out]
    unfold prR
    rw [if_neg (fun h=>h hall.out)]
   clear H HU
   by_cases hbig:1024<l.length
   ·have ib:(1024:Int)<(l.length:Int):=by omega
    have U2:Hid (U=(2,[])):=by show _=_;rw [U1.out,if_pos (Or.inl hbig)]
    go_wp2
    go_ret2
    exact ⟨by rw [U2.out];rfl,B0.out⟩
   ·have ib:¬ (1024:Int)<(l.length:Int):=by omega
    go_wp2
    clear hkl hki hk
    go_loopw [6,24] (fun v i W=>∃ k:Nat,i=.int .i64 k∧k≤l.length∧Hid (Own W w.heap.size v (jn ((l.take k).map splT))∧(∀ j (h:j<l.length),j<k→lon l[j]=false)∧(jn ((l.take k).map splT)).length≤4096∧Below w.heap.size w W)) (fun _ i _=>l.length - (intOf i).toNat)
    case atStart=>exact ⟨0,rfl,Nat.zero_le _,own_nil _ _,fun j h1 h2=>by omega,by simp [jn],B0.out⟩
    case round =>
     obtain ⟨k,rfl,hk,H⟩:=hrel
     obtain ⟨hO,hA,hL,hB⟩:=H.out
     have O1:=hide hO
     have A1:=hide hA
     have L1:=hide hL
     have B1:=hide hB
     clear H hO hA hL hB
     by_cases hkl:k<l.length
     ·have hki:(k:Int)<(l.length:Int):=by omega
      have gr:=hide (g0.out.below B1.out g0.out.sz)
      obtain ⟨b,o,rfl,hb,p1,p2,p3⟩:=(hu.out.below B1.out).at k hkl
      obtain ⟨T,hT⟩:∃ T,l[k]=T:=⟨_,rfl⟩
      have hTm:Hid (T∈l):=by rw [←hT];exact List.getElem_mem _
      have hTk:=hide hT
      have hjt:Hid ((l.take (k + 1)).map splT=(l.take k).map splT++[splT T]):=by
       show _=_
       rw [List.take_succ_eq_append_getElem hkl,List.map_append,hT]
       rfl
      have hTis:Hid (isT nok T.w T.s=true):=hall.out T hTm.out
      rw [hT] at p1 p2 p3
      obtain ⟨x,ys,z⟩:=T
      simp only at p1 p2 p3
      have hys:Hid ((mkB ys).size=ys.length):=mkB_size ys
      have hko:Hid (∀ o n,Calls Tryz.prog 71 #[.int .i64 x] ((wr.alloc o).drewN n) fun e w'=>e=.returned (.int .i64 (kdW x:Nat))∧w'=(wr.alloc o).drewN n):=fun o n=>kindOf_any x _ (gr.out.below (below_then (below_al (Below.refl _ _)) (below_drewN _ _ _)) gr.out.sz)
      have hk5:kdW x<5:=by unfold kdW;(repeat' split) <;> omega
      have hlo:∀ o,(wr.alloc o).cell? ⟨0,kdW x,none⟩=some (.int .i64 (lgK (kdW x):Nat)):=fun o=>(gr.out.below (below_al (Below.refl _ _)) gr.out.sz).lo _ hk5
      have hlon:Hid (lon ⟨x,ys,z⟩=decide (lgK (kdW x)<ys.length)):=rfl
      have hlg:lgK (kdW x)≤4096:=by unfold lgK;(repeat' split) <;> omega
      have hsp:Hid (ys.length≤4096→∀ W,Calls Tryz.prog 72 #[.agg #[.int .i64 x,.string (mkB ys),.int .i64 z]] W fun e w'=>e=.returned (.string (mkB (splT ⟨x,ys,z⟩)))∧Below W.heap.size W w'):=fun h W=>spell_any ⟨x,ys,z⟩ W (by simp only;omega)
      obtain ⟨q,hq⟩:∃ q,kdW x=q:=⟨_,rfl⟩
      obtain ⟨m,hm⟩:∃ m,lgK q=m:=⟨_,rfl⟩
      rw [hq] at hko hk5 hlo hlon hlg
      rw [hm] at hlo hlon hlg
      have hq0:(0:Int)≤(q:Int):=by omega
      have hq5:(q:Int)<5:=by omega
      obtain ⟨y,hy⟩:∃ y,mkB ys=y:=⟨_,rfl⟩
      rw [hy] at p2 hys hsp
      have hspl:Hid ((splT ⟨x,ys,z⟩).length≤6 * ys.length + 2):=by
       show _≤_
       unfold splT spl
       simp only
       split
       ·have:=esc_len ys;simp only [quo,List.length_cons,List.length_append,List.length_nil];omega
       ·omega
      clear hT hm hq hy
      by_cases hlg2:m<ys.length
      ·have U2:Hid (U=(2,[])):=by
        show _=_
        rw [U1.out,if_pos (Or.inr (Or.inl ⟨_,hTm.out,by rw [hlon.out];exact decide_eq_true hlg2⟩))]
       have i1:((m:Nat):Int)<((y.size:Nat):Int):=by rw [hys.out];omega
       clear hlg2 hlg hk5 hspl hsp
       go_wp2_with fail
       go_quiet (first|(go_at_call 71;exact Calls.quiet_of_same (hko.out _ _)))
       go_wp2
       go_ret2
       exact ⟨by rw [U2.out];rfl,below_then (below_al B1.out) (below_drewN _ _ _)⟩
      ·have i1:¬ ((m:Nat):Int)<((y.size:Nat):Int):=by rw [hys.out];omega
       have hsp2:=hide (hsp.out (by omega))
       have A2:Hid (∀ j (h:j<l.length),j<k + 1→lon l[j]=false):=fun j h1 h2=>by
        by_cases hjk:j=k
        ·subst hjk;rw [hTk.out,hlon.out];exact decide_eq_false hlg2
        ·exact A1.out j h1 (by omega)
       have hS:Hid (mkB (splT ⟨x,ys,z⟩)=mkB (splT ⟨x,ys,z⟩)):=rfl
       have hyl:Hid (ys.length≤4096):=by show _≤_;omega
       obtain ⟨S,hSd⟩:∃ S,splT ⟨x,ys,z⟩=S:=⟨_,rfl⟩
       rw [hSd] at hjt hspl hsp2
       have hSb:=hide (bl_mkB S)
       have hSz:Hid ((mkB S).size=S.length):=mkB_size S
       obtain ⟨Sb,hSbd⟩:∃ Sb,mkB S=Sb:=⟨_,rfl⟩
       rw [hSbd] at hSb hSz hsp2
       obtain ⟨J,hJ⟩:∃ J,jn ((l.take k).map splT)=J:=⟨_,rfl⟩
       rw [hJ] at O1 L1
       have hJn:Hid (jn ((l.take (k + 1)).map splT)=if k=0 then S else J++32 :: S):=by
        show _=_
        rw [hjt.out,jn_snoc,hJ]
        by_cases hk0:k=0
        ·subst hk0;simp
        ·rw [if_neg hk0,if_neg]
         intro e
         have:=congrArg List.length e
         rw [List.length_map,List.length_take,List.length_nil] at this
         omega
       have hJe0:Hid (k=0→J=[]):=fun e=>by rw [←hJ,e];rfl
       have i1n:¬ m<y.size:=by rw [hys.out];exact hlg2
       have hJle:Hid ((jn ((l.take (k + 1)).map splT)).length≤(jn (l.map splT)).length):=by
        show _≤_
        rw [List.map_take]
        exact jn_take _ _
       obtain ⟨J2,hJ2⟩:∃ J2,jn ((l.take (k + 1)).map splT)=J2:=⟨_,rfl⟩
       rw [hJ2] at hJn hJle
       have hJ2:=hide hJ2
       clear hlg2 hlg hk5 A1 hsp hS hSd hSbd hjt hJ
       rename_i hJ2q
       clear hJ2q
       have hk0':k=0∨0<k:=by omega
       rcases hk0' with hk0|hk0
       ·have ik:¬ (0:Int)<(k:Int):=by omega
        have hJ0:Hid (J2=S):=by have:=hJn.out;rw [if_pos hk0] at this;exact this
        have hJe:Hid (J=[]):=hJe0.out hk0
        clear hJn hk0 hJe0
        go_wp2_with fail
        go_quiet (first|(go_at_call 71;exact Calls.quiet_of_same (hko.out _ _)))
        have BW:Hid (Below wr.heap.size wr ((wr.alloc (Obj.cells #[Value.int IntKind.i64 x,Value.string y,Value.int IntKind.i64 z] 88)).drewN nq)):=below_then (below_al (Below.refl _ _)) (below_drewN _ _ _)
        go_wp2_with (first|(go_at_call 72;refine (hsp2.out _).mono ?_;rintro e w2 ⟨rfl,hb2⟩;have B2':=hide (below_then BW.out hb2);clear hb2)|(at_builtin;refine Sto.out ?_))
        refine Sto.mk ?_
        have O2:=hide (own_keep O1.out B2'.out)
        have B2:=hide (below_then B1.out B2'.out)
        refine app_str rfl (.tmp 43) (.tmp 45) rfl w.heap.size u6 J rfl O2.out Sb rfl (by have:=L1.out;have:=hSz.out;have:=hspl.out;have:=hyl.out;omega) B2.out.size ?_
        intro v3 w3 ho3 hb3 hz3
        have O3:Hid (Own w3 w.heap.size v3 J2):=by have:=ho3.out;rw [hSb.out,hJe.out,List.nil_append,←hJ0.out] at this;exact this
        have B3:Hid (Below w.heap.size w w3):=B2.out.trans hb3.out
        obtain ⟨a3,c3,rfl⟩:=own_shape O3.out
        clear ho3 hb3 hz3 hlo
        by_cases h4096:4096<J2.length
        ·have j4:(4096:Int)<(J2.length:Int):=by omega
         have U2:Hid (U=(2,[])):=by show _=_;rw [U1.out,if_pos (Or.inr (Or.inr (by have:=hJle.out;omega)))]
         go_wp2
         go_ret2
         exact ⟨by rw [U2.out];rfl,B3.out⟩
        ·have j4:¬ (4096:Int)<(J2.length:Int):=by omega
         go_wp2
         go_roundw
         case rel=>exact ⟨k + 1,by go_num,by omega,by rw [hJ2.out];exact O3.out,A2.out,by rw [hJ2.out];omega,B3.out⟩
         case measure=>simp [intOf];omega
       ·have ik:(0:Int)<(k:Int):=by omega
        have hJ0:Hid (J2=J++32 :: S):=by have:=hJn.out;rw [if_neg (by omega)] at this;exact this
        clear hJn hk0 hJe0
        go_wp2_with fail
        go_quiet (first|(go_at_call 71;exact Calls.quiet_of_same (hko.out _ _)))
        have BW:Hid (Below wr.heap.size wr ((wr.alloc (Obj.cells #[Value.int IntKind.i64 x,Value.string y,Value.int IntKind.i64 z] 88)).drewN nq)):=below_then (below_al (Below.refl _ _)) (below_drewN _ _ _)
        obtain ⟨W1,hW1⟩:∃ W1,W1=((wr.alloc (Obj.cells #[Value.int IntKind.i64 x,Value.string y,Value.int IntKind.i64 z] 88)).drewN nq):=⟨_,rfl⟩
        have c0:Hid (W1.heap[wr.heap.size]?=some (Obj.cells #[Value.int IntKind.i64 x,Value.string y,Value.int IntKind.i64 z] 88)):=by
         show _=_
         rw [hW1]
         exact Array.getElem?_push_size
        have z1:Hid (W1.heap.size=wr.heap.size + 1):=by show _=_;rw [hW1];simp
        rw [←hW1] at BW ⊢
        clear hW1
        have hn:=hide (news_one W1 32 5)
        have OW:=hide (own_keep O1.out BW.out)
        have hll:=hide (World.ownsRow.lt O1.out)
        go_wp2_with (at_builtin;refine Sto.out ?_)
        refine Sto.mk ?_
        refine app_bytes2 rfl (.tmp 40) (.tmp 41) rfl w.heap.size u6 J rfl (OW.out.alloc _) ⟨W1.heap.size,0,none⟩ 1 1 [32] rfl rfl hn.out (by have:=L1.out;omega) (by have:=B1.out.size;have:=z1.out;simp;omega) ?_
        intro v2 w2 ho2 hg2
        have cB:Hid (w2.heap[wr.heap.size]?=some (Obj.cells #[Value.int IntKind.i64 x,Value.string y,Value.int IntKind.i64 z] 88)):=by
         show _=_
         rw [hg2.out.block wr.heap.size (by have:=z1.out;simp;omega) (fun q=>by have:=(hll.out _ q.symm).2;omega),Below.heap_alloc _ _ _ (by have:=z1.out;omega)]
         exact c0.out
        have d0:w2.cell? ⟨wr.heap.size,0,none⟩=some (.int .i64 x):=by simp [World.cell?,cB.out]
        have d1:w2.cell? ⟨wr.heap.size,1,none⟩=some (.string y):=by simp [World.cell?,cB.out]
        have d2:w2.cell? ⟨wr.heap.size,2,none⟩=some (.int .i64 z):=by simp [World.cell?,cB.out]
        have B2:Hid (Below w.heap.size w w2):=(below_al (below_then B1.out BW.out)).grown hg2.out (by have:=B1.out.size;have:=z1.out;simp;omega) (fun q hq=>(hll.out q hq).1)
        have O2:Hid (Own w2 w.heap.size v2 (J++[32])):=ho2.out
        clear ho2 hg2 hn OW hlo
        go_wp2_with (first|(go_at_call 72;refine (hsp2.out _).mono ?_;rintro e w4 ⟨rfl,hb4⟩;have B4':=hide hb4;clear hb4)|(at_builtin;refine Sto.out ?_))
        refine Sto.mk ?_
        have O4:=hide (own_keep O2.out B4'.out)
        have B4:=hide (below_then B2.out B4'.out)
        refine app_str rfl (.tmp 43) (.tmp 45) rfl w.heap.size v2 (J++[32]) rfl O4.out Sb rfl (by have:=L1.out;have:=hSz.out;have:=hspl.out;have:=hyl.out;simp;omega) B4.out.size ?_
        intro v3 w3 ho3 hb3 hz3
        have O3:Hid (Own w3 w.heap.size v3 J2):=by have:=ho3.out;rw [hSb.out,List.append_assoc,List.singleton_append,←hJ0.out] at this;exact this
        have B3:Hid (Below w.heap.size w w3):=B4.out.trans hb3.out
        obtain ⟨a3,c3,rfl⟩:=own_shape O3.out
        clear ho3 hb3 hz3 d0 d1 d2
        by_cases h4096:4096<J2.length
        ·have j4:(4096:Int)<(J2.length:Int):=by omega
         have U2:Hid (U=(2,[])):=by show _=_;rw [U1.out,if_pos (Or.inr (Or.inr (by have:=hJle.out;omega)))]
         go_wp2
         go_ret2
         exact ⟨by rw [U2.out];rfl,B3.out⟩
        ·have j4:¬ (4096:Int)<(J2.length:Int):=by omega
         go_wp2
         go_roundw
         case rel=>exact ⟨k + 1,by go_num,by omega,by rw [hJ2.out];exact O3.out,A2.out,by rw [hJ2.out];omega,B3.out⟩
         case measure=>simp [intOf];omega
     ·have hki:¬ (k:Int)<(l.length:Int):=by omega
      have hcv:=own_conv O1.out
      obtain ⟨J,hJ⟩:∃ J,jn ((l.take k).map splT)=J:=⟨_,rfl⟩
      rw [hJ] at hcv
      have htk:l.take k=l:=List.take_of_length_le (by omega)
      have U2:Hid (U=(0,J)):=by
       show _=_
       rw [U1.out,←hJ,htk,if_neg]
       intro h
       rcases h with h|⟨t,ht,h⟩|h
       ·omega
       ·obtain ⟨j,hj,rfl⟩:=List.mem_iff_getElem.1 ht
        have:=A1.out j hj (by omega)
        rw [h] at this;cases this
       ·have:=L1.out
        rw [htk] at this
        omega
      clear htk hJ
      go_wp2
      go_ret2
      exact ⟨by rw [U2.out];rfl,B1.out⟩
end Lx
end Go.Proofs.YtcnfchblfcfimaaGreatDoor
namespace Go.Proofs.YtcnfchblfcfimaaGreatDoor
namespace Lx
open Go.RowKit
def exA:List Tk:=[⟨4,[46],0⟩,⟨1,[97],1⟩,⟨4,[59],3⟩,⟨1,[116,97,103],5⟩,⟨2,[120,65],9⟩]
theorem ev_1:scR (bl ⟨#[46,97,32,59,32,116,97,103,32,34,120,92,117,48,48,52,49,34]⟩)=(0,0,exA):=by kernel_rfl
theorem ev_2:scR (bl ⟨#[97,32,36]⟩)=(130,2,[]):=by kernel_rfl
theorem ev_3:scR (bl ⟨#[48,49]⟩)=(130,0,[]):=by kernel_rfl
theorem ev_4:prR exA=(0,[46,32,97,32,59,32,116,97,103,32,34,120,65,34]):=by kernel_rfl
end Lx
end Go.Proofs.YtcnfchblfcfimaaGreatDoor
namespace Go.Proofs.YtcnfchblfcfimaaGreatDoor
namespace Lx
open Go.RowKit
theorem scR_lim {l:List UInt8} (h:(scR l).1≠2):l.length≤4096∧scR l=scO (scnA nok l 0 []):=by
 unfold scR at h ⊢
 split at h
 ·exact absurd rfl h
 ·rename_i hl
  rw [if_neg hl]
  exact ⟨by omega,rfl⟩
theorem scO_inr {o:Sum (Nat×Nat) (List Tk)} (h:(scO o).1=0) (he:∀ e q,o=.inl (e,q)→e=2∨e=130):∃ r,o=.inr r∧scO o=(0,0,r):=by
 cases o with
 | inl x=>obtain ⟨e,q⟩:=x;have:=he e q rfl;simp only [scO] at h;omega
 | inr r=>exact ⟨r,rfl,rfl⟩
end Lx
end Go.Proofs.YtcnfchblfcfimaaGreatDoor
