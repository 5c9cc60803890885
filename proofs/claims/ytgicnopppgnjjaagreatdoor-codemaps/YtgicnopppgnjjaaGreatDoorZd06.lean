/- Merged by program: AjOwn. -/
import Derived.Test.YtgicnopppgnjjaaGreatDoorZd01
import Derived.Outline
import Derived.Laws.BitsAllLaws
import Derived.Deep.RegionWith
import Derived.Deep.RegionLaw
set_option linter.unusedSimpArgs false
set_option linter.unusedVariables false
namespace Go.Proofs.YtgicnopppgnjjaaGreatDoor
namespace Lx
open Go.RowKit
def Sto (p:Prop):Prop:=p
theorem Sto.out {p:Prop} (h:Sto p):p:=h
theorem Sto.mk {p:Prop} (h:p):Sto p:=h
theorem ownsRow_of {W W1:World} {B:Nat} {T:TypeId} {sz:Nat} {v:Value} {n:Nat} {xs:List Value} (h:W.ownsRow B T sz v n xs) (hb:∀ k,v.ownBlock=some k→k<W.heap.size→W1.heap[k]?=W.heap[k]?):W1.ownsRow B T sz v n xs:=by
 have hr:=World.ownsRow.lt h
 obtain ⟨h0,h⟩:=h
 refine ⟨h0,?_⟩
 rcases h with ⟨rfl,e⟩|⟨g,cap,cur,rfl,h2,h3,h4⟩
 ·exact Or.inl ⟨rfl,e⟩
 ·exact Or.inr ⟨g,cap,cur,rfl,h2,by rw [hb g rfl (hr g rfl).2];exact h3,h4⟩
theorem own_keep {W W1:World} {B:Nat} {v:Value} {l:List UInt8} (h:Own W B v l) (hb:Below W.heap.size W W1):Own W1 B v l:=ownsRow_of h fun k _ hk=>hb.block k hk
theorem own_conv {W:World} {B:Nat} {v:Value} {l:List UInt8} (h:Own W B v l):(convert 124 9 v).run Tryz.prog W=.ok (.string (mkB l)) W:=by
 have hc:=h
 obtain ⟨h0,h⟩:=h
 rcases h with ⟨rfl,hn⟩|⟨g,cap,cur,rfl,hg,hh,h1,h2,h3,h4⟩
 ·have:l=[]:=List.eq_nil_of_length_eq_zero hn
  subst this
  exact run_convert_bytes_nil W 124 5 Tryz.underlying124 Tryz.underlying5 0 0 9 Tryz.underlying9
 ·refine run_convert_bytes_back W 124 9 5 ⟨g,0,none⟩ cap l Tryz.underlying124 Tryz.underlying5 Tryz.underlying9 (fun j hj=>?_)
  have hcells:∀ j u,(bcs l)[j]?=some u→W.cell? ((⟨g,0,none⟩:Addr).add j)=some u:=World.ownsRow.cells hc (g:=g) rfl
  exact hcells j _ (by simp [bcs,List.getElem?_eq_getElem hj])
def hx (d:Nat):UInt8:=if d<10 then UInt8.ofNat (48 + d) else UInt8.ofNat (87 + d)
def hexL (l:List UInt8):List UInt8:=l.flatMap fun c=>[hx (c.toNat / 16),hx (c.toNat % 16)]
theorem hexL_snoc (l:List UInt8) (c:UInt8):hexL (l++[c])=hexL l++[hx (c.toNat / 16),hx (c.toNat % 16)]:=by simp [hexL]
theorem hexL_len (l:List UInt8):(hexL l).length=2 * l.length:=by
 induction l with
 | nil=>rfl
 | cons a l ih=>simp only [hexL,List.flatMap_cons,List.length_append,List.length_cons,List.length_nil] at ih ⊢;omega
theorem hxd_get (d:Nat) (h:d<16) (h':d<(⟨#[48,49,50,51,52,53,54,55,56,57,97,98,99,100,101,102]⟩:ByteArray).size):(⟨#[48,49,50,51,52,53,54,55,56,57,97,98,99,100,101,102]⟩:ByteArray)[d]=hx d:=by
 have:d=0∨d=1∨d=2∨d=3∨d=4∨d=5∨d=6∨d=7∨d=8∨d=9∨d=10∨d=11∨d=12∨d=13∨d=14∨d=15:=by omega
 rcases this with rfl|rfl|rfl|rfl|rfl|rfl|rfl|rfl|rfl|rfl|rfl|rfl|rfl|rfl|rfl|rfl <;> rfl
theorem step_bytes {w:World} {ops:Array Oper} {o:Oper} {a:Act} {K:Act→World→Prop} {Q:Exit→Act→World→Prop} {E:Prop} (hgd:o.guard=none) (s x:Operand) (ho:o.op=.call {callee:=.builtin .append,args:=#[s,x],argTypes:=#[124,124]})
  (B:Nat) (v:Value) (l:List UInt8) (hs:a.eval s=v) (hown:Own w B v l) (ad:Addr) (m c:Nat) (news:List UInt8) (hx:a.eval x=.slice (some ad) m c) (hm:news.length=m)
  (hnews:∀ j u,(bcs news)[j]?=some u→w.cell? (ad.add j)=some u) (hl:l.length + m≤1000000) (hB:B≤w.heap.size) (hp:0<l.length + m)
  (h:∀ av c' w',Hid (Own w' B (.slice av (l.length + m) c') (l++news))→Hid (Below B w w')→w.heap.size≤w'.heap.size→K (a.put o.dst (.slice av (l.length + m) c')) w') :
  if Region.wanted o (yielded ops a.tmps)=true then Oper.wp Tryz.prog o a w K Q else E:=by
 have hw:Region.wanted o (yielded ops a.tmps)=true:=by simp [Region.wanted,hgd]
 rw [if_pos hw]
 obtain ⟨i0,hi,hz0,hz1,hz2⟩:=info_parts info5
 obtain ⟨v',w',hr,h1,h2,h3⟩:=run_append_own (P:=Tryz.prog) w B 124 o.type 5 i0 _ 1 1 Tryz.underlying124 hi hz0 hz1 hz2 rfl (by decide) v l.length (bcs l) hown ad m c (bcs news) (by rw [bcs_length,hm];simp) hnews (by
  intro u hu
  simp only [bcs,List.mem_map] at hu
  obtain ⟨c,_,rfl⟩:=hu
  rfl) (by unfold maxLen;omega) (by omega) hB
 unfold Oper.wp execOp
 simp only [ho,resolve,invoke,builtin,Sem.run_bind,Sem.run_pure,Result.andThen_ok,List.map_toArray,List.map_cons,List.map_nil,hs,hx,hr]
 have hO:Own w' B v' (l++news):=by unfold Own;rw [bcs_append,List.length_append,hm];exact h1
 rcases h1.2 with ⟨rfl,e⟩|⟨g',cap,cur,rfl,_⟩
 ·omega
 ·exact h _ _ w' hO ((Below.refl B w).grown h2 hB hown.row) h2.size
set_option maxHeartbeats 1000000 in
set_option maxRecDepth 100000 in
theorem jhex_any (s:ByteArray) (w:World) (hs:s.size≤40000) :
  Calls Tryz.prog 182 #[.string s] w fun e w'=>e=.returned (.string (mkB (hexL (bl s))))∧Below w.heap.size w w':=by
 have hw:IntKind.i64.wrap (2 * (s.size:Int))=2 * (s.size:Int):=by rw [IntKind.wrap_i64] <;> omega
 obtain ⟨i0,hi,hz0,hz1,hz2⟩:=info_parts info5
 go_enter Tryz.func182, Tryz.ntmps182
 go_wp2_with (refine wpList_make_own w rfl _ _ 124 rfl w.heap.size 5 i0 (.int .u8 0) 1 Tryz.underlying124 hi hz0 hz1 .i64 .i64 _ (2 * s.size) rfl rfl (by simp) (by rw [hz2];omega) (by unfold maxLen;omega) (Nat.le_refl _) ?_;refine Sto.out ?_)
 refine Sto.mk ?_
 intro w1 ho1 hg1
 have O1:Hid (Own w1 w.heap.size (.slice (some ⟨w.heap.size,0,none⟩) 0 (2 * s.size)) []):=ho1
 have B1:Hid (Below w.heap.size w w1):=(Below.refl _ w).grown hg1 (Nat.le_refl _) (fun k hk=>by cases hk)
 clear ho1 hg1 hi hz0 hz1 hz2
 go_wp2_with fail
 go_loopw [3,11] (fun b i W=>∃ (k:Nat) (a:Option Addr) (cp:Nat),i=.int .i64 k∧b=.slice a (2 * k) cp∧k≤s.size∧Hid (Own W w.heap.size (.slice a (2 * k) cp) (hexL ((bl s).take k))∧Below w.heap.size w W)) (fun _ i _=>s.size - (intOf i).toNat)
 case atStart=>exact ⟨0,_,_,rfl,rfl,Nat.zero_le _,hide ⟨by simpa [hexL] using O1.out,B1.out⟩⟩
 case round =>
  obtain ⟨k,a,cp,rfl,rfl,hk,HH⟩:=hrel
  obtain ⟨hO,hB⟩:=HH.out
  have OR:=hide hO
  have BR:=hide hB
  clear HH hO hB O1 B1
  have zr1:w.heap.size≤wr.heap.size:=BR.out.size
  by_cases hkl:k<s.size
  ·have hki:(k:Int)<(s.size:Int):=by omega
   have hst:=hide (show hexL ((bl s).take (k + 1))=hexL ((bl s).take k)++[hx (s[k].toNat / 16),hx (s[k].toNat % 16)] by
    rw [List.take_succ_eq_append_getElem (by rw [bl_length];exact hkl),hexL_snoc,bl_get s k hkl])
   have hlen:(hexL ((bl s).take k)).length=2 * k:=by rw [hexL_len,List.length_take,bl_length];omega
   obtain ⟨c,hc⟩:∃ c,s[k]=c:=⟨_,rfl⟩
   have hcl:c.toNat<256:=c.toNat_lt
   have hm:bits .and .u8 (c.toNat:Int) 15=((c.toNat % 16:Nat):Int):=by
    have:=u8_and_nat c.toNat 15 hcl (by omega)
    rw [nat_mask4] at this
    exact this
   have hd1:c.toNat / 16<16:=by omega
   have hd2:c.toNat % 16<16:=by omega
   have hds1:c.toNat / 16<(⟨#[48,49,50,51,52,53,54,55,56,57,97,98,99,100,101,102]⟩:ByteArray).size:=hd1
   have hds2:c.toNat % 16<(⟨#[48,49,50,51,52,53,54,55,56,57,97,98,99,100,101,102]⟩:ByteArray).size:=hd2
   have hg1:=hxd_get (c.toNat / 16) hd1 hds1
   have hg2:=hxd_get (c.toNat % 16) hd2 hds2
   rw [hc] at hst
   have hlen':=hide hlen
   clear hlen
   have hn:=hide (news_two wr (hx (c.toNat / 16)) (hx (c.toNat % 16)) 5)
   have hq1:((c.toNat:Int) / 16).toNat=c.toNat / 16:=by omega
   have hq2:(0:Int)≤(c.toNat:Int) / 16:=by omega
   have hq3:(c.toNat:Int) / 16<16:=by omega
   have hq4:((c.toNat:Int) % 16).toNat=c.toNat % 16:=by omega
   have hq5:(0:Int)≤(c.toNat:Int) % 16:=by omega
   have hq6:(c.toNat:Int) % 16<16:=by omega
   go_wp2_with fail
   go_region_law (refine step_bytes rfl (.tmp 14) (.tmp 25) rfl w.heap.size (.slice a (2 * k) cp) (hexL ((bl s).take k)) rfl (ownsRow_of OR.out fun g hg hlt=>(show Below wr.heap.size wr _ by repeat (first|exact Below.refl _ _|refine Below.drew ?_|refine below_al ?_)).block g hlt) ⟨wr.heap.size,0,none⟩ 2 2 [hx (c.toNat / 16),hx (c.toNat % 16)] rfl rfl hn.out (by rw [hlen'.out];omega) (by simp;omega) (by omega) ?_;intro av c' w' ho hb hz;have hO':=hide ho.out;have hB':Hid (Below w.heap.size w w'):=(BR.out.trans ((show Below wr.heap.size wr _ by repeat (first|exact Below.refl _ _|refine Below.drew ?_|refine below_al ?_)).mono zr1)).trans hb.out;clear ho hb)
   all_goals
    go_wp2_with fail
    refine ⟨⟨k + 1,av,c',by go_num,by rw [hlen'.out];rfl,hkl,hide ⟨?_,hB'.out⟩⟩,by simp [intOf];omega⟩
    rw [hst.out]
    have h1:=hO'.out
    rw [hlen'.out] at h1
    exact h1
  ·have hki:¬ ((k:Int)<(s.size:Int)):=by omega
   have hke:k=s.size:=by omega
   have hcv:=own_conv OR.out
   rw [List.take_of_length_le (by rw [bl_length];omega)] at hcv
   clear hkl hke
   go_wp2_with fail
   go_ret
   exact ⟨rfl,BR.out⟩
end Lx
end Go.Proofs.YtgicnopppgnjjaaGreatDoor
