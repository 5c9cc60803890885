import Derived.Test.YtcnfchblfcfimaaGreatDoorZh03
import Derived.Laws.BitsAllLaws
import Derived.Deep.RegionLaw
set_option linter.all false
set_option maxHeartbeats 1000000
set_option maxRecDepth 100000
namespace Go.Proofs.YtcnfchblfcfimaaGreatDoor
open Proofs.Tryz RowKit
namespace Lx
def ak(p:Prop):Prop:=p
theorem ak.out{p:Prop}(h:ak p):p:=h
theorem ak.mk{p:Prop}(h:p):ak p:=h
theorem aX{W W1:World}{B:Nat}{T:TypeId}{sz:Nat}{v:Value}{n:Nat}{xs:List Value}(h:W.ownsRow B T sz v n xs)(hb:∀k,v.ownBlock=some k->k<W.heap.size->W1.heap[k]?=W.heap[k]?):W1.ownsRow B T sz v n xs:=by
 have hr:=World.ownsRow.lt h;obtain⟨h0,h⟩:=h;refine⟨h0,?_⟩;rcases h with⟨rfl,e⟩|⟨g,cap,cur,rfl,h2,h3,h4⟩
 ·exact Or.inl ⟨rfl,e⟩
 exact Or.inr ⟨g,cap,cur,rfl,h2,by rw[hb g rfl (hr g rfl).2];exact h3,h4⟩
theorem gJ{W W1:World}{B:Nat}{v:Value}{l:List UInt8}(h:dj W B v l)(hb:Below W.heap.size W W1):dj W1 B v l:=aX h fun k _ hk=>hb.block k hk
theorem cJ{W:World}{B:Nat}{v:Value}{l:List UInt8}(h:dj W B v l):(convert 94 9 v).run prog W=.ok (.string (aj l)) W:=by
 have hc:=h;obtain⟨h0,h⟩:=h;rcases h with⟨rfl,hn⟩|⟨g,cap,cur,rfl,hg,hh,h1,h2,h3,h4⟩
 ·have:l=[]:=List.eq_nil_of_length_eq_zero hn
  subst this;exact run_convert_bytes_nil W 94 5 Tryz.underlying94 Tryz.underlying5 0 0 9 Tryz.underlying9
 refine run_convert_bytes_back W 94 9 5 ⟨g,0,none⟩ cap l Tryz.underlying94 Tryz.underlying5 Tryz.underlying9 (fun j hj=>?_);have hcells:∀j u,(jS l)[j]?=some u->W.cell? ((⟨g,0,none⟩:Addr).add j)=some u:=World.ownsRow.cells hc (g:=g) rfl;exact hcells j _ (by simp[jS,List.getElem?_eq_getElem hj])
def hx(d:Nat):UInt8:=if d<10 then UInt8.ofNat (48+d) else UInt8.ofNat (87+d)
def mb(l:List UInt8):List UInt8:=l.flatMap fun c=>[hx (c.toNat/16),hx (c.toNat%16)]
theorem AZ(l:List UInt8)(c:UInt8):mb (l++[c])=mb l++[hx (c.toNat/16),hx (c.toNat%16)]:=by simp[mb]
theorem EK(l:List UInt8):(mb l).length=2*l.length:=by
 induction l with
 |nil=>rfl
 |cons a l ih=>simp only[mb,List.flatMap_cons,List.length_append,List.length_cons,List.length_nil]at ih ⊢;omega
theorem pb(d:Nat)(h:d<16)(h':d<(⟨#[48,49,50,51,52,53,54,55,56,57,97,98,99,100,101,102]⟩:ByteArray).size):(⟨#[48,49,50,51,52,53,54,55,56,57,97,98,99,100,101,102]⟩:ByteArray)[d]=hx d:=by
 have:d=0\/d=1\/d=2\/d=3\/d=4\/d=5\/d=6\/d=7\/d=8\/d=9\/d=10\/d=11\/d=12\/d=13\/d=14\/d=15:=by omega
 rcases this with rfl|rfl|rfl|rfl|rfl|rfl|rfl|rfl|rfl|rfl|rfl|rfl|rfl|rfl|rfl|rfl<;>rfl
theorem pA{w:World}{ops:Array Oper}{o:Oper}{a:Act}{K:Act->World->Prop}{Q:Exit->Act->World->Prop}{E:Prop}(hgd:o.guard=none)(s x:Operand)(ho:o.op=.call {callee:=.builtin .append,args:=#[s,x],argTypes:=#[94,94]})
  (B:Nat) (v:Value) (l:List UInt8) (hs:a.eval s=v) (bz:dj w B v l) (ad:Addr) (m c:Nat) (news:List UInt8) (hx:a.eval x=.slice (some ad) m c) (hm:news.length=m)
  (hnews:∀j u,(jS news)[j]?=some u->w.cell? (ad.add j)=some u) (hl:l.length+m<=1000000) (hB:B<=w.heap.size) (hp:0<l.length+m)
  (h:∀av c' w',Hid (dj w' B (.slice av (l.length+m) c') (l++news))->Hid (Below B w w')->w.heap.size<=w'.heap.size->K (a.put o.dst (.slice av (l.length+m) c')) w') :
  if Region.wanted o (yielded ops a.tmps)=true then Oper.wp prog o a w K Q else E:=by
 have hw:Region.wanted o (yielded ops a.tmps)=true:=by simp[Region.wanted,hgd]
 rw[if_pos hw];obtain⟨i0,hi,fY,gD,eR⟩:=info_parts ou;obtain⟨v',w',hr,h1,h2,h3⟩:=run_append_own (P:=prog) w B 94 o.type 5 i0 _ 1 1 Tryz.underlying94 hi fY gD eR rfl (by decide) v l.length (jS l) bz ad m c (jS news) (by rw[jv,hm];simp) hnews (by intro u hu;simp only[jS,List.mem_map]at hu;obtain⟨c,_,rfl⟩:=hu;rfl) (by unfold maxLen;omega) (by omega) hB
 unfold Oper.wp execOp;simp only[ho,resolve,invoke,builtin,Sem.run_bind,Sem.run_pure,Result.andThen_ok,List.map_toArray,List.map_cons,List.map_nil,hs,hx,hr];have hO:dj w' B v' (l++news):=by unfold dj;rw[eO,List.length_append,hm];exact h1
 rcases h1.2 with⟨rfl,e⟩|⟨g',cap,cur,rfl,_⟩
 ·omega
 exact h _ _ w' hO ((Below.refl B w).grown h2 hB bz.row) h2.size
theorem Ed(s:ByteArray)(w:World)(hs:s.size<=40000):Calls prog 159 #[.string s] w fun e w'=>e=.returned (.string (aj (mb (bl s))))/\Below w.heap.size w w':=by
 have hw:IntKind.i64.wrap (2*(s.size:Int))=2*(s.size:Int):=by rw[IntKind.wrap_i64]<;>omega
 obtain⟨i0,hi,fY,gD,eR⟩:=info_parts ou;go_enter func159,ntmps159;go_wp2_with(refine wpList_make_own w rfl _ _ 94 rfl w.heap.size 5 i0 (.int .u8 0) 1 Tryz.underlying94 hi fY gD .i64 .i64 _ (2*s.size) rfl rfl (by simp) (by rw[eR];omega) (by unfold maxLen;omega) (Nat.le_refl _) ?_;refine ak.out ?_)
 refine ak.mk ?_;intro w1 qr jL;have O1:Hid (dj w1 w.heap.size (.slice (some ⟨w.heap.size,0,none⟩) 0 (2*s.size)) []):=qr;have B1:Hid (Below w.heap.size w w1):=(Below.refl _ w).grown jL (Nat.le_refl _) (fun k hk=>by cases hk);clear qr jL hi fY gD eR;go_wp2_with fail
 go_loopw [3,11] (fun b i W=>∃(k:Nat) (a:Option Addr) (cp:Nat),i=.int .i64 k/\b=.slice a (2*k) cp/\k<=s.size/\Hid (dj W w.heap.size (.slice a (2*k) cp) (mb ((bl s).take k))/\Below w.heap.size w W)) (fun _ i _=>s.size-(intOf i).toNat)
 case atStart=>exact⟨0,_,_,rfl,rfl,Nat.zero_le _,aa ⟨by simpa [mb] using O1.out,B1.out⟩⟩
 case round=>
  obtain⟨k,a,cp,rfl,rfl,hk,HH⟩:=hrel;obtain⟨hO,hB⟩:=HH.out;have OR:=aa hO;have BR:=aa hB;clear HH hO hB O1 B1;have zr1:w.heap.size<=wr.heap.size:=BR.out.size;by_cases aE:k<s.size
  ·have bF:(k:Int)<(s.size:Int):=by omega
   have cb:=aa (show mb ((bl s).take (k+1))=mb ((bl s).take k)++[hx (s[k].toNat/16),hx (s[k].toNat%16)]by rw[List.take_succ_eq_append_getElem (by rw[bl_length];exact aE),AZ,bH s k aE])
   have aL:(mb ((bl s).take k)).length=2*k:=by rw[EK,List.length_take,bl_length];omega
   obtain⟨c,hc⟩:∃c,s[k]=c:=⟨_,rfl⟩
   have Bb:c.toNat<256:=c.toNat_lt;have hm:bits .and .u8 (c.toNat:Int) 15=((c.toNat%16:Nat):Int):=by have:=u8_and_nat c.toNat 15 Bb (by omega);rw[nat_mask4]at this;exact this
   have jN:c.toNat/16<16:=by omega
   have mc:c.toNat%16<16:=by omega
   have Mi:c.toNat/16<(⟨#[48,49,50,51,52,53,54,55,56,57,97,98,99,100,101,102]⟩:ByteArray).size:=jN;have Mh:c.toNat%16<(⟨#[48,49,50,51,52,53,54,55,56,57,97,98,99,100,101,102]⟩:ByteArray).size:=mc;have jL:=pb (c.toNat/16) jN Mi;have ii:=pb (c.toNat%16) mc Mh;rw[hc]at cb;have EF:=aa aL;clear aL;have hn:=aa (pN wr (hx (c.toNat/16)) (hx (c.toNat%16)) 5);have LP:((c.toNat:Int)/16).toNat=c.toNat/16:=by omega
   have QY:(0:Int)<=(c.toNat:Int)/16:=by omega
   have dC:(c.toNat:Int)/16<16:=by omega
   have vd:((c.toNat:Int)%16).toNat=c.toNat%16:=by omega
   have ir:(0:Int)<=(c.toNat:Int)%16:=by omega
   have vO:(c.toNat:Int)%16<16:=by omega
   go_wp2_with fail
   go_region_law (refine pA rfl (.tmp 14) (.tmp 25) rfl w.heap.size (.slice a (2*k) cp) (mb ((bl s).take k)) rfl (aX OR.out fun g hg bm=>(show Below wr.heap.size wr _ by repeat (first|exact af|refine Below.drew ?_|refine ab ?_)).block g bm) ⟨wr.heap.size,0,none⟩ 2 2 [hx (c.toNat/16),hx (c.toNat%16)] rfl rfl hn.out (by rw[EF.out];omega) (by simp;omega) (by omega) ?_;intro av c' w' ho hb hz;have Rh:=aa ho.out;have TI:Hid (Below w.heap.size w w'):=(BR.out.trans ((show Below wr.heap.size wr _ by repeat (first|exact af|refine Below.drew ?_|refine ab ?_)).mono zr1)).trans hb.out;clear ho hb)
   all_goals
    go_wp2_with fail
    refine⟨⟨k+1,av,c',by go_num,by rw[EF.out];rfl,aE,aa ⟨?_,TI.out⟩⟩,by simp[intOf];omega⟩;rw[cb.out];have h1:=Rh.out;rw[EF.out]at h1;exact h1
  have bF:¬((k:Int)<(s.size:Int)):=by omega
  have ox:k=s.size:=by omega
  have ln:=cJ OR.out;rw[List.take_of_length_le (by rw[bl_length];omega)]at ln;clear aE ox;go_wp2_with fail
  go_ret;exact⟨rfl,BR.out⟩
end Lx
