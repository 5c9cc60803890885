/- Merged by program: AmScan, VgTok. -/
import Derived.Test.YtcnfchblfcfimaaGreatDoorZb22
import Derived.WalkMore
set_option linter.unusedSimpArgs false
set_option linter.unusedVariables false
namespace Go.Proofs.YtcnfchblfcfimaaGreatDoor
namespace Lx
open Go.RowKit
def tcs (l:List Tk):List Value:=l.flatMap fun t=>[.int .i64 t.w,.string (mkB t.s),.int .i64 t.p]
theorem tcs_app (a b:List Tk):tcs (a++b)=tcs a++tcs b:=by simp [tcs]
theorem tcs_len (l:List Tk):(tcs l).length=3 * l.length:=by
 induction l with
 | nil=>rfl
 | cons a l ih=>simp only [tcs,List.flatMap_cons,List.length_append,List.length_cons,List.length_nil] at ih ⊢;omega
theorem tcs_cell (l:List Tk):∀ u∈tcs l,u.oneCell'=true:=by
 intro u hu
 simp only [tcs,List.mem_flatMap,List.mem_cons,List.not_mem_nil,or_false] at hu
 obtain ⟨t,_,rfl|rfl|rfl⟩:=hu <;> rfl
theorem infoK:(Tryz.prog.info? 88).map (fun i=>(i.zero,i.size,i.bytes))=some (some (.agg #[.int .i64 0,.string ⟨#[]⟩,.int .i64 0]),3,32):=by kernel_rfl
def OT (W:World) (B:Nat) (v:Value) (l:List Tk):Prop:=W.ownsRow B 88 3 v l.length (tcs l)
theorem ownsRow_succ {W:World} {B T sz n:Nat} {v:Value} {xs:List Value} (h:W.ownsRow B T sz v (n + 1) xs):∃ g c,v=.slice (some ⟨g,0,none⟩) (n + 1) c:=by
 rcases h.2 with ⟨_,h0⟩|⟨g,cap,cur,rfl,_⟩
 ·cases h0
 ·exact ⟨g,cap,rfl⟩
section
variable {w : World} {ops : Array Oper} {rest : List Oper} {o : Oper} {a : Act} {Q : Exit → Act → World → Prop}
theorem app_tk (hgd:o.guard=none) (s x:Operand) (ho:o.op=.call {callee:=.builtin .append,args:=#[s,x],argTypes:=#[59,59]})
  (B:Nat) (v:Value) (l:List Tk) (hs:a.eval s=v) (hown:OT w B v l) (ad:Addr) (c:Nat) (hx:a.eval x=.slice (some ad) 1 c) (t:Tk)
  (hnews:∀ j u,(tcs [t])[j]?=some u→w.cell? (ad.add j)=some u) (hk:l.length≤100000) (hB:B≤w.heap.size)
  (h:∀ g c' w',Hid (OT w' B (.slice (some ⟨g,0,none⟩) (l.length + 1) c') (l++[t]))→Hid (Below B w w')→wpList Tryz.prog ops Q rest (a.put o.dst (.slice (some ⟨g,0,none⟩) (l.length + 1) c')) w'):wpList Tryz.prog ops Q (o :: rest) a w:=by
 obtain ⟨i0,hi,hz0,hz1,hz2⟩:=info_parts infoK
 refine wpList_append_own_at w hgd s x 59 ho B 88 i0 _ 3 32 Tryz.underlying59 hi hz0 hz1 hz2 rfl (by decide) v l.length (tcs l) hs hown ad 1 c (tcs [t]) hx (by rw [tcs_len];rfl) hnews (tcs_cell _) (by unfold maxLen;omega) (by omega) hB ?_
 intro v' w' h1 h2 _ _
 rw [←tcs_app] at h1
 obtain ⟨g,c',rfl⟩:=ownsRow_succ h1
 refine h g c' w' ?_ ?_
 ·show OT _ _ _ _
  unfold OT
  rw [List.length_append]
  exact h1
 ·refine (Below.refl B w).grown h2 hB (fun k hk=>(World.ownsRow.lt hown k hk).1)
end
theorem OT.keep {W W1:World} {B:Nat} {v:Value} {l:List Tk} (h:OT W B v l) (hb:Below W.heap.size W W1):OT W1 B v l:=ownsRow_of h fun k _ hk=>hb.block k hk
theorem OT.nil (W:World) (B:Nat):OT W B (.slice none 0 0) []:=World.ownsRow_nil _ _ _ _
theorem OT.shape {W:World} {B:Nat} {v:Value} {l:List Tk} (h:OT W B v l):∃ a c,v=.slice a l.length c:=by
 rcases h.2 with ⟨rfl,h0⟩|⟨g,cap,cur,rfl,_⟩
 ·exact ⟨none,0,by rw [h0]⟩
 ·exact ⟨_,_,rfl⟩
def scR (l:List UInt8):Nat×Nat×List Tk:=if 4096<l.length then (2,0,[]) else match scnA nok l 0 [] with
 | .inl (e,p)=>(e,p,[])
 | .inr ts=>(0,0,ts)
def ScP (w:World) (x:Nat×Nat×List Tk) (e:Ending) (w':World):Prop:=∃ v,e=.returned (.tuple #[v,.int .i64 (x.1:Nat),.int .i64 (x.2.1:Nat)])∧OT w' w.heap.size v x.2.2∧Below w.heap.size w w'
def scO (o:Sum (Nat×Nat) (List Tk)):Nat×Nat×List Tk:=match o with
 | .inl (e,p)=>(e,p,[])
 | .inr ts=>(0,0,ts)
theorem news_tk (W:World) (t:Tk) (T:TypeId):∀ j u,(tcs [t])[j]?=some u→(W.alloc (.cells #[.int .i64 t.w,.string (mkB t.s),.int .i64 t.p] T)).cell? ((⟨W.heap.size,0,none⟩:Addr).add j)=some u:=by
 intro j u h
 simp only [tcs,List.flatMap_cons,List.flatMap_nil,List.append_nil] at h
 match j,h with
 | 0,h=>simpa [Addr.add] using h
 | 1,h=>simpa [Addr.add] using h
 | 2,h=>simpa [Addr.add] using h
 | j + 3,h=>simp at h
theorem fst_zero (l:List UInt8) (f k:Nat) (h:(cutK nok k l).2=0):fstK nok l (f + 1) k=fstK nok l f (k + 1):=by simp [fstK,h]
theorem fst_some (l:List UInt8) (f k:Nat) (h:(cutK nok k l).2≠0):fstK nok l (f + 1) k=some (k,(cutK nok k l).1,(cutK nok k l).2):=by simp [fstK,h]
set_option maxHeartbeats 4000000 in
set_option maxRecDepth 100000 in
theorem scan_any (hP:ParseOk) (s:ByteArray) (w:World) (g:Gg w) (hs:s.size≤1000000):Calls Tryz.prog 57 #[.string s] w fun e w'=>ScP w (scR (bl s)) e w':=by
 unfold scR
 rw [bl_length]
 by_cases hbig:4096<s.size
 ·have ib:(4096:Int)<(s.size:Int):=by omega
  rw [if_pos hbig]
  go_enter Tryz.func57, Tryz.ntmps57
  go_wp2
  go_step3
  go_wp2
  rw [Exit.noGoto_ret]
  go_ret3
  exact ⟨_,rfl,OT.nil _ _,Below.refl _ _⟩
 ·have ib:¬ (4096:Int)<(s.size:Int):=by omega
  rw [if_neg hbig]
  show Calls _ _ _ _ fun e w'=>ScP w (scO (scnA nok (bl s) 0 [])) e w'
  obtain ⟨U,hU⟩:∃ U,scO (scnA nok (bl s) 0 [])=U:=⟨_,rfl⟩
  rw [hU]
  have HU:=hide hU
  have g0:=hide g
  have hP0:=hide hP
  clear hU g hP hs
  go_enter Tryz.func57, Tryz.ntmps57
  go_wp2
  go_step3
  go_wp2
  go_step3
  go_wp2
  go_loopw [5,6] (fun v i W=>∃ (p:Nat) (ts:List Tk),i=.int .i64 (p:Nat)∧p≤s.size∧Hid (OT W w.heap.size v ts∧ts.length≤1024∧U=scO (scnA nok ((bl s).drop p) p ts)∧Below w.heap.size w W)) (fun _ i _=>s.size - (intOf i).toNat)
  case atStart=>exact ⟨0,[],rfl,Nat.zero_le _,OT.nil _ _,by simp,HU.out.symm,Below.refl _ _⟩
  case round =>
   obtain ⟨p,ts,rfl,hp,H⟩:=hrel
   by_cases hps:p<s.size
   ·have hpi:(p:Int)<(s.size:Int):=by omega
    obtain ⟨a,c,hv⟩:=H.out.1.shape
    have hH:=H.out
    clear H
    rw [hv] at hH ⊢
    clear hv
    have H:=hide hH
    clear hH
    go_wp2
    go_hide hQ
    go_loopw [5,6,17] (fun v i k W=>∃ (j:Nat),v=.slice a ts.length c∧i=.int .i64 (p:Nat)∧k=.int .i64 (j:Nat)∧j≤5∧Hid (OT W w.heap.size (.slice a ts.length c) ts∧Below w.heap.size w W∧tok nok ((bl s).drop p)=fstK nok ((bl s).drop p) (5 - j) j)) (fun _ _ k _=>5 - (intOf k).toNat)
    case atStart=>exact ⟨0,rfl,rfl,rfl,by omega,H.out.1,H.out.2.2.2,rfl⟩
    case round =>
     obtain ⟨j,rfl,rfl,rfl,hj,K⟩:=hrel
     obtain ⟨ko,kb,kt⟩:=K.out
     have KO:=hide ko
     have KB:=hide kb
     have KT:=hide kt
     have gr:=hide (g0.out.below kb g0.out.sz)
     clear K ko kb kt
     by_cases hj5:j<5
     ·have hji:(j:Int)<5:=by omega
      have hj0:(0:Int)≤(j:Int):=by omega
      obtain ⟨t,ht⟩:∃ t,s.extract p s.size=t:=⟨_,rfl⟩
      have htb:bl t=(bl s).drop p:=by rw [←ht,drop_mkB,bl_mkB]
      have hts:t.size=s.size - p:=by rw [←bl_length,htb,List.length_drop,bl_length]
      have hcut:=hide (cut_any hP0.out j hj5 t _ gr.out (by omega) (Or.inl (by omega)))
      rw [htb] at hcut
      obtain ⟨c0,l0,hl0⟩:∃ c0 l0,bl t=c0 :: l0:=by
       obtain ⟨l0,hl0⟩:=bl_cons t (by omega)
       exact ⟨_,l0,hl0⟩
      have hle:=cutK_le nok j c0 l0
      rw [←hl0,htb,List.length_drop,bl_length] at hle
      have ef:5 - j=(4 - j) + 1:=by omega
      have KT2:Hid (tok nok ((bl s).drop p)=fstK nok ((bl s).drop p) ((4 - j) + 1) j):=by have:=KT.out;rw [ef] at this;exact this
      have hdc:Hid ((bl s).drop p=c0 :: l0):=by show _=_;rw [←htb];exact hl0
      obtain ⟨xn,hxn⟩:∃ xn,cutK nok j ((bl s).drop p)=xn:=⟨_,rfl⟩
      have hz:=fst_zero ((bl s).drop p) (4 - j) j
      have hsm:=fst_some ((bl s).drop p) (4 - j) j
      rw [hxn] at hcut hle hz hsm
      obtain ⟨x,n⟩:=xn
      have hcut2:Hid (Calls Tryz.prog 113 #[.int .i64 (j:Nat),.string t] wr fun e w'=>e=.returned (.tuple #[.string (mkB x),.int .i64 (n:Nat)])∧Below wr.heap.size wr w'):=hcut
      have hxs:Hid ((mkB x).size=x.length):=mkB_size x
      have hxb:(mkB x).size≤100000∨True:=Or.inr trivial
      simp only at hle hz hsm
      clear hcut htb hts hl0 ef KT hxn hxb
      by_cases hn0:n=0
      ·have e0:((n:Int)==0)=true:=by simp;omega
       have KT3:Hid (tok nok ((bl s).drop p)=fstK nok ((bl s).drop p) (5 - (j + 1)) (j + 1)):=by
        show _=_
        rw [KT2.out,hz hn0]
        congr 1
        omega
       clear hz hsm KT2 hn0
       go_wp2_with (go_at_call 113;refine hcut2.out.mono ?_;rintro e w1 ⟨rfl,hb1⟩;have hb1:=hide hb1)
       go_roundw
       case rel=>exact ⟨j + 1,rfl,rfl,by go_num,by omega,KO.out.keep hb1.out,below_then KB.out hb1.out,KT3.out⟩
       case measure=>simp [intOf];omega
      ·have e0:((n:Int)==0)=false:=by simp;omega
       have KT3:Hid (tok nok ((bl s).drop p)=some (j,x,n)):=by show _=_;rw [KT2.out,hsm hn0]
       have US:Hid (U=scO (if j=0 then scnA nok ((bl s).drop (p + n)) (p + n) ts else if lgK j<x.length∨ts.length=1024 then .inl (2,p) else scnA nok ((bl s).drop (p + n)) (p + n) (ts++[⟨wdK j,x,p⟩]))):=by
        show _=_
        rw [H.out.2.2.1,hdc.out,scnA_cons,←hdc.out,KT3.out]
        simp only [List.drop_drop]
       have jp:(p:Int) + (n:Int)≤9223372036854775807:=by omega
       clear hz hsm KT2
       by_cases hj00:j=0
       ·subst hj00
        have US2:Hid (U=scO (scnA nok ((bl s).drop (p + n)) (p + n) ts)):=by have:=US.out;rw [if_pos rfl] at this;exact this
        clear US
        go_wp2_with (go_at_call 113;refine hcut2.out.mono ?_;rintro e w1 ⟨rfl,hb1⟩;have hb1:=hide hb1)
        subst hQ
        go_wp2
        go_roundw
        case rel=>exact ⟨p + n,ts,by go_num,by omega,KO.out.keep hb1.out,H.out.2.1,US2.out,below_then KB.out hb1.out⟩
        case measure=>simp [intOf];omega
       ·have ej:((j:Int)==0)=false:=by simp;omega
        by_cases hlim:lgK j<x.length∨ts.length=1024
        ·have US2:Hid (U=(2,p,[])):=by have:=US.out;rw [if_neg hj00,if_pos hlim] at this;exact this
         clear US
         by_cases hl1:lgK j<x.length
         ·have i1:((lgK j:Nat):Int)<((mkB x).size:Int):=by rw [hxs.out];omega
          clear hlim hl1 hj00
          go_wp2_with (go_at_call 113;refine hcut2.out.mono ?_;rintro e w1 ⟨rfl,hb1⟩;have g1:=(g0.out.below (below_then KB.out hb1) g0.out.sz);have hlo:=g1.lo j hj5;have hb1:=hide hb1;clear g1)
          subst hQ
          go_wp2
          go_ret3
          exact ⟨_,by rw [US2.out];rfl,by rw [US2.out];exact OT.nil _ _,below_then KB.out hb1.out⟩
         ·have i1:¬ ((lgK j:Nat):Int)<((mkB x).size:Int):=by rw [hxs.out];omega
          have i2:((ts.length:Int)==1024)=true:=by simp;omega
          have i3:decide ((ts.length:Int)=1024)=true:=by simp;omega
          clear hlim hl1 hj00
          go_wp2_with (go_at_call 113;refine hcut2.out.mono ?_;rintro e w1 ⟨rfl,hb1⟩;have g1:=(g0.out.below (below_then KB.out hb1) g0.out.sz);have hlo:=g1.lo j hj5;have hb1:=hide hb1;clear g1)
          subst hQ
          go_wp2
          go_ret3
          exact ⟨_,by rw [US2.out];rfl,by rw [US2.out];exact OT.nil _ _,below_then KB.out hb1.out⟩
        ·have US2:Hid (U=scO (scnA nok ((bl s).drop (p + n)) (p + n) (ts++[⟨wdK j,x,p⟩]))):=by have:=US.out;rw [if_neg hj00,if_neg hlim] at this;exact this
         have i1:¬ ((lgK j:Nat):Int)<((mkB x).size:Int):=by rw [hxs.out];omega
         have i2:((ts.length:Int)==1024)=false:=by simp;omega
         have i3:decide ((ts.length:Int)=1024)=false:=by simp;omega
         have hts3:Hid (ts.length<1024):=by show _<_;have:=H.out.2.1;omega
         clear US hlim hj00
         go_wp2_with (first|(go_at_call 113;refine hcut2.out.mono ?_;rintro e w1 ⟨rfl,hb1⟩;have g1:=(g0.out.below (below_then KB.out hb1) g0.out.sz);have hlo:=g1.lo j hj5;have hwo:=g1.wo j hj5;have O1:=hide (KO.out.keep hb1);have hb1:=hide hb1;clear g1)|(at_builtin;refine Sto.out ?_))
         refine Sto.mk ?_
         have O2:=hide (O1.out.keep (below_al (o:=.cells #[.int .i64 (wdK j:Nat),.string (mkB x),.int .i64 (p:Nat)] 88) (Below.refl _ w1)))
         refine app_tk rfl (.tmp 28) (.tmp 35) rfl w.heap.size _ ts rfl O2.out ⟨w1.heap.size,0,none⟩ 1 rfl ⟨wdK j,x,p⟩ (news_tk w1 ⟨wdK j,x,p⟩ _) (by have:=hts3.out;omega) (by have:=(below_then KB.out hb1.out).size;simp;omega) ?_
         intro g' c' w' ho hb
         have B2:Hid (Below w.heap.size w w'):=(below_al (below_then KB.out hb1.out)).trans hb.out
         clear hb
         go_wp2
         subst hQ
         go_wp2
         go_roundw
         case rel=>exact ⟨p + n,ts++[⟨wdK j,x,p⟩],by go_num,by omega,ho.out,by have:=hts3.out;simp;omega,US2.out,B2.out⟩
         case measure=>simp [intOf];omega
     ·have hj5':j=5:=by omega
      subst hj5'
      have US:Hid (U=(130,p,[])):=by
       show _=_
       have hne:∃ c0 l0,(bl s).drop p=c0 :: l0:=by
        cases hd:(bl s).drop p with
        | nil=>have:=congrArg List.length hd;rw [List.length_drop,bl_length] at this;simp at this;omega
        | cons c0 l0=>exact ⟨c0,l0,rfl⟩
       obtain ⟨c0,l0,hdc⟩:=hne
       rw [H.out.2.2.1,hdc,scnA_cons,←hdc,KT.out]
       rfl
      go_wp2
      subst hQ
      go_wp2
      go_ret3
      exact ⟨_,by rw [US.out];rfl,by rw [US.out];exact OT.nil _ _,KB.out⟩
   ·have hpi:¬ (p:Int)<(s.size:Int):=by omega
    have hU2:Hid (U=(0,0,ts)):=by
     show _=_
     rw [H.out.2.2.1,List.drop_of_length_le (by rw [bl_length];omega)]
     rfl
    go_wp2
    go_ret3
    exact ⟨_,by rw [hU2.out];rfl,by rw [hU2.out];exact H.out.1,H.out.2.2.2⟩
end Lx
end Go.Proofs.YtcnfchblfcfimaaGreatDoor
namespace Go.Proofs.YtcnfchblfcfimaaGreatDoor
namespace Lx
open Go.RowKit
def TQ (w:World) (B:Nat) (l:List Tk):Prop:=∃ a c,w.heap[B]?=some (.cells #[.slice a l.length c] 59 (0,0))∧l.length≤c∧(c≤9223372036854775807∧l.length≤100000)∧B + 4≤w.heap.size∧(0<l.length→∃ b o,a=some ⟨b,o,none⟩∧b≠B∧b<B + 4∧∀ k (h:k<l.length),w.cell? ⟨b,o + k * 3,none⟩=some (.int .i64 l[k].w)∧w.cell? ⟨b,o + k * 3 + 1,none⟩=some (.string (mkB l[k].s))∧w.cell? ⟨b,o + k * 3 + 2,none⟩=some (.int .i64 l[k].p))
structure FB (B:Nat) (w w':World):Prop where
 os:w'.os=w.os
 tape:w'.tape=w.tape
 output:w'.output=w.output
 size:w.heap.size≤w'.heap.size
 blk:∀ k,k<w.heap.size→k≠B→w'.heap[k]?=w.heap[k]?
theorem FB.trans {B:Nat} {a b c:World} (h:FB B a b) (k:FB B b c):FB B a c :=
 ⟨k.os.trans h.os,k.tape.trans h.tape,k.output.trans h.output,Nat.le_trans h.size k.size,fun i hi hn=>(k.blk i (Nat.lt_of_lt_of_le hi h.size) hn).trans (h.blk i hi hn)⟩
theorem FB.of {B:Nat} {a b:World} (h:Below a.heap.size a b):FB B a b:=⟨h.os,h.tape,h.output,h.size,fun k hk _=>h.block k hk⟩
theorem FB.then {B:Nat} {a b c:World} (h:FB B a b) (k:Below b.heap.size b c):FB B a c:=h.trans (FB.of k)
theorem FB.low {B:Nat} {a b:World} (h:FB B a b) (hB:B≤a.heap.size):Below B a b:=⟨h.os,h.tape,h.output,h.size,fun k hk=>h.blk k (by omega) (by omega)⟩
theorem TQ.sz {w:World} {B:Nat} {l:List Tk} (h:TQ w B l):B + 4≤w.heap.size:=by
 obtain ⟨a,c,_,_,_,h,_⟩:=h
 exact h
theorem TQ.lt {w:World} {B:Nat} {l:List Tk} (h:TQ w B l):B<w.heap.size:=by have:=h.sz;omega
theorem TQ.keep {w W:World} {B:Nat} {l:List Tk} (h:TQ w B l) (hz:w.heap.size≤W.heap.size) (hb:∀ k,k<B + 4→W.heap[k]?=w.heap[k]?):TQ W B l:=by
 obtain ⟨a,c,h0,h1,h2,h4,h3⟩:=h
 refine ⟨a,c,(hb _ (by omega)).trans h0,h1,h2,by omega,fun hl=>?_⟩
 obtain ⟨b,o,e,hne,hbl,hc⟩:=h3 hl
 exact ⟨b,o,e,hne,hbl,fun k hk=>⟨(World.cell?_of_block (w:=w) (hb b hbl)).trans (hc k hk).1,(World.cell?_of_block (w:=w) (hb b hbl)).trans (hc k hk).2.1,(World.cell?_of_block (w:=w) (hb b hbl)).trans (hc k hk).2.2⟩⟩
theorem TQ.below {w W:World} {B:Nat} {l:List Tk} (h:TQ w B l) (hb:Below w.heap.size w W):TQ W B l:=h.keep hb.size fun k hk=>hb.block k (by have:=h.sz;omega)
theorem TQ.set {W:World} {B i o:Nat} {l:List Tk} {u:Value} (h:TQ W B l) (hi:B + 4≤i):TQ (W.setCell ⟨i,o,none⟩ u) B l:=h.keep (by simp) fun k hk=>Below.heap_setCell _ _ _ _ (by show k≠i;omega)
theorem TQ.al {W:World} {B:Nat} {l:List Tk} {o:Obj} (h:TQ W B l):TQ (W.alloc o) B l:=h.keep (by simp) fun k hk=>Below.heap_alloc _ _ _ (by have:=h.sz;omega)
theorem FB.set {B:Nat} {w W:World} {i o:Nat} {u:Value} (h:FB B w W) (hi:w.heap.size≤i):FB B w (W.setCell ⟨i,o,none⟩ u) :=
 ⟨h.os,h.tape,h.output,by simp;exact h.size,fun k hk hn=>(Below.heap_setCell _ _ _ _ (by show k≠i;omega)).trans (h.blk k hk hn)⟩
theorem FB.al {B:Nat} {w W:World} {o:Obj} (h:FB B w W):FB B w (W.alloc o) :=
 ⟨h.os,h.tape,h.output,by simp;have:=h.size;omega,fun k hk hn=>(Below.heap_alloc _ _ _ (by have:=h.size;omega)).trans (h.blk k hk hn)⟩
theorem TQ.next {w W:World} {B:Nat} {t:Tk} {l:List Tk} {b o c:Nat} (hz:w.heap.size≤W.heap.size) (hs:B + 4≤w.heap.size) (hc:∀ k (h:k<(t :: l).length),w.cell? ⟨b,o + k * 3,none⟩=some (.int .i64 (t :: l)[k].w)∧w.cell? ⟨b,o + k * 3 + 1,none⟩=some (.string (mkB (t :: l)[k].s))∧w.cell? ⟨b,o + k * 3 + 2,none⟩=some (.int .i64 (t :: l)[k].p)) (hb:b<B + 4) (hne:b≠B) (hf:∀ k,k<w.heap.size→k≠B→W.heap[k]?=w.heap[k]?) (h1:l.length≤c) (h2:c≤9223372036854775807∧l.length≤100000)
  (hW:W.heap[B]?=some (.cells #[.slice (some ⟨b,o + 3,none⟩) l.length c] 59 (0,0))):TQ W B l:=by
 refine ⟨_,c,hW,h1,h2,by omega,fun hl=>⟨b,o + 3,rfl,hne,hb,fun k hk=>?_⟩⟩
 have h:=hc (k + 1) (by simp;omega)
 simp only [List.getElem_cons_succ] at h
 have e:o + 3 + k * 3=o + (k + 1) * 3:=by omega
 rw [e]
 exact ⟨(World.cell?_of_block (w:=w) (hf b (by omega) hne)).trans h.1,(World.cell?_of_block (w:=w) (hf b (by omega) hne)).trans h.2.1,(World.cell?_of_block (w:=w) (hf b (by omega) hne)).trans h.2.2⟩
def tkV (t:Tk):Value:=.agg #[.int .i64 t.w,.string (mkB t.s),.int .i64 t.p]
def lv (B:Nat):Value:=.agg #[.func (.func 114) #[] #[.pointer (some ⟨B,0,none⟩)],.func (.func 115) #[] #[.pointer (some ⟨B,0,none⟩)]]
def pw (p:Int):List PanicEntry:=[{v:=.iface 79 (.int .i64 p),recovered:=false}]
def ownT (t:Tk):List UInt8:=if t.w=1∨t.w=4 then t.s else []
theorem blkS {w:World} {B:Nat} {v:Value} {T:TypeId} (h:w.heap[B]?=some (.cells #[v] T (0,0))) (u:Value):(w.setCell ⟨B,0,none⟩ u).heap[B]?=some (.cells #[u] T (0,0)):=by
 obtain ⟨hlt,e⟩:=Array.getElem?_eq_some_iff.1 h
 simp [World.setCell,hlt,Array.getElem_modify,e]
set_option maxHeartbeats 1000000 in
set_option maxRecDepth 100000 in
theorem first_any {w:World} {B:Nat} {t:Tk} {l:List Tk} (h:TQ w B (t :: l)):Calls Tryz.prog 114 #[.pointer (some ⟨B,0,none⟩)] w fun e w'=>e=.returned (tkV t)∧Below w.heap.size w w':=by
 have hlt:=h.lt
 have hsz4:=h.sz
 obtain ⟨a,c,h0,h1,h2,_,h3⟩:=h
 obtain ⟨b,o,rfl,hne,hbl4,hc⟩:=h3 (by simp)
 have hbl:b<w.heap.size:=by omega
 obtain ⟨c0,c1,c2⟩:=hc 0 (by simp)
 have cB:w.cell? ⟨B,0,none⟩=some (.slice (some ⟨b,o,none⟩) (t :: l).length c):=by unfold World.cell?;rw [h0];rfl
 simp only [List.getElem_cons_zero,Nat.zero_mul,Nat.add_zero] at c0 c1 c2
 have hn:(0:Int)<((t :: l).length:Int):=by simp only [List.length_cons];omega
 obtain ⟨n,hN⟩:∃ n,(t :: l).length=n:=⟨_,rfl⟩
 rw [hN] at cB hn h1
 clear h0 h3 hc h1 hN
 go_enter Tryz.func114, Tryz.ntmps114
 go_wp2_with fail
 refine bodyPost_ret (v:=tkV t) (by simp [results,Tryz.results114,go_sem,tkV, *]) rfl ⟨rfl,below_al (Below.refl _ _)⟩
set_option maxHeartbeats 1000000 in
set_option maxRecDepth 100000 in
theorem take_any {w:World} {B:Nat} {t:Tk} {l:List Tk} (h:TQ w B (t :: l)):Calls Tryz.prog 115 #[.pointer (some ⟨B,0,none⟩)] w fun e w'=>e=.returned (tkV t)∧TQ w' B l∧FB B w w':=by
 have hlt:=h.lt
 have hsz4:=h.sz
 obtain ⟨a,c,h0,h1,h2,_,h3⟩:=h
 obtain ⟨b,o,rfl,hne,hbl4,hc⟩:=h3 (by simp)
 have hbl:b<w.heap.size:=by omega
 have HC:=hide hc
 obtain ⟨c0,c1,c2⟩:=hc 0 (by simp)
 have cB:w.cell? ⟨B,0,none⟩=some (.slice (some ⟨b,o,none⟩) (t :: l).length c):=by unfold World.cell?;rw [h0];rfl
 have fB:w.frozen? ⟨B,0,none⟩=false:=by unfold World.frozen?;rw [h0];rfl
 simp only [List.getElem_cons_zero,Nat.zero_mul,Nat.add_zero] at c0 c1 c2
 have hn:(0:Int)<((t :: l).length:Int):=by simp only [List.length_cons];omega
 have hn1:(1:Int)≤((t :: l).length:Int):=by simp only [List.length_cons];omega
 have hnc:((t :: l).length:Int)≤(c:Int):=by omega
 have hc1:(c:Int)≤9223372036854775807:=by omega
 have H0:=hide h0
 have HL:=hide (show l.length≤c - 1 by simp only [List.length_cons] at h1;omega)
 have H2:=hide h2
 have HL9:=hide (show l.length≤100000 by have:=h2.2;simp only [List.length_cons] at this;omega)
 clear h0 h3 hc h1 h2
 have key:∀ a' c',(∀ c'',c'=c''→l.length≤c'∧c'≤9223372036854775807)→(a'=some ⟨b,o + 3,none⟩∨l=[])→∀ X o1 o2,X=((w.setCell ⟨B,0,none⟩ (.slice a' l.length c')).alloc o1).alloc o2→TQ X B l∧FB B w X:=by
  intro a' c' hc' ha X o1 o2 hX
  have hsz:X.heap.size=w.heap.size + 2:=by rw [hX];simp
  have hf:∀ k,k<w.heap.size→k≠B→X.heap[k]?=w.heap[k]?:=fun k hk hn=>by
   rw [hX,Below.heap_alloc _ _ _ (by simp;omega),Below.heap_alloc _ _ _ (by simp;omega),Below.heap_setCell _ _ _ _ hn]
  have hB:X.heap[B]?=some (.cells #[.slice a' l.length c'] 59 (0,0)):=by
   rw [hX,Below.heap_alloc _ _ _ (by simp;omega),Below.heap_alloc _ _ _ (by simp;omega)]
   exact blkS H0.out _
  refine ⟨?_,⟨by rw [hX];rfl,by rw [hX];rfl,by rw [hX];rfl,by omega,hf⟩⟩
  obtain ⟨q1,q2⟩:=hc' _ rfl
  rcases ha with rfl|rfl
  ·exact TQ.next (by omega) hsz4 HC.out hbl4 hne hf q1 ⟨q2,HL9.out⟩ hB
  ·exact ⟨_,_,hB,q1,⟨q2,HL9.out⟩,by omega,fun h=>by simp at h⟩
 have KEY:=hide key
 clear key
 go_enter Tryz.func115, Tryz.ntmps115
 go_wp2_with fail
 ·have hl0:l=[]:=by have:=HL.out;exact List.eq_nil_of_length_eq_zero (by omega)
  refine bodyPost_ret (v:=tkV t) (by simp [results,Tryz.results115,go_sem,tkV, *]) rfl ⟨rfl,KEY.out _ _ (fun _ _=>by subst hl0;simp) (Or.inr hl0) _ _ _ rfl⟩
 ·refine bodyPost_ret (v:=tkV t) (by simp [results,Tryz.results115,go_sem,tkV, *]) rfl ⟨rfl,KEY.out _ _ (fun _ _=>⟨HL.out,by have:=H2.out;omega⟩) (Or.inl rfl) _ _ _ rfl⟩
set_option maxHeartbeats 1000000 in
set_option maxRecDepth 100000 in
theorem own_any (t:Tk) (w:World):Calls Tryz.prog 95 #[tkV t] w fun e w'=>e=.returned (.string (mkB (ownT t)))∧Below w.heap.size w w':=by
 unfold tkV ownT
 by_cases h1:t.w=1
 ·have e:(if t.w=1∨t.w=4 then t.s else [])=t.s:=by simp [h1]
  rw [e];clear e
  go_enter Tryz.func95, Tryz.ntmps95
  go_wp2_with fail
  go_ret
  exact ⟨rfl,below_al (Below.refl _ _)⟩
 ·have b1:(t.w==1)=false:=by simp [h1]
  by_cases h4:t.w=4
  ·have e:(if t.w=1∨t.w=4 then t.s else [])=t.s:=by simp [h4]
   rw [e];clear e
   go_enter Tryz.func95, Tryz.ntmps95
   go_wp2_with fail
   go_ret
   exact ⟨rfl,below_al (Below.refl _ _)⟩
  ·have b4:(t.w==4)=false:=by simp [h4]
   have e:(if t.w=1∨t.w=4 then t.s else [])=[]:=by simp [h1,h4]
   rw [e];clear e
   go_enter Tryz.func95, Tryz.ntmps95
   go_wp2_with fail
   go_ret
   exact ⟨rfl,below_al (Below.refl _ _)⟩
def hasT (m:List UInt8) (t:Tk) (l:List Tk):Bool×List Tk:=if ownT t=m then (true,l) else (false,t :: l)
def wantT (m:List UInt8) (t:Tk) (l:List Tk):Sum Int (List Tk):=if ownT t=m then .inr l else .inl t.p
def WP (B:Nat) (w:World) (o:Sum Int (List Tk)) (e:Ending) (w':World):Prop:=FB B w w'∧match o with
 | .inl p=>e=.panicked (pw p)
 | .inr l=>e=.returned (.tuple #[])∧TQ w' B l
theorem mkB_inj {a b:List UInt8} (h:mkB a=mkB b):a=b:=by have:=congrArg bl h;rwa [bl_mkB,bl_mkB] at this
theorem tok3c (w:World) (t:Tk):(w.alloc (.cells #[.int .i64 t.w,.string (mkB t.s),.int .i64 t.p] 88)).cell? ⟨w.heap.size,2,none⟩=some (.int .i64 t.p):=by
 unfold World.cell?;rw [show (w.alloc (.cells #[.int .i64 t.w,.string (mkB t.s),.int .i64 t.p] 88)).heap[w.heap.size]?=_ from Array.getElem?_push_size];rfl
theorem tl_ne {a b:ByteArray} (h:¬ a=b):(a.toList==b.toList)=false:=by
 rw [beq_eq_false_iff_ne]
 intro e
 exact h (ByteArray.ext (Array.toList_inj.1 (by rw [ByteArray.toList_eq,ByteArray.toList_eq] at e;exact e)))
def LB (W:World) (i B:Nat):Prop:=W.heap[i]?=some (.cells #[.func (.func 114) #[] #[.pointer (some ⟨B,0,none⟩)],.func (.func 115) #[] #[.pointer (some ⟨B,0,none⟩)]] 83 (0,0))
theorem lb_new (w:World) (B:Nat):LB (w.alloc (.cells #[.func (.func 114) #[] #[.pointer (some ⟨B,0,none⟩)],.func (.func 115) #[] #[.pointer (some ⟨B,0,none⟩)]] 83)) w.heap.size B:=Array.getElem?_push_size
theorem LB.lt {W:World} {i B:Nat} (h:LB W i B):i<W.heap.size:=by
 by_cases hlt:i<W.heap.size
 ·exact hlt
 ·have hn:W.heap[i]?=none:=by simp;omega
  unfold LB at h
  rw [hn] at h;cases h
theorem LB.below {W W1:World} {i B:Nat} (h:LB W i B) (hb:Below W.heap.size W W1):LB W1 i B:=(hb.block _ h.lt).trans h
theorem LB.fb {W W1:World} {i B:Nat} (h:LB W i B) (hb:FB B W W1) (hn:i≠B):LB W1 i B:=(hb.blk _ h.lt hn).trans h
theorem LB.cells {W:World} {i B:Nat} (h:LB W i B):W.cell? ⟨i,0,none⟩=some (.func (.func 114) #[] #[.pointer (some ⟨B,0,none⟩)])∧W.cell? ⟨i,1,none⟩=some (.func (.func 115) #[] #[.pointer (some ⟨B,0,none⟩)]):=by
 unfold LB at h
 constructor <;> (unfold World.cell?;rw [h];rfl)
set_option maxHeartbeats 1000000 in
set_option maxRecDepth 100000 in
theorem has_any (m:List UInt8) {w:World} {B:Nat} {t:Tk} {l:List Tk} (h:TQ w B (t :: l)):Calls Tryz.prog 62 #[lv B,.string (mkB m)] w fun e w'=>e=.returned (.bool (hasT m t l).1)∧TQ w' B (hasT m t l).2∧FB B w w':=by
 have H:=hide h
 clear h
 unfold lv
 have L0:=hide (lb_new w B)
 have hf:=hide (fun w' (hb:Below w.heap.size w w')=>first_any (H.out.below hb))
 have ho:=hide (own_any t)
 unfold tkV at hf ho
 obtain ⟨S,hS⟩:∃ S,mkB (ownT t)=S:=⟨_,rfl⟩
 rw [hS] at ho
 by_cases hm:ownT t=m
 ·have e:hasT m t l=(true,l):=by simp [hasT,hm]
  rw [e]
  rw [hm] at hS
  rw [hS]
  clear e hm hS
  have ht:=hide (fun w' (hb:Below w.heap.size w w')=>take_any (H.out.below hb))
  unfold tkV at ht
  go_enter Tryz.func62, Tryz.ntmps62
  go_wp2_with (first|(go_at_call 114;refine (hf.out _ (below_al (Below.refl _ _))).mono ?_;rintro e w1 ⟨rfl,hb1⟩)|(go_at_call 95;refine (ho.out _).mono ?_;rintro e w2 ⟨rfl,hb2⟩;have L2:=((L0.out.below hb1).below hb2).cells.2)|(go_at_call 115;refine (ht.out _ (below_then (below_then (below_al (Below.refl _ _)) hb1) hb2)).mono ?_;rintro e w3 ⟨rfl,hq3,hb3⟩))
  go_ret
  exact ⟨rfl,hq3,(FB.of (below_then (below_then (below_al (Below.refl _ _)) hb1) hb2)).trans hb3⟩
 ·have e:hasT m t l=(false,t :: l):=by simp [hasT,hm]
  rw [e]
  have hne:=tl_ne (fun h:S=mkB m=>hm (mkB_inj (hS.trans h)))
  clear e hm hS
  go_enter Tryz.func62, Tryz.ntmps62
  go_wp2_with (first|(go_at_call 114;refine (hf.out _ (below_al (Below.refl _ _))).mono ?_;rintro e w1 ⟨rfl,hb1⟩)|(go_at_call 95;refine (ho.out _).mono ?_;rintro e w2 ⟨rfl,hb2⟩))
  go_ret
  exact ⟨rfl,H.out.below (below_then (below_then (below_al (Below.refl _ _)) hb1) hb2),FB.of (below_then (below_then (below_al (Below.refl _ _)) hb1) hb2)⟩
set_option maxHeartbeats 1000000 in
set_option maxRecDepth 100000 in
theorem want_any (m:List UInt8) {w:World} {B:Nat} {t:Tk} {l:List Tk} (h:TQ w B (t :: l)):Calls Tryz.prog 96 #[lv B,.string (mkB m)] w fun e w'=>WP B w (wantT m t l) e w':=by
 have H:=hide h
 clear h
 unfold lv
 have ho:=hide (own_any t)
 have ht:=hide (fun w' (hb:Below w.heap.size w w')=>take_any (H.out.below hb))
 unfold tkV at ho ht
 obtain ⟨S,hS⟩:∃ S,mkB (ownT t)=S:=⟨_,rfl⟩
 rw [hS] at ho
 by_cases hm:ownT t=m
 ·have e:wantT m t l=.inr l:=by simp [wantT,hm]
  rw [e]
  rw [hm] at hS
  rw [hS]
  clear e hm hS
  go_enter Tryz.func96, Tryz.ntmps96
  go_wp2_with (first|(go_at_call 95;refine (ho.out _).mono ?_;rintro e w2 ⟨rfl,hb2⟩)|(go_at_call 115;refine (ht.out _ (below_al (Below.refl _ _))).mono ?_;rintro e w3 ⟨rfl,hq3,hb3⟩))
  go_end0
  have hx:=below_then (below_al (o:=.cells #[.int .i64 t.w,.string (mkB t.s),.int .i64 t.p] 88) (Below.refl w3.heap.size w3)) hb2
  exact ⟨((FB.of (below_al (Below.refl _ _))).trans hb3).then hx,rfl,hq3.below hx⟩
 ·have e:wantT m t l=.inl t.p:=by simp [wantT,hm]
  rw [e]
  have hne:=tl_ne (fun h:S=mkB m=>hm (mkB_inj (hS.trans h)))
  clear e hm hS
  have c3:=fun w3:World=>(tok3c w3 t)
  go_enter Tryz.func96, Tryz.ntmps96
  go_wp2_with (first|(go_at_call 115;refine (ht.out _ (below_al (Below.refl _ _))).mono ?_;rintro e w3 ⟨rfl,hq3,hb3⟩)|(go_at_call 95;refine (ho.out _).mono ?_;rintro e w2 ⟨rfl,hb2⟩;have c2:=(hb2.cell (p:=⟨w3.heap.size,2,none⟩) (by simp)).trans (tok3c w3 t)))
  have hx:=below_then (below_al (o:=.cells #[.int .i64 t.w,.string (mkB t.s),.int .i64 t.p] 88) (Below.refl w3.heap.size w3)) hb2
  exact ⟨rfl,((FB.of (below_al (Below.refl _ _))).trans hb3).then hx,rfl⟩
end Lx
end Go.Proofs.YtcnfchblfcfimaaGreatDoor
