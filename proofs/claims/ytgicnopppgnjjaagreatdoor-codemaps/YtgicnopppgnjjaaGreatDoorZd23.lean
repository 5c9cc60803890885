/- Merged by program: AmScan, VgTok, ArPrint. -/
import Derived.Test.YtgicnopppgnjjaaGreatDoorZd22
import Derived.WalkMore
import Derived.BigQuiet
import Derived.Test.YtgicnopppgnjjaaGreatDoorZd10
set_option linter.unusedSimpArgs false
set_option linter.unusedVariables false
namespace Go.Proofs.YtgicnopppgnjjaaGreatDoor
namespace Lx
open Go.RowKit
def tcs (l:List Tk):List Value:=l.flatMap fun t=>[.int .i64 t.w,.string (mkB t.s),.int .i64 t.p]
theorem tcs_app (a b:List Tk):tcs (a++b)=tcs a++tcs b:=by simp [tcs]
theorem tcs_len (l:List Tk):(tcs l).length=3 * l.length:=by
 induction l with
 | nil=>rfl
 | cons a l ih=>simp only [tcs,List.flatMap_cons,List.length_append,List.length_cons,List.length_nil] at ih ⊢;omega
theorem tcs_cell (l:List Tk):∀ u∈tcs l,u.oneCell'=true:=by
 intro u hu
 simp only [tcs,List.mem_flatMap,List.mem_cons,List.not_mem_nil,or_false] at hu
 obtain ⟨t,_,rfl|rfl|rfl⟩:=hu <;> rfl
theorem infoK:(Tryz.prog.info? 110).map (fun i=>(i.zero,i.size,i.bytes))=some (some (.agg #[.int .i64 0,.string ⟨#[]⟩,.int .i64 0]),3,32):=by kernel_rfl
def OT (W:World) (B:Nat) (v:Value) (l:List Tk):Prop:=W.ownsRow B 110 3 v l.length (tcs l)
theorem ownsRow_succ {W:World} {B T sz n:Nat} {v:Value} {xs:List Value} (h:W.ownsRow B T sz v (n + 1) xs):∃ g c,v=.slice (some ⟨g,0,none⟩) (n + 1) c:=by
 rcases h.2 with ⟨_,h0⟩|⟨g,cap,cur,rfl,_⟩
 ·cases h0
 ·exact ⟨g,cap,rfl⟩
section
variable {w : World} {ops : Array Oper} {rest : List Oper} {o : Oper} {a : Act} {Q : Exit → Act → World → Prop}
theorem app_tk (hgd:o.guard=none) (s x:Operand) (ho:o.op=.call {callee:=.builtin .append,args:=#[s,x],argTypes:=#[71,71]})
  (B:Nat) (v:Value) (l:List Tk) (hs:a.eval s=v) (hown:OT w B v l) (ad:Addr) (c:Nat) (hx:a.eval x=.slice (some ad) 1 c) (t:Tk)
  (hnews:∀ j u,(tcs [t])[j]?=some u→w.cell? (ad.add j)=some u) (hk:l.length≤100000) (hB:B≤w.heap.size)
  (h:∀ g c' w',Hid (OT w' B (.slice (some ⟨g,0,none⟩) (l.length + 1) c') (l++[t]))→Hid (Below B w w')→wpList Tryz.prog ops Q rest (a.put o.dst (.slice (some ⟨g,0,none⟩) (l.length + 1) c')) w'):wpList Tryz.prog ops Q (o :: rest) a w:=by
 obtain ⟨i0,hi,hz0,hz1,hz2⟩:=info_parts infoK
 refine wpList_append_own_at w hgd s x 71 ho B 110 i0 _ 3 32 Tryz.underlying71 hi hz0 hz1 hz2 rfl (by decide) v l.length (tcs l) hs hown ad 1 c (tcs [t]) hx (by rw [tcs_len];rfl) hnews (tcs_cell _) (by unfold maxLen;omega) (by omega) hB ?_
 intro v' w' h1 h2 _ _
 rw [←tcs_app] at h1
 obtain ⟨g,c',rfl⟩:=ownsRow_succ h1
 refine h g c' w' ?_ ?_
 ·show OT _ _ _ _
  unfold OT
  rw [List.length_append]
  exact h1
 ·refine (Below.refl B w).grown h2 hB (fun k hk=>(World.ownsRow.lt hown k hk).1)
end
theorem OT.keep {W W1:World} {B:Nat} {v:Value} {l:List Tk} (h:OT W B v l) (hb:Below W.heap.size W W1):OT W1 B v l:=ownsRow_of h fun k _ hk=>hb.block k hk
theorem OT.nil (W:World) (B:Nat):OT W B (.slice none 0 0) []:=World.ownsRow_nil _ _ _ _
theorem OT.shape {W:World} {B:Nat} {v:Value} {l:List Tk} (h:OT W B v l):∃ a c,v=.slice a l.length c:=by
 rcases h.2 with ⟨rfl,h0⟩|⟨g,cap,cur,rfl,_⟩
 ·exact ⟨none,0,by rw [h0]⟩
 ·exact ⟨_,_,rfl⟩
def scR (l:List UInt8):Nat×Nat×List Tk:=if 4096<l.length then (2,0,[]) else match scnA nok l 0 [] with
 | .inl (e,p)=>(e,p,[])
 | .inr ts=>(0,0,ts)
def ScP (w:World) (x:Nat×Nat×List Tk) (e:Ending) (w':World):Prop:=∃ v,e=.returned (.tuple #[v,.int .i64 (x.1:Nat),.int .i64 (x.2.1:Nat)])∧OT w' w.heap.size v x.2.2∧Below w.heap.size w w'
def scO (o:Sum (Nat×Nat) (List Tk)):Nat×Nat×List Tk:=match o with
 | .inl (e,p)=>(e,p,[])
 | .inr ts=>(0,0,ts)
theorem news_tk (W:World) (t:Tk) (T:TypeId):∀ j u,(tcs [t])[j]?=some u→(W.alloc (.cells #[.int .i64 t.w,.string (mkB t.s),.int .i64 t.p] T)).cell? ((⟨W.heap.size,0,none⟩:Addr).add j)=some u:=by
 intro j u h
 simp only [tcs,List.flatMap_cons,List.flatMap_nil,List.append_nil] at h
 match j,h with
 | 0,h=>simpa [Addr.add] using h
 | 1,h=>simpa [Addr.add] using h
 | 2,h=>simpa [Addr.add] using h
 | j + 3,h=>simp at h
theorem fst_zero (l:List UInt8) (f k:Nat) (h:(cutK nok k l).2=0):fstK nok l (f + 1) k=fstK nok l f (k + 1):=by simp [fstK,h]
theorem fst_some (l:List UInt8) (f k:Nat) (h:(cutK nok k l).2≠0):fstK nok l (f + 1) k=some (k,(cutK nok k l).1,(cutK nok k l).2):=by simp [fstK,h]
set_option maxHeartbeats 4000000 in
set_option maxRecDepth 100000 in
theorem scan_any (hP:ParseOk) (s:ByteArray) (w:World) (g:Gg w) (hs:s.size≤1000000):Calls Tryz.prog 67 #[.string s] w fun e w'=>ScP w (scR (bl s)) e w':=by
 unfold scR
 rw [bl_length]
 by_cases hbig:4096<s.size
 ·have ib:(4096:Int)<(s.size:Int):=by omega
  rw [if_pos hbig]
  go_enter Tryz.func67, Tryz.ntmps67
  go_wp2
  go_step3
  go_wp2
  rw [Exit.noGoto_ret]
  go_ret3
  exact ⟨_,rfl,OT.nil _ _,Below.refl _ _⟩
 ·have ib:¬ (4096:Int)<(s.size:Int):=by omega
  rw [if_neg hbig]
  show Calls _ _ _ _ fun e w'=>ScP w (scO (scnA nok (bl s) 0 [])) e w'
  obtain ⟨U,hU⟩:∃ U,scO (scnA nok (bl s) 0 [])=U:=⟨_,rfl⟩
  rw [hU]
  have HU:=hide hU
  have g0:=hide g
  have hP0:=hide hP
  clear hU g hP hs
  go_enter Tryz.func67, Tryz.ntmps67
  go_wp2
  go_step3
  go_wp2
  go_step3
  go_wp2
  go_loopw [5,6] (fun v i W=>∃ (p:Nat) (ts:List Tk),i=.int .i64 (p:Nat)∧p≤s.size∧Hid (OT W w.heap.size v ts∧ts.length≤1024∧U=scO (scnA nok ((bl s).drop p) p ts)∧Below w.heap.size w W)) (fun _ i _=>s.size - (intOf i).toNat)
  case atStart=>exact ⟨0,[],rfl,Nat.zero_le _,OT.nil _ _,by simp,HU.out.symm,Below.refl _ _⟩
  case round =>
   obtain ⟨p,ts,rfl,hp,H⟩:=hrel
   by_cases hps:p<s.size
   ·have hpi:(p:Int)<(s.size:Int):=by omega
    obtain ⟨a,c,hv⟩:=H.out.1.shape
    have hH:=H.out
    clear H
    rw [hv] at hH ⊢
    clear hv
    have H:=hide hH
    clear hH
    go_wp2
    go_hide hQ
    go_loopw [5,6,17] (fun v i k W=>∃ (j:Nat),v=.slice a ts.length c∧i=.int .i64 (p:Nat)∧k=.int .i64 (j:Nat)∧j≤5∧Hid (OT W w.heap.size (.slice a ts.length c) ts∧Below w.heap.size w W∧tok nok ((bl s).drop p)=fstK nok ((bl s).drop p) (5 - j) j)) (fun _ _ k _=>5 - (intOf k).toNat)
    case atStart=>exact ⟨0,rfl,rfl,rfl,by omega,H.out.1,H.out.2.2.2,rfl⟩
    case round =>
     obtain ⟨j,rfl,rfl,rfl,hj,K⟩:=hrel
     obtain ⟨ko,kb,kt⟩:=K.out
     have KO:=hide ko
     have KB:=hide kb
     have KT:=hide kt
     have gr:=hide (g0.out.below kb g0.out.sz)
     clear K ko kb kt
     by_cases hj5:j<5
     ·have hji:(j:Int)<5:=by omega
      have hj0:(0:Int)≤(j:Int):=by omega
      obtain ⟨t,ht⟩:∃ t,s.extract p s.size=t:=⟨_,rfl⟩
      have htb:bl t=(bl s).drop p:=by rw [←ht,drop_mkB,bl_mkB]
      have hts:t.size=s.size - p:=by rw [←bl_length,htb,List.length_drop,bl_length]
      have hcut:=hide (cut_any hP0.out j hj5 t _ gr.out (by omega) (Or.inl (by omega)))
      rw [htb] at hcut
      obtain ⟨c0,l0,hl0⟩:∃ c0 l0,bl t=c0 :: l0:=by
       obtain ⟨l0,hl0⟩:=bl_cons t (by omega)
       exact ⟨_,l0,hl0⟩
      have hle:=cutK_le nok j c0 l0
      rw [←hl0,htb,List.length_drop,bl_length] at hle
      have ef:5 - j=(4 - j) + 1:=by omega
      have KT2:Hid (tok nok ((bl s).drop p)=fstK nok ((bl s).drop p) ((4 - j) + 1) j):=by have:=KT.out;rw [ef] at this;exact this
      have hdc:Hid ((bl s).drop p=c0 :: l0):=by show _=_;rw [←htb];exact hl0
      obtain ⟨xn,hxn⟩:∃ xn,cutK nok j ((bl s).drop p)=xn:=⟨_,rfl⟩
      have hz:=fst_zero ((bl s).drop p) (4 - j) j
      have hsm:=fst_some ((bl s).drop p) (4 - j) j
      rw [hxn] at hcut hle hz hsm
      obtain ⟨x,n⟩:=xn
      have hcut2:Hid (Calls Tryz.prog 122 #[.int .i64 (j:Nat),.string t] wr fun e w'=>e=.returned (.tuple #[.string (mkB x),.int .i64 (n:Nat)])∧Below wr.heap.size wr w'):=hcut
      have hxs:Hid ((mkB x).size=x.length):=mkB_size x
      have hxb:(mkB x).size≤100000∨True:=Or.inr trivial
      simp only at hle hz hsm
      clear hcut htb hts hl0 ef KT hxn hxb
      by_cases hn0:n=0
      ·have e0:((n:Int)==0)=true:=by simp;omega
       have KT3:Hid (tok nok ((bl s).drop p)=fstK nok ((bl s).drop p) (5 - (j + 1)) (j + 1)):=by
        show _=_
        rw [KT2.out,hz hn0]
        congr 1
        omega
       clear hz hsm KT2 hn0
       go_wp2_with (go_at_call 122;refine hcut2.out.mono ?_;rintro e w1 ⟨rfl,hb1⟩;have hb1:=hide hb1)
       go_roundw
       case rel=>exact ⟨j + 1,rfl,rfl,by go_num,by omega,KO.out.keep hb1.out,below_then KB.out hb1.out,KT3.out⟩
       case measure=>simp [intOf];omega
      ·have e0:((n:Int)==0)=false:=by simp;omega
       have KT3:Hid (tok nok ((bl s).drop p)=some (j,x,n)):=by show _=_;rw [KT2.out,hsm hn0]
       have US:Hid (U=scO (if j=0 then scnA nok ((bl s).drop (p + n)) (p + n) ts else if lgK j<x.length∨ts.length=1024 then .inl (2,p) else scnA nok ((bl s).drop (p + n)) (p + n) (ts++[⟨wdK j,x,p⟩]))):=by
        show _=_
        rw [H.out.2.2.1,hdc.out,scnA_cons,←hdc.out,KT3.out]
        simp only [List.drop_drop]
       have jp:(p:Int) + (n:Int)≤9223372036854775807:=by omega
       clear hz hsm KT2
       by_cases hj00:j=0
       ·subst hj00
        have US2:Hid (U=scO (scnA nok ((bl s).drop (p + n)) (p + n) ts)):=by have:=US.out;rw [if_pos rfl] at this;exact this
        clear US
        go_wp2_with (go_at_call 122;refine hcut2.out.mono ?_;rintro e w1 ⟨rfl,hb1⟩;have hb1:=hide hb1)
        subst hQ
        go_wp2
        go_roundw
        case rel=>exact ⟨p + n,ts,by go_num,by omega,KO.out.keep hb1.out,H.out.2.1,US2.out,below_then KB.out hb1.out⟩
        case measure=>simp [intOf];omega
       ·have ej:((j:Int)==0)=false:=by simp;omega
        by_cases hlim:lgK j<x.length∨ts.length=1024
        ·have US2:Hid (U=(2,p,[])):=by have:=US.out;rw [if_neg hj00,if_pos hlim] at this;exact this
         clear US
         by_cases hl1:lgK j<x.length
         ·have i1:((lgK j:Nat):Int)<((mkB x).size:Int):=by rw [hxs.out];omega
          clear hlim hl1 hj00
          go_wp2_with (go_at_call 122;refine hcut2.out.mono ?_;rintro e w1 ⟨rfl,hb1⟩;have g1:=(g0.out.below (below_then KB.out hb1) g0.out.sz);have hlo:=g1.lo j hj5;have hb1:=hide hb1;clear g1)
          subst hQ
          go_wp2
          go_ret3
          exact ⟨_,by rw [US2.out];rfl,by rw [US2.out];exact OT.nil _ _,below_then KB.out hb1.out⟩
         ·have i1:¬ ((lgK j:Nat):Int)<((mkB x).size:Int):=by rw [hxs.out];omega
          have i2:((ts.length:Int)==1024)=true:=by simp;omega
          have i3:decide ((ts.length:Int)=1024)=true:=by simp;omega
          clear hlim hl1 hj00
          go_wp2_with (go_at_call 122;refine hcut2.out.mono ?_;rintro e w1 ⟨rfl,hb1⟩;have g1:=(g0.out.below (below_then KB.out hb1) g0.out.sz);have hlo:=g1.lo j hj5;have hb1:=hide hb1;clear g1)
          subst hQ
          go_wp2
          go_ret3
          exact ⟨_,by rw [US2.out];rfl,by rw [US2.out];exact OT.nil _ _,below_then KB.out hb1.out⟩
        ·have US2:Hid (U=scO (scnA nok ((bl s).drop (p + n)) (p + n) (ts++[⟨wdK j,x,p⟩]))):=by have:=US.out;rw [if_neg hj00,if_neg hlim] at this;exact this
         have i1:¬ ((lgK j:Nat):Int)<((mkB x).size:Int):=by rw [hxs.out];omega
         have i2:((ts.length:Int)==1024)=false:=by simp;omega
         have i3:decide ((ts.length:Int)=1024)=false:=by simp;omega
         have hts3:Hid (ts.length<1024):=by show _<_;have:=H.out.2.1;omega
         clear US hlim hj00
         go_wp2_with (first|(go_at_call 122;refine hcut2.out.mono ?_;rintro e w1 ⟨rfl,hb1⟩;have g1:=(g0.out.below (below_then KB.out hb1) g0.out.sz);have hlo:=g1.lo j hj5;have hwo:=g1.wo j hj5;have O1:=hide (KO.out.keep hb1);have hb1:=hide hb1;clear g1)|(at_builtin;refine Sto.out ?_))
         refine Sto.mk ?_
         have O2:=hide (O1.out.keep (below_al (o:=.cells #[.int .i64 (wdK j:Nat),.string (mkB x),.int .i64 (p:Nat)] 110) (Below.refl _ w1)))
         refine app_tk rfl (.tmp 28) (.tmp 35) rfl w.heap.size _ ts rfl O2.out ⟨w1.heap.size,0,none⟩ 1 rfl ⟨wdK j,x,p⟩ (news_tk w1 ⟨wdK j,x,p⟩ _) (by have:=hts3.out;omega) (by have:=(below_then KB.out hb1.out).size;simp;omega) ?_
         intro g' c' w' ho hb
         have B2:Hid (Below w.heap.size w w'):=(below_al (below_then KB.out hb1.out)).trans hb.out
         clear hb
         go_wp2
         subst hQ
         go_wp2
         go_roundw
         case rel=>exact ⟨p + n,ts++[⟨wdK j,x,p⟩],by go_num,by omega,ho.out,by have:=hts3.out;simp;omega,US2.out,B2.out⟩
         case measure=>simp [intOf];omega
     ·have hj5':j=5:=by omega
      subst hj5'
      have US:Hid (U=(130,p,[])):=by
       show _=_
       have hne:∃ c0 l0,(bl s).drop p=c0 :: l0:=by
        cases hd:(bl s).drop p with
        | nil=>have:=congrArg List.length hd;rw [List.length_drop,bl_length] at this;simp at this;omega
        | cons c0 l0=>exact ⟨c0,l0,rfl⟩
       obtain ⟨c0,l0,hdc⟩:=hne
       rw [H.out.2.2.1,hdc,scnA_cons,←hdc,KT.out]
       rfl
      go_wp2
      subst hQ
      go_wp2
      go_ret3
      exact ⟨_,by rw [US.out];rfl,by rw [US.out];exact OT.nil _ _,KB.out⟩
   ·have hpi:¬ (p:Int)<(s.size:Int):=by omega
    have hU2:Hid (U=(0,0,ts)):=by
     show _=_
     rw [H.out.2.2.1,List.drop_of_length_le (by rw [bl_length];omega)]
     rfl
    go_wp2
    go_ret3
    exact ⟨_,by rw [hU2.out];rfl,by rw [hU2.out];exact H.out.1,H.out.2.2.2⟩
end Lx
end Go.Proofs.YtgicnopppgnjjaaGreatDoor
namespace Go.Proofs.YtgicnopppgnjjaaGreatDoor
namespace Lx
open Go.RowKit
def TQ (w:World) (B:Nat) (l:List Tk):Prop:=∃ a c,w.heap[B]?=some (.cells #[.slice a l.length c] 71 (0,0))∧l.length≤c∧(c≤9223372036854775807∧l.length≤100000)∧B + 4≤w.heap.size∧(0<l.length→∃ b o,a=some ⟨b,o,none⟩∧b≠B∧b<B + 4∧∀ k (h:k<l.length),w.cell? ⟨b,o + k * 3,none⟩=some (.int .i64 l[k].w)∧w.cell? ⟨b,o + k * 3 + 1,none⟩=some (.string (mkB l[k].s))∧w.cell? ⟨b,o + k * 3 + 2,none⟩=some (.int .i64 l[k].p))
structure FB (B:Nat) (w w':World):Prop where
 os:w'.os=w.os
 tape:w'.tape=w.tape
 output:w'.output=w.output
 size:w.heap.size≤w'.heap.size
 blk:∀ k,k<w.heap.size→k≠B→w'.heap[k]?=w.heap[k]?
theorem FB.refl (B:Nat) (w:World):FB B w w:=⟨rfl,rfl,rfl,Nat.le_refl _,fun _ _ _=>rfl⟩
theorem FB.trans {B:Nat} {a b c:World} (h:FB B a b) (k:FB B b c):FB B a c :=
 ⟨k.os.trans h.os,k.tape.trans h.tape,k.output.trans h.output,Nat.le_trans h.size k.size,fun i hi hn=>(k.blk i (Nat.lt_of_lt_of_le hi h.size) hn).trans (h.blk i hi hn)⟩
theorem FB.of {B:Nat} {a b:World} (h:Below a.heap.size a b):FB B a b:=⟨h.os,h.tape,h.output,h.size,fun k hk _=>h.block k hk⟩
theorem FB.then {B:Nat} {a b c:World} (h:FB B a b) (k:Below b.heap.size b c):FB B a c:=h.trans (FB.of k)
theorem FB.low {B:Nat} {a b:World} (h:FB B a b) (hB:B≤a.heap.size):Below B a b:=⟨h.os,h.tape,h.output,h.size,fun k hk=>h.blk k (by omega) (by omega)⟩
theorem TQ.sz {w:World} {B:Nat} {l:List Tk} (h:TQ w B l):B + 4≤w.heap.size:=by
 obtain ⟨a,c,_,_,_,h,_⟩:=h
 exact h
theorem TQ.lt {w:World} {B:Nat} {l:List Tk} (h:TQ w B l):B<w.heap.size:=by have:=h.sz;omega
theorem TQ.keep {w W:World} {B:Nat} {l:List Tk} (h:TQ w B l) (hz:w.heap.size≤W.heap.size) (hb:∀ k,k<B + 4→W.heap[k]?=w.heap[k]?):TQ W B l:=by
 obtain ⟨a,c,h0,h1,h2,h4,h3⟩:=h
 refine ⟨a,c,(hb _ (by omega)).trans h0,h1,h2,by omega,fun hl=>?_⟩
 obtain ⟨b,o,e,hne,hbl,hc⟩:=h3 hl
 exact ⟨b,o,e,hne,hbl,fun k hk=>⟨(World.cell?_of_block (w:=w) (hb b hbl)).trans (hc k hk).1,(World.cell?_of_block (w:=w) (hb b hbl)).trans (hc k hk).2.1,(World.cell?_of_block (w:=w) (hb b hbl)).trans (hc k hk).2.2⟩⟩
theorem TQ.below {w W:World} {B:Nat} {l:List Tk} (h:TQ w B l) (hb:Below w.heap.size w W):TQ W B l:=h.keep hb.size fun k hk=>hb.block k (by have:=h.sz;omega)
theorem TQ.set {W:World} {B i o:Nat} {l:List Tk} {u:Value} (h:TQ W B l) (hi:B + 4≤i):TQ (W.setCell ⟨i,o,none⟩ u) B l:=h.keep (by simp) fun k hk=>Below.heap_setCell _ _ _ _ (by show k≠i;omega)
theorem TQ.al {W:World} {B:Nat} {l:List Tk} {o:Obj} (h:TQ W B l):TQ (W.alloc o) B l:=h.keep (by simp) fun k hk=>Below.heap_alloc _ _ _ (by have:=h.sz;omega)
theorem FB.set {B:Nat} {w W:World} {i o:Nat} {u:Value} (h:FB B w W) (hi:w.heap.size≤i):FB B w (W.setCell ⟨i,o,none⟩ u) :=
 ⟨h.os,h.tape,h.output,by simp;exact h.size,fun k hk hn=>(Below.heap_setCell _ _ _ _ (by show k≠i;omega)).trans (h.blk k hk hn)⟩
theorem FB.al {B:Nat} {w W:World} {o:Obj} (h:FB B w W):FB B w (W.alloc o) :=
 ⟨h.os,h.tape,h.output,by simp;have:=h.size;omega,fun k hk hn=>(Below.heap_alloc _ _ _ (by have:=h.size;omega)).trans (h.blk k hk hn)⟩
theorem TQ.next {w W:World} {B:Nat} {t:Tk} {l:List Tk} {b o c:Nat} (hz:w.heap.size≤W.heap.size) (hs:B + 4≤w.heap.size) (hc:∀ k (h:k<(t :: l).length),w.cell? ⟨b,o + k * 3,none⟩=some (.int .i64 (t :: l)[k].w)∧w.cell? ⟨b,o + k * 3 + 1,none⟩=some (.string (mkB (t :: l)[k].s))∧w.cell? ⟨b,o + k * 3 + 2,none⟩=some (.int .i64 (t :: l)[k].p)) (hb:b<B + 4) (hne:b≠B) (hf:∀ k,k<w.heap.size→k≠B→W.heap[k]?=w.heap[k]?) (h1:l.length≤c) (h2:c≤9223372036854775807∧l.length≤100000)
  (hW:W.heap[B]?=some (.cells #[.slice (some ⟨b,o + 3,none⟩) l.length c] 71 (0,0))):TQ W B l:=by
 refine ⟨_,c,hW,h1,h2,by omega,fun hl=>⟨b,o + 3,rfl,hne,hb,fun k hk=>?_⟩⟩
 have h:=hc (k + 1) (by simp;omega)
 simp only [List.getElem_cons_succ] at h
 have e:o + 3 + k * 3=o + (k + 1) * 3:=by omega
 rw [e]
 exact ⟨(World.cell?_of_block (w:=w) (hf b (by omega) hne)).trans h.1,(World.cell?_of_block (w:=w) (hf b (by omega) hne)).trans h.2.1,(World.cell?_of_block (w:=w) (hf b (by omega) hne)).trans h.2.2⟩
def tkV (t:Tk):Value:=.agg #[.int .i64 t.w,.string (mkB t.s),.int .i64 t.p]
def bx (B:Nat):Value:=.pointer (some ⟨B,0,none⟩)
def lv (B:Nat):Value:=.agg #[.func (.func 123) #[] #[.pointer (some ⟨B,0,none⟩)],.func (.func 124) #[] #[.pointer (some ⟨B,0,none⟩)]]
def pw (p:Int):List PanicEntry:=[{v:=.iface 100 (.int .i64 p),recovered:=false}]
def ownT (t:Tk):List UInt8:=if t.w=1∨t.w=4 then t.s else []
theorem blkS {w:World} {B:Nat} {v:Value} {T:TypeId} (h:w.heap[B]?=some (.cells #[v] T (0,0))) (u:Value):(w.setCell ⟨B,0,none⟩ u).heap[B]?=some (.cells #[u] T (0,0)):=by
 obtain ⟨hlt,e⟩:=Array.getElem?_eq_some_iff.1 h
 simp [World.setCell,hlt,Array.getElem_modify,e]
set_option maxHeartbeats 1000000 in
set_option maxRecDepth 100000 in
theorem first_any {w:World} {B:Nat} {t:Tk} {l:List Tk} (h:TQ w B (t :: l)):Calls Tryz.prog 123 #[.pointer (some ⟨B,0,none⟩)] w fun e w'=>e=.returned (tkV t)∧Below w.heap.size w w':=by
 have hlt:=h.lt
 have hsz4:=h.sz
 obtain ⟨a,c,h0,h1,h2,_,h3⟩:=h
 obtain ⟨b,o,rfl,hne,hbl4,hc⟩:=h3 (by simp)
 have hbl:b<w.heap.size:=by omega
 obtain ⟨c0,c1,c2⟩:=hc 0 (by simp)
 have cB:w.cell? ⟨B,0,none⟩=some (.slice (some ⟨b,o,none⟩) (t :: l).length c):=by unfold World.cell?;rw [h0];rfl
 simp only [List.getElem_cons_zero,Nat.zero_mul,Nat.add_zero] at c0 c1 c2
 have hn:(0:Int)<((t :: l).length:Int):=by simp only [List.length_cons];omega
 obtain ⟨n,hN⟩:∃ n,(t :: l).length=n:=⟨_,rfl⟩
 rw [hN] at cB hn h1
 clear h0 h3 hc h1 hN
 go_enter Tryz.func123, Tryz.ntmps123
 go_wp2_with fail
 refine bodyPost_ret (v:=tkV t) (by simp [results,Tryz.results123,go_sem,tkV, *]) rfl ⟨rfl,below_al (Below.refl _ _)⟩
set_option maxHeartbeats 1000000 in
set_option maxRecDepth 100000 in
theorem take_any {w:World} {B:Nat} {t:Tk} {l:List Tk} (h:TQ w B (t :: l)):Calls Tryz.prog 124 #[.pointer (some ⟨B,0,none⟩)] w fun e w'=>e=.returned (tkV t)∧TQ w' B l∧FB B w w':=by
 have hlt:=h.lt
 have hsz4:=h.sz
 obtain ⟨a,c,h0,h1,h2,_,h3⟩:=h
 obtain ⟨b,o,rfl,hne,hbl4,hc⟩:=h3 (by simp)
 have hbl:b<w.heap.size:=by omega
 have HC:=hide hc
 obtain ⟨c0,c1,c2⟩:=hc 0 (by simp)
 have cB:w.cell? ⟨B,0,none⟩=some (.slice (some ⟨b,o,none⟩) (t :: l).length c):=by unfold World.cell?;rw [h0];rfl
 have fB:w.frozen? ⟨B,0,none⟩=false:=by unfold World.frozen?;rw [h0];rfl
 simp only [List.getElem_cons_zero,Nat.zero_mul,Nat.add_zero] at c0 c1 c2
 have hn:(0:Int)<((t :: l).length:Int):=by simp only [List.length_cons];omega
 have hn1:(1:Int)≤((t :: l).length:Int):=by simp only [List.length_cons];omega
 have hnc:((t :: l).length:Int)≤(c:Int):=by omega
 have hc1:(c:Int)≤9223372036854775807:=by omega
 have H0:=hide h0
 have HL:=hide (show l.length≤c - 1 by simp only [List.length_cons] at h1;omega)
 have H2:=hide h2
 have HL9:=hide (show l.length≤100000 by have:=h2.2;simp only [List.length_cons] at this;omega)
 clear h0 h3 hc h1 h2
 have key:∀ a' c',(∀ c'',c'=c''→l.length≤c'∧c'≤9223372036854775807)→(a'=some ⟨b,o + 3,none⟩∨l=[])→∀ X o1 o2,X=((w.setCell ⟨B,0,none⟩ (.slice a' l.length c')).alloc o1).alloc o2→TQ X B l∧FB B w X:=by
  intro a' c' hc' ha X o1 o2 hX
  have hsz:X.heap.size=w.heap.size + 2:=by rw [hX];simp
  have hf:∀ k,k<w.heap.size→k≠B→X.heap[k]?=w.heap[k]?:=fun k hk hn=>by
   rw [hX,Below.heap_alloc _ _ _ (by simp;omega),Below.heap_alloc _ _ _ (by simp;omega),Below.heap_setCell _ _ _ _ hn]
  have hB:X.heap[B]?=some (.cells #[.slice a' l.length c'] 71 (0,0)):=by
   rw [hX,Below.heap_alloc _ _ _ (by simp;omega),Below.heap_alloc _ _ _ (by simp;omega)]
   exact blkS H0.out _
  refine ⟨?_,⟨by rw [hX];rfl,by rw [hX];rfl,by rw [hX];rfl,by omega,hf⟩⟩
  obtain ⟨q1,q2⟩:=hc' _ rfl
  rcases ha with rfl|rfl
  ·exact TQ.next (by omega) hsz4 HC.out hbl4 hne hf q1 ⟨q2,HL9.out⟩ hB
  ·exact ⟨_,_,hB,q1,⟨q2,HL9.out⟩,by omega,fun h=>by simp at h⟩
 have KEY:=hide key
 clear key
 go_enter Tryz.func124, Tryz.ntmps124
 go_wp2_with fail
 ·have hl0:l=[]:=by have:=HL.out;exact List.eq_nil_of_length_eq_zero (by omega)
  refine bodyPost_ret (v:=tkV t) (by simp [results,Tryz.results124,go_sem,tkV, *]) rfl ⟨rfl,KEY.out _ _ (fun _ _=>by subst hl0;simp) (Or.inr hl0) _ _ _ rfl⟩
 ·refine bodyPost_ret (v:=tkV t) (by simp [results,Tryz.results124,go_sem,tkV, *]) rfl ⟨rfl,KEY.out _ _ (fun _ _=>⟨HL.out,by have:=H2.out;omega⟩) (Or.inl rfl) _ _ _ rfl⟩
set_option maxHeartbeats 1000000 in
set_option maxRecDepth 100000 in
theorem own_any (t:Tk) (w:World):Calls Tryz.prog 88 #[tkV t] w fun e w'=>e=.returned (.string (mkB (ownT t)))∧Below w.heap.size w w':=by
 unfold tkV ownT
 by_cases h1:t.w=1
 ·have e:(if t.w=1∨t.w=4 then t.s else [])=t.s:=by simp [h1]
  rw [e];clear e
  go_enter Tryz.func88, Tryz.ntmps88
  go_wp2_with fail
  go_ret
  exact ⟨rfl,below_al (Below.refl _ _)⟩
 ·have b1:(t.w==1)=false:=by simp [h1]
  by_cases h4:t.w=4
  ·have e:(if t.w=1∨t.w=4 then t.s else [])=t.s:=by simp [h4]
   rw [e];clear e
   go_enter Tryz.func88, Tryz.ntmps88
   go_wp2_with fail
   go_ret
   exact ⟨rfl,below_al (Below.refl _ _)⟩
  ·have b4:(t.w==4)=false:=by simp [h4]
   have e:(if t.w=1∨t.w=4 then t.s else [])=[]:=by simp [h1,h4]
   rw [e];clear e
   go_enter Tryz.func88, Tryz.ntmps88
   go_wp2_with fail
   go_ret
   exact ⟨rfl,below_al (Below.refl _ _)⟩
def hasT (m:List UInt8) (t:Tk) (l:List Tk):Bool×List Tk:=if ownT t=m then (true,l) else (false,t :: l)
def wantT (m:List UInt8) (t:Tk) (l:List Tk):Sum Int (List Tk):=if ownT t=m then .inr l else .inl t.p
def WP (B:Nat) (w:World) (o:Sum Int (List Tk)) (e:Ending) (w':World):Prop:=FB B w w'∧match o with
 | .inl p=>e=.panicked (pw p)
 | .inr l=>e=.returned (.tuple #[])∧TQ w' B l
theorem mkB_inj {a b:List UInt8} (h:mkB a=mkB b):a=b:=by have:=congrArg bl h;rwa [bl_mkB,bl_mkB] at this
theorem tok3c (w:World) (t:Tk):(w.alloc (.cells #[.int .i64 t.w,.string (mkB t.s),.int .i64 t.p] 110)).cell? ⟨w.heap.size,2,none⟩=some (.int .i64 t.p):=by
 unfold World.cell?;rw [show (w.alloc (.cells #[.int .i64 t.w,.string (mkB t.s),.int .i64 t.p] 110)).heap[w.heap.size]?=_ from Array.getElem?_push_size];rfl
theorem tl_ne {a b:ByteArray} (h:¬ a=b):(a.toList==b.toList)=false:=by
 rw [beq_eq_false_iff_ne]
 intro e
 exact h (ByteArray.ext (Array.toList_inj.1 (by rw [ByteArray.toList_eq,ByteArray.toList_eq] at e;exact e)))
def LB (W:World) (i B:Nat):Prop:=W.heap[i]?=some (.cells #[.func (.func 123) #[] #[.pointer (some ⟨B,0,none⟩)],.func (.func 124) #[] #[.pointer (some ⟨B,0,none⟩)]] 104 (0,0))
theorem lb_new (w:World) (B:Nat):LB (w.alloc (.cells #[.func (.func 123) #[] #[.pointer (some ⟨B,0,none⟩)],.func (.func 124) #[] #[.pointer (some ⟨B,0,none⟩)]] 104)) w.heap.size B:=Array.getElem?_push_size
theorem LB.lt {W:World} {i B:Nat} (h:LB W i B):i<W.heap.size:=by
 by_cases hlt:i<W.heap.size
 ·exact hlt
 ·have hn:W.heap[i]?=none:=by simp;omega
  unfold LB at h
  rw [hn] at h;cases h
theorem LB.below {W W1:World} {i B:Nat} (h:LB W i B) (hb:Below W.heap.size W W1):LB W1 i B:=(hb.block _ h.lt).trans h
theorem LB.fb {W W1:World} {i B:Nat} (h:LB W i B) (hb:FB B W W1) (hn:i≠B):LB W1 i B:=(hb.blk _ h.lt hn).trans h
theorem LB.cells {W:World} {i B:Nat} (h:LB W i B):W.cell? ⟨i,0,none⟩=some (.func (.func 123) #[] #[.pointer (some ⟨B,0,none⟩)])∧W.cell? ⟨i,1,none⟩=some (.func (.func 124) #[] #[.pointer (some ⟨B,0,none⟩)]):=by
 unfold LB at h
 constructor <;> (unfold World.cell?;rw [h];rfl)
set_option maxHeartbeats 1000000 in
set_option maxRecDepth 100000 in
theorem has_any (m:List UInt8) {w:World} {B:Nat} {t:Tk} {l:List Tk} (h:TQ w B (t :: l)):Calls Tryz.prog 72 #[lv B,.string (mkB m)] w fun e w'=>e=.returned (.bool (hasT m t l).1)∧TQ w' B (hasT m t l).2∧FB B w w':=by
 have H:=hide h
 clear h
 unfold lv
 have L0:=hide (lb_new w B)
 have hf:=hide (fun w' (hb:Below w.heap.size w w')=>first_any (H.out.below hb))
 have ho:=hide (own_any t)
 unfold tkV at hf ho
 obtain ⟨S,hS⟩:∃ S,mkB (ownT t)=S:=⟨_,rfl⟩
 rw [hS] at ho
 by_cases hm:ownT t=m
 ·have e:hasT m t l=(true,l):=by simp [hasT,hm]
  rw [e]
  rw [hm] at hS
  rw [hS]
  clear e hm hS
  have ht:=hide (fun w' (hb:Below w.heap.size w w')=>take_any (H.out.below hb))
  unfold tkV at ht
  go_enter Tryz.func72, Tryz.ntmps72
  go_wp2_with (first|(go_at_call 123;refine (hf.out _ (below_al (Below.refl _ _))).mono ?_;rintro e w1 ⟨rfl,hb1⟩)|(go_at_call 88;refine (ho.out _).mono ?_;rintro e w2 ⟨rfl,hb2⟩;have L2:=((L0.out.below hb1).below hb2).cells.2)|(go_at_call 124;refine (ht.out _ (below_then (below_then (below_al (Below.refl _ _)) hb1) hb2)).mono ?_;rintro e w3 ⟨rfl,hq3,hb3⟩))
  go_ret
  exact ⟨rfl,hq3,(FB.of (below_then (below_then (below_al (Below.refl _ _)) hb1) hb2)).trans hb3⟩
 ·have e:hasT m t l=(false,t :: l):=by simp [hasT,hm]
  rw [e]
  have hne:=tl_ne (fun h:S=mkB m=>hm (mkB_inj (hS.trans h)))
  clear e hm hS
  go_enter Tryz.func72, Tryz.ntmps72
  go_wp2_with (first|(go_at_call 123;refine (hf.out _ (below_al (Below.refl _ _))).mono ?_;rintro e w1 ⟨rfl,hb1⟩)|(go_at_call 88;refine (ho.out _).mono ?_;rintro e w2 ⟨rfl,hb2⟩))
  go_ret
  exact ⟨rfl,H.out.below (below_then (below_then (below_al (Below.refl _ _)) hb1) hb2),FB.of (below_then (below_then (below_al (Below.refl _ _)) hb1) hb2)⟩
set_option maxHeartbeats 1000000 in
set_option maxRecDepth 100000 in
theorem want_any (m:List UInt8) {w:World} {B:Nat} {t:Tk} {l:List Tk} (h:TQ w B (t :: l)):Calls Tryz.prog 89 #[lv B,.string (mkB m)] w fun e w'=>WP B w (wantT m t l) e w':=by
 have H:=hide h
 clear h
 unfold lv
 have ho:=hide (own_any t)
 have ht:=hide (fun w' (hb:Below w.heap.size w w')=>take_any (H.out.below hb))
 unfold tkV at ho ht
 obtain ⟨S,hS⟩:∃ S,mkB (ownT t)=S:=⟨_,rfl⟩
 rw [hS] at ho
 by_cases hm:ownT t=m
 ·have e:wantT m t l=.inr l:=by simp [wantT,hm]
  rw [e]
  rw [hm] at hS
  rw [hS]
  clear e hm hS
  go_enter Tryz.func89, Tryz.ntmps89
  go_wp2_with (first|(go_at_call 88;refine (ho.out _).mono ?_;rintro e w2 ⟨rfl,hb2⟩)|(go_at_call 124;refine (ht.out _ (below_al (Below.refl _ _))).mono ?_;rintro e w3 ⟨rfl,hq3,hb3⟩))
  go_end0
  have hx:=below_then (below_al (o:=.cells #[.int .i64 t.w,.string (mkB t.s),.int .i64 t.p] 110) (Below.refl w3.heap.size w3)) hb2
  exact ⟨((FB.of (below_al (Below.refl _ _))).trans hb3).then hx,rfl,hq3.below hx⟩
 ·have e:wantT m t l=.inl t.p:=by simp [wantT,hm]
  rw [e]
  have hne:=tl_ne (fun h:S=mkB m=>hm (mkB_inj (hS.trans h)))
  clear e hm hS
  have c3:=fun w3:World=>(tok3c w3 t)
  go_enter Tryz.func89, Tryz.ntmps89
  go_wp2_with (first|(go_at_call 124;refine (ht.out _ (below_al (Below.refl _ _))).mono ?_;rintro e w3 ⟨rfl,hq3,hb3⟩)|(go_at_call 88;refine (ho.out _).mono ?_;rintro e w2 ⟨rfl,hb2⟩;have c2:=(hb2.cell (p:=⟨w3.heap.size,2,none⟩) (by simp)).trans (tok3c w3 t)))
  have hx:=below_then (below_al (o:=.cells #[.int .i64 t.w,.string (mkB t.s),.int .i64 t.p] 110) (Below.refl w3.heap.size w3)) hb2
  exact ⟨rfl,((FB.of (below_al (Below.refl _ _))).trans hb3).then hx,rfl⟩
end Lx
end Go.Proofs.YtgicnopppgnjjaaGreatDoor
namespace Go.Proofs.YtgicnopppgnjjaaGreatDoor
namespace Lx
open Go.RowKit
theorem below_drewN (w:World) (n B:Nat):Below B w (w.drewN n):=⟨rfl,rfl,rfl,Nat.le_refl _,fun _ _=>rfl⟩
theorem add_none0 (g q:Nat):((⟨g,0,none⟩:Addr).add q)=⟨g,0 + q,none⟩:=by
 unfold Addr.add
 split
 ·rename_i h;rw [h]
 ·simp
def TS (W:World) (v:Value) (l:List Tk):Prop:=∃ a c,v=.slice a l.length c∧l.length≤c∧c≤maxLen∧(0<l.length→∃ b o,a=some ⟨b,o,none⟩∧b<W.heap.size∧∀ k (h:k<l.length),W.cell? ⟨b,o + k * 3,none⟩=some (.int .i64 l[k].w)∧W.cell? ⟨b,o + k * 3 + 1,none⟩=some (.string (mkB l[k].s))∧W.cell? ⟨b,o + k * 3 + 2,none⟩=some (.int .i64 l[k].p))
theorem TS.of {w W:World} {v:Value} {l:List Tk} (h:TS w v l) (hz:w.heap.size≤W.heap.size) (hb:∀ k,k<w.heap.size→W.heap[k]?=w.heap[k]?):TS W v l:=by
 obtain ⟨a,c,rfl,h1,h2,h3⟩:=h
 refine ⟨a,c,rfl,h1,h2,fun hp=>?_⟩
 obtain ⟨b,o,e,hlt,hc⟩:=h3 hp
 refine ⟨b,o,e,by omega,fun k hk=>?_⟩
 have hq:∀ x,W.cell? ⟨b,x,none⟩=w.cell? ⟨b,x,none⟩:=fun x=>World.cell?_of_block (w:=w) (hb b hlt)
 rw [hq,hq,hq]
 exact hc k hk
theorem TS.below {w W:World} {v:Value} {l:List Tk} (h:TS w v l) (hb:Below w.heap.size w W):TS W v l:=h.of hb.size hb.block
theorem TS.nil (W:World):TS W (.slice none 0 0) []:=⟨none,0,rfl,by simp,by unfold maxLen;omega,fun h=>by simp at h⟩
theorem tcs_at:∀ (l:List Tk) (k:Nat) (h:k<l.length),(tcs l)[k * 3]?=some (.int .i64 l[k].w)∧(tcs l)[k * 3 + 1]?=some (.string (mkB l[k].s))∧(tcs l)[k * 3 + 2]?=some (.int .i64 l[k].p)
 | [],k,h=>by simp at h
 | t :: l,0,h=>by simp [tcs]
 | t :: l,k + 1,h=>by
  have:=tcs_at l k (by simpa using h)
  have e:tcs (t :: l)=[.int .i64 t.w,.string (mkB t.s),.int .i64 t.p]++tcs l:=by simp [tcs]
  rw [e]
  have ap:∀ q,([.int .i64 t.w,.string (mkB t.s),.int .i64 t.p]++tcs l:List Value)[3 + q]?=(tcs l)[q]?:=fun q=>by rw [List.getElem?_append_right (by simp)];simp
  have e1:(k + 1) * 3=3 + k * 3:=by omega
  have e2:(k + 1) * 3 + 1=3 + (k * 3 + 1):=by omega
  have e3:(k + 1) * 3 + 2=3 + (k * 3 + 2):=by omega
  rw [e2,e3,e1,ap,ap,ap]
  simpa using this
theorem OT.ts {W:World} {B:Nat} {v:Value} {l:List Tk} (h:OT W B v l) (hl:l.length≤100000):TS W v l:=by
 have hc:=h
 have hlt:=World.ownsRow.lt h
 rcases h.2 with ⟨rfl,h0⟩|⟨g,cap,cur,rfl,h1,h2,h3,h4,h5⟩
 ·have:l=[]:=List.length_eq_zero_iff.1 h0
  subst this
  exact TS.nil W
 ·refine ⟨_,cap,rfl,h3,by first|exact h4|(unfold maxLen;omega),fun hp=>⟨g,0,rfl,(hlt g rfl).2,fun k hk=>?_⟩⟩
  have hcells:∀ j u,(tcs l)[j]?=some u→W.cell? ((⟨g,0,none⟩:Addr).add j)=some u:=World.ownsRow.cells hc (g:=g) rfl
  obtain ⟨t1,t2,t3⟩:=tcs_at l k hk
  have ad:∀ q,((⟨g,0,none⟩:Addr).add q)=⟨g,0 + q,none⟩:=fun q=>add_none0 g q
  exact ⟨by have:=hcells _ _ t1;rwa [ad] at this,by have:=hcells _ _ t2;rwa [ad] at this,by have:=hcells _ _ t3;rwa [ad] at this⟩
theorem TS.shape {W:World} {v:Value} {l:List Tk} (h:TS W v l):∃ a c,v=.slice a l.length c∧l.length≤c∧c≤maxLen:=by
 obtain ⟨a,c,rfl,h1,h2,_⟩:=h
 exact ⟨a,c,rfl,h1,h2⟩
theorem TS.at {W:World} {a:Option Addr} {n c:Nat} {l:List Tk} (h:TS W (.slice a n c) l) (k:Nat) (hk:k<l.length):∃ b o,a=some ⟨b,o,none⟩∧b<W.heap.size∧W.cell? ⟨b,o + k * 3,none⟩=some (.int .i64 l[k].w)∧W.cell? ⟨b,o + k * 3 + 1,none⟩=some (.string (mkB l[k].s))∧W.cell? ⟨b,o + k * 3 + 2,none⟩=some (.int .i64 l[k].p):=by
 obtain ⟨a',c',e,h1,h2,h3⟩:=h
 cases e
 obtain ⟨b,o,e,hlt,hc⟩:=h3 (by omega)
 exact ⟨b,o,e,hlt,hc k hk⟩
def tot (l:List Tk):Nat:=l.length + (l.map fun t=>t.s.length).sum
theorem kdW_hit {w:Int} {k:Nat} (h1:1≤k) (h5:k<5) (h:((wdK k:Nat):Int)=w):kdW w=k:=by
 have:k=1∨k=2∨k=3∨k=4:=by omega
 rcases this with rfl|rfl|rfl|rfl <;> (subst h;rfl)
theorem kdW_miss {w:Int} (h:∀ i,1≤i→i<5→¬ ((wdK i:Nat):Int)=w):kdW w=0:=by
 have a1:=h 1 (by omega) (by omega)
 have a2:=h 2 (by omega) (by omega)
 have a3:=h 3 (by omega) (by omega)
 have a4:=h 4 (by omega) (by omega)
 simp only [wdK] at a1 a2 a3 a4
 unfold kdW
 (repeat' split) <;> simp_all
set_option maxHeartbeats 1000000 in
theorem kindOf_any (x:Int) (w:World) (g:Gg w):Calls Tryz.prog 106 #[.int .i64 x] w fun e w'=>e=.returned (.int .i64 (kdW x:Nat))∧w'=w:=by
 have wo:=hide g.wo
 clear g
 go_enter Tryz.func106, Tryz.ntmps106
 go_wp2
 go_loop [3] (fun i=>∃ k:Nat,i=.int .i64 k∧1≤k∧k≤5∧Hid (∀ i,1≤i→i<k→¬ ((wdK i:Nat):Int)=x)) (fun i=>5 - (intOf i).toNat)
 case atStart=>exact ⟨1,rfl,by omega,by omega,fun i h1 h2=>by omega⟩
 case round =>
  obtain ⟨k,rfl,h1,h5,H⟩:=hrel
  by_cases hk:k<5
  ·have hki:(k:Int)<5:=by omega
   have hk0:(0:Int)≤(k:Int):=by omega
   have hc:=wo.out k hk
   by_cases he:((wdK k:Nat):Int)=x
   ·have hd:=hide (kdW_hit h1 hk he)
    have e1:(((wdK k:Nat):Int)==x)=true:=by simpa using he
    clear he
    go_wp2
    go_ret
    exact ⟨by rw [hd.out];rfl,rfl⟩
   ·have e1:(((wdK k:Nat):Int)==x)=false:=by simpa using he
    have H2:Hid (∀ i,1≤i→i<k + 1→¬ ((wdK i:Nat):Int)=x):=fun i a b=>by
     by_cases hi:i=k
     ·subst hi;exact he
     ·exact H.out i a (by omega)
    clear he H
    go_wp2
    go_round
    case rel=>exact ⟨k + 1,by go_num,by omega,by omega,H2⟩
    case measure=>simp [intOf];omega
  ·have hki:¬ (k:Int)<5:=by omega
   have hd:Hid (kdW x=0):=kdW_miss fun i a b=>H.out i a (by omega)
   clear H
   go_wp2
   go_ret
   exact ⟨by rw [hd.out];rfl,rfl⟩
set_option maxHeartbeats 2000000 in
set_option maxRecDepth 100000 in
theorem isTok_any (hP:ParseOk) (t:Tk) (w:World) (g:Gg w) (hs:t.s.length≤70000):Calls Tryz.prog 105 #[.agg #[.int .i64 t.w,.string (mkB t.s),.int .i64 t.p]] w fun e w'=>e=.returned (.bool (isT nok t.w t.s))∧Below w.heap.size w w':=by
 obtain ⟨x,l,p⟩:=t
 simp only at hs ⊢
 have g1:Hid (∀ o,Gg (w.alloc o)):=fun o=>g.below (below_al (Below.refl _ _)) g.sz
 obtain ⟨s,hsd⟩:∃ s,mkB l=s:=⟨_,rfl⟩
 have hsb:bl s=l:=by rw [←hsd,bl_mkB]
 have hsz:s.size=l.length:=by rw [←hsd,mkB_size]
 rw [hsd]
 have hko:=hide (fun o=>kindOf_any x (w.alloc o) (g1.out o))
 have hB0:Hid (∀ o,Below w.heap.size w (w.alloc o)):=fun o=>below_al (Below.refl _ _)
 unfold isT
 obtain ⟨k,hk⟩:∃ k,kdW x=k:=⟨_,rfl⟩
 have hk5:k<5:=by rw [←hk];unfold kdW;(repeat' split) <;> omega
 rw [hk] at hko ⊢
 clear hk g hsd
 by_cases h0:k=0
 ·subst h0
  rw [if_pos rfl]
  clear hsb
  go_enter Tryz.func105, Tryz.ntmps105
  go_wp2_with (go_at_call 106;refine (hko.out _).mono ?_;rintro e w1 ⟨rfl,hw1⟩;have hw1s:=hw1.symm;clear hw1;subst hw1s)
  go_ret
  exact ⟨rfl,hB0.out _⟩
 ·rw [if_neg h0]
  have e0:((k:Int)==0)=false:=by simp;omega
  by_cases h3:k=3
  ·subst h3
   rw [if_pos rfl]
   have hva:=hide (fun o=>Ut.valid_any s (w.alloc o) (g1.out o).gu (by omega))
   have hvt:Ut.okT (Ut.bl s)=okT l:=by rw [←hsb];rfl
   rw [hvt] at hva
   obtain ⟨b,hb⟩:∃ b,okT l=b:=⟨_,rfl⟩
   rw [hb] at hva ⊢
   clear hsb hvt hb h0
   go_enter Tryz.func105, Tryz.ntmps105
   go_wp2_with (first|(go_at_call 106;refine (hko.out _).mono ?_;rintro e w1 ⟨rfl,hw1⟩;have hw1s:=hw1.symm;clear hw1;subst hw1s)|(go_at_call 152;refine (hva.out _).mono ?_;rintro e w2 ⟨rfl,hb2⟩;have hb2:=hide (below_then (hB0.out _) hb2)))
   go_ret
   exact ⟨rfl,hb2.out⟩
  ·rw [if_neg h3]
   have e3:((k:Int)==3)=false:=by simp;omega
   by_cases hn:l=[]
   ·rw [if_pos hn]
    have hs0:s=⟨#[]⟩:=by rw [←mkB_bl s,hsb,hn];rfl
    subst hs0
    clear hsb hsz hn
    go_enter Tryz.func105, Tryz.ntmps105
    go_wp2_with (go_at_call 106;refine (hko.out _).mono ?_;rintro e w1 ⟨rfl,hw1⟩;have hw1s:=hw1.symm;clear hw1;subst hw1s)
    go_ret
    exact ⟨rfl,hB0.out _⟩
   ·rw [if_neg hn]
    have hpos:0<s.size:=by rw [hsz];exact List.length_pos_iff.2 hn
    have hne:¬ s.toList=[]:=by rw [bl_toList,hsb];exact hn
    have hneb:s.toList.isEmpty=false:=by rw [bl_toList,hsb];cases l with|nil=>exact absurd rfl hn|cons a t=>rfl
    have hcut:=hide (fun o=>cut_any hP k hk5 s (w.alloc o) (g1.out o) hpos (Or.inr ⟨h3,by omega⟩))
    rw [hsb] at hcut
    obtain ⟨xn,hxn⟩:∃ xn,cutK nok k l=xn:=⟨_,rfl⟩
    rw [hxn] at hcut ⊢
    obtain ⟨y,n⟩:=xn
    simp only [cutE] at hcut ⊢
    have hnl:((n:Int)==(s.size:Int))=(n==l.length):=by rw [hsz];cases h:(n==l.length) <;> simp at h ⊢ <;> omega
    obtain ⟨b,hb⟩:∃ b,(n==l.length)=b:=⟨_,rfl⟩
    rw [hb] at hnl ⊢
    clear hsb hsz hn hxn hb h0 h3 hpos
    go_enter Tryz.func105, Tryz.ntmps105
    go_wp2_with (first|(go_at_call 106;refine (hko.out _).mono ?_;rintro e w1 ⟨rfl,hw1⟩;have hw1s:=hw1.symm;clear hw1;subst hw1s)|(go_at_call 122;refine (hcut.out _).mono ?_;rintro e w2 ⟨rfl,hb2⟩;have hc2:w2.cell? ⟨w.heap.size,1,none⟩=some (.string s):=(World.cell?_of_block (hb2.block w.heap.size (by simp))).trans (by simp);have hb2:=hide (below_then (hB0.out _) hb2)))
    go_ret
    exact ⟨rfl,hb2.out⟩
set_option maxHeartbeats 1000000 in
set_option maxRecDepth 100000 in
theorem spell_any (t:Tk) (w:World) (hs:t.s.length≤5000):Calls Tryz.prog 107 #[.agg #[.int .i64 t.w,.string (mkB t.s),.int .i64 t.p]] w fun e w'=>e=.returned (.string (mkB (splT t)))∧Below w.heap.size w w':=by
 obtain ⟨x,l,p⟩:=t
 simp only at hs ⊢
 unfold splT spl
 simp only
 obtain ⟨s,hsd⟩:∃ s,mkB l=s:=⟨_,rfl⟩
 have hsb:bl s=l:=by rw [←hsd,bl_mkB]
 have hsz:s.size=l.length:=by rw [←hsd,mkB_size]
 have hB0:Hid (∀ o,Below w.heap.size w (w.alloc o)):=fun o=>below_al (Below.refl _ _)
 have hq:=hide (fun o=>quote_any s (w.alloc o) (by omega))
 rw [hsb] at hq
 obtain ⟨Z,hZ⟩:∃ Z,mkB (quo l)=Z:=⟨_,rfl⟩
 rw [hZ] at hq
 rw [hsd]
 by_cases h2:x=2
 ·subst h2
  rw [if_pos rfl,hZ]
  clear hsd hsb hsz hZ
  go_enter Tryz.func107, Tryz.ntmps107
  go_wp2_with (go_at_call 153;refine (hq.out _).mono ?_;rintro e w2 ⟨rfl,hb2⟩;have hb2:=hide (below_then (hB0.out _) hb2))
  go_ret
  exact ⟨rfl,hb2.out⟩
 ·rw [if_neg h2,hsd]
  have e2:(x==2)=false:=by simpa using h2
  clear hsd hsb hsz hZ h2
  go_enter Tryz.func107, Tryz.ntmps107
  go_wp2
  go_ret
  exact ⟨rfl,hB0.out _⟩
section
variable {w : World} {ops : Array Oper} {rest : List Oper} {o : Oper} {a : Act} {Q : Exit → Act → World → Prop}
theorem app_bytes2 (hgd:o.guard=none) (s x:Operand) (ho:o.op=.call {callee:=.builtin .append,args:=#[s,x],argTypes:=#[124,124]})
  (B:Nat) (v:Value) (l:List UInt8) (hs:a.eval s=v) (hown:Own w B v l) (ad:Addr) (m c:Nat) (news:List UInt8) (hx:a.eval x=.slice (some ad) m c) (hm:news.length=m)
  (hnews:∀ j u,(bcs news)[j]?=some u→w.cell? (ad.add j)=some u) (hl:l.length + m≤100000) (hB:B≤w.heap.size)
  (h:∀ v' w',Hid (Own w' B v' (l++news))→Hid (w.grownBy w' v.ownBlock)→wpList Tryz.prog ops Q rest (a.put o.dst v') w'):wpList Tryz.prog ops Q (o :: rest) a w:=by
 obtain ⟨i0,hi,hz0,hz1,hz2⟩:=info_parts info5
 refine wpList_append_own w hgd s x 124 ho B 5 i0 (.int .u8 0) 1 1 Tryz.underlying124 hi hz0 hz1 hz2 rfl (by decide) v l.length (bcs l) hs hown ad m c (bcs news) hx (by rw [bcs_length,hm];simp) hnews ?_ ?_ ?_ hB ?_
 ·intro u hu
  simp only [bcs,List.mem_map] at hu
  obtain ⟨c,_,rfl⟩:=hu
  rfl
 ·unfold maxLen;omega
 ·omega
 ·intro v' w' h1 h2 _
  refine h v' w' ?_ h2
  show Own _ _ _ _
  unfold Own
  rw [bcs_append,List.length_append,hm];exact h1
end
def lon (t:Tk):Bool:=decide (lgK (kdW t.w)<t.s.length)
def prR (l:List Tk):Nat×List UInt8:=if ¬ (∀ t∈l,isT nok t.w t.s=true) then (1,[]) else if 1024<l.length∨(∃ t∈l,lon t=true)∨4096<(jn (l.map splT)).length then (2,[]) else (0,jn (l.map splT))
def prE (x:Nat×List UInt8):Ending:=.returned (.tuple #[.string (mkB x.2),.int .i64 (x.1:Nat)])
theorem mem_sum:∀ {l:List Nat} {a:Nat},a∈l→a≤l.sum
 | b :: l,a,h=>by
  rw [List.sum_cons]
  rcases List.mem_cons.1 h with rfl|h
  ·omega
  ·have:=mem_sum h;omega
theorem jn_snoc:∀ (l:List (List UInt8)) (a:List UInt8),jn (l++[a])=(if l=[] then a else jn l++32 :: a)
 | [],a=>rfl
 | [b],a=>by simp [jn]
 | b :: c :: l,a=>by
  have:=jn_snoc (c :: l) a
  rw [if_neg (by simp)] at this ⊢
  simp only [List.cons_append] at this ⊢
  simp only [jn]
  rw [this]
  simp
theorem jn_take (l:List (List UInt8)):∀ k,(jn (l.take k)).length≤(jn l).length:=by
 intro k
 induction l generalizing k with
 | nil=>simp
 | cons a l ih =>
  cases k with
  | zero=>simp [jn]
  | succ k =>
   rw [List.take_succ_cons]
   cases l with
   | nil=>simp
   | cons b l =>
    cases k with
    | zero=>simp [jn]
    | succ k =>
     have:=ih (k + 1)
     rw [List.take_succ_cons] at this ⊢
     simp only [jn,List.length_append,List.length_cons]
     omega
set_option maxHeartbeats 4000000 in
set_option maxRecDepth 100000 in
theorem print_any (hP:ParseOk) (u:Value) (l:List Tk) (w:World) (hu:TS w u l) (g:Gg w) (hz:tot l≤70000):Calls Tryz.prog 48 #[u] w fun e w'=>e=prE (prR l)∧Below w.heap.size w w':=by
 obtain ⟨au,cu,rfl,hu1,hu2⟩:=hu.shape
 have hu:=hide hu
 have g0:=hide g
 have hP0:=hide hP
 have ml:maxLen=9223372036854775807:=rfl
 have hzt:Hid (∀ t∈l,t.s.length≤70000):=fun t ht=>by
  have:t.s.length≤(l.map fun t=>t.s.length).sum:=mem_sum (List.mem_map.2 ⟨t,ht,rfl⟩)
  unfold tot at hz
  omega
 have hl7:l.length≤70000:=by unfold tot at hz;omega
 obtain ⟨U,hU⟩:∃ U,prR l=U:=⟨_,rfl⟩
 rw [hU]
 have HU:=hide hU
 clear hU g hP hz
 go_enter Tryz.func48, Tryz.ntmps48
 go_wp2
 go_loopw [11] (fun i W=>∃ k:Nat,i=.int .i64 k∧k≤l.length∧Hid ((∀ j (h:j<l.length),j<k→isT nok l[j].w l[j].s=true)∧Below w.heap.size w W)) (fun i _=>l.length - (intOf i).toNat)
 case atStart=>exact ⟨0,rfl,Nat.zero_le _,fun j h1 h2=>by omega,Below.refl _ _⟩
 case round =>
  obtain ⟨k,rfl,hk,H⟩:=hrel
  by_cases hkl:k<l.length
  ·have hki:(k:Int)<(l.length:Int):=by omega
   obtain ⟨hA,hB⟩:=H.out
   have A1:=hide hA
   have B1:=hide hB
   have gr:=hide (g0.out.below hB g0.out.sz)
   obtain ⟨b,o,rfl,hb,p1,p2,p3⟩:=(hu.out.below hB).at k hkl
   have hti:Hid (∀ W,Below wr.heap.size wr W→Calls Tryz.prog 105 #[.agg #[.int .i64 l[k].w,.string (mkB l[k].s),.int .i64 l[k].p]] W fun e w'=>e=.returned (.bool (isT nok l[k].w l[k].s))∧Below W.heap.size W w'):=(fun W hb=>isTok_any hP0.out l[k] W (gr.out.below hb gr.out.sz) (hzt.out _ (List.getElem_mem _)))
   clear H hA hB
   obtain ⟨x,hx⟩:∃ x,l[k].w=x:=⟨_,rfl⟩
   obtain ⟨y,hy⟩:∃ y,mkB l[k].s=y:=⟨_,rfl⟩
   obtain ⟨z,hz⟩:∃ z,l[k].p=z:=⟨_,rfl⟩
   obtain ⟨q,hq⟩:∃ q,isT nok l[k].w l[k].s=q:=⟨_,rfl⟩
   rw [hq] at hti
   rw [hx] at p1 hti
   rw [hy] at p2 hti
   rw [hz] at p3 hti
   have hq:=hide hq
   clear hx hy hz
   rename_i hqq
   clear hqq
   go_wp2_with fail
   refine (hti.out _ (below_al (Below.refl _ _))).mono ?_
   rintro e w1 ⟨rfl,hb1⟩
   have B2:=hide (below_then (below_al B1.out) hb1)
   clear hb1
   cases q
   ·have U2:Hid (U=(1,[])):=by
     show _=_
     rw [←HU.out]
     unfold prR
     rw [if_pos (fun h=>by have:=h _ (List.getElem_mem hkl);rw [hq.out] at this;cases this)]
    go_wp2
    go_ret2
    exact ⟨by rw [U2.out];rfl,B2.out⟩
   ·have A2:Hid (∀ j (h:j<l.length),j<k + 1→isT nok l[j].w l[j].s=true):=fun j h1 h2=>by
     by_cases hjk:j=k
     ·subst hjk;exact hq.out
     ·exact A1.out j h1 (by omega)
    clear A1 hq
    go_wp2
    go_roundw
    case rel=>exact ⟨k + 1,by go_num,by omega,A2.out,B2.out⟩
    case measure=>simp [intOf];omega
  ·have hki:¬ (k:Int)<(l.length:Int):=by omega
   have hall:Hid (∀ t∈l,isT nok t.w t.s=true):=fun t ht=>by
    obtain ⟨j,hj,rfl⟩:=List.mem_iff_getElem.1 ht
    exact H.out.1 j hj (by omega)
   have B0:=hide H.out.2
   have U1:Hid (U=if 1024<l.length∨(∃ t∈l,lon t=true)∨4096<(jn (l.map splT)).length then (2,[]) else (0,jn (l.map splT))):=by
    show _=_
    rw [←HU.out]
    unfold prR
    rw [if_neg (fun h=>h hall.out)]
   clear H HU
   by_cases hbig:1024<l.length
   ·have ib:(1024:Int)<(l.length:Int):=by omega
    have U2:Hid (U=(2,[])):=by show _=_;rw [U1.out,if_pos (Or.inl hbig)]
    go_wp2
    go_ret2
    exact ⟨by rw [U2.out];rfl,B0.out⟩
   ·have ib:¬ (1024:Int)<(l.length:Int):=by omega
    go_wp2
    clear hkl hki hk
    go_loopw [6,24] (fun v i W=>∃ k:Nat,i=.int .i64 k∧k≤l.length∧Hid (Own W w.heap.size v (jn ((l.take k).map splT))∧(∀ j (h:j<l.length),j<k→lon l[j]=false)∧(jn ((l.take k).map splT)).length≤4096∧Below w.heap.size w W)) (fun _ i _=>l.length - (intOf i).toNat)
    case atStart=>exact ⟨0,rfl,Nat.zero_le _,own_nil _ _,fun j h1 h2=>by omega,by simp [jn],B0.out⟩
    case round =>
     obtain ⟨k,rfl,hk,H⟩:=hrel
     obtain ⟨hO,hA,hL,hB⟩:=H.out
     have O1:=hide hO
     have A1:=hide hA
     have L1:=hide hL
     have B1:=hide hB
     clear H hO hA hL hB
     by_cases hkl:k<l.length
     ·have hki:(k:Int)<(l.length:Int):=by omega
      have gr:=hide (g0.out.below B1.out g0.out.sz)
      obtain ⟨b,o,rfl,hb,p1,p2,p3⟩:=(hu.out.below B1.out).at k hkl
      obtain ⟨T,hT⟩:∃ T,l[k]=T:=⟨_,rfl⟩
      have hTm:Hid (T∈l):=by rw [←hT];exact List.getElem_mem _
      have hTk:=hide hT
      have hjt:Hid ((l.take (k + 1)).map splT=(l.take k).map splT++[splT T]):=by
       show _=_
       rw [List.take_succ_eq_append_getElem hkl,List.map_append,hT]
       rfl
      have hTis:Hid (isT nok T.w T.s=true):=hall.out T hTm.out
      rw [hT] at p1 p2 p3
      obtain ⟨x,ys,z⟩:=T
      simp only at p1 p2 p3
      have hys:Hid ((mkB ys).size=ys.length):=mkB_size ys
      have hko:Hid (∀ o n,Calls Tryz.prog 106 #[.int .i64 x] ((wr.alloc o).drewN n) fun e w'=>e=.returned (.int .i64 (kdW x:Nat))∧w'=(wr.alloc o).drewN n):=fun o n=>kindOf_any x _ (gr.out.below (below_then (below_al (Below.refl _ _)) (below_drewN _ _ _)) gr.out.sz)
      have hk5:kdW x<5:=by unfold kdW;(repeat' split) <;> omega
      have hlo:∀ o,(wr.alloc o).cell? ⟨1,kdW x,none⟩=some (.int .i64 (lgK (kdW x):Nat)):=fun o=>(gr.out.below (below_al (Below.refl _ _)) gr.out.sz).lo _ hk5
      have hlon:Hid (lon ⟨x,ys,z⟩=decide (lgK (kdW x)<ys.length)):=rfl
      have hlg:lgK (kdW x)≤4096:=by unfold lgK;(repeat' split) <;> omega
      have hsp:Hid (ys.length≤4096→∀ W,Calls Tryz.prog 107 #[.agg #[.int .i64 x,.string (mkB ys),.int .i64 z]] W fun e w'=>e=.returned (.string (mkB (splT ⟨x,ys,z⟩)))∧Below W.heap.size W w'):=fun h W=>spell_any ⟨x,ys,z⟩ W (by simp only;omega)
      obtain ⟨q,hq⟩:∃ q,kdW x=q:=⟨_,rfl⟩
      obtain ⟨m,hm⟩:∃ m,lgK q=m:=⟨_,rfl⟩
      rw [hq] at hko hk5 hlo hlon hlg
      rw [hm] at hlo hlon hlg
      have hq0:(0:Int)≤(q:Int):=by omega
      have hq5:(q:Int)<5:=by omega
      obtain ⟨y,hy⟩:∃ y,mkB ys=y:=⟨_,rfl⟩
      rw [hy] at p2 hys hsp
      have hspl:Hid ((splT ⟨x,ys,z⟩).length≤6 * ys.length + 2):=by
       show _≤_
       unfold splT spl
       simp only
       split
       ·have:=esc_len ys;simp only [quo,List.length_cons,List.length_append,List.length_nil];omega
       ·omega
      clear hT hm hq hy
      by_cases hlg2:m<ys.length
      ·have U2:Hid (U=(2,[])):=by
        show _=_
        rw [U1.out,if_pos (Or.inr (Or.inl ⟨_,hTm.out,by rw [hlon.out];exact decide_eq_true hlg2⟩))]
       have i1:((m:Nat):Int)<((y.size:Nat):Int):=by rw [hys.out];omega
       clear hlg2 hlg hk5 hspl hsp
       go_wp2_with fail
       go_quiet (first|(go_at_call 106;exact Calls.quiet_of_same (hko.out _ _)))
       go_wp2
       go_ret2
       exact ⟨by rw [U2.out];rfl,below_then (below_al B1.out) (below_drewN _ _ _)⟩
      ·have i1:¬ ((m:Nat):Int)<((y.size:Nat):Int):=by rw [hys.out];omega
       have hsp2:=hide (hsp.out (by omega))
       have A2:Hid (∀ j (h:j<l.length),j<k + 1→lon l[j]=false):=fun j h1 h2=>by
        by_cases hjk:j=k
        ·subst hjk;rw [hTk.out,hlon.out];exact decide_eq_false hlg2
        ·exact A1.out j h1 (by omega)
       have hS:Hid (mkB (splT ⟨x,ys,z⟩)=mkB (splT ⟨x,ys,z⟩)):=rfl
       have hyl:Hid (ys.length≤4096):=by show _≤_;omega
       obtain ⟨S,hSd⟩:∃ S,splT ⟨x,ys,z⟩=S:=⟨_,rfl⟩
       rw [hSd] at hjt hspl hsp2
       have hSb:=hide (bl_mkB S)
       have hSz:Hid ((mkB S).size=S.length):=mkB_size S
       obtain ⟨Sb,hSbd⟩:∃ Sb,mkB S=Sb:=⟨_,rfl⟩
       rw [hSbd] at hSb hSz hsp2
       obtain ⟨J,hJ⟩:∃ J,jn ((l.take k).map splT)=J:=⟨_,rfl⟩
       rw [hJ] at O1 L1
       have hJn:Hid (jn ((l.take (k + 1)).map splT)=if k=0 then S else J++32 :: S):=by
        show _=_
        rw [hjt.out,jn_snoc,hJ]
        by_cases hk0:k=0
        ·subst hk0;simp
        ·rw [if_neg hk0,if_neg]
         intro e
         have:=congrArg List.length e
         rw [List.length_map,List.length_take,List.length_nil] at this
         omega
       have hJe0:Hid (k=0→J=[]):=fun e=>by rw [←hJ,e];rfl
       have i1n:¬ m<y.size:=by rw [hys.out];exact hlg2
       have hJle:Hid ((jn ((l.take (k + 1)).map splT)).length≤(jn (l.map splT)).length):=by
        show _≤_
        rw [List.map_take]
        exact jn_take _ _
       obtain ⟨J2,hJ2⟩:∃ J2,jn ((l.take (k + 1)).map splT)=J2:=⟨_,rfl⟩
       rw [hJ2] at hJn hJle
       have hJ2:=hide hJ2
       clear hlg2 hlg hk5 A1 hsp hS hSd hSbd hjt hJ
       rename_i hJ2q
       clear hJ2q
       have hk0':k=0∨0<k:=by omega
       rcases hk0' with hk0|hk0
       ·have ik:¬ (0:Int)<(k:Int):=by omega
        have hJ0:Hid (J2=S):=by have:=hJn.out;rw [if_pos hk0] at this;exact this
        have hJe:Hid (J=[]):=hJe0.out hk0
        clear hJn hk0 hJe0
        go_wp2_with fail
        go_quiet (first|(go_at_call 106;exact Calls.quiet_of_same (hko.out _ _)))
        have BW:Hid (Below wr.heap.size wr ((wr.alloc (Obj.cells #[Value.int IntKind.i64 x,Value.string y,Value.int IntKind.i64 z] 110)).drewN nq)):=below_then (below_al (Below.refl _ _)) (below_drewN _ _ _)
        go_wp2_with (first|(go_at_call 107;refine (hsp2.out _).mono ?_;rintro e w2 ⟨rfl,hb2⟩;have B2':=hide (below_then BW.out hb2);clear hb2)|(at_builtin;refine Sto.out ?_))
        refine Sto.mk ?_
        have O2:=hide (own_keep O1.out B2'.out)
        have B2:=hide (below_then B1.out B2'.out)
        refine app_str rfl (.tmp 43) (.tmp 45) rfl w.heap.size u6 J rfl O2.out Sb rfl (by have:=L1.out;have:=hSz.out;have:=hspl.out;have:=hyl.out;omega) B2.out.size ?_
        intro v3 w3 ho3 hb3 hz3
        have O3:Hid (Own w3 w.heap.size v3 J2):=by have:=ho3.out;rw [hSb.out,hJe.out,List.nil_append,←hJ0.out] at this;exact this
        have B3:Hid (Below w.heap.size w w3):=B2.out.trans hb3.out
        obtain ⟨a3,c3,rfl⟩:=own_shape O3.out
        clear ho3 hb3 hz3 hlo
        by_cases h4096:4096<J2.length
        ·have j4:(4096:Int)<(J2.length:Int):=by omega
         have U2:Hid (U=(2,[])):=by show _=_;rw [U1.out,if_pos (Or.inr (Or.inr (by have:=hJle.out;omega)))]
         go_wp2
         go_ret2
         exact ⟨by rw [U2.out];rfl,B3.out⟩
        ·have j4:¬ (4096:Int)<(J2.length:Int):=by omega
         go_wp2
         go_roundw
         case rel=>exact ⟨k + 1,by go_num,by omega,by rw [hJ2.out];exact O3.out,A2.out,by rw [hJ2.out];omega,B3.out⟩
         case measure=>simp [intOf];omega
       ·have ik:(0:Int)<(k:Int):=by omega
        have hJ0:Hid (J2=J++32 :: S):=by have:=hJn.out;rw [if_neg (by omega)] at this;exact this
        clear hJn hk0 hJe0
        go_wp2_with fail
        go_quiet (first|(go_at_call 106;exact Calls.quiet_of_same (hko.out _ _)))
        have BW:Hid (Below wr.heap.size wr ((wr.alloc (Obj.cells #[Value.int IntKind.i64 x,Value.string y,Value.int IntKind.i64 z] 110)).drewN nq)):=below_then (below_al (Below.refl _ _)) (below_drewN _ _ _)
        obtain ⟨W1,hW1⟩:∃ W1,W1=((wr.alloc (Obj.cells #[Value.int IntKind.i64 x,Value.string y,Value.int IntKind.i64 z] 110)).drewN nq):=⟨_,rfl⟩
        have c0:Hid (W1.heap[wr.heap.size]?=some (Obj.cells #[Value.int IntKind.i64 x,Value.string y,Value.int IntKind.i64 z] 110)):=by
         show _=_
         rw [hW1]
         exact Array.getElem?_push_size
        have z1:Hid (W1.heap.size=wr.heap.size + 1):=by show _=_;rw [hW1];simp
        rw [←hW1] at BW ⊢
        clear hW1
        have hn:=hide (news_one W1 32 5)
        have OW:=hide (own_keep O1.out BW.out)
        have hll:=hide (World.ownsRow.lt O1.out)
        go_wp2_with (at_builtin;refine Sto.out ?_)
        refine Sto.mk ?_
        refine app_bytes2 rfl (.tmp 40) (.tmp 41) rfl w.heap.size u6 J rfl (OW.out.alloc _) ⟨W1.heap.size,0,none⟩ 1 1 [32] rfl rfl hn.out (by have:=L1.out;omega) (by have:=B1.out.size;have:=z1.out;simp;omega) ?_
        intro v2 w2 ho2 hg2
        have cB:Hid (w2.heap[wr.heap.size]?=some (Obj.cells #[Value.int IntKind.i64 x,Value.string y,Value.int IntKind.i64 z] 110)):=by
         show _=_
         rw [hg2.out.block wr.heap.size (by have:=z1.out;simp;omega) (fun q=>by have:=(hll.out _ q.symm).2;omega),Below.heap_alloc _ _ _ (by have:=z1.out;omega)]
         exact c0.out
        have d0:w2.cell? ⟨wr.heap.size,0,none⟩=some (.int .i64 x):=by simp [World.cell?,cB.out]
        have d1:w2.cell? ⟨wr.heap.size,1,none⟩=some (.string y):=by simp [World.cell?,cB.out]
        have d2:w2.cell? ⟨wr.heap.size,2,none⟩=some (.int .i64 z):=by simp [World.cell?,cB.out]
        have B2:Hid (Below w.heap.size w w2):=(below_al (below_then B1.out BW.out)).grown hg2.out (by have:=B1.out.size;have:=z1.out;simp;omega) (fun q hq=>(hll.out q hq).1)
        have O2:Hid (Own w2 w.heap.size v2 (J++[32])):=ho2.out
        clear ho2 hg2 hn OW hlo
        go_wp2_with (first|(go_at_call 107;refine (hsp2.out _).mono ?_;rintro e w4 ⟨rfl,hb4⟩;have B4':=hide hb4;clear hb4)|(at_builtin;refine Sto.out ?_))
        refine Sto.mk ?_
        have O4:=hide (own_keep O2.out B4'.out)
        have B4:=hide (below_then B2.out B4'.out)
        refine app_str rfl (.tmp 43) (.tmp 45) rfl w.heap.size v2 (J++[32]) rfl O4.out Sb rfl (by have:=L1.out;have:=hSz.out;have:=hspl.out;have:=hyl.out;simp;omega) B4.out.size ?_
        intro v3 w3 ho3 hb3 hz3
        have O3:Hid (Own w3 w.heap.size v3 J2):=by have:=ho3.out;rw [hSb.out,List.append_assoc,List.singleton_append,←hJ0.out] at this;exact this
        have B3:Hid (Below w.heap.size w w3):=B4.out.trans hb3.out
        obtain ⟨a3,c3,rfl⟩:=own_shape O3.out
        clear ho3 hb3 hz3 d0 d1 d2
        by_cases h4096:4096<J2.length
        ·have j4:(4096:Int)<(J2.length:Int):=by omega
         have U2:Hid (U=(2,[])):=by show _=_;rw [U1.out,if_pos (Or.inr (Or.inr (by have:=hJle.out;omega)))]
         go_wp2
         go_ret2
         exact ⟨by rw [U2.out];rfl,B3.out⟩
        ·have j4:¬ (4096:Int)<(J2.length:Int):=by omega
         go_wp2
         go_roundw
         case rel=>exact ⟨k + 1,by go_num,by omega,by rw [hJ2.out];exact O3.out,A2.out,by rw [hJ2.out];omega,B3.out⟩
         case measure=>simp [intOf];omega
     ·have hki:¬ (k:Int)<(l.length:Int):=by omega
      have hcv:=own_conv O1.out
      obtain ⟨J,hJ⟩:∃ J,jn ((l.take k).map splT)=J:=⟨_,rfl⟩
      rw [hJ] at hcv
      have htk:l.take k=l:=List.take_of_length_le (by omega)
      have U2:Hid (U=(0,J)):=by
       show _=_
       rw [U1.out,←hJ,htk,if_neg]
       intro h
       rcases h with h|⟨t,ht,h⟩|h
       ·omega
       ·obtain ⟨j,hj,rfl⟩:=List.mem_iff_getElem.1 ht
        have:=A1.out j hj (by omega)
        rw [h] at this;cases this
       ·have:=L1.out
        rw [htk] at this
        omega
      clear htk hJ
      go_wp2
      go_ret2
      exact ⟨by rw [U2.out];rfl,B1.out⟩
end Lx
end Go.Proofs.YtgicnopppgnjjaaGreatDoor
