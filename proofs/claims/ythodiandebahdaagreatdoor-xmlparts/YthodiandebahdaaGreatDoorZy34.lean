/- Merged by program: BlKeep, DzBound. -/
import Derived.Test.YthodiandebahdaaGreatDoorZy33
namespace Go.Proofs.YthodiandebahdaaGreatDoor
open Go.RowKit
set_option linter.unusedSimpArgs false
set_option linter.unusedVariables false
set_option maxHeartbeats 8000000
structure RB (W:World) (v:Value) (l:List UInt8):Prop where
 shape:∃ a c,v=.slice a l.length c
 len:l.length≤281474976710656
 rd:0<l.length→∃ b o c,v=.slice (some ⟨b,o,none⟩) l.length c∧b<W.heap.size∧∀ j (h:j<l.length),W.cell? ⟨b,o + j,none⟩=some (.int .u8 l[j].toNat)
theorem RB.below {W W1:World} {v:Value} {l:List UInt8} (h:RB W v l) (hb:Below W.heap.size W W1):RB W1 v l:=by
 refine ⟨h.shape,h.len,fun hl=>?_⟩
 obtain ⟨b,o,c,h1,h2,h3⟩:=h.rd hl
 exact ⟨b,o,c,h1,Nat.lt_of_lt_of_le h2 hb.size,fun j hj=>by rw [←h3 j hj];exact World.cell?_of_block (w:=W) (hb.block b h2)⟩
def BQ (e:Ending):Prop:=∃ q:Bool,e=.returned (.bool q)
set_option maxRecDepth 20000 in
theorem nests_any (v:Value) (l:List UInt8) (w:World) (h:RB w v l):Calls Tryz.prog 14 #[v] w fun e w'=>BQ e∧∃ m,w'=w.drewN m:=by
 have ml:maxLen=9223372036854775807:=rfl
 obtain ⟨va,vc,rfl⟩:=h.shape
 have hl:=h.len
 have H:=hide h
 clear h
 go_enter Tryz.func14, Tryz.ntmps14
 go_wp2
 go_loop [3,4] (fun n i=>∃ k m:Nat,k≤l.length∧m≤k∧i=.int .i64 k∧n=.int .i64 m) (fun n i=>l.length - (intOf i).toNat)
 case atStart=>exact ⟨0,0,by omega,by omega,rfl,rfl⟩
 case round =>
  obtain ⟨k,m,hk,hm,rfl,rfl⟩:=hrel
  by_cases hlt:k<l.length
  ·obtain ⟨b,o,c,s1,_,s2⟩:=H.out.rd (by omega)
   cases s1
   have hc:=s2 k hlt
   have hlt':(k:Int)<l.length:=by omega
   have hw1:IntKind.i64.wrap ((k:Int) + 1)=(k:Int) + 1:=by rw [IntKind.wrap_i64] <;> omega
   have hw2:IntKind.i64.wrap ((m:Int) + 1)=(m:Int) + 1:=by rw [IntKind.wrap_i64] <;> omega
   have hcb:=l[k].toNat_lt
   obtain ⟨ch,hch⟩:∃ ch:Nat,l[k].toNat=ch:=⟨_,rfl⟩
   rw [hch] at hc hcb
   clear hch s2
   have key1:∀ q1 q2 q3 q4 q5:Bool,((ch:Int)==91)=q1→((ch:Int)==123)=q2→((ch:Int)==60)=q3→decide ((128:Int)≤(ch:Int))=q4→decide ((ch:Int)<224)=q5→True:=fun _ _ _ _ _ _ _ _ _ _=>trivial
   clear key1
   cases q1:((ch:Int)==91) with
   | true =>
    go_wp2
    exact ⟨⟨k + 1,m + 1,by omega,by omega,by go_num,by go_num⟩,by simp [intOf];omega⟩
   | false =>
    cases q2:((ch:Int)==123) with
    | true =>
     go_wp2
     exact ⟨⟨k + 1,m + 1,by omega,by omega,by go_num,by go_num⟩,by simp [intOf];omega⟩
    | false =>
     cases q3:((ch:Int)==60) with
     | true =>
      go_wp2
      exact ⟨⟨k + 1,m + 1,by omega,by omega,by go_num,by go_num⟩,by simp [intOf];omega⟩
     | false =>
      cases q4:decide ((128:Int)≤(ch:Int)) with
      | false =>
       go_wp2
       exact ⟨⟨k + 1,m,by omega,by omega,by go_num,rfl⟩,by simp [intOf];omega⟩
      | true =>
       cases q5:decide ((ch:Int)<224) with
       | true =>
        go_wp2
        exact ⟨⟨k + 1,m + 1,by omega,by omega,by go_num,by go_num⟩,by simp [intOf];omega⟩
       | false =>
        go_wp2
        exact ⟨⟨k + 1,m,by omega,by omega,by go_num,rfl⟩,by simp [intOf];omega⟩
  ·have hge:decide ((k:Int)<(l.length:Int))=false:=by simp;omega
   go_wp2
   go_ret
   exact ⟨⟨_,rfl⟩,0,rfl⟩
def cutF (zs:List Int) (i at_ n:Nat):Nat:=match zs[i]? with
 | none=>n
 | some z=>if 0≤z∧z≤(n:Int) - at_ then at_ + z.toNat else n
structure Tz (t:Tl):Prop where
 told:∀ e∈t.told,EvZ e
 len:t.told.length≤t.n
structure Iz (st:Xs):Prop where
 held:st.held.length≤8192
 t:Tz st.t
theorem tellT_z {E0:Int} {t x:Tl} {e:Hd} (h:Tz t) (hz:EvZ e) (k:tellT E0 t e=.inr x):Tz x:=by
 unfold tellT at k
 split at k
 ·cases k
 ·split at k
  ·split at k
   ·cases k
   ·cases k;exact ⟨h.told,Nat.le_succ_of_le h.len⟩
  ·cases k
   cases hp:t.passed with
   | true=>simp only [if_true];exact ⟨h.told,Nat.le_succ_of_le h.len⟩
   | false =>
    refine ⟨fun e' he'=>?_,?_⟩
    ·rcases List.mem_append.1 he' with q|q
     ·exact h.told e' q
     ·rw [List.mem_singleton.1 q];exact hz
    ·show (t.told++[e]).length≤t.n + 1;rw [List.length_append,List.length_singleton];exact Nat.succ_le_succ h.len
theorem passT_z {t x:Tl} (h:Tz t) (k:passT t=.inr x):Tz x:=by
 unfold passT at k
 split at k
 ·cases k
 ·cases k;exact ⟨h.told,h.len⟩
theorem countT_z {t x:Tl} (h:Tz t) (k:countT t=.inr x):Tz x:=by
 unfold countT at k
 split at k
 ·exact passT_z (t:={t with total:=t.total + 1}) ⟨h.told,h.len⟩ k
 ·cases k;exact ⟨h.told,h.len⟩
theorem zk (k:Int) (s:ByteArray) (h:s.size≤100000):EvZ {zr k with text:=s}:=⟨by show s.size≤_;omega,by show (ByteArray.size ⟨#[]⟩)≤_;decide,rfl⟩
theorem tellN_z {E0:Int} {t x:Tl} {s:ByteArray} (h:Tz t) (k:tellN E0 t s=.inr x):Tz x:=by
 unfold tellN at k
 split at k
 ·refine tellT_z h ⟨by show (ByteArray.size ⟨#[]⟩)≤_;decide,?_,rfl⟩ k
  have:=parseF_dig s
  show (parseF (bl s)).2.1.size≤_
  omega
 ·split at k
  ·obtain ⟨y,hy,k⟩:=bnd_inr k
   exact tellT_z (passT_z h hy) ⟨by decide,by decide,rfl⟩ k
  ·cases k
theorem elemS_z {st x:Xs} {e:Hd} (h:Iz st) (hz:EvZ e) (k:elemS st e=.inr x):Iz x:=by
 obtain ⟨y,hy,k⟩:=bnd_inr k
 cases k
 exact ⟨h.held,tellT_z h.t hz hy⟩
theorem beginS_z {st x:Xs} {e:Hd} (h:Iz st) (hz:EvZ e) (k:beginS st e=.inr x):Iz x:=by
 obtain ⟨y,hy,k⟩:=bnd_inr k
 cases k
 exact ⟨h.held,tellT_z h.t hz hy⟩
theorem row0_z {st:Xs} (h:Iz st):Iz (row0 st):=⟨Nat.zero_le _,h.t⟩
theorem hx2_le:∀ (l r:List UInt8),hx2 l=some r→r.length≤l.length
 | [],r,h=>by cases h;exact Nat.le_refl _
 | [_],r,h=>by cases h
 | a :: b :: l,r,h=>by
  unfold hx2 at h
  split at h
  ·rename_i x y t h1 h2 h3
   cases h
   have:=hx2_le l t h3
   simp only [List.length_cons]
   omega
  ·cases h
theorem mkB_z (l:List UInt8) (h:l.length≤8192):(mkB l).size≤100000:=by
 show l.toArray.size≤_
 rw [List.size_toArray];omega
theorem endRowS_z {st x:Xs} {r:Int} (h:Iz st) (k:endRowS st r=.inr x):Iz x:=by
 unfold endRowS at k
 split at k
 ·cases k
 split at k
 ·obtain ⟨y,hy,k⟩:=bnd_inr k
  cases k
  exact ⟨Nat.zero_le _,tellN_z h.t hy⟩
 split at k
 ·unfold floatS at k
  split at k
  ·exact elemS_z (row0_z h) ⟨by show (ByteArray.size ⟨#[]⟩)≤_;decide,by show (ByteArray.size ⟨#[]⟩)≤_;decide,rfl⟩ k
  ·cases k
 split at k
 ·exact elemS_z (row0_z h) (zk 5 _ (mkB_z _ h.held)) k
 split at k
 ·unfold bytesS at k
  split at k
  ·cases k
  ·rename_i l hl
   refine elemS_z (row0_z h) (zk 6 _ (mkB_z _ ?_)) k
   have:=hx2_le _ _ hl
   rw [bl_mkB] at this
   exact Nat.le_trans this h.held
 ·cases k;exact row0_z h
theorem markS_z {st x:Xs} {p:Nat×Int×Bool} (h:Iz st) (k:markS st p=.inr x):Iz x:=by
 unfold markS at k
 split at k
 ·split at k
  ·cases k
  ·exact elemS_z h ⟨by show (ByteArray.size ⟨#[]⟩)≤_;decide,by show (ByteArray.size ⟨#[]⟩)≤_;decide,rfl⟩ k
 split at k
 ·split at k
  ·cases k
  ·cases k;exact ⟨h.held,h.t⟩
 split at k
 ·exact endRowS_z h k
 split at k
 ·split at k
  ·cases k
  ·exact beginS_z h ⟨by show (ByteArray.size ⟨#[]⟩)≤_;decide,by show (ByteArray.size ⟨#[]⟩)≤_;decide,rfl⟩ k
 split at k
 ·unfold beginNameS at k
  split at k
  ·split at k
   ·cases k
   ·cases k;exact ⟨h.held,h.t⟩
  ·split at k
   ·cases k
   ·cases k;exact ⟨h.held,h.t⟩
 split at k
 ·unfold endNameS at k
  split at k
  ·cases k
  ·exact beginS_z (row0_z h) (zk _ _ (mkB_z _ h.held)) k
 ·unfold endPartS at k
  split at k
  ·cases k
  ·split at k
   ·cases k;exact ⟨h.held,h.t⟩
   ·exact elemS_z (st:={st with ks:=st.ks.dropLast}) ⟨h.held,h.t⟩ ⟨by decide,by decide,rfl⟩ k
theorem holdS_z {st x:Xs} {l:List UInt8} (h:Iz st) (k:holdS st l=.inr x):Iz x:=by
 unfold holdS at k
 split at k
 ·cases k
 ·rename_i q
  cases k
  refine ⟨?_,h.t⟩
  show (st.held++l).length≤_
  rw [List.length_append]
  have:mostK st.rk≤8192:=by unfold mostK;repeat (first|split|omega)
  omega
theorem goX_z {st x:Xs} {c:UInt8} (h:Iz st) (k:goX st c=.inr x):Iz x:=by
 unfold goX at k
 split at k
 ·unfold inMarkS at k
  split at k
  ·exact markS_z (st:={st with mark:=[]}) ⟨h.held,h.t⟩ k
  ·split at k
   ·cases k
   ·cases k;exact ⟨h.held,h.t⟩
 split at k
 ·unfold inRefS at k
  split at k
  ·split at k
   ·cases k
   ·exact holdS_z (st:={st with ref:=[]}) ⟨h.held,h.t⟩ k
  ·split at k
   ·cases k
   ·cases k;exact ⟨h.held,h.t⟩
 split at k
 ·cases k;exact ⟨h.held,h.t⟩
 split at k
 ·unfold rowS at k
  split at k
  ·cases k
  ·split at k
   ·cases k;exact ⟨h.held,h.t⟩
   ·exact holdS_z h k
 split at k
 ·cases k;exact h
 ·cases k
theorem takeX_z {st x:Xs} {c:UInt8} (h:Iz st) (k:takeX st c=.inr x):Iz x:=by
 obtain ⟨y,hy,k⟩:=bnd_inr k
 exact goX_z (st:={st with t:=y}) ⟨h.held,countT_z h.t hy⟩ k
theorem feedX_z {l:List UInt8} {st x:Xs} (h:Iz st) (k:feedX st l=.inr x):Iz x:=by
 induction l generalizing st with
 | nil=>cases k;exact h
 | cons c l ih =>
  obtain ⟨y,hy,k⟩:=bnd_inr k
  exact ih (takeX_z h hy) k
theorem x0_z:Iz x0:=⟨Nat.zero_le _,fun e he=>(by cases he),Nat.zero_le _⟩
theorem readX_ok (l:List UInt8) (es:List Hd) (h:readX l=.inr es):es.length≤199000∧∀ e∈es,EvZ e:=by
 unfold readX at h
 obtain ⟨x,hx,h⟩:=bnd_inr h
 obtain ⟨y,hy,h⟩:=bnd_inr h
 cases h
 have ix:=feedX_z x0_z hx
 have wx:=feedX_w x0_w hx
 have hy0:y.t.told=[]:=by
  unfold finX at hy
  split at hy
  ·cases hy
  split at hy
  ·cases hy
  ·cases hy;rfl
 rw [hy0,List.append_nil]
 have h1:=ix.t.len
 have h2:=wx.n
 have h3:=wx.tot
 exact ⟨by omega,ix.t.told⟩
end Go.Proofs.YthodiandebahdaaGreatDoor
