/- Merged by program: OaAppend, XpCopy, XqCopy, JaPut, OcPower, NmMath, NdCmp, NfTrim. -/
import Derived.Test.YtdgehngffccjaaaGreatDoorZx01
import Derived.Deep.AppendLies
import Derived.Deep.RegionHeld3
import Derived.Deep.RegionLaw
namespace Go.Proofs.YtdgehngffccjaaaGreatDoor
open Go.RowKit
set_option linter.unusedSimpArgs false
set_option linter.unusedVariables false
set_option maxHeartbeats 8000000
def bcs (l:List UInt8):List Value:=l.map fun c=>Value.int .u8 (c.toNat:Int)
theorem bcs_length (l:List UInt8):(bcs l).length=l.length:=by simp [bcs]
theorem bcs_append (a b:List UInt8):bcs (a++b)=bcs a++bcs b:=by simp [bcs]
theorem strCells_bcs (s:ByteArray):Lib.strCells s=bcs (bl s):=rfl
def Own (W:World) (B:Nat) (v:Value) (l:List UInt8):Prop:=W.ownsRow B 5 1 v l.length (bcs l)
theorem own_nil (W:World) (B:Nat):Own W B (.slice none 0 0) []:=World.ownsRow_nil _ _ _ _
theorem Own.alloc {W:World} {B:Nat} {v:Value} {l:List UInt8} (h:Own W B v l) (o:Obj):Own (W.alloc o) B v l:=World.ownsRow.alloc h o
theorem Own.row {W:World} {B:Nat} {v:Value} {l:List UInt8} (h:Own W B v l):∀ k,v.ownBlock=some k→B≤k:=by
 obtain ⟨_,h⟩:=h
 rcases h with ⟨rfl,_⟩|⟨g,cap,cur,rfl,hg,_⟩
 ·intro k hk;cases hk
 ·intro k hk;cases hk;exact hg
theorem info5:(Tryz.prog.info? 5).map (fun i=>(i.zero,i.size,i.bytes))=some (some (.int .u8 0),1,1):=by kernel_rfl
section
variable {w : World} {ops : Array Oper} {rest : List Oper} {o : Oper} {a : Act} {Q : Exit → Act → World → Prop}
theorem app_bytes (hgd:o.guard=none) (s x:Operand) (ho:o.op=.call {callee:=.builtin .append,args:=#[s,x],argTypes:=#[22,22]})
  (B:Nat) (v:Value) (l:List UInt8) (hs:a.eval s=v) (hown:Own w B v l) (ad:Addr) (m c:Nat) (news:List UInt8) (hx:a.eval x=.slice (some ad) m c) (hm:news.length=m)
  (hnews:∀ j u,(bcs news)[j]?=some u→w.cell? (ad.add j)=some u) (hl:l.length + m≤100000) (hB:B≤w.heap.size)
  (h:∀ v' w',Hid (Own w' B v' (l++news))→Hid (Below B w w')→w.heap.size≤w'.heap.size→wpList Tryz.prog ops Q rest (a.put o.dst v') w'):wpList Tryz.prog ops Q (o :: rest) a w:=by
 obtain ⟨i0,hi,hz0,hz1,hz2⟩:=info_parts info5
 refine wpList_append_own w hgd s x 22 ho B 5 i0 (.int .u8 0) 1 1 Tryz.underlying22 hi hz0 hz1 hz2 rfl (by decide) v l.length (bcs l) hs hown ad m c (bcs news) hx (by rw [bcs_length,hm];simp) hnews ?_ ?_ ?_ hB ?_
 ·intro u hu
  simp only [bcs,List.mem_map] at hu
  obtain ⟨c,_,rfl⟩:=hu
  rfl
 ·unfold maxLen;omega
 ·omega
 ·intro v' w' h1 h2 _
  refine h v' w' ?_ ?_ h2.size
  ·show Own _ _ _ _
   unfold Own
   rw [bcs_append,List.length_append,hm];exact h1
  ·exact (Below.refl B w).grown h2 hB hown.row
theorem app_str (hgd:o.guard=none) (sl x:Operand) (ho:o.op=.call {callee:=.builtin .append,args:=#[sl,x],argTypes:=#[22,9]})
  (B:Nat) (v:Value) (l:List UInt8) (hs:a.eval sl=v) (hown:Own w B v l) (s:ByteArray) (hx:a.eval x=.string s) (hl:l.length + s.size≤100000) (hB:B≤w.heap.size)
  (h:∀ v' w',Hid (Own w' B v' (l++bl s))→Hid (Below B w w')→w.heap.size≤w'.heap.size→wpList Tryz.prog ops Q rest (a.put o.dst v') w'):wpList Tryz.prog ops Q (o :: rest) a w:=by
 obtain ⟨i0,hi,hz0,hz1,hz2⟩:=info_parts info5
 refine Lib.wpList_append_own_string w hgd sl x 22 9 ho B 5 i0 Tryz.underlying22 Tryz.underlying9 hi hz0 hz1 hz2 v l.length (bcs l) hs hown s hx (by unfold maxLen;omega) (by omega) hB ?_
 intro v' w' h1 h2 _
 refine h v' w' ?_ ?_ h2.size
 ·show Own _ _ _ _
  unfold Own
  rw [bcs_append,List.length_append,bl_length,←strCells_bcs];exact h1
 ·exact (Below.refl B w).grown h2 hB hown.row
end
theorem news_one (w:World) (c:UInt8) (T:TypeId):∀ j u,(bcs [c])[j]?=some u→(w.alloc (.cells #[.int .u8 (c.toNat:Int)] T)).cell? ((⟨w.heap.size,0,none⟩:Addr).add j)=some u:=cell_one_new _ _ _
theorem appendNoughts_any (B:Nat) (v:Value) (l:List UInt8) (k:Int) (w:World) (hown:Own w B v l) (hB:B≤w.heap.size) (hl:l.length≤1000) (hk:k≤1000) :
  Calls Tryz.prog 81 #[v,.int .i64 k] w fun e w'=>∃ v',e=.returned v'∧Hid (Own w' B v' (l++List.replicate k.toNat 48))∧Hid (Below B w w'):=by
 have hown:=hide hown
 go_enter Tryz.func81, Tryz.ntmps81
 go_wp2
 go_loopw [0,6] (fun b i wr=>∃ j:Nat,j≤k.toNat∧i=.int .i64 j∧Hid (Own wr B b (l++List.replicate j 48))∧Hid (Below B w wr)∧B≤wr.heap.size) (fun _ i _=>k.toNat - (intOf i).toNat)
 case atStart=>exact ⟨0,Nat.zero_le _,rfl,by show Own _ _ _ _;simpa using hown.out,Below.refl _ _,hB⟩
 case round =>
  obtain ⟨j,hj,rfl,ho,hb,hBr⟩:=hrel
  by_cases hlt:(j:Int)<k
  ·have hn:=hide (news_one wr 48 5)
   go_wp2_with (at_builtin;refine app_bytes rfl _ _ rfl B _ (l++List.replicate j 48) rfl (ho.out.alloc _) ⟨wr.heap.size,0,none⟩ 1 1 [48] rfl rfl hn.out (by simp;omega) (by simp;omega) ?_;intro v' w' h1 h2 h3)
   refine ⟨⟨j + 1,by omega,by go_num,?_,?_,?_⟩,by simp [intOf];omega⟩
   ·show Own _ _ _ _
    rw [List.replicate_succ',←List.append_assoc];exact h1.out
   ·exact (hb.out.alloc hBr _).trans h2.out
   ·simp at h3;omega
  ·go_wp2
   go_ret
   have e:j=k.toNat:=by omega
   subst e
   exact ⟨_,rfl,ho.out,hb.out⟩
theorem news_two (w:World) (c d:UInt8) (T:TypeId):∀ j u,(bcs [c,d])[j]?=some u→(w.alloc (.cells #[.int .u8 (c.toNat:Int),.int .u8 (d.toNat:Int)] T)).cell? ((⟨w.heap.size,0,none⟩:Addr).add j)=some u:=cell_two_new _ _ _ _
def pointed (l:List UInt8) (bh:Nat):List UInt8 :=
 if l.length≤bh then 48 :: 46 :: (List.replicate (bh - l.length) 48++l) else l.take (l.length - bh)++46 :: l.drop (l.length - bh)
theorem appendPointed_le (B:Nat) (v:Value) (l:List UInt8) (s:ByteArray) (bh:Nat) (w:World) (hown:Own w B v l) (hB:B≤w.heap.size) (hl:l.length≤100) (hs:s.size≤bh) (hbh:bh≤100) :
  Calls Tryz.prog 82 #[v,.string s,.int .i64 bh] w fun e w'=>∃ v',e=.returned v'∧Hid (Own w' B v' (l++pointed (bl s) bh))∧Hid (Below B w w'):=by
 have hown:=hide hown
 have hn:=hide (news_two w 48 46 5)
 have hfin:=hide (show l++pointed (bl s) bh=l++[48,46]++List.replicate (bh - s.size) 48++bl s by
  unfold pointed;rw [bl_length,if_pos hs];simp)
 have hc:((s.size:Int) - (bh:Int)≤0):=by omega
 go_enter Tryz.func82, Tryz.ntmps82
 go_wp2_with (at_builtin;refine app_bytes rfl (.tmp 14) (.tmp 15) rfl B _ l rfl (hown.out.alloc _) ⟨w.heap.size,0,none⟩ 2 2 [48,46] rfl rfl hn.out (by omega) (by simp;omega) ?_;intro v1 w1 h1 h2 h3)
 simp at h3
 go_wp2_with fail
 have hneg:-((s.size:Int) - (bh:Int))=((bh - s.size:Nat):Int):=by omega
 refine (appendNoughts_any B v1 (l++[48,46]) _ w1 h1.out (by omega) (by simp;omega) ?_).mono ?_
 ·omega
 rintro e w2 ⟨v2,rfl,h4,h5⟩
 have h6:B≤w2.heap.size:=by have:=h5.out.size;omega
 have hk:((-((s.size:Int) - (bh:Int))).toNat)=bh - s.size:=by omega
 go_wp2_with (at_builtin;refine app_str rfl (.tmp 21) (.tmp 22) rfl B _ _ rfl h4.out s rfl (by simp;omega) h6 ?_;intro v3 w3 h7 h8 h9)
 go_ret
 refine ⟨_,rfl,?_,?_⟩
 ·show Own _ _ _ _
  rw [hfin.out]
  have:=h7.out
  rw [hk] at this
  exact this
 ·exact (((Below.refl B w).alloc hB _).trans h2.out).trans (h5.out.trans h8.out)
def scs (l:List ByteArray):List Value:=l.map Value.string
theorem info9:(Tryz.prog.info? 9).map (fun i=>(i.zero,i.size,i.bytes))=some (some (.string ⟨#[]⟩),1,16):=by kernel_rfl
def OwnS (W:World) (B:Nat) (v:Value) (l:List ByteArray):Prop:=W.ownsRow B 9 1 v l.length (scs l)
theorem infoVV:(Tryz.prog.info? 38).map (fun i=>(i.zero,i.size,i.bytes))=some (some (.agg #[.int .i64 0,.bool false,.bool false,.string ⟨#[]⟩,.int .i64 0,.int .u64 0,.string ⟨#[]⟩,.slice none 0 0,.slice none 0 0]),9,120):=by kernel_rfl
section
variable {w : World} {ops : Array Oper} {rest : List Oper} {o : Oper} {a : Act} {Q : Exit → Act → World → Prop}
theorem app_v (hgd:o.guard=none) (s x:Operand) (ho:o.op=.call {callee:=.builtin .append,args:=#[s,x],argTypes:=#[36,36]})
  (B:Nat) (v:Value) (n:Nat) (xs:List Value) (hs:a.eval s=v) (hown:w.ownsRow B 38 9 v n xs) (g c:Nat) (hx:a.eval x=.slice (some ⟨g,0,none⟩) 1 c) (hd:Hd) (ns ls:Value) (hn:ns.oneCell'=true) (hl:ls.oneCell'=true)
  (hnews:w.rangeAt g 0 (vals hd ns ls).toList) (hm:n≤200000) (hB:B≤w.heap.size)
  (h:∀ av c' w',Hid (w'.ownsRow B 38 9 (.slice av (n + 1) c') (n + 1) (xs++(vals hd ns ls).toList))→Hid (w.grownBy w' v.ownBlock)→Hid ((Value.slice av (n + 1) c').ownBlock=v.ownBlock∨(Value.slice av (n + 1) c').ownBlock=some w.heap.size)→wpList Tryz.prog ops Q rest (a.put o.dst (.slice av (n + 1) c')) w'):wpList Tryz.prog ops Q (o :: rest) a w:=by
 obtain ⟨i0,hi,hz0,hz1,hz2⟩:=info_parts infoVV
 refine wpList_append_own_at w hgd s x 36 ho B 38 i0 _ 9 120 Tryz.underlying36 hi hz0 hz1 hz2 rfl (by decide) v n xs hs hown ⟨g,0,none⟩ 1 c (vals hd ns ls).toList hx rfl ?_ ?_ ?_ ?_ hB ?_
 ·intro j u hj
  have:=hnews j u hj
  rw [show (⟨g,0,none⟩:Addr).add j=⟨g,0 + j,none⟩ by unfold Addr.add;split <;> simp_all]
  exact this
 ·intro u hu
  simp only [vals,List.mem_cons,List.not_mem_nil,or_false] at hu
  rcases hu with rfl|rfl|rfl|rfl|rfl|rfl|rfl|rfl|rfl
  all_goals first|rfl|exact hn|exact hl
 ·unfold maxLen;omega
 ·omega
 ·intro v' w' h1 h2 h3 h4
  rcases h1.2 with ⟨rfl,e⟩|⟨g',cap,cur,rfl,_⟩
  ·omega
  ·exact h _ _ w' h1 h2 h4
end
def KR (n:Nat) (W:World) (x:VT n) (ns ls:Value) (s e:Nat):Prop:=s≤e∧e≤W.heap.size∧∀ W':World,(∀ k,s≤k→k<e→W'.heap[k]?=W.heap[k]?)→RD n W' x ns ls
theorem KR.move {n:Nat} {W W1:World} {x:VT n} {ns ls:Value} {s e:Nat} (h:KR n W x ns ls s e) (hs:e≤W1.heap.size) (hb:∀ k,s≤k→k<e→W1.heap[k]?=W.heap[k]?):KR n W1 x ns ls s e :=
 ⟨h.1,hs,fun W' h'=>h.2.2 W' fun k h1 h2=>(h' k h1 h2).trans (hb k h1 h2)⟩
theorem KR.rd {n:Nat} {W:World} {x:VT n} {ns ls:Value} {s e:Nat} (h:KR n W x ns ls s e):RD n W x ns ls:=h.2.2 W fun _ _ _=>rfl
theorem ownsRow_of {W W1:World} {B:Nat} {T:TypeId} {sz:Nat} {v:Value} {n:Nat} {xs:List Value} (h:W.ownsRow B T sz v n xs) (hb:∀ k,v.ownBlock=some k→k<W.heap.size→W1.heap[k]?=W.heap[k]?):W1.ownsRow B T sz v n xs:=by
 have hr:=World.ownsRow.lt h
 obtain ⟨h0,h⟩:=h
 refine ⟨h0,?_⟩
 rcases h with ⟨rfl,e⟩|⟨g,cap,cur,rfl,h2,h3,h4⟩
 ·exact Or.inl ⟨rfl,e⟩
 ·exact Or.inr ⟨g,cap,cur,rfl,h2,by rw [hb g rfl (hr g rfl).2];exact h3,h4⟩
theorem Bx.frz {W:World} {i:Nat} {h:Hd} {ns ls:Value} (q:Bx W i h ns ls) (j:Nat):W.frozen? ⟨i,j,none⟩=false:=by
 have:=q.at_
 simp [World.frozen?,this]
theorem heap_set_ne {W:World} {i o q:Nat} {u:Value} (h:q≠i):(W.setCell ⟨i,o,none⟩ u).heap[q]?=W.heap[q]?:=Below.heap_setCell _ _ _ _ h
theorem range_new (w:World) (h:Hd) (ns ls:Value):(w.alloc (.cells (vals h ns ls) 38)).rangeAt w.heap.size 0 (vals h ns ls).toList:=(bx_new w h ns ls).range
def Sto (p:Prop):Prop:=p
theorem Sto.out {p:Prop} (h:Sto p):p:=h
theorem Sto.mk {p:Prop} (h:p):Sto p:=h
def WB (W:World) (i:Nat) (A:List UInt8):Prop:=∃ v,W.heap[i]?=some (.cells #[v] 86 (0,0))∧Own W (i + 1) v A
def pan (E:Int):List PanicEntry:=[{v:=.iface 25 (.int .i64 E),recovered:=false}]
def FW (i:Nat) (W w':World):Prop:=Below i W w'∧∀ v,W.heap[i]?=some (.cells #[v] 86 (0,0)) →
 (∀ q,q<W.heap.size→q≠i→v.ownBlock≠some q→w'.heap[q]?=W.heap[q]?)∧∃ v',w'.heap[i]?=some (.cells #[v'] 86 (0,0))∧(v'.ownBlock=v.ownBlock∨∀ g,v'.ownBlock=some g→W.heap.size≤g)
theorem FW.refl (i:Nat) (W:World):FW i W W:=⟨Below.refl _ _,fun v h=>⟨fun _ _ _ _=>rfl,v,h,Or.inl rfl⟩⟩
theorem FW.trans {i:Nat} {W w1 w2:World} (h:FW i W w1) (k:FW i w1 w2):FW i W w2:=by
 refine ⟨h.1.trans k.1,fun v hv=>?_⟩
 obtain ⟨h1,v1,hv1,ho1⟩:=h.2 v hv
 obtain ⟨k1,v2,hv2,ho2⟩:=k.2 v1 hv1
 have z:=h.1.size
 refine ⟨fun q q1 q2 q3=>(k1 q (by omega) q2 (fun e=>?_)).trans (h1 q q1 q2 q3),v2,hv2,?_⟩
 ·rcases ho1 with o|o
  ·exact q3 (o ▸ e)
  ·have:=o q e;omega
 ·rcases ho2 with o2|o2
  ·rcases ho1 with o1|o1
   ·exact Or.inl (o2.trans o1)
   ·exact Or.inr fun g e=>o1 g (o2 ▸ e)
  ·exact Or.inr fun g e=>Nat.le_trans z (o2 g e)
theorem FW.of {i:Nat} {W w1:World} (h:Below W.heap.size W w1) (hi:i<W.heap.size):FW i W w1 :=
 ⟨h.mono (Nat.le_of_lt hi),fun v hv=>⟨fun q q1 _ _=>h.block q q1,v,(h.block i hi).trans hv,Or.inl rfl⟩⟩
def NB (q:Nat) (W:World) (i:Nat):Prop:=q<W.heap.size∧q≠i∧∃ v,W.heap[i]?=some (.cells #[v] 86 (0,0))∧v.ownBlock≠some q
theorem FW.kept {i q:Nat} {W w':World} (h:FW i W w') (n:NB q W i):w'.heap[q]?=W.heap[q]?∧NB q w' i:=by
 obtain ⟨n1,n2,v,hv,n3⟩:=n
 obtain ⟨h1,v',hv',ho⟩:=h.2 v hv
 refine ⟨h1 q n1 n2 n3,Nat.lt_of_lt_of_le n1 h.1.size,n2,v',hv',fun e=>?_⟩
 rcases ho with o|o
 ·exact n3 (o ▸ e)
 ·have:=o q e;omega
def WO (i:Nat) (A T:List UInt8) (W:World) (e:Ending) (w':World):Prop :=
 FW i W w'∧((A.length + T.length≤65536∧e=.returned (.tuple #[])∧WB w' i (A++T))∨(65536<A.length + T.length∧e=.panicked (pan 2)))
theorem WB.lt {W:World} {i:Nat} {A:List UInt8} (h:WB W i A):i<W.heap.size:=by
 obtain ⟨v,h1,_⟩:=h
 exact (Array.getElem?_eq_some_iff.1 h1).1
theorem NB.new {W:World} {i:Nat} {A:List UInt8} {o:Obj} (h:WB W i A):NB W.heap.size (W.alloc o) i:=by
 have hlt:=h.lt
 obtain ⟨v,h1,h2⟩:=h
 exact ⟨by simp,by omega,v,(Below.heap_alloc _ _ _ hlt).trans h1,fun e=>by have:=(World.ownsRow.lt h2 _ e).2;omega⟩
theorem str_at {P:Program} (w:World) (base:Nat) (t u ty e:TypeId) (i:TypeInfo) (ht:P.underlying t=some (.slice e)) (hu:P.underlying u=some .string) (hi:P.info? e=some i) (hz:i.zero=some (.int .u8 0))
  (hsize:i.size=1) (hby:i.bytes=1) (v:Value) (n:Nat) (xs:List Value) (hown:w.ownsRow base e 1 v n xs) (s:ByteArray) (hbytes:n + s.size≤140737488355328)
  (v':Value) (w':World) (h:(Builtin.append_ #[t,u] ty #[v,.string s]).run P w=.ok v' w'):v'.ownBlock=v.ownBlock∨v'.ownBlock=some w.heap.size:=by
 have hxl:xs.length=n:=by simpa using hown.1
 rcases hown.2 with ⟨rfl,rfl⟩|⟨g,cap,cur,rfl,hbg,hg,hnc,hcm,hcs,htake⟩
 ·by_cases hm:s.size=0
  ·have hf:=Lib.run_firstCells_string (P:=P) w 1 s
   rw [hm] at hf
   have:(Builtin.append_ #[t,u] ty #[.slice none 0 0,.string s]).run P w=.ok (.slice none 0 0) w:=by
    simp [Builtin.append_,run_underlying ht,run_underlying hu,sizeOf,typeInfo,hi,hsize,Builtin.lenOf,hm,hf]
   rw [this] at h
   cases h
   exact Or.inl rfl
  ·have hr:=run_append_nil_string (P:=P) w t u ty e i (.int .u8 0) ht hu hi hz s (by omega) (by omega) (by rw [hby];omega)
   rw [hr] at h
   cases h
   exact Or.inr rfl
 ·by_cases hroom:n + s.size≤cap
  ·have hcs':cur.size=cap:=by simpa using hcs
   have hr:=Lib.run_append_room_string (P:=P) w t u ty e i ht hu hi hsize g n cap cur hg s hroom (by omega)
   rw [hr] at h
   cases h
   exact Or.inl rfl
  ·have holds:∀ j u,xs[j]?=some u→w.cell? ((⟨g,0,none⟩:Addr).add j)=some u:=hown.cells (g:=g) rfl
   have hr:=Lib.run_append_grow_string (P:=P) w t u ty e i (.int .u8 0) ht hu hi hz ⟨g,0,none⟩ n cap xs (by rw [hsize];simpa using hxl) holds s (by omega) (by omega) (by rw [hby];exact growslice_fits (by omega) (by omega))
   rw [hr] at h
   cases h
   exact Or.inr rfl
theorem app_str2 {w:World} {ops:Array Oper} {rest:List Oper} {o:Oper} {a:Act} {Q:Exit→Act→World→Prop} (hgd:o.guard=none) (sl x:Operand) (ho:o.op=.call {callee:=.builtin .append,args:=#[sl,x],argTypes:=#[22,9]})
  (B:Nat) (v:Value) (l:List UInt8) (hs:a.eval sl=v) (hown:Own w B v l) (s:ByteArray) (hx:a.eval x=.string s) (hl:l.length + s.size≤100000) (hB:B≤w.heap.size)
  (h:∀ v' w',Hid (Own w' B v' (l++bl s))→Hid (w.grownBy w' v.ownBlock)→Hid (v'.ownBlock=v.ownBlock∨v'.ownBlock=some w.heap.size)→wpList Tryz.prog ops Q rest (a.put o.dst v') w'):wpList Tryz.prog ops Q (o :: rest) a w:=by
 obtain ⟨i0,hi,hz0,hz1,hz2⟩:=info_parts info5
 refine wpList_plain hgd fun K hK=>?_
 obtain ⟨v',w',hr,h2,h3,h4⟩:=Lib.run_append_own_string (P:=Tryz.prog) w B 22 9 o.type 5 i0 Tryz.underlying22 Tryz.underlying9 hi hz0 hz1 hz2 v l.length (bcs l) hown s (by unfold maxLen;omega) (by omega) hB
 have hat:=str_at (P:=Tryz.prog) w B 22 9 o.type 5 i0 Tryz.underlying22 Tryz.underlying9 hi hz0 hz1 hz2 v l.length (bcs l) hown s (by omega) v' w' hr
 unfold Oper.wp execOp
 simp only [ho,resolve,invoke,builtin,Sem.run_bind,Sem.run_pure,Result.andThen_ok,List.map_toArray,List.map_cons,List.map_nil,hs,hx,hr]
 refine hK _ _ (h v' w' ?_ h3 hat)
 show Own _ _ _ _
 unfold Own
 rw [bcs_append,List.length_append,bl_length,←strCells_bcs];exact h2
set_option maxRecDepth 100000 in
theorem put_all (s:ByteArray) (A:List UInt8) (W:World) (i:Nat) (h:WB W i A) (hA:A.length≤65536) :
  Calls Tryz.prog 49 #[.pointer (some ⟨i,0,none⟩),.string s] W fun e w'=>WO i A (bl s) W e w':=by
 have hlt:=h.lt
 obtain ⟨v,h1,h2⟩:=h
 obtain ⟨a,c,rfl⟩:∃ a c,v=.slice a A.length c:=by
  rcases h2.2 with ⟨rfl,e⟩|⟨g,cap,cur,rfl,_⟩
  ·exact ⟨none,0,by rw [e]⟩
  ·exact ⟨_,_,rfl⟩
 have c0:W.cell? ⟨i,0,none⟩=some (.slice a A.length c):=by simp [World.cell?,h1]
 have f0:W.frozen? ⟨i,0,none⟩=false:=by simp [World.frozen?,h1]
 have h1':=hide h1
 have h2':=hide h2
 have hbl:=hide (bl_length s)
 clear h1 h2
 have hw:IntKind.i64.wrap (65536 - (A.length:Int))=65536 - (A.length:Int):=by rw [IntKind.wrap_i64] <;> omega
 by_cases hbig:(65536:Int) - (A.length:Int)<(s.size:Int)
 ·go_enter Tryz.func49, Tryz.ntmps49
  go_wp2_with fail
  exact ⟨rfl,FW.refl _ _,Or.inr ⟨by rw [hbl.out];omega,rfl⟩⟩
 ·go_enter Tryz.func49, Tryz.ntmps49
  go_wp2_with (at_builtin;refine Sto.out ?_)
  refine Sto.mk ?_
  refine app_str2 rfl (.tmp 18) (.tmp 19) rfl (i + 1) (.slice a A.length c) A rfl h2'.out s rfl (by omega) (by omega) ?_
  intro v' w' ho hg hat
  have hz:=hg.out.size
  have hll:=World.ownsRow.lt h2'.out
  have hblk:Hid (w'.heap[i]?=some (.cells #[.slice a A.length c] 86 (0,0))):=(hg.out.block i hlt (fun q=>by have:=(hll i q.symm).1;omega)).trans h1'.out
  have c1:w'.cell? ⟨i,0,none⟩=some (.slice a A.length c):=by simp [World.cell?,hblk.out]
  have f1:w'.frozen? ⟨i,0,none⟩=false:=by simp [World.frozen?,hblk.out]
  have ho':v'.oneCell'=true:=by
   rcases ho.out.2 with ⟨rfl,e⟩|⟨g,cap,cur,rfl,_⟩
   ·rfl
   ·rfl
  clear c0 f0
  obtain ⟨a2,n2,c2,rfl⟩:∃ a2 n2 c2,v'=.slice a2 n2 c2:=by
   rcases ho.out.2 with ⟨rfl,e⟩|⟨g,cap,cur,rfl,_⟩
   ·exact ⟨_,_,_,rfl⟩
   ·exact ⟨_,_,_,rfl⟩
  have hn2:n2=(A++bl s).length:=by
   have:=ho.out.1
   rcases ho.out.2 with ⟨e,e2⟩|⟨g,cap,cur,e,_⟩
   ·cases e;exact e2.symm
   ·cases e;rfl
  have hn2':=hide hn2
  clear hn2
  go_wp2_with fail
  go_end0
  have hblk2:(w'.setCell ⟨i,0,none⟩ (.slice a2 n2 c2)).heap[i]?=some (.cells #[.slice a2 n2 c2] 86 (0,0)):=by
   rw [setCell_eq_setRow w' i 0 _ _ (0,0) _ hblk.out,setRow_heap w' i _ _ _ (0,0) hblk.out]
   rfl
  refine ⟨⟨((Below.refl i W).grown hg.out (by omega) (fun g e=>by have:=(hll g e).1;omega)).setCell (p:=⟨i,0,none⟩) (Nat.le_refl i) _,fun v hv=>?_⟩,Or.inl ⟨by rw [hbl.out];omega,rfl,.slice a2 n2 c2,hblk2,?_⟩⟩
  ·have hv2:v=.slice a A.length c:=by
    rw [h1'.out] at hv
    cases hv
    rfl
   subst hv2
   refine ⟨fun q q1 q2 q3=>?_,_,hblk2,?_⟩
   ·rw [heap_set_ne q2,hg.out.block q q1 (fun e=>q3 e.symm)]
   ·rcases hat.out with e|e
    ·exact Or.inl e
    ·exact Or.inr fun g hg'=>by rw [e] at hg';cases hg';exact Nat.le_refl _
  ·have:=ho.out
   unfold Own at this ⊢
   exact ownsRow_of this fun g e hg=>heap_set_ne (by have:=(World.ownsRow.lt ho.out g e).1;omega)
theorem put_any (s:ByteArray) (A:List UInt8) (W:World) (i:Nat) (h:WB W i A) (hA:A.length≤65536) (hs:s.size≤281474976710656) :
  Calls Tryz.prog 49 #[.pointer (some ⟨i,0,none⟩),.string s] W fun e w'=>WO i A (bl s) W e w':=put_all s A W i h hA
def powered (l:List UInt8) (p:List UInt8):List UInt8:=l.take 1++(if 1<l.length then 46 :: l.drop 1 else [])++101 :: p
def val:List Nat→Nat
 | []=>0
 | d :: l=>d * 10 ^ l.length + val l
def Dgs (l:List Nat):Prop:=∀ d∈l,d≤9
def dg (s:ByteArray):List Nat:=(bl s).map fun c=>c.toNat - 48
theorem dg_length (s:ByteArray):(dg s).length=s.size:=by simp [dg,bl_length]
theorem dg_get (s:ByteArray) (k:Nat) (h:k<s.size):(dg s)[k]'(by rw [dg_length];exact h)=s[k].toNat - 48:=by
 simp only [dg,List.getElem_map]
 rw [bl_get s k h]
theorem dg_dgs (s:ByteArray) (h:allD (bl s)=true):Dgs (dg s):=by
 intro d hd
 simp only [dg,List.mem_map] at hd
 obtain ⟨c,hc,rfl⟩:=hd
 have:=(isDig_iff c).1 ((List.all_eq_true.1 h) c hc)
 omega
theorem allD_get (s:ByteArray) (h:allD (bl s)=true) (k:Nat) (hk:k<s.size):48≤s[k].toNat∧s[k].toNat≤57:=by
 have h1:s[k]∈bl s:=by rw [←bl_get s k hk];exact List.getElem_mem _
 have:=(isDig_iff s[k]).1 ((List.all_eq_true.1 h) _ h1)
 omega
theorem isN_len {n:Bool} {s:ByteArray} {x:Int} (h:isN n s x=true):s.size≤40∧-400≤x∧x≤400:=by
 simp [isN,isZ,isO] at h
 rcases h with ⟨⟨_,h1⟩,h2⟩|h
 ·have:=bl_length s;rw [h1] at this;simp at this;omega
 ·rw [bl_length] at h;omega
def lz (d:List Nat):Nat:=(d.takeWhile (·==0)).length
theorem lz_of (d:List Nat) (k:Nat) (hk:k≤d.length) (h1:∀ i (h:i<d.length),i<k→d[i]=0) (h2:∀ h:k<d.length,d[k]≠0):lz d=k :=
 takeWhile_of _ d k hk (fun j h hj=>by simp [h1 j h hj]) (fun h=>by simpa using h2 h)
def lenOf:Value→Nat | .slice _ m _=>m|_=>0
theorem trimByte_any (b o n c:Nat) (d:List Nat) (w:World) (hd:d.length=n) (hn0:0<n) (hn:n≤100000) (hc:n≤c) (hc':c≤100000)
  (hcell:∀ i (h:i<d.length),w.cell? ⟨b,o + i,none⟩=some (.int .u8 (d[i]:Nat))) :
  Calls Tryz.prog 195 #[.slice (some ⟨b,o,none⟩) n c,.int .u8 0] w fun e w'=>(lz d<n→e=.returned (.slice (some ⟨b,o + lz d,none⟩) (n - lz d) (c - lz d)))∧(lz d=n→e=.returned (.slice none 0 0))∧w'=w:=by
 go_enter Tryz.func195, Tryz.ntmps195
 go_wp2
 go_loop [0] (fun s=>∃ k:Nat,k≤n∧(∀ i (h:i<d.length),i<k→d[i]=0)∧((k<n∧s=.slice (some ⟨b,o + k,none⟩) (n - k) (c - k))∨(k=n∧∃ a cc,s=.slice a 0 cc))) (fun s=>lenOf s)
 case atStart=>exact ⟨0,Nat.zero_le _,fun i h hi=>by omega,Or.inl ⟨hn0,rfl⟩⟩
 case round =>
  obtain ⟨k,hk,hz,hs⟩:=hrel
  rcases hs with ⟨hlt,rfl⟩|⟨rfl,a,cc,rfl⟩
  ·have hck:=hcell k (by omega)
   by_cases h0:d[k]'(by omega)=0
   ·rw [h0] at hck
    have hz':∀ i (h:i<d.length),i<k + 1→d[i]=0:=fun i h hi=>by
     by_cases e:i=k
     ·subst e;exact h0
     ·exact hz i h (by omega)
    have hz':=hide hz'
    go_wp2
    refine ⟨⟨k + 1,by omega,hz'.out,?_⟩,by simp [lenOf];omega⟩
    by_cases hl:k + 1<n
    ·exact Or.inl ⟨hl,by rw [if_neg (by omega)];simp [Nat.sub_sub,Nat.add_assoc]⟩
    ·exact Or.inr ⟨by omega,_,_,by rw [show n - k - 1=0 by omega]⟩
   ·have h1:((d[k]'(by omega):Int)==0)=false:=by simp;exact h0
    have h2:(((n - k:Nat):Int)==0)=false:=by simp;omega
    have hl:=hide (lz_of d k (by omega) hz (fun _=>h0))
    clear h0
    go_wp2
    go_ret
    exact ⟨fun _=>by rw [hl.out];rfl,fun h=>by rw [hl.out] at h;omega,rfl⟩
  ·have hl:=hide (lz_of d k (by omega) hz (fun h=>by omega))
   go_wp2
   go_ret
   exact ⟨fun h=>by rw [hl.out] at h;omega,fun h=>rfl,rfl⟩
set_option maxRecDepth 100000 in
theorem trimLeft_any (b o n c:Nat) (d:List Nat) (w:World) (hd:d.length=n) (hn0:0<n) (hn:n≤100000) (hc:n≤c) (hc':c≤100000)
  (hcell:∀ i (h:i<d.length),w.cell? ⟨b,o + i,none⟩=some (.int .u8 (d[i]:Nat))) :
  Calls Tryz.prog 191 #[.slice (some ⟨b,o,none⟩) n c,.string ⟨#[0]⟩] w fun e w'=>(lz d<n→e=.returned (.slice (some ⟨b,o + lz d,none⟩) (n - lz d) (c - lz d)))∧(lz d=n→e=.returned (.slice none 0 0))∧w'=w:=by
 have h2:((n:Int)==0)=false:=by simp;omega
 have hcell:=hide hcell
 by_cases hl:lz d<n
 ·go_enter Tryz.func191, Tryz.ntmps191
  go_wp2_with (go_at_call 195;refine (trimByte_any b o n c d _ hd hn0 hn hc hc' hcell.out).mono ?_;rintro e w' ⟨h1,_,rfl⟩;obtain rfl:=h1 hl)
  go_ret
  exact ⟨fun _=>rfl,fun h=>by omega,rfl⟩
 ·have hl':Hid (lz d=n):=by
   have:lz d≤n:=by
    unfold lz;rw [←hd];exact (List.takeWhile_prefix _).length_le
   show lz d=n
   omega
  go_enter Tryz.func191, Tryz.ntmps191
  go_wp2_with (go_at_call 195;refine (trimByte_any b o n c d _ hd hn0 hn hc hc' hcell.out).mono ?_;rintro e w' ⟨_,h1,rfl⟩;obtain rfl:=h1 hl'.out)
  go_ret
  exact ⟨fun h=>by omega,fun _=>rfl,rfl⟩
end Go.Proofs.YtdgehngffccjaaaGreatDoor
