/- Merged by program: YlRow, YhHex, DgNum. -/
import Derived.Test.YthodiandebahdaaGreatDoorZq36
import Derived.Deep.OwnRows
namespace Go.Proofs.YthodiandebahdaaGreatDoor
open Go.RowKit
set_option linter.unusedSimpArgs false
set_option linter.unusedVariables false
set_option maxHeartbeats 8000000
theorem app_b {w:World} {ops:Array Oper} {rest:List Oper} {o:Oper} {a:Act} {Q:Exit→Act→World→Prop} (hgd:o.guard=none)(s x:Operand)(ho:o.op=.call {callee:=.builtin .append,args:=#[s,x],argTypes:=#[32,32]})
  (B:Nat) (v:Value) (l:List UInt8)(hs:a.eval s=v)(hown:Own w B v l) (ad:Addr) (c:Nat)(hx:a.eval x=.slice (some ad) 1 c) (k:UInt8)
  (hnews:∀ j u,[Value.int .u8 (k.toNat:Int)][j]?=some u→w.cell? (ad.add j)=some u)(hm:l.length≤300000)(hB:B≤w.heap.size)
  (h:∀ av c' w',Hid (Own w' B (.slice av (l.length+1) c') (l++[k]))→Hid (w.grownBy w' v.ownBlock)→Hid ((Value.slice av (l.length+1) c').ownBlock=v.ownBlock∨(Value.slice av (l.length+1) c').ownBlock=some w.heap.size)→wpList Tryz.prog ops Q rest (a.put o.dst (.slice av (l.length+1) c')) w'):wpList Tryz.prog ops Q (o :: rest) a w:=by
 obtain ⟨i0,hi,hz0,hz1,hz2⟩:=info_parts info5
 refine wpList_append_own_at w hgd s x 32 ho B 5 i0 _ 1 1 Tryz.underlying32 hi hz0 hz1 hz2 rfl (by decide) v l.length (bcs l) hs hown ad 1 c [.int .u8 k.toNat] hx rfl hnews ?_ ?_ ?_ hB ?_
 ·intro u hu
  simp only [List.mem_cons,List.not_mem_nil,or_false] at hu
  subst hu;rfl
 ·unfold maxLen;omega
 ·omega
 ·intro v' w' h1 h2 h3 h4
  have h1':Own w' B v' (l++[k]):=by
   unfold Own
   rw [bcs_append,List.length_append,List.length_singleton]
   exact h1
  rcases h1.2 with ⟨rfl,e⟩|⟨g',cap,cur,rfl,_⟩
  ·omega
  ·exact h _ _ w' h1' h2 h4
theorem news1b (w W:World)(T:TypeId)(k:Int)(hW:W.heap=(w.alloc (.cells #[.int .u8 k] T)).heap):∀ j u,[Value.int .u8 k][j]?=some u→W.cell? ((⟨w.heap.size,0,none⟩:Addr).add j)=some u:=by
 intro j u hj
 rw [show W.cell? ((⟨w.heap.size,0,none⟩:Addr).add j)=(w.alloc (.cells #[.int .u8 k] T)).cell? ((⟨w.heap.size,0,none⟩:Addr).add j) by unfold World.cell?;rw [hW]]
 exact cell_one_new w _ T j u hj
theorem u8_ne {c:UInt8} {k:Nat} (hk:k<256)(h:¬ c=UInt8.ofNat k):((c.toNat:Int)==(k:Int))=false:=by
 have hn:¬ c.toNat=k:=fun e=>h (by
  apply UInt8.toNat_inj.1
  rw [UInt8.toNat_ofNat',e]
  omega)
 have hi:¬ (c.toNat:Int)=(k:Int):=by omega
 simpa using hi
section
variable {W W1 W2 : World} {r : Nat} {g : Tg} {m m1 : Xm} {st : Xs}
set_option maxRecDepth 100000 in
theorem rowTake_q (h:XM W r g m st)(hr:st.ref=[])(c:UInt8):Calls Tryz.prog 61 #[.pointer (some ⟨r,2,none⟩),.int .u8 c.toNat] W fun e w'=>XP W r g m (rowS st c) e w':=by
 have hlt:=h.lt
 have H:=hide h
 obtain ⟨ha,hc,hv⟩:=h.shH
 have c3:W.cell? ⟨r,3,none⟩=some (.slice ha st.held.length hc):=(h.rd.cell 3).trans (by rw [←hv];rfl)
 have c2:W.cell? ⟨r,2,none⟩=some (.int .i64 st.rk):=(h.rd.cell 2).trans rfl
 obtain ⟨wa,wc,hw⟩:=h.shR
 have c4:W.cell? ⟨r,4,none⟩=some (.slice wa st.ref.length wc):=(h.rd.cell 4).trans (by rw [←hw];rfl)
 have f4:W.frozen? ⟨r,4,none⟩=false:=h.rd.frz 4
 have O:=h.row.ref
 rw [hw] at O
 have O':=hide O
 have Hw:=hide hw
 have AR:=hide (are_q h)
 have hl5:Hid (st.ref.length + [c].length≤10):=by show _≤_;rw [hr];simp
 have hrl:=h.row.rl
 have hcv:(convert 32 9 (.slice (some ⟨W.heap.size,0,none⟩) 1 1)).run Tryz.prog (W.alloc (.cells #[.int .u8 c.toNat] 5))=.ok (.string (mkB [c])) (W.alloc (.cells #[.int .u8 c.toNat] 5)) :=
  run_convert_bytes_back _ 32 9 5 ⟨W.heap.size,0,none⟩ 1 [c] Tryz.underlying32 Tryz.underlying5 Tryz.underlying9 (fun j hj=>by
   have hj0:j=0:=by simpa using hj
   subst hj0
   show (W.alloc (.cells #[.int .u8 c.toNat] 5)).cell? ⟨W.heap.size,0,none⟩=_
   unfold World.cell?
   rw [heap_alloc_new]
   rfl)
 have HO:=hide (hold_x (h.then (below_al (o:=.cells #[.int .u8 c.toNat] 5) (Below.refl _ _))) (mkB [c]) (by rw [mkB_size];simp))
 rw [bl_mkB] at HO
 have B0:=hide (below_al (o:=.cells #[.int .u8 c.toNat] 5) (Below.refl W.heap.size W))
 clear h hv hw O hr
 unfold rowS
 by_cases h32:c.toNat<32
 ·rw [if_pos (Or.inl h32)]
  have e32:decide ((c.toNat:Int)<32)=true:=by simp;omega
  clear h32
  go_enter Tryz.func61, Tryz.ntmps61
  go_wp2_with fail
  exact ⟨rfl,H.out.fail 100⟩
 have e32:decide ((c.toNat:Int)<32)=false:=by simp;omega
 by_cases h4:st.rk=4
 ·have c2':=c2
  rw [h4] at c2'
  clear c2
  by_cases h16:st.held.length=16
  ·rw [if_pos (Or.inr ⟨h4,h16⟩)]
   rw [h16] at c3
   go_enter Tryz.func61, Tryz.ntmps61
   go_wp2_with fail
   exact ⟨rfl,H.out.fail 100⟩
  ·rw [if_neg (by rintro (q|q);exact h32 q;exact h16 q.2)]
   have e16:((st.held.length:Int)==16)=false:=by simp;omega
   have h4':=hide h4
   clear h4 h16 h32
   by_cases h38:c=38
   ·have e38:((c.toNat:Int)==38)=true:=by rw [h38];rfl
    cases hd:areD st.rk with
    | true =>
     rw [if_neg (show ¬ (c=38∧true=false) from fun q=>by cases q.2)]
     rw [hd] at AR
     clear hd h38
     have HO2:=HO
     cases hq:holdS st [c] with
     | inl E =>
      rw [hq] at HO
      clear hq HO2
      go_enter Tryz.func61, Tryz.ntmps61
      go_wp2_with (first|(go_at_call 90;refine HO.out.mono ?_;rintro q w1 ⟨hp1,rfl,hp2⟩;have K:=hide (XP.base (o:=.inl E) H.out B0.out ⟨hp1,rfl,hp2⟩))|(go_at_call 91;refine AR.out.mono ?_;rintro e w1 ⟨rfl,hw1⟩;have hws:=hw1.symm;clear hw1;subst hws))
      exact ⟨rfl,K.out⟩
     | inr x =>
      rw [hq] at HO
      clear hq HO2
      go_enter Tryz.func61, Tryz.ntmps61
      go_wp2_with (first|(go_at_call 90;refine HO.out.mono ?_;rintro q w1 ⟨hp1,rfl,hp2⟩;have K:=hide (XP.base (o:=.inr x) H.out B0.out ⟨hp1,rfl,hp2⟩))|(go_at_call 91;refine AR.out.mono ?_;rintro e w1 ⟨rfl,hw1⟩;have hws:=hw1.symm;clear hw1;subst hws))
      go_end0
      exact K.out
    | false =>
     rw [if_pos (show c=38∧false=false from ⟨h38,rfl⟩)]
     rw [hd] at AR
     clear hd HO h38
     go_enter Tryz.func61, Tryz.ntmps61
     go_wp2_with (first|(go_at_call 91;refine AR.out.mono ?_;rintro e w1 ⟨rfl,hw1⟩;have hws:=hw1.symm;clear hw1;subst hws)|(at_builtin;refine Sto.out ?_))
     refine Sto.mk ?_
     refine app_b rfl (.tmp 38) (.tmp 40) rfl (r+1) (.slice wa st.ref.length wc) st.ref rfl (own_of O'.out fun k hk hlt=>Below.heap_alloc _ _ _ hlt) ⟨W.heap.size,0,none⟩ 1 rfl c (news1b W _ _ c.toNat rfl) (by omega) (by simp;omega) ?_
     intro av5 c5 w5 ho5 hg5 hat5
     have P5:=hide (H.out.pushR (l:=[c]) Hw.out (below_al (Below.refl _ _)) hg5.out ho5.out hat5.out hl5.out)
     have K5:XdB w5 r _:=((H.out.then (below_al (Below.refl _ _))).rd.same (hg5.out.block r (by simp;omega) (fun e=>by have:=(World.ownsRow.lt O'.out r e.symm).1;omega)))
     have l5:=(K5.cell 4).trans (show _=some (.slice wa st.ref.length wc) by rw [←Hw.out];rfl)
     have n5:w5.frozen? ⟨r,4,none⟩=false:=K5.frz 4
     clear c4 f4 K5
     go_wp2_with fail
     go_end0
     exact P5.out
   ·rw [if_neg (fun q=>h38 q.1)]
    have e38:((c.toNat:Int)==38)=false:=u8_ne (k:=38) (by decide) h38
    have HO2:=HO
    cases hq:holdS st [c] with
    | inl E =>
     rw [hq] at HO
     clear hq HO2
     go_enter Tryz.func61, Tryz.ntmps61
     go_wp2_with (first|(go_at_call 90;refine HO.out.mono ?_;rintro q w1 ⟨hp1,rfl,hp2⟩;have K:=hide (XP.base (o:=.inl E) H.out B0.out ⟨hp1,rfl,hp2⟩))|(go_at_call 91;refine AR.out.mono ?_;rintro e w1 ⟨rfl,hw1⟩;have hws:=hw1.symm;clear hw1;subst hws))
     exact ⟨rfl,K.out⟩
    | inr x =>
     rw [hq] at HO
     clear hq HO2
     go_enter Tryz.func61, Tryz.ntmps61
     go_wp2_with (first|(go_at_call 90;refine HO.out.mono ?_;rintro q w1 ⟨hp1,rfl,hp2⟩;have K:=hide (XP.base (o:=.inr x) H.out B0.out ⟨hp1,rfl,hp2⟩))|(go_at_call 91;refine AR.out.mono ?_;rintro e w1 ⟨rfl,hw1⟩;have hws:=hw1.symm;clear hw1;subst hws))
     go_end0
     exact K.out
 ·rw [if_neg (by rintro (q|q);exact h32 q;exact h4 q.1)]
  have e4:(st.rk==4)=false:=by simpa using h4
  clear h4 h32
  by_cases h38:c=38
  ·have e38:((c.toNat:Int)==38)=true:=by rw [h38];rfl
   cases hd:areD st.rk with
   | true =>
    rw [if_neg (show ¬ (c=38∧true=false) from fun q=>by cases q.2)]
    rw [hd] at AR
    clear hd h38
    have HO2:=HO
    cases hq:holdS st [c] with
    | inl E =>
     rw [hq] at HO
     clear hq HO2
     go_enter Tryz.func61, Tryz.ntmps61
     go_wp2_with (first|(go_at_call 90;refine HO.out.mono ?_;rintro q w1 ⟨hp1,rfl,hp2⟩;have K:=hide (XP.base (o:=.inl E) H.out B0.out ⟨hp1,rfl,hp2⟩))|(go_at_call 91;refine AR.out.mono ?_;rintro e w1 ⟨rfl,hw1⟩;have hws:=hw1.symm;clear hw1;subst hws))
     exact ⟨rfl,K.out⟩
    | inr x =>
     rw [hq] at HO
     clear hq HO2
     go_enter Tryz.func61, Tryz.ntmps61
     go_wp2_with (first|(go_at_call 90;refine HO.out.mono ?_;rintro q w1 ⟨hp1,rfl,hp2⟩;have K:=hide (XP.base (o:=.inr x) H.out B0.out ⟨hp1,rfl,hp2⟩))|(go_at_call 91;refine AR.out.mono ?_;rintro e w1 ⟨rfl,hw1⟩;have hws:=hw1.symm;clear hw1;subst hws))
     go_end0
     exact K.out
   | false =>
    rw [if_pos (show c=38∧false=false from ⟨h38,rfl⟩)]
    rw [hd] at AR
    clear hd HO h38
    go_enter Tryz.func61, Tryz.ntmps61
    go_wp2_with (first|(go_at_call 91;refine AR.out.mono ?_;rintro e w1 ⟨rfl,hw1⟩;have hws:=hw1.symm;clear hw1;subst hws)|(at_builtin;refine Sto.out ?_))
    refine Sto.mk ?_
    refine app_b rfl (.tmp 38) (.tmp 40) rfl (r+1) (.slice wa st.ref.length wc) st.ref rfl (own_of O'.out fun k hk hlt=>Below.heap_alloc _ _ _ hlt) ⟨W.heap.size,0,none⟩ 1 rfl c (news1b W _ _ c.toNat rfl) (by omega) (by simp;omega) ?_
    intro av5 c5 w5 ho5 hg5 hat5
    have P5:=hide (H.out.pushR (l:=[c]) Hw.out (below_al (Below.refl _ _)) hg5.out ho5.out hat5.out hl5.out)
    have K5:XdB w5 r _:=((H.out.then (below_al (Below.refl _ _))).rd.same (hg5.out.block r (by simp;omega) (fun e=>by have:=(World.ownsRow.lt O'.out r e.symm).1;omega)))
    have l5:=(K5.cell 4).trans (show _=some (.slice wa st.ref.length wc) by rw [←Hw.out];rfl)
    have n5:w5.frozen? ⟨r,4,none⟩=false:=K5.frz 4
    clear c4 f4 K5
    go_wp2_with fail
    go_end0
    exact P5.out
  ·rw [if_neg (fun q=>h38 q.1)]
   have e38:((c.toNat:Int)==38)=false:=u8_ne (k:=38) (by decide) h38
   have HO2:=HO
   cases hq:holdS st [c] with
   | inl E =>
    rw [hq] at HO
    clear hq HO2
    go_enter Tryz.func61, Tryz.ntmps61
    go_wp2_with (first|(go_at_call 90;refine HO.out.mono ?_;rintro q w1 ⟨hp1,rfl,hp2⟩;have K:=hide (XP.base (o:=.inl E) H.out B0.out ⟨hp1,rfl,hp2⟩))|(go_at_call 91;refine AR.out.mono ?_;rintro e w1 ⟨rfl,hw1⟩;have hws:=hw1.symm;clear hw1;subst hws))
    exact ⟨rfl,K.out⟩
   | inr x =>
    rw [hq] at HO
    clear hq HO2
    go_enter Tryz.func61, Tryz.ntmps61
    go_wp2_with (first|(go_at_call 90;refine HO.out.mono ?_;rintro q w1 ⟨hp1,rfl,hp2⟩;have K:=hide (XP.base (o:=.inr x) H.out B0.out ⟨hp1,rfl,hp2⟩))|(go_at_call 91;refine AR.out.mono ?_;rintro e w1 ⟨rfl,hw1⟩;have hws:=hw1.symm;clear hw1;subst hws))
    go_end0
    exact K.out
end
def hxE:ByteArray:=⟨#[48,49,50,51,52,53,54,55,56,57,97,98,99,100,101,102]⟩
set_option maxRecDepth 100000 in
theorem hx_idx_n:∀ n,n<256→firstIdx hxE n.toUInt8=(match hxD n.toUInt8 with|none=>-1|some i=>(i.val:Int)):=by decide +kernel
theorem hx_idx (c:UInt8):firstIdx hxE ((c.toNat:Int).toNat.toUInt8)=(match hxD c with|none=>-1|some i=>(i.val:Int)):=by
 have h:=hx_idx_n c.toNat c.toNat_lt
 have e:c.toNat.toUInt8=c:=by simp
 rw [Int.toNat_natCast,h,e]
theorem or16 (n d:Nat)(hn:n<65536)(hd:d<16):bits .or .i64 ((n:Int) * 16) (d:Int)=((n * 16+d:Nat):Int):=by
 have hx:n * 16 ||| d=n * 16+d:=nat_join 4 _ _ (Nat.mul_mod_left _ _) hd
 have e:(n:Int) * 16=((n * 16:Nat):Int):=by omega
 rw [e]
 show IntKind.i64.wrap ((BitVec.ofInt 64 ((n * 16:Nat):Int) ||| BitVec.ofInt 64 (d:Int)).toNat:Int)=_
 rw [BitVec.toNat_or,BitVec.ofInt_natCast,BitVec.ofInt_natCast,BitVec.toNat_ofNat,BitVec.toNat_ofNat,Nat.mod_eq_of_lt (by omega:n * 16<2 ^ 64),Nat.mod_eq_of_lt (by omega:d<2 ^ 64),hx,IntKind.wrap_i64] <;> omega
theorem made_b (n:Nat):madeCells #[.int .u8 0] n=((List.replicate n 0).map fun v:Nat=>Value.int .u8 (v:Int)).toArray:=by
 apply Array.toList_inj.1
 rw [toList_madeCells_one]
 simp
def hxP (l:List UInt8):Nat→Option (List Nat)
 | 0=>some []
 | k+1=>match hxP l k,l[2 * k]?,l[2 * k+1]? with
  | some t,some a,some b=>match hxD a,hxD b with
   | some x,some y=>some (t++[x.val * 16+y.val])
   | _,_=>none
  | _,_,_=>none
theorem hxP_len (l:List UInt8):∀ k t,hxP l k=some t→t.length=k
 | 0,t,h=>by simp [hxP] at h;subst h;rfl
 | k+1,t,h=>by
  unfold hxP at h
  split at h
  ·rename_i t0 a b h0 ha hb
   split at h
   ·cases h;rw [List.length_append,hxP_len l k t0 h0];rfl
   ·cases h
  ·cases h
theorem hxP_lt (l:List UInt8):∀ k t,hxP l k=some t→∀ x∈t,x<256
 | 0,t,h=>by simp [hxP] at h;subst h;intro x hx;simp at hx
 | k+1,t,h=>by
  unfold hxP at h
  split at h
  ·rename_i t0 a b h0 ha hb
   split at h
   ·rename_i x y _ _
    cases h
    intro z hz
    rcases List.mem_append.1 hz with q|q
    ·exact hxP_lt l k t0 h0 z q
    ·simp at q;have:=x.isLt;have:=y.isLt;omega
   ·cases h
  ·cases h
theorem hxP_cons (a b:UInt8)(l:List UInt8):∀ k,hxP (a :: b :: l) (k+1)=match hxD a,hxD b,hxP l k with
  | some x,some y,some t=>some ((x.val * 16+y.val) :: t)
  | _,_,_=>none
 | 0=>by
  simp only [hxP,Nat.mul_zero,List.getElem?_cons_zero,Nat.zero_add,List.getElem?_cons_succ]
  cases hxD a <;> cases hxD b <;> rfl
 | k+1=>by
  have e1:(a :: b :: l)[2 * (k+1)]?=l[2 * k]?:=by
   rw [show 2 * (k+1)=2 * k+1+1 by omega,List.getElem?_cons_succ,List.getElem?_cons_succ]
  have e2:(a :: b :: l)[2 * (k+1)+1]?=l[2 * k+1]?:=by
   rw [show 2 * (k+1)+1=2 * k+1+1+1 by omega,List.getElem?_cons_succ,List.getElem?_cons_succ]
  rw [hxP,hxP_cons a b l k,e1,e2]
  conv=>rhs;rw [hxP]
  cases hxD a with
  | none=>rfl
  | some x =>
   cases hxD b with
   | none=>rfl
   | some y =>
    cases hxP l k with
    | none=>rfl
    | some t =>
     simp only
     cases l[2 * k]? with
     | none=>rfl
     | some c =>
      cases l[2 * k+1]? with
      | none=>rfl
      | some d =>
       simp only
       cases hxD c with
       | none=>rfl
       | some u=>cases hxD d <;> rfl
theorem hx2_P:∀ (n:Nat)(l:List UInt8),l.length=2 * n→hx2 l=(hxP l n).map fun t=>t.map UInt8.ofNat
 | 0,l,h=>by
  cases l with
  | nil=>rfl
  | cons a l=>simp at h
 | n+1,l,h=>by
  match l,h with
  | a :: b :: l,h =>
   rw [hxP_cons,hx2,hx2_P n l (by simp at h;omega)]
   cases hxD a with
   | none=>rfl
   | some x =>
    cases hxD b with
    | none=>rfl
    | some y=>cases hxP l n <;> rfl
theorem hx2_odd:∀ (n:Nat)(l:List UInt8),l.length=2 * n+1→hx2 l=none
 | 0,l,h=>by
  match l,h with
  | [a],_=>rfl
 | n+1,l,h=>by
  match l,h with
  | a :: b :: l,h =>
   rw [hx2,hx2_odd n l (by simp at h;omega)]
   cases hxD a <;> cases hxD b <;> rfl
theorem hxP_none (l:List UInt8)(k:Nat)(h:hxP l k=none):∀ d,hxP l (k+d)=none
 | 0=>h
 | d+1=>by
  rw [←Nat.add_assoc,hxP,hxP_none l k h d]
theorem or16b (x y:Fin 16):bits .or .i64 ((x.val:Int) * 16) (y.val:Int)=((x.val * 16+y.val:Nat):Int):=or16 x.val y.val (by omega) y.isLt
def uxR (s:ByteArray):Ending:=match hx2 (bl s) with
 | none=>.returned (.tuple #[.string ⟨#[]⟩,.bool false])
 | some l=>.returned (.tuple #[.string (mkB l),.bool true])
def hdR (c:UInt8):Ending:=match hxD c with
 | none=>.returned (.tuple #[.int .i64 0,.bool false])
 | some d=>.returned (.tuple #[.int .i64 (d.val:Int),.bool true])
theorem hdig_q (c:UInt8)(w:World):Calls Tryz.prog 180 #[.int .u8 c.toNat] w fun e w'=>e=hdR c∧w'=w:=by
 have IB:=hide (sib_any hxE c.toNat w)
 rw [hx_idx] at IB
 unfold hdR
 cases hc:hxD c with
 | none =>
  rw [hc] at IB
  clear hc
  simp only [hxE] at IB
  go_enter Tryz.func180, Tryz.ntmps180
  go_wp2_with (go_at_call 62;refine IB.out.mono ?_;rintro e w1 ⟨rfl,hw1⟩;have hws:=hw1.symm;clear hw1;subst hws)
  exact bodyPost_ret (v:=.tuple #[.int .i64 0,.bool false]) (by simp [results,Tryz.results180,go_sem];first|done|decide) rfl ⟨rfl,rfl⟩
 | some d =>
  rw [hc] at IB
  clear hc
  simp only [hxE] at IB ⊢
  obtain ⟨n,hn⟩:∃ n:Nat,d.val=n:=⟨_,rfl⟩
  have hd:=d.isLt
  rw [hn] at IB hd ⊢
  clear hn
  go_enter Tryz.func180, Tryz.ntmps180
  go_wp2_with (go_at_call 62;refine IB.out.mono ?_;rintro e w1 ⟨rfl,hw1⟩;have hws:=hw1.symm;clear hw1;subst hws)
  exact bodyPost_ret (v:=.tuple #[.int .i64 (n:Int),.bool true]) (by simp [results,Tryz.results180,go_sem];first|done|omega) rfl ⟨rfl,rfl⟩
set_option maxRecDepth 20000 in
theorem hexB_q (s:ByteArray)(w:World)(hs:s.size≤100000):Calls Tryz.prog 151 #[.string s] w fun e w'=>e=uxR s∧Below w.heap.size w w':=by
 have ml:maxLen=9223372036854775807:=rfl
 obtain ⟨n,hn⟩:∃ n,s.size=2 * n∨s.size=2 * n+1:=⟨s.size / 2,by omega⟩
 rcases hn with hn|hn
 ·have hr:Hid (∀ o,hxP (bl s) n=o→uxR s=match o with|none=>.returned (.tuple #[.string ⟨#[]⟩,.bool false])|some t=>.returned (.tuple #[.string (mkB (t.map UInt8.ofNat)),.bool true])):=by
   intro o ho
   unfold uxR
   rw [hx2_P n (bl s) (by rw [bl_length];exact hn),ho]
   cases o <;> rfl
  have e2:Int.tmod (s.size:Int) 2=0:=by rw [hn,Int.tmod_eq_emod_of_nonneg (by omega)];omega
  have e3:Int.tdiv (s.size:Int) 2=(n:Int):=by rw [hn,Int.tdiv_eq_ediv_of_nonneg (by omega)];omega
  have hmk:=fun w=>run_make_row' (P:=Tryz.prog) 32 5 (.int .u8 0) 1 Tryz.underlying32 info5 rfl .i64 .i64 n (by omega) (by omega) w
  have hn':=hide hn
  have hsz:∀ k,k<n→2 * k<s.size∧2 * k+1<s.size:=fun k hk=>by omega
  have hsz':=hide hsz
  have hnb:n≤50000:=by omega
  have hsN:Hid ((s.size:Int)=2 * n):=(by omega:(s.size:Int)=2 * n)
  clear hn hs hsz
  go_enter Tryz.func151, Tryz.ntmps151
  go_wp2
  go_loopw [20] (fun i wr=>∃ (k:Nat) (t:List Nat),k≤n∧i=.int .i64 k∧Hid (hxP (bl s) k=some t)∧Hid (Arr wr w.heap.size 5 (t++List.replicate (n - k) 0))∧Hid (Below w.heap.size w wr)) (fun i _=>n - (intOf i).toNat)
  case atStart =>
   refine ⟨0,[],by omega,rfl,rfl,?_,below_al (Below.refl _ _)⟩
   exact arr_new w 5 n _ (made_b n)
  case round =>
   obtain ⟨k,t,hk,rfl,hT,hA,hB⟩:=hrel
   by_cases hlt:k<n
   ·obtain ⟨hs1,hs2⟩:=hsz'.out k hlt
    have hg1:=hide (show (bl s)[2 * k]?=some s[2 * k] by rw [List.getElem?_eq_getElem (by rw [bl_length];exact hs1),bl_get s _ hs1])
    have hg2:=hide (show (bl s)[2 * k+1]?=some s[2 * k+1] by rw [List.getElem?_eq_getElem (by rw [bl_length];exact hs2),bl_get s _ hs2])
    have hlt':(k:Int)<n:=by omega
    have ht1:(2 * (k:Int)).toNat=2 * k:=by omega
    have ht2:(2 * (k:Int)+1).toNat=2 * k+1:=by omega
    have hw1:IntKind.i64.wrap (2 * (k:Int))=2 * (k:Int):=by rw [IntKind.wrap_i64] <;> omega
    have hw2:IntKind.i64.wrap (2 * (k:Int)+1)=2 * (k:Int)+1:=by rw [IntKind.wrap_i64] <;> omega
    have hi1:2 * (k:Int)<s.size:=by omega
    have hi2:2 * (k:Int)+1<s.size:=by omega
    obtain ⟨a,ha⟩:∃ a,s[2 * k]=a:=⟨_,rfl⟩
    obtain ⟨b,hb⟩:∃ b,s[2 * k+1]=b:=⟨_,rfl⟩
    rw [ha] at hg1
    rw [hb] at hg2
    have hA1:=fun (nq:Nat)=>(show Arr (wr.drewN nq) w.heap.size 5 (t++List.replicate (n - k) 0) from hA.out)
    have htl:=hxP_len _ _ _ hT.out
    cases hxa:hxD a with
    | none =>
     have hno:Hid (hxP (bl s) n=none):=by
      have:=hxP_none (bl s) (k+1) (by rw [hxP,hT.out,hg1.out,hg2.out];simp only [hxa]) (n - (k+1))
      rw [show k+1+(n - (k+1))=n by omega] at this
      exact this
     obtain ⟨xb,bb,RB⟩:∃ (xb:Int) (bb:Bool),Hid (hdR b=.returned (.tuple #[.int .i64 xb,.bool bb])):=by
      cases hq:hxD b with
      | none=>exact ⟨0,false,by show _=_;unfold hdR;rw [hq]⟩
      | some y=>exact ⟨(y.val:Int),true,by show _=_;unfold hdR;rw [hq]⟩
     have RA:Hid (hdR a=.returned (.tuple #[.int .i64 0,.bool false])):=by show _=_;unfold hdR;rw [hxa]
     clear hA1 hxa
     go_wp2_with (go_at_call 180;refine (hdig_q _ _).mono ?_;rintro e w1 ⟨he,hw1⟩;(first|rw [RA.out] at he|rw [RB.out] at he);subst he;have hws:=hw1.symm;clear hw1;subst hws)
     exact bodyPost_ret (v:=.tuple #[.string ⟨#[]⟩,.bool false]) (by simp [results,Tryz.results151,go_sem]) rfl ⟨by rw [hr.out none hno.out],hB.out.trans ⟨rfl,rfl,rfl,Nat.le_refl _,fun _ _=>rfl⟩⟩
    | some x =>
     have RA:Hid (hdR a=.returned (.tuple #[.int .i64 (x.val:Int),.bool true])):=by show _=_;unfold hdR;rw [hxa]
     have hx0:decide ((x.val:Int)<0)=false:=by simp
     cases hxb:hxD b with
     | none =>
      have RB:Hid (hdR b=.returned (.tuple #[.int .i64 0,.bool false])):=by show _=_;unfold hdR;rw [hxb]
      have hno:Hid (hxP (bl s) n=none):=by
       have:=hxP_none (bl s) (k+1) (by rw [hxP,hT.out,hg1.out,hg2.out];simp only [hxa,hxb]) (n - (k+1))
       rw [show k+1+(n - (k+1))=n by omega] at this
       exact this
      clear hA1 hxa hxb
      go_wp2_with (go_at_call 180;refine (hdig_q _ _).mono ?_;rintro e w1 ⟨he,hw1⟩;(first|rw [RA.out] at he|rw [RB.out] at he);subst he;have hws:=hw1.symm;clear hw1;subst hws)
      exact bodyPost_ret (v:=.tuple #[.string ⟨#[]⟩,.bool false]) (by simp [results,Tryz.results151,go_sem]) rfl ⟨by rw [hr.out none hno.out],hB.out.trans ⟨rfl,rfl,rfl,Nat.le_refl _,fun _ _=>rfl⟩⟩
     | some y =>
      have RB:Hid (hdR b=.returned (.tuple #[.int .i64 (y.val:Int),.bool true])):=by show _=_;unfold hdR;rw [hxb]
      have hy0:decide ((y.val:Int)<0)=false:=by simp
      have hor:=or16b x y
      have hst:Hid (hxP (bl s) (k+1)=some (t++[x.val * 16+y.val])):=by
       show _=_
       rw [hxP,hT.out,hg1.out,hg2.out];simp only [hxa,hxb]
      have hxl:=x.isLt
      have hyl:=y.isLt
      obtain ⟨v,hv⟩:∃ v,x.val * 16+y.val=v:=⟨_,rfl⟩
      rw [hv] at hor hst
      have hv8:IntKind.u8.wrap (v:Int)=(v:Int):=by rw [IntKind.wrap_u8] <;> omega
      have hcl:∀ nq,(wr.drewN nq).cell? ⟨w.heap.size,k,none⟩=some (.int .u8 0):=fun nq=>by
       have:=(hA1 nq).cell k (by rw [List.length_append,htl,List.length_replicate];omega)
       rw [this,List.getElem_append_right (by omega),List.getElem_replicate]
       rfl
      have hfz:∀ nq,(wr.drewN nq).frozen? ⟨w.heap.size,k,none⟩=false:=fun nq=>(hA1 nq).frozen k
      have hset:Hid (∀ nq,Arr ((wr.drewN nq).setCell ⟨w.heap.size,k,none⟩ (.int .u8 (v:Int))) w.heap.size 5 ((t++[v])++List.replicate (n - (k+1)) 0)):=fun nq=>by
       have:=(hA1 nq).set k v
       rw [List.set_append_right _ _ (by omega),htl,Nat.sub_self,show n - k=(n - (k+1))+1 by omega,List.replicate_succ,List.set_cons_zero] at this
       rw [List.append_assoc]
       exact this
      have hx16:IntKind.i64.wrap ((x.val:Int) * 16)=(x.val:Int) * 16:=by rw [IntKind.wrap_i64] <;> omega
      have hcl0:wr.cell? ⟨w.heap.size,k,none⟩=some (.int .u8 0):=hcl 0
      have hfz0:wr.frozen? ⟨w.heap.size,k,none⟩=false:=hfz 0
      clear hA1 hxa hxb hv hcl hfz
      go_wp2_with (go_at_call 180;refine (hdig_q _ _).mono ?_;rintro e w1 ⟨he,hw1⟩;(first|rw [RA.out] at he|rw [RB.out] at he);subst he;have hws:=hw1.symm;clear hw1;subst hws)
      refine ⟨⟨k+1,t++[v],by omega,by go_num,hst.out,hset.out 0,?_⟩,by simp [intOf];omega⟩
      exact hB.out.setCell (p:=⟨w.heap.size,k,none⟩) (Nat.le_refl _) _
   ·have hke:k=n:=by omega
    subst hke
    have htl:=hxP_len _ _ _ hT.out
    have hcv:(convert 32 9 (.slice (some ⟨w.heap.size,0,none⟩) k k)).run Tryz.prog wr=.ok (.string (mkB (t.map UInt8.ofNat))) wr:=by
     have:=run_convert_bytes_back (P:=Tryz.prog) wr 32 9 5 ⟨w.heap.size,0,none⟩ k (t.map UInt8.ofNat) Tryz.underlying32 Tryz.underlying5 Tryz.underlying9 (fun j hj=>by
      rw [List.length_map] at hj
      have hc:=hA.out.cell j (by rw [List.length_append];omega)
      rw [show (⟨w.heap.size,0,none⟩:Addr).add j=⟨w.heap.size,j,none⟩ by unfold Addr.add;split <;> simp_all,hc,List.getElem_append_left hj,List.getElem_map]
      rw [UInt8.toNat_ofNat_of_lt' (hxP_lt _ _ _ hT.out _ (List.getElem_mem _))])
     rw [List.length_map,htl] at this
     exact this
    go_wp2
    exact bodyPost_ret (v:=.tuple #[.string (mkB (t.map UInt8.ofNat)),.bool true]) (by simp [results,Tryz.results151,go_sem]) rfl ⟨by rw [hr.out (some t) hT.out],hB.out⟩
 ·have hr:Hid (uxR s=.returned (.tuple #[.string ⟨#[]⟩,.bool false])):=by
   show _=_
   unfold uxR
   rw [hx2_odd n (bl s) (by rw [bl_length];exact hn)]
  have e2:Int.tmod (s.size:Int) 2=1:=by rw [hn,Int.tmod_eq_emod_of_nonneg (by omega)];omega
  rw [hr.out]
  clear hn
  go_enter Tryz.func151, Tryz.ntmps151
  go_wp2
  exact bodyPost_ret (v:=.tuple #[.string ⟨#[]⟩,.bool false]) (by simp [results,Tryz.results151,go_sem]) rfl ⟨rfl,Below.refl _ _⟩
theorem evZ0 (k:Int):EvZ (zr k):=⟨by show (ByteArray.size ⟨#[]⟩)≤_;decide,by show (ByteArray.size ⟨#[]⟩)≤_;decide,rfl⟩
theorem zN (s:ByteArray)(h:s.size≤100000):EvZ (evN s):=⟨by show s.size≤_;omega,by show (ByteArray.size ⟨#[]⟩)≤_;decide,rfl⟩
theorem zT (s:ByteArray)(h:s.size≤100000):EvZ (evText s):=⟨by show s.size≤_;omega,by show (ByteArray.size ⟨#[]⟩)≤_;decide,rfl⟩
theorem zB (s:ByteArray)(h:s.size≤100000):EvZ (evBytes s):=⟨by show s.size≤_;omega,by show (ByteArray.size ⟨#[]⟩)≤_;decide,rfl⟩
theorem zK (k:Int)(s:ByteArray)(h:s.size≤100000):EvZ {zr k with text:=s}:=⟨by show s.size≤_;omega,by show (ByteArray.size ⟨#[]⟩)≤_;decide,rfl⟩
theorem zF (b:Nat):EvZ (evFloat b):=⟨by show (ByteArray.size ⟨#[]⟩)≤_;decide,by show (ByteArray.size ⟨#[]⟩)≤_;decide,rfl⟩
theorem zFl (k:Int)(b:Bool):EvZ {zr k with flag:=b}:=⟨by show (ByteArray.size ⟨#[]⟩)≤_;decide,by show (ByteArray.size ⟨#[]⟩)≤_;decide,rfl⟩
section
variable {W W1 W2 : World} {E0 : Int} {g : Tg} {m : Tm} {st : Tl}
theorem TP.base {o:Sum Int Tl} {e:Ending} (h:TM E0 W g m st)(hb:Below W.heap.size W W1)(k:TP E0 W1 g m o e W2):TP E0 W g m o e W2:=TP.trans (TF.of hb h.lo) (OB.refl _ _) k
set_option maxRecDepth 100000 in
theorem tellN_q (h:TM E0 W g m st)(s:ByteArray)(hs:s.size≤100000)(hd:(parseF (bl s)).2.1.size≤100000)(hn:st.n≤199990):Calls Tryz.prog 130 #[.pointer (some ⟨g.t,0,none⟩),.string s] W fun q w'=>TP E0 W g m (tellN E0 st s) q w':=by
 have H:=hide h
 have PA:=hide (fun w=>parse_any s w hs)
 have c0:W.cell? ⟨g.t,0,none⟩=some (.int .i64 E0):=(h.tb.cell 0).trans rfl
 clear h
 unfold tellN
 obtain ⟨⟨b,d,x,E⟩,hp⟩:∃ p,parseF (bl s)=p:=⟨_,rfl⟩
 rw [hp] at PA hd ⊢
 clear hp
 simp only [retF] at PA hd ⊢
 by_cases h0:E=0
 ·subst h0
  rw [if_pos rfl]
  have T:=hide (fun w (hb:Below W.heap.size W w)=>tell_q (H.out.then hb) (evNum (b,d,x,0)) ⟨by show (ByteArray.size ⟨#[]⟩)≤_;decide,by show d.size≤_;omega,rfl⟩ (by omega))
  obtain ⟨o,ho⟩:∃ o,tellT E0 st (evNum (b,d,x,0))=o:=⟨_,rfl⟩
  rw [ho] at T ⊢
  clear ho
  simp only [evs,evNum,zr] at T
  clear c0
  cases o with
  | inl E =>
   go_enter Tryz.func130, Tryz.ntmps130
   go_wp2_with (first|(go_at_call 149;refine (PA.out _).mono ?_;rintro q w1 ⟨rfl,hb1⟩;have B1:Hid (Below W.heap.size W w1):=below_then (by repeat (first|exact Below.refl _ _|refine Below.drew ?_|refine below_al ?_)) hb1;have M1:=hide (H.out.then B1.out);have hz1:g.t<w1.heap.size:=M1.out.lt;have d0:w1.cell? ⟨g.t,0,none⟩=some (.int .i64 E0):=(M1.out.tb.cell 0).trans rfl;clear hb1)|(go_at_call 128;refine (T.out _ (below_then B1.out (by repeat (first|exact Below.refl _ _|refine Below.drew ?_|refine below_al ?_)))).mono ?_;rintro q w2 hp;have K:=hide (TP.base H.out (below_then B1.out (by repeat (first|exact Below.refl _ _|refine Below.drew ?_|refine below_al ?_))) hp);obtain ⟨_,rfl,_⟩:=hp))
   exact ⟨rfl,K.out⟩
  | inr x =>
   go_enter Tryz.func130, Tryz.ntmps130
   go_wp2_with (first|(go_at_call 149;refine (PA.out _).mono ?_;rintro q w1 ⟨rfl,hb1⟩;have B1:Hid (Below W.heap.size W w1):=below_then (by repeat (first|exact Below.refl _ _|refine Below.drew ?_|refine below_al ?_)) hb1;have M1:=hide (H.out.then B1.out);have hz1:g.t<w1.heap.size:=M1.out.lt;have d0:w1.cell? ⟨g.t,0,none⟩=some (.int .i64 E0):=(M1.out.tb.cell 0).trans rfl;clear hb1)|(go_at_call 128;refine (T.out _ (below_then B1.out (by repeat (first|exact Below.refl _ _|refine Below.drew ?_|refine below_al ?_)))).mono ?_;rintro q w2 hp;have K:=hide (TP.base H.out (below_then B1.out (by repeat (first|exact Below.refl _ _|refine Below.drew ?_|refine below_al ?_))) hp);obtain ⟨_,rfl,_⟩:=hp))
   go_end0
   exact K.out
 ·rw [if_neg h0]
  have n0:(E==0)=false:=by simpa using h0
  by_cases h2:E=2
  ·subst h2
   rw [if_pos rfl]
   clear h0 n0
   have P:=hide (fun w (hb:Below W.heap.size W w)=>pass_t (H.out.then hb))
   cases hp:passT st with
   | inl E =>
    rw [hp] at P
    clear hp
    simp only [bnd]
    go_enter Tryz.func130, Tryz.ntmps130
    go_wp2_with (first|(go_at_call 149;refine (PA.out _).mono ?_;rintro q w1 ⟨rfl,hb1⟩;have B1:Hid (Below W.heap.size W w1):=below_then (by repeat (first|exact Below.refl _ _|refine Below.drew ?_|refine below_al ?_)) hb1;have M1:=hide (H.out.then B1.out);have hz1:g.t<w1.heap.size:=M1.out.lt;have d0:w1.cell? ⟨g.t,0,none⟩=some (.int .i64 E0):=(M1.out.tb.cell 0).trans rfl;clear hb1)|(go_at_call 86;refine (P.out _ (below_then B1.out (by repeat (first|exact Below.refl _ _|refine Below.drew ?_|refine below_al ?_)))).mono ?_;rintro q w2 hp;have K:=hide (TP.base H.out (below_then B1.out (by repeat (first|exact Below.refl _ _|refine Below.drew ?_|refine below_al ?_))) hp);obtain ⟨hp1,rfl,hp2⟩:=hp))
    exact ⟨rfl,K.out⟩
   | inr y =>
    have hyn:=passT_n hp
    rw [hp] at P
    clear hp
    simp only [bnd]
    have T:=hide (fun w m1 (h1:TM E0 w g m1 y)=>tell_q h1 (zr 1) (evZ0 1) (by omega))
    obtain ⟨o,ho⟩:∃ o,tellT E0 y (zr 1)=o:=⟨_,rfl⟩
    rw [ho] at T ⊢
    clear ho hyn
    simp only [evs,zr] at T
    cases o with
    | inl E =>
     go_enter Tryz.func130, Tryz.ntmps130
     go_wp2_with (first|(go_at_call 149;refine (PA.out _).mono ?_;rintro q w1 ⟨rfl,hb1⟩;have B1:Hid (Below W.heap.size W w1):=below_then (by repeat (first|exact Below.refl _ _|refine Below.drew ?_|refine below_al ?_)) hb1;have M1:=hide (H.out.then B1.out);have hz1:g.t<w1.heap.size:=M1.out.lt;have d0:w1.cell? ⟨g.t,0,none⟩=some (.int .i64 E0):=(M1.out.tb.cell 0).trans rfl;clear hb1)|(go_at_call 86;refine (P.out _ (below_then B1.out (by repeat (first|exact Below.refl _ _|refine Below.drew ?_|refine below_al ?_)))).mono ?_;rintro q w2 ⟨hp1,rfl,m2,hp2,hp3⟩;have F2:Hid (TF g m W w2):=(TF.of (below_then B1.out (by repeat (first|exact Below.refl _ _|refine Below.drew ?_|refine below_al ?_))) H.out.lo).trans (OB.refl _ _) hp1;have M2:=hide hp2;have O2:Hid (OB W m.told m2.told):=(OB.refl _ _).trans hp3 (show Below W.heap.size W _ from (below_then B1.out (by repeat (first|exact Below.refl _ _|refine Below.drew ?_|refine below_al ?_)))).size;clear hp1 hp2 hp3)|(go_at_call 128;refine (T.out _ _ M2.out).mono ?_;rintro q w3 hp;have K:=hide (TP.trans F2.out O2.out hp);obtain ⟨_,rfl,_⟩:=hp))
     exact ⟨rfl,K.out⟩
    | inr z =>
     go_enter Tryz.func130, Tryz.ntmps130
     go_wp2_with (first|(go_at_call 149;refine (PA.out _).mono ?_;rintro q w1 ⟨rfl,hb1⟩;have B1:Hid (Below W.heap.size W w1):=below_then (by repeat (first|exact Below.refl _ _|refine Below.drew ?_|refine below_al ?_)) hb1;have M1:=hide (H.out.then B1.out);have hz1:g.t<w1.heap.size:=M1.out.lt;have d0:w1.cell? ⟨g.t,0,none⟩=some (.int .i64 E0):=(M1.out.tb.cell 0).trans rfl;clear hb1)|(go_at_call 86;refine (P.out _ (below_then B1.out (by repeat (first|exact Below.refl _ _|refine Below.drew ?_|refine below_al ?_)))).mono ?_;rintro q w2 ⟨hp1,rfl,m2,hp2,hp3⟩;have F2:Hid (TF g m W w2):=(TF.of (below_then B1.out (by repeat (first|exact Below.refl _ _|refine Below.drew ?_|refine below_al ?_))) H.out.lo).trans (OB.refl _ _) hp1;have M2:=hide hp2;have O2:Hid (OB W m.told m2.told):=(OB.refl _ _).trans hp3 (show Below W.heap.size W _ from (below_then B1.out (by repeat (first|exact Below.refl _ _|refine Below.drew ?_|refine below_al ?_)))).size;clear hp1 hp2 hp3)|(go_at_call 128;refine (T.out _ _ M2.out).mono ?_;rintro q w3 hp;have K:=hide (TP.trans F2.out O2.out hp);obtain ⟨_,rfl,_⟩:=hp))
     go_end0
     exact K.out
  ·rw [if_neg h2]
   have n2:(E==2)=false:=by simpa using h2
   go_enter Tryz.func130, Tryz.ntmps130
   go_wp2_with (go_at_call 149;refine (PA.out _).mono ?_;rintro q w1 ⟨rfl,hb1⟩;have B1:Hid (Below W.heap.size W w1):=below_then (by repeat (first|exact Below.refl _ _|refine Below.drew ?_|refine below_al ?_)) hb1;have M1:=hide (H.out.then B1.out);have hz1:g.t<w1.heap.size:=M1.out.lt;have d0:w1.cell? ⟨g.t,0,none⟩=some (.int .i64 E0):=(M1.out.tb.cell 0).trans rfl;clear hb1)
   exact ⟨rfl,(TF.of B1.out H.out.lo).trans (OB.refl _ _) (TF.of (by repeat (first|exact Below.refl _ _|refine Below.drew ?_|refine below_al ?_)) (by have:=M1.out.lo;omega)),rfl,_,(M1.out.then (by repeat (first|exact Below.refl _ _|refine Below.drew ?_|refine below_al ?_))).tb⟩
end
end Go.Proofs.YthodiandebahdaaGreatDoor
