/- Merged by program: ElBuild, ElOne. -/
import Derived.Test.YthodiandebahdaaGreatDoorZq30
namespace Go.Proofs.YthodiandebahdaaGreatDoor
open Go.RowKit
set_option linter.unusedSimpArgs false
set_option linter.unusedVariables false
set_option maxHeartbeats 8000000
theorem step_name {w:World} {ops:Array Oper} {o:Oper} {a:Act} {K:Act→World→Prop} {Q:Exit→Act→World→Prop} {E:Prop} (hgd:o.guard=none)(s x:Operand)(ho:o.op=.call {callee:=.builtin .append,args:=#[s,x],argTypes:=#[26,26]})
  (B:Nat)(v:Value)(n:Nat)(xs:List Value)(hs:a.eval s=v)(hown:w.ownsRow B 9 1 v n xs)(g c:Nat)(hx:a.eval x=.slice (some ⟨g,0,none⟩) 1 c)(t:ByteArray)
  (hnews:w.cell? ⟨g,0,none⟩=some (.string t))(hm:n≤200000)(hB:B≤w.heap.size)
  (h:∀ av c' w',Hid (w'.ownsRow B 9 1 (.slice av (n+1) c') (n+1) (xs++[.string t]))→Hid (w.grownBy w' v.ownBlock)→Hid ((Value.slice av (n+1) c').ownBlock=v.ownBlock∨(Value.slice av (n+1) c').ownBlock=some w.heap.size)→K (a.put o.dst (.slice av (n+1) c')) w') :
  if Region.wanted o (yielded ops a.tmps)=true then Oper.wp Tryz.prog o a w K Q else E:=by
 have hw:Region.wanted o (yielded ops a.tmps)=true:=by simp [Region.wanted,hgd]
 rw [if_pos hw]
 obtain ⟨i0,hi,hz0,hz1,hz2⟩:=info_parts info9
 obtain ⟨v',w',hr,h1,h2,h3,h4⟩:=run_append_own_at (P:=Tryz.prog) w B 26 o.type 9 i0 _ 1 16 Tryz.underlying26 hi hz0 hz1 hz2 rfl (by decide) v n xs hown ⟨g,0,none⟩ 1 c [.string t] rfl (by
  intro j u hj
  have h0:j=0:=by have:=(List.getElem?_eq_some_iff.1 hj).1;simpa using this
  subst h0
  cases hj
  exact hnews) (by simp [Value.oneCell']) (by unfold maxLen;omega) (by omega) hB
 unfold Oper.wp execOp
 simp only [ho,resolve,invoke,builtin,Sem.run_bind,Sem.run_pure,Result.andThen_ok,List.map_toArray,List.map_cons,List.map_nil,hs,hx,hr]
 rcases h1.2 with ⟨rfl,e⟩|⟨g',cap,cur,rfl,_⟩
 ·omega
 ·exact h _ _ w' h1 h2 h4
theorem drew_heap (X:World)(q:Nat):X.drew.heap[q]?=X.heap[q]?:=rfl
def slLen:Value→Nat
 | .slice _ n _=>n
 | _=>0
theorem Bx.drew {W:World} {i:Nat} {h:Hd} {ns ls:Value} (q:Bx W i h ns ls):Bx W.drew i h ns ls:=q.below (Below.refl _ _).drew
theorem KR.leaf {n:Nat} {w W:World} {h:Hd} (hn:h.names=[])(hs:w.heap.size≤W.heap.size):KR (n+1) W (h,[]) (.slice none 0 0) (.slice none 0 0) w.heap.size W.heap.size :=
 ⟨hs,Nat.le_refl _,fun W' _=>⟨Or.inl ⟨rfl,hn⟩,Or.inl ⟨rfl,rfl⟩⟩⟩
set_option maxRecDepth 100000 in
theorem build_any:∀ (n:Nat)(x:VT n),NF n x→∀ (rest:List Hd)(b o c:Nat)(w:World),EL w b o (fl n x++rest)→b<w.heap.size→(fl n x++rest).length≤c→c≤maxLen→2≤c→(fl n x++rest).length≤199999 →
  Calls Tryz.prog 37 #[.slice (some ⟨b,o,none⟩) (fl n x++rest).length c] w fun e w'=>∃ ns ls sv,e=.returned (.tuple #[.agg (vals (vhd n x) ns ls),sv])∧Hid (KR n w' x ns ls w.heap.size w'.heap.size)∧Hid (Below w.heap.size w w')∧(rest≠[]→sv=.slice (some ⟨b,o+(fl n x).length * 7,none⟩) rest.length (c - (fl n x).length)):=by
 intro n
 induction n with
 | zero=>intro x;exact Empty.elim x
 | succ n ih =>
  intro x nf rest b o c w he hb hc hm hc2 hL
  obtain ⟨h,l⟩:=x
  have ih':=hide ih
  clear ih
  obtain ⟨es,hes⟩:∃ es,fl (n+1) (h,l)++rest=hd0 h :: es:=by
   by_cases h7:h.kind<7
   ·exact ⟨_,post_leaf n h l rest h7⟩
   ·exact ⟨_,post_zero n h l rest h7⟩
  rw [hes] at he hc hL ⊢
  obtain ⟨c0,c1,c2,c3,c4,c5,c6⟩:=range7 he.head
  have hd:=hide (head_ex (hd0 h))
  have ml:maxLen=9223372036854775807:=rfl
  simp only [evs,vals,hd0] at hd
  simp only [hd0] at c0 c1 c2 c3 c4 c5 c6
  simp only [List.length_cons] at hc hL
  show Calls _ _ #[.slice (some ⟨b,o,none⟩) (es.length+1) c] _ _
  have h1:1≤es.length+1:=by omega
  have h2:es.length+1≤c:=hc
  have hc3:¬ (c=1):=by omega
  have hc4:1<c:=by omega
  have nf':=hide nf
  have he':=hide he
  have hes':=hide hes
  clear nf he hes
  go_enter Tryz.func37, Tryz.ntmps37
  go_wp2_with fail
  rename_i Q K hK
  have key:∀ (V:Nat)(W:World),Below w.heap.size w W→Bx W V h (.slice none 0 0) (.slice none 0 0)→Bx W w.heap.size (zr 0) (.slice none 0 0) (.slice none 0 0)→w.heap.size<V →
    K {tmps:=#[.slice (some ⟨b,o+7,none⟩) es.length (c - 1),undef,.pointer (some ⟨w.heap.size,0,none⟩),.slice none 0 0,.pointer (some ⟨V,0,none⟩),undef,.slice (some ⟨b,o,none⟩) (es.length+1) c,.pointer (some ⟨b,o,none⟩),.agg #[.int .i64 h.kind,.bool h.flag,.bool h.neg,.string h.dig,.int .i64 h.exp,.int .u64 h.bits,.string h.text],.agg #[.int .i64 h.kind,.bool h.flag,.bool h.neg,.string h.dig,.int .i64 h.exp,.int .u64 h.bits,.string h.text,.slice none 0 0,.slice none 0 0],.slice (some ⟨b,o,none⟩) (es.length+1) c,.slice (some ⟨b,o+7,none⟩) es.length (c - 1),undef,undef,undef,undef,undef,undef,undef,undef,undef,undef,undef,undef,undef,undef,undef,undef,undef,undef,undef,undef,undef,undef,undef,undef,undef,undef,undef,undef,undef,undef,undef,undef,undef,undef,undef,undef,undef,undef],defers:=[]} W:=by
   intro V W hbW hbx hR hV
   have hVl:=hbx.lt
   refine hK _ _ ?_
   clear hK hd c0 c1 c2 c3 c4 c5 c6
   obtain ⟨d0,d1,d2,d3,d4,d5,d6,d7,d8⟩:=hbx.cells
   by_cases h7:h.kind<7
   ·have hes2:=hes'.out
    rw [post_leaf n h l rest h7] at hes2
    have hes3:rest=es:=by simpa using hes2
    subst hes3
    have hl0:l=[]:=nf'.out.2.2.1 h7
    subst hl0
    have hn0:h.names=[]:=nf'.out.2.2.2.2.1 (by show h.kind≠8;omega)
    obtain ⟨r0,r1,r2,r3,r4,r5,r6,r7,r8⟩:=hR.cells
    have fz:=hR.frz
    simp only [zr] at r0 r1 r2 r3 r4 r5 r6
    have hf1:(fl (n+1) (h,([]:List (VT n)))).length=1:=by rw [fl_succ,if_pos h7];rfl
    clear hes2
    go_wp2_with fail
    refine bodyPost_ret (v:=.tuple #[.agg #[.int .i64 h.kind,.bool h.flag,.bool h.neg,.string h.dig,.int .i64 h.exp,.int .u64 h.bits,.string h.text,.slice none 0 0,.slice none 0 0],.slice (some ⟨b,o+7,none⟩) rest.length (c - 1)]) (by simp [results,Tryz.results37,go_sem, *]) rfl ⟨.slice none 0 0,.slice none 0 0,_,rfl,?_,?_,fun _=>by rw [hf1]⟩
    ·exact KR.leaf hn0 (by simp;exact hbW.size)
    ·show Below _ _ _
     iterate 9 refine Below.setCell ?_ (by show _≤_;exact Nat.le_refl _) _
     exact hbW
   ·have hes2:=hes'.out
    rw [post_zero n h l rest h7] at hes2
    have hes3:post n h l rest 0=es:=by simpa using hes2
    subst hes3
    have h7b:¬ (h.kind<7):=h7
    have H0:=hide (LJ.start (n:=n) (l:=l) hbW (Nat.le_of_lt hV) hbx)
    have HR0:=hide hR
    have hElb:=hide (EL.tail he'.out)
    have hc1':1≤c:=by omega
    clear hes2 hbx hR
    go_wp2_with fail
    go_loopw [0] (fun u W'=>∃ (k:Nat)(nv lv:Value)(p:Nat),u=.slice (some ⟨b,o+p * 7,none⟩) (post n h l rest k).length (c - p)∧k≤l.length∧p+(post n h l rest k).length=(post n h l rest 0).length+1∧1≤p∧Hid (LJ n l h w V k (if h.kind=8 then h.names.take k else []) nv lv W'∧EL w b (o+p * 7) (post n h l rest k)∧Bx W' w.heap.size (zr 0) (.slice none 0 0) (.slice none 0 0))) (fun u _=>slLen u)
    case atStart=>exact ⟨0,.slice none 0 0,.slice none 0 0,1,by simp,Nat.zero_le _,by omega,Nat.le_refl _,hide ⟨by simpa using H0.out,by simpa using hElb.out,HR0.out⟩⟩
    case round =>
     obtain ⟨k,nv,lv,p,rfl,hkl,hp,hp1,HH⟩:=hrel
     obtain ⟨HJ,HE,HR⟩:=HH.out
     clear H0 HR0 hElb HH d0 d1 d2 d3 d4 d5 d6 d7 d8
     obtain ⟨d0,d1,d2,d3,d4,d5,d6,d7,d8⟩:=HJ.box.cells
     have fV:=HJ.box.frz
     have hVr:=HJ.box.lt
     have hbr:b<wr.heap.size:=Nat.lt_of_lt_of_le hb HJ.below.size
     have hpl:=post_len n h l rest 0
     have hl5:l.length≤199999:=by omega
     clear hpl
     by_cases hk:k<l.length
     ·obtain ⟨xs,hx,hall⟩:=HJ.row
      have hps:=post_succ n h l rest k hk
      have hpn:=post_ne n h l rest (k+1)
      have nfk:NF n l[k]:=nf'.out.2.2.2.2.2 _ (List.getElem_mem hk)
      by_cases h8:h.kind=8
      ·have hnl:h.names.length=l.length:=nf'.out.2.2.2.1 h8
       have hkn:k<h.names.length:=by omega
       have hp0:preN h k=[evN h.names[k]]:=by unfold preN;rw [if_pos h8];simp [hkn]
       rw [hp0] at hps
       have hps2:post n h l rest k=evN h.names[k] :: (fl n l[k]++post n h l rest (k+1)):=hps
       obtain ⟨t,ht⟩:∃ t,h.names[k]=t:=⟨_,rfl⟩
       obtain ⟨fs,hfs⟩:∃ fs,fl n l[k]++post n h l rest (k+1)=fs:=⟨_,rfl⟩
       rw [ht,hfs] at hps2
       rw [hps2] at hp HE ⊢
       obtain ⟨e0,e1,e2,e3,e4,e5,e6⟩:=range7 (rangeAt_below HE.head HJ.below hb)
       simp only [evN,zr] at e0 e6
       have q8:(h.kind==8)=true:=by simpa using h8
       have q8':decide (h.kind=8)=true:=by simpa using h8
       simp only [List.length_cons] at hp ⊢
       have hf1:2≤fs.length:=by rw [←hfs];simp only [List.length_append];have:=fl_pos n l[k];have:=List.length_pos_iff.2 hpn;omega
       have g2:fs.length+1≤c - p:=by omega
       have g1:¬ (c - p=1):=by omega
       have g3:c - p≤maxLen:=by omega
       have HJ':=hide HJ
       have HE':=hide HE
       have HR':=hide HR
       have Hx:=hide hx
       have Hall:=hide hall
       have hnf:=hide nfk
       have hnn:=hide HJ.nrow
       have hfs':=hide hfs
       clear HJ HE HR hx hall nfk hps hps2 e1 e2 e3 e4 e5 hp0 hfs h7 h7b
       rw [if_pos h8] at hnn HJ'
       have hnk:(h.names.take k).length=k:=by simp;omega
       obtain ⟨na,nc,rfl⟩:=own_shape hnn.out
       obtain ⟨la,lc,rfl⟩:=own_shape Hx.out
       rw [hnk] at d7 HJ' hnn
       have d7A:=fun ob=>(HJ'.out.then (W1:=wr.alloc ob) (below_al (Below.refl _ _))).box.cells.2.2.2.2.2.2.2.1
       go_wp2_with fail
       go_region_law (refine step_name rfl (.tmp 26) (.tmp 31) rfl (V+1) _ k (scs (h.names.take k)) rfl (by have:=hnn.out;unfold OwnS at this;rw [hnk] at this;exact ownsRow_of this fun g hg hlt=>(show Below wr.heap.size wr _ by repeat (first|exact Below.refl _ _|refine Below.drew ?_|refine below_al ?_)).block g hlt) wr.heap.size 1 rfl t (one_cell (w:=wr) (Below.refl _ _) 0) (by omega) (by simp;omega) ?_;intro av5 c5 w5 ho5 hg5 hat5;have BX:=hide (HJ'.out.name_box (show Below wr.heap.size wr _ by repeat (first|exact Below.refl _ _|refine Below.drew ?_|refine below_al ?_)) hg5.out);have N5:=hide (LJ.name (s:=t) HJ'.out (show Below wr.heap.size wr _ by repeat (first|exact Below.refl _ _|refine Below.drew ?_|refine below_al ?_)) hg5.out (by rw [hnk];exact ho5.out) hat5.out);have L5:=hide (HJ'.out.name_low (nv':=.slice av5 (k+1) c5) (show Below wr.heap.size wr _ by repeat (first|exact Below.refl _ _|refine Below.drew ?_|refine below_al ?_)) hg5.out);obtain ⟨j0,j1,j2,j3,j4,j5,j6,j7,j8⟩:=BX.out.cells;have fJ:=BX.out.frz;clear ho5 hg5 hat5)
       all_goals
        obtain ⟨Wc,hWc⟩:∃ Wc,w5.setCell ⟨V,7,none⟩ (.slice av5 (k+1) c5)=Wc:=⟨_,rfl⟩
        have HJ5:=N5
        rw [hWc] at HJ5 L5 ⊢
        clear N5 BX j0 j1 j2 j3 j4 j5 j6 j7 j8 fJ hWc d0 d1 d2 d3 d4 d5 d6 d7 d8 fV d7A Hx Hall hnn e0 e6
        have hbx5:=HJ5.out.box
        obtain ⟨d0,d1,d2,d3,d4,d5,d6,d7,d8⟩:=hbx5.cells
        have hVc:=hbx5.lt
        have hbc:Below w.heap.size w Wc:=HJ5.out.below
        obtain ⟨xs5,hx5,hall5⟩:=HJ5.out.row
        have Hx5:=hide hx5
        have Hall5:=hide hall5
        have cal:=hide (ih'.out l[k] hnf.out (post n h l rest (k+1)) b (o+p * 7+7) (c - p - 1) (Wc.alloc (.cells #[.int .i64 0,.bool false,.bool false,.string ⟨#[]⟩,.int .i64 0,.int .u64 0,.string ⟨#[]⟩,.slice none 0 0,.slice none 0 0] 29)) (by rw [hfs'.out];exact (EL.below (EL.tail HE'.out) hbc hb).below (below_al (Below.refl _ _)) (Nat.lt_of_lt_of_le hb hbc.size)) (by simp;have:=hbc.size;omega) (by rw [hfs'.out];omega) (by omega) (by omega) (by rw [hfs'.out];omega))
        rw [hfs'.out] at cal
        have hbC:=hide hbc
        have zC:w.heap.size≤Wc.heap.size:=hbc.size
        have hfl:Hid (fs.length=(fl n l[k]).length+(post n h l rest (k+1)).length):=by show _=_;rw [←hfs'.out];simp
        have hfp:=hide (fl_pos n l[k])
        obtain ⟨hdk,hhdk⟩:∃ hdk,vhd n l[k]=hdk:=⟨_,rfl⟩
        rw [hhdk] at cal
        simp only [vals] at cal
        clear hx5 hall5 hbx5 hbc
        go_wp2_with (go_at_call 37;refine Stop.out ?_)
        refine Stop.mk (cal.out.mono ?_)
        rintro e w2 ⟨ns2,ls2,sv,rfl,hk2,hb2,hsv⟩
        have hsv':=hsv hpn
        clear hsv
        subst hsv'
        obtain ⟨q1,q2,q3,q4,q5,q6,rfl,rfl⟩:=hk2.out.rd.shape
        have hB2:Hid (Below w.heap.size w w2):=below_then (below_al hbC.out) hb2.out
        have hz2:=hb2.out.size
        simp only [World.size_alloc] at hz2
        have bS:=hide ((bx_new Wc (zr 0) (.slice none 0 0) (.slice none 0 0)).below hb2.out)
        have bV2:=hide ((HJ5.out.box.below (below_al (Below.refl _ _))).below hb2.out)
        obtain ⟨s0,s1,s2,s3,s4,s5,s6,s7,s8⟩:=bS.out.cells
        have fS:=bS.out.frz
        obtain ⟨v0,v1,v2,v3,v4,v5,v6,v7,v8⟩:=bV2.out.cells
        simp only [zr] at s0 s1 s2 s3 s4 s5 s6
        have hSV:Wc.heap.size≠V:=by omega
        have hVS:V≠Wc.heap.size:=by omega
        clear d0 d1 d2 d3 d4 d5 d6 d7 d8 cal
        go_wp2_with (at_builtin;refine Stop.out ?_)
        refine Stop.mk ?_
        refine app_v rfl (.tmp 42) (.tmp 44) rfl (V+1) (.slice la k lc) k xs5 rfl (ownsRow_of Hx5.out fun g hg hlt=>?_) w2.heap.size 1 rfl hdk (.slice q1 q2 q3) (.slice q4 q5 q6) rfl rfl (range_new_at _ w2.heap.size hdk (.slice q1 q2 q3) (.slice q4 q5 q6) (by simp)) (by omega) (by simp;omega) ?_
        ·rw [Below.heap_alloc _ _ _ (by simp;omega)]
         simp only [heap_set_ne (show g≠Wc.heap.size by omega)]
         rw [hb2.out.block g (by simp;omega),Below.heap_alloc _ _ _ hlt]
        ·intro av6 c6 w6 ho6 hg6 hat6
         have B6:=hide (LJ.push_box HJ5.out Hx5.out (by simp;omega) (by intro q hq;rw [Below.heap_alloc _ _ _ (by simp;omega)];simp only [heap_set_ne (show q≠Wc.heap.size by omega)];rw [hb2.out.block q (by simp;omega),Below.heap_alloc _ _ _ hq]) hg6.out)
         have L6:=hide (LJ.push_low (lv':=.slice av6 (k+1) c6) HJ5.out Hx5.out (by simp;omega) (by intro q hq;rw [Below.heap_alloc _ _ _ (by simp;omega)];simp only [heap_set_ne (show q≠Wc.heap.size by omega)];rw [hb2.out.block q (by simp;omega),Below.heap_alloc _ _ _ hq]) hg6.out)
         have P6:=hide (LJ.push (w2:=w2) HJ5.out hk Hx5.out Hall5.out (by have:=hk2.out;rwa [World.size_alloc] at this) (by simp) (by intro q hq;rw [Below.heap_alloc _ _ _ (by simp;omega)];simp only [heap_set_ne (show q≠Wc.heap.size by omega)];rw [hb2.out.block q (by simp;omega),Below.heap_alloc _ _ _ hq]) (by intro q p1 p2;rw [Below.heap_alloc _ _ _ (by simp;omega)];simp only [heap_set_ne (show q≠Wc.heap.size by omega)]) (by refine below_al ?_;(iterate 9 (refine Below.setCell ?_ (by show _≤_;exact zC) _));exact hB2.out) hg6.out (by rw [hhdk];exact ho6.out) hat6.out)
         obtain ⟨j0,j1,j2,j3,j4,j5,j6,j7,j8⟩:=B6.out.cells
         have fJ:=B6.out.frz
         clear ho6 hg6 hat6 s0 s1 s2 s3 s4 s5 s6 s7 s8 fS v0 v1 v2 v3 v4 v5 v6 v7 v8
         go_wp2_with fail
         have hfl:=hfl.out
         have hfp:=hfp.out
         refine ⟨⟨k+1,.slice av5 (k+1) c5,.slice av6 (k+1) c6,p+1+(fl n l[k]).length,?_,by omega,by omega,by omega,hide ⟨?_,?_,?_⟩⟩,by simp only [slLen];omega⟩
         ·first|exact ⟨by omega,rfl,by omega⟩|exact sl_eq (by omega) (by omega)
         ·(try rw [if_pos h8]);rw [List.take_succ_eq_append_getElem hkn,ht]
          exact P6.out
         ·have:=(EL.drop (ps:=fl n l[k]) (by have:=EL.tail HE'.out;rw [←hfs'.out] at this;exact this))
          rw [show o+(p+1+(fl n l[k]).length) * 7=o+p * 7+7+(fl n l[k]).length * 7 by omega]
          exact this
         ·exact ⟨(L6.out _ hV).trans ((L5.out _ hV).trans HR'.out.at_)⟩
      ·have hp0:preN h k=[]:=if_neg h8
       rw [hp0] at hps
       have hps2:post n h l rest k=fl n l[k]++post n h l rest (k+1):=hps
       obtain ⟨fs,hfs⟩:∃ fs,fl n l[k]++post n h l rest (k+1)=fs:=⟨_,rfl⟩
       obtain ⟨tl,htl⟩:=fl_head n l[k]
       have hfh:fs=hd0 (vhd n l[k]) :: (tl++post n h l rest (k+1)):=by rw [←hfs,htl];rfl
       have hkk:=nfk.kind
       rw [hfs] at hps2
       rw [hps2] at hp HE ⊢
       have HEh:EL w b (o+p * 7) (hd0 (vhd n l[k]) :: (tl++post n h l rest (k+1))):=by rw [←hfh];exact HE
       obtain ⟨e0,e1,e2,e3,e4,e5,e6⟩:=range7 (rangeAt_below HEh.head HJ.below hb)
       simp only [hd0] at e0
       have q8:(h.kind==8)=false:=by simpa using h8
       have q8':decide (h.kind=8)=false:=by simpa using h8
       have qe:¬ ((vhd n l[k]).kind=11):=by omega
       have hf1:2≤fs.length:=by rw [←hfs];simp only [List.length_append];have:=fl_pos n l[k];have:=List.length_pos_iff.2 hpn;omega
       have g2:fs.length≤c - p:=by omega
       have g1:¬ (c - p=1):=by omega
       have g3:c - p≤maxLen:=by omega
       have g4:0<fs.length:=by omega
       have hfh':=hide hfh
       have HE':=hide HE
       have HR':=hide HR
       have hnf:=hide nfk
       have hfs':=hide hfs
       have HJn:=hide HJ
       rw [if_neg h8] at HJn
       obtain ⟨na,nc,rfl⟩:=own_shape HJn.out.nrow
       obtain ⟨la,lc,rfl⟩:=own_shape hx
       have HJ':=HJn
       clear HJ HJn HE HR hx hall nfk hps hps2 e1 e2 e3 e4 e5 e6 hp0 hfs h7 h7b HEh hfh htl
       obtain ⟨Wc,hWc⟩:∃ Wc,wr=Wc:=⟨_,rfl⟩
       subst hWc
       have HJ5:=HJ'
       clear HJ'
       have dk:=d0
       clear d1 d2 d3 d4 d5 d6 d7 fV
       have hbx5:=HJ5.out.box
       have hVc:=hbx5.lt
       have hbc:Below w.heap.size w wr:=HJ5.out.below
       obtain ⟨xs5,hx5,hall5⟩:=HJ5.out.row
       have Hx5:=hide hx5
       have Hall5:=hide hall5
       have cal:=hide (ih'.out l[k] hnf.out (post n h l rest (k+1)) b (o+p * 7) (c - p) (wr.alloc (.cells #[.int .i64 0,.bool false,.bool false,.string ⟨#[]⟩,.int .i64 0,.int .u64 0,.string ⟨#[]⟩,.slice none 0 0,.slice none 0 0] 29)) (by rw [hfs'.out];exact (EL.below HE'.out hbc hb).below (below_al (Below.refl _ _)) (Nat.lt_of_lt_of_le hb hbc.size)) (by simp;have:=hbc.size;omega) (by rw [hfs'.out];omega) (by omega) (by omega) (by rw [hfs'.out];omega))
       rw [hfs'.out] at cal
       have hbC:=hide hbc
       have zC:w.heap.size≤wr.heap.size:=hbc.size
       have hfl:Hid (fs.length=(fl n l[k]).length+(post n h l rest (k+1)).length):=by show _=_;rw [←hfs'.out];simp
       have hfp:=hide (fl_pos n l[k])
       obtain ⟨hdk,hhdk⟩:∃ hdk,vhd n l[k]=hdk:=⟨_,rfl⟩
       rw [hhdk] at cal e0 qe hkk
       simp only [vals] at cal
       clear hx5 hall5 hbx5 hbc
       go_wp2_with (go_at_call 37;refine Stop.out ?_)
       refine Stop.mk (cal.out.mono ?_)
       rintro e w2 ⟨ns2,ls2,sv,rfl,hk2,hb2,hsv⟩
       have hsv':=hsv hpn
       clear hsv
       subst hsv'
       obtain ⟨q1,q2,q3,q4,q5,q6,rfl,rfl⟩:=hk2.out.rd.shape
       have hB2:Hid (Below w.heap.size w w2):=below_then (below_al hbC.out) hb2.out
       have hz2:=hb2.out.size
       simp only [World.size_alloc] at hz2
       have bS:=hide ((bx_new wr (zr 0) (.slice none 0 0) (.slice none 0 0)).below hb2.out)
       have bV2:=hide ((HJ5.out.box.below (below_al (Below.refl _ _))).below hb2.out)
       obtain ⟨s0,s1,s2,s3,s4,s5,s6,s7,s8⟩:=bS.out.cells
       have fS:=bS.out.frz
       obtain ⟨v0,v1,v2,v3,v4,v5,v6,v7,v8⟩:=bV2.out.cells
       simp only [zr] at s0 s1 s2 s3 s4 s5 s6
       have hSV:wr.heap.size≠V:=by omega
       have hVS:V≠wr.heap.size:=by omega
       clear d0 d8 dk e0 cal
       go_wp2_with (at_builtin;refine Stop.out ?_)
       refine Stop.mk ?_
       refine app_v rfl (.tmp 42) (.tmp 44) rfl (V+1) (.slice la k lc) k xs5 rfl (ownsRow_of Hx5.out fun g hg hlt=>?_) w2.heap.size 1 rfl hdk (.slice q1 q2 q3) (.slice q4 q5 q6) rfl rfl (range_new_at _ w2.heap.size hdk (.slice q1 q2 q3) (.slice q4 q5 q6) (by simp)) (by omega) (by simp;omega) ?_
       ·rw [Below.heap_alloc _ _ _ (by simp;omega)]
        simp only [heap_set_ne (show g≠wr.heap.size by omega)]
        rw [hb2.out.block g (by simp;omega),Below.heap_alloc _ _ _ hlt]
       ·intro av6 c6 w6 ho6 hg6 hat6
        have B6:=hide (LJ.push_box HJ5.out Hx5.out (by simp;omega) (by intro q hq;rw [Below.heap_alloc _ _ _ (by simp;omega)];simp only [heap_set_ne (show q≠wr.heap.size by omega)];rw [hb2.out.block q (by simp;omega),Below.heap_alloc _ _ _ hq]) hg6.out)
        have L6:=hide (LJ.push_low (lv':=.slice av6 (k+1) c6) HJ5.out Hx5.out (by simp;omega) (by intro q hq;rw [Below.heap_alloc _ _ _ (by simp;omega)];simp only [heap_set_ne (show q≠wr.heap.size by omega)];rw [hb2.out.block q (by simp;omega),Below.heap_alloc _ _ _ hq]) hg6.out)
        have P6:=hide (LJ.push (w2:=w2) HJ5.out hk Hx5.out Hall5.out (by have:=hk2.out;rwa [World.size_alloc] at this) (by simp) (by intro q hq;rw [Below.heap_alloc _ _ _ (by simp;omega)];simp only [heap_set_ne (show q≠wr.heap.size by omega)];rw [hb2.out.block q (by simp;omega),Below.heap_alloc _ _ _ hq]) (by intro q p1 p2;rw [Below.heap_alloc _ _ _ (by simp;omega)];simp only [heap_set_ne (show q≠wr.heap.size by omega)]) (by refine below_al ?_;(iterate 9 (refine Below.setCell ?_ (by show _≤_;exact zC) _));exact hB2.out) hg6.out (by rw [hhdk];exact ho6.out) hat6.out)
        obtain ⟨j0,j1,j2,j3,j4,j5,j6,j7,j8⟩:=B6.out.cells
        have fJ:=B6.out.frz
        clear ho6 hg6 hat6 s0 s1 s2 s3 s4 s5 s6 s7 s8 fS v0 v1 v2 v3 v4 v5 v6 v7 v8
        go_wp2_with fail
        have hfl:=hfl.out
        have hfp:=hfp.out
        refine ⟨⟨k+1,.slice na 0 nc,.slice av6 (k+1) c6,p+(fl n l[k]).length,?_,by omega,by omega,by omega,hide ⟨?_,?_,?_⟩⟩,by simp only [slLen];omega⟩
        ·first|exact ⟨by omega,rfl,by omega⟩|exact sl_eq (by omega) (by omega)
        ·(try rw [if_neg h8])
         exact P6.out
        ·have:=(EL.drop (ps:=fl n l[k]) (by have:=HE'.out;rw [←hfs'.out] at this;exact this))
         rw [show o+(p+(fl n l[k]).length) * 7=o+p * 7+(fl n l[k]).length * 7 by omega]
         exact this
        ·exact ⟨(L6.out _ hV).trans (HR'.out.at_)⟩
     ·have hke:k=l.length:=by omega
      subst hke
      have hpe:=post_end n h l rest
      rw [hpe] at hp HE ⊢
      simp only [List.length_cons] at hp ⊢
      obtain ⟨e0,e1,e2,e3,e4,e5,e6⟩:=range7 (rangeAt_below HE.head HJ.below hb)
      simp only [evE,zr] at e0
      obtain ⟨r0,r1,r2,r3,r4,r5,r6,r7,r8⟩:=HR.cells
      have fR:=HR.frz
      simp only [zr] at r0 r1 r2 r3 r4 r5 r6
      have hnms:(if h.kind=8 then h.names.take l.length else [])=h.names:=by
       by_cases h8:h.kind=8
       ·rw [if_pos h8,List.take_of_length_le (by have:h.names.length=l.length:=nf'.out.2.2.2.1 h8;omega)]
       ·rw [if_neg h8];exact (nf'.out.2.2.2.2.1 h8).symm
      rw [hnms] at HJ
      obtain ⟨na,nc,rfl⟩:=own_shape HJ.nrow
      obtain ⟨xs,hx,_⟩:=HJ.row
      obtain ⟨la,lc,rfl⟩:=own_shape hx
      have HJ':=hide HJ
      have hfl:(fl (n+1) (h,l)).length=p+1:=by
       have h1:=congrArg List.length hes'.out
       simp only [List.length_append,List.length_cons] at h1
       omega
      have g2:rest.length+1≤c - p:=by omega
      have g3:c - p≤maxLen:=by omega
      have g5:1≤rest.length+1:=by omega
      have g6:w.heap.size≠V:=by omega
      have g7:V≠w.heap.size:=by omega
      have hfl':=hide hfl
      clear HJ HE HR hx hpe e1 e2 e3 e4 e5 e6 hfl h7 h7b hnms hkl hk
      by_cases g1:c - p=1
      ·have hr0:rest=[]:=List.eq_nil_of_length_eq_zero (by omega)
       go_wp2_with fail
       go_region_with (fail)
       all_goals
        go_wp2_with fail
        refine bodyPost_ret (v:=.tuple #[.agg #[.int .i64 h.kind,.bool h.flag,.bool h.neg,.string h.dig,.int .i64 h.exp,.int .u64 h.bits,.string h.text,.slice na h.names.length nc,.slice la l.length lc],.slice (some ⟨b,o+p * 7,none⟩) rest.length (c - p - 1)]) (by simp [results,Tryz.results37,go_sem, *]) rfl ⟨.slice na h.names.length nc,.slice la l.length lc,_,rfl,?_,?_,fun hne=>absurd hr0 hne⟩
        ·refine LJ.done (W:=wr) HJ'.out (by simp) ?_
         intro q hq
         rw [drew_heap]
         simp only [heap_set_ne (show q≠w.heap.size by omega)]
        ·show Below _ _ _
         refine Below.drew ?_
         (iterate 9 (refine Below.setCell ?_ (by show _≤_;exact Nat.le_refl _) _))
         exact HJ'.out.below
      ·have g8:1<c - p:=by omega
       go_wp2_with fail
       go_region_with (fail)
       all_goals
        go_wp2_with fail
        refine bodyPost_ret (v:=.tuple #[.agg #[.int .i64 h.kind,.bool h.flag,.bool h.neg,.string h.dig,.int .i64 h.exp,.int .u64 h.bits,.string h.text,.slice na h.names.length nc,.slice la l.length lc],.slice (some ⟨b,o+p * 7+7,none⟩) rest.length (c - p - 1)]) (by simp [results,Tryz.results37,go_sem, *]) rfl ⟨.slice na h.names.length nc,.slice la l.length lc,_,rfl,?_,?_,fun _=>sl_eq (by rw [hfl'.out];omega) (by rw [hfl'.out];omega)⟩
        ·refine LJ.done (W:=wr) HJ'.out (by simp) ?_
         intro q hq
         rw [drew_heap]
         simp only [heap_set_ne (show q≠w.heap.size by omega)]
        ·show Below _ _ _
         refine Below.drew ?_
         (iterate 9 (refine Below.setCell ?_ (by show _≤_;exact Nat.le_refl _) _))
         exact HJ'.out.below
  have A1:Bx ((((w.alloc (.cells #[.int .i64 0,.bool false,.bool false,.string ⟨#[]⟩,.int .i64 0,.int .u64 0,.string ⟨#[]⟩,.slice none 0 0,.slice none 0 0] 29)).alloc (.cells (vals h (.slice none 0 0) (.slice none 0 0)) 29)).alloc (.cells (evs (hd0 h)) 76)).alloc (.cells (vals h (.slice none 0 0) (.slice none 0 0)) 29)).drew (w.heap.size+1) h (.slice none 0 0) (.slice none 0 0):=by
   have:=bx_new (w.alloc (.cells #[.int .i64 0,.bool false,.bool false,.string ⟨#[]⟩,.int .i64 0,.int .u64 0,.string ⟨#[]⟩,.slice none 0 0,.slice none 0 0] 29)) h (.slice none 0 0) (.slice none 0 0)
   rw [World.size_alloc] at this
   exact this.below (Below.drew (below_al (below_al (Below.refl _ _))))
  have A3:Bx ((((w.alloc (.cells #[.int .i64 0,.bool false,.bool false,.string ⟨#[]⟩,.int .i64 0,.int .u64 0,.string ⟨#[]⟩,.slice none 0 0,.slice none 0 0] 29)).alloc (.cells (evs (hd0 h)) 76)).alloc (.cells (vals h (.slice none 0 0) (.slice none 0 0)) 29)).alloc (.cells (vals h (.slice none 0 0) (.slice none 0 0)) 29)).drew (w.heap.size+1+1+1) h (.slice none 0 0) (.slice none 0 0):=by
   have:=bx_new (((w.alloc (.cells #[.int .i64 0,.bool false,.bool false,.string ⟨#[]⟩,.int .i64 0,.int .u64 0,.string ⟨#[]⟩,.slice none 0 0,.slice none 0 0] 29)).alloc (.cells (evs (hd0 h)) 76)).alloc (.cells (vals h (.slice none 0 0) (.slice none 0 0)) 29)) h (.slice none 0 0) (.slice none 0 0)
   rw [World.size_alloc,World.size_alloc,World.size_alloc] at this
   exact this.drew
  have R1:∀ o1 o2 o3,Bx ((((w.alloc (.cells #[.int .i64 0,.bool false,.bool false,.string ⟨#[]⟩,.int .i64 0,.int .u64 0,.string ⟨#[]⟩,.slice none 0 0,.slice none 0 0] 29)).alloc o1).alloc o2).alloc o3).drew w.heap.size (zr 0) (.slice none 0 0) (.slice none 0 0):=fun o1 o2 o3 =>
   (bx_new w (zr 0) (.slice none 0 0) (.slice none 0 0)).below (Below.drew (below_al (below_al (below_al (Below.refl _ _)))))
  have B1:∀ o0 o1 o2 o3,Below w.heap.size w ((((w.alloc o0).alloc o1).alloc o2).alloc o3).drew:=fun o0 o1 o2 o3=>Below.drew (below_al (below_al (below_al (below_al (Below.refl _ _)))))
  have k1:=key _ _ (B1 _ _ _ _) A1 (R1 _ _ _) (by omega)
  have k3:=key _ _ (B1 _ _ _ _) A3 (R1 _ _ _) (by omega)
  clear key hK A1 A3 R1 B1
  simp only [evs,vals,hd0] at k1 k3
  go_region_with (go_at_call 66;refine (hd.out _).mono ?_;rintro e w1 ⟨rfl,rfl⟩)
  all_goals first|exact k1|exact k3
set_option maxRecDepth 100000 in
theorem build_one (n:Nat)(h:Hd)(h7:h.kind<7)(hn0:h.names=[])(b o:Nat)(w:World)(he:EL w b o [h])(hb:b<w.heap.size) :
  Calls Tryz.prog 37 #[.slice (some ⟨b,o,none⟩) 1 1] w fun e w'=>∃ ns ls sv,e=.returned (.tuple #[.agg (vals h ns ls),sv])∧Hid (KR (n+1) w' ((h,[]):VT (n+1)) ns ls w.heap.size w'.heap.size)∧Hid (Below w.heap.size w w'):=by
  obtain ⟨c0,c1,c2,c3,c4,c5,c6⟩:=range7 he.head
  have hd:=hide (head_ex h)
  simp only [evs,vals] at hd
  clear he
  go_enter Tryz.func37, Tryz.ntmps37
  go_wp2_with fail
  rename_i Q K hK
  have key:∀ (V:Nat)(W:World),Below w.heap.size w W→Bx W V h (.slice none 0 0) (.slice none 0 0)→Bx W w.heap.size (zr 0) (.slice none 0 0) (.slice none 0 0)→w.heap.size<V →
    K {tmps:=#[.slice (some ⟨b,o,none⟩) 0 0,undef,.pointer (some ⟨w.heap.size,0,none⟩),.slice none 0 0,.pointer (some ⟨V,0,none⟩),undef,.slice (some ⟨b,o,none⟩) 1 1,.pointer (some ⟨b,o,none⟩),.agg #[.int .i64 h.kind,.bool h.flag,.bool h.neg,.string h.dig,.int .i64 h.exp,.int .u64 h.bits,.string h.text],.agg #[.int .i64 h.kind,.bool h.flag,.bool h.neg,.string h.dig,.int .i64 h.exp,.int .u64 h.bits,.string h.text,.slice none 0 0,.slice none 0 0],.slice (some ⟨b,o,none⟩) 1 1,.slice (some ⟨b,o,none⟩) 0 0,undef,undef,undef,undef,undef,undef,undef,undef,undef,undef,undef,undef,undef,undef,undef,undef,undef,undef,undef,undef,undef,undef,undef,undef,undef,undef,undef,undef,undef,undef,undef,undef,undef,undef,undef,undef,undef,undef],defers:=[]} W:=by
   intro V W hbW hbx hR hV
   have hVl:=hbx.lt
   refine hK _ _ ?_
   clear hK hd c0 c1 c2 c3 c4 c5 c6
   obtain ⟨d0,d1,d2,d3,d4,d5,d6,d7,d8⟩:=hbx.cells
   obtain ⟨r0,r1,r2,r3,r4,r5,r6,r7,r8⟩:=hR.cells
   have fz:=hR.frz
   simp only [zr] at r0 r1 r2 r3 r4 r5 r6
   go_wp2_with fail
   refine bodyPost_ret (v:=.tuple #[.agg #[.int .i64 h.kind,.bool h.flag,.bool h.neg,.string h.dig,.int .i64 h.exp,.int .u64 h.bits,.string h.text,.slice none 0 0,.slice none 0 0],.slice (some ⟨b,o,none⟩) 0 0]) (by simp [results,Tryz.results37,go_sem, *]) rfl ⟨.slice none 0 0,.slice none 0 0,_,rfl,?_,?_⟩
   ·exact KR.leaf hn0 (by simp;exact hbW.size)
   ·show Below _ _ _
    iterate 9 refine Below.setCell ?_ (by show _≤_;exact Nat.le_refl _) _
    exact hbW
  have A1:Bx ((((w.alloc (.cells #[.int .i64 0,.bool false,.bool false,.string ⟨#[]⟩,.int .i64 0,.int .u64 0,.string ⟨#[]⟩,.slice none 0 0,.slice none 0 0] 29)).alloc (.cells (vals h (.slice none 0 0) (.slice none 0 0)) 29)).alloc (.cells (evs h) 76)).alloc (.cells (vals h (.slice none 0 0) (.slice none 0 0)) 29)).drew (w.heap.size+1) h (.slice none 0 0) (.slice none 0 0):=by
   have:=bx_new (w.alloc (.cells #[.int .i64 0,.bool false,.bool false,.string ⟨#[]⟩,.int .i64 0,.int .u64 0,.string ⟨#[]⟩,.slice none 0 0,.slice none 0 0] 29)) h (.slice none 0 0) (.slice none 0 0)
   rw [World.size_alloc] at this
   exact this.below (Below.drew (below_al (below_al (Below.refl _ _))))
  have A3:Bx ((((w.alloc (.cells #[.int .i64 0,.bool false,.bool false,.string ⟨#[]⟩,.int .i64 0,.int .u64 0,.string ⟨#[]⟩,.slice none 0 0,.slice none 0 0] 29)).alloc (.cells (evs h) 76)).alloc (.cells (vals h (.slice none 0 0) (.slice none 0 0)) 29)).alloc (.cells (vals h (.slice none 0 0) (.slice none 0 0)) 29)).drew (w.heap.size+1+1+1) h (.slice none 0 0) (.slice none 0 0):=by
   have:=bx_new (((w.alloc (.cells #[.int .i64 0,.bool false,.bool false,.string ⟨#[]⟩,.int .i64 0,.int .u64 0,.string ⟨#[]⟩,.slice none 0 0,.slice none 0 0] 29)).alloc (.cells (evs h) 76)).alloc (.cells (vals h (.slice none 0 0) (.slice none 0 0)) 29)) h (.slice none 0 0) (.slice none 0 0)
   rw [World.size_alloc,World.size_alloc,World.size_alloc] at this
   exact this.drew
  have R1:∀ o1 o2 o3,Bx ((((w.alloc (.cells #[.int .i64 0,.bool false,.bool false,.string ⟨#[]⟩,.int .i64 0,.int .u64 0,.string ⟨#[]⟩,.slice none 0 0,.slice none 0 0] 29)).alloc o1).alloc o2).alloc o3).drew w.heap.size (zr 0) (.slice none 0 0) (.slice none 0 0):=fun o1 o2 o3 =>
   (bx_new w (zr 0) (.slice none 0 0) (.slice none 0 0)).below (Below.drew (below_al (below_al (below_al (Below.refl _ _)))))
  have B1:∀ o0 o1 o2 o3,Below w.heap.size w ((((w.alloc o0).alloc o1).alloc o2).alloc o3).drew:=fun o0 o1 o2 o3=>Below.drew (below_al (below_al (below_al (below_al (Below.refl _ _)))))
  have k1:=key _ _ (B1 _ _ _ _) A1 (R1 _ _ _) (by omega)
  have k3:=key _ _ (B1 _ _ _ _) A3 (R1 _ _ _) (by omega)
  clear key hK A1 A3 R1 B1
  simp only [evs,vals] at k1 k3
  go_region_with (go_at_call 66;refine (hd.out _).mono ?_;rintro e w1 ⟨rfl,rfl⟩)
  all_goals first|exact k1|exact k3
end Go.Proofs.YthodiandebahdaaGreatDoor
