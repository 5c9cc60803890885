/- Merged by program: TsPrint, TuType, TtPrint, TvPType, TwEval, TxAwake. -/
import Derived.Test.YtcnfchblfcfimaaGreatDoorZr35
import Derived.Test.YtcnfchblfcfimaaGreatDoorZr40
import Derived.Lib.ItoaLen
set_option linter.unusedSimpArgs false
set_option linter.unusedVariables false
namespace Go.Proofs.YtcnfchblfcfimaaGreatDoor
namespace Lx
open Go.RowKit
variable {dq : {_f : (p : Prop) → Decidable p // True}}
set_option maxHeartbeats 1000000 in
theorem mapTok_step (hP:ParseOk) (n:Nat) (ih:ToOk n):ToOk (n + 1):=by
 intro x q w hr hp hz g
 obtain ⟨⟨k,nm,nms,vn,val⟩,l⟩:=x
 obtain ⟨p1,p2,p3,p4,p5,p6,p7,p8,p9⟩:=hp
 simp only at p1 p2 p3 p4 p5 p6 p7 p8 p9
 show Calls _ _ #[.agg (ecl ⟨k,nm,nms,vn,val⟩ q)] _ _
 have hk:k=1∨k=2∨k=3∨k=4∨k=5∨k=6∨k=7∨k=8∨k=9∨k=10∨k=11∨k=12:=by omega
 rcases hk with rfl|rfl|rfl|rfl|rfl|rfl|rfl|rfl|rfl|rfl|rfl|rfl
 ·have e:mtk (n + 1) (⟨1,nm,nms,vn,val⟩,l)=[wd [105,100]]:=by simp [mtk,plW]
  rw [e];exact mapTok_1 hr g
 ·have e:mtk (n + 1) (⟨2,nm,nms,vn,val⟩,l)=[mk [46],ntk (bl nm)]:=by simp [mtk]
  rw [e];exact mapTok_2 hP hr p5 g
 ·have e:mtk (n + 1) (⟨3,nm,nms,vn,val⟩,l)=nmd [61] nms (l.map (mtk n)):=by simp [mtk]
  rw [e] at hz ⊢;exact mapTok_3 hP ih hr (p4 (Or.inl rfl)) p6 p9 p8 hz g
 ·have e:mtk (n + 1) (⟨4,nm,nms,vn,val⟩,l)=btw [91] ((l.map (mtk n)).headD []) [93]:=by simp [mtk]
  rw [e] at hz ⊢;exact mapTok_4 ih hr (p3 rfl) p9 hz g
 ·have e:mtk (n + 1) (⟨5,nm,nms,vn,val⟩,l)=[wd [116,97,103],ntk (bl nm)]:=by simp [mtk]
  rw [e];exact mapTok_5 hP hr p5 g
 ·have e:mtk (n + 1) (⟨6,nm,nms,vn,val⟩,l)=wd [99,97,115,101] :: nmd [61] nms (l.map (mtk n)):=by simp [mtk]
  rw [e] at hz ⊢;exact mapTok_6 hP ih hr (p4 (Or.inr rfl)) p6 p9 p8 (by simp only [List.length_cons] at hz;omega) g
 ·have e:mtk (n + 1) (⟨7,nm,nms,vn,val⟩,l)=[wd [99,111,110,115,116],ctk (vhd vn val)]:=by simp [mtk]
  rw [e];exact mapTok_7 hr p7 g
 ·have e:mtk (n + 1) (⟨8,nm,nms,vn,val⟩,l)=[wd [116,111,116,101,120,116]]:=by simp [mtk,plW]
  rw [e];exact mapTok_8 hr g
 ·have e:mtk (n + 1) (⟨9,nm,nms,vn,val⟩,l)=[wd [116,111,110,117,109]]:=by simp [mtk,plW]
  rw [e];exact mapTok_9 hr g
 ·have e:mtk (n + 1) (⟨10,nm,nms,vn,val⟩,l)=[wd [115,117,109]]:=by simp [mtk,plW]
  rw [e];exact mapTok_10 hr g
 ·have e:mtk (n + 1) (⟨11,nm,nms,vn,val⟩,l)=[wd [99,111,117,110,116]]:=by simp [mtk,plW]
  rw [e];exact mapTok_11 hr g
 ·have e:mtk (n + 1) (⟨12,nm,nms,vn,val⟩,l)=sepT (mk [59]) (l.map (stk n)):=by simp [mtk,stk];rfl
  rw [e] at hz ⊢;exact mapTok_12 ih hr p9 p8 hz g
theorem mapTok_ok (hP:ParseOk):∀ n,ToOk n
 | 0=>fun x=>Empty.elim x
 | n + 1=>mapTok_step hP n (mapTok_ok hP n)
theorem printL_len (n:Bool) (s:ByteArray) (x:Int) (h:isN n s x=true):(printL n (bl s) x).length≤512:=by
 obtain ⟨_,h1,h40,hx1,hx2,_⟩:=isN_all h
 have hs:(sgnB n).length≤1:=by cases n <;> simp [sgnB]
 have hil:=Lib.itoa_length_le (x + s.size - 1) (by omega) (by omega)
 unfold printL
 rw [List.length_append,bl_length]
 split
 ·rw [List.length_append,List.length_replicate,bl_length];omega
 ·split
  ·have:(pointed (bl s) (-x).toNat).length≤200:=by
    unfold pointed
    split <;> simp [bl_length] <;> omega
   omega
  ·have:(powered (bl s) (Lib.itoa (x + s.size - 1))).length≤200:=by
    unfold powered
    split <;> simp [bl_length] <;> omega
   omega
structure Nod (n:Nat) (x:ET (n + 1)):Prop where
 bare:EBare x.1 x.2
 four:x.1.op=4→x.2.length=1
 pipe:x.1.op=12→2≤x.2.length
 cn:x.1.op=7→isCn (vhd _ x.1.val).kind
 isv:IsV _ (lkV x.1 x.2.length).2
 win:Win _ (lkV x.1 x.2.length).2
def Nods:(n:Nat)→ET n→Prop
 | 0,_=>False
 | n + 1,x=>Nod n x∧∀ y∈x.2,Nods n y
theorem nods_of:∀ (n:Nat) (x:ET n),evA bareP n x→evA fiP n x→evA shP n x→Nods n x
 | 0,x,_,_,_=>Empty.elim x
 | n + 1,x,a,b,c=>by
  refine ⟨⟨a.1,b.1.1,b.1.2.1,b.1.2.2.1,b.1.2.2.2,c.1.2⟩,fun y hy=>?_⟩
  obtain ⟨i,hi,rfl⟩:=List.mem_iff_getElem.1 hy
  exact nods_of n _ (a.2 i hi) (b.2 i hi) (c.2 i hi)
theorem lck_ok {n:Nat} {x:ET n} (h:lck dq n x=0):Nods n x∧edep n x≤16∧esiz n x≤512:=by
 unfold lck at h
 split at h
 ·cases h
 ·rename_i a
  split at h
  ·rename_i b
   have a':=Classical.not_not.1 a
   exact ⟨nods_of n x a'.1 a'.2 b.1,b.2⟩
  ·cases h
theorem Nod.pre {n:Nat} {x:ET (n + 1)} (h:Nod n x):1≤x.1.op∧x.1.op≤12∧(x.1.op=4→x.2.length=1)∧(x.1.op=3∨x.1.op=6→x.1.names.length=x.2.length)∧x.1.name.size≤64∧(∀ s∈x.1.names,s.size≤64)∧((vhd x.1.vn x.1.val).kind=3→isN (vhd x.1.vn x.1.val).neg (vhd x.1.vn x.1.val).dig (vhd x.1.vn x.1.val).exp=true)∧(vhd x.1.vn x.1.val).text.size≤4096:=by
 obtain ⟨⟨⟨b1,b2⟩,b3,b4,b5,b6⟩,h4,h12,h7,hv,hw⟩:=h
 obtain ⟨⟨k,nm,nms,vn,val⟩,l⟩:=x
 simp only at b1 b2 b3 b4 b5 b6 h4 h12 h7 hv hw ⊢
 refine ⟨b1,b2,h4,fun h36=>?_,?_,fun s hs=>?_,fun hk3=>?_,?_⟩
 ·have e:lkV ⟨k,nm,nms,vn,val⟩ l.length=⟨2,(hdL 8 nilB nms,List.replicate l.length vn1)⟩:=by rcases h36 with rfl|rfl <;> simp [lkV]
  rw [e] at hv
  have:=(hv.2.1.2.2.1 rfl).1
  simpa [hdL] using this
 ·by_cases h2:k=2∨k=5
  ·have e:lkV ⟨k,nm,nms,vn,val⟩ l.length=⟨2,(hdL 9 nm [],List.replicate 1 vn1)⟩:=by rcases h2 with rfl|rfl <;> simp [lkV]
   rw [e] at hw
   have:=hw.1.1
   simp [hdL] at this
   omega
  ·rcases b3 with rfl|rfl|rfl
   ·exact absurd (Or.inl rfl) h2
   ·exact absurd (Or.inr rfl) h2
   ·decide
 ·by_cases h3:k=3∨k=6
  ·have e:lkV ⟨k,nm,nms,vn,val⟩ l.length=⟨2,(hdL 8 nilB nms,List.replicate l.length vn1)⟩:=by rcases h3 with rfl|rfl <;> simp [lkV]
   rw [e] at hw
   exact hw.1.2.2.1 s hs
  ·rcases b4 with rfl|rfl|rfl
   ·exact absurd (Or.inl rfl) h3
   ·exact absurd (Or.inr rfl) h3
   ·simp at hs
 ·rcases b6 with rfl|hz
  ·have e:lkV ⟨7,nm,nms,vn,val⟩ l.length=⟨vn,val⟩:=by simp [lkV]
   rw [e] at hv
   cases vn with
   | zero=>exact Empty.elim val
   | succ vn=>exact hv.2.1.1 hk3
  ·cases vn with
   | zero=>exact Empty.elim val
   | succ vn =>
    have e:val=(zr 0,[]):=hz
    subst e
    exact absurd hk3 (by simp [vhd,zr])
 ·rcases b6 with rfl|hz
  ·have e:lkV ⟨7,nm,nms,vn,val⟩ l.length=⟨vn,val⟩:=by simp [lkV]
   rw [e] at hw
   cases vn with
   | zero=>exact Empty.elim val
   | succ vn =>
    have:=hw.1.1
    show val.1.text.size≤4096
    cases hq:(val.1.kind==9) <;> rw [hq] at this <;> simp at this <;> omega
  ·cases vn with
   | zero=>exact Empty.elim val
   | succ vn =>
    have e:val=(zr 0,[]):=hz
    subst e
    show (ByteArray.size ⟨#[]⟩)≤4096
    decide
theorem Nods.pre:∀ {n:Nat} {x:ET n},Nods n x→esiz n x≤512→PrE n x
 | 0,x,_,_=>Empty.elim x
 | n + 1,x,h,hz=>by
  obtain ⟨p1,p2,p3,p4,p5,p6,p7,p8⟩:=h.1.pre
  have hl:x.2.length≤512:=by
   have:=suml_len (esiz n) (esiz_pos n) x.2
   simp only [esiz] at hz
   omega
  refine ⟨p1,p2,p3,p4,by omega,fun s hs=>by have:=p6 s hs;omega,p7,by omega,fun y hy=>?_⟩
  obtain ⟨i,hi,rfl⟩:=List.mem_iff_getElem.1 hy
  exact Nods.pre (h.2 _ hy) (by have:=esiz_mem hi;omega)
end Lx
end Go.Proofs.YtcnfchblfcfimaaGreatDoor
namespace Go.Proofs.YtcnfchblfcfimaaGreatDoor
namespace Lx
open Go.RowKit
theorem TLq.atq {n:Nat} {w:World} {v:Value} {l:List (TT n)} (h:TLq n w v l) (i:Nat) (hi:i<l.length) :
  ∃ b o c,v=.slice (some ⟨b,o,none⟩) l.length c∧b<w.heap.size∧l.length≤c∧c≤maxLen∧∃ s:S2,w.rangeAt b (o + i * 3) (tcl (thd n l[i]) s).toList∧RTq n w l[i] s:=by
 obtain ⟨b,o,c,h1,h2,h3,h4,ns,ls,h5,h6⟩:=TL.at h i hi
 exact ⟨b,o,c,h1,h2,h3,h4,⟨ns,ls⟩,h5,h6⟩
theorem rangeq3 {w:World} {b o:Nat} {h:Th} {q:S2} (k:w.rangeAt b o (tcl h q).toList):w.cell? ⟨b,o,none⟩=some (.int .i64 h.kind)∧w.cell? ⟨b,o + 1,none⟩=some q.ns∧w.cell? ⟨b,o + 2,none⟩=some q.ls:=range3 k
def PrT:(n:Nat)→TT n→Prop
 | 0,_=>True
 | n + 1,x=>1≤x.1.kind∧x.1.kind≤11∧(x.1.kind=9→x.2.length=1)∧(x.1.kind=10∨x.1.kind=11→x.1.names.length=x.2.length)∧(∀ s∈x.1.names,s.size≤60000)∧x.2.length≤100000∧∀ y∈x.2,PrT n y
def TyOk (n:Nat):Prop:=∀ (x:TT n) (q:S2) (w:World),RTq n w x q→PrT n x→(ttk n x).length≤1000000→Gs w→Calls Tryz.prog 55 #[.agg (tcl (thd n x) q)] w fun e w'=>TokP (ttk n x) w e w'
set_option maxHeartbeats 4000000 in
set_option maxRecDepth 100000 in
theorem namedTokT_any {n:Nat} (ih:TyOk n) (hP:ParseOk) (m:List UInt8) (nv v:Value) (nms:List ByteArray) (l:List (TT n)) (w:World) (g:Gs w) (hn:NL w nv nms) (hl:TLq n w v l) (hlen:nms.length=l.length) (hs:∀ s∈nms,s.size≤60000) (hp:∀ y∈l,PrT n y) (hz:(nmd m nms (l.map (ttk n))).length≤1000000) (hl9:l.length≤100000) :
  Calls Tryz.prog 112 #[nv,.string (mkB m),v,.func (.func 55) #[] #[]] w fun e w'=>TokP (nmd m nms (l.map (ttk n))) w e w':=by
 obtain ⟨na,nc,rfl,hn1,hn2⟩:=hn.len
 obtain ⟨la,lc,rfl,hl1,hl2⟩:=hl.len
 obtain ⟨I,hI⟩:∃ I,itm m nms (l.map (ttk n))=I:=⟨_,rfl⟩
 have hIl:I.length=nms.length:=by rw [←hI];exact itm_len _ _ _ (by simp [hlen])
 have hIg:Hid (∀ k (h1:k<nms.length) (h2:k<l.length) (h:k<I.length),I[k]=ntk (bl nms[k]) :: mk m :: ttk n l[k]):=fun k h1 h2 h=>by
  subst hI
  rw [itm_get m nms _ k h1 (by simpa using h2)]
  simp
 have hN:nmd m nms (l.map (ttk n))=btw [123] (sepT (mk [44]) I) [125]:=by rw [←hI];rfl
 rw [hN] at hz ⊢
 have hz2:Hid ((sepT (mk [44]) I).length≤1000000):=by
  show _≤_
  simp only [btw,List.length_cons,List.length_append] at hz
  omega
 obtain ⟨N,hNN⟩:∃ N,nms.length=N:=⟨_,rfl⟩
 have HN:=hide hn
 have HL:=hide hl
 have HG:=hide g
 have HS:=hide hs
 have HP:=hide hp
 have IH:=hide ih
 have HPO:=hide hP
 have hN9:N≤100000:=by omega
 have hIl2:=hide (hIl.trans hNN)
 have hlN:=hide (hlen.symm.trans hNN)
 have hnN:=hide hNN
 rw [hNN]
 rw [hlen.symm.trans hNN]
 clear hn hl g hs hp ih hP hI hN hz hIl hlen hn1 hn2 hl1 hl2 hl9
 clear hNN
 go_enter Tryz.func112, Tryz.ntmps112
 go_wp2_with fail
 go_loopw [9,10,11,14] (fun t _ _ i W=>∃ k:Nat,i=.int .i64 k∧k≤N∧Hid (OT W w.heap.size t (sepT (mk [44]) (I.take k))∧Below w.heap.size w W)) (fun _ _ _ i _=>N - (intOf i).toNat)
 case atStart=>exact ⟨0,rfl,Nat.zero_le _,by simpa [sepT] using OT.nil _ _,Below.refl _ _⟩
 case round =>
  obtain ⟨k,rfl,hk,H⟩:=hrel
  have B0:=hide H.out.2
  have O0:=hide H.out.1
  obtain ⟨ta,tc,rfl⟩:=H.out.1.shape
  have hlen0:Hid ((sepT (mk [44]) (I.take k)).length≤1000000):=by show _≤_;exact Nat.le_trans (sep_mem _ _ _) hz2.out
  clear H
  by_cases hkN:k<N
  ·have hki:(k:Int)<(N:Int):=by omega
   have hkl:k<l.length:=by rw [hlN.out];exact hkN
   have hkn:k<nms.length:=by rw [hnN.out];exact hkN
   obtain ⟨nb,no,nc9,hne,hnb,hnc1,hnc2,hcell⟩:=HN.out.at k hkn
   have hne':=Value.slice.inj hne
   obtain ⟨rfl,_,rfl⟩:=hne'
   clear hne
   have hcell2:=(World.cell?_of_block (w:=w) (a:=⟨nb,no + k,none⟩) (B0.out.block nb hnb)).trans hcell
   have hmk:Hid ((ttk n (l[k]'(hkl))).length≤1000000):=by
    have h1:=sep_get (mk [44]) I k (by rw [hIl2.out];exact hkN)
    rw [hIg.out k hkn hkl (by rw [hIl2.out];exact hkN)] at h1
    have:=hz2.out
    show _≤_
    simp only [List.length_cons] at h1
    omega
   have HNB:=hide hnb
   have HCL:=hide hcell
   clear hcell hnb hnc1 hnc2
   obtain ⟨s0,hnk⟩:∃ s0,nms[k]'(hkn)=s0:=⟨_,rfl⟩
   have hS0:=hide hnk
   rw [hnk] at hcell2
   by_cases hk0:k=0
   ·have hk1:¬ (0:Int)<(k:Int):=by omega
    have ek:sepT (mk [44]) (I.take k)=[]:=by rw [hk0];simp [sepT]
    have e0:(sepT (mk [44]) (I.take k)).length=0:=by rw [ek];rfl
    rw [ek] at O0
    have O1:Hid (OT wr w.heap.size (.slice ta 0 tc) ([]:List Tk)):=O0
    have hlenP:Hid ((([]:List Tk)++[ntk (bl s0),mk m]).length≤1000000):=by show _≤_;simp
    rw [e0]
    have HK0:=hide hk0
    clear O0 hlen0 e0 ek hk0
    have GA:=hide (HG.out.below B0.out)
    have hnt:=hide (name_any2 HPO.out nms[k] _ GA.out.gg (HS.out _ (List.getElem_mem _)))
    rw [hnk] at hnt
    go_wp2_with (go_at_call 74;refine Sto.out ?_)
    refine Sto.mk ?_
    refine hnt.out.mono ?_
    rintro e wa ⟨rfl,hba⟩
    have BA:=hide (below_then B0.out hba)
    have OA:=hide (O1.out.below hba)
    clear hba hnt
    unfold tkV
    go_wp2_with (go_at_call 73;refine Sto.out ?_)
    refine Sto.mk ?_
    refine (mark_any _ _).mono ?_
    rintro e wb ⟨rfl,hbb⟩
    have BB:=hide (below_then BA.out hbb)
    have OB:=hide ((OA.out.below hbb).below (below_al (o:=.cells #[.int .i64 (ntk (bl s0)).w,.string (mkB (ntk (bl s0)).s),.int .i64 (ntk (bl s0)).p,.int .i64 4,.string (mkB m),.int .i64 0] 88) (Below.refl _ _)))
    have NB:=hide (tk_new2 wb w.heap.size (ntk (bl s0)) (mk m) BB.out.size)
    clear hbb OA BA
    go_wp2_with (at_builtin;refine Sto.out ?_)
    refine Sto.mk ?_
    refine app_tks rfl (.tmp 25) (.tmp 30) rfl w.heap.size (.slice ta 0 tc) ([]:List Tk) rfl OB.out w.heap.size (.slice (some ⟨wb.heap.size,0,none⟩) 2 2) [ntk (bl s0),mk m] rfl NB.out (by have:=hlenP.out;simp only [List.length_append,List.length_cons,List.length_nil] at this ⊢;omega) (by simp only [World.size_alloc];have:=BB.out.size;omega) ?_
    intro va vn vc wc oc bc
    have BC:=hide ((BB.out.alloc BB.out.size _).trans bc.out)
    have OC:=hide oc.out
    clear oc bc OB NB BB
    obtain ⟨lb,lo,lc9,hle,hlb,hlc1,hlc2,q,hrg,hrd⟩:=TLq.atq HL.out k (by rw [hlN.out];exact hkN)
    have hle':=Value.slice.inj hle
    obtain ⟨rfl,_,rfl⟩:=hle'
    clear hle
    obtain ⟨b1,b2,b3,b4,b5,b6,hqs⟩:=hrd.shape
    subst hqs
    have q0:=rangeq3 (rangeAt_below hrg BC.out hlb)
    have hcall:=hide (IH.out (l[k]'(hkl)) _ wc (hrd.below BC.out) (HP.out _ (List.getElem_mem _)) hmk.out (HG.out.below BC.out))
    clear hrg hrd hlb
    unfold tcl tvs at hcall
    dsimp only at hcall
    unfold TokP at hcall
    go_wp2_with (go_at_call 55;refine Sto.out ?_)
    refine Sto.mk ?_
    refine hcall.out.mono ?_
    rintro e wd1 ⟨v2,rfl,hO2,hb2⟩
    have BD:=hide (below_then BC.out hb2)
    have OD:=hide (OC.out.below hb2)
    have O2:=hide hO2
    clear hb2 hO2 hcall q0 OC
    go_wp2_with (at_builtin;refine Sto.out ?_)
    refine Sto.mk ?_
    refine app_tks rfl (.tmp 32) (.tmp 38) rfl w.heap.size (.slice va vn vc) (([]:List Tk)++[ntk (bl s0),mk m]) rfl OD.out wc.heap.size v2 (ttk n (l[k]'(hkl))) rfl O2.out (by have h1:=hlenP.out;have h2:=hmk.out;simp only [List.length_append,List.length_cons,List.length_nil] at h1 h2 ⊢;omega) BD.out.size ?_
    intro ua un uc we oe be
    have BE:=hide (BD.out.trans be.out)
    go_wp2_with fail
    refine ⟨⟨k + 1,by go_num,by omega,?_,BE.out⟩,by simp [intOf];omega⟩
    rw [sep_take _ I k (by rw [hIl2.out];exact hkN),if_pos HK0.out,hIg.out k (by rw [hnN.out];exact hkN) hkl (by rw [hIl2.out];exact hkN),hS0.out]
    have:=oe.out
    simpa using this
   ·have hk1:(0:Int)<(k:Int):=by omega
    obtain ⟨T0,hT0⟩:∃ T0,sepT (mk [44]) (I.take k)=T0:=⟨_,rfl⟩
    have HT0:=hide hT0
    rw [hT0] at O0 hlen0 ⊢
    have hlenP:Hid (((T0++[mk [44]])++[ntk (bl s0),mk m]).length≤1000005):=by show _≤_;have:=hlen0.out;simp only [List.length_append,List.length_cons,List.length_nil];omega
    clear hT0
    go_wp2_with (go_at_call 73;refine Sto.out ?_)
    refine Sto.mk ?_
    refine (mark_any _ _).mono ?_
    rintro e wm ⟨rfl,hbm⟩
    have BM:=hide (below_then B0.out hbm)
    have OM:=hide ((O0.out.below hbm).below (below_al (o:=.cells #[.int .i64 4,.string ⟨#[44]⟩,.int .i64 0] 88) (Below.refl _ _)))
    have NM:=hide (tk_new wm w.heap.size (mk [44]) BM.out.size)
    clear hbm O0
    go_wp2_with (at_builtin;refine Sto.out ?_)
    refine Sto.mk ?_
    refine app_tks rfl (.tmp 21) (.tmp 23) rfl w.heap.size (.slice ta T0.length tc) T0 rfl OM.out w.heap.size (.slice (some ⟨wm.heap.size,0,none⟩) 1 1) [mk [44]] rfl NM.out (by have:=hlen0.out;simp only [List.length_cons,List.length_nil];omega) (by simp only [World.size_alloc];have:=BM.out.size;omega) ?_
    intro sa sn sc ws os bs
    have BS:=hide ((BM.out.alloc BM.out.size _).trans bs.out)
    have O1:=hide os.out
    clear os bs OM NM BM B0
    have hcell3:=(World.cell?_of_block (w:=w) (a:=⟨nb,no + k,none⟩) (BS.out.block nb HNB.out)).trans HCL.out
    have GA:=hide (HG.out.below BS.out)
    have hnt:=hide (name_any2 HPO.out nms[k] _ GA.out.gg (HS.out _ (List.getElem_mem _)))
    rw [hnk] at hnt
    go_wp2_with (go_at_call 74;refine Sto.out ?_)
    refine Sto.mk ?_
    refine hnt.out.mono ?_
    rintro e wa ⟨rfl,hba⟩
    have BA:=hide (below_then BS.out hba)
    have OA:=hide (O1.out.below hba)
    clear hba hnt
    unfold tkV
    go_wp2_with (go_at_call 73;refine Sto.out ?_)
    refine Sto.mk ?_
    refine (mark_any _ _).mono ?_
    rintro e wb ⟨rfl,hbb⟩
    have BB:=hide (below_then BA.out hbb)
    have OB:=hide ((OA.out.below hbb).below (below_al (o:=.cells #[.int .i64 (ntk (bl s0)).w,.string (mkB (ntk (bl s0)).s),.int .i64 (ntk (bl s0)).p,.int .i64 4,.string (mkB m),.int .i64 0] 88) (Below.refl _ _)))
    have NB:=hide (tk_new2 wb w.heap.size (ntk (bl s0)) (mk m) BB.out.size)
    clear hbb OA BA
    go_wp2_with (at_builtin;refine Sto.out ?_)
    refine Sto.mk ?_
    refine app_tks rfl (.tmp 25) (.tmp 30) rfl w.heap.size (.slice sa sn sc) (T0++[mk [44]]) rfl OB.out w.heap.size (.slice (some ⟨wb.heap.size,0,none⟩) 2 2) [ntk (bl s0),mk m] rfl NB.out (by have:=hlenP.out;simp only [List.length_append,List.length_cons,List.length_nil] at this ⊢;omega) (by simp only [World.size_alloc];have:=BB.out.size;omega) ?_
    intro va vn vc wc oc bc
    have BC:=hide ((BB.out.alloc BB.out.size _).trans bc.out)
    have OC:=hide oc.out
    clear oc bc OB NB BB
    obtain ⟨lb,lo,lc9,hle,hlb,hlc1,hlc2,q,hrg,hrd⟩:=TLq.atq HL.out k (by rw [hlN.out];exact hkN)
    have hle':=Value.slice.inj hle
    obtain ⟨rfl,_,rfl⟩:=hle'
    clear hle
    obtain ⟨b1,b2,b3,b4,b5,b6,hqs⟩:=hrd.shape
    subst hqs
    have q0:=rangeq3 (rangeAt_below hrg BC.out hlb)
    have hcall:=hide (IH.out (l[k]'(hkl)) _ wc (hrd.below BC.out) (HP.out _ (List.getElem_mem _)) hmk.out (HG.out.below BC.out))
    clear hrg hrd hlb
    unfold tcl tvs at hcall
    dsimp only at hcall
    unfold TokP at hcall
    go_wp2_with (go_at_call 55;refine Sto.out ?_)
    refine Sto.mk ?_
    refine hcall.out.mono ?_
    rintro e wd1 ⟨v2,rfl,hO2,hb2⟩
    have BD:=hide (below_then BC.out hb2)
    have OD:=hide (OC.out.below hb2)
    have O2:=hide hO2
    clear hb2 hO2 hcall q0 OC
    go_wp2_with (at_builtin;refine Sto.out ?_)
    refine Sto.mk ?_
    refine app_tks rfl (.tmp 32) (.tmp 38) rfl w.heap.size (.slice va vn vc) ((T0++[mk [44]])++[ntk (bl s0),mk m]) rfl OD.out wc.heap.size v2 (ttk n (l[k]'(hkl))) rfl O2.out (by have h1:=hlenP.out;have h2:=hmk.out;simp only [List.length_append,List.length_cons,List.length_nil] at h1 h2 ⊢;omega) BD.out.size ?_
    intro ua un uc we oe be
    have BE:=hide (BD.out.trans be.out)
    go_wp2_with fail
    refine ⟨⟨k + 1,by go_num,by omega,?_,BE.out⟩,by simp [intOf];omega⟩
    rw [sep_take _ I k (by rw [hIl2.out];exact hkN),if_neg hk0,hIg.out k (by rw [hnN.out];exact hkN) hkl (by rw [hIl2.out];exact hkN),hS0.out,HT0.out]
    have:=oe.out
    simpa using this
  ·have hki:¬ (k:Int)<(N:Int):=by omega
   have hkN2:k=N:=by omega
   subst hkN2
   have OF:Hid (OT wr w.heap.size (.slice ta (sepT (mk [44]) (I.take k)).length tc) (sepT (mk [44]) I)):=by
    have h:=O0.out
    have e:I.take k=I:=List.take_of_length_le (by rw [hIl2.out];exact Nat.le_refl _)
    show OT _ _ _ _
    rw [e] at h ⊢
    exact h
   have hbt:=hide (between_any [123] [125] _ _ _ wr OF.out hz2.out)
   unfold TokP at hbt
   clear OF O0
   go_wp2_with (go_at_call 77;refine Sto.out ?_)
   refine Sto.mk ?_
   refine hbt.out.mono ?_
   rintro e w9 ⟨v9,rfl,hO9,hb9⟩
   have H9:=hide hO9
   have B9:=hide (below_then B0.out hb9)
   have hz9:=B0.out.size
   clear hO9 hb9 hbt
   go_wp2_with fail
   go_ret
   exact ⟨_,rfl,H9.out.low hz9,B9.out⟩
theorem ty_nl {W:World} {i:Nat} {h:Th} {q:S2} (k:Ty W i h q):W.cell? ⟨i,1,none⟩=some q.ns∧W.cell? ⟨i,2,none⟩=some q.ls:=⟨k.cells.2.1,k.cells.2.2⟩
theorem Ty.dr {W:World} {i:Nat} {h:Th} {q:S2} (k:Ty W i h q):Ty W.drew i h q:=⟨k.at_⟩
theorem Ty.al {W:World} {i:Nat} {h:Th} {q:S2} {o:Obj} (k:Ty W i h q):Ty (W.alloc o) i h q:=k.below (below_al (Below.refl _ _))
structure YS (w:World) (h:Th) (q:S2) (W:World):Prop where
 bel:Below w.heap.size w W
 ty:Ty W w.heap.size h q
section
variable {w W : World} {h : Th} {q : S2}
theorem YS.dr (H:YS w h q W):YS w h q W.drew:=⟨H.bel.drew,H.ty.dr⟩
theorem YS.al {o:Obj} (H:YS w h q W):YS w h q (W.alloc o):=⟨H.bel.alloc H.bel.size _,H.ty.al⟩
theorem YS.below {W1:World} (H:YS w h q W) (hb:Below W.heap.size W W1):YS w h q W1:=⟨below_then H.bel hb,H.ty.below hb⟩
theorem YS.cells {lb lo:Nat} {he:Th} {qe:S2} (H:YS w h q W) (k:w.rangeAt lb lo (tcl he qe).toList) (hlb:lb<w.heap.size):W.cell? ⟨w.heap.size,2,none⟩=some q.ls∧W.cell? ⟨lb,lo,none⟩=some (.int .i64 he.kind)∧W.cell? ⟨lb,lo + 1,none⟩=some qe.ns∧W.cell? ⟨lb,lo + 2,none⟩=some qe.ls:=⟨H.ty.cells.2.2,rangeq3 (rangeAt_below k H.bel hlb)⟩
end
section
variable {n : Nat} {nms : List ByteArray} {l : List (TT n)} {q : S2} {w : World}
set_option maxHeartbeats 4000000 in
set_option maxRecDepth 100000 in
theorem typeTok_10 (hP:ParseOk) (ih:TyOk n) (hr:RTq (n + 1) w (⟨10,nms⟩,l) q) (h1:nms.length=l.length) (hs:∀ s∈nms,s.size≤60000) (hp:∀ y∈l,PrT n y) (hl9:l.length≤100000) (hz:(nmd [58] nms (l.map (ttk n))).length≤1000000) (g:Gs w) :
  Calls Tryz.prog 55 #[.agg (tcl ⟨10,nms⟩ q)] w fun e w'=>TokP (wd [114,101,99,111,114,100] :: nmd [58] nms (l.map (ttk n))) w e w':=by
 obtain ⟨x1,y1,z1,x2,y2,z2,hqs⟩:=hr.shape
 subst hqs
 have X0:=hide (ty_new w ⟨10,nms⟩ ⟨.slice x1 y1 z1,.slice x2 y2 z2⟩)
 have B0:Hid (∀ o,Below w.heap.size w (w.alloc o)):=fun o=>below_al (Below.refl _ _)
 have hc:=hide (fun W (hb:Below w.heap.size w W)=>namedTokT_any ih hP [58] _ _ nms l W (g.below hb) (NL.below hr.1 hb) (TL.below (RT.tl hr) hb) h1 hs hp hz hl9)
 clear hr hs g hP hp ih h1
 obtain ⟨T,hT⟩:∃ T,nmd [58] nms (l.map (ttk n))=T:=⟨_,rfl⟩
 rw [hT] at hc hz ⊢
 have HZ:=hide hz
 clear hT hz
 unfold tcl tvs at X0 ⊢
 dsimp only at X0 hc ⊢
 unfold TokP at hc
 have c0:=ty_nl X0.out
 dsimp only at c0
 go_enter Tryz.func55, Tryz.ntmps55
 go_wp2_with fail
 go_region_held3 (fun W=>W.cell? ⟨w.heap.size,1,none⟩=some (.slice x1 y1 z1)∧W.cell? ⟨w.heap.size,2,none⟩=some (.slice x2 y2 z2)) (first|(refine ty_nl (h:=⟨10,nms⟩) (q:=⟨.slice x1 y1 z1,.slice x2 y2 z2⟩) ?_;(repeat (first|with_reducible (exact X0.out)|with_reducible (exact X1.out)|with_reducible (exact X2.out)|with_reducible (exact X3.out)|with_reducible (refine Ty.dr ?_)|with_reducible (refine Ty.al ?_))))) (first|(go_at_call 75;refine (word_any _ _).mono ?_;rintro e w1 ⟨rfl,hb1⟩;have B1:=hide (below_then (B0.out _).drew hb1);have X1:=hide (X0.out.dr.below hb1);clear hb1)|(go_at_call 112;refine (hc.out _ B1.out).mono ?_;rintro e w2 ⟨v2,rfl,hO2,hb2⟩;have B2:=hide (below_then B1.out hb2);have X2:=hide (X1.out.below hb2);have O2:=hide (hO2.low B1.out.size);have N2:=hide (tk_new w2 (w.heap.size + 1) (wd [114,101,99,111,114,100]) X2.out.lt);clear hb2 hO2)|(go_at_call 112;refine (hc.out _ (B1.out.alloc B1.out.size _)).mono ?_;rintro e w2 ⟨v2,rfl,hO2,hb2⟩;have B2:=hide (below_then (B1.out.alloc B1.out.size _) hb2);have X2:=hide (X1.out.al.below hb2);have O2:=hide (hO2.low (C:=w.heap.size) (by simp only [World.size_alloc];have:=B1.out.size;omega));have N2:=hide ((tk_new w1 (w.heap.size + 1) (wd [114,101,99,111,114,100]) X1.out.lt).below hb2);clear hb2 hO2)|(refine step_tks rfl (.tmp 19) (.tmp 24) rfl (w.heap.size + 1) _ [wd [114,101,99,111,114,100]] rfl N2.out w.heap.size _ T rfl O2.out (by have:=HZ.out;simp only [List.length_cons,List.length_nil];omega) X2.out.lt ?_;intro ta tn tc w3 o3 b3;have X3:=hide (Ty.mk ((b3.out.block w.heap.size (by omega)).trans X2.out.at_)))|(refine step_tks rfl (.tmp 19) (.tmp 24) rfl (w.heap.size + 1) _ [wd [114,101,99,111,114,100]] rfl N2.out w.heap.size _ T rfl (O2.out.below (below_al (Below.refl _ _))) (by have:=HZ.out;simp only [List.length_cons,List.length_nil];omega) X2.out.al.lt ?_;intro ta tn tc w3 o3 b3;have X3:=hide (Ty.mk ((b3.out.block w.heap.size (by omega)).trans X2.out.al.at_))))
 all_goals
  go_wp2_with fail
  go_ret
  exact ⟨_,rfl,(OT.low (C:=w.heap.size) o3.out (by omega)),(by first|exact B2.out.trans (b3.out.mono (by omega))|exact (B2.out.alloc B2.out.size _).trans (b3.out.mono (by omega)))⟩
set_option maxHeartbeats 4000000 in
set_option maxRecDepth 100000 in
theorem typeTok_11 (hP:ParseOk) (ih:TyOk n) (hr:RTq (n + 1) w (⟨11,nms⟩,l) q) (h1:nms.length=l.length) (hs:∀ s∈nms,s.size≤60000) (hp:∀ y∈l,PrT n y) (hl9:l.length≤100000) (hz:(nmd [58] nms (l.map (ttk n))).length≤1000000) (g:Gs w) :
  Calls Tryz.prog 55 #[.agg (tcl ⟨11,nms⟩ q)] w fun e w'=>TokP (wd [117,110,105,111,110] :: nmd [58] nms (l.map (ttk n))) w e w':=by
 obtain ⟨x1,y1,z1,x2,y2,z2,hqs⟩:=hr.shape
 subst hqs
 have X0:=hide (ty_new w ⟨11,nms⟩ ⟨.slice x1 y1 z1,.slice x2 y2 z2⟩)
 have B0:Hid (∀ o,Below w.heap.size w (w.alloc o)):=fun o=>below_al (Below.refl _ _)
 have hc:=hide (fun W (hb:Below w.heap.size w W)=>namedTokT_any ih hP [58] _ _ nms l W (g.below hb) (NL.below hr.1 hb) (TL.below (RT.tl hr) hb) h1 hs hp hz hl9)
 clear hr hs g hP hp ih h1
 obtain ⟨T,hT⟩:∃ T,nmd [58] nms (l.map (ttk n))=T:=⟨_,rfl⟩
 rw [hT] at hc hz ⊢
 have HZ:=hide hz
 clear hT hz
 unfold tcl tvs at X0 ⊢
 dsimp only at X0 hc ⊢
 unfold TokP at hc
 have c0:=ty_nl X0.out
 dsimp only at c0
 go_enter Tryz.func55, Tryz.ntmps55
 go_wp2_with fail
 go_region_held3 (fun W=>W.cell? ⟨w.heap.size,1,none⟩=some (.slice x1 y1 z1)∧W.cell? ⟨w.heap.size,2,none⟩=some (.slice x2 y2 z2)) (first|(refine ty_nl (h:=⟨11,nms⟩) (q:=⟨.slice x1 y1 z1,.slice x2 y2 z2⟩) ?_;(repeat (first|with_reducible (exact X0.out)|with_reducible (exact X1.out)|with_reducible (exact X2.out)|with_reducible (exact X3.out)|with_reducible (refine Ty.dr ?_)|with_reducible (refine Ty.al ?_))))) (first|(go_at_call 75;refine (word_any _ _).mono ?_;rintro e w1 ⟨rfl,hb1⟩;have B1:=hide (below_then (B0.out _).drew hb1);have X1:=hide (X0.out.dr.below hb1);clear hb1)|(go_at_call 112;refine (hc.out _ B1.out).mono ?_;rintro e w2 ⟨v2,rfl,hO2,hb2⟩;have B2:=hide (below_then B1.out hb2);have X2:=hide (X1.out.below hb2);have O2:=hide (hO2.low B1.out.size);have N2:=hide (tk_new w2 (w.heap.size + 1) (wd [117,110,105,111,110]) X2.out.lt);clear hb2 hO2)|(go_at_call 112;refine (hc.out _ (B1.out.alloc B1.out.size _)).mono ?_;rintro e w2 ⟨v2,rfl,hO2,hb2⟩;have B2:=hide (below_then (B1.out.alloc B1.out.size _) hb2);have X2:=hide (X1.out.al.below hb2);have O2:=hide (hO2.low (C:=w.heap.size) (by simp only [World.size_alloc];have:=B1.out.size;omega));have N2:=hide ((tk_new w1 (w.heap.size + 1) (wd [117,110,105,111,110]) X1.out.lt).below hb2);clear hb2 hO2)|(refine step_tks rfl (.tmp 29) (.tmp 34) rfl (w.heap.size + 1) _ [wd [117,110,105,111,110]] rfl N2.out w.heap.size _ T rfl O2.out (by have:=HZ.out;simp only [List.length_cons,List.length_nil];omega) X2.out.lt ?_;intro ta tn tc w3 o3 b3;have X3:=hide (Ty.mk ((b3.out.block w.heap.size (by omega)).trans X2.out.at_)))|(refine step_tks rfl (.tmp 29) (.tmp 34) rfl (w.heap.size + 1) _ [wd [117,110,105,111,110]] rfl N2.out w.heap.size _ T rfl (O2.out.below (below_al (Below.refl _ _))) (by have:=HZ.out;simp only [List.length_cons,List.length_nil];omega) X2.out.al.lt ?_;intro ta tn tc w3 o3 b3;have X3:=hide (Ty.mk ((b3.out.block w.heap.size (by omega)).trans X2.out.al.at_))))
 all_goals
  go_wp2_with fail
  go_ret
  exact ⟨_,rfl,(OT.low (C:=w.heap.size) o3.out (by omega)),(by first|exact B2.out.trans (b3.out.mono (by omega))|exact (B2.out.alloc B2.out.size _).trans (b3.out.mono (by omega)))⟩
set_option maxHeartbeats 4000000 in
set_option maxRecDepth 100000 in
theorem typeTok_9 (ih:TyOk n) (hr:RTq (n + 1) w (⟨9,nms⟩,l) q) (h1:l.length=1) (hp:∀ y∈l,PrT n y) (hz:(btw [40] ((l.map (ttk n)).headD []) [41]).length≤1000000) (g:Gs w) :
  Calls Tryz.prog 55 #[.agg (tcl ⟨9,nms⟩ q)] w fun e w'=>TokP (wd [108,105,115,116] :: btw [40] ((l.map (ttk n)).headD []) [41]) w e w':=by
 obtain ⟨y,rfl⟩:∃ y,l=[y]:=by
  match l,h1 with
  | [y],_=>exact ⟨y,rfl⟩
 obtain ⟨lb,lo,lc9,hle,hlb,hlc1,hlc2,q2,hrg,hrd⟩:=TLq.atq (RT.tl hr) 0 (by simp)
 simp only [List.map_cons,List.map_nil,List.headD_cons,List.getElem_cons_zero,Nat.zero_mul,Nat.add_zero] at hz hrg hrd ⊢
 have hml:Hid ((ttk n y).length≤1000000):=by show _≤_;simp only [btw,List.length_cons,List.length_append] at hz;omega
 obtain ⟨x1,y1,z1,x2,y2,z2,hqs⟩:=hr.shape
 subst hqs
 have X0:=hide (ty_new w ⟨9,nms⟩ ⟨.slice x1 y1 z1,.slice x2 y2 z2⟩)
 have B0:Hid (∀ o,Below w.heap.size w (w.alloc o)):=fun o=>below_al (Below.refl _ _)
 dsimp only at hle
 obtain ⟨rfl,rfl,rfl⟩:=Value.slice.inj hle
 clear hle
 obtain ⟨b1,b2,b3,b4,b5,b6,hqs⟩:=RTq.shape hrd
 subst hqs
 have hcall:=hide (fun W (hb:Below w.heap.size w W)=>ih y _ W (RTq.below hrd hb) (hp y (by simp)) hml.out (g.below hb))
 have hmz:=hide hz
 obtain ⟨T,hT⟩:∃ T,ttk n y=T:=⟨_,rfl⟩
 have Y0:=hide (YS.mk (B0.out _) X0.out)
 have hrng:=hide hrg
 have hlbh:=hide hlb
 clear hr hrg hrd hp ih g hz hlb hlc1 hlc2
 obtain ⟨h,hh⟩:∃ h,thd n y=h:=⟨_,rfl⟩
 rw [hh] at hcall hrng
 rw [hT] at hcall hml hmz ⊢
 clear hh hT
 have c0:=Y0.out.cells hrng.out hlbh.out
 unfold tcl tvs at X0 Y0 hcall ⊢
 unfold TokP at hcall
 dsimp only at X0 Y0 hcall c0 ⊢
 simp only [List.length_cons,List.length_nil] at X0 Y0 c0 ⊢
 go_enter Tryz.func55, Tryz.ntmps55
 go_wp2_with fail
 go_region_held3 (fun W=>W.cell? ⟨w.heap.size,2,none⟩=some (.slice (some ⟨lb,lo,none⟩) (0 + 1) z2)∧W.cell? ⟨lb,lo,none⟩=some (.int .i64 h.kind)∧W.cell? ⟨lb,lo + 1,none⟩=some (.slice b1 b2 b3)∧W.cell? ⟨lb,lo + 2,none⟩=some (.slice b4 b5 b6)) (first|(refine YS.cells (w:=w) (h:=⟨9,nms⟩) (q:=⟨.slice x1 y1 z1,.slice (some ⟨lb,lo,none⟩) (0 + 1) z2⟩) (he:=h) (qe:=⟨.slice b1 b2 b3,.slice b4 b5 b6⟩) ?_ hrng.out hlbh.out;(repeat (first|with_reducible (exact Y0.out)|with_reducible (exact Y1.out)|with_reducible (exact Y2.out)|with_reducible (exact Y3.out)|with_reducible (exact Y4.out)|with_reducible (refine YS.dr ?_)|with_reducible (refine YS.al ?_))))) (first|(go_at_call 75;refine (word_any _ _).mono ?_;rintro e w1 ⟨rfl,hb1⟩;have Y1:=hide (Y0.out.dr.below hb1);clear hb1)|(go_at_call 55;refine (hcall.out _ Y1.out.bel).mono ?_;rintro e w2 ⟨v2,rfl,hO2,hb2⟩;have Y2:=hide (Y1.out.below hb2);have O2:=hide hO2;clear hb2 hO2)|(go_at_call 55;refine (hcall.out _ Y1.out.al.bel).mono ?_;rintro e w2 ⟨v2,rfl,hO2,hb2⟩;have Y2:=hide (Y1.out.al.below hb2);have O2:=hide hO2;have N2:=hide ((tk_new w1 (w.heap.size + 1) (wd [108,105,115,116]) Y1.out.ty.lt).below hb2);clear hb2 hO2)|(go_at_call 77;refine (between_any [40] [41] v2 T _ _ (O2.out.below (below_al (Below.refl _ _))) hml.out).mono ?_;rintro e w3 ⟨v3,rfl,hO3,hb3⟩;have Y3:=hide (Y2.out.al.below hb3);have O3:=hide (hO3.low (C:=w.heap.size) Y2.out.al.bel.size);have N3:=hide ((tk_new w2 (w.heap.size + 1) (wd [108,105,115,116]) Y2.out.ty.lt).below hb3);clear hb3 hO3)|(go_at_call 77;refine (between_any [40] [41] v2 T _ _ O2.out hml.out).mono ?_;rintro e w3 ⟨v3,rfl,hO3,hb3⟩;have Y3:=hide (Y2.out.below hb3);have O3:=hide (hO3.low (C:=w.heap.size) Y2.out.bel.size);have N3:=hide (N2.out.below hb3);clear hb3 hO3)|(go_at_call 77;refine (between_any [40] [41] v2 T _ _ O2.out hml.out).mono ?_;rintro e w3 ⟨v3,rfl,hO3,hb3⟩;have Y3:=hide (Y2.out.below hb3);have O3:=hide (hO3.low (C:=w.heap.size) Y2.out.bel.size);have N3:=hide (tk_new w3 (w.heap.size + 1) (wd [108,105,115,116]) Y3.out.ty.lt);clear hb3 hO3)|(refine step_tks rfl (.tmp 8) (.tmp 14) rfl (w.heap.size + 1) _ [wd [108,105,115,116]] rfl N3.out w.heap.size _ (btw [40] T [41]) rfl O3.out (by have:=hmz.out;simp only [List.length_cons,List.length_nil];omega) Y3.out.ty.lt ?_;intro ta tn tc w4 o4 bw4;have Y4:=hide (YS.mk (Y3.out.bel.trans (bw4.out.mono (by omega))) (Ty.mk ((bw4.out.block w.heap.size (by omega)).trans Y3.out.ty.at_))))|(refine step_tks rfl (.tmp 8) (.tmp 14) rfl (w.heap.size + 1) _ [wd [108,105,115,116]] rfl N3.out w.heap.size _ (btw [40] T [41]) rfl (O3.out.below (below_al (Below.refl _ _))) (by have:=hmz.out;simp only [List.length_cons,List.length_nil];omega) Y3.out.ty.al.lt ?_;intro ta tn tc w4 o4 bw4;have Y4:=hide (YS.mk (Y3.out.al.bel.trans (bw4.out.mono (by omega))) (Ty.mk ((bw4.out.block w.heap.size (by omega)).trans Y3.out.ty.al.at_)))))
 all_goals
  go_wp2_with fail
  go_ret
  exact ⟨_,rfl,(OT.low (C:=w.heap.size) o4.out (by omega)),Y4.out.bel⟩
set_option maxHeartbeats 4000000 in
set_option maxRecDepth 100000 in
theorem typeTok_1 (hr:RTq (n + 1) w (⟨1,nms⟩,l) q) (g:Gs w) :
  Calls Tryz.prog 55 #[.agg (tcl ⟨1,nms⟩ q)] w fun e w'=>TokP [wd [97,110,121]] w e w':=by
 obtain ⟨x1,y1,z1,x2,y2,z2,hqs⟩:=hr.shape
 subst hqs
 have X0:=hide (ty_new w ⟨1,nms⟩ ⟨.slice x1 y1 z1,.slice x2 y2 z2⟩)
 have B0:Hid (∀ o,Below w.heap.size w (w.alloc o)):=fun o=>below_al (Below.refl _ _)
 have c1:∀ o,(w.alloc o).cell? ⟨2,1,none⟩=some (.string ⟨#[97,110,121]⟩):=fun o=>by
  obtain ⟨_,t,fr,hc⟩:=(g.below (below_al (o:=o) (Below.refl _ _))).gp
  unfold World.cell?
  rw [hc]
  rfl
 clear hr g
 unfold tcl tvs at X0 ⊢
 dsimp only at X0 ⊢
 go_enter Tryz.func55, Tryz.ntmps55
 go_wp2_with (go_at_call 75;refine Sto.out ?_)
 refine Sto.mk ?_
 refine (word_any _ _).mono ?_
 rintro e w1 ⟨rfl,hb1⟩
 have B1:=hide (below_then (B0.out _) hb1)
 clear hb1 c1
 go_wp2_with fail
 go_ret
 exact ⟨_,rfl,tk_new w1 w.heap.size (wd [97,110,121]) B1.out.size,B1.out.alloc B1.out.size _⟩
set_option maxHeartbeats 4000000 in
set_option maxRecDepth 100000 in
theorem typeTok_2 (hr:RTq (n + 1) w (⟨2,nms⟩,l) q) (g:Gs w) :
  Calls Tryz.prog 55 #[.agg (tcl ⟨2,nms⟩ q)] w fun e w'=>TokP [wd [110,117,108,108]] w e w':=by
 obtain ⟨x1,y1,z1,x2,y2,z2,hqs⟩:=hr.shape
 subst hqs
 have X0:=hide (ty_new w ⟨2,nms⟩ ⟨.slice x1 y1 z1,.slice x2 y2 z2⟩)
 have B0:Hid (∀ o,Below w.heap.size w (w.alloc o)):=fun o=>below_al (Below.refl _ _)
 have c1:∀ o,(w.alloc o).cell? ⟨2,2,none⟩=some (.string ⟨#[110,117,108,108]⟩):=fun o=>by
  obtain ⟨_,t,fr,hc⟩:=(g.below (below_al (o:=o) (Below.refl _ _))).gp
  unfold World.cell?
  rw [hc]
  rfl
 clear hr g
 unfold tcl tvs at X0 ⊢
 dsimp only at X0 ⊢
 go_enter Tryz.func55, Tryz.ntmps55
 go_wp2_with (go_at_call 75;refine Sto.out ?_)
 refine Sto.mk ?_
 refine (word_any _ _).mono ?_
 rintro e w1 ⟨rfl,hb1⟩
 have B1:=hide (below_then (B0.out _) hb1)
 clear hb1 c1
 go_wp2_with fail
 go_ret
 exact ⟨_,rfl,tk_new w1 w.heap.size (wd [110,117,108,108]) B1.out.size,B1.out.alloc B1.out.size _⟩
set_option maxHeartbeats 4000000 in
set_option maxRecDepth 100000 in
theorem typeTok_3 (hr:RTq (n + 1) w (⟨3,nms⟩,l) q) (g:Gs w) :
  Calls Tryz.prog 55 #[.agg (tcl ⟨3,nms⟩ q)] w fun e w'=>TokP [wd [98,111,111,108]] w e w':=by
 obtain ⟨x1,y1,z1,x2,y2,z2,hqs⟩:=hr.shape
 subst hqs
 have X0:=hide (ty_new w ⟨3,nms⟩ ⟨.slice x1 y1 z1,.slice x2 y2 z2⟩)
 have B0:Hid (∀ o,Below w.heap.size w (w.alloc o)):=fun o=>below_al (Below.refl _ _)
 have c1:∀ o,(w.alloc o).cell? ⟨2,3,none⟩=some (.string ⟨#[98,111,111,108]⟩):=fun o=>by
  obtain ⟨_,t,fr,hc⟩:=(g.below (below_al (o:=o) (Below.refl _ _))).gp
  unfold World.cell?
  rw [hc]
  rfl
 clear hr g
 unfold tcl tvs at X0 ⊢
 dsimp only at X0 ⊢
 go_enter Tryz.func55, Tryz.ntmps55
 go_wp2_with (go_at_call 75;refine Sto.out ?_)
 refine Sto.mk ?_
 refine (word_any _ _).mono ?_
 rintro e w1 ⟨rfl,hb1⟩
 have B1:=hide (below_then (B0.out _) hb1)
 clear hb1 c1
 go_wp2_with fail
 go_ret
 exact ⟨_,rfl,tk_new w1 w.heap.size (wd [98,111,111,108]) B1.out.size,B1.out.alloc B1.out.size _⟩
set_option maxHeartbeats 4000000 in
set_option maxRecDepth 100000 in
theorem typeTok_4 (hr:RTq (n + 1) w (⟨4,nms⟩,l) q) (g:Gs w) :
  Calls Tryz.prog 55 #[.agg (tcl ⟨4,nms⟩ q)] w fun e w'=>TokP [wd [110,117,109]] w e w':=by
 obtain ⟨x1,y1,z1,x2,y2,z2,hqs⟩:=hr.shape
 subst hqs
 have X0:=hide (ty_new w ⟨4,nms⟩ ⟨.slice x1 y1 z1,.slice x2 y2 z2⟩)
 have B0:Hid (∀ o,Below w.heap.size w (w.alloc o)):=fun o=>below_al (Below.refl _ _)
 have c1:∀ o,(w.alloc o).cell? ⟨2,4,none⟩=some (.string ⟨#[110,117,109]⟩):=fun o=>by
  obtain ⟨_,t,fr,hc⟩:=(g.below (below_al (o:=o) (Below.refl _ _))).gp
  unfold World.cell?
  rw [hc]
  rfl
 clear hr g
 unfold tcl tvs at X0 ⊢
 dsimp only at X0 ⊢
 go_enter Tryz.func55, Tryz.ntmps55
 go_wp2_with (go_at_call 75;refine Sto.out ?_)
 refine Sto.mk ?_
 refine (word_any _ _).mono ?_
 rintro e w1 ⟨rfl,hb1⟩
 have B1:=hide (below_then (B0.out _) hb1)
 clear hb1 c1
 go_wp2_with fail
 go_ret
 exact ⟨_,rfl,tk_new w1 w.heap.size (wd [110,117,109]) B1.out.size,B1.out.alloc B1.out.size _⟩
set_option maxHeartbeats 4000000 in
set_option maxRecDepth 100000 in
theorem typeTok_5 (hr:RTq (n + 1) w (⟨5,nms⟩,l) q) (g:Gs w) :
  Calls Tryz.prog 55 #[.agg (tcl ⟨5,nms⟩ q)] w fun e w'=>TokP [wd [105,110,116]] w e w':=by
 obtain ⟨x1,y1,z1,x2,y2,z2,hqs⟩:=hr.shape
 subst hqs
 have X0:=hide (ty_new w ⟨5,nms⟩ ⟨.slice x1 y1 z1,.slice x2 y2 z2⟩)
 have B0:Hid (∀ o,Below w.heap.size w (w.alloc o)):=fun o=>below_al (Below.refl _ _)
 have c1:∀ o,(w.alloc o).cell? ⟨2,5,none⟩=some (.string ⟨#[105,110,116]⟩):=fun o=>by
  obtain ⟨_,t,fr,hc⟩:=(g.below (below_al (o:=o) (Below.refl _ _))).gp
  unfold World.cell?
  rw [hc]
  rfl
 clear hr g
 unfold tcl tvs at X0 ⊢
 dsimp only at X0 ⊢
 go_enter Tryz.func55, Tryz.ntmps55
 go_wp2_with (go_at_call 75;refine Sto.out ?_)
 refine Sto.mk ?_
 refine (word_any _ _).mono ?_
 rintro e w1 ⟨rfl,hb1⟩
 have B1:=hide (below_then (B0.out _) hb1)
 clear hb1 c1
 go_wp2_with fail
 go_ret
 exact ⟨_,rfl,tk_new w1 w.heap.size (wd [105,110,116]) B1.out.size,B1.out.alloc B1.out.size _⟩
set_option maxHeartbeats 4000000 in
set_option maxRecDepth 100000 in
theorem typeTok_6 (hr:RTq (n + 1) w (⟨6,nms⟩,l) q) (g:Gs w) :
  Calls Tryz.prog 55 #[.agg (tcl ⟨6,nms⟩ q)] w fun e w'=>TokP [wd [102,108,111,97,116]] w e w':=by
 obtain ⟨x1,y1,z1,x2,y2,z2,hqs⟩:=hr.shape
 subst hqs
 have X0:=hide (ty_new w ⟨6,nms⟩ ⟨.slice x1 y1 z1,.slice x2 y2 z2⟩)
 have B0:Hid (∀ o,Below w.heap.size w (w.alloc o)):=fun o=>below_al (Below.refl _ _)
 have c1:∀ o,(w.alloc o).cell? ⟨2,6,none⟩=some (.string ⟨#[102,108,111,97,116]⟩):=fun o=>by
  obtain ⟨_,t,fr,hc⟩:=(g.below (below_al (o:=o) (Below.refl _ _))).gp
  unfold World.cell?
  rw [hc]
  rfl
 clear hr g
 unfold tcl tvs at X0 ⊢
 dsimp only at X0 ⊢
 go_enter Tryz.func55, Tryz.ntmps55
 go_wp2_with (go_at_call 75;refine Sto.out ?_)
 refine Sto.mk ?_
 refine (word_any _ _).mono ?_
 rintro e w1 ⟨rfl,hb1⟩
 have B1:=hide (below_then (B0.out _) hb1)
 clear hb1 c1
 go_wp2_with fail
 go_ret
 exact ⟨_,rfl,tk_new w1 w.heap.size (wd [102,108,111,97,116]) B1.out.size,B1.out.alloc B1.out.size _⟩
set_option maxHeartbeats 4000000 in
set_option maxRecDepth 100000 in
theorem typeTok_7 (hr:RTq (n + 1) w (⟨7,nms⟩,l) q) (g:Gs w) :
  Calls Tryz.prog 55 #[.agg (tcl ⟨7,nms⟩ q)] w fun e w'=>TokP [wd [116,101,120,116]] w e w':=by
 obtain ⟨x1,y1,z1,x2,y2,z2,hqs⟩:=hr.shape
 subst hqs
 have X0:=hide (ty_new w ⟨7,nms⟩ ⟨.slice x1 y1 z1,.slice x2 y2 z2⟩)
 have B0:Hid (∀ o,Below w.heap.size w (w.alloc o)):=fun o=>below_al (Below.refl _ _)
 have c1:∀ o,(w.alloc o).cell? ⟨2,7,none⟩=some (.string ⟨#[116,101,120,116]⟩):=fun o=>by
  obtain ⟨_,t,fr,hc⟩:=(g.below (below_al (o:=o) (Below.refl _ _))).gp
  unfold World.cell?
  rw [hc]
  rfl
 clear hr g
 unfold tcl tvs at X0 ⊢
 dsimp only at X0 ⊢
 go_enter Tryz.func55, Tryz.ntmps55
 go_wp2_with (go_at_call 75;refine Sto.out ?_)
 refine Sto.mk ?_
 refine (word_any _ _).mono ?_
 rintro e w1 ⟨rfl,hb1⟩
 have B1:=hide (below_then (B0.out _) hb1)
 clear hb1 c1
 go_wp2_with fail
 go_ret
 exact ⟨_,rfl,tk_new w1 w.heap.size (wd [116,101,120,116]) B1.out.size,B1.out.alloc B1.out.size _⟩
set_option maxHeartbeats 4000000 in
set_option maxRecDepth 100000 in
theorem typeTok_8 (hr:RTq (n + 1) w (⟨8,nms⟩,l) q) (g:Gs w) :
  Calls Tryz.prog 55 #[.agg (tcl ⟨8,nms⟩ q)] w fun e w'=>TokP [wd [98,121,116,101,115]] w e w':=by
 obtain ⟨x1,y1,z1,x2,y2,z2,hqs⟩:=hr.shape
 subst hqs
 have X0:=hide (ty_new w ⟨8,nms⟩ ⟨.slice x1 y1 z1,.slice x2 y2 z2⟩)
 have B0:Hid (∀ o,Below w.heap.size w (w.alloc o)):=fun o=>below_al (Below.refl _ _)
 have c1:∀ o,(w.alloc o).cell? ⟨2,8,none⟩=some (.string ⟨#[98,121,116,101,115]⟩):=fun o=>by
  obtain ⟨_,t,fr,hc⟩:=(g.below (below_al (o:=o) (Below.refl _ _))).gp
  unfold World.cell?
  rw [hc]
  rfl
 clear hr g
 unfold tcl tvs at X0 ⊢
 dsimp only at X0 ⊢
 go_enter Tryz.func55, Tryz.ntmps55
 go_wp2_with (go_at_call 75;refine Sto.out ?_)
 refine Sto.mk ?_
 refine (word_any _ _).mono ?_
 rintro e w1 ⟨rfl,hb1⟩
 have B1:=hide (below_then (B0.out _) hb1)
 clear hb1 c1
 go_wp2_with fail
 go_ret
 exact ⟨_,rfl,tk_new w1 w.heap.size (wd [98,121,116,101,115]) B1.out.size,B1.out.alloc B1.out.size _⟩
end
end Lx
end Go.Proofs.YtcnfchblfcfimaaGreatDoor
namespace Go.Proofs.YtcnfchblfcfimaaGreatDoor
namespace Lx
open Go.RowKit
variable {dq : {_f : (p : Prop) → Decidable p // True}}
theorem sep_len (c:Tk):∀ L:List (List Tk),(sepT c L).length≤suml (L.map List.length) + (L.length - 1)
 | []=>by simp [sepT]
 | [a]=>by simp [sepT,suml]
 | a :: b :: r=>by
  have:=sep_len c (b :: r)
  simp only [sepT,List.length_append,List.length_cons,List.map_cons,suml] at this ⊢
  omega
theorem sep_all (c:Tk):∀ (L:List (List Tk)) (t:Tk),t∈sepT c L→t=c∨∃ a∈L,t∈a
 | [],t,h=>by simp [sepT] at h
 | [a],t,h=>Or.inr ⟨a,by simp,h⟩
 | a :: b :: r,t,h=>by
  simp only [sepT] at h
  rcases List.mem_append.1 h with h|h
  ·exact Or.inr ⟨a,by simp,h⟩
  ·rcases List.mem_cons.1 h with h|h
   ·exact Or.inl h
   ·rcases sep_all c (b :: r) t h with h|⟨d,hd,h⟩
    ·exact Or.inl h
    ·exact Or.inr ⟨d,List.mem_cons_of_mem _ hd,h⟩
theorem itm_sum (m:List UInt8):∀ (ns:List ByteArray) (ks:List (List Tk)),suml ((itm m ns ks).map List.length)≤suml (ks.map List.length) + 2 * ks.length∧(itm m ns ks).length≤ks.length
 | [],ks=>by simp [itm,suml]
 | s :: ns,[]=>by simp [itm,suml]
 | s :: ns,k :: ks=>by
  obtain ⟨h1,h2⟩:=itm_sum m ns ks
  have e:itm m (s :: ns) (k :: ks)=(ntk (bl s) :: mk m :: k) :: itm m ns ks:=rfl
  rw [e]
  simp only [List.map_cons,suml,List.length_cons]
  omega
theorem itm_all (m:List UInt8):∀ (ns:List ByteArray) (ks:List (List Tk)) (a:List Tk),a∈itm m ns ks→∃ s k,s∈ns∧k∈ks∧a=ntk (bl s) :: mk m :: k
 | [],ks,a,h=>by simp [itm] at h
 | s :: ns,[],a,h=>by simp [itm] at h
 | s :: ns,k :: ks,a,h=>by
  have e:itm m (s :: ns) (k :: ks)=(ntk (bl s) :: mk m :: k) :: itm m ns ks:=rfl
  rw [e] at h
  rcases List.mem_cons.1 h with rfl|h
  ·exact ⟨s,k,by simp,by simp,rfl⟩
  ·obtain ⟨s',k',h1,h2,h3⟩:=itm_all m ns ks a h
   exact ⟨s',k',List.mem_cons_of_mem _ h1,List.mem_cons_of_mem _ h2,h3⟩
theorem suml_le3 {α:Type} (f g:α→Nat):∀ l:List α,(∀ x∈l,f x + 3≤8 * g x)→suml (l.map f) + 3 * l.length≤8 * suml (l.map g)
 | [],_=>by simp [suml]
 | a :: l,h=>by
  have h1:=h a (by simp)
  have h2:=suml_le3 f g l fun x hx=>h x (by simp [hx])
  simp only [List.map_cons,suml,List.length_cons]
  omega
theorem suml_le5 {α:Type} (f g:α→Nat):∀ l:List α,(∀ x∈l,f x≤g x + 2)→suml (l.map f)≤suml (l.map g) + 2 * l.length
 | [],_=>by simp [suml]
 | a :: l,h=>by
  have h1:=h a (by simp)
  have h2:=suml_le5 f g l fun x hx=>h x (by simp [hx])
  simp only [List.map_cons,suml,List.length_cons]
  omega
theorem stk_len (n:Nat) (y:ET n):(stk n y).length≤(mtk n y).length + 2:=by
 unfold stk
 split
 ·simp only [btw,List.length_cons,List.length_append,List.length_nil];omega
 ·omega
theorem mtk_len:∀ (n:Nat) (x:ET n),(mtk n x).length + 3≤8 * esiz n x
 | 0,x=>Empty.elim x
 | n + 1,x=>by
  obtain ⟨⟨k,nm,nms,vn,val⟩,l⟩:=x
  have ih:=suml_le3 (fun y=>(mtk n y).length) (esiz n) l fun y _=>mtk_len n y
  have hm:suml ((l.map (mtk n)).map List.length)=suml (l.map fun y=>(mtk n y).length):=by rw [List.map_map];rfl
  have hn:∀ m,(nmd m nms (l.map (mtk n))).length≤2 + suml (l.map fun y=>(mtk n y).length) + 3 * l.length:=fun m=>by
   have h1:=sep_len (mk [44]) (itm m nms (l.map (mtk n)))
   obtain ⟨h2,h3⟩:=itm_sum m nms (l.map (mtk n))
   rw [List.length_map] at h2 h3
   rw [hm] at h2
   simp only [nmd,btw,List.length_cons,List.length_append,List.length_nil]
   omega
  show _≤8 * (1 + suml (l.map (esiz n)))
  simp only [mtk]
  split
  ·simp;omega
  ·split
   ·simp;omega
   ·split
    ·simp;omega
    ·split
     ·cases l with
      | nil=>simp [btw];omega
      | cons y l =>
       simp only [List.map_cons,suml,List.length_cons] at ih
       simp only [btw,List.map_cons,List.headD_cons,List.length_cons,List.length_append,List.length_nil,suml]
       omega
     ·split
      ·have:=hn [61];omega
      ·split
       ·have:=hn [61];simp only [List.length_cons];omega
       ·split
        ·have h1:=sep_len (mk [59]) (l.map (stk n))
         have h2:=suml_le5 (fun y=>(stk n y).length) (fun y=>(mtk n y).length) l fun y _=>stk_len n y
         have e:suml ((l.map (stk n)).map List.length)=suml (l.map fun y=>(stk n y).length):=by rw [List.map_map];rfl
         rw [e,List.length_map] at h1
         show (sepT (mk [59]) (l.map (stk n))).length + 3≤_
         omega
        ·simp;omega
theorem ntk_s (s:List UInt8):(ntk s).s=s:=by unfold ntk;split <;> rfl
theorem btw_all {o s:List UInt8} {l:List Tk} {t:Tk} (h:t∈btw o l s):t=mk o∨t∈l∨t=mk s:=by
 simp only [btw,List.mem_cons,List.mem_append,List.not_mem_nil,or_false] at h
 rcases h with h|h|h
 ·exact Or.inl h
 ·exact Or.inr (Or.inl h)
 ·exact Or.inr (Or.inr h)
theorem nmd_s {m:List UInt8} {ns:List ByteArray} {ks:List (List Tk)} (hm:m.length≤4096) (hs:∀ s∈ns,s.size≤64) (hk:∀ k∈ks,∀ t∈k,t.s.length≤4096):∀ t∈nmd m ns ks,t.s.length≤4096:=by
 intro t ht
 rcases btw_all ht with rfl|ht|rfl
 ·simp [mk]
 ·rcases sep_all _ _ _ ht with rfl|⟨a,ha,ht⟩
  ·simp [mk]
  ·obtain ⟨s,k,h1,h2,rfl⟩:=itm_all m ns ks a ha
   rcases List.mem_cons.1 ht with rfl|ht
   ·rw [ntk_s,bl_length];have:=hs s h1;omega
   ·rcases List.mem_cons.1 ht with rfl|ht
    ·exact hm
    ·exact hk k h2 t ht
 ·simp [mk]
theorem ctk_s (h:Hd) (h1:h.text.size≤4096) (h2:h.kind=3→isN h.neg h.dig h.exp=true):(ctk h).s.length≤4096:=by
 unfold ctk
 split
 ·simp only;rw [bl_length];exact h1
 ·split
  ·rename_i k
   have:=printL_len h.neg h.dig h.exp (h2 k)
   simp only
   omega
  ·split
   ·simp [wd]
   ·split <;> simp [wd]
theorem mtk_s:∀ (n:Nat) (x:ET n),Nods n x→∀ t∈mtk n x,t.s.length≤4096
 | 0,x,_=>Empty.elim x
 | n + 1,x,h=>by
  obtain ⟨p1,p2,p3,p4,p5,p6,p7,p8⟩:=h.1.pre
  have ih:∀ y∈x.2,∀ t∈mtk n y,t.s.length≤4096:=fun y hy=>mtk_s n y (h.2 y hy)
  have ihk:∀ k∈x.2.map (mtk n),∀ t∈k,t.s.length≤4096:=fun k hk t ht=>by
   obtain ⟨y,hy,rfl⟩:=List.mem_map.1 hk
   exact ih y hy t ht
  have hnm:(ntk (bl x.1.name)).s.length≤4096:=by rw [ntk_s,bl_length];omega
  intro t ht
  unfold mtk at ht
  split at ht
  ·simp only [List.mem_cons,List.not_mem_nil,or_false] at ht
   rcases ht with rfl|rfl
   ·simp [mk]
   ·exact hnm
  ·split at ht
   ·simp only [List.mem_cons,List.not_mem_nil,or_false] at ht
    rcases ht with rfl|rfl
    ·simp [wd]
    ·exact hnm
   ·split at ht
    ·simp only [List.mem_cons,List.not_mem_nil,or_false] at ht
     rcases ht with rfl|rfl
     ·simp [wd]
     ·exact ctk_s _ p8 p7
    ·split at ht
     ·rcases btw_all ht with rfl|ht|rfl
      ·simp [mk]
      ·cases hx:x.2 with
       | nil=>rw [hx] at ht;simp at ht
       | cons y l =>
        rw [hx] at ht
        simp only [List.map_cons,List.headD_cons] at ht
        exact ih y (by rw [hx];simp) t ht
      ·simp [mk]
     ·split at ht
      ·exact nmd_s (by simp) p6 ihk t ht
      ·split at ht
       ·rcases List.mem_cons.1 ht with rfl|ht
        ·simp [wd]
        ·exact nmd_s (by simp) p6 ihk t ht
       ·split at ht
        ·rcases sep_all _ _ _ ht with rfl|⟨a,ha,ht⟩
         ·simp [mk]
         ·obtain ⟨y,hy,rfl⟩:=List.mem_map.1 ha
          split at ht
          ·rcases btw_all ht with rfl|ht|rfl
           ·simp [mk]
           ·exact ih y hy t ht
           ·simp [mk]
          ·exact ih y hy t ht
        ·rw [List.mem_singleton.1 ht]
         simp only [wd,plW]
         repeat' split
         all_goals simp
def prX (dq:{_f:(p:Prop)→Decidable p // True}) (n:Nat) (x:ET n):Int×List UInt8:=if lck dq n x=0 then ((((prR (mtk n x)).1:Nat):Int),(prR (mtk n x)).2) else (lck dq n x,[])
set_option maxHeartbeats 2000000 in
set_option maxRecDepth 100000 in
theorem print_is (hP:ParseOk) (n:Nat) (x:ET n) (q:Sl) (w:World) (hr:RE n w x q) (hs:GE n x) (hz:esiz n x≤200000) (g:Gs w) :
  Calls Tryz.prog 15 #[.agg (ecl (ehd n x) q)] w fun e w'=>e=.returned (.tuple #[.string (mkB (prX dq n x).2),.int .i64 (prX dq n x).1])∧Below w.heap.size w w':=by
 obtain ⟨x1,y1,z1,x2,y2,z2,x3,y3,z3,x4,y4,z4,hqs⟩:=hr.shape
 subst hqs
 have hc:=hide (fun o=>check_is (dq:=dq) n x ⟨.slice x1 y1 z1,.slice x2 y2 z2,.slice x3 y3 z3,.slice x4 y4 z4⟩ (w.alloc o) (hr.below (below_al (Below.refl _ _))) ⟨hs,(g.below (below_al (Below.refl _ _))).gg.gu⟩ hz)
 have hm:=hide (fun (h:lck dq n x=0) W (hb:Below w.heap.size w W)=>mapTok_ok hP n x ⟨.slice x1 y1 z1,.slice x2 y2 z2,.slice x3 y3 z3,.slice x4 y4 z4⟩ W (hr.below hb) ((lck_ok h).1.pre (lck_ok h).2.2) (by have:=mtk_len n x;have:=(lck_ok h).2.2;omega) (g.below hb))
 have hp:=hide (fun (h:lck dq n x=0) W (hb:Below w.heap.size w W) B v (k:OT W B v (mtk n x))=>printL_any hP v (mtk n x) W (k.ts (by have:=mtk_len n x;have:=(lck_ok h).2.2;omega)) (g.below hb).gg (fun t ht=>by have:=mtk_s n x (lck_ok h).1 t ht;omega) (by have:=mtk_len n x;have:=(lck_ok h).2.2;omega))
 have X0:=hide (ex_new w (ehd n x) ⟨.slice x1 y1 z1,.slice x2 y2 z2,.slice x3 y3 z3,.slice x4 y4 z4⟩)
 have hx:Hid (prX dq n x=if lck dq n x=0 then ((((prR (mtk n x)).1:Nat):Int),(prR (mtk n x)).2) else (lck dq n x,[])):=rfl
 obtain ⟨R,hR⟩:∃ R,prX dq n x=R:=⟨_,rfl⟩
 rw [hR] at hx ⊢
 clear hP hr hs hz g hR
 obtain ⟨c,hcx⟩:∃ c,lck dq n x=c:=⟨_,rfl⟩
 obtain ⟨T,hT⟩:∃ T,mtk n x=T:=⟨_,rfl⟩
 obtain ⟨h,hh⟩:∃ h,ehd n x=h:=⟨_,rfl⟩
 rw [hcx] at hc hm hp hx
 rw [hT] at hm hp hx
 rw [hh] at hc hm X0 ⊢
 clear hcx hT hh
 unfold TokP at hm
 unfold ecl at hc hm X0 ⊢
 dsimp only at hc hm X0 ⊢
 go_enter Tryz.func15, Tryz.ntmps15
 go_wp2_with (go_at_call 16;refine Sto.out ?_)
 refine Sto.mk ?_
 refine (hc.out _).mono ?_
 rintro e w1 ⟨rfl,hb1⟩
 have B1:=hide (below_then (below_al (Below.refl _ _)) hb1)
 have X1:=hide (X0.out.below hb1)
 have x0:=X1.out.cells
 clear hb1 hc X0
 by_cases h0:c=0
 ·have hm1:=hide (hm.out h0 w1 B1.out)
  have hp1:=hide (hp.out h0)
  have e1:Hid (R=((((prR T).1:Nat):Int),(prR T).2)):=by show _=_;rw [hx.out,if_pos h0]
  subst h0
  clear hm hp hx
  go_wp2_with (go_at_call 35;refine Sto.out ?_)
  refine Sto.mk ?_
  refine hm1.out.mono ?_
  rintro e w2 ⟨v,rfl,hO,hb2⟩
  have B2:=hide (below_then B1.out hb2)
  have hp2:=hide (hp1.out w2 B2.out _ v hO)
  clear hO hb2 hm1 hp1 x0
  unfold prE at hp2
  go_wp2_with (go_at_call 34;refine Sto.out ?_)
  refine Sto.mk ?_
  refine hp2.out.mono ?_
  rintro e w3 ⟨rfl,hb3⟩
  have B3:=hide (below_then B2.out hb3)
  go_wp2_with fail
  go_ret2
  exact ⟨by rw [e1.out];rfl,B3.out⟩
 ·have b0:(c==0)=false:=by simp [h0]
  have e1:Hid (R=(c,[])):=by show _=_;rw [hx.out,if_neg h0]
  clear h0 hx
  go_wp2_with fail
  go_ret2
  exact ⟨by rw [e1.out];rfl,B1.out⟩
end Lx
end Go.Proofs.YtcnfchblfcfimaaGreatDoor
namespace Go.Proofs.YtcnfchblfcfimaaGreatDoor
namespace Lx
open Go.RowKit
variable {dq : {_f : (p : Prop) → Decidable p // True}}
set_option maxHeartbeats 1000000 in
theorem typeTok_step (hP:ParseOk) (n:Nat) (ih:TyOk n):TyOk (n + 1):=by
 intro x q w hr hp hz g
 obtain ⟨⟨k,nms⟩,l⟩:=x
 obtain ⟨p1,p2,p3,p4,p6,p8,p9⟩:=hp
 simp only at p1 p2 p3 p4 p6 p8 p9
 show Calls _ _ #[.agg (tcl ⟨k,nms⟩ q)] _ _
 have hk:k=1∨k=2∨k=3∨k=4∨k=5∨k=6∨k=7∨k=8∨k=9∨k=10∨k=11:=by omega
 rcases hk with rfl|rfl|rfl|rfl|rfl|rfl|rfl|rfl|rfl|rfl|rfl
 ·have e:ttk (n + 1) (⟨1,nms⟩,l)=[wd [97,110,121]]:=by simp [ttk,ptW]
  rw [e];exact typeTok_1 hr g
 ·have e:ttk (n + 1) (⟨2,nms⟩,l)=[wd [110,117,108,108]]:=by simp [ttk,ptW]
  rw [e];exact typeTok_2 hr g
 ·have e:ttk (n + 1) (⟨3,nms⟩,l)=[wd [98,111,111,108]]:=by simp [ttk,ptW]
  rw [e];exact typeTok_3 hr g
 ·have e:ttk (n + 1) (⟨4,nms⟩,l)=[wd [110,117,109]]:=by simp [ttk,ptW]
  rw [e];exact typeTok_4 hr g
 ·have e:ttk (n + 1) (⟨5,nms⟩,l)=[wd [105,110,116]]:=by simp [ttk,ptW]
  rw [e];exact typeTok_5 hr g
 ·have e:ttk (n + 1) (⟨6,nms⟩,l)=[wd [102,108,111,97,116]]:=by simp [ttk,ptW]
  rw [e];exact typeTok_6 hr g
 ·have e:ttk (n + 1) (⟨7,nms⟩,l)=[wd [116,101,120,116]]:=by simp [ttk,ptW]
  rw [e];exact typeTok_7 hr g
 ·have e:ttk (n + 1) (⟨8,nms⟩,l)=[wd [98,121,116,101,115]]:=by simp [ttk,ptW]
  rw [e];exact typeTok_8 hr g
 ·have e:ttk (n + 1) (⟨9,nms⟩,l)=wd [108,105,115,116] :: btw [40] ((l.map (ttk n)).headD []) [41]:=by simp [ttk]
  rw [e] at hz ⊢;exact typeTok_9 ih hr (p3 rfl) p9 (by simp only [List.length_cons] at hz;omega) g
 ·have e:ttk (n + 1) (⟨10,nms⟩,l)=wd [114,101,99,111,114,100] :: nmd [58] nms (l.map (ttk n)):=by simp [ttk]
  rw [e] at hz ⊢;exact typeTok_10 hP ih hr (p4 (Or.inl rfl)) p6 p9 p8 (by simp only [List.length_cons] at hz;omega) g
 ·have e:ttk (n + 1) (⟨11,nms⟩,l)=wd [117,110,105,111,110] :: nmd [58] nms (l.map (ttk n)):=by simp [ttk]
  rw [e] at hz ⊢;exact typeTok_11 hP ih hr (p4 (Or.inr rfl)) p6 p9 p8 (by simp only [List.length_cons] at hz;omega) g
theorem typeTok_ok (hP:ParseOk):∀ n,TyOk n
 | 0=>fun x=>Empty.elim x
 | n + 1=>typeTok_step hP n (typeTok_ok hP n)
theorem tck_ok {n:Nat} {x:TT n} (h:tck dq n x=0):IsT n x∧TWin n x:=by
 unfold tck at h
 split at h
 ·cases h
 ·rename_i a
  split at h
  ·rename_i b
   exact ⟨Classical.not_not.1 a,b⟩
  ·cases h
theorem ist_pre:∀ {n:Nat} {x:TT n},IsT n x→TSht n x→tsiz n x≤100000→PrT n x
 | 0,x,_,_,_=>Empty.elim x
 | n + 1,x,h,hs,hz=>by
  have hl:x.2.length≤100000:=by
   have:x.2.length≤suml (x.2.map (tsiz n)):=suml_len (tsiz n) (tsiz_pos n) x.2
   simp only [tsiz] at hz
   omega
  obtain ⟨f,hk⟩:=h
  have f':=f
  unfold TFil at f'
  refine ⟨?_,?_,?_,?_,fun s hs'=>by have:=hs.2.1 s hs';omega,hl,fun y hy=>?_⟩
  ·omega
  ·omega
  ·intro h9;omega
  ·intro h9;omega
  ·obtain ⟨i,hi,rfl⟩:=List.mem_iff_getElem.1 hy
   exact ist_pre (hk _ hy) (hs.2.2 _ hy) (by have:=tsiz_mem hi;omega)
theorem ttk_len:∀ (n:Nat) (x:TT n),(ttk n x).length + 3≤8 * tsiz n x
 | 0,x=>Empty.elim x
 | n + 1,x=>by
  obtain ⟨⟨k,nms⟩,l⟩:=x
  have ih:=suml_le3 (fun y=>(ttk n y).length) (tsiz n) l fun y _=>ttk_len n y
  have hm:suml ((l.map (ttk n)).map List.length)=suml (l.map fun y=>(ttk n y).length):=by rw [List.map_map];rfl
  have hn:∀ m,(nmd m nms (l.map (ttk n))).length≤2 + suml (l.map fun y=>(ttk n y).length) + 2 * l.length + (l.length - 1):=fun m=>by
   have h1:=sep_len (mk [44]) (itm m nms (l.map (ttk n)))
   obtain ⟨h2,h3⟩:=itm_sum m nms (l.map (ttk n))
   rw [List.length_map] at h2 h3
   rw [hm] at h2
   simp only [nmd,btw,List.length_cons,List.length_append,List.length_nil]
   omega
  show _≤8 * (1 + suml (l.map (tsiz n)))
  simp only [ttk]
  split
  ·cases l with
   | nil=>simp [btw];omega
   | cons y l =>
    simp only [List.map_cons,suml,List.length_cons] at ih
    simp only [btw,List.map_cons,List.headD_cons,List.length_cons,List.length_append,List.length_nil,suml]
    omega
  ·split
   ·have:=hn [58];simp only [List.length_cons];omega
   ·split
    ·have:=hn [58];simp only [List.length_cons];omega
    ·simp;omega
theorem ttk_s:∀ (n:Nat) (x:TT n),TSht n x→∀ t∈ttk n x,t.s.length≤4096
 | 0,x,_=>Empty.elim x
 | n + 1,x,h=>by
  have ih:∀ y∈x.2,∀ t∈ttk n y,t.s.length≤4096:=fun y hy=>ttk_s n y (h.2.2 y hy)
  have ihk:∀ k∈x.2.map (ttk n),∀ t∈k,t.s.length≤4096:=fun k hk t ht=>by
   obtain ⟨y,hy,rfl⟩:=List.mem_map.1 hk
   exact ih y hy t ht
  intro t ht
  simp only [ttk] at ht
  split at ht
  ·rcases List.mem_cons.1 ht with rfl|ht
   ·simp [wd]
   ·rcases btw_all ht with rfl|ht|rfl
    ·simp [mk]
    ·cases hx:x.2 with
     | nil=>rw [hx] at ht;simp at ht
     | cons y l =>
      rw [hx] at ht
      simp only [List.map_cons,List.headD_cons] at ht
      exact ih y (by rw [hx];simp) t ht
    ·simp [mk]
  ·split at ht
   ·rcases List.mem_cons.1 ht with rfl|ht
    ·simp [wd]
    ·exact nmd_s (by simp) h.2.1 ihk t ht
   ·split at ht
    ·rcases List.mem_cons.1 ht with rfl|ht
     ·simp [wd]
     ·exact nmd_s (by simp) h.2.1 ihk t ht
    ·rw [List.mem_singleton.1 ht]
     simp only [wd,ptW]
     repeat' split
     all_goals simp
def prT (dq:{_f:(p:Prop)→Decidable p // True}) (n:Nat) (x:TT n):Int×List UInt8:=if tck dq n x=0 then ((((prR (ttk n x)).1:Nat):Int),(prR (ttk n x)).2) else (tck dq n x,[])
set_option maxHeartbeats 2000000 in
set_option maxRecDepth 100000 in
theorem ptprint_is (hP:ParseOk) (n:Nat) (x:TT n) (q:S2) (w:World) (hr:RTq n w x q) (hs:GT n x) (hz:tsiz n x≤200000) (g:Gs w) (gt:Gt w) :
  Calls Tryz.prog 22 #[.agg (tcl (thd n x) q)] w fun e w'=>e=.returned (.tuple #[.string (mkB (prT dq n x).2),.int .i64 (prT dq n x).1])∧Below w.heap.size w w':=by
 obtain ⟨x1,y1,z1,x2,y2,z2,hqs⟩:=RTq.shape hr
 subst hqs
 have hc:=hide (fun o=>tcheck_is (dq:=dq) n x ⟨.slice x1 y1 z1,.slice x2 y2 z2⟩ (w.alloc o) (RTq.below hr (below_al (Below.refl _ _))) hs hz (g.below (below_al (Below.refl _ _))).gg.gu (gt.below (below_al (Below.refl _ _))))
 have hsz:tck dq n x=0→tsiz n x≤4096:=fun h=>(tck_ok h).2.2.2
 have hm:=hide (fun (h:tck dq n x=0) W (hb:Below w.heap.size w W)=>typeTok_ok hP n x ⟨.slice x1 y1 z1,.slice x2 y2 z2⟩ W (RTq.below hr hb) (ist_pre (tck_ok h).1 (tck_ok h).2.1 (by have:=hsz h;omega)) (by have:=ttk_len n x;have:=hsz h;omega) (g.below hb))
 have hp:=hide (fun (h:tck dq n x=0) W (hb:Below w.heap.size w W) B v (k:OT W B v (ttk n x))=>printL_any hP v (ttk n x) W (k.ts (by have:=ttk_len n x;have:=hsz h;omega)) (g.below hb).gg (fun t ht=>by have:=ttk_s n x (tck_ok h).2.1 t ht;omega) (by have:=ttk_len n x;have:=hsz h;omega))
 have X0:=hide (ty_new w (thd n x) ⟨.slice x1 y1 z1,.slice x2 y2 z2⟩)
 have hx:Hid (prT dq n x=if tck dq n x=0 then ((((prR (ttk n x)).1:Nat):Int),(prR (ttk n x)).2) else (tck dq n x,[])):=rfl
 obtain ⟨R,hR⟩:∃ R,prT dq n x=R:=⟨_,rfl⟩
 rw [hR] at hx ⊢
 clear hP hr hs hz g hR hsz gt
 obtain ⟨c,hcx⟩:∃ c,tck dq n x=c:=⟨_,rfl⟩
 obtain ⟨T,hT⟩:∃ T,ttk n x=T:=⟨_,rfl⟩
 obtain ⟨h,hh⟩:∃ h,thd n x=h:=⟨_,rfl⟩
 rw [hcx] at hc hm hp hx
 rw [hT] at hm hp hx
 rw [hh] at hc hm X0 ⊢
 clear hcx hT hh
 unfold TokP at hm
 unfold tcl tvs at hc hm X0 ⊢
 dsimp only at hc hm X0 ⊢
 go_enter Tryz.func22, Tryz.ntmps22
 go_wp2_with (go_at_call 52;refine Sto.out ?_)
 refine Sto.mk ?_
 refine (hc.out _).mono ?_
 rintro e w1 ⟨rfl,hb1⟩
 have B1:=hide (below_then (below_al (Below.refl _ _)) hb1)
 have X1:=hide (X0.out.below hb1)
 have x0:=X1.out.cells
 clear hb1 hc X0
 by_cases h0:c=0
 ·have hm1:=hide (hm.out h0 w1 B1.out)
  have hp1:=hide (hp.out h0)
  have e1:Hid (R=((((prR T).1:Nat):Int),(prR T).2)):=by show _=_;rw [hx.out,if_pos h0]
  subst h0
  clear hm hp hx
  go_wp2_with (go_at_call 55;refine Sto.out ?_)
  refine Sto.mk ?_
  refine hm1.out.mono ?_
  rintro e w2 ⟨v,rfl,hO,hb2⟩
  have B2:=hide (below_then B1.out hb2)
  have hp2:=hide (hp1.out w2 B2.out _ v hO)
  clear hO hb2 hm1 hp1 x0
  unfold prE at hp2
  go_wp2_with (go_at_call 34;refine Sto.out ?_)
  refine Sto.mk ?_
  refine hp2.out.mono ?_
  rintro e w3 ⟨rfl,hb3⟩
  have B3:=hide (below_then B2.out hb3)
  go_wp2_with fail
  go_ret2
  exact ⟨by rw [e1.out];rfl,B3.out⟩
 ·have b0:(c==0)=false:=by simp [h0]
  have e1:Hid (R=(c,[])):=by show _=_;rw [hx.out,if_neg h0]
  clear h0 hx
  go_wp2_with fail
  go_ret2
  exact ⟨by rw [e1.out];rfl,B1.out⟩
end Lx
end Go.Proofs.YtcnfchblfcfimaaGreatDoor
namespace Go.Proofs.YtcnfchblfcfimaaGreatDoor
namespace Lx
open Go.RowKit
variable {dq : {_f : (p : Prop) → Decidable p // True}}
set_option maxRecDepth 100000
theorem lck_zero {n:Nat} {x:ET n} (a:evA bareP n x) (b:evA fiP n x) (c:evA shP n x) (d:edep n x≤16) (e:esiz n x≤512):lck dq n x=0:=by
 unfold lck
 rw [if_neg (fun h=>h ⟨a,b⟩),if_pos ⟨c,d,e⟩]
theorem tck_zero {n:Nat} {x:TT n} (a:IsT n x) (b:TWin n x):tck dq n x=0:=by
 unfold tck
 rw [if_neg (fun h=>h a),if_pos b]
theorem win_null:Win 1 vn1:=⟨⟨by decide,by decide,fun s hs=>absurd hs (by simp [vn1,vH]),fun y hy=>absurd hy (by simp [vn1,vH])⟩,by decide,by decide⟩
theorem tag_isv (nm:ByteArray):IsV 2 ((hdL 9 nm [],List.replicate 1 vn1):VT 2)↔Go.Proofs.YtcnfchblfcfimaaGreatDoor.okT nm=true:=by
 constructor
 ·intro h
  exact (h.2.1.2.2.2 rfl).1
 ·intro h
  refine ⟨⟨by simp [hdL],by simp [hdL],rfl,Or.inl (by simp [hdL])⟩,⟨fun k=>absurd k (by simp [hdL]),fun k=>absurd k (by simp [hdL]),fun k=>absurd k (by simp [hdL]),fun _=>⟨h,rfl⟩⟩,fun y hy=>?_⟩
  rw [List.eq_of_mem_replicate hy]
  exact isV_null
theorem tag_win (nm:ByteArray):Win 2 ((hdL 9 nm [],List.replicate 1 vn1):VT 2)↔nm.size≤64:=by
 constructor
 ·intro h
  have:=h.1.1
  simp [hdL] at this
  omega
 ·intro h
  refine ⟨⟨by simp [hdL];omega,by simp,fun s hs=>absurd hs (by simp [hdL]),fun y hy=>?_⟩,?_,?_⟩
  ·rw [List.eq_of_mem_replicate hy]
   exact win_null.1
  ·show 1 + mxl ((List.replicate 1 vn1).map (dep 1))≤16
   decide
  ·rw [siz_nulls];omega
structure Fine (n:Nat) (x:ET (n + 1)):Prop where
 bare:EBare x.1 x.2
 fi:fiP (n + 1) x
 sh:shP (n + 1) x
theorem fine_plain {n:Nat} (op:Int) (l:List (ET n)) (h:op=1∨op=8∨op=9∨op=10∨op=11):Fine n ((lf op,[]):ET (n + 1)):=by
 have e:lkV (lf op) 0=⟨1,vn1⟩:=by rcases h with rfl|rfl|rfl|rfl|rfl <;> rfl
 refine ⟨⟨by rcases h with rfl|rfl|rfl|rfl|rfl <;> exact ⟨by simp [lf],by simp [lf]⟩,Or.inr (Or.inr rfl),Or.inr (Or.inr rfl),Or.inr (Or.inr (Or.inr (Or.inr rfl))),Or.inr rfl⟩,⟨?_,?_,?_,?_⟩,?_,?_⟩
 ·intro k;rcases h with rfl|rfl|rfl|rfl|rfl <;> exact absurd k (by simp [ehd,lf])
 ·intro k;rcases h with rfl|rfl|rfl|rfl|rfl <;> exact absurd k (by simp [ehd,lf])
 ·intro k;rcases h with rfl|rfl|rfl|rfl|rfl <;> exact absurd k (by simp [ehd,lf])
 ·show IsV _ (lkV (lf op) 0).2
  rw [e];exact isV_null
 ·show IsV _ (lkV (lf op) 0).2
  rw [e];exact isV_null
 ·show Win _ (lkV (lf op) 0).2
  rw [e];exact win_null
theorem fine_map {n:Nat} (y:ET n):Fine n ((lf 4,[y]):ET (n + 1)):=by
 have e:lkV (lf 4) 1=⟨1,vn1⟩:=rfl
 refine ⟨⟨⟨by simp [lf],by simp [lf]⟩,Or.inr (Or.inr rfl),Or.inr (Or.inr rfl),Or.inr (Or.inl rfl),Or.inr rfl⟩,⟨fun _=>rfl,fun k=>absurd k (by simp [ehd,lf]),fun k=>absurd k (by simp [ehd,lf]),?_⟩,?_,?_⟩
 ·show IsV _ (lkV (lf 4) 1).2
  rw [e];exact isV_null
 ·show IsV _ (lkV (lf 4) 1).2
  rw [e];exact isV_null
 ·show Win _ (lkV (lf 4) 1).2
  rw [e];exact win_null
theorem fine_pipe {n:Nat} (l:List (ET n)) (h2:2≤l.length):Fine n ((lf 12,l):ET (n + 1)):=by
 have e:lkV (lf 12) l.length=⟨1,vn1⟩:=rfl
 refine ⟨⟨⟨by simp [lf],by simp [lf]⟩,Or.inr (Or.inr rfl),Or.inr (Or.inr rfl),Or.inr (Or.inr (Or.inr (Or.inl rfl))),Or.inr rfl⟩,⟨fun k=>absurd k (by simp [ehd,lf]),fun _=>h2,fun k=>absurd k (by simp [ehd,lf]),?_⟩,?_,?_⟩
 ·show IsV _ (lkV (lf 12) l.length).2
  rw [e];exact isV_null
 ·show IsV _ (lkV (lf 12) l.length).2
  rw [e];exact isV_null
 ·show Win _ (lkV (lf 12) l.length).2
  rw [e];exact win_null
def gtE (op:Int) (nm:ByteArray) (n:Nat):ET (n + 1):=(⟨op,nm,[],1,vz⟩,[])
theorem fine_get {n:Nat} (op:Int) (nm:ByteArray) (h:op=2∨op=5) (h1:Go.Proofs.YtcnfchblfcfimaaGreatDoor.okT nm=true) (h2:nm.size≤64):Fine n ((⟨op,nm,[],1,vz⟩,[]):ET (n + 1)):=by
 have e:lkV ⟨op,nm,[],1,vz⟩ 0=⟨2,(hdL 9 nm [],List.replicate 1 vn1)⟩:=by rcases h with rfl|rfl <;> rfl
 refine ⟨⟨by rcases h with rfl|rfl <;> exact ⟨by simp,by simp⟩,by rcases h with rfl|rfl;exact Or.inl rfl;exact Or.inr (Or.inl rfl),Or.inr (Or.inr rfl),Or.inr (Or.inr (Or.inr (Or.inr rfl))),Or.inr rfl⟩,⟨?_,?_,?_,?_⟩,?_,?_⟩
 ·intro k;rcases h with rfl|rfl <;> exact absurd k (by simp [ehd])
 ·intro k;rcases h with rfl|rfl <;> exact absurd k (by simp [ehd])
 ·intro k;rcases h with rfl|rfl <;> exact absurd k (by simp [ehd])
 ·show IsV _ (lkV ⟨op,nm,[],1,vz⟩ 0).2
  rw [e];exact (tag_isv nm).2 h1
 ·show IsV _ (lkV ⟨op,nm,[],1,vz⟩ 0).2
  rw [e];exact (tag_isv nm).2 h1
 ·show Win _ (lkV ⟨op,nm,[],1,vz⟩ 0).2
  rw [e];exact (tag_win nm).2 h2
theorem ev_leaf {P:(n:Nat)→ET n→Prop} {n:Nat} {h:Eh} (k:P (n + 1) (h,[])):evA P (n + 1) ((h,[]):ET (n + 1)):=⟨k,fun i hi=>absurd hi (by simp)⟩
theorem ev_all {P:(n:Nat)→ET n→Prop} {n:Nat} {x:ET (n + 1)} (k:P (n + 1) x) (h:∀ y∈x.2,evA P n y):evA P (n + 1) x:=⟨k,fun i hi=>h _ (List.getElem_mem hi)⟩
def exM (g:Nat):ET (dp (g + 20) + 1):=(lf 12,[gtE 2 (mkB [97]) _,(lf 4,[(lf 9,[])]),(lf 10,[])])
def tx1:ByteArray:=⟨#[46,97,59,32,91,116,111,110,117,109,93,59,32,115,117,109]⟩
def tx2:ByteArray:=⟨#[123,97,61,105,100,44,97,61,105,100,125]⟩
def tx3:ByteArray:=⟨#[105,100,59]⟩
def tx4:ByteArray:=⟨#[114,101,99,111,114,100,123,105,100,58,105,110,116,44,116,97,103,115,58,108,105,115,116,40,116,101,120,116,41,125]⟩
theorem sc1:scR (bl tx1)=(0,0,[⟨4,[46],0⟩,⟨1,[97],1⟩,⟨4,[59],2⟩,⟨4,[91],4⟩,⟨1,[116,111,110,117,109],5⟩,⟨4,[93],10⟩,⟨4,[59],11⟩,⟨1,[115,117,109],13⟩]):=by kernel_rfl
theorem sc2:scR (bl tx2)=(0,0,[⟨4,[123],0⟩,⟨1,[97],1⟩,⟨4,[61],2⟩,⟨1,[105,100],3⟩,⟨4,[44],5⟩,⟨1,[97],6⟩,⟨4,[61],7⟩,⟨1,[105,100],8⟩,⟨4,[125],10⟩]):=by kernel_rfl
theorem sc3:scR (bl tx3)=(0,0,[⟨1,[105,100],0⟩,⟨4,[59],2⟩]):=by kernel_rfl
theorem sc4:scR (bl tx4)=(0,0,[⟨1,[114,101,99,111,114,100],0⟩,⟨4,[123],6⟩,⟨1,[105,100],7⟩,⟨4,[58],9⟩,⟨1,[105,110,116],10⟩,⟨4,[44],13⟩,⟨1,[116,97,103,115],14⟩,⟨4,[58],18⟩,⟨1,[108,105,115,116],19⟩,⟨4,[40],23⟩,⟨1,[116,101,120,116],24⟩,⟨4,[41],28⟩,⟨4,[125],29⟩]):=by kernel_rfl
theorem rd1 (g:Nat):rdR (g + 20) (bl tx1)=.inr (exM g):=by
 unfold rdR
 rw [sc1]
 kernel_rfl
theorem rd2 (g:Nat):rdR (g + 20) (bl tx2)=.inl (140,6):=by
 unfold rdR
 rw [sc2]
 kernel_rfl
theorem rd3 (g:Nat):rdR (g + 20) (bl tx3)=.inl (140,3):=by
 unfold rdR
 rw [sc3]
 kernel_rfl
def exT (g:Nat):TT (g + 20):=(⟨10,[mkB [105,100],mkB [116,97,103,115]]⟩,[(⟨5,[]⟩,[]),(⟨9,[]⟩,[(⟨7,[]⟩,[])])])
theorem rd4 (g:Nat):rdRt (g + 20) (bl tx4)=.inr (exT g):=by
 unfold rdRt
 rw [sc4]
 kernel_rfl
end Lx
end Go.Proofs.YtcnfchblfcfimaaGreatDoor
namespace Go.Proofs.YtcnfchblfcfimaaGreatDoor
namespace Lx
open Go.RowKit
variable {dq : {_f : (p : Prop) → Decidable p // True}}
set_option maxRecDepth 100000
theorem mem2 {α:Type} {a b y:α} (h:y∈[a,b]):y=a∨y=b:=by simpa using h
theorem mem3 {α:Type} {a b c y:α} (h:y∈[a,b,c]):y=a∨y=b∨y=c:=by simpa using h
theorem ev3 {P:(n:Nat)→ET n→Prop} (g:Nat) (h0:P _ (exM g)) (h1:∀ n,P (n + 1) ((⟨2,mkB [97],[],1,vz⟩,[]):ET (n + 1))) (h2:∀ n (y:ET n),P (n + 1) ((lf 4,[y]):ET (n + 1))) (h3:∀ n,P (n + 1) ((lf 9,[]):ET (n + 1))) (h4:∀ n,P (n + 1) ((lf 10,[]):ET (n + 1))):evA P _ (exM g):=by
 refine ev_all h0 fun y hy=>?_
 have hy':y=gtE 2 (mkB [97]) _∨y=((lf 4,[(lf 9,[])]):ET (dp (g + 20)))∨y=((lf 10,[]):ET (dp (g + 20))):=by
  exact mem3 (show y∈[gtE 2 (mkB [97]) (dp (g + 19) + 1),((lf 4,[(lf 9,[])]):ET (dp (g + 20))),((lf 10,[]):ET (dp (g + 20)))] from hy)
 rcases hy' with rfl|rfl|rfl
 ·exact ev_leaf (h1 _)
 ·refine ev_all (h2 _ _) fun z hz=>?_
  rw [show z=((lf 9,[]):ET (dp (g + 19) + 1)) from List.mem_singleton.1 hz]
  exact ev_leaf (h3 _)
 ·exact ev_leaf (h4 _)
theorem fine_a (n:Nat):Fine n ((⟨2,mkB [97],[],1,vz⟩,[]):ET (n + 1)):=fine_get 2 (mkB [97]) (Or.inl rfl) (by kernel_rfl) (by decide)
theorem lck1 (g:Nat):lck dq _ (exM g)=0:=by
 refine lck_zero (ev3 g ?_ ?_ ?_ ?_ ?_) (ev3 g ?_ ?_ ?_ ?_ ?_) (ev3 g ?_ ?_ ?_ ?_ ?_) ?_ ?_
 ·exact (fine_pipe _ (by show 2≤3;omega)).bare
 ·exact fun n=>(fine_a n).bare
 ·exact fun n y=>(fine_map y).bare
 ·exact fun n=>(fine_plain (n:=n) 9 [] (by simp)).bare
 ·exact fun n=>(fine_plain (n:=n) 10 [] (by simp)).bare
 ·exact (fine_pipe _ (by show 2≤3;omega)).fi
 ·exact fun n=>(fine_a n).fi
 ·exact fun n y=>(fine_map y).fi
 ·exact fun n=>(fine_plain (n:=n) 9 [] (by simp)).fi
 ·exact fun n=>(fine_plain (n:=n) 10 [] (by simp)).fi
 ·exact (fine_pipe _ (by show 2≤3;omega)).sh
 ·exact fun n=>(fine_a n).sh
 ·exact fun n y=>(fine_map y).sh
 ·exact fun n=>(fine_plain (n:=n) 9 [] (by simp)).sh
 ·exact fun n=>(fine_plain (n:=n) 10 [] (by simp)).sh
 ·rw [show edep _ (exM g)=3 by kernel_rfl];omega
 ·rw [show esiz _ (exM g)=5 by kernel_rfl];omega
theorem pa1 (g:Nat):paR dq (g + 20) (bl tx1)=.inr (exM g):=by
 unfold paR
 rw [rd1]
 show (if lck dq _ (exM g)=0 then _ else _)=_
 rw [if_pos (lck1 g)]
theorem pa2 (g:Nat):paR dq (g + 20) (bl tx2)=.inl (140,6):=by unfold paR;rw [rd2];rfl
theorem pa3 (g:Nat):paR dq (g + 20) (bl tx3)=.inl (140,3):=by unfold paR;rw [rd3];rfl
def px1:List UInt8:=[46,32,97,32,59,32,91,32,116,111,110,117,109,32,93,32,59,32,115,117,109]
theorem mtk1 (g:Nat):mtk _ (exM g)=[mk [46],ntk [97],mk [59],mk [91],wd [116,111,110,117,109],mk [93],mk [59],wd [115,117,109]]:=by kernel_rfl
theorem ntk_a:ntk [97]=wd [97]:=by kernel_rfl
theorem prv1:prR [mk [46],wd [97],mk [59],mk [91],wd [116,111,110,117,109],mk [93],mk [59],wd [115,117,109]]=(0,px1):=by kernel_rfl
theorem pr1 (g:Nat):prX dq _ (exM g)=(0,px1):=by
 unfold prX
 rw [if_pos (lck1 g),mtk1,ntk_a,prv1]
 rfl
theorem nms4:Nms [mkB [105,100],mkB [116,97,103,115]]:=by
 refine ⟨fun s hs=>?_,?_⟩
 ·simp only [List.mem_cons,List.not_mem_nil,or_false] at hs
  rcases hs with rfl|rfl <;> kernel_rfl
 ·refine List.nodup_cons.2 ⟨?_,List.nodup_cons.2 ⟨by simp,List.nodup_nil⟩⟩
  intro h
  have:=mkB_inj (List.mem_singleton.1 h)
  exact absurd this (by decide)
theorem tck4 (g:Nat):tck dq _ (exT g)=0:=by
 have mem:∀ y∈(exT g).2,y=((⟨5,[]⟩,[]):TT (g + 19))∨y=((⟨9,[]⟩,[(⟨7,[]⟩,[])]):TT (g + 19)):=fun y hy=>by
  exact mem2 (show y∈[((⟨5,[]⟩,[]):TT (g + 19)),((⟨9,[]⟩,[(⟨7,[]⟩,[])]):TT (g + 19))] from hy)
 refine tck_zero ⟨Or.inr (Or.inl ⟨Or.inl rfl,rfl,nms4⟩),fun y hy=>?_⟩ ⟨⟨by show 2≤256;omega,fun s hs=>?_,fun y hy=>?_⟩,?_,?_⟩
 ·rcases mem y hy with rfl|rfl
  ·exact ⟨Or.inr (Or.inr ⟨by show (1:Int)≤5;omega,by show (5:Int)≤8;omega,rfl,rfl⟩),fun z hz=>absurd hz (by simp)⟩
  ·refine ⟨Or.inl ⟨rfl,rfl,rfl⟩,fun z hz=>?_⟩
   rw [show z=((⟨7,[]⟩,[]):TT (g + 18)) from List.mem_singleton.1 hz]
   exact ⟨Or.inr (Or.inr ⟨by show (1:Int)≤7;omega,by show (7:Int)≤8;omega,rfl,rfl⟩),fun z hz=>absurd hz (by simp)⟩
 ·have:s∈[mkB [105,100],mkB [116,97,103,115]]:=hs
  simp only [List.mem_cons,List.not_mem_nil,or_false] at this
  rcases this with rfl|rfl <;> decide
 ·rcases mem y hy with rfl|rfl
  ·exact ⟨by simp,fun s hs=>absurd hs (by simp),fun z hz=>absurd hz (by simp)⟩
  ·refine ⟨by simp,fun s hs=>absurd hs (by simp),fun z hz=>?_⟩
   rw [show z=((⟨7,[]⟩,[]):TT (g + 18)) from List.mem_singleton.1 hz]
   exact ⟨by simp,fun s hs=>absurd hs (by simp),fun z hz=>absurd hz (by simp)⟩
 ·rw [show tdep _ (exT g)=3 by kernel_rfl];omega
 ·rw [show tsiz _ (exT g)=4 by kernel_rfl];omega
theorem pa4 (g:Nat):paT dq (g + 20) (bl tx4)=.inr (exT g):=by
 unfold paT
 rw [rd4]
 show (if tck dq _ (exT g)=0 then _ else _)=_
 rw [if_pos (tck4 g)]
def px4:List UInt8:=[114,101,99,111,114,100,32,123,32,105,100,32,58,32,105,110,116,32,44,32,116,97,103,115,32,58,32,108,105,115,116,32,40,32,116,101,120,116,32,41,32,125]
theorem ttk4 (g:Nat):ttk _ (exT g)=[wd [114,101,99,111,114,100],mk [123],ntk [105,100],mk [58],wd [105,110,116],mk [44],ntk [116,97,103,115],mk [58],wd [108,105,115,116],mk [40],wd [116,101,120,116],mk [41],mk [125]]:=by kernel_rfl
theorem ntk_i:ntk [105,100]=wd [105,100]:=by kernel_rfl
theorem ntk_t:ntk [116,97,103,115]=wd [116,97,103,115]:=by kernel_rfl
theorem prv4:prR [wd [114,101,99,111,114,100],mk [123],wd [105,100],mk [58],wd [105,110,116],mk [44],wd [116,97,103,115],mk [58],wd [108,105,115,116],mk [40],wd [116,101,120,116],mk [41],mk [125]]=(0,px4):=by kernel_rfl
theorem pr4 (g:Nat):prT dq _ (exT g)=(0,px4):=by
 unfold prT
 rw [if_pos (tck4 g),ttk4,ntk_i,ntk_t,prv4]
 rfl
end Lx
end Go.Proofs.YtcnfchblfcfimaaGreatDoor
