/- Merged by program: TdRead, TeRead, TfRead. -/
import Derived.Test.YtpimjkdakjhoaaaGreatDoorZk49
namespace Go.Proofs.YtpimjkdakjhoaaaGreatDoor
open Go.RowKit
set_option linter.unusedSimpArgs false
set_option linter.unusedVariables false
set_option maxHeartbeats 8000000
section
variable {n : Nat} {h : Hd} {l : List (VT n)}
theorem jtx_1 (hk:h.kind=1):jtx (n + 1) ((h,l):VT (n + 1))=[110,117,108,108]:=by
 show (if h.kind=1 then _ else _)=_
 rw [if_pos hk]
theorem jtx_2 (hk:h.kind=2):jtx (n + 1) ((h,l):VT (n + 1))=flgL h.flag:=by
 show (if h.kind=1 then _ else _)=_
 rw [if_neg (show ¬ h.kind=1 by omega),if_pos hk]
theorem jtx_3 (hk:h.kind=3):jtx (n + 1) ((h,l):VT (n + 1))=printL h.neg (bl h.dig) h.exp:=by
 show (if h.kind=1 then _ else _)=_
 rw [if_neg (show ¬ h.kind=1 by omega),if_neg (show ¬ h.kind=2 by omega),if_pos hk]
theorem jtx_4 (hk:h.kind=4):jtx (n + 1) ((h,l):VT (n + 1))=nmd dFloat (bl (fhexS h.bits.toNat)):=by
 show (if h.kind=1 then _ else _)=_
 rw [if_neg (show ¬ h.kind=1 by omega),if_neg (show ¬ h.kind=2 by omega),if_neg (show ¬ h.kind=3 by omega),if_pos hk]
theorem jtx_5 (hk:h.kind=5):jtx (n + 1) ((h,l):VT (n + 1))=quo (bl h.text):=by
 show (if h.kind=1 then _ else _)=_
 rw [if_neg (show ¬ h.kind=1 by omega),if_neg (show ¬ h.kind=2 by omega),if_neg (show ¬ h.kind=3 by omega),if_neg (show ¬ h.kind=4 by omega),if_pos hk]
theorem jtx_6 (hk:h.kind=6):jtx (n + 1) ((h,l):VT (n + 1))=nmd dBytes (hexL (bl h.text)):=by
 show (if h.kind=1 then _ else _)=_
 rw [if_neg (show ¬ h.kind=1 by omega),if_neg (show ¬ h.kind=2 by omega),if_neg (show ¬ h.kind=3 by omega),if_neg (show ¬ h.kind=4 by omega),if_neg (show ¬ h.kind=5 by omega),if_pos hk]
theorem jtx_7 (hk:h.kind=7):jtx (n + 1) ((h,l):VT (n + 1))=[91]++(jel n l l.length++[93]):=by
 show (if h.kind=1 then _ else _)=_
 rw [if_neg (show ¬ h.kind=1 by omega),if_neg (show ¬ h.kind=2 by omega),if_neg (show ¬ h.kind=3 by omega),if_neg (show ¬ h.kind=4 by omega),if_neg (show ¬ h.kind=5 by omega),if_neg (show ¬ h.kind=6 by omega),if_pos hk]
 rfl
theorem jtx_8 (hk:h.kind=8):jtx (n + 1) ((h,l):VT (n + 1))=[123]++(jrc n h.names l l.length++[125]):=by
 show (if h.kind=1 then _ else _)=_
 rw [if_neg (show ¬ h.kind=1 by omega),if_neg (show ¬ h.kind=2 by omega),if_neg (show ¬ h.kind=3 by omega),if_neg (show ¬ h.kind=4 by omega),if_neg (show ¬ h.kind=5 by omega),if_neg (show ¬ h.kind=6 by omega),if_neg (show ¬ h.kind=7 by omega),if_pos hk]
 rfl
theorem jtx_9 (hk:h.kind=9):jtx (n + 1) ((h,l):VT (n + 1))=[123]++(quo dTag++([58,91]++(quo (bl h.text)++([44]++((l[0]?).elim [] (jtx n)++[93,125]))))):=by
 show (if h.kind=1 then _ else _)=_
 rw [if_neg (show ¬ h.kind=1 by omega),if_neg (show ¬ h.kind=2 by omega),if_neg (show ¬ h.kind=3 by omega),if_neg (show ¬ h.kind=4 by omega),if_neg (show ¬ h.kind=5 by omega),if_neg (show ¬ h.kind=6 by omega),if_neg (show ¬ h.kind=7 by omega),if_neg (show ¬ h.kind=8 by omega)]
end
def VF (n:Nat):Prop:=∀ (x:VT n),Vo n x→∀ (st:St) (ks:List Int) (told:List Hd) (c:List Pa×Bool) (t:Nat×List Tp) (w T:Nat),Sx st ks told c t w T→(w=0∨w=1)→T + (jtx n x).length≤65536 →
 ∀ c' t',Okk c t (fl n x) c' t'→∃ z,feedS st (jtx n x)=.inr z∧Dn z ks (told++fl n x) c' t' (endW ks) (T + (jtx n x).length)
theorem feedS_cons {st x:St} {c:UInt8} (l:List UInt8) (h:takeS st c=.inr x):feedS st (c :: l)=feedS x l:=by
 show bnd (takeS st c) (fun x=>feedS x l)=_
 rw [h];rfl
theorem feedS_then {st x:St} {a b:List UInt8} (h:feedS st a=.inr x):feedS st (a++b)=feedS x b:=by
 rw [feedS_app,h];rfl
section
variable {st : St} {ks : List Int} {told : List Hd} {c c' : List Pa × Bool} {t t' : Nat × List Tp} {w T : Nat}
theorem Sx.named (h:Sx st ks told c t w T) (hw:w=0∨w=1) (a b:List UInt8) (ha:a.length≤8192) (oa:Ut.okT a=true) (hb:b.length≤8192) (ob:Ut.okT b=true) (ht:T + (nmd a b).length≤65536) (B:Nat) (hf:∀ y:St,firstS y (mkB a)=.inr {y with wait:=5,behind:=B})
  (e:Hd) (k:Okk c t [e] c' t') (hB:∀ y:St,y.wait=B→textS y (mkB b)=bnd (tellS y e) fun x=>.inr {x with wait:=12}):∃ z,feedS st (nmd a b)=.inr z∧Dn z ks (told++[e]) c' t' (endW ks) (T + (nmd a b).length):=by
 have el:(nmd a b).length=1 + ((quo a).length + (1 + ((quo b).length + 1))):=by simp [nmd];omega
 rw [el] at ht ⊢
 obtain ⟨y1,e1,s1,_⟩:=h.mark (a:=123) (by decide) (by omega)
 have e1':takeS st 123=.inr {y1 with wait:=3}:=by
  rw [e1]
  show openO y1=_
  unfold openO
  rw [if_pos (by rw [s1.wait];exact hw)]
 unfold nmd
 rw [show [123]++(quo a++([58]++(quo b++[125])))=123 :: (quo a++(58 :: (quo b++[125]))) from rfl,feedS_cons _ e1']
 obtain ⟨y2,e2,s2,_⟩:=(s1.wt 3).qt a ha oa (by omega)
 have e2':feedS {y1 with wait:=3} (quo a)=.inr {y2 with wait:=5,behind:=B}:=by
  rw [e2]
  unfold textS
  rw [if_neg (by rw [s2.wait];decide),if_pos s2.wait,hf]
 rw [feedS_then e2']
 obtain ⟨y3,e3,s3,b3⟩:=(s2.wb 5 B).mark (a:=58) (by decide) (by omega)
 have e3':takeS {y2 with wait:=5,behind:=B} 58=.inr {y3 with wait:=B}:=by
  rw [e3]
  show colonS y3=_
  unfold colonS
  rw [if_pos s3.wait,b3]
 rw [feedS_cons _ e3']
 obtain ⟨y4,e4,s4,_⟩:=(s3.wt B).qt b hb ob (by omega)
 obtain ⟨y5,e5,s5,_⟩:=s4.tell k
 have e4':feedS {y3 with wait:=B} (quo b)=.inr {y5 with wait:=12}:=by
  rw [e4,hB y4 s4.wait,e5]
  rfl
 rw [feedS_then e4']
 obtain ⟨y6,e6,s6,_⟩:=(s5.wt 12).mark (a:=125) (by decide) (by omega)
 have e6':takeS {y5 with wait:=12} 125=.inr (endV y6):=by
  rw [e6]
  show closeO y6=_
  unfold closeO
  rw [if_neg (by rw [s6.wait];decide),if_neg (by rw [s6.wait];intro q;cases q.1),if_pos s6.wait]
 rw [feedS_cons _ e6']
 refine ⟨_,rfl,?_⟩
 have:=s6.ev.dn
 have et:T + 1 + (quo a).length + 1 + (quo b).length + 1=T + (1 + ((quo a).length + (1 + ((quo b).length + 1)))):=by omega
 rw [et] at this
 exact this
end
theorem ascii_ok {l:List UInt8} (h:∀ c∈l,c.toNat<128):Ut.okT l=true:=by
 have:=ok_pre l h []
 rw [List.append_nil] at this
 rw [this];exact ok_nil
theorem hx_small (d:Nat) (h:d<16):(hx d).toNat<128:=by
 have:∀ d:_root_.Fin 16,(hx d.val).toNat<128:=by decide
 exact this ⟨d,h⟩
theorem hexL_small (l:List UInt8):∀ c∈hexL l,c.toNat<128:=by
 intro c hc
 simp only [hexL,List.mem_flatMap] at hc
 obtain ⟨a,_,ha⟩:=hc
 have h1:=hx_small (a.toNat / 16) (by have:=a.toNat_lt;omega)
 have h2:=hx_small (a.toNat % 16) (by omega)
 simp at ha
 rcases ha with rfl|rfl
 ·exact h1
 ·exact h2
theorem hx_D:∀ d:_root_.Fin 16,hxD (hx d.val)=some d:=by decide
theorem hx2_hex (l:List UInt8):hx2 (hexL l)=some l:=by
 induction l with
 | nil=>rfl
 | cons a l ih =>
  have e:hexL (a :: l)=hx (a.toNat / 16) :: hx (a.toNat % 16) :: hexL l:=by simp [hexL]
  have h1:=hx_D ⟨a.toNat / 16,by have:=a.toNat_lt;omega⟩
  have h2:=hx_D ⟨a.toNat % 16,by omega⟩
  simp only at h1 h2
  rw [e]
  unfold hx2
  rw [h1,h2,ih]
  show some (UInt8.ofNat (a.toNat / 16 * 16 + a.toNat % 16) :: l)=_
  rw [show a.toNat / 16 * 16 + a.toNat % 16=a.toNat by omega]
  simp
section
variable {n : Nat}
theorem vf_leaf (h:Hd) (l:List (VT n)) (hv:Vo (n + 1) ((h,l):VT (n + 1))) (hk:h.kind<7) (st:St) (ks:List Int) (told:List Hd) (c:List Pa×Bool) (t:Nat×List Tp) (w T:Nat) (hs:Sx st ks told c t w T) (hw:w=0∨w=1)
  (ht:T + (jtx (n + 1) ((h,l):VT (n + 1))).length≤65536) (c':List Pa×Bool) (t':Nat×List Tp) (hok:Okk c t (fl (n + 1) ((h,l):VT (n + 1))) c' t') :
  ∃ z,feedS st (jtx (n + 1) ((h,l):VT (n + 1)))=.inr z∧Dn z ks (told++fl (n + 1) ((h,l):VT (n + 1))) c' t' (endW ks) (T + (jtx (n + 1) ((h,l):VT (n + 1))).length):=by
 obtain ⟨⟨⟨b1,b2,b3,b4⟩,⟨f1,f2,f3,f4⟩,_⟩,⟨s1,s2,s3,_⟩,⟨g1,g2,_⟩⟩:=hv
 have b1:1≤h.kind:=b1
 have b3:strip h=zr h.kind:=b3
 have g1:0≤h.bits:=g1
 have g2:h.bits<18446744073709551616:=g2
 have s1:(h.text.size:Int)≤(bif h.kind==9 then 64 else 4096):=s1
 have s1':h.text.size≤4096:=by
  cases hq:(h.kind==9) <;> rw [hq] at s1 <;> simp at s1 <;> omega
 have hfl:fl (n + 1) ((h,l):VT (n + 1))=[hd0 h]:=by rw [fl_succ,if_pos hk]
 rw [hfl] at hok ⊢
 have hc:h.kind=1∨h.kind=2∨h.kind=3∨h.kind=4∨h.kind=5∨h.kind=6:=by omega
 rcases hc with hk|hk|hk|hk|hk|hk
 ·rw [jtx_1 hk] at ht ⊢
  rw [head_1 b3 hk] at hok ⊢
  exact hs.wd hw (by decide) (by decide) (by decide) ht hok fun x=>rfl
 ·rw [jtx_2 hk] at ht ⊢
  rw [head_2 b3 hk] at hok ⊢
  cases hf:h.flag with
  | true =>
   rw [hf] at hok ht
   exact hs.wd hw (by decide) (by decide) (by decide) ht hok fun x=>by
    unfold wordE
    rw [if_neg (by intro e;have:=congrArg bl e;revert this;decide),if_pos (show mkB (flgL true)=trueB from rfl)]
  | false =>
   rw [hf] at hok ht
   exact hs.wd hw (by decide) (by decide) (by decide) ht hok fun x=>by
    unfold wordE
    rw [if_neg (by intro e;have:=congrArg bl e;revert this;decide),if_neg (by intro e;have:=congrArg bl e;revert this;decide),if_pos (show mkB (flgL false)=falseB from rfl)]
 ·rw [jtx_3 hk] at ht ⊢
  rw [head_3 b3 hk] at hok ⊢
  obtain ⟨p1,p2,⟨a,r,p3,p4,p5,p6⟩,p7⟩:=print_ok h.neg h.dig h.exp (f1 hk)
  refine hs.wd hw (by rw [p3];simp) p1 p2 ht hok fun x=>?_
  unfold wordE
  have ne:∀ (d:UInt8) (q:List UInt8),a≠d→mkB (printL h.neg (bl h.dig) h.exp)≠mkB (d :: q):=by
   intro d q had e
   have:=congrArg bl e
   rw [bl_mkB,bl_mkB,p3] at this
   exact had (List.cons.inj this).1
  rw [if_neg (show ¬ mkB (printL h.neg (bl h.dig) h.exp)=nullB from ne 110 [117,108,108] p4),if_neg (show ¬ mkB (printL h.neg (bl h.dig) h.exp)=trueB from ne 116 [114,117,101] p5),if_neg (show ¬ mkB (printL h.neg (bl h.dig) h.exp)=falseB from ne 102 [97,108,115,101] p6)]
  unfold numS
  rw [bl_mkB,p7]
  rfl
 ·rw [jtx_4 hk] at ht ⊢
  rw [head_4 b3 hk g1] at hok ⊢
  obtain ⟨q1,q2,q3⟩:=fhex_ok h.bits.toNat (by omega)
  refine hs.named hw dFloat _ (by decide) (ascii_ok (by decide)) (by omega) (ascii_ok q1) ht 6 (fun y=>rfl) _ hok fun y hy=>?_
  unfold textS
  rw [hy]
  show floatS y (mkB (bl _))=_
  unfold floatS
  rw [mkB_bl,q3,if_pos rfl]
 ·rw [jtx_5 hk] at ht ⊢
  rw [head_5 b3 hk] at hok ⊢
  obtain ⟨y,e1,e2,_⟩:=hs.qt (bl h.text) (by rw [bl_length];omega) (f2 hk) ht
  obtain ⟨z,e3,e4,_⟩:=e2.tell hok
  refine ⟨endV z,?_,e4.ev.dn⟩
  rw [e1]
  unfold textS
  rw [if_pos (by rw [e2.wait];exact hw),mkB_bl,e3]
  rfl
 ·rw [jtx_6 hk] at ht ⊢
  rw [head_6 b3 hk] at hok ⊢
  refine hs.named hw dBytes _ (by decide) (ascii_ok (by decide)) (by rw [hexL_len,bl_length];omega) (ascii_ok (hexL_small _)) ht 7 (fun y=>rfl) _ hok fun y hy=>?_
  unfold textS
  rw [hy]
  show bytesS y (mkB (hexL _))=_
  unfold bytesS
  rw [bl_mkB,hx2_hex]
  simp only [mkB_bl]
end
theorem lastK_snoc (ks:List Int) (k:Int):lastK (ks++[k])=k:=by simp [lastK]
theorem endW_7 (ks:List Int):endW (ks++[7])=2:=by unfold endW;rw [lastK_snoc];rfl
theorem endW_8 (ks:List Int):endW (ks++[8])=2:=by unfold endW;rw [lastK_snoc];rfl
theorem endW_9 (ks:List Int):endW (ks++[9])=11:=by unfold endW;rw [lastK_snoc];rfl
section
variable {n : Nat}
theorem vf_els (vf:VF n) (h:Hd) (l:List (VT n)) (hv:∀ y∈l,Vo n y) (hk:h.kind=7) (ks:List Int) (told:List Hd) (st:St) (c:List Pa×Bool) (t:Nat×List Tp) (T:Nat) (hs:Sx st (ks++[7]) told c t 1 T) :
  ∀ k,k≤l.length→T + (jel n l k).length≤65536→∀ c' t',Okk c t (kids n h l k) c' t' →
   ∃ z,feedS st (jel n l k)=.inr z∧Dn z (ks++[7]) (told++kids n h l k) c' t' (if k=0 then 1 else 2) (T + (jel n l k).length)
 | 0,_,_,c',t',ho=>by
  obtain ⟨rfl,rfl⟩:=ho.nil
  refine ⟨st,rfl,?_⟩
  rw [kids_zero,List.append_nil]
  exact hs.dn
 | k + 1,hkl,hT,c',t',ho=>by
  rw [jel_succ n l k (by omega)] at hT ⊢
  rw [kids_succ n h l k (by omega)] at ho ⊢
  have hp:preN h k=[]:=by unfold preN;rw [if_neg (by omega)]
  rw [hp,List.append_nil] at ho ⊢
  simp only [List.length_append] at hT ⊢
  obtain ⟨c1,t1,o1,o2⟩:=ho.split
  obtain ⟨z,e1,d1⟩:=vf_els vf h l hv hk ks told st c t T hs k (by omega) (by omega) c1 t1 o1
  rw [feedS_then e1]
  rw [if_neg (by omega)]
  by_cases h0:k=0
  ·subst h0
   have ez:z=st:=by
    have:feedS st (jel n l 0)=.inr st:=rfl
    rw [this] at e1
    exact (Sum.inr.inj e1).symm
   subst ez
   obtain ⟨rfl,rfl⟩:=o1.nil
   have e0:cmL 0=[]:=rfl
   rw [e0] at hT ⊢
   have ej:jel n l 0=[]:=rfl
   rw [ej] at hT ⊢
   simp only [List.length_nil] at hT
   obtain ⟨z2,e2,d2⟩:=vf l[0] (hv _ (List.getElem_mem _)) z _ _ _ _ 1 T hs (Or.inr rfl) (by omega) c' t' o2
   refine ⟨z2,e2,?_⟩
   rw [endW_7] at d2
   simpa [kids_zero] using d2
  ·have ec:cmL k=[44]:=by
    unfold cmL
    rw [show (k==0)=false from by simpa using h0]
    rfl
   rw [ec] at hT ⊢
   rw [if_neg h0] at d1
   simp only [List.length_singleton] at hT ⊢
   obtain ⟨y,e3,s3⟩:=d1.mark (a:=44) (by decide) (by omega)
   have e3':takeS z 44=.inr {y with wait:=0}:=by
    rw [e3]
    show commaS y=_
    unfold commaS
    rw [if_neg (by rw [s3.ks,lastK_snoc];intro q;exact absurd q.2 (by decide)),if_pos (Or.inl s3.wait)]
   rw [List.singleton_append,feedS_cons _ e3']
   obtain ⟨z2,e2,d2⟩:=vf l[k] (hv _ (List.getElem_mem _)) _ _ _ _ _ 0 _ (s3.wt 0) (Or.inl rfl) (by omega) c' t' o2
   refine ⟨z2,e2,?_⟩
   rw [endW_7,List.append_assoc] at d2
   have et:T + (jel n l k).length + 1 + (jtx n l[k]).length=T + ((jel n l k).length + (1 + (jtx n l[k]).length)):=by omega
   rw [et] at d2
   exact d2
theorem vf_list (vf:VF n) (h:Hd) (l:List (VT n)) (hv:Vo (n + 1) ((h,l):VT (n + 1))) (hk:h.kind=7) (st:St) (ks:List Int) (told:List Hd) (c:List Pa×Bool) (t:Nat×List Tp) (w T:Nat) (hs:Sx st ks told c t w T) (hw:w=0∨w=1)
  (ht:T + (jtx (n + 1) ((h,l):VT (n + 1))).length≤65536) (c':List Pa×Bool) (t':Nat×List Tp) (hok:Okk c t (fl (n + 1) ((h,l):VT (n + 1))) c' t') :
  ∃ z,feedS st (jtx (n + 1) ((h,l):VT (n + 1)))=.inr z∧Dn z ks (told++fl (n + 1) ((h,l):VT (n + 1))) c' t' (endW ks) (T + (jtx (n + 1) ((h,l):VT (n + 1))).length):=by
 have b3:strip h=zr h.kind:=hv.1.1.2.2.1
 have hfl:fl (n + 1) ((h,l):VT (n + 1))=zr 7 :: (kids n h l l.length++[evE]):=by rw [fl_succ,if_neg (by omega),head_7 b3 hk]
 rw [hfl] at hok ⊢
 rw [jtx_7 hk] at ht ⊢
 simp only [List.length_append,List.length_singleton] at ht ⊢
 obtain ⟨c1,t1,o1,o2⟩:=hok.cons
 obtain ⟨c2,t2,o2,o3⟩:=o2.split
 obtain ⟨y1,e1,s1,_⟩:=hs.mark (a:=91) (by decide) (by omega)
 obtain ⟨y2,e2,s2⟩:=s1.begin o1
 have e1':takeS st 91=.inr {y2 with wait:=1}:=by
  rw [e1]
  show openL y1=_
  unfold openL
  rw [if_pos (by rw [s1.wait];exact hw),e2]
  rfl
 rw [List.singleton_append,feedS_cons _ e1']
 have s2':Sx {y2 with wait:=1} (ks++[7]) (told++[zr 7]) c1 t1 1 (T + 1):=s2.wt 1
 obtain ⟨z,e3,d3⟩:=vf_els vf h l (fun y hy=>by
  obtain ⟨i,hi,rfl⟩:=List.getElem_of_mem hy
  exact hv.kid i hi) hk ks _ _ _ _ _ s2' l.length (Nat.le_refl _) (by omega) c2 t2 o2
 rw [feedS_then e3]
 obtain ⟨y4,e4,s4⟩:=d3.mark (a:=93) (by decide) (by omega)
 obtain ⟨y5,e5,s5⟩:=s4.close o3
 have e4':takeS z 93=.inr (endV y5):=by
  rw [e4]
  show closeL y4=_
  unfold closeL
  rw [if_pos,e5]
  ·rfl
  ·rw [s4.wait,s4.ks,lastK_snoc]
   by_cases h0:l.length=0
   ·rw [if_pos h0];exact Or.inl rfl
   ·rw [if_neg h0];exact Or.inr ⟨rfl,rfl⟩
 rw [feedS_cons _ e4']
 refine ⟨_,rfl,?_⟩
 have s6:=s5.ev.dn
 rw [List.dropLast_concat] at s6
 have et:T + 1 + (jel n l l.length).length + 1=T + (1 + ((jel n l l.length).length + 1)):=by omega
 rw [et] at s6
 have el:told++[zr 7]++kids n h l l.length++[evE]=told++zr 7 :: (kids n h l l.length++[evE]):=by simp
 rw [el] at s6
 exact s6
theorem vf_tag (vf:VF n) (h:Hd) (l:List (VT n)) (hv:Vo (n + 1) ((h,l):VT (n + 1))) (hk:h.kind=9) (st:St) (ks:List Int) (told:List Hd) (c:List Pa×Bool) (t:Nat×List Tp) (w T:Nat) (hs:Sx st ks told c t w T) (hw:w=0∨w=1)
  (ht:T + (jtx (n + 1) ((h,l):VT (n + 1))).length≤65536) (c':List Pa×Bool) (t':Nat×List Tp) (hok:Okk c t (fl (n + 1) ((h,l):VT (n + 1))) c' t') :
  ∃ z,feedS st (jtx (n + 1) ((h,l):VT (n + 1)))=.inr z∧Dn z ks (told++fl (n + 1) ((h,l):VT (n + 1))) c' t' (endW ks) (T + (jtx (n + 1) ((h,l):VT (n + 1))).length):=by
 have b3:strip h=zr h.kind:=hv.1.1.2.2.1
 obtain ⟨ox,ol⟩:=hv.1.2.1.2.2.2 hk
 have ol:l.length=1:=ol
 have ox:okT h.text=true:=ox
 have s1:(h.text.size:Int)≤(bif h.kind==9 then 64 else 4096):=hv.2.1.1
 have s1':h.text.size≤64:=by rw [hk] at s1;simp at s1;omega
 obtain ⟨v,rfl⟩:∃ v,l=[v]:=by
  match l,ol with
  | [v],_=>exact ⟨v,rfl⟩
 have hfl:fl (n + 1) ((h,[v]):VT (n + 1))=evTag h.text :: (fl n v++[evE]):=by
  rw [fl_succ,if_neg (by omega),head_9 b3 hk]
  have:kids n h [v] [v].length=fl n v:=by
   show kids n h [v] (0 + 1)=_
   rw [kids_succ n h [v] 0 (by simp),kids_zero]
   have hp:preN h 0=[]:=by unfold preN;rw [if_neg (by omega)]
   rw [hp];rfl
  rw [this]
 rw [hfl] at hok ⊢
 rw [jtx_9 hk] at ht ⊢
 have ev:(([v]:List (VT n))[0]?).elim [] (jtx n)=jtx n v:=rfl
 rw [ev] at ht ⊢
 simp only [List.length_append,List.length_singleton,List.length_cons,List.length_nil] at ht ⊢
 obtain ⟨c1,t1,o1,o2⟩:=hok.cons
 obtain ⟨c2,t2,o2,o3⟩:=o2.split
 obtain ⟨y1,e1,s1,_⟩:=hs.mark (a:=123) (by decide) (by omega)
 have e1':takeS st 123=.inr {y1 with wait:=3}:=by
  rw [e1]
  show openO y1=_
  unfold openO
  rw [if_pos (by rw [s1.wait];exact hw)]
 rw [List.singleton_append,feedS_cons _ e1']
 obtain ⟨y2,e2,s2,_⟩:=(s1.wt 3).qt dTag (by decide) (ascii_ok (by decide)) (by omega)
 have e2':feedS {y1 with wait:=3} (quo dTag)=.inr {y2 with wait:=5,behind:=8}:=by
  rw [e2]
  unfold textS
  rw [if_neg (by rw [s2.wait];decide),if_pos s2.wait]
  rfl
 rw [feedS_then e2']
 obtain ⟨y3,e3,s3,b3⟩:=(s2.wb 5 8).mark (a:=58) (by decide) (by omega)
 have e3':takeS {y2 with wait:=5,behind:=8} 58=.inr {y3 with wait:=8}:=by
  rw [e3]
  show colonS y3=_
  unfold colonS
  rw [if_pos s3.wait,b3]
 rw [show ∀ r:List UInt8,[58,91]++r=58 :: 91 :: r from fun r=>rfl,feedS_cons _ e3']
 obtain ⟨y4,e4,s4,_⟩:=(s3.wt 8).mark (a:=91) (by decide) (by omega)
 have e4':takeS {y3 with wait:=8} 91=.inr {y4 with wait:=9}:=by
  rw [e4]
  show openL y4=_
  unfold openL
  rw [if_neg (by rw [s4.wait];decide),if_pos s4.wait]
 rw [feedS_cons _ e4']
 obtain ⟨y5,e5,s5,_⟩:=(s4.wt 9).qt (bl h.text) (by rw [bl_length];omega) ox (by omega)
 obtain ⟨y6,e6,s6⟩:=s5.begin o1
 have e5':feedS {y4 with wait:=9} (quo (bl h.text))=.inr {y6 with wait:=10}:=by
  rw [e5,mkB_bl]
  unfold textS
  rw [if_neg (by rw [s5.wait];decide),if_neg (by rw [s5.wait];decide),if_neg (by rw [s5.wait];decide),if_neg (by rw [s5.wait];decide),if_neg (by rw [s5.wait];decide),if_pos s5.wait,e6]
  rfl
 rw [feedS_then e5']
 obtain ⟨y7,e7,s7,_⟩:=(s6.wt 10).mark (a:=44) (by decide) (by omega)
 have e7':takeS {y6 with wait:=10} 44=.inr {y7 with wait:=0}:=by
  rw [e7]
  show commaS y7=_
  unfold commaS
  rw [if_neg (by rw [s7.wait];intro q;exact absurd q.1 (by decide)),if_pos (Or.inr s7.wait)]
 rw [List.singleton_append,feedS_cons _ e7']
 have s7':Sx {y7 with wait:=0} (ks++[9]) (told++[evTag h.text]) c1 t1 0 _:=s7.wt 0
 obtain ⟨z,e8,d8⟩:=vf v (hv.kid 0 (by simp)) _ _ _ _ _ 0 _ s7' (Or.inl rfl) (by omega) c2 t2 o2
 rw [feedS_then e8]
 rw [endW_9] at d8
 obtain ⟨y9,e9,s9⟩:=d8.mark (a:=93) (by decide) (by omega)
 obtain ⟨y10,e10,s10⟩:=s9.close o3
 have e9':takeS z 93=.inr {y10 with wait:=12}:=by
  rw [e9]
  show closeL y9=_
  unfold closeL
  rw [if_neg (by rw [s9.wait];intro q;rcases q with q|q;exact absurd q (by decide);exact absurd q.1 (by decide)),if_pos s9.wait,e10]
  rfl
 rw [feedS_cons _ e9']
 obtain ⟨y11,e11,s11,_⟩:=(s10.wt 12).mark (a:=125) (by decide) (by omega)
 have e11':takeS {y10 with wait:=12} 125=.inr (endV y11):=by
  rw [e11]
  show closeO y11=_
  unfold closeO
  rw [if_neg (by rw [s11.wait];decide),if_neg (by rw [s11.wait];intro q;cases q.1),if_pos s11.wait]
 rw [feedS_cons _ e11']
 refine ⟨_,rfl,?_⟩
 have d:=s11.ev.dn
 rw [List.dropLast_concat] at d
 have et:T + 1 + (quo dTag).length + 1 + 1 + (quo (bl h.text)).length + 1 + (jtx n v).length + 1 + 1=T + (1 + ((quo dTag).length + (0 + 1 + 1 + ((quo (bl h.text)).length + (1 + ((jtx n v).length + (0 + 1 + 1))))))):=by omega
 rw [et] at d
 have el:told++[evTag h.text]++fl n v++[evE]=told++evTag h.text :: (fl n v++[evE]):=by simp
 rw [el] at d
 exact d
end
theorem nmD_no {k:Nat} {s:List UInt8} (h:k≠0∨s.head?≠some 36):nmD k s=s:=by
 unfold nmD
 have:(k==0 && s.head?==some 36)=false:=by
  rcases h with h|h
  ·simp [h]
  ·simp [h]
 rw [this]
 rfl
theorem nmD_yes {r:List UInt8}:nmD 0 (36 :: r)=36 :: 36 :: r:=rfl
theorem head_36 (l:List UInt8):(∃ r,l=36 :: r)∨l.head?≠some 36:=by
 cases l with
 | nil=>exact Or.inr (by simp)
 | cons a r =>
  by_cases h:a=36
  ·exact Or.inl ⟨r,by rw [h]⟩
  ·exact Or.inr (by simpa using h)
theorem first_name (y:St) (s:ByteArray):firstS y (mkB (nmD 0 (bl s)))=recS y s:=by
 have ne:∀ (a b:List UInt8),a≠b→mkB a≠mkB b:=by
  intro a b h e
  have:=congrArg bl e
  rw [bl_mkB,bl_mkB] at this
  exact h this
 have e1:floatN=mkB dFloat:=rfl
 have e2:bytesN=mkB dBytes:=rfl
 have e3:tagN=mkB dTag:=rfl
 rcases head_36 (bl s) with ⟨r,hr⟩|hn
 ·rw [hr,nmD_yes]
  unfold firstS
  rw [e1,e2,e3,if_neg (ne _ _ (by simp [dFloat])),if_neg (ne _ _ (by simp [dBytes])),if_neg (ne _ _ (by simp [dTag])),bl_mkB]
  show recS y (mkB (36 :: r))=_
  rw [←hr,mkB_bl]
 ·rw [nmD_no (Or.inr hn)]
  unfold firstS
  have hd:∀ q:List UInt8,bl s≠36 :: q:=by
   intro q e
   rw [e] at hn
   simp at hn
  rw [e1,e2,e3,if_neg (ne (bl s) dFloat (hd _)),if_neg (ne (bl s) dBytes (hd _)),if_neg (ne (bl s) dTag (hd _)),bl_mkB]
  split
  ·rename_i q e
   exact absurd e (hd q)
  ·rw [mkB_bl]
theorem nmD_ok (k:Nat) (s:ByteArray) (h:okT s=true):Ut.okT (nmD k (bl s))=true:=by
 by_cases hk:k=0
 ·subst hk
  rcases head_36 (bl s) with ⟨r,hr⟩|hn
  ·rw [hr,nmD_yes]
   have:=ok_pre [36] (by decide) (36 :: r)
   show Ut.okT ([36]++36 :: r)=true
   rw [this,←hr]
   exact h
  ·rw [nmD_no (Or.inr hn)];exact h
 ·rw [nmD_no (Or.inl hk)];exact h
theorem nmD_le (k:Nat) (s:List UInt8):(nmD k s).length≤s.length + 1:=by
 unfold nmD
 cases (k==0 && s.head?==some 36) <;> simp
section
variable {n : Nat}
theorem vf_field (vf:VF n) (v:VT n) (hv:Vo n v) (st:St) (ks:List Int) (told:List Hd) (c:List Pa×Bool) (t:Nat×List Tp) (T:Nat) (hs:Sx st (ks++[8]) told c t 5 T) (hb:st.behind=0) (hT:T + (1 + (jtx n v).length)≤65536) (c':List Pa×Bool) (t':Nat×List Tp) (ho:Okk c t (fl n v) c' t') :
  ∃ z,feedS st ([58]++jtx n v)=.inr z∧Dn z (ks++[8]) (told++fl n v) c' t' 2 (T + (1 + (jtx n v).length)):=by
 obtain ⟨y,e3,s3,b3⟩:=hs.mark (a:=58) (by decide) (by omega)
 have e3':takeS st 58=.inr {y with wait:=0}:=by
  rw [e3]
  show colonS y=_
  unfold colonS
  rw [if_pos s3.wait,b3,hb]
 rw [List.singleton_append,feedS_cons _ e3']
 obtain ⟨z2,e2,d2⟩:=vf v hv _ _ _ _ _ 0 _ (s3.wt 0) (Or.inl rfl) (by omega) c' t' ho
 refine ⟨z2,e2,?_⟩
 rw [endW_8,Nat.add_assoc] at d2
 exact d2
theorem vf_fields (vf:VF n) (h:Hd) (l:List (VT n)) (hv:∀ y∈l,Vo n y) (hk:h.kind=8) (hn:h.names.length=l.length) (hm:Nms h.names) (hz:∀ s∈h.names,s.size≤64) (ks:List Int) (told:List Hd) (st:St) (c:List Pa×Bool) (t:Nat×List Tp) (T:Nat) (hs:Sx st ks told c t 3 T) :
  ∀ k,k<l.length→T + (jrc n h.names l (k + 1)).length≤65536→∀ c' t',Okk c t (zr 8 :: kids n h l (k + 1)) c' t' →
   ∃ z,feedS st (jrc n h.names l (k + 1))=.inr z∧Dn z (ks++[8]) (told++(zr 8 :: kids n h l (k + 1))) c' t' 2 (T + (jrc n h.names l (k + 1)).length)
 | 0,hkl,hT,c',t',ho=>by
  have hkn:0<h.names.length:=by omega
  rw [jrc_succ n h.names l 0 hkl hkn] at hT ⊢
  rw [kids_succ n h l 0 hkl] at ho ⊢
  have hp:preN h 0=[evN h.names[0]]:=by unfold preN;rw [if_pos hk,List.getElem?_eq_getElem hkn];rfl
  rw [hp,kids_zero] at ho ⊢
  have ej:jrc n h.names l 0=[]:=rfl
  have e0:cmL 0=[]:=rfl
  rw [ej,e0,List.nil_append,List.nil_append] at hT ⊢
  simp only [List.length_append,List.length_singleton] at hT ⊢
  have es0:zr 8 :: ([]++[evN h.names[0]]++fl n l[0])=zr 8 :: evN h.names[0] :: fl n l[0]:=rfl
  rw [es0] at ho ⊢
  obtain ⟨c1,t1,o1,o2⟩:=ho.cons
  obtain ⟨c2,t2,o2,o3⟩:=o2.cons
  have hmem:=List.getElem_mem hkn
  obtain ⟨y,e1,s1,_⟩:=hs.qt (nmD 0 (bl h.names[0])) (by have:=nmD_le 0 (bl h.names[0]);have:=hz _ hmem;rw [bl_length] at *;omega) (nmD_ok 0 _ (hm.1 _ hmem)) (by omega)
  obtain ⟨y2,e2,s2⟩:=(s1.wt 5).begin o1
  have s2:Sx y2 (ks++[8]) (told++[zr 8]) c1 t1 5 _:=s2
  obtain ⟨y3,e3,s3,b3⟩:=s2.name o2
  have e1':feedS st (quo (nmD 0 (bl h.names[0])))=.inr y3:=by
   rw [e1]
   unfold textS
   rw [if_neg (by rw [s1.wait];decide),if_pos s1.wait,first_name]
   unfold recS
   rw [e2]
   exact e3
  rw [feedS_then e1']
  obtain ⟨z,e4,d4⟩:=vf_field vf l[0] (hv _ (List.getElem_mem _)) y3 ks _ _ _ _ s3 b3 (by omega) c' t' o3
  refine ⟨z,e4,?_⟩
  have el:told++[zr 8]++[evN h.names[0]]++fl n l[0]=told++zr 8 :: evN h.names[0] :: fl n l[0]:=by simp
  rw [el,Nat.add_assoc] at d4
  exact d4
 | k + 1,hkl,hT,c',t',ho=>by
  have hkn:k + 1<h.names.length:=by omega
  rw [jrc_succ n h.names l (k + 1) hkl hkn] at hT ⊢
  rw [kids_succ n h l (k + 1) hkl] at ho ⊢
  have hp:preN h (k + 1)=[evN h.names[k + 1]]:=by unfold preN;rw [if_pos hk,List.getElem?_eq_getElem hkn];rfl
  rw [hp] at ho ⊢
  have ec:cmL (k + 1)=[44]:=rfl
  rw [ec,nmD_no (Or.inl (by omega))] at hT ⊢
  simp only [List.length_append,List.length_singleton] at hT ⊢
  have es0:zr 8 :: (kids n h l (k + 1)++[evN h.names[k + 1]]++fl n l[k + 1])=(zr 8 :: kids n h l (k + 1))++(evN h.names[k + 1] :: fl n l[k + 1]):=by simp
  rw [es0] at ho ⊢
  obtain ⟨c1,t1,o1,o2⟩:=ho.split
  obtain ⟨c2,t2,o2,o3⟩:=o2.cons
  obtain ⟨z,e1,d1⟩:=vf_fields vf h l hv hk hn hm hz ks told st c t T hs k (by omega) (by omega) c1 t1 o1
  rw [feedS_then e1]
  obtain ⟨y,e3,s3⟩:=d1.mark (a:=44) (by decide) (by omega)
  have e3':takeS z 44=.inr {y with wait:=4}:=by
   rw [e3]
   show commaS y=_
   unfold commaS
   rw [if_pos ⟨s3.wait,by rw [s3.ks,lastK_snoc]⟩]
  rw [List.singleton_append,feedS_cons _ e3']
  have hmem:=List.getElem_mem hkn
  obtain ⟨y4,e4,s4,_⟩:=(s3.wt 4).qt (bl h.names[k + 1]) (by have:=hz _ hmem;rw [bl_length];omega) (hm.1 _ hmem) (by omega)
  obtain ⟨y5,e5,s5,b5⟩:=s4.name o2
  have e4':feedS {y with wait:=4} (quo (bl h.names[k + 1]))=.inr y5:=by
   rw [e4,mkB_bl]
   unfold textS
   rw [if_neg (by rw [s4.wait];decide),if_neg (by rw [s4.wait];decide),if_pos s4.wait]
   exact e5
  rw [feedS_then e4']
  obtain ⟨z2,e6,d6⟩:=vf_field vf l[k + 1] (hv _ (List.getElem_mem _)) y5 ks _ _ _ _ s5 b5 (by omega) c' t' o3
  refine ⟨z2,e6,?_⟩
  have el:told++(zr 8 :: kids n h l (k + 1))++[evN h.names[k + 1]]++fl n l[k + 1]=told++((zr 8 :: kids n h l (k + 1))++(evN h.names[k + 1] :: fl n l[k + 1])):=by simp
  have et:T + (jrc n h.names l (k + 1)).length + 1 + (quo (bl h.names[k + 1])).length + (1 + (jtx n l[k + 1]).length)=T + ((jrc n h.names l (k + 1)).length + (1 + ((quo (bl h.names[k + 1])).length + (1 + (jtx n l[k + 1]).length)))):=by omega
  rw [el,et] at d6
  exact d6
theorem vf_rec (vf:VF n) (h:Hd) (l:List (VT n)) (hv:Vo (n + 1) ((h,l):VT (n + 1))) (hk:h.kind=8) (st:St) (ks:List Int) (told:List Hd) (c:List Pa×Bool) (t:Nat×List Tp) (w T:Nat) (hs:Sx st ks told c t w T) (hw:w=0∨w=1)
  (ht:T + (jtx (n + 1) ((h,l):VT (n + 1))).length≤65536) (c':List Pa×Bool) (t':Nat×List Tp) (hok:Okk c t (fl (n + 1) ((h,l):VT (n + 1))) c' t') :
  ∃ z,feedS st (jtx (n + 1) ((h,l):VT (n + 1)))=.inr z∧Dn z ks (told++fl (n + 1) ((h,l):VT (n + 1))) c' t' (endW ks) (T + (jtx (n + 1) ((h,l):VT (n + 1))).length):=by
 have b3:strip h=zr h.kind:=hv.1.1.2.2.1
 obtain ⟨hn,hm⟩:=hv.1.2.1.2.2.1 hk
 have hn:h.names.length=l.length:=hn
 have hm:Nms h.names:=hm
 have hz:∀ s∈h.names,s.size≤64:=hv.2.1.2.2.1
 have hfl:fl (n + 1) ((h,l):VT (n + 1))=zr 8 :: (kids n h l l.length++[evE]):=by rw [fl_succ,if_neg (by omega),head_8 b3 hk]
 rw [hfl] at hok ⊢
 rw [jtx_8 hk] at ht ⊢
 simp only [List.length_append,List.length_singleton] at ht ⊢
 obtain ⟨y1,e1,s1,_⟩:=hs.mark (a:=123) (by decide) (by omega)
 have e1':takeS st 123=.inr {y1 with wait:=3}:=by
  rw [e1]
  show openO y1=_
  unfold openO
  rw [if_pos (by rw [s1.wait];exact hw)]
 rw [List.singleton_append,feedS_cons _ e1']
 by_cases h0:l.length=0
 ·have hl:l=[]:=List.eq_nil_of_length_eq_zero h0
  subst hl
  have ek:kids n h [] ([]:List (VT n)).length=[]:=rfl
  have ej:jrc n h.names [] ([]:List (VT n)).length=[]:=rfl
  rw [ek,List.nil_append] at hok ⊢
  rw [ej] at ht ⊢
  obtain ⟨c1,t1,o1,o2⟩:=hok.cons
  obtain ⟨y4,e4,s4,_⟩:=(s1.wt 3).mark (a:=125) (by decide) (by simp at ht;omega)
  obtain ⟨y5,e5,s5⟩:=s4.begin o1
  obtain ⟨y6,e6,s6⟩:=s5.close o2
  have e4':takeS {y1 with wait:=3} 125=.inr (endV y6):=by
   rw [e4]
   show closeO y4=_
   unfold closeO
   rw [if_pos s4.wait,e5]
   show bnd (endS y5) _=_
   rw [e6]
   rfl
  rw [List.nil_append,feedS_cons _ e4']
  refine ⟨_,rfl,?_⟩
  have d:=s6.ev.dn
  rw [List.dropLast_concat,List.append_assoc] at d
  exact d
 ·obtain ⟨k,hkl⟩:∃ k,l.length=k + 1:=⟨l.length - 1,by omega⟩
  have ho:zr 8 :: (kids n h l l.length++[evE])=(zr 8 :: kids n h l l.length)++[evE]:=rfl
  rw [ho] at hok ⊢
  obtain ⟨c2,t2,o2,o3⟩:=hok.split
  rw [hkl] at o2 ht ⊢
  obtain ⟨z,e3,d3⟩:=vf_fields vf h l (fun y hy=>by
   obtain ⟨i,hi,rfl⟩:=List.getElem_of_mem hy
   exact hv.kid i hi) hk hn hm hz ks told _ c t _ (s1.wt 3) k (by omega) (by omega) c2 t2 o2
  rw [feedS_then e3]
  obtain ⟨y4,e4,s4⟩:=d3.mark (a:=125) (by decide) (by omega)
  obtain ⟨y5,e5,s5⟩:=s4.close o3
  have e4':takeS z 125=.inr (endV y5):=by
   rw [e4]
   show closeO y4=_
   unfold closeO
   rw [if_neg (by rw [s4.wait];decide),if_pos ⟨s4.wait,by rw [s4.ks,lastK_snoc]⟩,e5]
   rfl
  rw [feedS_cons _ e4']
  refine ⟨_,rfl,?_⟩
  have s6:=s5.ev.dn
  rw [List.dropLast_concat] at s6
  have et:T + 1 + (jrc n h.names l (k + 1)).length + 1=T + (1 + ((jrc n h.names l (k + 1)).length + 1)):=by omega
  rw [et,List.append_assoc] at s6
  exact s6
end
theorem vf_all:∀ n,VF n
 | 0=>fun x=>Empty.elim x
 | n + 1=>by
  have ih:=vf_all n
  intro x hv st ks told c t w T hs hw ht c' t' hok
  obtain ⟨h,l⟩:=x
  have b1:1≤h.kind:=hv.1.1.1
  have b2:h.kind≤9:=hv.1.1.2.1
  by_cases h7:h.kind<7
  ·exact vf_leaf h l hv h7 st ks told c t w T hs hw ht c' t' hok
  by_cases h8:h.kind=7
  ·exact vf_list ih h l hv h8 st ks told c t w T hs hw ht c' t' hok
  by_cases h9:h.kind=8
  ·exact vf_rec ih h l hv h9 st ks told c t w T hs hw ht c' t' hok
  ·exact vf_tag ih h l hv (by omega) st ks told c t w T hs hw ht c' t' hok
theorem sm_st0:Sx st0 [] [] ([],false) (0,[]) 0 0:=⟨⟨rfl,rfl,rfl⟩,rfl,rfl,rfl,rfl,rfl,rfl⟩
theorem read_doc (n:Nat) (x:VT n) (hv:Vo n x) (hl:(jtx n x).length≤65536) (t':Nat×List Tp) (hc:runE (fl n x)=some ([],true)) (ht:runT (some (0,[])) (fl n x)=some t'):readS (jtx n x)=.inr (fl n x):=by
 obtain ⟨z,e1,d1⟩:=vf_all n x hv st0 [] [] _ _ 0 0 sm_st0 (Or.inl rfl) (by omega) _ _ ⟨hc,ht⟩
 rw [readS_eq,e1]
 obtain ⟨y,e2,s2⟩:=d1.nd
 have e3:endWordS z=.inr {y with total:=z.total}:=e2 z.total
 show bnd (finS z) _=_
 unfold finS
 rw [e3]
 show bnd (if y.wait≠13∨y.q.place≠0 then _ else if y.passed=true then _ else _) _=_
 rw [if_neg (by rw [s2.wait,s2.cl.q];intro q;rcases q with q|q;exact q rfl;exact q rfl),if_neg (by rw [s2.cl.pas];decide)]
 show Sum.inr y.told=_
 rw [s2.told]
 rfl
end Go.Proofs.YtpimjkdakjhoaaaGreatDoor
