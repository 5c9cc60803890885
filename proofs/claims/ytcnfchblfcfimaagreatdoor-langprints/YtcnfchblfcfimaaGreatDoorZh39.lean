import Derived.Stop.LaidErr
import Derived.PinnedBridge
import Derived.Test.YtcnfchblfcfimaaGreatDoorZh32
import Derived.Test.YtcnfchblfcfimaaGreatDoorZh38
import Derived.Test.YtcnfchblfcfimaaGreatDoorZh35
set_option linter.all false
set_option maxHeartbeats 4000000
set_option maxRecDepth 100000
namespace Go.Proofs.YtcnfchblfcfimaaGreatDoor
open Proofs.Tryz RowKit
section
open Go.ChangeShapes Go.WideShapes Go.ChangeAt Go.RowKit Go.Joins Go.Shelf
theorem bK{P:Program}{x:String×DataW Unit}{rest:List (String×DataW Unit)}{W:World}(h:laidMet P (x::rest) W):laidMet P rest W:=by obtain⟨ps,⟨g,t,cs,f,p,q,h1,h2,h3,h4,h5,h6⟩,hn,dU⟩:=h;subst h6;exact⟨q,h5,(List.nodup_append.1 hn).2.1,fun b off hm=>dU b off (List.mem_append_right _ hm)⟩
theorem gZ : Tryz.prog.globalNamed "math/bits.deBruijn64tab" = some 14 := by kernel_rfl
theorem Xg:(Tryz.prog.globals[14]?).map (·.type)=some 248:=by kernel_rfl
def Rq:List Int:=[0,1,56,2,57,49,28,3,61,58,42,50,38,29,17,4,62,47,59,36,45,43,51,22,53,39,33,30,24,18,12,5,63,55,48,27,60,41,37,16,46,35,44,21,52,32,23,11,54,26,40,15,34,20,31,10,25,14,19,9,13,8,7,6]
theorem gW : Tryz.prog.globalNamed "calamus/lex.words" = some 3 := by kernel_rfl
theorem Xh:(Tryz.prog.globals[3]?).map (·.type)=some 121:=by kernel_rfl
theorem gL : Tryz.prog.globalNamed "calamus/lex.longest" = some 0 := by kernel_rfl
theorem Xj:(Tryz.prog.globals[0]?).map (·.type)=some 95:=by kernel_rfl
theorem gE : Tryz.prog.globalNamed "strconv.ErrSyntax" = some 11 := by kernel_rfl
theorem Xk:(Tryz.prog.globals[11]?).map (·.type)=some 218:=by kernel_rfl
theorem CI : "*" ++ "errors.errorString" = "*errors.errorString" := by decide
theorem Og (u : TypeId) (h : Tryz.prog.typeName? 3 u = some "*errors.errorString") : u = 250 :=
 typeName_ptr_named (nm := "errors.errorString") (by rw [CI]; kernel_rfl) (by kernel_rfl) (by decide) u (by rw [CI]; exact h)
theorem BK:(Rows.laid_unicode_utf8_acceptRanges:DataW Unit)=Lib.acceptData:=by kernel_rfl
theorem Qu{P:Nat->Prop}(h0:P 0)(h1:P 1)(h2:P 2)(h3:P 3)(h4:P 4):∀k,k<5->P k:=by
 intro k hk;have:k=0\/k=1\/k=2\/k=3\/k=4:=by omega
 rcases this with rfl|rfl|rfl|rfl|rfl<;>assumption
end
namespace Lx
def Kv(o:List UInt8):Option Int:=if o=[97,110,121] then some 1 else if o=[110,117,108,108] then some 2 else if o=[98,111,111,108] then some 3 else if o=[110,117,109] then some 4 else if o=[105,110,116] then some 5 else if o=[102,108,111,97,116] then some 6 else if o=[116,101,120,116] then some 7 else if o=[98,121,116,101,115] then some 8 else none
def vw{m:Nat}(M:List Tk->Sum Int (TT m×List Tk))(k:Int)(l:List Tk):Sum Int (TT (m+1)×List Tk):=match dc [123] l with
 | .inl p=>.inl p
 | .inr l1=>match dK [58] M l1 with
  | .inl p=>.inl p
  | .inr y=>.inr ((⟨k,y.1.map aj⟩,y.2.1),y.2.2)
def FZ{m:Nat}(M:List Tk->Sum Int (TT m×List Tk))(l:List Tk):Sum Int (TT (m+1)×List Tk):=match dc [40] l with
 | .inl p=>.inl p
 | .inr l1=>match M l1 with
  | .inl p=>.inl p
  | .inr x=>match dc [41] x.2 with
   | .inl p=>.inl p
   | .inr l3=>.inr ((⟨9,[]⟩,[x.1]),l3)
def FW{m:Nat}(M:List Tk->Sum Int (TT m×List Tk)):List Tk->Sum Int (TT (m+1)×List Tk)
 | []=>.inl 0
 |t::r=>
  if bj t=[108,105,115,116] then FZ M r
  else if bj t=[114,101,99,111,114,100] then vw M 10 r
  else if bj t=[117,110,105,111,110] then vw M 11 r
  else match Kv (bj t)with
   |some k=>.inr ((⟨k,[]⟩,[]),r)
   |none=>.inl t.p
def FV:(f:Nat)->List Tk->Sum Int (TT f×List Tk)
 |0,_=>.inl 0
 |f+1,l=>FW (FV f) l
theorem JL{m:Nat}{M:List Tk->Sum Int (TT m×List Tk)}(hM:Gd M)(k:Int):Gd (vw M k):=by
 intro l x h e;unfold vw at e
 split at e
 ·cases e
 rename_i l1 e1;have n1:=bU h (by simp) e1
 split at e
 ·cases e
 rename_i y ey;cases e;exact n1.trans (uO (by simp) hM n1.1 ey)
theorem OI{m:Nat}{M:List Tk->Sum Int (TT m×List Tk)}(hM:Gd M):Gd (FZ M):=by
 intro l x h e;unfold FZ at e
 split at e
 ·cases e
 rename_i l1 e1;have n1:=bU h (by simp) e1
 split at e
 ·cases e
 rename_i y ey;have n2:=hM _ _ n1.1 ey
 split at e
 ·cases e
 rename_i l3 e3;cases e;exact(n1.trans n2).trans (bU n2.1 (by simp) e3)
theorem JZ{m:Nat}{M:List Tk->Sum Int (TT m×List Tk)}(hM:Gd M):Gd (FW M):=by
 intro l x h e;obtain⟨t,r,rfl⟩:=h.cons;have hw:¬t.w=0:=by intro h0;simp[FW,h0,bj,Kv]at e
 have hr:=h.tail hw;simp only[FW]at e
 split at e
 ·exact(OI hM _ _ hr e).from
 split at e
 ·exact(JL hM 10 _ _ hr e).from
 split at e
 ·exact(JL hM 11 _ _ hr e).from
 split at e
 ·cases e
  exact⟨hr,by simp⟩
 cases e
theorem rF:∀f,Gd (FV f)
 |0=>fun _ _ _ e=>by cases e
 |f+1=>JZ (rF f)
def GT:(n:Nat)->TT n->Prop
 |0,_=>True
 |n+1,x=>x.1.names.length<=100000/\(∀s∈x.1.names,s.size<=281474976710656)/\x.2.length<=100000/\∀y∈x.2,GT n y
theorem CB:∀(n:Nat) (x:TT n),1<=cW n x
 |0,x=>Empty.elim x
 |n+1,x=>by simp only[cW];omega
def Ld{m:Nat}(S:List Tk->Sum Int (TT m×List Tk)):Prop:=∀l x,kO l->l.length<=100000->S l=.inr x->GT m x.1/\cW m x.1+x.2.length<=l.length
theorem Ji{m0:Nat}{m:List UInt8}(hm:m≠[]){I:List Tk->Sum Int (TT m0×List Tk)}(hI:Gd I)(hK:Ld I):∀(g:Nat) (ns:List (List UInt8)) (xs:List (TT m0)) (l:List Tk) (y:List (List UInt8)×List (TT m0)×List Tk),kO l->l.length<=100000->(∀x∈xs,GT m0 x)->(∀s∈ns,s.length<=70000)->oi m I g ns xs l=.inr y->(∀x∈y.2.1,GT m0 x)/\(∀s∈y.1,s.length<=70000)/\y.1.length+y.2.2.length<=ns.length+l.length/\y.2.1.length+y.2.2.length<=xs.length+l.length/\aA (y.2.1.map (cW m0))+y.2.2.length+1<=aA (xs.map (cW m0))+l.length
 |0,_,_,_,_,_,_,_,_,e=>by cases e
 |g+1,ns,xs,l,y,h,hl,hx,hs,e=>by
  unfold oi at e
  split at e
  ·cases e
  rename_i s es;have n1:=jk h es;have BV:s.1.length<=70000:=by
   obtain⟨t,r,rfl⟩:=h.cons;simp only[go,jB]at es
   split at es
   ·cases es;exact h.short
   cases es
  split at e
  ·cases e
  rename_i l2 e2;have n2:=bU n1.1 hm e2
  split at e
  ·cases e
  rename_i x ex;have n3:=hI _ _ n2.1 ex;obtain⟨g1,g2⟩:=hK _ _ n2.1 (by have:=n1.2;have:=n2.2;omega) ex;have hn:=fI (m:=[125]) n3.1 (by simp);have xh:∀z∈xs++[x.1],GT m0 z:=fun z hz=>by
   rcases List.mem_append.1 hz with h|h
   ·exact hx z h
   rw[List.mem_singleton.1 h];exact g1
  have PA:∀z∈ns++[s.1],z.length<=70000:=fun z hz=>by
   rcases List.mem_append.1 hz with h|h
   ·exact hs z h
   rw[List.mem_singleton.1 h];exact BV
  have a1:=n1.2;have a2:=n2.2;have a3:=n3.2
  split at e
  ·rename_i k
   have a4:=(hn.1 k).2;cases e;refine⟨xh,PA,?_,?_,?_⟩
   ·simp only[List.length_append,List.length_cons,List.length_nil];omega
   ·simp only[List.length_append,List.length_cons,List.length_nil];omega
   simp only[List.map_append,List.map_cons,List.map_nil,gG,aA];omega
  rename_i k;have k':(cq [125] x.2).1=false:=by simpa using k
  rw[hn.2 k']at e
  split at e
  ·cases e
  rename_i l5 e5;have n5:=bU n3.1 (by simp) e5;have a5:=n5.2;obtain⟨q1,q2,q3,q4,q5⟩:=Ji hm hI hK g _ _ _ _ n5.1 (by omega) xh PA e;refine⟨q1,q2,?_,?_,?_⟩
  ·simp only[List.length_append,List.length_cons,List.length_nil]at q3;omega
  ·simp only[List.length_append,List.length_cons,List.length_nil]at q4;omega
  simp only[List.map_append,List.map_cons,List.map_nil,gG,aA]at q5;omega
theorem JM{m:Nat}{M:List Tk->Sum Int (TT m×List Tk)}(hM:Gd M)(hK:Ld M)(k:Int):Ld (vw M k):=by
 intro l x h hl e;unfold vw at e
 split at e
 ·cases e
 rename_i l1 e1;have n1:=bU h (by simp) e1;have a1:=n1.2
 split at e
 ·cases e
 rename_i y ey;cases e;have hn:=fI (m:=[125]) n1.1 (by simp);unfold dK at ey
 split at ey
 ·rename_i k
  have a:=(hn.1 k).2;cases ey;exact⟨⟨Nat.zero_le _,fun s hs=>absurd hs (by simp),Nat.zero_le _,fun y hy=>absurd hy (by simp)⟩,by show 1+0+(cq [125] l1).2.length<=_;omega⟩
 rename_i k;have k':(cq [125] l1).1=false:=by simpa using k
 rw[hn.2 k']at ey;obtain⟨q1,q2,q3,q4,q5⟩:=Ji (by simp) hM hK _ _ _ _ _ n1.1 (by omega) (fun z hz=>absurd hz (by simp)) (fun z hz=>absurd hz (by simp)) ey;simp only[List.map_nil,aA,List.length_nil]at q3 q4 q5;refine⟨⟨?_,fun s hs=>?_,?_,q1⟩,?_⟩
 ·show(y.1.map aj).length<=_
  rw[List.length_map];omega
 ·obtain⟨z,hz,rfl⟩:=List.mem_map.1 (show s∈y.1.map aj from hs)
  rw[ag];have:=q2 z hz;omega
 ·show y.2.1.length<=_;omega
 show 1+aA (y.2.1.map (cW m))+y.2.2.length<=_;omega
theorem OJ{m:Nat}{M:List Tk->Sum Int (TT m×List Tk)}(hM:Gd M)(hK:Ld M):Ld (FZ M):=by
 intro l x h hl e;unfold FZ at e
 split at e
 ·cases e
 rename_i l1 e1;have n1:=bU h (by simp) e1;have a1:=n1.2
 split at e
 ·cases e
 rename_i y ey;have n2:=hM _ _ n1.1 ey;obtain⟨g1,g2⟩:=hK _ _ n1.1 (by omega) ey
 split at e
 ·cases e
 rename_i l3 e3;cases e;have a3:=(bU n2.1 (by simp) e3).2;exact⟨⟨Nat.zero_le _,fun s hs=>absurd hs (by simp),by simp,fun z hz=>by rw[List.mem_singleton.1 hz];exact g1⟩,by show 1+(cW m y.1+0)+l3.length<=_;omega⟩
theorem Ka{m:Nat}{M:List Tk->Sum Int (TT m×List Tk)}(hM:Gd M)(hK:Ld M):Ld (FW M):=by
 intro l x h hl e;obtain⟨t,r,rfl⟩:=h.cons;have hw:¬t.w=0:=by intro h0;simp[FW,h0,bj,Kv]at e
 have hr:=h.tail hw;have qJ:r.length<=100000:=by simp at hl;omega
 simp only[FW]at e;simp only[List.length_cons]
 split at e
 ·obtain⟨g1,g2⟩:=OJ hM hK _ _ hr qJ e
  exact⟨g1,by omega⟩
 split at e
 ·obtain⟨g1,g2⟩:=JM hM hK 10 _ _ hr qJ e
  exact⟨g1,by omega⟩
 split at e
 ·obtain⟨g1,g2⟩:=JM hM hK 11 _ _ hr qJ e
  exact⟨g1,by omega⟩
 split at e
 ·rename_i k _
  cases e;exact⟨⟨Nat.zero_le _,fun s hs=>absurd hs (by simp),Nat.zero_le _,fun y hy=>absurd hy (by simp)⟩,by show 1+0+r.length<=_;omega⟩
 cases e
theorem Cy:∀f,Ld (FV f)
 |0=>fun _ _ _ _ e=>by cases e
 |f+1=>Ka (rF f) (Cy f)
theorem Lb{n L s:Nat}{W:World}{nv v:Value}{nms:List ByteArray}{l:List (TT n)}{xs:List Value}(h:T2 n L W nv v nms l xs)(k:Int)(hs:s<=L)(hW:s<=W.heap.size):KQ (n+1) W ((⟨k,nms⟩,l):TT (n+1)) ⟨nv,v⟩ s W.heap.size :=
 ⟨hW,Nat.le_refl _,fun W' h'=>⟨yH h.nrow fun k a b=>h' k (by omega) b,h.er.el fun k a b=>h' k (by omega) b⟩⟩
theorem qf{n f:Nat}{M:List Tk->Sum Int (TT n×List Tk)}(hM:IN n 51 M f)(hG:Gd M)(k:Int){w:World}{B:Nat}{l:List Tk}(h:Lq w B l)(hl:l.length<=f):Calls prog 97 #[lv B,.int .i64 k] w fun e w'=>PT (n+1) B w (vw M k l) e w':=by
 have jQ:=h.tq.sz;have H:=aa h;have HM:=aa hM;have HG:=aa hG;have HL:=aa hl;have ZL:=aa (gO w B);have Z0:=aa (po (w.alloc (.cells #[.func (.func 114) #[] #[.pointer (some ⟨B,0,none⟩)],.func (.func 115) #[] #[.pointer (some ⟨B,0,none⟩)]] 83)));rw[World.size_alloc]at Z0;have hw:Hid (∀w',Lq w' B l->Calls prog 96 #[lv B,.string ⟨#[123]⟩] w' fun e w''=>WP B w' (dc [123] l) e w''):=fun w' p=>eP [123] p;obtain⟨R,hR⟩:∃R,vw M k l=R:=⟨_,rfl⟩
 rw[hR];have HR:=aa hR;have aQ:w.heap.size+1≠B:=by omega
 have dS:w.heap.size≠B:=by omega
 clear hR h hM hG hl;unfold lv at hw ⊢;go_enter func97,ntmps97;go_wp2_with(go_at_call 96;refine ak.out ?_)
 refine ak.mk ?_;refine(hw.out _ (H.out.below (ab (ab af)))).mono ?_;rcases hx:dc [123] l with p|l1
 ·rintro e w3 ⟨ar,rfl⟩
  have e2:Hid (R=.inl p):=by show _=_;rw[<-HR.out];simp[vw,hx]
  clear HR hx
  first|exact⟨rfl,PT.bad e2.out ((FB.of (ab (ab af))).trans ar)⟩|(go_wp2_with fail;exact⟨rfl,PT.bad e2.out ((FB.of (ab (ab af))).trans ar)⟩)
 rintro e w3 ⟨ar,rfl,dC⟩;have N1:=aa (bU H.out.ok (by simp) hx);have Q3:=aa ((H.out.below (ab (ab af))).fb ar dC N1.out.1);have F3:=aa ((FB.of (ab (ab af))).trans ar);have L3:=aa ((ZL.out.below (ab af)).fb ar dS);have Z3:=aa (Z0.out.fb ar aQ);have mr:=ar.size;simp only[World.size_alloc]at mr;have kL:=L3.out.cells;have hn:Hid (∀w',Lq w' B l1->Calls prog 145 #[lv B,.string ⟨#[58]⟩,.func (.func 51) #[] #[]] w' fun e w''=>vU n B w' (dK [58] M l1) e w''):=fun w' p=>wW HM.out HG.out [58] (by simp) p (by have:=N1.out.2;have:=HL.out;omega)
 clear ar dC hw ZL Z0;unfold lv at hn;go_wp2_with(go_at_call 145;refine ak.out ?_)
 refine ak.mk ?_;refine(hn.out _ Q3.out).mono ?_;rcases hy:dK [58] M l1 with p|y
 ·rintro e w4 ⟨aO,rfl⟩
  have e2:Hid (R=.inl p):=by show _=_;rw[<-HR.out];simp[vw,hx,hy]
  clear HR hx hy
  first|exact⟨rfl,PT.bad e2.out (F3.out.trans aO)⟩|(go_wp2_with fail;exact⟨rfl,PT.bad e2.out (F3.out.trans aO)⟩)
 rintro e w4 ⟨aO,nv,v,us,rfl,hE,vd⟩;have e2:Hid (R=.inr ((⟨k,y.1.map aj⟩,y.2.1),y.2.2)):=by show _=_;rw[<-HR.out];simp[vw,hx,hy]
 obtain⟨a,c,a',c',e3,e4⟩:=hE.shape;rw[e3,e4]at hE ⊢;have HE:=aa hE;have rh:=aO.size;have kz:=(Z3.out.fb aO aQ).cells;have kf:=(Z3.out.fb aO aQ).frz;have kl:=(Z3.out.fb aO aQ).lt;have HB4:=aa aO;have HQ4:=aa vd;clear HR hx hy e3 e4 hE aO vd kL;go_wp2_with fail
 refine bodyPost_ret (v:=.agg (cE (⟨k,y.1.map aj⟩:Th) ⟨.slice a (y.1.map aj).length c,.slice a' y.2.1.length c'⟩)) (by simp[results,Tryz.results97,go_sem,cE,fR, *]) rfl (PT.good (n:=n+1) (x:=((⟨k,y.1.map aj⟩,y.2.1),y.2.2)) e2.out ?_ ?_ ?_)
 ·(iterate 3(refine FB.set ?_ (by omega)))
  exact F3.out.trans HB4.out
 ·refine KQ.fin (s:=w3.heap.size) (e:=w4.heap.size) ?_ (by omega)
  (iterate 3(refine KQ.set ?_ (by omega)))
  exact Lb HE.out k (by omega) (by omega)
 (iterate 3(refine TQ.set ?_ (by omega)))
 exact HQ4.out
def FR(j:Nat):List UInt8:=if j=1 then [97,110,121] else if j=2 then [110,117,108,108] else if j=3 then [98,111,111,108] else if j=4 then [110,117,109] else if j=5 then [105,110,116] else if j=6 then [102,108,111,97,116] else if j=7 then [116,101,120,116] else if j=8 then [98,121,116,101,115] else []
theorem ON(j:Nat)(hj:j<9)(w:World):(Instr.index 112 (.agg ptC) (.int .i64 j)).run prog w=.ok (.string (aj (FR j))) w:=by
 match j,hj with
 |0,_=>exact(show(Instr.index 112 (.agg ptC) (.int .i64 0)).run prog w=.ok (.string ⟨#[]⟩) w by kernel_rfl)
 |1,_=>exact(show(Instr.index 112 (.agg ptC) (.int .i64 1)).run prog w=.ok (.string ⟨#[97,110,121]⟩) w by kernel_rfl)
 |2,_=>exact(show(Instr.index 112 (.agg ptC) (.int .i64 2)).run prog w=.ok (.string ⟨#[110,117,108,108]⟩) w by kernel_rfl)
 |3,_=>exact(show(Instr.index 112 (.agg ptC) (.int .i64 3)).run prog w=.ok (.string ⟨#[98,111,111,108]⟩) w by kernel_rfl)
 |4,_=>exact(show(Instr.index 112 (.agg ptC) (.int .i64 4)).run prog w=.ok (.string ⟨#[110,117,109]⟩) w by kernel_rfl)
 |5,_=>exact(show(Instr.index 112 (.agg ptC) (.int .i64 5)).run prog w=.ok (.string ⟨#[105,110,116]⟩) w by kernel_rfl)
 |6,_=>exact(show(Instr.index 112 (.agg ptC) (.int .i64 6)).run prog w=.ok (.string ⟨#[102,108,111,97,116]⟩) w by kernel_rfl)
 |7,_=>exact(show(Instr.index 112 (.agg ptC) (.int .i64 7)).run prog w=.ok (.string ⟨#[116,101,120,116]⟩) w by kernel_rfl)
 |8,_=>exact(show(Instr.index 112 (.agg ptC) (.int .i64 8)).run prog w=.ok (.string ⟨#[98,121,116,101,115]⟩) w by kernel_rfl)
theorem Kt{o:List UInt8}{j:Nat}(hj:j<9)(h:FR j≠[])(e:FR j=o):Kv o=some (j:Int):=by
 subst e
 match j,hj with
 |0,_=>exact absurd rfl h
 |1,_=>rfl
 |2,_=>rfl
 |3,_=>rfl
 |4,_=>rfl
 |5,_=>rfl
 |6,_=>rfl
 |7,_=>rfl
 |8,_=>rfl
theorem Ku{o:List UInt8}(h:∀j,j<9->FR j≠[]->FR j≠o):Kv o=none:=by have h1:=h 1 (by omega) (by decide);have h2:=h 2 (by omega) (by decide);have h3:=h 3 (by omega) (by decide);have h4:=h 4 (by omega) (by decide);have h5:=h 5 (by omega) (by decide);have h6:=h 6 (by omega) (by decide);have h7:=h 7 (by omega) (by decide);have h8:=h 8 (by omega) (by decide);simp only[FR]at h1 h2 h3 h4 h5 h6 h7 h8;unfold Kv;rw[if_neg (fun e=>h1 (by rw[e];rfl)),if_neg (fun e=>h2 (by rw[e];rfl)),if_neg (fun e=>h3 (by rw[e];rfl)),if_neg (fun e=>h4 (by rw[e];rfl)),if_neg (fun e=>h5 (by rw[e];rfl)),if_neg (fun e=>h6 (by rw[e];rfl)),if_neg (fun e=>h7 (by rw[e];rfl)),if_neg (fun e=>h8 (by rw[e];rfl))]
structure SQ(w:World)(B:Nat)(r:List Tk)(i:Nat)(t:Tk)(W:World):Prop where
 tq:TQ W B r
 gp:Gp W
 lo:15<=B
 lb:LB W w.heap.size B
 ex:Ty W (w.heap.size+1) tz jU
 tb:Tb W i t
 fb:FB B w W
theorem SQ.after{w W W1:World}{B i:Nat}{t:Tk}{r r':List Tk}(h:SQ w B r i t W)(hB:B+4<=w.heap.size)(hi:w.heap.size<=i)(k:FB B W W1)(hq:TQ W1 B r'):SQ w B r' i t W1 :=
 ⟨hq,h.gp.fb k h.lo,h.lo,h.lb.fb k (by omega),h.ex.fb k (by omega),h.tb.fb k (by omega),h.fb.trans k⟩
theorem SQ.below{w W W1:World}{B i:Nat}{t:Tk}{r:List Tk}(h:SQ w B r i t W)(hB:B+4<=w.heap.size)(hi:w.heap.size<=i)(k:Below W.heap.size W W1):SQ w B r i t W1:=h.after hB hi (FB.of k) (h.tq.below k)
theorem SQ.lq{w W:World}{B i:Nat}{t:Tk}{r:List Tk}(h:SQ w B r i t W)(hk:kO r):Lq W B r:=⟨h.tq,hk,h.gp,h.lo⟩
theorem Lc{m s:Nat}{W:World}{x:TT m}{q:S2}(k:Int)(h:KQ m W x q s W.heap.size):KQ (m+1) (W.alloc (.cells (cE (gz m x) q) 48)) ((⟨k,[]⟩,[x]):TT (m+1)) ⟨.slice none 0 0,.slice (some ⟨W.heap.size,0,none⟩) 1 1⟩ s (W.heap.size+1):=by
 have hs:=h.1;refine⟨by omega,by simp,fun W' h'=>⟨Or.inl ⟨rfl,rfl⟩,Or.inr ⟨W.heap.size,0,1,none,rfl,Nat.le_refl _,by decide,fun _=>?_,fun i hi=>?_⟩⟩⟩
 ·have hb:=(h' W.heap.size (by omega) (by omega)).trans (show _=some (Obj.cells (cE (gz m x) q) 48 (0,0))from Array.getElem?_push_size)
  exact⟨rfl,(Array.getElem?_eq_some_iff.1 hb).1⟩
 have hb:=(h' W.heap.size (by omega) (by omega)).trans (show _=some (Obj.cells (cE (gz m x) q) 48 (0,0))from Array.getElem?_push_size);have Te:i=0:=by simp at hi;omega
 subst Te;refine⟨q.ns,q.ls,?_,?_⟩
 ·have:=(show Ty W' W.heap.size (gz m x) q from⟨hb⟩).range
  simpa [cE] using this
 refine h.2.2 W' fun k a b=>(h' k a (by omega)).trans ?_;exact Below.heap_alloc _ _ _ b
theorem Le{m s:Nat}{W:World}(k:Int)(hs:s<=W.heap.size):KQ (m+1) W ((⟨k,[]⟩,[]):TT (m+1)) jU s W.heap.size :=
 ⟨hs,Nat.le_refl _,fun W' _=>⟨Or.inl ⟨rfl,rfl⟩,Or.inl ⟨rfl,rfl⟩⟩⟩
theorem zU{m f:Nat}{M:List Tk->Sum Int (TT m×List Tk)}(hM:IN m 51 M f)(hG:Gd M){w:World}{B:Nat}{l:List Tk}(h:Lq w B l)(hl:l.length<=f+1):Calls prog 51 #[lv B] w fun e w'=>PT (m+1) B w (FW M l) e w':=by
 have jQ:=h.tq.sz;obtain⟨t,r,rfl⟩:=h.ok.cons;have aJ:Hid (r.length<=f):=by show _<=_;simpa using hl
 have eS:Hid (bj t≠[]->kO r):=fun e=>h.ok.tail (yG e);have H:=aa h;have HM:=aa hM;have HG:=aa hG;have ZL:=aa (gO w B);have Z0:=aa (po (w.alloc (.cells #[.func (.func 114) #[] #[.pointer (some ⟨B,0,none⟩)],.func (.func 115) #[] #[.pointer (some ⟨B,0,none⟩)]] 83)));rw[World.size_alloc]at Z0;have hx:Hid (∀w',Below w.heap.size w w'->Calls prog 115 #[.pointer (some ⟨B,0,none⟩)] w' fun e w''=>e=.returned (dO t)/\TQ w'' B r/\FB B w' w''):=fun w' hb=>iN (H.out.tq.below hb);have ho:=aa (im t);unfold dO at hx ho;have aQ:w.heap.size+1≠B:=by omega
 have dS:w.heap.size≠B:=by omega
 obtain⟨R,hR⟩:∃R,FW M (t::r)=R:=⟨_,rfl⟩
 have HR:=aa hR;rw[hR];obtain⟨S,hS⟩:∃S,aj (bj t)=S:=⟨_,rfl⟩
 rw[hS]at ho;clear hR h hl hM hG;unfold lv;go_enter func51,ntmps51;go_wp2_with(go_at_call 115;refine ak.out ?_)
 refine ak.mk ((hx.out _ (ab (ab af))).mono ?_);rintro e w3 ⟨rfl,dC,ar⟩;have F3:=aa ((FB.of (ab (ab af))).trans ar);have mr:=ar.size;simp only[World.size_alloc]at mr;have P3:Hid (SQ w B r w3.heap.size t (w3.alloc (.cells #[.int .i64 t.w,.string (aj t.s),.int .i64 t.p] 88))):=⟨dC.al,(H.out.gp.fb F3.out H.out.lo).below (ab af),H.out.lo,(((ZL.out.below (ab af)).fb ar dS)).below (ab af),(Z0.out.fb ar aQ).below (ab af),lO w3 t,F3.out.al⟩
 have rj:w.heap.size<=w3.heap.size:=by omega
 clear dC ar F3 hx ZL Z0;go_wp2_with(go_at_call 95;refine ak.out ?_)
 refine ak.mk ((ho.out _).mono ?_);rintro e w4 ⟨rfl,aO⟩;have S4:=aa (P3.out.below jQ rj aO);clear aO P3;have kL:=S4.out.lb.cells;have hu:FW M (t::r)=(if bj t=[108,105,115,116] then FZ M r
  else if bj t=[114,101,99,111,114,100] then vw M 10 r
  else if bj t=[117,110,105,111,110] then vw M 11 r
  else match Kv (bj t)with
   |some k=>.inr ((⟨k,[]⟩,[]),r)
   |none=>.inl t.p):=rfl
 rw[HR.out]at hu;by_cases n0:bj t=[108,105,115,116]
 ·have sW:S=⟨#[108,105,115,116]⟩:=by rw[<-hS,n0];rfl
  have OK:=aa (eS.out (by rw[n0];simp));rw[if_pos n0]at hu;have HU:=aa hu;subst sW;clear hS hu n0 ho;have W1:Hid (∀W,Lq W B r->Calls prog 96 #[lv B,.string ⟨#[40]⟩] W fun e w'=>WP B W (dc [40] r) e w'):=fun W q=>eP [40] q;unfold lv at W1;go_wp2_with(go_at_call 96;refine ak.out ?_)
  refine ak.mk ((W1.out _ (S4.out.lq OK.out)).mono ?_);rcases h1:dc [40] r with p|l1
  ·rintro e w5 ⟨bg,rfl⟩
   have e2:Hid (R=.inl p):=by show _=_;rw[HU.out];simp[FZ,h1]
   clear HU h1
   first|exact⟨rfl,PT.bad e2.out (S4.out.fb.trans bg)⟩|(go_wp2_with fail;exact⟨rfl,PT.bad e2.out (S4.out.fb.trans bg)⟩)
  rintro e w5 ⟨bg,rfl,ir⟩;have N1:=aa (bU OK.out (by simp) h1);have S5:=aa (S4.out.after jQ rj bg ir);have z5:=bg.size;clear bg ir W1 kL;have kL:=S5.out.lb.cells;have MM:Hid (∀W,Lq W B l1->Calls prog 51 #[lv B] W fun e w'=>PT m B W (M l1) e w'):=fun W q=>HM.out W B l1 q (by have:=N1.out.2;have:=aJ.out;omega);unfold lv at MM;go_wp2_with(go_at_call 51;refine ak.out ?_)
  refine ak.mk ((MM.out _ (S5.out.lq N1.out.1)).mono ?_);rcases h2:M l1 with p|x
  ·rintro e w6 ⟨da,rfl⟩
   have e2:Hid (R=.inl p):=by show _=_;rw[HU.out];simp[FZ,h1,h2]
   clear HU h1 h2
   first|exact⟨rfl,PT.bad e2.out (S5.out.fb.trans da)⟩|(go_wp2_with fail;exact⟨rfl,PT.bad e2.out (S5.out.fb.trans da)⟩)
  rintro e w6 ⟨da,q,rfl,JA,vO⟩;have N2:=aa (HG.out _ _ N1.out.1 h2);obtain⟨a,mm,c,a',m',c',aK⟩:=JA.rd.shape;subst aK;have K6:=aa JA;have S6:=aa (S5.out.after jQ rj da vO);have z6:=da.size;have z50:=S5.out.fb.size;have zex5:=S5.out.ex.lt;clear da vO JA MM kL;have S7:=aa (S6.out.below jQ rj (ab (o:=.cells (cE (gz m x.1) ⟨.slice a mm c,.slice a' m' c'⟩) 48) af));unfold cE fR at S7
  dsimp only at S7
  have kL:=S7.out.lb.cells;have W3:Hid (∀W,Lq W B x.2->Calls prog 96 #[lv B,.string ⟨#[41]⟩] W fun e w'=>WP B W (dc [41] x.2) e w'):=fun W q=>eP [41] q;unfold lv at W3;unfold cE fR
  dsimp only
  go_wp2_with(go_at_call 96;refine ak.out ?_)
  refine ak.mk ((W3.out _ (S7.out.lq N2.out.1)).mono ?_);rcases h3:dc [41] x.2 with p|l3
  ·rintro e w8 ⟨jr,rfl⟩
   have e2:Hid (R=.inl p):=by show _=_;rw[HU.out];simp[FZ,h1,h2,h3]
   clear HU h1 h2 h3
   first|exact⟨rfl,PT.bad e2.out (S7.out.fb.trans jr)⟩|(go_wp2_with fail;exact⟨rfl,PT.bad e2.out (S7.out.fb.trans jr)⟩)
  rintro e w8 ⟨jr,rfl,Uf⟩;have e2:Hid (R=.inr ((⟨9,[]⟩,[x.1]),l3)):=by show _=_;rw[HU.out];simp[FZ,h1,h2,h3]
  have VW:w6.heap.size≠B:=by omega
  have X8:=aa ((eu w6 (gz m x.1) ⟨.slice a mm c,.slice a' m' c'⟩).fb jr VW);have K8:=aa ((K6.out.al (o:=.cells (cE (gz m x.1) ⟨.slice a mm c,.slice a' m' c'⟩) 48)).fb jr (by omega));have S8:=aa (S7.out.after jQ rj jr Uf);have z8:=jr.size;simp only[World.size_alloc]at z8;clear jr Uf W3 kL HU h1 h2 h3 S6 S7 K6;have x0:=X8.out.cells;have k0:=S8.out.ex.cells;have kf:=S8.out.ex.frz;have kl:=S8.out.ex.lt;go_wp2_with fail
  refine bodyPost_ret (v:=.agg (cE (⟨9,[]⟩:Th) ⟨.slice none 0 0,.slice (some ⟨w8.heap.size,0,none⟩) 1 1⟩)) (by simp[results,Tryz.results51,go_sem,cE,fR,tz,jU,tf, *]) rfl (PT.good (n:=m+1) (x:=((⟨9,[]⟩,[x.1]),l3)) e2.out ?_ ?_ ?_)
  ·refine FB.al ?_
   (iterate 3(refine FB.set ?_ (by omega)))
   exact S8.out.fb
  ·have KY:KQ m (((w8.setCell ⟨w.heap.size+1,0,none⟩ (.int .i64 9)).setCell ⟨w.heap.size+1,1,none⟩ (.slice none 0 0)).setCell ⟨w.heap.size+1,2,none⟩ (.slice (some ⟨w8.heap.size,0,none⟩) 1 1)) x.1 ⟨.slice a mm c,.slice a' m' c'⟩ w5.heap.size w8.heap.size:=by
    (iterate 3(refine KQ.set ?_ (by omega)))
    exact K8.out.fin (Nat.le_refl _)
   have sY:(((w8.setCell ⟨w.heap.size+1,0,none⟩ (.int .i64 9)).setCell ⟨w.heap.size+1,1,none⟩ (.slice none 0 0)).setCell ⟨w.heap.size+1,2,none⟩ (.slice (some ⟨w8.heap.size,0,none⟩) 1 1)).heap.size=w8.heap.size:=by simp
   generalize World.setCell _ _ _=Y at KY sY ⊢;rw[<-sY]at KY ⊢;refine KQ.fin (s:=w5.heap.size) (e:=Y.heap.size+1) ?_ (by omega);exact Lc 9 KY
  refine TQ.al ?_
  (iterate 3(refine TQ.set ?_ (by omega)))
  exact S8.out.tq
 by_cases n1:bj t=[114,101,99,111,114,100]
 ·have sW:S=⟨#[114,101,99,111,114,100]⟩:=by rw[<-hS,n1];rfl
  have OK:=aa (eS.out (by rw[n1];simp));rw[if_neg n0,if_pos n1]at hu;have HU:=aa hu;subst sW;clear hS hu n1 ho;have FF:Hid (∀W,Lq W B r->Calls prog 97 #[lv B,.int .i64 10] W fun e w'=>PT (m+1) B W (vw M 10 r) e w'):=fun W q=>qf HM.out HG.out 10 q aJ.out;unfold lv at FF;go_wp2_with(go_at_call 97;refine ak.out ?_)
  refine ak.mk ((FF.out _ (S4.out.lq OK.out)).mono ?_);rcases h1:vw M 10 r with p|x
  ·rintro e w5 ⟨bg,rfl⟩
   have e2:Hid (R=.inl p):=by show _=_;rw[HU.out,h1]
   clear HU h1
   first|exact⟨rfl,PT.bad e2.out (S4.out.fb.trans bg)⟩|(go_wp2_with fail;exact⟨rfl,PT.bad e2.out (S4.out.fb.trans bg)⟩)
  rintro e w5 ⟨bg,q,rfl,iy,ir⟩;obtain⟨a,mm,c,a',m',c',aK⟩:=iy.rd.shape;subst aK;have K5:=aa iy;have rh:=S4.out.fb.size;have AP:=bg.size;have EC:=S4.out.ex.lt;have S5:=aa (S4.out.after jQ rj bg ir);clear bg ir iy kL;have e2:Hid (R=.inr x):=by show _=_;rw[HU.out,h1]
  clear h1 HU;have kz:=S5.out.ex.cells;have kf:=S5.out.ex.frz;have kl:=S5.out.ex.lt;unfold cE fR
  dsimp only
  go_wp2_with fail
  refine bodyPost_ret (v:=.agg (cE (gz (m+1) x.1) ⟨.slice a mm c,.slice a' m' c'⟩)) (by simp[results,Tryz.results51,go_sem,cE,fR,tz,jU,tf, *]) rfl (PT.good (x:=x) e2.out ?_ ?_ ?_)
  ·(iterate 3(refine FB.set ?_ (by omega)))
   exact S5.out.fb
  ·refine KQ.fin (s:=w4.heap.size) (e:=w5.heap.size) ?_ (by omega)
   (iterate 3(refine KQ.set ?_ (by omega)))
   exact K5.out
  (iterate 3(refine TQ.set ?_ (by omega)))
  exact S5.out.tq
 by_cases n2:bj t=[117,110,105,111,110]
 ·have sW:S=⟨#[117,110,105,111,110]⟩:=by rw[<-hS,n2];rfl
  have OK:=aa (eS.out (by rw[n2];simp));rw[if_neg n0,if_neg n1,if_pos n2]at hu;have HU:=aa hu;subst sW;clear hS hu n2 ho;have FF:Hid (∀W,Lq W B r->Calls prog 97 #[lv B,.int .i64 11] W fun e w'=>PT (m+1) B W (vw M 11 r) e w'):=fun W q=>qf HM.out HG.out 11 q aJ.out;unfold lv at FF;go_wp2_with(go_at_call 97;refine ak.out ?_)
  refine ak.mk ((FF.out _ (S4.out.lq OK.out)).mono ?_);rcases h1:vw M 11 r with p|x
  ·rintro e w5 ⟨bg,rfl⟩
   have e2:Hid (R=.inl p):=by show _=_;rw[HU.out,h1]
   clear HU h1
   first|exact⟨rfl,PT.bad e2.out (S4.out.fb.trans bg)⟩|(go_wp2_with fail;exact⟨rfl,PT.bad e2.out (S4.out.fb.trans bg)⟩)
  rintro e w5 ⟨bg,q,rfl,iy,ir⟩;obtain⟨a,mm,c,a',m',c',aK⟩:=iy.rd.shape;subst aK;have K5:=aa iy;have rh:=S4.out.fb.size;have AP:=bg.size;have EC:=S4.out.ex.lt;have S5:=aa (S4.out.after jQ rj bg ir);clear bg ir iy kL;have e2:Hid (R=.inr x):=by show _=_;rw[HU.out,h1]
  clear h1 HU;have kz:=S5.out.ex.cells;have kf:=S5.out.ex.frz;have kl:=S5.out.ex.lt;unfold cE fR
  dsimp only
  go_wp2_with fail
  refine bodyPost_ret (v:=.agg (cE (gz (m+1) x.1) ⟨.slice a mm c,.slice a' m' c'⟩)) (by simp[results,Tryz.results51,go_sem,cE,fR,tz,jU,tf, *]) rfl (PT.good (x:=x) e2.out ?_ ?_ ?_)
  ·(iterate 3(refine FB.set ?_ (by omega)))
   exact S5.out.fb
  ·refine KQ.fin (s:=w4.heap.size) (e:=w5.heap.size) ?_ (by omega)
   (iterate 3(refine KQ.set ?_ (by omega)))
   exact K5.out
  (iterate 3(refine TQ.set ?_ (by omega)))
  exact S5.out.tq
 have b0:=fE (m:=[108,105,115,116]) (fun q=>n0 (co (hS.trans q)));have b1:=fE (m:=[114,101,99,111,114,100]) (fun q=>n1 (co (hS.trans q)));have b2:=fE (m:=[117,110,105,111,110]) (fun q=>n2 (co (hS.trans q)));rw[if_neg n0,if_neg n1,if_neg n2]at hu;have HU:=aa hu;have HS:=aa hS;obtain⟨_,tt,fr,hc⟩:=S4.out.gp;clear hu hS n0 n1 n2 kL;go_wp2_with(refine wpList_load_row rfl 112 _ rfl 2 rfl tt ptC fr _ hc Tryz.underlying112 rfl (by kernel_rfl) ?_)
 clear hc b0 b1 b2;have hi3w:w3.heap.size=w3.heap.size:=rfl;go_loopw [5,6,32] (fun _ _ i w'=>∃j:Nat,j<=9/\i=.int .i64 j/\Hid ((∀i:Nat,i<j->FR i≠[]->FR i≠bj t)/\SQ w B r w3.heap.size t w')) (fun _ _ i _=>(9-intOf i).toNat)
 case atStart=>exact⟨0,by omega,rfl,(fun i h=>by omega),S4.out⟩
 case round=>
  clear S4;obtain⟨j,hj,rfl,HH⟩:=hrel;have Hn:=aa HH.out.1;have Hs:=aa HH.out.2;obtain⟨t0,t1,t2⟩:=Tb.cell2 Hs.out.tb;clear HH;by_cases Mb:j<9
  ·have Gj:(j:Int)<9:=by omega
   have zt:=ON j Mb;by_cases hw:FR j=[]
   ·rw[hw]at zt
    have SZ:∀w:World,(Instr.index 112 (.agg ptC) (.int .i64 j)).run prog w=.ok (.string ⟨#[]⟩) w:=zt;have HW:=aa hw;clear zt hw;go_wp2_with fail
    refine⟨⟨j+1,by omega,by go_num,?_,Hs.out⟩,by simp[intOf];omega⟩;intro i hi h1 h2;by_cases e:i=j
    ·subst e;exact h1 HW.out
    exact Hn.out i (by omega) h1 h2
   obtain⟨U,hU⟩:∃U,aj (FR j)=U:=⟨_,rfl⟩
   rw[hU]at zt;have Tv:=gh (fun e:U=aR=>hw (by have:=co (hU.trans (show U=aj []from e));exact this));have WU:U.toList.isEmpty=false:=by
    cases hq:U.toList with
    |nil=>exact absurd hq Tv
    |cons a l=>rfl
   have HW:=aa hw;have HV:=aa hU;clear hw hU;by_cases he:U=S
   ·subst he
    have Sv:Hid (R=.inr ((⟨(j:Nat),[]⟩,[]),r)):=by show _=_;rw[HU.out,Kt Mb HW.out (co (HV.out.trans HS.out.symm))]
    go_wp2_with(go_at_call 95;refine ak.out ?_)
    refine ak.mk ((ho.out _).mono ?_);rintro e w5 ⟨rfl,bg⟩;have S5:=aa (Hs.out.below jQ rj bg);clear bg Hs;have kz:=S5.out.ex.cells;have kf:=S5.out.ex.frz;have kl:=S5.out.ex.lt;have z5:=S5.out.fb.size;go_wp2_with fail
    refine bodyPost_ret (v:=.agg (cE (⟨(j:Nat),[]⟩:Th) jU)) (by simp[results,Tryz.results51,go_sem,cE,fR,tz,jU,tf, *]) rfl (PT.good (n:=m+1) (x:=((⟨(j:Nat),[]⟩,[]),r)) Sv.out ?_ ?_ ?_)
    ·(iterate 3(refine FB.set ?_ (by omega)))
     exact S5.out.fb
    ·exact Le _ (by simp;omega)
    (iterate 3(refine TQ.set ?_ (by omega)))
    exact S5.out.tq
   have aQ:=ud he;have HE:=aa he;clear he;go_wp2_with(go_at_call 95;refine ak.out ?_)
   refine ak.mk ((ho.out _).mono ?_);rintro e w5 ⟨rfl,bg⟩;have S5:=aa (Hs.out.below jQ rj bg);clear bg Hs;go_wp2_with fail
   refine⟨⟨j+1,by omega,by go_num,?_,S5.out⟩,by simp[intOf];omega⟩;intro i hi h1 h2;by_cases e:i=j
   ·subst e;exact HE.out (by rw[<-HV.out,<-HS.out,h2])
   exact Hn.out i (by omega) h1 h2
  have Gj:¬(j:Int)<9:=by omega
  have mv:Hid (R=.inl t.p):=by show _=_;rw[HU.out,Ku fun i hi=>Hn.out i (by omega)]
  go_wp2_with fail
  exact⟨rfl,PT.bad mv.out Hs.out.fb⟩
theorem qU:∀f,IN f 51 (FV f) f
 |0=>fun w B l h hl=>by obtain⟨t,r,rfl⟩:=h.ok.cons;simp at hl
 |f+1=>fun w B l h hl=>zU (qU f) (rF f) h hl
theorem uf(p q:Addr)(w:World):CallsD prog 94 #[.pointer (some p),.pointer (some q)] .returning w fun e u' w'=>e=.returned (.tuple #[])/\u'=.returning/\w'=w:=by refine callsD_of_wpS Tryz.func94 rfl fun c₀ cs hu=>?_;apply wpS_seq;apply wpS_region;simp[wpOpsS,go_sem,recoverD,hu,Tryz.ntmps94,Exit.thenS,Cs];apply wpS_seq;apply wpS_region;simp[wpOpsS,go_sem,Exit.thenS,Array.replicate];refine wpS_cond (t:=false) (by simp[Act.eval,Array.replicate]) ?_;simp only[Bool.false_eq_true,if_false];refine wpS_of_wp (wp_skip ?_);cases c₀;simp_all [bodyPostS,results,Tryz.results94]
theorem wq(p q:Nat)(u v:Value)(older:List PanicEntry)(w:World)(hp:w.cell? ⟨p,0,none⟩=some u)(zp:w.frozen? ⟨p,0,none⟩=false)(hq:w.cell? ⟨q,0,none⟩=some v)(zq:w.frozen? ⟨q,0,none⟩=false)(hpq:p≠q)(E:Int):CallsD prog 94 #[.pointer (some ⟨p,0,none⟩),.pointer (some ⟨q,0,none⟩)] (.panicking ({v:=.iface 79 (.int .i64 E),recovered:=false}::older)) w fun e u' w'=>
   e=.returned (.tuple #[])/\u'=.panicking ({v:=.iface 79 (.int .i64 E),recovered:=true}::older)/\w'=(w.setCell ⟨p,0,none⟩ (.int .i64 140)).setCell ⟨q,0,none⟩ (.int .i64 E):=by
 have kq:(w.setCell ⟨p,0,none⟩ (.int .i64 140)).cell? ⟨q,0,none⟩=some v:=(World.cell?_of_block (w:=w) (Below.heap_setCell _ _ _ _ (Ne.symm hpq))).trans hq;have zk:(w.setCell ⟨p,0,none⟩ (.int .i64 140)).frozen? ⟨q,0,none⟩=false:=(World.frozen?_of_block (w:=w) (Below.heap_setCell _ _ _ _ (Ne.symm hpq))).trans zq;refine callsD_of_wpS Tryz.func94 rfl fun c₀ cs hu=>?_;apply wpS_seq;apply wpS_region;simp[wpOpsS,go_sem,recoverD,hu,Tryz.ntmps94,Exit.thenS,Ct];apply wpS_seq;apply wpS_region;simp[wpOpsS,go_sem,Exit.thenS,Array.replicate];refine wpS_cond (t:=true) (by simp[Act.eval,Array.replicate]) ?_;simp only[if_true];apply wpS_region;simp[wpOpsS,go_sem,Exit.thenS,hp,zp,kq,zk,bodyPostS,results,Tryz.results94]
def qg{n:Nat}(o:Sum Int (TT n×List Tk)):Sum Int (TT n):=match o with
 | .inl p=>.inl p
 | .inr x=>match x.2 with
  |t::_=>if t.w=0 then .inr x.1 else .inl t.p
  | []=>.inl 0
def Dh{n:Nat}(o:Sum Int (TT n)):Sum (Int×Int) (TT n):=match o with
 | .inl p=>.inl (140,p)
 | .inr e=>.inr e
def jG(f:Nat)(l:List UInt8):Sum (Int×Int) (TT f):=if (jd l).1=0 then Dh (qg (FV f ((jd l).2.2++[⟨0,[],l.length⟩]))) else .inl ((jd l).1,(jd l).2.1)
def IT(n:Nat)(w:World)(o:Sum (Int×Int) (TT n))(e:Ending)(w':World):Prop:=Below w.heap.size w w'/\match o with
 | .inl y=>e=.returned (.tuple #[.agg (cE tz jU),.int .i64 y.1,.int .i64 y.2])
 | .inr x=>∃q,e=.returned (.tuple #[.agg (cE (gz n x) q),.int .i64 0,.int .i64 0])/\KQ n w' x q w.heap.size w'.heap.size
structure RC(k:Nat)(w:World)(E A:Int)(W:World):Prop where
 bel:Below k w W
 ex:W.heap[k]?=some (.cells (cE tz jU) 48 (0,0))
 e:W.heap[k+1]?=some (.cells #[.int .i64 E] 34 (0,0))
 a:W.heap[k+1+1]?=some (.cells #[.int .i64 A] 3 (0,0))
section
variable {k : Nat} {w W : World} {E A : Int}
theorem RC.dr(h:RC k w E A W):RC k w E A W.drew:=⟨h.bel.drew,h.ex,h.e,h.a⟩
theorem RC.pe(h:RC k w E A W):RC k w E A (W.setCell ⟨k+1,0,none⟩ (.int .i64 E)):=⟨h.bel.setCell (by show k<=k+1;omega) _,by rw[Below.heap_setCell _ _ _ _ (by show k≠k+1;omega)];exact h.ex,ij h.e _,by rw[Below.heap_setCell _ _ _ _ (by show k+1+1≠k+1;omega)];exact h.a⟩
theorem RC.pa(h:RC k w E A W):RC k w E A (W.setCell ⟨k+1+1,0,none⟩ (.int .i64 A)):=⟨h.bel.setCell (by show k<=k+1+1;omega) _,by rw[Below.heap_setCell _ _ _ _ (by show k≠k+1+1;omega)];exact h.ex,by rw[Below.heap_setCell _ _ _ _ (by show k+1≠k+1+1;omega)];exact h.e,ij h.a _⟩
theorem RC.pz(h:RC k w E A W):RC k w E A (((W.setCell ⟨k,0,none⟩ (.int .i64 0)).setCell ⟨k,1,none⟩ (.slice none 0 0)).setCell ⟨k,2,none⟩ (.slice none 0 0)):=by
 obtain⟨h1,h2,h3,h4⟩:=h;refine⟨?_,?_,?_,?_⟩
 ·iterate 3(refine Below.setCell ?_ (show k<=k from Nat.le_refl _) _)
  exact h1
 ·have q0:=di h2 0 (.int .i64 0)
  have q1:=di q0 1 (.slice none 0 0);have q2:=di q1 2 (.slice none 0 0);exact q2
 ·iterate 3(rw[Below.heap_setCell _ _ _ _ (by show k+1≠k;omega)])
  exact h3
 iterate 3(rw[Below.heap_setCell _ _ _ _ (by show k+1+1≠k;omega)])
 exact h4
theorem RC.low{W1:World}(h:RC k w E A W)(hb:Below (k+3) W W1):RC k w E A W1:=⟨h.bel.trans (hb.mono (by omega)),(hb.block _ (by omega)).trans h.ex,(hb.block _ (by omega)).trans h.e,(hb.block _ (by omega)).trans h.a⟩
theorem RC.cells(h:RC k w E A W):W.cell? ⟨k,0,none⟩=some (.int .i64 0)/\W.cell? ⟨k,1,none⟩=some (.slice none 0 0)/\W.cell? ⟨k,2,none⟩=some (.slice none 0 0)/\W.cell? ⟨k+1,0,none⟩=some (.int .i64 E)/\W.cell? ⟨k+1+1,0,none⟩=some (.int .i64 A):=by
 have hx:Ty W k tz jU:=⟨h.ex⟩
 obtain⟨c0,c1,c2⟩:=hx.cells;exact⟨c0,c1,c2,by unfold World.cell?;rw[h.e];rfl,by unfold World.cell?;rw[h.a];rfl⟩
theorem RC.frz(h:RC k w E A W):(∀j,W.frozen? ⟨k,j,none⟩=false)/\W.frozen? ⟨k+1,0,none⟩=false/\W.frozen? ⟨k+1+1,0,none⟩=false :=
 ⟨(show Ty W k tz jU from⟨h.ex⟩).frz,by unfold World.frozen?;rw[h.e];rfl,by unfold World.frozen?;rw[h.a];rfl⟩
end
theorem pt{k:Nat}{w W:World}{E A p:Int}{a0 a1 a2 a3 a7 a8 a9 a10 a11 a12 a13 a14 a15 a16 a17 a18 a19 a20 a21 a22 a23 a24 a25 a26 a27 a28 a29 a30 a31:Value}{R:Ending->World->Prop}(h:RC k w E A W)(hR:∀X,RC k w 140 p X->R (.returned (.tuple #[.agg (cE tz jU),.int .i64 140,.int .i64 p])) X):Leaves prog Tryz.f50 #[a0,a1,a2,a3,.pointer (some ⟨k,0,none⟩),.pointer (some ⟨k+1,0,none⟩),.pointer (some ⟨k+1+1,0,none⟩),a7,a8,a9,a10,a11,a12,a13,a14,a15,a16,a17,a18,a19,a20,a21,a22,a23,a24,a25,a26,a27,a28,a29,a30,a31] R [{target:=.fn (.func 94) #[.pointer (some ⟨k+1,0,none⟩),.pointer (some ⟨k+1+1,0,none⟩)],args:=#[]}] (.panicking (pw p)) W:=by
 obtain⟨_,c1,c2⟩:True/\W.cell? ⟨k+1,0,none⟩=some (.int .i64 E)/\W.cell? ⟨k+1+1,0,none⟩=some (.int .i64 A):=by obtain⟨_,_,_,c1,c2⟩:=h.cells;exact⟨trivial,c1,c2⟩
 obtain⟨_,f1,f2⟩:=h.frz;unfold pw;refine leaves_cons (f:=94) (args:=#[.pointer (some ⟨k+1,0,none⟩),.pointer (some ⟨k+1+1,0,none⟩)]) (by simp) (by simp[go_sem]) ?_;refine(wq (k+1) (k+1+1) _ _ [] _ c1 f1 c2 f2 (by omega) p).mono ?_;rintro e u' w'' ⟨rfl,rfl,rfl⟩;have RX:RC k w 140 p ((W.setCell ⟨k+1,0,none⟩ (.int .i64 140)).setCell ⟨k+1+1,0,none⟩ (.int .i64 p)):=by
  refine⟨(h.bel.setCell (by show k<=k+1;omega) _).setCell (by show k<=k+1+1;omega) _,?_,?_,?_⟩
  ·rw[Below.heap_setCell _ _ _ _ (by show k≠k+1+1;omega),Below.heap_setCell _ _ _ _ (by show k≠k+1;omega)];exact h.ex
  ·rw[Below.heap_setCell _ _ _ _ (by show k+1≠k+1+1;omega),ij h.e]
  rw[ij (B:=k+1+1) (v:=.int .i64 A) (T:=3) (by rw[Below.heap_setCell _ _ _ _ (by show k+1+1≠k+1;omega)];exact h.a)]
 have hr:=hR _ RX;generalize World.setCell _ _ _=X at RX hr ⊢;clear hR;have q0:=RX.cells;refine⟨.tuple #[.agg (cE tz jU),.int .i64 140,.int .i64 p],?_,hr⟩;simp[results,Tryz.results50,go_sem,q0,cE,fR,tz,jU,tf]
theorem Rw{W:World}{k:Nat}{T:TypeId}{c0 c1 c2 d0 d1 d2:Value}(h0:W.heap[k]?=some (.cells #[c0,c1,c2] T (0,0))):(((W.setCell ⟨k,0,none⟩ d0).setCell ⟨k,1,none⟩ d1).setCell ⟨k,2,none⟩ d2).heap[k]?=some (.cells #[d0,d1,d2] T (0,0)):=by have q0:=di h0 0 d0;have q1:=di q0 1 d1;have q2:=di q1 2 d2;simp only[List.setIfInBounds_toArray,List.set_cons_zero,List.set_cons_succ]at q2;exact q2
theorem rG{W:World}{k:Nat}{h h':Th}{q q':S2}(k0:Ty W k h' q'):Ty (((W.setCell ⟨k,0,none⟩ (.int .i64 h.kind)).setCell ⟨k,1,none⟩ (q.ns)).setCell ⟨k,2,none⟩ (q.ls)) k h q:=by have h1:=k0.at_;unfold cE fR at h1;have h2:=Rw (d0:=.int .i64 h.kind) (d1:=q.ns) (d2:=q.ls) h1;exact⟨h2⟩
theorem Ah{k:Nat}{W:World}{a0 a1 a2 a3 a7 a8 a9 a10 a11 a12 a13 a14 a15 a16 a17 a18 a19 a20 a21 a22 a23 a24 a25 a26 a27 a28 a29 a30 a31:Value}{h:Th}{b1 b4:Option Addr}{b2 b3 b5 b6:Nat}{R:Ending->World->Prop}(hx:Ty W k h ⟨.slice b1 b2 b3,.slice b4 b5 b6⟩)(c1:W.cell? ⟨k+1,0,none⟩=some (.int .i64 0))(c2:W.cell? ⟨k+1+1,0,none⟩=some (.int .i64 0))(hR:R (.returned (.tuple #[.agg (cE h ⟨.slice b1 b2 b3,.slice b4 b5 b6⟩),.int .i64 0,.int .i64 0])) W):Leaves prog Tryz.f50 #[a0,a1,a2,a3,.pointer (some ⟨k,0,none⟩),.pointer (some ⟨k+1,0,none⟩),.pointer (some ⟨k+1+1,0,none⟩),a7,a8,a9,a10,a11,a12,a13,a14,a15,a16,a17,a18,a19,a20,a21,a22,a23,a24,a25,a26,a27,a28,a29,a30,a31] R [{target:=.fn (.func 94) #[.pointer (some ⟨k+1,0,none⟩),.pointer (some ⟨k+1+1,0,none⟩)],args:=#[]}] .returning W:=by refine leaves_cons (f:=94) (args:=#[.pointer (some ⟨k+1,0,none⟩),.pointer (some ⟨k+1+1,0,none⟩)]) (by simp) (by simp[go_sem]) ?_;refine(uf _ _ _).mono ?_;rintro e u' w'' ⟨rfl,rfl,rfl⟩;have q0:=hx.cells;refine⟨.tuple #[.agg (cE h ⟨.slice b1 b2 b3,.slice b4 b5 b6⟩),.int .i64 0,.int .i64 0],?_,hR⟩;simp[results,Tryz.results50,go_sem,q0,c1,c2,cE,fR]
theorem Ag(hP:aW)(f:Nat)(hf:1025<=f)(s:ByteArray)(w:World)(g:Gg w)(gp:Gp w)(hz:s.size<=1000000):Calls prog 50 #[.string s,.func (.func 51) #[] #[]] w fun e w'=>IT f w (jG f (bl s)) e w':=by
 have SH:∀(fn:Fn) (first cap:Array Value) (w:World),(Instr.makeFunc fn first cap).run prog w=.ok (.func fn first cap) w:=fun _ _ _ _=>rfl;obtain⟨W3,vp⟩:∃W3,W3=((w.alloc (.cells #[.int .i64 0,.slice none 0 0,.slice none 0 0] 48)).alloc (.cells #[.int .i64 0] 34)).alloc (.cells #[.int .i64 0] 3):=⟨_,rfl⟩
 have B3:Hid (Below w.heap.size w W3):=by rw[vp];exact ab (ab (ab af))
 have hs:=aa (uo hP s W3 (g.below B3.out (by have:=g.sz;omega)) hz);have hM:=aa (qU f);rw[vp]at hs;clear hP
 go_enter_defers func50,ntmps50
 go_wp2_with(go_at_call 57;refine ak.out ?_)
 refine ak.mk ?_;refine(hs.out).mono ?_;rw[<-vp];rintro e w1 ⟨v,rfl,hO,hb⟩;have LA:W3.heap.size=w.heap.size+3:=by rw[vp];simp
 have Z3:Hid (Ty W3 w.heap.size tz jU):=((po w).below (ab (ab af))) |> fun h=>by rw[vp];exact h
 have Z1:=aa (Z3.out.below hb);have e3:W3.heap[w.heap.size+1]?=some (.cells #[.int .i64 0] 34 (0,0)):=by rw[vp,Below.heap_alloc _ _ _ (by simp)];have:=heap_alloc_last (w.alloc (.cells #[.int .i64 0,.slice none 0 0,.slice none 0 0] 48)) (.cells #[.int .i64 0] 34);rw[World.size_alloc]at this;exact this
 have a3:W3.heap[w.heap.size+1+1]?=some (.cells #[.int .i64 0] 3 (0,0)):=by rw[vp];have:=heap_alloc_last ((w.alloc (.cells #[.int .i64 0,.slice none 0 0,.slice none 0 0] 48)).alloc (.cells #[.int .i64 0] 34)) (.cells #[.int .i64 0] 3);rw[World.size_alloc,World.size_alloc]at this;exact this
 have e1:Hid (w1.heap[w.heap.size+1]?=some (.cells #[.int .i64 0] 34 (0,0))):=(hb.block _ (by omega)).trans e3;have a1:Hid (w1.heap[w.heap.size+1+1]?=some (.cells #[.int .i64 0] 3 (0,0))):=(hb.block _ (by omega)).trans a3;have ce:w1.cell? ⟨w.heap.size+1,0,none⟩=some (.int .i64 0):=by unfold World.cell?;rw[e1.out];rfl
 have fe:w1.frozen? ⟨w.heap.size+1,0,none⟩=false:=by unfold World.frozen?;rw[e1.out];rfl
 have ca:w1.cell? ⟨w.heap.size+1+1,0,none⟩=some (.int .i64 0):=by unfold World.cell?;rw[a1.out];rfl
 have fa:w1.frozen? ⟨w.heap.size+1+1,0,none⟩=false:=by unfold World.frozen?;rw[a1.out];rfl
 have B1:=aa (B3.out.trans (hb.mono (by omega)));have Sd:w.heap.size+3<=w1.heap.size:=by have:=hb.size;omega
 have tU:=aa hO;have bf:Hid (∀e w',IT f w (if (jd (bl s)).1=0 then Dh (qg (FV f ((jd (bl s)).2.2++[⟨0,[],(bl s).length⟩]))) else .inl ((jd (bl s)).1,(jd (bl s)).2.1)) e w'->IT f w (jG f (bl s)) e w'):=fun e w' h=>h;obtain⟨a,c,hv⟩:=hO.shape;have aL:=yA (bl s);have tS:=aa (rS (bl s));obtain⟨E,hE⟩:∃E,(jd (bl s)).1=E:=⟨_,rfl⟩
 obtain⟨A,hA⟩:∃A,(jd (bl s)).2.1=A:=⟨_,rfl⟩
 obtain⟨ts,lG⟩:∃ts,(jd (bl s)).2.2=ts:=⟨_,rfl⟩
 rw[hE,hA,lG]at bf;rw[hE,lG]at tS;rw[lG]at aL tU hv;rw[hE,hA];subst hv;have k0:=Z1.out.cells;have z0:=Z1.out.frz;unfold tz jU tf at k0;clear hb hO e3 a3 hs hE hA lG vp Z3 B3;by_cases h0:E=0
 ·subst h0
  obtain⟨aJ,bq,eS⟩:=tS.out rfl;have HOK:=aa (eS ((bl s).length:Nat));rw[bl_length]at bq HOK;have R2:∀W2,W2=(w1.setCell ⟨w.heap.size+1,0,none⟩ (.int .i64 (0:Nat))).setCell ⟨w.heap.size+1+1,0,none⟩ (.int .i64 (A:Nat))->RC w.heap.size w (0:Nat) (A:Nat) W2/\OT W2 (w.heap.size+3) (.slice a ts.length c) ts/\W2.heap.size=w1.heap.size:=by
   intro W2 gf;refine⟨⟨?_,?_,?_,?_⟩,?_,by rw[gf];simp⟩
   ·rw[gf];exact(B1.out.setCell (by show w.heap.size<=w.heap.size+1;omega) _).setCell (by show w.heap.size<=w.heap.size+1+1;omega) _
   ·rw[gf,Below.heap_setCell _ _ _ _ (by show w.heap.size≠w.heap.size+1+1;omega),Below.heap_setCell _ _ _ _ (by show w.heap.size≠w.heap.size+1;omega)];exact Z1.out.at_
   ·rw[gf,Below.heap_setCell _ _ _ _ (by show w.heap.size+1≠w.heap.size+1+1;omega),ij e1.out]
   ·rw[gf,ij (B:=w.heap.size+1+1) (v:=.int .i64 0) (T:=3) (by rw[Below.heap_setCell _ _ _ _ (by show w.heap.size+1+1≠w.heap.size+1;omega)];exact a1.out)]
   have hO:=tU.out;rw[LA]at hO;refine aX hO fun k hk hb=>?_;have:=(World.ownsRow.lt hO k hk).1;rw[gf,Below.heap_setCell _ _ _ _ (by show k≠w.heap.size+1+1;omega),Below.heap_setCell _ _ _ _ (by show k≠w.heap.size+1;omega)]
  have R2H:=aa R2;clear R2 Z1 e1 a1 B1 tU;go_wp2_with(go_at_call 59;refine ak.out ?_)
  refine ak.mk ?_;have R3:=R2H.out _ rfl;rw[Int.ofNat_zero]at R3;generalize gf:World.setCell _ _ _=W2 at R3 ⊢;obtain⟨RB2,OT2,xo⟩:=R3;refine(uJ OT2 (by omega) s.size (by omega) (by omega)).mono ?_;rintro e w3 ⟨rfl,ar,qt⟩;have RB3:=RB2.low ar;obtain⟨B,hB⟩:∃B,W2.heap.size=B:=⟨_,rfl⟩
  have iA:=aa ar.size;rw[hB]at qt iA ⊢;have xM:=aa (show w.heap.size+3<=B by omega);have T3:=aa (qt (.cells #[.func (.func 114) #[] #[.pointer (some ⟨B,0,none⟩)],.func (.func 115) #[] #[.pointer (some ⟨B,0,none⟩)]] 83));have RB4:=aa (RB3.low (W1:=w3.alloc (.cells #[.func (.func 114) #[] #[.pointer (some ⟨B,0,none⟩)],.func (.func 115) #[] #[.pointer (some ⟨B,0,none⟩)]] 83)) ((ab (Below.refl w3.heap.size w3)).mono (by have:=iA.out;have:=xM.out;omega)));have gp4:=aa (gp.below RB4.out.bel);have tR:=aa (show 15<=B by have:=g.sz;have:=xM.out;omega);have LB4:=aa (gO w3 B);have If:=aa (hM.out _ B _ ⟨T3.out,HOK.out,gp4.out,tR.out⟩ (by simp;omega));have pQ:Hid (∀e w',IT f w (Dh (qg (FV f (ts++[⟨0,[],(s.size:Nat)⟩])))) e w'->IT f w (jG f (bl s)) e w'):=fun e w' h=>bf.out e w' (by simp only[if_true,bl_length];exact h);clear bf;generalize hR:FV f _=R at If pQ;clear gf RB2 RB3 OT2 ar qt R2H ce fe ca fa k0 z0 xo;have Jx:∀(a:Addr) (w:World) (fn:Fn) (first cap:Array Value),(store a (.func fn first cap)).run prog w=stored prog w a (.func fn first cap) .plain:=fun a w fn f c=>run_store prog w a _ .plain rfl;unfold lv at If ⊢;go_wp2_with(go_at_call 51;refine ak.out ?_)
  refine ak.mk ?_;refine If.out.mono ?_;rcases R with p|x
  ·rintro e w5 ⟨bg,rfl⟩
   refine pt (RB4.out.low (bg.low (by have:=iA.out;simp;omega) |> fun h=>h.mono xM.out)) fun X hX=>?_;exact pQ.out _ _ ⟨hX.bel,rfl⟩
  rintro e w5 ⟨bg,q,rfl,iy,ir⟩;obtain⟨x,l2⟩:=x;have ok2:Hid (kO l2):=aa ((rF f) _ _ HOK.out hR).1;have RB5:=aa (RB4.out.low (bg.low (by have:=iA.out;simp;omega) |> fun h=>h.mono xM.out));have LB5:=aa (LB4.out.fb bg (by have:=T3.out.sz;rw[World.size_alloc]at this;omega));have K5:=aa iy;obtain⟨b1,b2,b3,b4,b5,b6,aK⟩:=iy.rd.shape;subst aK;have Q5:=aa ir;have S5:=aa bg.size;have kL0:∀o,(w5.alloc o).cell? ⟨w3.heap.size,0,none⟩=some (.func (.func 114) #[] #[.pointer (some ⟨B,0,none⟩)]):=fun o=>(LB5.out.below (ab af)).cells.1;have kL1:∀o,(w5.alloc o).cell? ⟨w3.heap.size,1,none⟩=some (.func (.func 115) #[] #[.pointer (some ⟨B,0,none⟩)]):=fun o=>(LB5.out.below (ab af)).cells.2;have T6:=aa (show B<w3.heap.size by have:=T3.out.sz;rw[World.size_alloc]at this;omega);clear bg ir iy If T3 RB4 gp4 LB4;obtain⟨t,l3,rfl⟩:=ok2.out.cons;have sQ:Hid (∀w',Below w5.heap.size w5 w'->Calls prog 60 #[lv B] w' fun e w''=>WP B w' (mi t l3) e w''):=aa fun w' hb=>zH (Q5.out.below hb);unfold lv at sQ;unfold cE fR
  dsimp only
  go_wp2_with(go_at_call 60;refine ak.out ?_)
  refine ak.mk ?_;refine(sQ.out _ (ab af)).mono ?_;rintro e w6 ⟨da,he⟩;have AP:=S5.out;simp only[World.size_alloc]at AP;have RB6:=aa ((RB5.out.low ((ab (Below.refl w5.heap.size w5)).mono (by have:=iA.out;have:=xM.out;omega))).low (da.low (by simp;have:=iA.out;omega) |> fun h=>h.mono xM.out));have X6:=aa ((eu w5 (gz f x) ⟨.slice b1 b2 b3,.slice b4 b5 b6⟩).fb da (by have:=iA.out;omega));have K6:=aa ((K5.out.al (o:=.cells (cE (gz f x) ⟨.slice b1 b2 b3,.slice b4 b5 b6⟩) 48)).fb da (by simp;have:=T6.out;omega));by_cases Hw:t.w=0
  ·have e1:mi t l3=.inr (t::l3):=by simp[mi,Hw]
   rw[e1]at he;obtain⟨rfl,_⟩:=he;have x0:=X6.out.cells;have k0:=RB6.out.cells;obtain⟨z0,z1,z2⟩:=RB6.out.frz;clear sQ ok2 hR e1;go_wp2_with fail
   have ex1:=rG (h:=gz f x) (q:=⟨.slice b1 b2 b3,.slice b4 b5 b6⟩) (⟨RB6.out.ex⟩:Ty w6 w.heap.size tz jU);simp only[]at ex1;have e6:=RB6.out.e;have a6:=RB6.out.a;have hK:∀X,Below w.heap.size w X->KQ f X x ⟨.slice b1 b2 b3,.slice b4 b5 b6⟩ w.heap.size X.heap.size->IT f w (jG f (bl s)) (.returned (.tuple #[.agg (cE (gz f x) ⟨.slice b1 b2 b3,.slice b4 b5 b6⟩),.int .i64 0,.int .i64 0])) X:=fun X h1 h2=>pQ.out _ _ (by simp only[qg,Hw,if_true,Dh];exact⟨h1,_,rfl,h2⟩);clear x0 k0 z0 z1 z2 pQ;generalize hY:World.setCell (World.setCell (World.setCell w6 _ _) _ _) _ _=Y at ex1 ⊢;have bY:Below w.heap.size w6 Y:=by
    rw[<-hY];iterate 3(refine Below.setCell ?_ (show w.heap.size<=w.heap.size from Nat.le_refl _) _)
    exact af
   have kY:∀j,j≠w.heap.size->Y.heap[j]?=w6.heap[j]?:=fun j hj=>by rw[<-hY];iterate 3(rw[Below.heap_setCell _ _ _ _ (by show j≠w.heap.size;exact hj)])
   have sY:Y.heap.size=w6.heap.size:=by rw[<-hY];simp
   clear hY;refine Ah (h:=gz f x) ?_ ?_ ?_ (hK _ ?_ ?_)
   ·refine⟨?_⟩
    rw[Below.heap_setCell _ _ _ _ (by show w.heap.size≠w.heap.size+1+1;omega),Below.heap_setCell _ _ _ _ (by show w.heap.size≠w.heap.size+1;omega)];exact ex1.at_
   ·refine(World.cell?_of_block (w:=Y.setCell ⟨w.heap.size+1,0,none⟩ (.int .i64 0)) (Below.heap_setCell _ _ _ _ (by show w.heap.size+1≠w.heap.size+1+1;omega))).trans ?_
    unfold World.cell?;rw[ij ((kY _ (by omega)).trans e6)];rfl
   ·unfold World.cell?
    rw[ij (B:=w.heap.size+1+1) (v:=.int .i64 A) (T:=3) (by rw[Below.heap_setCell _ _ _ _ (by show w.heap.size+1+1≠w.heap.size+1;omega)];exact(kY _ (by omega)).trans a6)];rfl
   ·exact((RB6.out.bel.trans bY).setCell (by show w.heap.size<=w.heap.size+1;omega) _).setCell (by show w.heap.size<=w.heap.size+1+1;omega) _
   have Si:=iA.out;have ai:=xM.out;have Sa:=T6.out;have Vy:w5.heap.size+1<=w6.heap.size:=by have:=da.size;simpa using this
   refine KQ.fin (s:=w3.heap.size+1) ((((K6.out.move (W1:=Y) (by omega) fun k h1 h2=>kY k (by simp only[World.size_alloc]at h1;omega)).set ?_).set ?_) |> fun h=>by simpa using h) (by omega)
   ·simp;omega
   simp;omega
  have e1:mi t l3=.inl t.p:=by simp[mi,Hw]
  rw[e1]at he;obtain rfl:=he;refine pt RB6.out fun X hX=>?_;refine pQ.out _ _ ?_;simp only[qg,Hw,if_false,Dh];exact⟨hX.bel,rfl⟩
 have b0:((E:Int)==0)=false:=by simp;omega
 go_wp2_with fail
 obtain⟨W2,gf⟩:∃W2,(w1.setCell ⟨w.heap.size+1,0,none⟩ (.int .i64 (E:Nat))).setCell ⟨w.heap.size+1+1,0,none⟩ (.int .i64 (A:Nat))=W2:=⟨_,rfl⟩
 have B2:Hid (Below w.heap.size w W2):=by rw[<-gf];exact(B1.out.setCell (by show w.heap.size<=w.heap.size+1;omega) _).setCell (by show w.heap.size<=w.heap.size+1+1;omega) _
 have Z2:Ty W2 w.heap.size tz jU:=⟨by rw[<-gf,Below.heap_setCell _ _ _ _ (by show w.heap.size≠w.heap.size+1+1;omega),Below.heap_setCell _ _ _ _ (by show w.heap.size≠w.heap.size+1;omega)];exact Z1.out.at_⟩
 have e2:W2.heap[w.heap.size+1]?=some (.cells #[.int .i64 (E:Nat)] 34 (0,0)):=by rw[<-gf,Below.heap_setCell _ _ _ _ (by show w.heap.size+1≠w.heap.size+1+1;omega),ij e1.out]
 have a2:W2.heap[w.heap.size+1+1]?=some (.cells #[.int .i64 (A:Nat)] 3 (0,0)):=by rw[<-gf,ij (B:=w.heap.size+1+1) (v:=.int .i64 0) (T:=3) (by rw[Below.heap_setCell _ _ _ _ (by show w.heap.size+1+1≠w.heap.size+1;omega)];exact a1.out)]
 clear k0 z0 ce fe ca fa;have R2:Hid (RC w.heap.size w (E:Nat) (A:Nat) W2):=⟨B2.out,Z2.at_,e2,a2⟩
 clear B2 Z2 e2 a2;rw[gf];clear gf;have k0:=R2.out.cells;obtain⟨z0,z1,z2⟩:=R2.out.frz
 go_region_held3 (fun W=>W.cell? ⟨w.heap.size,0,none⟩=some (.int .i64 0)/\W.cell? ⟨w.heap.size,1,none⟩=some (.slice none 0 0)/\W.cell? ⟨w.heap.size,2,none⟩=some (.slice none 0 0)/\W.cell? ⟨w.heap.size+1,0,none⟩=some (.int .i64 (E:Nat))/\W.cell? ⟨w.heap.size+1+1,0,none⟩=some (.int .i64 (A:Nat))) (first|(refine RC.cells (w:=w) ?_;(repeat (first|with_reducible (exact R2.out)|with_reducible (refine RC.dr ?_)|with_reducible (refine RC.pa ?_)|with_reducible (refine RC.pe ?_)|with_reducible (refine RC.pz ?_))))) (first|fail)
 have KX:∀X,RC w.heap.size w (E:Nat) (A:Nat) X->IT f w (jG f (bl s)) (.returned (.tuple #[.agg (cE tz jU),.int .i64 (E:Nat),.int .i64 (A:Nat)])) X:=fun X hX=>bf.out _ _ (by rw[if_neg h0];exact⟨hX.bel,rfl⟩);go_wp2_with fail
 generalize hX:World.drew _=X;have RX:RC w.heap.size w (E:Nat) (A:Nat) X:=by
  rw[<-hX]
  repeat (first|with_reducible (exact R2.out)|with_reducible (refine RC.dr ?_)|with_reducible (refine RC.pa ?_)|with_reducible (refine RC.pe ?_)|with_reducible (refine RC.pz ?_))
 refine⟨.tuple #[.agg (cE tz jU),.int .i64 (E:Nat),.int .i64 (A:Nat)],?_,KX X RX⟩;clear hX k0 z0 z1 z2 R2 KX;have q0:=RX.cells;simp[results,Tryz.results50,go_sem,q0,cE,fR,tz,jU,tf]
def Dn{n:Nat}(C:TT n->Int)(o:Sum (Int×Int) (TT n)):Sum (Int×Int) (TT n):=match o with
 | .inl y=>.inl y
 | .inr x=>if C x=0 then .inr x else .inl (2,0)
theorem As(hP:aW)(f:Nat)(hf:1025<=f)(s:ByteArray)(w:World)(g:Gg w)(gp:Gp w)(hz:s.size<=1000000)(C:TT f->Int)
  (hE:∀y,jG f (bl s)=.inl y->y.1≠0)
  (hC:∀(x:TT f) (q:S2) (W:World),jG f (bl s)=.inr x->lN f W x q->Below w.heap.size w W->Calls prog 52 #[.agg (cE (gz f x) q)] W fun e w'=>e=.returned (.int .i64 (C x))/\Below W.heap.size W w') :
  Calls prog 20 #[.string s] w fun e w'=>IT f w (Dn C (jG f (bl s))) e w':=by
 have H:=aa (fun o=>Ag hP f hf s (w.alloc o) (g.below (ab af) (by have:=g.sz;omega)) (gp.below (ab af)) hz);have HC:=aa hC;have HE:=aa hE;clear hP g gp hC hE;obtain⟨R,hR⟩:∃R,jG f (bl s)=R:=⟨_,rfl⟩
 rw[hR]at H HC HE ⊢;clear hR;have bm:w.heap.size<w.heap.size+1:=Nat.lt_succ_self _;go_enter func20,ntmps20;go_wp2_with(go_at_call 50;refine ak.out ?_)
 refine ak.mk ?_;refine(H.out _).mono ?_;rcases R with⟨er,p⟩|x
 ·rintro e w1 ⟨hb,rfl⟩
  have h0:=HE.out _ rfl;simp only at h0;have Z1:=aa (((po w)).below hb);have B1:=aa (ac (ab af) hb);have b0:(er==0)=false:=by simp[h0]
  have k0:=Z1.out.cells;have z0:=Z1.out.frz;have kl:=Z1.out.lt;clear hb H HC HE;unfold cE fR tz jU tf at *
  dsimp only at *
  go_wp2_with fail
  have ex1:=rG (h:=tz) (q:=jU) Z1.out;simp only[tz,jU,tf]at ex1;generalize hY:World.setCell (World.setCell (World.setCell w1 _ _) _ _) _ _=Y at ex1 ⊢;have bY:Below w.heap.size w1 Y:=by
   rw[<-hY];iterate 3(refine Below.setCell ?_ (show w.heap.size<=w.heap.size from Nat.le_refl _) _)
   exact af
  clear hY k0 z0;generalize hW:World.alloc Y _=X;have xX:Ty X w.heap.size tz jU:=by rw[<-hW];exact ex1.below (ab af)
  have bX:Below w.heap.size w X:=by rw[<-hW];exact(B1.out.trans bY).alloc (by have:=ex1.lt;omega) _
  clear hW;have q0:=xX.cells;unfold tz jU tf at q0;refine bodyPost_ret (v:=.tuple #[.agg (cE tz jU),.int .i64 er,.int .i64 p]) (by simp[results,Tryz.results20,go_sem,q0,cE,fR,tz,jU,tf]) rfl ⟨bX,rfl⟩
 rintro e w1 ⟨hb,q,rfl,hk⟩;obtain⟨b1,b2,b3,b4,b5,b6,aK⟩:=hk.rd.shape;subst aK;have Z1:=aa ((po w).below hb);have B1:=aa (ac (ab af) hb);have K1:=aa hk;have hc:=aa (HC.out x _ (w1.alloc (.cells (cE (gz f x) ⟨.slice b1 b2 b3,.slice b4 b5 b6⟩) 48)) rfl (hk.al.rd) (ab B1.out));obtain⟨c,Ba⟩:∃c,C x=c:=⟨_,rfl⟩
 rw[Ba]at hc;have HX:=aa Ba;clear hb hk H HC HE Ba;simp only[cE,fR]at hc ⊢;go_wp2_with(go_at_call 52;refine ak.out ?_)
 refine ak.mk ?_;refine hc.out.mono ?_;rintro e w2 ⟨rfl,aq⟩;have Z2:=aa ((Z1.out.below (ab af)).below aq);have X2:=aa ((eu w1 (gz f x) ⟨.slice b1 b2 b3,.slice b4 b5 b6⟩).below aq);have K2:=aa (K1.out.al.below aq);have B2:=aa (ac (ab B1.out) aq);clear aq hc;have z0:=Z2.out.frz;have k1:=X2.out.cells;by_cases h0:c=0
 ·have k0:=Z2.out.cells
  subst h0;go_wp2_with fail
  have ex1:=rG (h:=gz f x) (q:=⟨.slice b1 b2 b3,.slice b4 b5 b6⟩) Z2.out;simp only[]at ex1;generalize hY:World.setCell (World.setCell (World.setCell w2 _ _) _ _) _ _=Y at ex1 ⊢;have bY:Below w.heap.size w2 Y:=by
   rw[<-hY];iterate 3(refine Below.setCell ?_ (show w.heap.size<=w.heap.size from Nat.le_refl _) _)
   exact af
  have kY:∀j,j≠w.heap.size->Y.heap[j]?=w2.heap[j]?:=fun j hj=>by rw[<-hY];iterate 3(rw[Below.heap_setCell _ _ _ _ (by show j≠w.heap.size;exact hj)])
  have sY:Y.heap.size=w2.heap.size:=by rw[<-hY];simp
  clear hY k0 z0 k1;have q0:=ex1.cells;refine bodyPost_ret (v:=.tuple #[.agg (cE (gz f x) ⟨.slice b1 b2 b3,.slice b4 b5 b6⟩),.int .i64 0,.int .i64 0]) (by simp[results,Tryz.results20,go_sem,q0,cE,fR]) rfl ?_;simp only[Dn,HX.out,if_true];refine⟨B2.out.trans bY,_,rfl,?_⟩;have eR:=K2.out.2.1;exact KQ.fin (K2.out.move (W1:=Y) (by omega) fun k h1 h2=>kY k (by simp only[World.size_alloc]at h1;omega)) (by simp only[World.size_alloc];omega)
 have b0:(c==0)=false:=by simp[h0]
 have k0:=Z2.out.cells;unfold tz jU tf at k0;clear k1;go_wp2_with fail
 have ex1:=rG (h:=tz) (q:=jU) Z2.out;simp only[tz,jU,tf]at ex1;generalize hY:World.setCell (World.setCell (World.setCell w2 _ _) _ _) _ _=Y at ex1 ⊢;have bY:Below w.heap.size w2 Y:=by
  rw[<-hY];iterate 3(refine Below.setCell ?_ (show w.heap.size<=w.heap.size from Nat.le_refl _) _)
  exact af
 clear hY k0 z0;have q0:=(show Ty Y w.heap.size tz jU from ex1).cells;unfold tz jU tf at q0;refine bodyPost_ret (v:=.tuple #[.agg (cE tz jU),.int .i64 2,.int .i64 0]) (by simp[results,Tryz.results20,go_sem,q0,cE,fR,tz,jU,tf]) rfl ?_;simp only[Dn,HX.out,h0,if_false];exact⟨B2.out.trans bY,rfl⟩
variable {dq : {_f : (p : Prop) → Decidable p // True}}
theorem GT.sz:∀ {n:Nat} {x:TT n},GT n x->NE n x
 |0,x,_=>Empty.elim x
 |n+1,x,h=>⟨by have:=h.1;omega,h.2.1,fun y hy=>(h.2.2.2 y hy).sz⟩
def qV(dq:{_f:(p:Prop)->Decidable p // True})(n:Nat)(x:TT n):Int:=@ite _ (¬BL n x) (dq.1 _) 110 (@ite _ (ye n x) (dq.1 _) 0 2)
theorem Ke(n:Nat)(x:TT n):IQ n x (qV dq n x):=by
 unfold qV IQ;by_cases a:BL n x
 ·by_cases b:ye n x
  ·simp[a,b]
  simp[a,b]
 simp[a]
theorem qW(n:Nat)(x:TT n)(q:S2)(w:World)(hr:lN n w x q)(hg:GT n x)(hz:cW n x<=200000)(g:Ut.Gu w)(gt:Gt w):Calls prog 52 #[.agg (cE (gz n x) q)] w fun e w'=>e=.returned (.int .i64 (qV dq n x))/\Below w.heap.size w w' :=
 wl n x q.ns q.ls w ⟨hr,hg.sz,hz⟩ g gt _ (Ke n x)
theorem nB{f:Nat}{l:List UInt8}{x:TT f}(h:jG f l=.inr x):GT _ x/\cW _ x<=2000:=by
 unfold jG at h
 split at h
 ·rename_i h0
  obtain⟨h1,h2,h3⟩:=rS l h0;have eS:=h3 (l.length:Nat)
  revert h
  cases hm:FV f ((jd l).2.2++[⟨0,[],(l.length:Nat)⟩])with
  |inl p=>intro h;cases h
  |inr y=>
   intro h;have aL:((jd l).2.2++[(⟨0,[],(l.length:Nat)⟩:Tk)]).length<=1025:=by simp;omega
   obtain⟨g1,g2⟩:=Cy f _ _ eS (by omega) hm;have e:x=y.1:=by
    obtain⟨y1,y2⟩:=y;cases y2 with
    |nil=>cases h
    |cons t r=>
     simp only[qg]at h
     split at h
     ·cases h;rfl
     cases h
   rw[e];exact⟨g1,by omega⟩
 cases h
theorem GB{f:Nat}{l:List UInt8}{y:Int×Int}(h:jG f l=.inl y):y.1≠0:=by
 unfold jG at h
 split at h
 ·revert h
  cases qg (FV f ((jd l).2.2++[⟨0,[],(l.length:Nat)⟩]))with
  |inl p=>intro h;cases h;simp
  |inr e=>intro h;cases h
 rename_i h0;cases h;simp only;omega
def KG(dq:{_f:(p:Prop)->Decidable p // True})(f:Nat)(l:List UInt8):Sum (Int×Int) (TT f):=Dn (qV dq _) (jG f l)
theorem Dm(hP:aW)(f:Nat)(hf:1025<=f)(s:ByteArray)(w:World)(g:Gg w)(gp:Gp w)(gt:Gt w)(hz:s.size<=1000000):Calls prog 20 #[.string s] w fun e w'=>IT f w (KG dq f (bl s)) e w' :=
 As hP f hf s w g gp hz (qV dq _) (fun y h=>GB h) fun x q W h hr hb=>qW _ x q W hr (nB h).1 (by have:=(nB h).2;omega) (g.gu.below hb) (gt.below hb)
end Lx
