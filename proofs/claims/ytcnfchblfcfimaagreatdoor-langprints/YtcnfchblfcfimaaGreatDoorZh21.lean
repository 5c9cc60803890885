import Derived.Test.YtcnfchblfcfimaaGreatDoorZh15
import Derived.Test.YtcnfchblfcfimaaGreatDoorZh16
set_option linter.all false
set_option maxHeartbeats 4000000
set_option maxRecDepth 100000
namespace Go.Proofs.YtcnfchblfcfimaaGreatDoor
open Proofs.Tryz RowKit
def gw(pn:Bool)(l:List UInt8):Int:=if pn then -(gI 0 l:Int) else gI 0 l
def aS(l:List UInt8):Bool×ByteArray×Int×Int :=
 match dv l with
 |none=>(false,⟨#[]⟩,0,10)
 |some (n,wh,fr,pn,pw)=>if 512<l.length then (false,⟨#[]⟩,0,2) else cg n (bo wh++bo fr) (gw pn pw-fr.length)
theorem li(n:Bool)(wh fr l4:List UInt8)(h:(lx l4).2=false):aY n wh fr l4=none/\lx l4=(0,false):=by
 cases l4 with
 |nil=>cases h
 |cons c r=>
  have h0:lx (c::r)=if c==101||c==69 then (if jg r then ((if fC r then -(gI 0 (gm r):Int) else (gI 0 (gm r):Int)),true) else (0,false)) else (0,false):=rfl
  have h1:aY n wh fr (c::r)=if c==101||c==69 then (if jg r then some (n,wh,fr,fC r,gm r) else none) else none:=rfl
  rw[h0]at h ⊢;rw[h1]
  split at h
  ·rename_i q
   rw[if_pos q,if_pos q]
   split at h
   ·cases h
   rename_i q2;rw[if_neg q2,if_neg q2];exact⟨rfl,rfl⟩
  rename_i q;rw[if_neg q,if_neg q];exact⟨rfl,rfl⟩
theorem ld(n:Bool)(wh fr l4:List UInt8)(h:(lx l4).2=true):∃pn pw,aY n wh fr l4=some (n,wh,fr,pn,pw)/\lx l4=(gw pn pw,true)/\gI 0 pw<=1000000:=by
 cases l4 with
 |nil=>exact⟨false,[],rfl,rfl,by unfold gI;omega⟩
 |cons c r=>
  have h0:lx (c::r)=if c==101||c==69 then (if jg r then ((if fC r then -(gI 0 (gm r):Int) else (gI 0 (gm r):Int)),true) else (0,false)) else (0,false):=rfl
  have h1:aY n wh fr (c::r)=if c==101||c==69 then (if jg r then some (n,wh,fr,fC r,gm r) else none) else none:=rfl
  rw[h0]at h ⊢;rw[h1]
  split at h
  ·rename_i q
   rw[if_pos q,if_pos q]
   split at h
   ·rename_i q2
    rw[if_pos q2,if_pos q2];exact⟨fC r,gm r,rfl,rfl,pJ _ _ (by omega)⟩
   cases h
  cases h
theorem mP(l:List UInt8)(w:World)(hl:l.length<=90000):Calls prog 189 #[.string (aj l)] w fun e w'=>e=.returned (.tuple #[.int .i64 (lx l).1,.bool (lx l).2])/\Below w.heap.size w w':=by
 cases l with
 |nil=>exact pE w
 |cons c r=>
  cases h:(c==101||c==69)
  ·have h0:lx (c::r)=(0,false):=by
    show(if c==101||c==69 then _ else _)=_;rw[h];rfl
   rw[h0];exact GU c r w h (by simp at hl;omega)
  rw[<-Fl c r h];exact Kq c r w h (by simp at hl;omega)
theorem fJ(neg:Bool)(l:List Nat)(x:Int){fb:Bool}{fs:ByteArray}{fx fe:Int}(h:cg neg l x=(fb,fs,fx,fe)):fe=0\/(fb=false/\fs=⟨#[]⟩/\fx=0/\fe=2):=by
 unfold cg at h
 split at h
 ·left;exact(congrArg (fun r=>r.2.2.2) h).symm
 split at h
 ·left;exact(congrArg (fun r=>r.2.2.2) h).symm
 right;exact⟨(congrArg (fun r=>r.1) h).symm,(congrArg (fun r=>r.2.1) h).symm,(congrArg (fun r=>r.2.2.1) h).symm,(congrArg (fun r=>r.2.2.2) h).symm⟩
theorem fO(l:List UInt8):(bo l).length=l.length:=by simp[bo]
theorem ip(l:List UInt8)(h:bW l=true):aj l=cf (bo l):=by have:=KL (aj l) (by rw[ah];exact h);rw[jt]at this;exact this.symm
structure IZ(w W:World):Prop where
 below:Below w.heap.size w W
 box:iM W w.heap.size false ⟨#[]⟩ 0
theorem IZ.then{w W W1:World}(h:IZ w W)(hb:Below W.heap.size W W1):IZ w W1:=⟨ac h.below hb,h.box.below hb h.box.lt⟩
theorem tj(w:World):IZ w (w.alloc (.cells #[.bool false,.string ⟨#[]⟩,.int .i64 0] 27)):=⟨ab af,aV w false ⟨#[]⟩ 0⟩
theorem rU(T:List UInt8)(w:World)(hl:T.length<=80000):Calls prog 156 #[.string (aj (45::T))] w fun e w'=>e=ji (aS (45::T))/\Below w.heap.size w w':=by
 have cC:(aj (45::T)).size=T.length+1:=by rw[ag];rfl
 have hg:(aj (45::T))[0]'(by omega)=45:=bG 45 T _;have eW:=mW 45 T;have Gl:Hid (dv (45::T)=if lA (T.takeWhile isDig) then none
   else if dV 46 (T.dropWhile isDig) then (if ((aC 46 (T.dropWhile isDig)).takeWhile isDig).isEmpty then none else aY true (T.takeWhile isDig) ((aC 46 (T.dropWhile isDig)).takeWhile isDig) ((aC 46 (T.dropWhile isDig)).dropWhile isDig))
   else aY true (T.takeWhile isDig) [] (T.dropWhile isDig)):=rfl
 obtain⟨L,hL⟩:∃L,45::T=L:=⟨_,rfl⟩
 have XO:L.length=T.length+1:=by rw[<-hL];rfl
 rw[hL]at Gl cC eW ⊢;have dG:((aj L)[0]'(by omega))=45:=by subst hL;exact hg
 have h0:(0:Int)<(aj L).size:=by omega
 have h1:(1:Int)<=(aj L).size:=by omega
 have F0:=aa (tj w);clear hL hg;go_enter func156,ntmps156;go_wp2_with fail
 go_fit(fk (aj T) _ (by rw[ag];omega));rw[ah];rintro e w5 ⟨rfl,bg⟩;have F5:=aa (F0.out.then bg);clear bg;have lw:=az T;have lr:=aB T;have xi:=aa (jx T);obtain⟨wh,bR⟩:∃wh,T.takeWhile isDig=wh:=⟨_,rfl⟩
 obtain⟨R1,qO⟩:∃R1,T.dropWhile isDig=R1:=⟨_,rfl⟩
 rw[bR,qO]at Gl;rw[bR]at lw xi;rw[qO]at lr;rw[bR,qO];have me:=bM wh;have sw:(aj wh).size=wh.length:=ag wh;have s1:(aj R1).size=R1.length:=ag R1;clear bR qO;cases hbad:lA wh
 ·-- the whole part is as it should be
  have xK:=aa (Gl.out.trans (if_neg (by rw[hbad];simp)));have aQ:wh.isEmpty=false:=by
   cases hq:wh.isEmpty
   ·rfl
   unfold lA at hbad;rw[hq]at hbad;simp at hbad
  rw[aQ]at me;have sK:0<wh.length:=by
   cases wh with
   |nil=>cases aQ
   |cons=>simp
  have hlead:¬(1<wh.length/\((aj wh)[0]'(by omega)).toNat=48):=by
   rintro⟨q1,q2⟩;have hh:wh.head?=some 48:=by
    cases wh with
    |nil=>cases aQ
    |cons c r=>
     have:=bG c r (by omega);rw[this]at q2;have:c=48:=UInt8.toNat_inj.1 q2;rw[this];rfl
   unfold lA at hbad;rw[hh]at hbad;simp[q1]at hbad
  have hw0i:(0:Int)<(aj wh).size:=by omega
  obtain⟨q0,kX⟩:∃q0:Nat,((aj wh)[0]'(by omega)).toNat=q0:=⟨_,rfl⟩
  rw[kX]at hlead;have aT:((1:Int)<(wh.length:Int)/\((q0:Int)==48)=false)\/¬(1:Int)<(wh.length:Int):=by
   by_cases q:1<wh.length
   ·left
    refine⟨by omega,?_⟩;have:q0≠48:=fun e=>hlead ⟨q,e⟩;simp;omega
   right;omega
  clear hbad hlead;cases hdot:dV 46 R1
  ·-- no point
   have hSplit:=aa (xK.out.trans (if_neg (by rw[hdot];simp)));obtain⟨R2,mv⟩:∃R2,R1=R2:=⟨_,rfl⟩
   rw[mv]at hSplit hdot s1 lr ⊢;clear mv;have F7:=F5;cases R2 with
   |nil=>
    have he:aj []=⟨#[]⟩:=rfl;rw[he];rcases aT with⟨a1,a2⟩|a1
    all_goals
     go_wp2_with fail
     go_fit(pE _);rintro e w8 ⟨rfl,jr⟩;have F8:=aa (F7.out.then jr);clear jr;have kJ:=aa (hSplit.out.trans (show aY true wh [] []=some (true,wh,[],false,[])from rfl));obtain⟨v,hv⟩:∃v:Int,gw false []=v:=⟨_,rfl⟩
     have nd:(0:Int)=v:=hv;rw[nd];have Eu:-1000000<=v:=by omega
     have Et:v<=1000000:=by omega
     clear nd;by_cases eX:512<L.length
     ·have fH:=aa (show aS L=(false,⟨#[]⟩,0,2)by unfold aS;rw[kJ.out];exact if_pos eX)
      have kG:(512:Int)<L.length:=by omega
      skip
      obtain⟨z0,z1,z2,y0,y1,y2⟩:=F8.out.box.cells;obtain⟨r0,r1,r2,_,_,_⟩:=(F8.out.box.set (n':=false) (s':=⟨#[]⟩) (x':=0)).cells;go_wp2;refine bodyPost_ret (v:=.tuple #[.agg #[.bool false,.string ⟨#[]⟩,.int .i64 0],.int .i64 2]) (by simp[results,Tryz.results156,go_sem,r0,r1,r2]) rfl ⟨by rw[fH.out];rfl,?_⟩;iterate 3 refine Below.setCell ?_ (by show w.heap.size<=w.heap.size;omega) _
      exact F8.out.below
     have fH:=aa (show aS L=cg true (bo wh) v by unfold aS;rw[kJ.out,<-hv];refine(if_neg eX).trans ?_;simp[bo]);have kG:¬(512:Int)<L.length:=by omega
     have lu:=aa (show aj wh++⟨#[]⟩=cf (bo wh)by rw[ip wh xi.out,<-oY,fN,List.append_nil]);have Fc:=aa (du _ xi.out);have vt:=aa (show(bo wh).length<=100000 by rw[fO];omega);have PV:∀w,(Op.stringOp .add (aj wh) ⟨#[]⟩).run prog w=.ok (.string (cf (bo wh))) w:=fun w=>by rw[<-lu.out];exact run_string_add_sum w _ _ (by rw[ag];show _+0<=_;omega)
     obtain⟨fb,fs,fx,fe,fA⟩:∃fb fs fx fe,cg true (bo wh) v=(fb,fs,fx,fe):=⟨_,_,_,_,rfl⟩
     have HF:=aa fA;rw[fA]at fH;have pW:=fJ _ _ _ fA;clear fA;go_wp2_with fail
     go_fit(iV true (bo wh) v _ Fc.out vt.out (by omega) (by omega));rw[HF.out];rintro e w9 ⟨rfl,qa⟩;have F9:=aa (F8.out.then qa);simp only[wG];rcases pW with rfl|⟨rfl,rfl,rfl,rfl⟩
     ·obtain⟨z0,z1,z2,y0,y1,y2⟩:=(F9.out.box.alloc (.cells #[.bool fb,.string fs,.int .i64 fx] 27)).cells
      obtain⟨t0,t1,t2,_,_,_⟩:=(aV w9 fb fs fx).cells;obtain⟨r0,r1,r2,_,_,_⟩:=((F9.out.box.alloc (.cells #[.bool fb,.string fs,.int .i64 fx] 27)).set (n':=fb) (s':=fs) (x':=fx)).cells;go_wp2;refine bodyPost_ret (v:=.tuple #[.agg #[.bool fb,.string fs,.int .i64 fx],.int .i64 0]) (by simp[results,Tryz.results156,go_sem,r0,r1,r2]) rfl ⟨by rw[fH.out];rfl,?_⟩;iterate 3 refine Below.setCell ?_ (by show w.heap.size<=w.heap.size;omega) _
      exact ab F9.out.below
     obtain⟨z0,z1,z2,y0,y1,y2⟩:=(F9.out.box.alloc (.cells #[.bool false,.string ⟨#[]⟩,.int .i64 0] 27)).cells;obtain⟨r0,r1,r2,_,_,_⟩:=((F9.out.box.alloc (.cells #[.bool false,.string ⟨#[]⟩,.int .i64 0] 27)).set (n':=false) (s':=⟨#[]⟩) (x':=0)).cells;go_wp2;refine bodyPost_ret (v:=.tuple #[.agg #[.bool false,.string ⟨#[]⟩,.int .i64 0],.int .i64 2]) (by simp[results,Tryz.results156,go_sem,r0,r1,r2]) rfl ⟨by rw[fH.out];rfl,?_⟩;iterate 3 refine Below.setCell ?_ (by show w.heap.size<=w.heap.size;omega) _
     exact ab F9.out.below
   |cons c r=>
    have pZ:c.toNat≠46:=by intro q;have:c=46:=UInt8.toNat_inj.1 q;subst this;cases hdot
    have lX:0<(aj (c::r)).size:=by rw[s1];simp
    have xB:=bG c r lX;have Eq:(0:Int)<((c::r).length:Int):=by rw[List.length_cons];omega
    have Tn:((c.toNat:Int)==46)=false:=by simp;omega
    obtain⟨R2,mv⟩:∃R2,c::r=R2:=⟨_,rfl⟩
    have vk:∃hs:0<(aj (c::r)).size,(aj (c::r))[0]'hs=c:=⟨lX,xB⟩
    clear xB hdot pZ lX;rw[mv]at hSplit s1 lr Eq vk ⊢;clear mv;obtain⟨lX,xB⟩:=vk;rcases aT with⟨a1,a2⟩|a1
    all_goals
     go_wp2_with fail
     go_fit(mP R2 _ (by omega));rintro e w8 ⟨rfl,jr⟩;have F8:=aa (F7.out.then jr);clear jr;cases eS:(lx R2).2
     ·obtain⟨gy,pV⟩:=li true wh [] R2 eS
      have fH:=aa (show aS L=(false,⟨#[]⟩,0,10)by unfold aS;rw[hSplit.out,gy]);rw[pV];obtain⟨z0,z1,z2,y0,y1,y2⟩:=F8.out.box.cells;obtain⟨r0,r1,r2,_,_,_⟩:=(F8.out.box.set (n':=false) (s':=⟨#[]⟩) (x':=0)).cells;go_wp2;refine bodyPost_ret (v:=.tuple #[.agg #[.bool false,.string ⟨#[]⟩,.int .i64 0],.int .i64 10]) (by simp[results,Tryz.results156,go_sem,r0,r1,r2]) rfl ⟨by rw[fH.out];rfl,?_⟩;iterate 3 refine Below.setCell ?_ (by show w.heap.size<=w.heap.size;omega) _
      exact F8.out.below
     obtain⟨pn,pw,gy,pV,xq⟩:=ld true wh [] R2 eS;rw[pV];have kJ:=aa (hSplit.out.trans gy);have ve:-1000000<=gw pn pw/\gw pn pw<=1000000:=by unfold gw;split<;>omega
     obtain⟨v,hv⟩:∃v,gw pn pw=v:=⟨_,rfl⟩
     rw[hv]at ve ⊢;obtain⟨Eu,Et⟩:=ve;by_cases eX:512<L.length
     ·have fH:=aa (show aS L=(false,⟨#[]⟩,0,2)by unfold aS;rw[kJ.out];exact if_pos eX)
      have kG:(512:Int)<L.length:=by omega
      clear gy pV;obtain⟨z0,z1,z2,y0,y1,y2⟩:=F8.out.box.cells;obtain⟨r0,r1,r2,_,_,_⟩:=(F8.out.box.set (n':=false) (s':=⟨#[]⟩) (x':=0)).cells;go_wp2;refine bodyPost_ret (v:=.tuple #[.agg #[.bool false,.string ⟨#[]⟩,.int .i64 0],.int .i64 2]) (by simp[results,Tryz.results156,go_sem,r0,r1,r2]) rfl ⟨by rw[fH.out];rfl,?_⟩;iterate 3 refine Below.setCell ?_ (by show w.heap.size<=w.heap.size;omega) _
      exact F8.out.below
     have fH:=aa (show aS L=cg true (bo wh) v by unfold aS;rw[kJ.out,<-hv];refine(if_neg eX).trans ?_;simp[bo]);have kG:¬(512:Int)<L.length:=by omega
     have lu:=aa (show aj wh++⟨#[]⟩=cf (bo wh)by rw[ip wh xi.out,<-oY,fN,List.append_nil]);have Fc:=aa (du _ xi.out);have vt:=aa (show(bo wh).length<=100000 by rw[fO];omega);have PV:∀w,(Op.stringOp .add (aj wh) ⟨#[]⟩).run prog w=.ok (.string (cf (bo wh))) w:=fun w=>by rw[<-lu.out];exact run_string_add_sum w _ _ (by rw[ag];show _+0<=_;omega)
     obtain⟨fb,fs,fx,fe,fA⟩:∃fb fs fx fe,cg true (bo wh) v=(fb,fs,fx,fe):=⟨_,_,_,_,rfl⟩
     have HF:=aa fA;rw[fA]at fH;have pW:=fJ _ _ _ fA;clear fA gy pV hv;go_wp2_with fail
     go_fit(iV true (bo wh) v _ Fc.out vt.out (by omega) (by omega));rw[HF.out];rintro e w9 ⟨rfl,qa⟩;have F9:=aa (F8.out.then qa);simp only[wG];rcases pW with rfl|⟨rfl,rfl,rfl,rfl⟩
     ·obtain⟨z0,z1,z2,y0,y1,y2⟩:=(F9.out.box.alloc (.cells #[.bool fb,.string fs,.int .i64 fx] 27)).cells
      obtain⟨t0,t1,t2,_,_,_⟩:=(aV w9 fb fs fx).cells;obtain⟨r0,r1,r2,_,_,_⟩:=((F9.out.box.alloc (.cells #[.bool fb,.string fs,.int .i64 fx] 27)).set (n':=fb) (s':=fs) (x':=fx)).cells;go_wp2;refine bodyPost_ret (v:=.tuple #[.agg #[.bool fb,.string fs,.int .i64 fx],.int .i64 0]) (by simp[results,Tryz.results156,go_sem,r0,r1,r2]) rfl ⟨by rw[fH.out];rfl,?_⟩;iterate 3 refine Below.setCell ?_ (by show w.heap.size<=w.heap.size;omega) _
      exact ab F9.out.below
     obtain⟨z0,z1,z2,y0,y1,y2⟩:=(F9.out.box.alloc (.cells #[.bool false,.string ⟨#[]⟩,.int .i64 0] 27)).cells;obtain⟨r0,r1,r2,_,_,_⟩:=((F9.out.box.alloc (.cells #[.bool false,.string ⟨#[]⟩,.int .i64 0] 27)).set (n':=false) (s':=⟨#[]⟩) (x':=0)).cells;go_wp2;refine bodyPost_ret (v:=.tuple #[.agg #[.bool false,.string ⟨#[]⟩,.int .i64 0],.int .i64 2]) (by simp[results,Tryz.results156,go_sem,r0,r1,r2]) rfl ⟨by rw[fH.out];rfl,?_⟩;iterate 3 refine Below.setCell ?_ (by show w.heap.size<=w.heap.size;omega) _
     exact ab F9.out.below
  -- a point
  have sV:=aa (xK.out.trans (if_pos hdot));cases R1 with
  |nil=>cases hdot
  |cons c Z=>
   have hc:c=46:=by
    have:=eq_of_beq hdot
    simpa using this
   subst hc;have Hy:aC 46 (46::Z)=Z:=rfl;rw[Hy]at sV;have lX:0<(aj (46::Z)).size:=by rw[s1,List.length_cons];omega
   have xB:=bG 46 Z lX;have hextZ:=mW 46 Z;have PD:(46::Z).length=Z.length+1:=List.length_cons;rw[PD]at s1 lr;obtain⟨R1,qO⟩:∃R1,46::Z=R1:=⟨_,rfl⟩
   have vk:∃hs:0<(aj (46::Z)).size,(aj (46::Z))[0]'hs=46:=⟨lX,xB⟩
   clear xB hdot lX Hy PD xK Gl;rw[qO]at s1 vk hextZ ⊢;clear qO;obtain⟨lX,xB⟩:=vk;have Eq:(0:Int)<(aj R1).size:=by omega
   have Sf:(1:Int)<=(aj R1).size:=by omega
   rcases aT with⟨a1,a2⟩|a1
   all_goals
    go_wp2_with fail
    go_fit(fk (aj Z) _ (by rw[ag];omega));rw[ah];rintro e w6 ⟨rfl,da⟩;have F7:=aa (F5.out.then da);clear da;have lf:=az Z;have lg:=aB Z;have Me:=aa (jx Z);obtain⟨fr,dL⟩:∃fr,Z.takeWhile isDig=fr:=⟨_,rfl⟩
    obtain⟨R2,mv⟩:∃R2,Z.dropWhile isDig=R2:=⟨_,rfl⟩
    rw[dL,mv]at sV;rw[dL]at lf Me;rw[mv]at lg;rw[dL,mv];have mf:=bM fr;have sf:(aj fr).size=fr.length:=ag fr;have s2:(aj R2).size=R2.length:=ag R2;clear dL mv;cases fA:fr.isEmpty
    ·have hSplit:=aa (sV.out.trans (if_neg (by rw[fA];simp)))
     rw[fA]at mf;clear fA;go_wp2_with fail
     go_fit(mP R2 _ (by omega));rintro e w8 ⟨rfl,jr⟩;have F8:=aa (F7.out.then jr);clear jr;cases eS:(lx R2).2
     ·obtain⟨gy,pV⟩:=li true wh fr R2 eS
      have fH:=aa (show aS L=(false,⟨#[]⟩,0,10)by unfold aS;rw[hSplit.out,gy]);rw[pV];obtain⟨z0,z1,z2,y0,y1,y2⟩:=F8.out.box.cells;obtain⟨r0,r1,r2,_,_,_⟩:=(F8.out.box.set (n':=false) (s':=⟨#[]⟩) (x':=0)).cells;go_wp2;refine bodyPost_ret (v:=.tuple #[.agg #[.bool false,.string ⟨#[]⟩,.int .i64 0],.int .i64 10]) (by simp[results,Tryz.results156,go_sem,r0,r1,r2]) rfl ⟨by rw[fH.out];rfl,?_⟩;iterate 3 refine Below.setCell ?_ (by show w.heap.size<=w.heap.size;omega) _
      exact F8.out.below
     obtain⟨pn,pw,gy,pV,xq⟩:=ld true wh fr R2 eS;rw[pV];have kJ:=aa (hSplit.out.trans gy);have ve:-1000000<=gw pn pw/\gw pn pw<=1000000:=by unfold gw;split<;>omega
     obtain⟨v,hv⟩:∃v,gw pn pw=v:=⟨_,rfl⟩
     rw[hv]at ve ⊢;obtain⟨Eu,Et⟩:=ve;by_cases eX:512<L.length
     ·have fH:=aa (show aS L=(false,⟨#[]⟩,0,2)by unfold aS;rw[kJ.out];exact if_pos eX)
      have kG:(512:Int)<L.length:=by omega
      clear gy pV;obtain⟨z0,z1,z2,y0,y1,y2⟩:=F8.out.box.cells;obtain⟨r0,r1,r2,_,_,_⟩:=(F8.out.box.set (n':=false) (s':=⟨#[]⟩) (x':=0)).cells;go_wp2;refine bodyPost_ret (v:=.tuple #[.agg #[.bool false,.string ⟨#[]⟩,.int .i64 0],.int .i64 2]) (by simp[results,Tryz.results156,go_sem,r0,r1,r2]) rfl ⟨by rw[fH.out];rfl,?_⟩;iterate 3 refine Below.setCell ?_ (by show w.heap.size<=w.heap.size;omega) _
      exact F8.out.below
     have fH:=aa (show aS L=cg true (bo wh++bo fr) (v-(fr).length)by unfold aS;rw[kJ.out,<-hv];exact if_neg eX);have kG:¬(512:Int)<L.length:=by omega
     have lu:=aa (show aj wh++aj fr=cf (bo wh++bo fr)by rw[ip wh xi.out,ip fr Me.out,fN]);have Fc:=aa (show pi (bo wh++bo fr)from fun x hx=>by
      rcases List.mem_append.1 hx with q|q
      ·exact du _ xi.out x q
      exact du _ Me.out x q)
     have vt:=aa (show(bo wh++bo fr).length<=100000 by rw[List.length_append,fO,fO];omega);have PV:∀w,(Op.stringOp .add (aj wh) (aj fr)).run prog w=.ok (.string (cf (bo wh++bo fr))) w:=fun w=>by rw[<-lu.out];exact run_string_add_sum w _ _ (by rw[ag,ag];omega)
     obtain⟨fb,fs,fx,fe,fA⟩:∃fb fs fx fe,cg true (bo wh++bo fr) (v-(fr).length)=(fb,fs,fx,fe):=⟨_,_,_,_,rfl⟩
     have HF:=aa fA;rw[fA]at fH;have pW:=fJ _ _ _ fA;clear fA gy pV hv;go_wp2_with fail
     go_fit(iV true (bo wh++bo fr) (v-(fr).length) _ Fc.out vt.out (by omega) (by omega));rw[HF.out];rintro e w9 ⟨rfl,qa⟩;have F9:=aa (F8.out.then qa);simp only[wG];rcases pW with rfl|⟨rfl,rfl,rfl,rfl⟩
     ·obtain⟨z0,z1,z2,y0,y1,y2⟩:=(F9.out.box.alloc (.cells #[.bool fb,.string fs,.int .i64 fx] 27)).cells
      obtain⟨t0,t1,t2,_,_,_⟩:=(aV w9 fb fs fx).cells;obtain⟨r0,r1,r2,_,_,_⟩:=((F9.out.box.alloc (.cells #[.bool fb,.string fs,.int .i64 fx] 27)).set (n':=fb) (s':=fs) (x':=fx)).cells;go_wp2;refine bodyPost_ret (v:=.tuple #[.agg #[.bool fb,.string fs,.int .i64 fx],.int .i64 0]) (by simp[results,Tryz.results156,go_sem,r0,r1,r2]) rfl ⟨by rw[fH.out];rfl,?_⟩;iterate 3 refine Below.setCell ?_ (by show w.heap.size<=w.heap.size;omega) _
      exact ab F9.out.below
     obtain⟨z0,z1,z2,y0,y1,y2⟩:=(F9.out.box.alloc (.cells #[.bool false,.string ⟨#[]⟩,.int .i64 0] 27)).cells;obtain⟨r0,r1,r2,_,_,_⟩:=((F9.out.box.alloc (.cells #[.bool false,.string ⟨#[]⟩,.int .i64 0] 27)).set (n':=false) (s':=⟨#[]⟩) (x':=0)).cells;go_wp2;refine bodyPost_ret (v:=.tuple #[.agg #[.bool false,.string ⟨#[]⟩,.int .i64 0],.int .i64 2]) (by simp[results,Tryz.results156,go_sem,r0,r1,r2]) rfl ⟨by rw[fH.out];rfl,?_⟩;iterate 3 refine Below.setCell ?_ (by show w.heap.size<=w.heap.size;omega) _
     exact ab F9.out.below
    have fH:=aa (show aS L=(false,⟨#[]⟩,0,10)by unfold aS;rw[sV.out.trans (if_pos fA)]);rw[fA]at mf;clear fA;obtain⟨z0,z1,z2,y0,y1,y2⟩:=F7.out.box.cells;obtain⟨r0,r1,r2,_,_,_⟩:=(F7.out.box.set (n':=false) (s':=⟨#[]⟩) (x':=0)).cells;go_wp2;refine bodyPost_ret (v:=.tuple #[.agg #[.bool false,.string ⟨#[]⟩,.int .i64 0],.int .i64 10]) (by simp[results,Tryz.results156,go_sem,r0,r1,r2]) rfl ⟨by rw[fH.out];rfl,?_⟩;iterate 3 refine Below.setCell ?_ (by show w.heap.size<=w.heap.size;omega) _
    exact F7.out.below
 have fH:=aa (show aS L=(false,⟨#[]⟩,0,10)by unfold aS;rw[Gl.out.trans (if_pos hbad)]);cases aQ:wh.isEmpty
 ·rw[aQ]at me
  have sK:0<wh.length:=by
   cases wh with
   |nil=>cases aQ
   |cons=>simp
  have aq:1<wh.length/\wh.head?=some 48:=by
   unfold lA at hbad;rw[aQ]at hbad
   simpa using hbad
  have kX:((aj wh)[0]'(by omega))=48:=by
   cases wh with
   |nil=>cases aQ
   |cons c r=>
    have:=bG c r (by omega);rw[this];have:=aq.2
    simpa using this
  have hw0i:(0:Int)<(aj wh).size:=by omega
  have hw1i:(1:Int)<(wh.length:Int):=by omega
  clear hbad;obtain⟨z0,z1,z2,y0,y1,y2⟩:=F5.out.box.cells;obtain⟨r0,r1,r2,_,_,_⟩:=(F5.out.box.set (n':=false) (s':=⟨#[]⟩) (x':=0)).cells;go_wp2;refine bodyPost_ret (v:=.tuple #[.agg #[.bool false,.string ⟨#[]⟩,.int .i64 0],.int .i64 10]) (by simp[results,Tryz.results156,go_sem,r0,r1,r2]) rfl ⟨by rw[fH.out];rfl,?_⟩;iterate 3 refine Below.setCell ?_ (by show w.heap.size<=w.heap.size;omega) _
  exact F5.out.below
 rw[aQ]at me;clear hbad aQ;obtain⟨z0,z1,z2,y0,y1,y2⟩:=F5.out.box.cells;obtain⟨r0,r1,r2,_,_,_⟩:=(F5.out.box.set (n':=false) (s':=⟨#[]⟩) (x':=0)).cells;go_wp2;refine bodyPost_ret (v:=.tuple #[.agg #[.bool false,.string ⟨#[]⟩,.int .i64 0],.int .i64 10]) (by simp[results,Tryz.results156,go_sem,r0,r1,r2]) rfl ⟨by rw[fH.out];rfl,?_⟩;iterate 3 refine Below.setCell ?_ (by show w.heap.size<=w.heap.size;omega) _
 exact F5.out.below
theorem wD(w:World):Calls prog 156 #[.string (aj [])] w fun e w'=>e=ji (aS [])/\Below w.heap.size w w':=by
 have he:aj []=⟨#[]⟩:=rfl;rw[he];have F0:=aa (tj w);have fH:=aa (show aS []=(false,⟨#[]⟩,0,10)from rfl);go_enter func156,ntmps156;go_wp2_with fail
 go_fit(fk ⟨#[]⟩ _ (by show 0<=_;omega));rintro e w5 ⟨rfl,bg⟩;have F5:=aa (F0.out.then bg);clear bg;rw[show aj ((bl ⟨#[]⟩).takeWhile isDig)=⟨#[]⟩from rfl,show aj ((bl ⟨#[]⟩).dropWhile isDig)=⟨#[]⟩from rfl];obtain⟨z0,z1,z2,y0,y1,y2⟩:=F5.out.box.cells;obtain⟨r0,r1,r2,_,_,_⟩:=(F5.out.box.set (n':=false) (s':=⟨#[]⟩) (x':=0)).cells;go_wp2;refine bodyPost_ret (v:=.tuple #[.agg #[.bool false,.string ⟨#[]⟩,.int .i64 0],.int .i64 10]) (by simp[results,Tryz.results156,go_sem,r0,r1,r2]) rfl ⟨by rw[fH.out];rfl,?_⟩;iterate 3 refine Below.setCell ?_ (by show w.heap.size<=w.heap.size;omega) _
 exact F5.out.below
theorem uu(b:UInt8)(r:List UInt8)(w:World)(hl:(b::r).length<=80000)(hb:dV 45 (b::r)=false):Calls prog 156 #[.string (aj (b::r))] w fun e w'=>e=ji (aS (b::r))/\Below w.heap.size w w':=by
 have cC:(aj (b::r)).size=(b::r).length:=ag _;have tT:((b.toNat:Int)==45)=false:=by
  cases hq:((b.toNat:Int)==45)
  ·rfl
  have q:b.toNat=45:=by have:=eq_of_beq hq;omega
  have:b=45:=UInt8.toNat_inj.1 q;subst this;cases hb
 have Id:0<(b::r).length:=by rw[List.length_cons];omega
 have Hy:aC 45 (b::r)=b::r:=by unfold aC;rw[hb];rfl
 have vk:∃hs:0<(aj (b::r)).size,(aj (b::r))[0]'hs=b:=⟨by omega,bG b r _⟩
 obtain⟨L,hL⟩:∃L,b::r=L:=⟨_,rfl⟩
 rw[hL]at cC hb Id Hy vk hl ⊢;clear hL;obtain⟨ow,dG⟩:=vk;have Gl:Hid (dv L=if lA (L.takeWhile isDig) then none
   else if dV 46 (L.dropWhile isDig) then (if ((aC 46 (L.dropWhile isDig)).takeWhile isDig).isEmpty then none else aY false (L.takeWhile isDig) ((aC 46 (L.dropWhile isDig)).takeWhile isDig) ((aC 46 (L.dropWhile isDig)).dropWhile isDig))
   else aY false (L.takeWhile isDig) [] (L.dropWhile isDig)):=by
  unfold Hid dv;rw[Hy,hb]
 have h0:(0:Int)<(aj L).size:=by omega
 have Qs:(0:Int)<L.length:=by omega
 have F0:=aa (tj w);clear hb Hy;go_enter func156,ntmps156;go_wp2_with fail
 go_fit(fk (aj L) _ (by rw[ag];omega));rw[ah];rintro e w5 ⟨rfl,bg⟩;have F5:=aa (F0.out.then bg);clear bg;have lw:=az L;have lr:=aB L;have xi:=aa (jx L);obtain⟨wh,bR⟩:∃wh,L.takeWhile isDig=wh:=⟨_,rfl⟩
 obtain⟨R1,qO⟩:∃R1,L.dropWhile isDig=R1:=⟨_,rfl⟩
 rw[bR,qO]at Gl;rw[bR]at lw xi;rw[qO]at lr;rw[bR,qO];have me:=bM wh;have sw:(aj wh).size=wh.length:=ag wh;have s1:(aj R1).size=R1.length:=ag R1;clear bR qO;cases hbad:lA wh
 ·-- the whole part is as it should be
  have xK:=aa (Gl.out.trans (if_neg (by rw[hbad];simp)));have aQ:wh.isEmpty=false:=by
   cases hq:wh.isEmpty
   ·rfl
   unfold lA at hbad;rw[hq]at hbad;simp at hbad
  rw[aQ]at me;have sK:0<wh.length:=by
   cases wh with
   |nil=>cases aQ
   |cons=>simp
  have hlead:¬(1<wh.length/\((aj wh)[0]'(by omega)).toNat=48):=by
   rintro⟨q1,q2⟩;have hh:wh.head?=some 48:=by
    cases wh with
    |nil=>cases aQ
    |cons c r=>
     have:=bG c r (by omega);rw[this]at q2;have:c=48:=UInt8.toNat_inj.1 q2;rw[this];rfl
   unfold lA at hbad;rw[hh]at hbad;simp[q1]at hbad
  have hw0i:(0:Int)<(aj wh).size:=by omega
  obtain⟨q0,kX⟩:∃q0:Nat,((aj wh)[0]'(by omega)).toNat=q0:=⟨_,rfl⟩
  rw[kX]at hlead;have aT:((1:Int)<(wh.length:Int)/\((q0:Int)==48)=false)\/¬(1:Int)<(wh.length:Int):=by
   by_cases q:1<wh.length
   ·left
    refine⟨by omega,?_⟩;have:q0≠48:=fun e=>hlead ⟨q,e⟩;simp;omega
   right;omega
  clear hbad hlead;cases hdot:dV 46 R1
  ·-- no point
   have hSplit:=aa (xK.out.trans (if_neg (by rw[hdot];simp)));obtain⟨R2,mv⟩:∃R2,R1=R2:=⟨_,rfl⟩
   rw[mv]at hSplit hdot s1 lr ⊢;clear mv;have F7:=F5;cases R2 with
   |nil=>
    have he:aj []=⟨#[]⟩:=rfl;rw[he];rcases aT with⟨a1,a2⟩|a1
    all_goals
     go_wp2_with fail
     go_fit(pE _);rintro e w8 ⟨rfl,jr⟩;have F8:=aa (F7.out.then jr);clear jr;have kJ:=aa (hSplit.out.trans (show aY false wh [] []=some (false,wh,[],false,[])from rfl));obtain⟨v,hv⟩:∃v:Int,gw false []=v:=⟨_,rfl⟩
     have nd:(0:Int)=v:=hv;rw[nd];have Eu:-1000000<=v:=by omega
     have Et:v<=1000000:=by omega
     clear nd;by_cases eX:512<L.length
     ·have fH:=aa (show aS L=(false,⟨#[]⟩,0,2)by unfold aS;rw[kJ.out];exact if_pos eX)
      have kG:(512:Int)<L.length:=by omega
      skip
      obtain⟨z0,z1,z2,y0,y1,y2⟩:=F8.out.box.cells;obtain⟨r0,r1,r2,_,_,_⟩:=(F8.out.box.set (n':=false) (s':=⟨#[]⟩) (x':=0)).cells;go_wp2;refine bodyPost_ret (v:=.tuple #[.agg #[.bool false,.string ⟨#[]⟩,.int .i64 0],.int .i64 2]) (by simp[results,Tryz.results156,go_sem,r0,r1,r2]) rfl ⟨by rw[fH.out];rfl,?_⟩;iterate 3 refine Below.setCell ?_ (by show w.heap.size<=w.heap.size;omega) _
      exact F8.out.below
     have fH:=aa (show aS L=cg false (bo wh) v by unfold aS;rw[kJ.out,<-hv];refine(if_neg eX).trans ?_;simp[bo]);have kG:¬(512:Int)<L.length:=by omega
     have lu:=aa (show aj wh++⟨#[]⟩=cf (bo wh)by rw[ip wh xi.out,<-oY,fN,List.append_nil]);have Fc:=aa (du _ xi.out);have vt:=aa (show(bo wh).length<=100000 by rw[fO];omega);have PV:∀w,(Op.stringOp .add (aj wh) ⟨#[]⟩).run prog w=.ok (.string (cf (bo wh))) w:=fun w=>by rw[<-lu.out];exact run_string_add_sum w _ _ (by rw[ag];show _+0<=_;omega)
     obtain⟨fb,fs,fx,fe,fA⟩:∃fb fs fx fe,cg false (bo wh) v=(fb,fs,fx,fe):=⟨_,_,_,_,rfl⟩
     have HF:=aa fA;rw[fA]at fH;have pW:=fJ _ _ _ fA;clear fA;go_wp2_with fail
     go_fit(iV false (bo wh) v _ Fc.out vt.out (by omega) (by omega));rw[HF.out];rintro e w9 ⟨rfl,qa⟩;have F9:=aa (F8.out.then qa);simp only[wG];rcases pW with rfl|⟨rfl,rfl,rfl,rfl⟩
     ·obtain⟨z0,z1,z2,y0,y1,y2⟩:=(F9.out.box.alloc (.cells #[.bool fb,.string fs,.int .i64 fx] 27)).cells
      obtain⟨t0,t1,t2,_,_,_⟩:=(aV w9 fb fs fx).cells;obtain⟨r0,r1,r2,_,_,_⟩:=((F9.out.box.alloc (.cells #[.bool fb,.string fs,.int .i64 fx] 27)).set (n':=fb) (s':=fs) (x':=fx)).cells;go_wp2;refine bodyPost_ret (v:=.tuple #[.agg #[.bool fb,.string fs,.int .i64 fx],.int .i64 0]) (by simp[results,Tryz.results156,go_sem,r0,r1,r2]) rfl ⟨by rw[fH.out];rfl,?_⟩;iterate 3 refine Below.setCell ?_ (by show w.heap.size<=w.heap.size;omega) _
      exact ab F9.out.below
     obtain⟨z0,z1,z2,y0,y1,y2⟩:=(F9.out.box.alloc (.cells #[.bool false,.string ⟨#[]⟩,.int .i64 0] 27)).cells;obtain⟨r0,r1,r2,_,_,_⟩:=((F9.out.box.alloc (.cells #[.bool false,.string ⟨#[]⟩,.int .i64 0] 27)).set (n':=false) (s':=⟨#[]⟩) (x':=0)).cells;go_wp2;refine bodyPost_ret (v:=.tuple #[.agg #[.bool false,.string ⟨#[]⟩,.int .i64 0],.int .i64 2]) (by simp[results,Tryz.results156,go_sem,r0,r1,r2]) rfl ⟨by rw[fH.out];rfl,?_⟩;iterate 3 refine Below.setCell ?_ (by show w.heap.size<=w.heap.size;omega) _
     exact ab F9.out.below
   |cons c r=>
    have pZ:c.toNat≠46:=by intro q;have:c=46:=UInt8.toNat_inj.1 q;subst this;cases hdot
    have lX:0<(aj (c::r)).size:=by rw[s1];simp
    have xB:=bG c r lX;have Eq:(0:Int)<((c::r).length:Int):=by rw[List.length_cons];omega
    have Tn:((c.toNat:Int)==46)=false:=by simp;omega
    obtain⟨R2,mv⟩:∃R2,c::r=R2:=⟨_,rfl⟩
    have vk:∃hs:0<(aj (c::r)).size,(aj (c::r))[0]'hs=c:=⟨lX,xB⟩
    clear xB hdot pZ lX;rw[mv]at hSplit s1 lr Eq vk ⊢;clear mv;obtain⟨lX,xB⟩:=vk;rcases aT with⟨a1,a2⟩|a1
    all_goals
     go_wp2_with fail
     go_fit(mP R2 _ (by omega));rintro e w8 ⟨rfl,jr⟩;have F8:=aa (F7.out.then jr);clear jr;cases eS:(lx R2).2
     ·obtain⟨gy,pV⟩:=li false wh [] R2 eS
      have fH:=aa (show aS L=(false,⟨#[]⟩,0,10)by unfold aS;rw[hSplit.out,gy]);rw[pV];obtain⟨z0,z1,z2,y0,y1,y2⟩:=F8.out.box.cells;obtain⟨r0,r1,r2,_,_,_⟩:=(F8.out.box.set (n':=false) (s':=⟨#[]⟩) (x':=0)).cells;go_wp2;refine bodyPost_ret (v:=.tuple #[.agg #[.bool false,.string ⟨#[]⟩,.int .i64 0],.int .i64 10]) (by simp[results,Tryz.results156,go_sem,r0,r1,r2]) rfl ⟨by rw[fH.out];rfl,?_⟩;iterate 3 refine Below.setCell ?_ (by show w.heap.size<=w.heap.size;omega) _
      exact F8.out.below
     obtain⟨pn,pw,gy,pV,xq⟩:=ld false wh [] R2 eS;rw[pV];have kJ:=aa (hSplit.out.trans gy);have ve:-1000000<=gw pn pw/\gw pn pw<=1000000:=by unfold gw;split<;>omega
     obtain⟨v,hv⟩:∃v,gw pn pw=v:=⟨_,rfl⟩
     rw[hv]at ve ⊢;obtain⟨Eu,Et⟩:=ve;by_cases eX:512<L.length
     ·have fH:=aa (show aS L=(false,⟨#[]⟩,0,2)by unfold aS;rw[kJ.out];exact if_pos eX)
      have kG:(512:Int)<L.length:=by omega
      clear gy pV;obtain⟨z0,z1,z2,y0,y1,y2⟩:=F8.out.box.cells;obtain⟨r0,r1,r2,_,_,_⟩:=(F8.out.box.set (n':=false) (s':=⟨#[]⟩) (x':=0)).cells;go_wp2;refine bodyPost_ret (v:=.tuple #[.agg #[.bool false,.string ⟨#[]⟩,.int .i64 0],.int .i64 2]) (by simp[results,Tryz.results156,go_sem,r0,r1,r2]) rfl ⟨by rw[fH.out];rfl,?_⟩;iterate 3 refine Below.setCell ?_ (by show w.heap.size<=w.heap.size;omega) _
      exact F8.out.below
     have fH:=aa (show aS L=cg false (bo wh) v by unfold aS;rw[kJ.out,<-hv];refine(if_neg eX).trans ?_;simp[bo]);have kG:¬(512:Int)<L.length:=by omega
     have lu:=aa (show aj wh++⟨#[]⟩=cf (bo wh)by rw[ip wh xi.out,<-oY,fN,List.append_nil]);have Fc:=aa (du _ xi.out);have vt:=aa (show(bo wh).length<=100000 by rw[fO];omega);have PV:∀w,(Op.stringOp .add (aj wh) ⟨#[]⟩).run prog w=.ok (.string (cf (bo wh))) w:=fun w=>by rw[<-lu.out];exact run_string_add_sum w _ _ (by rw[ag];show _+0<=_;omega)
     obtain⟨fb,fs,fx,fe,fA⟩:∃fb fs fx fe,cg false (bo wh) v=(fb,fs,fx,fe):=⟨_,_,_,_,rfl⟩
     have HF:=aa fA;rw[fA]at fH;have pW:=fJ _ _ _ fA;clear fA gy pV hv;go_wp2_with fail
     go_fit(iV false (bo wh) v _ Fc.out vt.out (by omega) (by omega));rw[HF.out];rintro e w9 ⟨rfl,qa⟩;have F9:=aa (F8.out.then qa);simp only[wG];rcases pW with rfl|⟨rfl,rfl,rfl,rfl⟩
     ·obtain⟨z0,z1,z2,y0,y1,y2⟩:=(F9.out.box.alloc (.cells #[.bool fb,.string fs,.int .i64 fx] 27)).cells
      obtain⟨t0,t1,t2,_,_,_⟩:=(aV w9 fb fs fx).cells;obtain⟨r0,r1,r2,_,_,_⟩:=((F9.out.box.alloc (.cells #[.bool fb,.string fs,.int .i64 fx] 27)).set (n':=fb) (s':=fs) (x':=fx)).cells;go_wp2;refine bodyPost_ret (v:=.tuple #[.agg #[.bool fb,.string fs,.int .i64 fx],.int .i64 0]) (by simp[results,Tryz.results156,go_sem,r0,r1,r2]) rfl ⟨by rw[fH.out];rfl,?_⟩;iterate 3 refine Below.setCell ?_ (by show w.heap.size<=w.heap.size;omega) _
      exact ab F9.out.below
     obtain⟨z0,z1,z2,y0,y1,y2⟩:=(F9.out.box.alloc (.cells #[.bool false,.string ⟨#[]⟩,.int .i64 0] 27)).cells;obtain⟨r0,r1,r2,_,_,_⟩:=((F9.out.box.alloc (.cells #[.bool false,.string ⟨#[]⟩,.int .i64 0] 27)).set (n':=false) (s':=⟨#[]⟩) (x':=0)).cells;go_wp2;refine bodyPost_ret (v:=.tuple #[.agg #[.bool false,.string ⟨#[]⟩,.int .i64 0],.int .i64 2]) (by simp[results,Tryz.results156,go_sem,r0,r1,r2]) rfl ⟨by rw[fH.out];rfl,?_⟩;iterate 3 refine Below.setCell ?_ (by show w.heap.size<=w.heap.size;omega) _
     exact ab F9.out.below
  -- a point
  have sV:=aa (xK.out.trans (if_pos hdot));cases R1 with
  |nil=>cases hdot
  |cons c Z=>
   have hc:c=46:=by
    have:=eq_of_beq hdot
    simpa using this
   subst hc;have Hy:aC 46 (46::Z)=Z:=rfl;rw[Hy]at sV;have lX:0<(aj (46::Z)).size:=by rw[s1,List.length_cons];omega
   have xB:=bG 46 Z lX;have hextZ:=mW 46 Z;have PD:(46::Z).length=Z.length+1:=List.length_cons;rw[PD]at s1 lr;obtain⟨R1,qO⟩:∃R1,46::Z=R1:=⟨_,rfl⟩
   have vk:∃hs:0<(aj (46::Z)).size,(aj (46::Z))[0]'hs=46:=⟨lX,xB⟩
   clear xB hdot lX Hy PD xK Gl;rw[qO]at s1 vk hextZ ⊢;clear qO;obtain⟨lX,xB⟩:=vk;have Eq:(0:Int)<(aj R1).size:=by omega
   have Sf:(1:Int)<=(aj R1).size:=by omega
   rcases aT with⟨a1,a2⟩|a1
   all_goals
    go_wp2_with fail
    go_fit(fk (aj Z) _ (by rw[ag];omega));rw[ah];rintro e w6 ⟨rfl,da⟩;have F7:=aa (F5.out.then da);clear da;have lf:=az Z;have lg:=aB Z;have Me:=aa (jx Z);obtain⟨fr,dL⟩:∃fr,Z.takeWhile isDig=fr:=⟨_,rfl⟩
    obtain⟨R2,mv⟩:∃R2,Z.dropWhile isDig=R2:=⟨_,rfl⟩
    rw[dL,mv]at sV;rw[dL]at lf Me;rw[mv]at lg;rw[dL,mv];have mf:=bM fr;have sf:(aj fr).size=fr.length:=ag fr;have s2:(aj R2).size=R2.length:=ag R2;clear dL mv;cases fA:fr.isEmpty
    ·have hSplit:=aa (sV.out.trans (if_neg (by rw[fA];simp)))
     rw[fA]at mf;clear fA;go_wp2_with fail
     go_fit(mP R2 _ (by omega));rintro e w8 ⟨rfl,jr⟩;have F8:=aa (F7.out.then jr);clear jr;cases eS:(lx R2).2
     ·obtain⟨gy,pV⟩:=li false wh fr R2 eS
      have fH:=aa (show aS L=(false,⟨#[]⟩,0,10)by unfold aS;rw[hSplit.out,gy]);rw[pV];obtain⟨z0,z1,z2,y0,y1,y2⟩:=F8.out.box.cells;obtain⟨r0,r1,r2,_,_,_⟩:=(F8.out.box.set (n':=false) (s':=⟨#[]⟩) (x':=0)).cells;go_wp2;refine bodyPost_ret (v:=.tuple #[.agg #[.bool false,.string ⟨#[]⟩,.int .i64 0],.int .i64 10]) (by simp[results,Tryz.results156,go_sem,r0,r1,r2]) rfl ⟨by rw[fH.out];rfl,?_⟩;iterate 3 refine Below.setCell ?_ (by show w.heap.size<=w.heap.size;omega) _
      exact F8.out.below
     obtain⟨pn,pw,gy,pV,xq⟩:=ld false wh fr R2 eS;rw[pV];have kJ:=aa (hSplit.out.trans gy);have ve:-1000000<=gw pn pw/\gw pn pw<=1000000:=by unfold gw;split<;>omega
     obtain⟨v,hv⟩:∃v,gw pn pw=v:=⟨_,rfl⟩
     rw[hv]at ve ⊢;obtain⟨Eu,Et⟩:=ve;by_cases eX:512<L.length
     ·have fH:=aa (show aS L=(false,⟨#[]⟩,0,2)by unfold aS;rw[kJ.out];exact if_pos eX)
      have kG:(512:Int)<L.length:=by omega
      clear gy pV;obtain⟨z0,z1,z2,y0,y1,y2⟩:=F8.out.box.cells;obtain⟨r0,r1,r2,_,_,_⟩:=(F8.out.box.set (n':=false) (s':=⟨#[]⟩) (x':=0)).cells;go_wp2;refine bodyPost_ret (v:=.tuple #[.agg #[.bool false,.string ⟨#[]⟩,.int .i64 0],.int .i64 2]) (by simp[results,Tryz.results156,go_sem,r0,r1,r2]) rfl ⟨by rw[fH.out];rfl,?_⟩;iterate 3 refine Below.setCell ?_ (by show w.heap.size<=w.heap.size;omega) _
      exact F8.out.below
     have fH:=aa (show aS L=cg false (bo wh++bo fr) (v-(fr).length)by unfold aS;rw[kJ.out,<-hv];exact if_neg eX);have kG:¬(512:Int)<L.length:=by omega
     have lu:=aa (show aj wh++aj fr=cf (bo wh++bo fr)by rw[ip wh xi.out,ip fr Me.out,fN]);have Fc:=aa (show pi (bo wh++bo fr)from fun x hx=>by
      rcases List.mem_append.1 hx with q|q
      ·exact du _ xi.out x q
      exact du _ Me.out x q)
     have vt:=aa (show(bo wh++bo fr).length<=100000 by rw[List.length_append,fO,fO];omega);have PV:∀w,(Op.stringOp .add (aj wh) (aj fr)).run prog w=.ok (.string (cf (bo wh++bo fr))) w:=fun w=>by rw[<-lu.out];exact run_string_add_sum w _ _ (by rw[ag,ag];omega)
     obtain⟨fb,fs,fx,fe,fA⟩:∃fb fs fx fe,cg false (bo wh++bo fr) (v-(fr).length)=(fb,fs,fx,fe):=⟨_,_,_,_,rfl⟩
     have HF:=aa fA;rw[fA]at fH;have pW:=fJ _ _ _ fA;clear fA gy pV hv;go_wp2_with fail
     go_fit(iV false (bo wh++bo fr) (v-(fr).length) _ Fc.out vt.out (by omega) (by omega));rw[HF.out];rintro e w9 ⟨rfl,qa⟩;have F9:=aa (F8.out.then qa);simp only[wG];rcases pW with rfl|⟨rfl,rfl,rfl,rfl⟩
     ·obtain⟨z0,z1,z2,y0,y1,y2⟩:=(F9.out.box.alloc (.cells #[.bool fb,.string fs,.int .i64 fx] 27)).cells
      obtain⟨t0,t1,t2,_,_,_⟩:=(aV w9 fb fs fx).cells;obtain⟨r0,r1,r2,_,_,_⟩:=((F9.out.box.alloc (.cells #[.bool fb,.string fs,.int .i64 fx] 27)).set (n':=fb) (s':=fs) (x':=fx)).cells;go_wp2;refine bodyPost_ret (v:=.tuple #[.agg #[.bool fb,.string fs,.int .i64 fx],.int .i64 0]) (by simp[results,Tryz.results156,go_sem,r0,r1,r2]) rfl ⟨by rw[fH.out];rfl,?_⟩;iterate 3 refine Below.setCell ?_ (by show w.heap.size<=w.heap.size;omega) _
      exact ab F9.out.below
     obtain⟨z0,z1,z2,y0,y1,y2⟩:=(F9.out.box.alloc (.cells #[.bool false,.string ⟨#[]⟩,.int .i64 0] 27)).cells;obtain⟨r0,r1,r2,_,_,_⟩:=((F9.out.box.alloc (.cells #[.bool false,.string ⟨#[]⟩,.int .i64 0] 27)).set (n':=false) (s':=⟨#[]⟩) (x':=0)).cells;go_wp2;refine bodyPost_ret (v:=.tuple #[.agg #[.bool false,.string ⟨#[]⟩,.int .i64 0],.int .i64 2]) (by simp[results,Tryz.results156,go_sem,r0,r1,r2]) rfl ⟨by rw[fH.out];rfl,?_⟩;iterate 3 refine Below.setCell ?_ (by show w.heap.size<=w.heap.size;omega) _
     exact ab F9.out.below
    have fH:=aa (show aS L=(false,⟨#[]⟩,0,10)by unfold aS;rw[sV.out.trans (if_pos fA)]);rw[fA]at mf;clear fA;obtain⟨z0,z1,z2,y0,y1,y2⟩:=F7.out.box.cells;obtain⟨r0,r1,r2,_,_,_⟩:=(F7.out.box.set (n':=false) (s':=⟨#[]⟩) (x':=0)).cells;go_wp2;refine bodyPost_ret (v:=.tuple #[.agg #[.bool false,.string ⟨#[]⟩,.int .i64 0],.int .i64 10]) (by simp[results,Tryz.results156,go_sem,r0,r1,r2]) rfl ⟨by rw[fH.out];rfl,?_⟩;iterate 3 refine Below.setCell ?_ (by show w.heap.size<=w.heap.size;omega) _
    exact F7.out.below
 have fH:=aa (show aS L=(false,⟨#[]⟩,0,10)by unfold aS;rw[Gl.out.trans (if_pos hbad)]);cases aQ:wh.isEmpty
 ·rw[aQ]at me
  have sK:0<wh.length:=by
   cases wh with
   |nil=>cases aQ
   |cons=>simp
  have aq:1<wh.length/\wh.head?=some 48:=by
   unfold lA at hbad;rw[aQ]at hbad
   simpa using hbad
  have kX:((aj wh)[0]'(by omega))=48:=by
   cases wh with
   |nil=>cases aQ
   |cons c r=>
    have:=bG c r (by omega);rw[this];have:=aq.2
    simpa using this
  have hw0i:(0:Int)<(aj wh).size:=by omega
  have hw1i:(1:Int)<(wh.length:Int):=by omega
  clear hbad;obtain⟨z0,z1,z2,y0,y1,y2⟩:=F5.out.box.cells;obtain⟨r0,r1,r2,_,_,_⟩:=(F5.out.box.set (n':=false) (s':=⟨#[]⟩) (x':=0)).cells;go_wp2;refine bodyPost_ret (v:=.tuple #[.agg #[.bool false,.string ⟨#[]⟩,.int .i64 0],.int .i64 10]) (by simp[results,Tryz.results156,go_sem,r0,r1,r2]) rfl ⟨by rw[fH.out];rfl,?_⟩;iterate 3 refine Below.setCell ?_ (by show w.heap.size<=w.heap.size;omega) _
  exact F5.out.below
 rw[aQ]at me;clear hbad aQ;obtain⟨z0,z1,z2,y0,y1,y2⟩:=F5.out.box.cells;obtain⟨r0,r1,r2,_,_,_⟩:=(F5.out.box.set (n':=false) (s':=⟨#[]⟩) (x':=0)).cells;go_wp2;refine bodyPost_ret (v:=.tuple #[.agg #[.bool false,.string ⟨#[]⟩,.int .i64 0],.int .i64 10]) (by simp[results,Tryz.results156,go_sem,r0,r1,r2]) rfl ⟨by rw[fH.out];rfl,?_⟩;iterate 3 refine Below.setCell ?_ (by show w.heap.size<=w.heap.size;omega) _
 exact F5.out.below
theorem wE(l:List UInt8)(w:World)(hl:l.length<=80000):Calls prog 156 #[.string (aj l)] w fun e w'=>e=ji (aS l)/\Below w.heap.size w w':=by
 cases l with
 |nil=>exact wD w
 |cons b r=>
  cases hb:dV 45 (b::r)
  ·exact uu b r w hl hb
  have hc:b=45:=by
   have:=eq_of_beq hb
   simpa using this
  subst hc;exact rU r w (by rw[List.length_cons]at hl;omega)
