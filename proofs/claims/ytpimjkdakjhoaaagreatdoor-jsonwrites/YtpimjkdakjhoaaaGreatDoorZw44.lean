/- Merged by program: LgRead, LhEval, LiEx, LiAwake. -/
import Derived.Test.YtpimjkdakjhoaaaGreatDoorZw43
import Derived.Test.YtpimjkdakjhoaaaGreatDoorZw38
import Derived.Lib.SlBytesConst
namespace Go.Proofs.YtpimjkdakjhoaaaGreatDoor
open Go.RowKit
set_option linter.unusedSimpArgs false
set_option linter.unusedVariables false
set_option maxHeartbeats 8000000
section
variable {w : World} {ops : Array Oper} {rest : List Oper} {o : Oper} {a : Act} {Q : Exit → Act → World → Prop}
theorem app_ee (hgd:o.guard=none) (s x:Operand) (ho:o.op=.call {callee:=.builtin .append,args:=#[s,x],argTypes:=#[45,45]})
  (B:Nat) (v:Value) (es:List Hd) (hs:a.eval s=v) (hown:w.ownsRow B 74 7 v es.length (ecs es)) (u:Value) (B':Nat) (fs:List Hd) (hx:a.eval x=u) (hu:w.ownsRow B' 74 7 u fs.length (ecs fs)) (hk:es.length + fs.length≤3000000) (hB:B≤w.heap.size)
  (h:∀ v' w',Hid (w'.ownsRow B 74 7 v' (es.length + fs.length) (ecs (es++fs)))→Hid (Below B w w')→wpList Tryz.prog ops Q rest (a.put o.dst v') w'):wpList Tryz.prog ops Q (o :: rest) a w:=by
 obtain ⟨i0,hi,hz0,hz1,hz2⟩:=info_parts infoE
 rcases id hu.2 with ⟨hu0,e0⟩|⟨g,cap,cur,hu0,_⟩
 ·have hf:fs=[]:=List.eq_nil_of_length_eq_zero (by rw [←e0])
  subst hf
  refine wpList_plain hgd fun K hK=>?_
  have hr:=run_append_owned_none (P:=Tryz.prog) w B 45 o.type 74 i0 7 Tryz.underlying45 hi v es.length (ecs es) hown
  rw [hu0] at hx
  unfold Oper.wp execOp
  simp only [ho,resolve,invoke,builtin,Sem.run_bind,Sem.run_pure,Result.andThen_ok,List.map_toArray,List.map_cons,List.map_nil,hs,hx,hr]
  exact hK _ _ (h v w (show w.ownsRow _ _ _ _ _ _ by simpa using hown) (Below.refl _ _))
 ·rw [hu0] at hx hu
  refine wpList_append_own_at w hgd s x 45 ho B 74 i0 _ 7 72 Tryz.underlying45 hi hz0 hz1 hz2 rfl (by decide) v es.length (ecs es) hs hown ⟨g,0,none⟩ fs.length cap (ecs fs) hx (by rw [ecs_len]) (row_news hu) (ecs_cell _) (by unfold maxLen;omega) (by omega) hB ?_
  intro v' w' h1 h2 _ _
  rw [←ecs_app] at h1
  exact h v' w' h1 ((Below.refl B w).grown h2 hB fun k hk=>(World.ownsRow.lt hown k hk).1)
end
def zV:Array Value:=#[.int .i64 0,.bool false,.bool false,.string ⟨#[]⟩,.int .i64 0,.int .u64 0,.string ⟨#[]⟩,.slice none 0 0,.slice none 0 0]
def readS (l:List UInt8):Sum Int (List Hd):=bnd (feedS st0 l) fun x=>bnd (finS {x with told:=[]}) fun y=>.inr (x.told++y.told)
def RR (w:World) (o:Sum Int (List Hd)) (e:Ending) (w':World):Prop :=
 Below w.heap.size w w'∧match o with
 | .inl E=>e=.returned (.tuple #[.agg zV,.int .i64 E])
 | .inr es=>∃ y E,e=.returned (.tuple #[.agg y,.int .i64 E])∧(E≠0→y=zV)∧(doneS (runE es)=false→E≠0)∧(doneS (runE es)=true→∃ x:VT es.length,es=fl es.length x∧IsV es.length x∧Sz es.length x∧(E=0↔Win es.length x)∧(E=0→∃ ns ls s f,y=vals (vhd es.length x) ns ls∧w.heap.size≤s∧KR es.length w' x ns ls s f))
theorem Wf.t0 {st:St} (h:Wf st):Wf {st with told:=[]}:=⟨⟨h.wk.k1,h.wk.k11,h.wk.b1,h.wk.b11⟩,h.dig,h.n,h.tot⟩
theorem es_own {W:World} {B:Nat} {v:Value} {es:List Hd} (h:W.ownsRow B 74 7 v es.length (ecs es)):ES W v es:=by
 rcases id h.2 with ⟨rfl,e⟩|⟨g,cap,cur,rfl,_⟩
 ·have:es=[]:=List.eq_nil_of_length_eq_zero e
  subst this
  exact ES.nil W
 ·exact ES.row h rfl
def set9 (w:World) (k:Nat) (h:Hd) (ns ls:Value):World:=((((((((w.setCell ⟨k,0,none⟩ (.int .i64 h.kind)).setCell ⟨k,1,none⟩ (.bool h.flag)).setCell ⟨k,2,none⟩ (.bool h.neg)).setCell ⟨k,3,none⟩ (.string h.dig)).setCell ⟨k,4,none⟩ (.int .i64 h.exp)).setCell ⟨k,5,none⟩ (.int .u64 h.bits)).setCell ⟨k,6,none⟩ (.string h.text)).setCell ⟨k,7,none⟩ ns).setCell ⟨k,8,none⟩ ls
theorem bx_set9 {w:World} {k:Nat} {h0:Hd} {n0 l0:Value} (hb:Bx w k h0 n0 l0) (h:Hd) (ns ls:Value):Bx (set9 w k h ns ls) k h ns ls∧But k w (set9 w k h ns ls):=by
 constructor
 ·have h1:=blk_set hb.at_ 0 (.int .i64 h.kind)
  simp [vals] at h1
  have h2:=blk_set h1 1 (.bool h.flag)
  simp at h2
  have h3:=blk_set h2 2 (.bool h.neg)
  simp at h3
  have h4:=blk_set h3 3 (.string h.dig)
  simp at h4
  have h5:=blk_set h4 4 (.int .i64 h.exp)
  simp at h5
  have h6:=blk_set h5 5 (.int .u64 h.bits)
  simp at h6
  have h7:=blk_set h6 6 (.string h.text)
  simp at h7
  have h8:=blk_set h7 7 ns
  simp at h8
  have h9:=blk_set h8 8 ls
  simp at h9
  exact ⟨h9⟩
 ·exact (((((((((But.refl k w).set 0 _).set 1 _).set 2 _).set 3 _).set 4 _).set 5 _).set 6 _).set 7 _).set 8 _
theorem Bx.lt' {w:World} {k:Nat} {h:Hd} {ns ls:Value} (hb:Bx w k h ns ls):k<w.heap.size:=(Array.getElem?_eq_some_iff.1 hb.at_).1
theorem build_p (v:Value) (es:List Hd) (w:World) (hv:ES w v es) (hs:es.length≤199000) (hz:∀ e∈es,EvZ e) (g:Ut.Gu w) :
  Calls Tryz.prog 20 #[v] w fun e w'=>Below w.heap.size w w'∧∃ h a1 m1 d1 a2 m2 d2 E,e=.returned (.tuple #[.agg (vals h (.slice a1 m1 d1) (.slice a2 m2 d2)),.int .i64 E])∧(E≠0→vals h (.slice a1 m1 d1) (.slice a2 m2 d2)=zV)∧(doneS (runE es)=false→E≠0) ∧
   (doneS (runE es)=true→∃ x:VT es.length,es=fl es.length x∧IsV es.length x∧Sz es.length x∧(E=0↔Win es.length x)∧(E=0→h=vhd es.length x∧∃ s f,w.heap.size≤s∧KR es.length w' x (.slice a1 m1 d1) (.slice a2 m2 d2) s f)):=by
 refine (Build_es v es w hv hs hz g).mono ?_
 rintro e w' ⟨hb,y,E,rfl,h1,h2,h3⟩
 refine ⟨hb,?_⟩
 by_cases hE:E=0
 ·have hd:doneS (runE es)=true:=by
   cases hq:doneS (runE es) with
   | true=>rfl
   | false=>exact absurd hE (h2 hq)
  obtain ⟨x,k1,k2,k3,k4,k5⟩:=h3 hd
  obtain ⟨ns,ls,s,f,rfl,k6,k7⟩:=k5 hE
  obtain ⟨a1,m1,d1,a2,m2,d2,rfl,rfl⟩:=k7.rd.shape
  exact ⟨_,a1,m1,d1,a2,m2,d2,E,rfl,fun q=>absurd hE q,fun q=>(by rw [hd] at q;cases q),fun _=>⟨x,k1,k2,k3,k4,fun _=>⟨rfl,s,f,k6,k7⟩⟩⟩
 ·have hy:=h1 hE
  subst hy
  exact ⟨zr 0,none,0,0,none,0,0,E,rfl,fun _=>rfl,h2,fun hd=>by
   obtain ⟨x,k1,k2,k3,k4,k5⟩:=h3 hd
   exact ⟨x,k1,k2,k3,k4,fun q=>absurd q hE⟩⟩
set_option maxRecDepth 100000 in
theorem read_r (w:World) (va:Option Addr) (vc:Nat) (l:List UInt8) (hs:∀ m,SB w w.heap.size m (.slice va l.length vc) l) (gu:Ut.Gu w) (h8:8≤w.heap.size) (hlen:∀ es,readS l=.inr es→es.length≤199000∧∀ e∈es,EvZ e) :
  Calls Tryz.prog 15 #[.slice va l.length vc] w fun e w'=>RR w (readS l) e w':=by
 obtain ⟨w0,hw0⟩:∃ w0,w0=w.alloc (.cells (vals (zr 0) (.slice none 0 0) (.slice none 0 0)) 29):=⟨_,rfl⟩
 have B0:Below w.heap.size w w0:=by rw [hw0];exact below_al (Below.refl _ _)
 have X0:Hid (Bx w0 w.heap.size (zr 0) (.slice none 0 0) (.slice none 0 0)):=⟨by rw [hw0];exact heap_alloc_last _ _⟩
 have z0:w0.heap.size=w.heap.size + 1:=by rw [hw0];simp
 obtain ⟨k,hk⟩:∃ k,w.heap.size=k:=⟨_,rfl⟩
 have N:Hid (Calls Tryz.prog 16 #[] (w.alloc (.cells (vals (zr 0) (.slice none 0 0) (.slice none 0 0)) 29)) fun e w'=>∃ r g m,e=.returned (.pointer (some ⟨r,0,none⟩))∧RM w' r g m st0∧Below w0.heap.size w0 w'∧g.lo=w0.heap.size):=by
  rw [←hw0]
  refine (new_r w0 (gu.below B0) (by omega)).mono ?_
  rintro e w' ⟨r,g,m,h1,h2,h3,h4,_⟩
  exact ⟨r,g,m,h1,h2,h3,h4⟩
 have FD:=hide (fun w1 r g m (h:RM w1 r g m st0) (hb:Below w0.heap.size w0 w1) (hg:g.lo=w0.heap.size)=>feed_r h st0_wf (v:=.slice va l.length vc) (l:=l) (by
  have:=(hs m)
  refine ⟨this.shape,this.len,fun hl=>?_⟩
  obtain ⟨b,o,c,h1,h2,h3⟩:=this.rd hl
  have hlt:b<w.heap.size:=by
   have:=h2 0 hl
   unfold World.cell? at this
   by_cases q:b<w.heap.size
   ·exact q
   ·rw [Array.getElem?_eq_none (by simpa using q)] at this;cases this
  exact ⟨b,o,c,h1,fun j hj=>by rw [←h2 j hj,World.cell?_of_block (w:=w0) (hb.block b (by omega))];exact World.cell?_of_block (w:=w) (B0.block b hlt),Or.inl (by rw [hg];omega)⟩))
 have wf:=fun x (hx:feedS st0 l=.inr x)=>(feedS_wf st0_wf hx).t0
 have her:=fun E (hx:feedS st0 l=.inl E)=>(feed_er hx).ne
 have B0':=hide B0
 have z0':=hide z0
 have hk':=hide hk
 rw [hk] at X0
 clear hs gu h8 z0 B0 hw0
 unfold readS at hlen ⊢
 generalize feedS st0 l=o at FD wf her hlen ⊢
 simp only [vals,zr] at N
 cases o with
 | inl E =>
  have hE:=her E rfl
  have e0:(E != 0)=true:=by simpa using hE
  clear her wf hlen hE
  simp only [bnd]
  go_enter Tryz.func15, Tryz.ntmps15
  go_wp2_with (first
   | (go_at_call 16;refine N.out.mono ?_;rintro e w1 ⟨r,g,m,rfl,hp1,hp2,hp3⟩;have M1:=hide hp1;have B1:=hide hp2;have G1:=hide hp3;clear hp1 hp2 hp3)
   | (go_at_call 18;refine (FD.out _ _ _ _ M1.out B1.out G1.out).mono ?_;rintro e w2 ⟨hp1,rfl,_⟩;have B2:Hid (Below w0.heap.size w0 w2):=B1.out.trans (G1.out ▸ hp1.below);clear hp1;have X2:Hid (Bx w2 k (zr 0) (.slice none 0 0) (.slice none 0 0)):=⟨(B2.out.block k (by have:=z0'.out;have:=hk'.out;omega)).trans X0.out.at_⟩;have x2:=X2.out.cells;simp only [zr] at x2;obtain ⟨c0,c1,c2,c3,c4,c5,c6,c7,c8⟩:=x2;have fz:=X2.out.frz;have kl:=X2.out.lt'))
  have Q:=bx_set9 X2.out (zr 0) (.slice none 0 0) (.slice none 0 0)
  obtain ⟨Z,hZ⟩:∃ Z,set9 w2 k (zr 0) (.slice none 0 0) (.slice none 0 0)=Z:=⟨_,rfl⟩
  rw [hZ] at Q
  simp only [set9,zr] at hZ
  rw [hZ]
  obtain ⟨Q1,Q2⟩:=Q
  obtain ⟨y0,y1,y2,y3,y4,y5,y6,y7,y8⟩:=Q1.cells
  simp only [zr] at y0 y1 y2 y3 y4 y5 y6 y7 y8
  refine bodyPost_ret (v:=.tuple #[.agg #[.int .i64 0,.bool false,.bool false,.string ⟨#[]⟩,.int .i64 0,.int .u64 0,.string ⟨#[]⟩,.slice none 0 0,.slice none 0 0],.int .i64 E]) (by simp [results,Tryz.results15,go_sem,y0,y1,y2,y3,y4,y5,y6,y7,y8]) rfl ⟨?_,rfl⟩
  exact (below_then B0'.out B2.out).trans (Q2.below (by rw [hk'.out];exact Nat.le_refl _))
 | inr x =>
  have hwf:=wf x rfl
  have FD2:Hid (∀ w1 r g m,RM w1 r g m st0→Below w0.heap.size w0 w1→g.lo=w0.heap.size→Calls Tryz.prog 18 #[.pointer (some ⟨r,0,none⟩),.slice va l.length vc] w1 fun e w'=>∃ a n c m',e=.returned (.tuple #[.slice a n c,.int .i64 0])∧RF g m w1 w'∧RM w' r g m' {x with told:=[]}∧m'.told=.slice none 0 0∧w'.ownsRow (r + 1) 74 7 (.slice a n c) x.told.length (ecs x.told)):=fun w1 r g m a1 a2 a3=>(FD.out w1 r g m a1 a2 a3).mono (by
   intro e w' hp
   obtain ⟨h1,m',v,rfl,h2,h3,h4,h5,h6⟩:=hp
   rcases id h5.2 with ⟨rfl,_⟩|⟨g',cap,cur,rfl,_⟩
   ·exact ⟨_,_,_,m',rfl,h1,h2,h4,h5⟩
   ·exact ⟨_,_,_,m',rfl,h1,h2,h4,h5⟩)
  have EN:=hide (fun w2 r g m (h:RM w2 r g m {x with told:=[]})=>endl_r h hwf)
  have her2:=fun E (hx:finS {x with told:=[]}=.inl E)=>(fin_er hx).ne
  clear FD wf her hwf
  simp only [bnd] at hlen ⊢
  generalize finS {x with told:=[]}=o2 at EN her2 hlen ⊢
  cases o2 with
  | inl E =>
   have hE:=her2 E rfl
   have e0:(E != 0)=true:=by simpa using hE
   clear her2 hlen hE
   simp only
   go_enter Tryz.func15, Tryz.ntmps15
   go_wp2_with (first
    | (go_at_call 16;refine N.out.mono ?_;rintro e w1 ⟨r,g,m,rfl,hp1,hp2,hp3⟩;have M1:=hide hp1;have B1:=hide hp2;have G1:=hide hp3;clear hp1 hp2 hp3)
    | (go_at_call 18;refine (FD2.out _ _ _ _ M1.out B1.out G1.out).mono ?_;rintro e w2 ⟨va2,vn2,vc2,m2,rfl,hp1,hp2,hp3,hp4⟩;have B2:Hid (Below w0.heap.size w0 w2):=B1.out.trans (G1.out ▸ hp1.below);have M2:=hide hp2;have T2:=hide hp3;have V2:=hide hp4;clear hp1 hp2 hp3 hp4)
    | (go_at_call 19;refine (EN.out _ _ _ _ M2.out).mono ?_;rintro e w3 ⟨hp1,rfl,_⟩;have B3:Hid (Below w0.heap.size w0 w3):=B2.out.trans (G1.out ▸ hp1.below);clear hp1;have X3:Hid (Bx w3 k (zr 0) (.slice none 0 0) (.slice none 0 0)):=⟨(B3.out.block k (by have:=z0'.out;have:=hk'.out;omega)).trans X0.out.at_⟩;have x3:=X3.out.cells;simp only [zr] at x3;obtain ⟨c0,c1,c2,c3,c4,c5,c6,c7,c8⟩:=x3;have fz:=X3.out.frz;have kl:=X3.out.lt'))
   have Q:=bx_set9 X3.out (zr 0) (.slice none 0 0) (.slice none 0 0)
   obtain ⟨Z,hZ⟩:∃ Z,set9 w3 k (zr 0) (.slice none 0 0) (.slice none 0 0)=Z:=⟨_,rfl⟩
   rw [hZ] at Q
   simp only [set9,zr] at hZ
   rw [hZ]
   obtain ⟨Q1,Q2⟩:=Q
   obtain ⟨y0,y1,y2,y3,y4,y5,y6,y7,y8⟩:=Q1.cells
   simp only [zr] at y0 y1 y2 y3 y4 y5 y6 y7 y8
   refine bodyPost_ret (v:=.tuple #[.agg #[.int .i64 0,.bool false,.bool false,.string ⟨#[]⟩,.int .i64 0,.int .u64 0,.string ⟨#[]⟩,.slice none 0 0,.slice none 0 0],.int .i64 E]) (by simp [results,Tryz.results15,go_sem,y0,y1,y2,y3,y4,y5,y6,y7,y8]) rfl ⟨?_,rfl⟩
   exact (below_then B0'.out B3.out).trans (Q2.below (by rw [hk'.out];exact Nat.le_refl _))
  | inr y =>
   clear her2
   obtain ⟨hl1,hl2⟩:=hlen _ rfl
   have EN2:Hid (∀ w2 r g m vl,RM w2 r g m {x with told:=[]}→m.told=.slice none 0 0→w2.ownsRow (r + 1) 74 7 vl x.told.length (ecs x.told)→Calls Tryz.prog 19 #[.pointer (some ⟨r,0,none⟩)] w2 fun e w'=>∃ a n c,e=.returned (.tuple #[.slice a n c,.int .i64 0])∧RF g m w2 w'∧w'.ownsRow (r + 1) 74 7 vl x.told.length (ecs x.told)∧w'.ownsRow (r + 1) 74 7 (.slice a n c) y.told.length (ecs y.told)):=fun w2 r g m vl a1 a2 a3=>(EN.out w2 r g m a1).mono (by
    intro e w' hp
    obtain ⟨h1,v,rfl,h2,h3,h4⟩:=hp
    have k3:w'.ownsRow (r + 1) 74 7 vl x.told.length (ecs x.told):=own_of a3 fun q hq _=>by
     obtain ⟨c,f,hc⟩:=own_blk a3 hq
     rw [h1.blk hc ⟨ty_ne hc a1.word (by decide),ty_ne hc a1.held (by decide),by rw [a2];intro e;cases e⟩ (by decide) (by decide) (by decide) (by decide) (by decide) (by decide),hc]
    rcases id h3.2 with ⟨rfl,_⟩|⟨g',cap,cur,rfl,_⟩
    ·exact ⟨_,_,_,rfl,h1,k3,h3⟩
    ·exact ⟨_,_,_,rfl,h1,k3,h3⟩)
   have BU:=hide (fun w4 v (hv:ES w4 v (x.told++y.told)) (g:Ut.Gu w4)=>build_p v (x.told++y.told) w4 hv hl1 hl2 g)
   have hl1':=hide hl1
   clear EN hlen hl1 hl2
   simp only
   go_enter Tryz.func15, Tryz.ntmps15
   go_wp2_with (first
    | (go_at_call 16;refine N.out.mono ?_;rintro e w1 ⟨r,g,m,rfl,hp1,hp2,hp3⟩;have M1:=hide hp1;have B1:=hide hp2;have G1:=hide hp3;clear hp1 hp2 hp3)
    | (go_at_call 18;refine (FD2.out _ _ _ _ M1.out B1.out G1.out).mono ?_;rintro e w2 ⟨va2,vn2,vc2,m2,rfl,hp1,hp2,hp3,hp4⟩;have B2:Hid (Below w0.heap.size w0 w2):=B1.out.trans (G1.out ▸ hp1.below);have M2:=hide hp2;have T2:=hide hp3;have V2:=hide hp4;clear hp1 hp2 hp3 hp4)
    | (go_at_call 19;refine (EN2.out _ _ _ _ _ M2.out T2.out V2.out).mono ?_;rintro e w3 ⟨va3,vn3,vc3,rfl,hp1,hp2,hp3⟩;have B3:Hid (Below w0.heap.size w0 w3):=B2.out.trans (G1.out ▸ hp1.below);have U3:=hide hp2;have V3:=hide hp3;have GU:Hid (Ut.Gu w3):=Gu.low M2.out.gu hp1.below M2.out.gk.low;have r3:Hid (r + 1≤w3.heap.size):=(by have:=M2.out.lt;have:=hp1.below.size;show r + 1≤w3.heap.size;omega);have gl:Hid (8≤r + 1):=(by have:=M2.out.gk.loR;have:=M2.out.gk.low;show 8≤r + 1;omega);have rk:Hid (k<r + 1):=(by have:=M2.out.gk.loR;have:=G1.out;have:=z0'.out;have:=hk'.out;show k<r + 1;omega);clear hp1 hp2 hp3)
    | (at_builtin;refine Sto.out ?_))
   refine Sto.mk ?_
   refine app_ee rfl (.tmp 28) (.tmp 29) rfl (r + 1) _ x.told rfl U3.out _ (r + 1) y.told rfl V3.out (by have:=hl1'.out;rw [List.length_append] at this;omega) r3.out ?_
   intro v' w4 ho hb4
   have es4:ES w4 v' (x.told++y.told):=es_own (by have:=ho.out;rw [←List.length_append] at this;exact this)
   have B4:Hid (Below w0.heap.size w0 w4):=B3.out.trans (hb4.out.mono (by have:=G1.out;have:=M2.out.gk.loR;omega))
   have BB:=hide (BU.out w4 v' es4 (Gu.low GU.out hb4.out gl.out))
   obtain ⟨a4,c4',hv4,_⟩:=es4
   obtain ⟨nn,hnn⟩:∃ nn,(x.told++y.told).length=nn:=⟨_,rfl⟩
   rw [hnn] at hv4
   subst hv4
   clear hnn
   have k4:k<w4.heap.size:=by have:=hb4.out.size;have:=r3.out;have:=rk.out;omega
   have X4:Hid (Bx w4 k (zr 0) (.slice none 0 0) (.slice none 0 0)):=⟨(B4.out.block k (by have:=z0'.out;have:=hk'.out;omega)).trans X0.out.at_⟩
   clear BU ho hb4 N FD2 EN2
   go_wp2_with (go_at_call 20;refine Sto.out ?_)
   refine Sto.mk (BB.out.mono ?_)
   rintro e w5 ⟨hp1,h5,a1,n1,d1,a2,n2,d2,E5,rfl,hp2,hp3,hp4⟩
   simp only [vals]
   have B5:=hide hp1
   have P2:=hide hp2
   have P3:=hide hp3
   have P4:=hide hp4
   clear hp1 hp2 hp3 hp4
   have X5:Hid (Bx w5 k (zr 0) (.slice none 0 0) (.slice none 0 0)):=⟨(B5.out.block k k4).trans X4.out.at_⟩
   have x5:=X5.out.cells
   simp only [zr] at x5
   obtain ⟨c0,c1,c2,c3,c4,c5,c6,c7,c8⟩:=x5
   have fz:=X5.out.frz
   have kl:=X5.out.lt'
   go_wp2_with fail
   have Q:=bx_set9 X5.out h5 (.slice a1 n1 d1) (.slice a2 n2 d2)
   obtain ⟨Z,hZ⟩:∃ Z,set9 w5 k h5 (.slice a1 n1 d1) (.slice a2 n2 d2)=Z:=⟨_,rfl⟩
   rw [hZ] at Q
   simp only [set9] at hZ
   rw [hZ]
   obtain ⟨Q1,Q2⟩:=Q
   obtain ⟨y0,y1,y2,y3,y4,y5,y6,y7,y8⟩:=Q1.cells
   refine bodyPost_ret (v:=.tuple #[.agg #[.int .i64 h5.kind,.bool h5.flag,.bool h5.neg,.string h5.dig,.int .i64 h5.exp,.int .u64 h5.bits,.string h5.text,.slice a1 n1 d1,.slice a2 n2 d2],.int .i64 E5]) (by simp [results,Tryz.results15,go_sem,y0,y1,y2,y3,y4,y5,y6,y7,y8]) rfl ⟨?_,vals h5 (.slice a1 n1 d1) (.slice a2 n2 d2),E5,rfl,P2.out,P3.out,fun hd=>?_⟩
   ·exact ((below_then B0'.out B4.out).trans (B5.out.mono (by have:=hk'.out;omega))).trans (Q2.below (by rw [hk'.out];exact Nat.le_refl _))
   ·obtain ⟨z,q1,q2,q3,q4,q5⟩:=P4.out hd
    refine ⟨z,q1,q2,q3,q4,fun hE=>?_⟩
    obtain ⟨rfl,s,f,q6,q7⟩:=q5 hE
    have hw4:=B4.out.size
    have hz0:=z0'.out
    refine ⟨_,_,s,f,rfl,by omega,q7.move (by rw [Q2.size];exact q7.2.1) fun j h1 h2=>Q2.blk j (by omega)⟩
def exA:List UInt8:=[32,91,49,44,32,50,46,48,101,49,32,44,34,92,117,48,48,101,57,92,117,100,56,51,100,92,117,100,101,48,48,34,93,32]
def exB:List UInt8:=[91,49,44,93]
def exC:List UInt8:=[91,91,91,91,91,91,91,91,91,91,91,91,91,91,91,91,91,93,93,93,93,93,93,93,93,93,93,93,93,93,93,93,93,93]
def exE:List Hd:=[zr 7,{zr 3 with dig:=⟨#[49]⟩},{zr 3 with dig:=⟨#[50]⟩,exp:=1},{zr 5 with text:=⟨#[195,169,240,159,152,128]⟩},zr 11]
set_option maxRecDepth 100000 in
theorem exA_rd:readS exA=.inr exE:=by kernel_rfl
set_option maxRecDepth 100000 in
theorem exB_rd:readS exB=.inl 70:=by kernel_rfl
set_option maxRecDepth 100000 in
theorem exC_rd:readS exC=.inl 2:=by kernel_rfl
def jrT:VT 2:=({zr 8 with names:=[⟨#[36,120]⟩]},[null1])
def jbT:VT 1:=({zr 6 with text:=⟨#[0,255]⟩},[])
def jv1:VT 4:=({zr 3 with dig:=⟨#[49]⟩},[])
def jv2:VT 4:=({zr 3 with dig:=⟨#[50]⟩,exp:=1},[])
def jv3:VT 4:=({zr 5 with text:=⟨#[195,169,240,159,152,128]⟩},[])
def jvT:VT 5:=(zr 7,[jv1,jv2,jv3])
theorem ex_three {α:Type} {a b c:α} {p:α→Prop} (h1:p a) (h2:p b) (h3:p c):∀ y∈[a,b,c],p y:=by
 intro y hy
 simp only [List.mem_cons,List.not_mem_nil,or_false] at hy
 rcases hy with rfl|rfl|rfl
 ·exact h1
 ·exact h2
 ·exact h3
theorem jr_isv:IsV 2 jrT:=⟨⟨(show (1:Int)≤8 by decide),(show (8:Int)≤9 by decide),rfl,Or.inl (show (7:Int)≤8 by decide)⟩,⟨fun h=>(by cases h),fun h=>(by cases h),fun _=>⟨rfl,ex_one (by decide),by decide⟩,fun h=>(by cases h)⟩,ex_one isv_null1⟩
theorem jr_sht:Sht 2 jrT:=⟨(show (0:Int)≤4096 by decide),(show 1≤256 by decide),ex_one (show 2≤64 by decide),ex_one ex_sht1⟩
theorem jr_chk:Chk 2 jrT 0:=Or.inr (Or.inr ⟨rfl,jr_isv,jr_sht,(show 2≤16 by decide),(show 2≤4096 by decide)⟩)
theorem jr_sz:Sz 2 jrT:=⟨by decide,by decide,by decide,ex_one (by decide),ex_one ex_sz1⟩
theorem null_rg:Rg 1 null1:=⟨by decide,by decide,fun y hy=>(by cases hy)⟩
theorem jr_rg:Rg 2 jrT:=⟨by decide,by decide,ex_one null_rg⟩
theorem jb_isv:IsV 1 jbT:=⟨⟨(show (1:Int)≤6 by decide),(show (6:Int)≤9 by decide),rfl,Or.inr rfl⟩,⟨fun h=>(by cases h),fun h=>(by cases h),fun h=>(by cases h),fun h=>(by cases h)⟩,fun y hy=>(by cases hy)⟩
theorem jb_sht:Sht 1 jbT:=⟨(show (2:Int)≤4096 by decide),(show 0≤256 by decide),fun s hs=>(by cases hs),fun y hy=>(by cases hy)⟩
theorem jb_chk:Chk 1 jbT 0:=Or.inr (Or.inr ⟨rfl,jb_isv,jb_sht,(show 1≤16 by decide),(show 1≤4096 by decide)⟩)
theorem jb_sz:Sz 1 jbT:=⟨by decide,by decide,by decide,fun s hs=>(by cases hs),fun y hy=>(by cases hy)⟩
theorem jb_rg:Rg 1 jbT:=⟨by decide,by decide,fun y hy=>(by cases hy)⟩
theorem jv1_isv:IsV 4 jv1:=⟨⟨(show (1:Int)≤3 by decide),(show (3:Int)≤9 by decide),rfl,Or.inr rfl⟩,⟨fun _=>by decide,fun h=>(by cases h),fun h=>(by cases h),fun h=>(by cases h)⟩,fun y hy=>(by cases hy)⟩
theorem jv2_isv:IsV 4 jv2:=⟨⟨(show (1:Int)≤3 by decide),(show (3:Int)≤9 by decide),rfl,Or.inr rfl⟩,⟨fun _=>by decide,fun h=>(by cases h),fun h=>(by cases h),fun h=>(by cases h)⟩,fun y hy=>(by cases hy)⟩
theorem jv3_isv:IsV 4 jv3:=⟨⟨(show (1:Int)≤5 by decide),(show (5:Int)≤9 by decide),rfl,Or.inr rfl⟩,⟨fun h=>(by cases h),fun _=>by decide,fun h=>(by cases h),fun h=>(by cases h)⟩,fun y hy=>(by cases hy)⟩
theorem jv_isv:IsV 5 jvT:=⟨⟨(show (1:Int)≤7 by decide),(show (7:Int)≤9 by decide),rfl,Or.inl (show (7:Int)≤7 by decide)⟩,⟨fun h=>(by cases h),fun h=>(by cases h),fun h=>(by cases h),fun h=>(by cases h)⟩,ex_three jv1_isv jv2_isv jv3_isv⟩
theorem jv_sht1:Sht 4 jv1:=⟨(show (0:Int)≤4096 by decide),(show 0≤256 by decide),fun s hs=>(by cases hs),fun y hy=>(by cases hy)⟩
theorem jv_sht2:Sht 4 jv2:=⟨(show (0:Int)≤4096 by decide),(show 0≤256 by decide),fun s hs=>(by cases hs),fun y hy=>(by cases hy)⟩
theorem jv_sht3:Sht 4 jv3:=⟨(show (6:Int)≤4096 by decide),(show 0≤256 by decide),fun s hs=>(by cases hs),fun y hy=>(by cases hy)⟩
theorem jv_win:Win 5 jvT:=⟨⟨(show (0:Int)≤4096 by decide),(show 3≤256 by decide),fun s hs=>(by cases hs),ex_three jv_sht1 jv_sht2 jv_sht3⟩,(show 2≤16 by decide),(show 4≤4096 by decide)⟩
theorem jv_fl:exE=fl 5 jvT:=rfl
theorem jv_done:doneS (runE exE)=true:=by rw [jv_fl,runE_fl 5 jvT jv_isv];rfl
theorem exE_z:∀ e∈exE,EvZ e:=by
 intro e he
 simp only [exE,List.mem_cons,List.not_mem_nil,or_false] at he
 rcases he with rfl|rfl|rfl|rfl|rfl <;> exact ⟨by decide,by decide,rfl⟩
set_option maxRecDepth 100000 in
theorem jr_tx:jtx 2 jrT=[123,34,36,36,120,34,58,110,117,108,108,125]:=by kernel_rfl
set_option maxRecDepth 100000 in
theorem jb_tx:jtx 1 jbT=[123,34,36,98,121,116,101,115,34,58,34,48,48,102,102,34,125]:=by kernel_rfl
theorem rd_jr {W:World} {a b:Nat} (ha:W.heap[a]?=some (.cells #[.string ⟨#[36,120]⟩] 9 (0,0))) (hb:W.heap[b]?=some (.cells (vals (zr 1) (.slice none 0 0) (.slice none 0 0)) 29 (0,0))):RD 2 W jrT (.slice (some ⟨a,0,none⟩) 1 1) (.slice (some ⟨b,0,none⟩) 1 1):=by
 have la:=(Array.getElem?_eq_some_iff.1 ha).1
 have lb:=(Array.getElem?_eq_some_iff.1 hb).1
 refine ⟨Or.inr ⟨a,0,1,none,rfl,Nat.le_refl _,by decide,fun _=>⟨rfl,la⟩,fun i hi=>?_⟩,Or.inr ⟨b,0,1,none,rfl,Nat.le_refl _,by decide,fun _=>⟨rfl,lb⟩,fun i hi=>?_⟩⟩
 ·have hi0:i=0:=by have:i<1:=hi;omega
  subst hi0
  unfold World.cell?;rw [ha];rfl
 ·have hi0:i=0:=by have:i<1:=hi;omega
  subst hi0
  exact ⟨.slice none 0 0,.slice none 0 0,range_block hb [] _ [] rfl,⟨Or.inl ⟨rfl,rfl⟩,Or.inl ⟨rfl,rfl⟩⟩⟩
theorem wr_r (w:World) (gu:Ut.Gu w) (ht:Tab w.heap.size w) (W:World) (hb:Below w.heap.size w W) {a b:Nat} (ha:W.heap[a]?=some (.cells #[.string ⟨#[36,120]⟩] 9 (0,0))) (hb2:W.heap[b]?=some (.cells (vals (zr 1) (.slice none 0 0) (.slice none 0 0)) 29 (0,0))) :
  Calls Tryz.prog 10 #[.agg (vals (vhd 2 jrT) (.slice (some ⟨a,0,none⟩) 1 1) (.slice (some ⟨b,0,none⟩) 1 1))] W fun e w'=>∃ p m c,e=.returned (.tuple #[.slice p m c,.int .i64 0])∧Below W.heap.size W w'∧Own w' W.heap.size (.slice p m c) (jtx 2 jrT) :=
 (jwrite_any 2 jrT _ _ W ⟨rd_jr ha hb2,jr_sz,(show 2≤200000 by decide)⟩ jr_rg (gu.below hb) (Tab.up (ht.on hb) hb.size) 0 jr_chk).mono (by
  rintro e w' ⟨h1,_,h3⟩
  obtain ⟨p,m,c,h4,h5⟩:=(h3 rfl).1 (by rw [jr_tx];decide)
  exact ⟨p,m,c,h4,h1,h5⟩)
theorem wr_b (w:World) (gu:Ut.Gu w) (ht:Tab w.heap.size w) (W:World) (hb:Below w.heap.size w W) :
  Calls Tryz.prog 10 #[.agg (vals (vhd 1 jbT) (.slice none 0 0) (.slice none 0 0))] W fun e w'=>∃ p m c,e=.returned (.tuple #[.slice p m c,.int .i64 0])∧Below W.heap.size W w'∧Own w' W.heap.size (.slice p m c) (jtx 1 jbT) :=
 (jwrite_any 1 jbT _ _ W ⟨⟨Or.inl ⟨rfl,rfl⟩,Or.inl ⟨rfl,rfl⟩⟩,jb_sz,(show 1≤200000 by decide)⟩ jb_rg (gu.below hb) (Tab.up (ht.on hb) hb.size) 0 jb_chk).mono (by
  rintro e w' ⟨h1,_,h3⟩
  obtain ⟨p,m,c,h4,h5⟩:=(h3 rfl).1 (by rw [jb_tx];decide)
  exact ⟨p,m,c,h4,h1,h5⟩)
def cb (l:List UInt8):Array Value:=(l.map fun c=>Value.int .u8 (c.toNat:Int)).toArray
theorem rd_const (w:World) (gu:Ut.Gu w) (h8:8≤w.heap.size) (W:World) (hb:Below w.heap.size w W) (l:List UInt8) (fr:Nat×Nat) (hl:l.length≤100000) (hlen:∀ es,readS l=.inr es→es.length≤199000∧∀ e∈es,EvZ e) :
  Calls Tryz.prog 15 #[.slice (some ⟨W.heap.size,0,none⟩) l.length l.length] (W.alloc (.cells (cb l) 5 fr)) fun e w'=>RR (W.alloc (.cells (cb l) 5 fr)) (readS l) e w':=by
 have hB:Below w.heap.size w (W.alloc (.cells (cb l) 5 fr)):=below_then hb (below_al (Below.refl _ _))
 refine read_r _ _ _ l (fun m=>⟨⟨_,_,rfl⟩,by omega,fun _=>⟨W.heap.size,0,l.length,rfl,fun j hj=>?_,Or.inl (by simp)⟩⟩) (gu.below hB) (Nat.le_trans h8 hB.size) hlen
 unfold World.cell?
 rw [heap_alloc_last]
 simp [cb,hj]
theorem rd_a (w:World) (gu:Ut.Gu w) (h8:8≤w.heap.size) (W:World) (hb:Below w.heap.size w W) (fr:Nat×Nat) :
  Calls Tryz.prog 15 #[.slice (some ⟨W.heap.size,0,none⟩) exA.length exA.length] (W.alloc (.cells (cb exA) 5 fr)) fun e w'=>∃ a1 m1 d1 b o c s f,e=.returned (.tuple #[.agg (vals (zr 7) (.slice a1 m1 d1) (.slice (some ⟨b,o,none⟩) 3 c)),.int .i64 0])∧Below W.heap.size W w'∧KR 5 w' jvT (.slice a1 m1 d1) (.slice (some ⟨b,o,none⟩) 3 c) s f:=by
 refine (rd_const w gu h8 W hb exA fr (by decide) (fun es h=>by rw [exA_rd] at h;cases h;exact ⟨by decide,exE_z⟩)).mono ?_
 intro e w' hp
 rw [exA_rd] at hp
 obtain ⟨h1,y,E,rfl,_,_,h4⟩:=hp
 obtain ⟨x,k1,k2,_,k4,k5⟩:=h4 jv_done
 have hx:x=jvT:=(fl_inj 5 x jvT k2 jv_isv [] [] (by rw [List.append_nil,List.append_nil,←jv_fl];exact k1.symm)).1
 subst hx
 have hE:E=0:=k4.2 jv_win
 obtain ⟨ns,ls,s,f,rfl,_,k7⟩:=k5 hE
 obtain ⟨r1,r2⟩:=k7.rd
 obtain ⟨a1,m1,d1,a2,m2,d2,rfl,rfl⟩:=k7.rd.shape
 rcases r2 with ⟨_,h0⟩|⟨b,o,c,sp,hls,_,_,hsp,_⟩
 ·cases h0
 ·obtain ⟨rfl,_⟩:=hsp (show 0<3 by decide)
  rw [hls] at k7 ⊢
  subst hE
  exact ⟨a1,m1,d1,b,o,c,s,f,rfl,below_then (below_al (Below.refl _ _)) h1,k7⟩
theorem rd_e (w:World) (gu:Ut.Gu w) (h8:8≤w.heap.size) (W:World) (hb:Below w.heap.size w W) (fr:Nat×Nat) (l:List UInt8) (hl:l.length≤100000) (E:Int) (hE:readS l=.inl E) :
  Calls Tryz.prog 15 #[.slice (some ⟨W.heap.size,0,none⟩) l.length l.length] (W.alloc (.cells (cb l) 5 fr)) fun e w'=>e=.returned (.tuple #[.agg zV,.int .i64 E])∧Below W.heap.size W w':=by
 refine (rd_const w gu h8 W hb l fr hl (fun es h=>by rw [hE] at h;cases h)).mono ?_
 intro e w' hp
 rw [hE] at hp
 exact ⟨hp.2,below_then (below_al (Below.refl _ _)) hp.1⟩
set_option maxRecDepth 100000 in
theorem awake_any (w:World) (gu:Ut.Gu w) (ht:Tab w.heap.size w) (h8:8≤w.heap.size):Calls Tryz.prog 12 #[] w fun e w'=>e=.returned (.bool true)∧Below w.heap.size w w':=by
 have hcs:∀ (w:World) (C:Array Value) (n c:Nat),(convert 32 32 (.slice (some ⟨w.heap.size,0,none⟩) n c)).run Tryz.prog (w.alloc (.cells C 5))=.ok (.slice (some ⟨w.heap.size,0,none⟩) n c) (w.alloc (.cells C 5 (C.size,C.size + 1))):=fun w C n c=>Lib.run_convert_bytes_const w 32 5 C n c Tryz.underlying32 Tryz.underlying5
 have hcs2:∀ (w:World) (o:Obj) (C:Array Value) (n c:Nat),(convert 32 32 (.slice (some ⟨w.heap.size + 1,0,none⟩) n c)).run Tryz.prog ((w.alloc o).alloc (.cells C 5))=.ok (.slice (some ⟨w.heap.size + 1,0,none⟩) n c) ((w.alloc o).alloc (.cells C 5 (C.size,C.size + 1))):=fun w o C n c=>by have:=hcs (w.alloc o) C n c;rw [World.size_alloc] at this;exact this
 have RA:=hide (fun W hb=>rd_a w gu h8 W hb (34,35))
 have RB:=hide (fun W hb=>rd_e w gu h8 W hb (4,5) exB (by decide) 70 exB_rd)
 have RC:=hide (fun W hb=>rd_e w gu h8 W hb (34,35) exC (by decide) 2 exC_rd)
 rw [show cb exA=#[.int .u8 32,.int .u8 91,.int .u8 49,.int .u8 44,.int .u8 32,.int .u8 50,.int .u8 46,.int .u8 48,.int .u8 101,.int .u8 49,.int .u8 32,.int .u8 44,.int .u8 34,.int .u8 92,.int .u8 117,.int .u8 48,.int .u8 48,.int .u8 101,.int .u8 57,.int .u8 92,.int .u8 117,.int .u8 100,.int .u8 56,.int .u8 51,.int .u8 100,.int .u8 92,.int .u8 117,.int .u8 100,.int .u8 101,.int .u8 48,.int .u8 48,.int .u8 34,.int .u8 93,.int .u8 32] from rfl,show exA.length=34 from rfl] at RA
 rw [show cb exB=#[.int .u8 91,.int .u8 49,.int .u8 44,.int .u8 93] from rfl,show exB.length=4 from rfl] at RB
 rw [show cb exC=#[.int .u8 91,.int .u8 91,.int .u8 91,.int .u8 91,.int .u8 91,.int .u8 91,.int .u8 91,.int .u8 91,.int .u8 91,.int .u8 91,.int .u8 91,.int .u8 91,.int .u8 91,.int .u8 91,.int .u8 91,.int .u8 91,.int .u8 91,.int .u8 93,.int .u8 93,.int .u8 93,.int .u8 93,.int .u8 93,.int .u8 93,.int .u8 93,.int .u8 93,.int .u8 93,.int .u8 93,.int .u8 93,.int .u8 93,.int .u8 93,.int .u8 93,.int .u8 93,.int .u8 93,.int .u8 93] from rfl,show exC.length=34 from rfl] at RC
 have W1:=hide (wr_r w gu ht)
 have W2:=hide (wr_b w gu ht)
 simp only [vals,jrT,jbT,vhd,zr] at W1 W2
 simp only [vals,zr] at RA
 simp only [zV] at RB RC
 go_enter Tryz.func12, Tryz.ntmps12
 go_wp2_with (go_at_call 10;refine Sto.out ?_)
 refine Sto.mk ((W1.out _ (below_al (below_al (below_al (Below.refl _ _)))) (a:=w.heap.size + 1) (b:=w.heap.size + 1 + 1) ?_ ?_).mono ?_)
 ·rw [Below.heap_alloc _ _ _ (by simp)]
  have:=heap_alloc_last (w.alloc (.cells #[.int .i64 1,.bool false,.bool false,.string ⟨#[]⟩,.int .i64 0,.int .u64 0,.string ⟨#[]⟩,.slice none 0 0,.slice none 0 0] 29)) (.cells #[.string ⟨#[36,120]⟩] 9)
  rw [World.size_alloc] at this
  exact this
 ·have:=heap_alloc_last ((w.alloc (.cells #[.int .i64 1,.bool false,.bool false,.string ⟨#[]⟩,.int .i64 0,.int .u64 0,.string ⟨#[]⟩,.slice none 0 0,.slice none 0 0] 29)).alloc (.cells #[.string ⟨#[36,120]⟩] 9)) (.cells #[.int .i64 1,.bool false,.bool false,.string ⟨#[]⟩,.int .i64 0,.int .u64 0,.string ⟨#[]⟩,.slice none 0 0,.slice none 0 0] 29)
  rw [World.size_alloc,World.size_alloc] at this
  exact this
 rintro e v1 ⟨p1,m1,c1,rfl,hb1,ho1⟩
 have B1:Hid (Below w.heap.size w v1):=below_then (below_al (below_al (below_al (Below.refl _ _)))) hb1
 have O1:Hid (∃ B,Own v1 B (.slice p1 m1 c1) (jtx 2 jrT)):=⟨_,ho1⟩
 clear hb1 ho1 W1
 go_wp2_with (go_at_call 10;refine Sto.out ?_)
 refine Sto.mk ((W2.out _ B1.out).mono ?_)
 rintro e v2 ⟨p2,m2,c2,rfl,hb2,ho2⟩
 have B2:Hid (Below w.heap.size w v2):=below_then B1.out hb2
 have O1':Hid (∃ B,Own v2 B (.slice p1 m1 c1) (jtx 2 jrT)):=by
  obtain ⟨B,h⟩:=O1.out
  exact ⟨B,own_of h fun k _ hk=>hb2.block k hk⟩
 have O2:Hid (∃ B,Own v2 B (.slice p2 m2 c2) (jtx 1 jbT)):=⟨_,ho2⟩
 clear hb2 ho2 W2 O1
 go_wp2_with (go_at_call 15;refine Sto.out ?_)
 refine Sto.mk ((RA.out _ B2.out).mono ?_)
 rintro e v3 ⟨a3,m3,d3,b3,o3,c3,s3,f3,rfl,hb3,hk3⟩
 have B3:Hid (Below w.heap.size w v3):=below_then B2.out hb3
 have P1:Hid (∃ B,Own v3 B (.slice p1 m1 c1) (jtx 2 jrT)):=by
  obtain ⟨B,h⟩:=O1'.out
  exact ⟨B,own_of h fun k _ hk=>hb3.block k hk⟩
 have P2:Hid (∃ B,Own v3 B (.slice p2 m2 c2) (jtx 1 jbT)):=by
  obtain ⟨B,h⟩:=O2.out
  exact ⟨B,own_of h fun k _ hk=>hb3.block k hk⟩
 have K3:=hide hk3
 clear hb3 hk3 O1' O2 RA
 go_wp2_with (go_at_call 15;refine Sto.out ?_)
 refine Sto.mk ?_
 have rb:=RB.out (v3.alloc (.cells #[.int .i64 7,.bool false,.bool false,.string ⟨#[]⟩,.int .i64 0,.int .u64 0,.string ⟨#[]⟩,.slice a3 m3 d3,.slice (some ⟨b3,o3,none⟩) 3 c3] 29)) (below_then B3.out (below_al (Below.refl _ _)))
 rw [World.size_alloc] at rb
 refine rb.mono ?_
 rintro e v4 ⟨rfl,hb4⟩
 have L4:Hid (Below v3.heap.size v3 v4):=below_then (below_al (Below.refl _ _)) (by rw [World.size_alloc];exact hb4)
 have X4:Hid (Bx v4 v3.heap.size (zr 7) (.slice a3 m3 d3) (.slice (some ⟨b3,o3,none⟩) 3 c3)):=⟨(hb4.block _ (by omega)).trans (heap_alloc_last _ _)⟩
 have B4:Hid (Below w.heap.size w v4):=below_then B3.out L4.out
 clear hb4 RB rb
 go_wp2_with (go_at_call 15;refine Sto.out ?_)
 refine Sto.mk ?_
 have rc:=RC.out (v4.alloc (.cells #[.int .i64 0,.bool false,.bool false,.string ⟨#[]⟩,.int .i64 0,.int .u64 0,.string ⟨#[]⟩,.slice none 0 0,.slice none 0 0] 29)) (below_then B4.out (below_al (Below.refl _ _)))
 rw [World.size_alloc] at rc
 refine rc.mono ?_
 rintro e v5 ⟨rfl,hb5⟩
 have L5:Hid (Below v4.heap.size v4 v5):=below_then (below_al (Below.refl _ _)) (by rw [World.size_alloc];exact hb5)
 have B5:Hid (Below w.heap.size w v5):=below_then B4.out L5.out
 have L35:Hid (∀ o,Below v3.heap.size v3 (v5.alloc o)):=fun o=>below_then (below_then L4.out L5.out) (below_al (Below.refl _ _))
 clear hb5 RC rc
 have cv1:∀ o,(convert 32 9 (.slice p1 m1 c1)).run Tryz.prog (v5.alloc o)=.ok (.string ⟨#[123,34,36,36,120,34,58,110,117,108,108,125]⟩) (v5.alloc o):=fun o=>by
  obtain ⟨B,h⟩:=P1.out
  have:=own_conv (own_of h fun k _ hk=>(L35.out o).block k hk)
  rw [jr_tx] at this
  exact this
 have cv2:∀ o,(convert 32 9 (.slice p2 m2 c2)).run Tryz.prog (v5.alloc o)=.ok (.string ⟨#[123,34,36,98,121,116,101,115,34,58,34,48,48,102,102,34,125]⟩) (v5.alloc o):=fun o=>by
  obtain ⟨B,h⟩:=P2.out
  have:=own_conv (own_of h fun k _ hk=>(L35.out o).block k hk)
  rw [jb_tx] at this
  exact this
 have X5:Hid (∀ o,Bx (v5.alloc o) v3.heap.size (zr 7) (.slice a3 m3 d3) (.slice (some ⟨b3,o3,none⟩) 3 c3)):=fun o=>⟨((below_then L5.out (below_al (Below.refl _ _))).block _ X4.out.lt').trans X4.out.at_⟩
 have x8:=fun o=>(X5.out o).cells.2.2.2.2.2.2.2.2
 have R5:Hid (∀ o,RD 5 (v5.alloc o) jvT (.slice a3 m3 d3) (.slice (some ⟨b3,o3,none⟩) 3 c3)):=fun o=>K3.out.2.2 _ fun k _ hk=>(L35.out o).block k (Nat.lt_of_lt_of_le hk K3.out.2.1)
 have el:Hid (∀ o,(∃ n1 l1,(v5.alloc o).rangeAt b3 (o3 + 9) (vals (vhd 4 jv2) n1 l1).toList)∧∃ n2 l2,(v5.alloc o).rangeAt b3 (o3 + 18) (vals (vhd 4 jv3) n2 l2).toList):=fun o=>by
  obtain ⟨_,r2⟩:=R5.out o
  rcases r2 with ⟨h0,_⟩|⟨b,oo,c,sp,hls,_,_,hsp,hel⟩
  ·cases h0
  ·cases hls
   obtain ⟨n1,l1,e1,_⟩:=hel 1 (by decide)
   obtain ⟨n2,l2,e2,_⟩:=hel 2 (by decide)
   exact ⟨⟨n1,l1,e1⟩,n2,l2,e2⟩
 have q2:∀ o,(v5.alloc o).cell? ⟨b3,o3 + 9 + 2,none⟩=some (.bool false):=fun o=>by obtain ⟨n1,l1,h⟩:=(el.out o).1;exact h 2 _ rfl
 have q3:∀ o,(v5.alloc o).cell? ⟨b3,o3 + 9 + 3,none⟩=some (.string ⟨#[50]⟩):=fun o=>by obtain ⟨n1,l1,h⟩:=(el.out o).1;exact h 3 _ rfl
 have q4:∀ o,(v5.alloc o).cell? ⟨b3,o3 + 9 + 4,none⟩=some (.int .i64 1):=fun o=>by obtain ⟨n1,l1,h⟩:=(el.out o).1;exact h 4 _ rfl
 have q6:∀ o,(v5.alloc o).cell? ⟨b3,o3 + 18 + 6,none⟩=some (.string ⟨#[195,169,240,159,152,128]⟩):=fun o=>by obtain ⟨n1,l1,h⟩:=(el.out o).2;exact h 6 _ rfl
 clear P1 P2
 go_wp2_with fail
 go_ret
 exact ⟨rfl,below_then B5.out (below_al (Below.refl _ _))⟩
end Go.Proofs.YtpimjkdakjhoaaaGreatDoor
