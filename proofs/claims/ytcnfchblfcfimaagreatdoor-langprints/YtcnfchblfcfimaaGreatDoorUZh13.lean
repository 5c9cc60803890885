import Derived.Test.YtcnfchblfcfimaaGreatDoorUZh06
import Derived.Test.YtcnfchblfcfimaaGreatDoorRows
import Derived.WalkKit
import Derived.WalkSpells
import Derived.WalkLawsBesides
import Derived.Outline
import Derived.Laws.Rows
import Derived.Deep.RegionHeld3
import Derived.Lib.Strings
import Derived.Deep.RegionWith
import Derived.WalkSmall
import Derived.Lib.LaidU8T
import Derived.Lib.LaidTab
import Derived.ChangeMaps5
import Derived.ProofKit
import Derived.Lib.SmallJoins
import Derived.Lay
import Derived.SevenTiedAt
set_option linter.all false
set_option maxHeartbeats 1000000
set_option maxRecDepth 100000
namespace Go.Proofs.YtcnfchblfcfimaaGreatDoor.Ut
open Proofs.Tryz RowKit
theorem aa{p:Prop}(h:p):Hid p:=h
def sp(a b c d e f g h:Nat):Value:=.agg #[.int .u8 a,.int .u8 b,.int .u8 c,.int .u8 d,.int .u8 e,.int .u8 f,.int .u8 g,.int .u8 h]
theorem ab{w W:World}{o:Obj}(h:Below w.heap.size w W):Below w.heap.size w (W.alloc o):=h.alloc h.size o
theorem af{n w}:Below n w w:=Below.refl n w
theorem ao{w W:World}{i o:Nat}{v:Value}(h:Below w.heap.size w W)(hi:w.heap.size<=i):Below w.heap.size w (W.setCell ⟨i,o,none⟩ v):=h.setCell hi v
theorem ac{w W W1:World}(h:Below w.heap.size w W)(hb:Below W.heap.size W W1):Below w.heap.size w W1:=h.trans (hb.mono h.size)
theorem uN(a b c d e f g h n:Nat)(w:World):Calls prog 220 #[sp a b c d e f g h,.int .u8 n] w fun r w'=>r=.returned (.tuple (if a<=n/\n<=b then #[sp c d e f g h 0 0,.bool true] else #[sp 0 0 0 0 0 0 0 0,.bool false]))/\Below w.heap.size w w':=by
 unfold sp;by_cases h1:(n:Int)<a
 ·rw[if_neg (by omega)]
  go_enter func220,ntmps220;go_wp2;exact bodyPost_ret (v:=.tuple #[.agg #[.int .u8 0,.int .u8 0,.int .u8 0,.int .u8 0,.int .u8 0,.int .u8 0,.int .u8 0,.int .u8 0],.bool false]) (by simp[results,Tryz.results220,go_sem]) rfl ⟨rfl,ab (ab af)⟩
 by_cases h2:(b:Int)<n
 ·rw[if_neg (by omega)]
  go_enter func220,ntmps220;go_wp2;exact bodyPost_ret (v:=.tuple #[.agg #[.int .u8 0,.int .u8 0,.int .u8 0,.int .u8 0,.int .u8 0,.int .u8 0,.int .u8 0,.int .u8 0],.bool false]) (by simp[results,Tryz.results220,go_sem]) rfl ⟨rfl,ab (ab af)⟩
 rw[if_pos (by omega)];go_enter func220,ntmps220;go_wp2;exact bodyPost_ret (v:=.tuple #[.agg #[.int .u8 c,.int .u8 d,.int .u8 e,.int .u8 f,.int .u8 g,.int .u8 h,.int .u8 0,.int .u8 0],.bool true]) (by simp[results,Tryz.results220,go_sem]) rfl ⟨rfl,by repeat (first|exact af|refine ab ?_|refine ao ?_ (by omega))⟩
def FX:St->Value
 | .i8=>sp 0 0 0 0 0 0 0 0
 | .i16=>sp 128 191 0 0 0 0 0 0
 | .i32=>sp 128 191 128 191 0 0 0 0
 | .i64=>sp 128 191 128 191 128 191 0 0
 | .u8=>sp 160 191 128 191 0 0 0 0
 | .u16=>sp 128 159 128 191 0 0 0 0
 | .u32=>sp 144 191 128 191 128 191 0 0
 | .u64=>sp 128 143 128 191 128 191 0 0
def lP:Option St->Value
 |none=>.tuple #[sp 0 0 0 0 0 0 0 0,.bool false]
 |some q=>.tuple #[FX q,.bool true]
theorem Hg(p:St)(hp:p≠.i8)(n:Nat)(w:World):Calls prog 220 #[FX p,.int .u8 n] w fun r w'=>r=.returned (lP (nx p n))/\Below w.heap.size w w':=by
 have key:∀(a b c d e f g h:Nat) (o:Option St),(lP o=.tuple (if a<=n/\n<=b then #[sp c d e f g h 0 0,.bool true] else #[sp 0 0 0 0 0 0 0 0,.bool false]))->Calls prog 220 #[sp a b c d e f g h,.int .u8 n] w fun r w'=>r=.returned (lP o)/\Below w.heap.size w w':=by intro a b c d e f g h o ho;rw[ho];exact uN a b c d e f g h n w
 cases p
 ·exact absurd rfl hp
 all_goals (refine key _ _ _ _ _ _ _ _ _ ?_;simp only[nx];split<;>rfl)
def lgC:Array Value:=#[.int .u8 194,.int .u8 223,.int .u8 128,.int .u8 191,.int .u8 0,.int .u8 0,.int .u8 0,.int .u8 0,.int .u8 224,.int .u8 224,.int .u8 160,.int .u8 191,.int .u8 128,.int .u8 191,.int .u8 0,.int .u8 0,.int .u8 225,.int .u8 236,.int .u8 128,.int .u8 191,.int .u8 128,.int .u8 191,.int .u8 0,.int .u8 0,.int .u8 237,.int .u8 237,.int .u8 128,.int .u8 159,.int .u8 128,.int .u8 191,.int .u8 0,.int .u8 0,.int .u8 238,.int .u8 239,.int .u8 128,.int .u8 191,.int .u8 128,.int .u8 191,.int .u8 0,.int .u8 0,.int .u8 240,.int .u8 240,.int .u8 144,.int .u8 191,.int .u8 128,.int .u8 191,.int .u8 128,.int .u8 191,.int .u8 241,.int .u8 243,.int .u8 128,.int .u8 191,.int .u8 128,.int .u8 191,.int .u8 128,.int .u8 191,.int .u8 244,.int .u8 244,.int .u8 128,.int .u8 143,.int .u8 128,.int .u8 191,.int .u8 128,.int .u8 191]
structure Gu(w:World):Prop where
 bt:∃t fr,w.heap[4]?=some (.cells #[.int .u8 0,.int .u8 0,.int .u8 0,.int .u8 0,.int .u8 0,.int .u8 0,.int .u8 0,.int .u8 0] t fr)
 lg:∃t fr,w.heap[6]?=some (.cells lgC t fr)
theorem Gu.lt{w:World}(g:Gu w):6<w.heap.size:=by obtain⟨t,fr,h⟩:=g.lg;exact(Array.getElem?_eq_some_iff.1 h).1
theorem Gu.sz{w:World}(g:Gu w):2<=w.heap.size:=by have:=g.lt;omega
theorem Gu.below{w W:World}(g:Gu w)(h:Below w.heap.size w W):Gu W:=by obtain⟨t,fr,h0⟩:=g.bt;obtain⟨t',fr',h1⟩:=g.lg;have:=g.sz;exact⟨⟨t,fr,by rw[h.block 4 ((Array.getElem?_eq_some_iff.1 h0).1)];exact h0⟩,⟨t',fr',by rw[h.block _ g.lt];exact h1⟩⟩
theorem Gu.drew{w:World}(g:Gu w):Gu w.drew:=⟨g.bt,g.lg⟩
theorem Gu.btc{w:World}(g:Gu w)(k:Nat)(hk:k<8):w.cell? ⟨4,k,none⟩=some (.int .u8 0):=by
 obtain⟨t,fr,h⟩:=g.bt;simp only[World.cell?,h]
 match k,hk with
 |0,_=>rfl
 |1,_=>rfl
 |2,_=>rfl
 |3,_=>rfl
 |4,_=>rfl
 |5,_=>rfl
 |6,_=>rfl
 |7,_=>rfl
def SB(W:World)(i:Nat)(a b c d e f g h:Nat):Prop:=W.heap[i]?=some (.cells #[.int .u8 a,.int .u8 b,.int .u8 c,.int .u8 d,.int .u8 e,.int .u8 f,.int .u8 g,.int .u8 h] 149 (0,0))
section
variable {W W1 : World} {i j o B a b c d e f g h : Nat}
theorem SB.cells(q:SB W i a b c d e f g h):W.cell? ⟨i,0,none⟩=some (.int .u8 a)/\W.cell? ⟨i,1,none⟩=some (.int .u8 b)/\W.cell? ⟨i,2,none⟩=some (.int .u8 c)/\W.cell? ⟨i,3,none⟩=some (.int .u8 d)/\W.cell? ⟨i,4,none⟩=some (.int .u8 e)/\W.cell? ⟨i,5,none⟩=some (.int .u8 f)/\W.cell? ⟨i,6,none⟩=some (.int .u8 g)/\W.cell? ⟨i,7,none⟩=some (.int .u8 h)/\W.frozen? ⟨i,0,none⟩=false/\W.frozen? ⟨i,1,none⟩=false/\W.frozen? ⟨i,2,none⟩=false/\W.frozen? ⟨i,3,none⟩=false/\W.frozen? ⟨i,4,none⟩=false/\W.frozen? ⟨i,5,none⟩=false/\W.frozen? ⟨i,6,none⟩=false/\W.frozen? ⟨i,7,none⟩=false:=by unfold SB at q;simp[World.cell?,World.frozen?,q]
theorem SB.lt(q:SB W i a b c d e f g h):i<W.heap.size:=by
 unfold SB at q;by_cases bm:i<W.heap.size
 ·exact bm
 have hn:W.heap[i]?=none:=by simp;omega
 rw[hn]at q;cases q
theorem SB.below(q:SB W i a b c d e f g h)(hb:Below B W W1)(hi:i<B):SB W1 i a b c d e f g h:=by unfold SB at q ⊢;rw[hb.block i hi];exact q
theorem SB.other{v:Value}(q:SB W i a b c d e f g h)(hij:i≠j):SB (W.setCell ⟨j,o,none⟩ v) i a b c d e f g h:=by unfold SB at q ⊢;rw[Below.heap_setCell _ _ _ _ hij];exact q
theorem SB.alloc(q:SB W i a b c d e f g h)(o:Obj):SB (W.alloc o) i a b c d e f g h:=by have hl:=q.lt;unfold SB at q ⊢;rw[<-q];exact Below.heap_alloc W o i hl
theorem SB.drew(q:SB W i a b c d e f g h):SB W.drew i a b c d e f g h:=q
theorem SB.set{a' b' c' d' e' f' g' h':Nat}(q:SB W i a b c d e f g h):SB ((((((((W.setCell ⟨i,0,none⟩ (.int .u8 a')).setCell ⟨i,1,none⟩ (.int .u8 b')).setCell ⟨i,2,none⟩ (.int .u8 c')).setCell ⟨i,3,none⟩ (.int .u8 d')).setCell ⟨i,4,none⟩ (.int .u8 e')).setCell ⟨i,5,none⟩ (.int .u8 f')).setCell ⟨i,6,none⟩ (.int .u8 g')).setCell ⟨i,7,none⟩ (.int .u8 h')) i a' b' c' d' e' f' g' h':=by unfold SB at q ⊢;simp only[World.setCell,Array.getElem?_modify,if_true,q,Option.map_some];simp
end
theorem CQ(w:World)(a b c d e f g h:Nat):SB (w.alloc (.cells #[.int .u8 a,.int .u8 b,.int .u8 c,.int .u8 d,.int .u8 e,.int .u8 f,.int .u8 g,.int .u8 h] 149)) w.heap.size a b c d e f g h:=by unfold SB;show(w.heap.push _)[w.heap.size]?=_;simp
theorem rT(w:World)(o:Obj)(a b c d e f g h:Nat):SB ((w.alloc o).alloc (.cells #[.int .u8 a,.int .u8 b,.int .u8 c,.int .u8 d,.int .u8 e,.int .u8 f,.int .u8 g,.int .u8 h] 149)) (w.heap.size+1) a b c d e f g h:=by
 have:=CQ (w.alloc o) a b c d e f g h
 simpa using this
theorem pF{fn:Func}{p r:Tmp}(hf:fn.results=#[.cell p 149,.tmp r])(tmps:Array Value)(W:World)(i:Nat)(v:Value){a b c d e f g h:Nat}(hp:tmps.getD p undef=.pointer (some ⟨i,0,none⟩))(hq:tmps.getD r undef=v)(hS:SB W i a b c d e f g h):(results fn tmps).run prog W=.ok (.tuple #[.agg #[.int .u8 a,.int .u8 b,.int .u8 c,.int .u8 d,.int .u8 e,.int .u8 f,.int .u8 g,.int .u8 h],v]) W:=by
 have BY:tmps[p]?.getD undef=.pointer (some ⟨i,0,none⟩):=by simpa using hp
 have zm:tmps[r]?.getD undef=v:=by simpa using hq
 simp[results,hf,BY,zm,asAddr,run_loadVar_row W i _ 149 _ _ _ hS Tryz.underlying149 rfl (by kernel_rfl)]
theorem Gu.two{w:World}(g:Gu w):(∀o1 o2,((w.alloc o1).alloc o2).cell? ⟨4,0,none⟩=some (.int .u8 0))/\(∀o1 o2,((w.alloc o1).alloc o2).cell? ⟨4,1,none⟩=some (.int .u8 0))/\(∀o1 o2,((w.alloc o1).alloc o2).cell? ⟨4,2,none⟩=some (.int .u8 0))/\(∀o1 o2,((w.alloc o1).alloc o2).cell? ⟨4,3,none⟩=some (.int .u8 0))/\(∀o1 o2,((w.alloc o1).alloc o2).cell? ⟨4,4,none⟩=some (.int .u8 0))/\(∀o1 o2,((w.alloc o1).alloc o2).cell? ⟨4,5,none⟩=some (.int .u8 0))/\(∀o1 o2,((w.alloc o1).alloc o2).cell? ⟨4,6,none⟩=some (.int .u8 0))/\(∀o1 o2,((w.alloc o1).alloc o2).cell? ⟨4,7,none⟩=some (.int .u8 0)):=by have k:∀o1 o2 j,j<8->((w.alloc o1).alloc o2).cell? ⟨4,j,none⟩=some (.int .u8 0):=fun o1 o2 j hj=>(g.below (ab (ab af))).btc j hj;exact⟨fun o1 o2=>k o1 o2 0 (by omega),fun o1 o2=>k o1 o2 1 (by omega),fun o1 o2=>k o1 o2 2 (by omega),fun o1 o2=>k o1 o2 3 (by omega),fun o1 o2=>k o1 o2 4 (by omega),fun o1 o2=>k o1 o2 5 (by omega),fun o1 o2=>k o1 o2 6 (by omega),fun o1 o2=>k o1 o2 7 (by omega)⟩
theorem lK(p:St)(w:World):(Op.equalIn 10000 149 (FX p) (.agg #[.int .u8 0,.int .u8 0,.int .u8 0,.int .u8 0,.int .u8 0,.int .u8 0,.int .u8 0,.int .u8 0])).run prog w=.ok (p==.i8) w:=by cases p<;>kernel_rfl
theorem kh(p:St):∃a b c d e f g h:Nat,FX p=sp a b c d e f g h/\∀w,(Op.equalIn 10000 149 (.agg #[.int .u8 a,.int .u8 b,.int .u8 c,.int .u8 d,.int .u8 e,.int .u8 f,.int .u8 g,.int .u8 h]) (.agg #[.int .u8 0,.int .u8 0,.int .u8 0,.int .u8 0,.int .u8 0,.int .u8 0,.int .u8 0,.int .u8 0])).run prog w=.ok (p==.i8) w:=by
 cases p
 ·exact⟨_,_,_,_,_,_,_,_,rfl,fun w=>lK .i8 w⟩
 ·exact⟨_,_,_,_,_,_,_,_,rfl,fun w=>lK .i16 w⟩
 ·exact⟨_,_,_,_,_,_,_,_,rfl,fun w=>lK .i32 w⟩
 ·exact⟨_,_,_,_,_,_,_,_,rfl,fun w=>lK .i64 w⟩
 ·exact⟨_,_,_,_,_,_,_,_,rfl,fun w=>lK .u8 w⟩
 ·exact⟨_,_,_,_,_,_,_,_,rfl,fun w=>lK .u16 w⟩
 ·exact⟨_,_,_,_,_,_,_,_,rfl,fun w=>lK .u32 w⟩
 exact⟨_,_,_,_,_,_,_,_,rfl,fun w=>lK .u64 w⟩
theorem Kf(o:Option St):∃a b c d e f g h:Nat,lP o=.tuple #[.agg #[.int .u8 a,.int .u8 b,.int .u8 c,.int .u8 d,.int .u8 e,.int .u8 f,.int .u8 g,.int .u8 h],.bool o.isSome]/\FX (o.getD .i8)=sp a b c d e f g h:=by
 cases o with
 |none=>exact⟨0,0,0,0,0,0,0,0,rfl,rfl⟩
 |some q=>
  obtain⟨a,b,c,d,e,f,g,h,e1,_⟩:=kh q;exact⟨a,b,c,d,e,f,g,h,by simp only[lP,e1];rfl,e1⟩
theorem GJ(p:St)(hp:p≠.i8)(n:Nat)(w:World)(g:Gu w):Calls prog 195 #[FX p,.int .u8 n] w fun r w'=>r=.returned (lP (nx p n))/\Below w.heap.size w w':=by
 obtain⟨b0,b1,b2,b3,b4,b5,b6,b7⟩:=g.two;have cC:=g.sz;have jW:=aa (Hg p hp n);clear g;obtain⟨a,b,c,d,e,f,g,h,e1,pX⟩:=kh p;have Pw:(p==IntKind.i8)=false:=by cases p<;>simp_all
 rw[Pw]at pX;obtain⟨a',b',c',d',e',f',g',h',e2,e3⟩:=Kf (nx p n);rw[e1,e2]at jW;obtain⟨ob,Uh⟩:∃ob,(nx p n).isSome=ob:=⟨_,rfl⟩
 rw[Uh]at jW e2;rw[e1,e2];clear e1 e2 e3 hp Pw Uh;unfold sp;have hB:=aa (rT w (.cells #[.int .u8 a,.int .u8 b,.int .u8 c,.int .u8 d,.int .u8 e,.int .u8 f,.int .u8 g,.int .u8 h] 149) 0 0 0 0 0 0 0 0);go_enter func195,ntmps195;go_wp2_with(go_at_call 220;refine(jW.out _).mono ?_;rintro r w1 ⟨rfl,ai⟩;obtain⟨c0,c1,c2,c3,c4,c5,c6,c7,f0,f1,f2,f3,f4,f5,f6,f7⟩:=(hB.out.below ai (by simp)).cells;have aq:=aa (ac (ab (ab af)) ai);clear ai)
 exact bodyPost_ret (v:=.tuple #[.agg #[.int .u8 a',.int .u8 b',.int .u8 c',.int .u8 d',.int .u8 e',.int .u8 f',.int .u8 g',.int .u8 h'],.bool ob]) (by simp[results,Tryz.results195,go_sem,c0,c1,c2,c3,c4,c5,c6,c7]) rfl ⟨rfl,by(iterate 8 refine ao ?_ (by omega));exact aq.out⟩
def oH:Nat->Value
 |0=>sp 194 223 128 191 0 0 0 0
 |1=>sp 224 224 160 191 128 191 0 0
 |2=>sp 225 236 128 191 128 191 0 0
 |3=>sp 237 237 128 159 128 191 0 0
 |4=>sp 238 239 128 191 128 191 0 0
 |5=>sp 240 240 144 191 128 191 128 191
 |6=>sp 241 243 128 191 128 191 128 191
 |_=>sp 244 244 128 143 128 191 128 191
def gX(k n:Nat):Option St:=match k with
 |0=>if 194<=n/\n<=223 then some .i16 else none
 |1=>if 224<=n/\n<=224 then some .u8 else none
 |2=>if 225<=n/\n<=236 then some .i32 else none
 |3=>if 237<=n/\n<=237 then some .u16 else none
 |4=>if 238<=n/\n<=239 then some .i32 else none
 |5=>if 240<=n/\n<=240 then some .u32 else none
 |6=>if 241<=n/\n<=243 then some .i64 else none
 |_=>if 244<=n/\n<=244 then some .u64 else none
def LG:Value:=.agg lgC
theorem Hq(k:Nat)(h:k<8)(w:World):(Instr.index 202 LG (.int .i64 k)).run prog w=.ok (oH k) w:=by
 match k,h with
 |0,_=>exact(show(Instr.index 202 LG (.int .i64 0)).run prog w=.ok (oH 0) w by kernel_rfl)
 |1,_=>exact(show(Instr.index 202 LG (.int .i64 1)).run prog w=.ok (oH 1) w by kernel_rfl)
 |2,_=>exact(show(Instr.index 202 LG (.int .i64 2)).run prog w=.ok (oH 2) w by kernel_rfl)
 |3,_=>exact(show(Instr.index 202 LG (.int .i64 3)).run prog w=.ok (oH 3) w by kernel_rfl)
 |4,_=>exact(show(Instr.index 202 LG (.int .i64 4)).run prog w=.ok (oH 4) w by kernel_rfl)
 |5,_=>exact(show(Instr.index 202 LG (.int .i64 5)).run prog w=.ok (oH 5) w by kernel_rfl)
 |6,_=>exact(show(Instr.index 202 LG (.int .i64 6)).run prog w=.ok (oH 6) w by kernel_rfl)
 |7,_=>exact(show(Instr.index 202 LG (.int .i64 7)).run prog w=.ok (oH 7) w by kernel_rfl)
theorem DD(k n:Nat)(h:k<8)(w:World):Calls prog 220 #[oH k,.int .u8 n] w fun r w'=>r=.returned (lP (gX k n))/\Below w.heap.size w w':=by
 have key:∀(a b c d e f g h:Nat) (o:Option St),(lP o=.tuple (if a<=n/\n<=b then #[sp c d e f g h 0 0,.bool true] else #[sp 0 0 0 0 0 0 0 0,.bool false]))->Calls prog 220 #[sp a b c d e f g h,.int .u8 n] w fun r w'=>r=.returned (lP o)/\Below w.heap.size w w':=by intro a b c d e f g h o ho;rw[ho];exact uN a b c d e f g h n w
 match k,h with
 |0,_=>exact key _ _ _ _ _ _ _ _ _ (by simp only[gX];split<;>rfl)
 |1,_=>exact key _ _ _ _ _ _ _ _ _ (by simp only[gX];split<;>rfl)
 |2,_=>exact key _ _ _ _ _ _ _ _ _ (by simp only[gX];split<;>rfl)
 |3,_=>exact key _ _ _ _ _ _ _ _ _ (by simp only[gX];split<;>rfl)
 |4,_=>exact key _ _ _ _ _ _ _ _ _ (by simp only[gX];split<;>rfl)
 |5,_=>exact key _ _ _ _ _ _ _ _ _ (by simp only[gX];split<;>rfl)
 |6,_=>exact key _ _ _ _ _ _ _ _ _ (by simp only[gX];split<;>rfl)
 |7,_=>exact key _ _ _ _ _ _ _ _ _ (by simp only[gX];split<;>rfl)
theorem CY{k n:Nat}{q:St}(hk:k<8)(h:gX k n=some q):nx .i8 n=some q:=by
 match k,hk with
 |0,_=>simp only[gX]at h;split at h<;>simp only[Option.some.injEq,reduceCtorEq]at h;subst h;simp only[nx];repeat (first|rfl|rw[if_pos (by omega)]|rw[if_neg (by omega)])
 |1,_=>simp only[gX]at h;split at h<;>simp only[Option.some.injEq,reduceCtorEq]at h;subst h;simp only[nx];repeat (first|rfl|rw[if_pos (by omega)]|rw[if_neg (by omega)])
 |2,_=>simp only[gX]at h;split at h<;>simp only[Option.some.injEq,reduceCtorEq]at h;subst h;simp only[nx];repeat (first|rfl|rw[if_pos (by omega)]|rw[if_neg (by omega)])
 |3,_=>simp only[gX]at h;split at h<;>simp only[Option.some.injEq,reduceCtorEq]at h;subst h;simp only[nx];repeat (first|rfl|rw[if_pos (by omega)]|rw[if_neg (by omega)])
 |4,_=>simp only[gX]at h;split at h<;>simp only[Option.some.injEq,reduceCtorEq]at h;subst h;simp only[nx];repeat (first|rfl|rw[if_pos (by omega)]|rw[if_neg (by omega)])
 |5,_=>simp only[gX]at h;split at h<;>simp only[Option.some.injEq,reduceCtorEq]at h;subst h;simp only[nx];repeat (first|rfl|rw[if_pos (by omega)]|rw[if_neg (by omega)])
 |6,_=>simp only[gX]at h;split at h<;>simp only[Option.some.injEq,reduceCtorEq]at h;subst h;simp only[nx];repeat (first|rfl|rw[if_pos (by omega)]|rw[if_neg (by omega)])
 |7,_=>simp only[gX]at h;split at h<;>simp only[Option.some.injEq,reduceCtorEq]at h;subst h;simp only[nx];repeat (first|rfl|rw[if_pos (by omega)]|rw[if_neg (by omega)])
theorem CZ{n:Nat}(h8:128<=n)(h:∀k<8,gX k n=none):nx .i8 n=none:=by
 have k:∀ {p:Prop} [Decidable p] {q:St},(if p then some q else none)=none->¬p:=by intro p _ q h hp;rw[if_pos hp]at h;cases h
 have h0:=k (h 0 (by omega));have h1:=k (h 1 (by omega));have h2:=k (h 2 (by omega));have h3:=k (h 3 (by omega));have h4:=k (h 4 (by omega));have h5:=k (h 5 (by omega));have h6:=k (h 6 (by omega));have h7:=k (h 7 (by omega));simp only[nx]
 repeat' split
 all_goals first|rfl|omega
theorem Kp(k:Nat)(hk:k<8):∃a b c d e f g h:Nat,oH k=.agg #[.int .u8 a,.int .u8 b,.int .u8 c,.int .u8 d,.int .u8 e,.int .u8 f,.int .u8 g,.int .u8 h]:=by
 match k,hk with
 |0,_=>exact⟨_,_,_,_,_,_,_,_,rfl⟩
 |1,_=>exact⟨_,_,_,_,_,_,_,_,rfl⟩
 |2,_=>exact⟨_,_,_,_,_,_,_,_,rfl⟩
 |3,_=>exact⟨_,_,_,_,_,_,_,_,rfl⟩
 |4,_=>exact⟨_,_,_,_,_,_,_,_,rfl⟩
 |5,_=>exact⟨_,_,_,_,_,_,_,_,rfl⟩
 |6,_=>exact⟨_,_,_,_,_,_,_,_,rfl⟩
 |7,_=>exact⟨_,_,_,_,_,_,_,_,rfl⟩
theorem Gu.long2{w:World}(g:Gu w):∃t fr,∀o1 o2,((w.alloc o1).alloc o2).heap[6]?=some (.cells lgC t fr):=by obtain⟨t,fr,h⟩:=g.lg;have:=g.sz;refine⟨t,fr,fun o1 o2=>?_⟩;rw[(ab (ab af)).block _ g.lt];exact h
structure Sw(w:World)(W:World):Prop where
 below:Below w.heap.size w W
 sb:SB W (w.heap.size+1) 0 0 0 0 0 0 0 0
theorem GK(n:Nat)(w:World)(g:Gu w)(h8:128<=n):Calls prog 195 #[FX .i8,.int .u8 n] w fun r w'=>r=.returned (lP (nx .i8 n))/\Below w.heap.size w w':=by
 obtain⟨b0,b1,b2,b3,b4,b5,b6,b7⟩:=g.two;obtain⟨lt,lfr,lh⟩:=g.long2;have cC:=g.sz;clear g;have pX:∀w,(Op.equalIn 10000 149 (.agg #[.int .u8 0,.int .u8 0,.int .u8 0,.int .u8 0,.int .u8 0,.int .u8 0,.int .u8 0,.int .u8 0]) (.agg #[.int .u8 0,.int .u8 0,.int .u8 0,.int .u8 0,.int .u8 0,.int .u8 0,.int .u8 0,.int .u8 0])).run prog w=.ok true w:=fun w=>lK .i8 w;have Xd:=aa h8;clear h8;simp only[FX,sp];have S0:Hid (Sw w ((w.alloc (.cells #[.int .u8 0,.int .u8 0,.int .u8 0,.int .u8 0,.int .u8 0,.int .u8 0,.int .u8 0,.int .u8 0] 149)).alloc (.cells #[.int .u8 0,.int .u8 0,.int .u8 0,.int .u8 0,.int .u8 0,.int .u8 0,.int .u8 0,.int .u8 0] 149))):=⟨ab (ab af),rT w _ 0 0 0 0 0 0 0 0⟩
 go_enter func195,ntmps195;go_wp2_with(refine wpList_load_row rfl 202 _ rfl 6 rfl lt lgC lfr _ (lh _ _) Tryz.underlying202 rfl (by kernel_rfl) ?_)
 clear b0 b1 b2 b3 b4 b5 b6 b7 lh;go_loopw [19] (fun i w'=>∃k:Nat,k<=8/\i=.int .i64 k/\Hid (∀j<k,gX j n=none)/\Hid (Sw w w')) (fun i _=>(8-intOf i).toNat)
 case atStart=>exact⟨0,by omega,rfl,fun j hj=>by omega,S0.out⟩
 case round=>
  obtain⟨k,hk,rfl,iH,S⟩:=hrel;by_cases Nn:k<8
  ·have zt:∀w,(Instr.index 202 (.agg lgC) (.int .i64 k)).run prog w=.ok (oH k) w:=Hq k Nn
   have nf:=aa (DD k n Nn);obtain⟨a,b,c,d,e,f,g,h,e1⟩:=Kp k Nn;rw[e1]at zt nf;cases hr:gX k n with
   |none=>
    rw[hr]at nf;simp only[lP,sp]at nf;have xv:=aa (show ∀j<k+1,gX j n=none from fun j hj=>by
     rcases Nat.lt_or_ge j k with h|h
     ·exact iH.out j h
     obtain rfl:j=k:=by omega
     exact hr)
    go_wp2_with(go_at_call 220;refine(nf.out _).mono ?_;rintro r w1 ⟨rfl,ai⟩;have S1:Hid (Sw w w1):=⟨ac (ab S.out.below) ai,(S.out.sb.alloc _).below ai (S.out.sb.alloc _).lt⟩;clear ai)
    refine⟨⟨k+1,by omega,by go_num,xv.out,?_⟩,by simp[intOf];omega⟩;refine⟨?_,?_⟩
    ·have:=S1.out.below.size
     have:=ab (o:=.cells #[.int .u8 0,.int .u8 0,.int .u8 0,.int .u8 0,.int .u8 0,.int .u8 0,.int .u8 0,.int .u8 0] 149) S1.out.below
     first|exact this|((iterate 8 refine ao ?_ (by omega));exact this)
    have:=S1.out.sb.alloc (.cells #[.int .u8 0,.int .u8 0,.int .u8 0,.int .u8 0,.int .u8 0,.int .u8 0,.int .u8 0,.int .u8 0] 149);have hl:=S1.out.sb.lt
    first|exact this|((iterate 8 refine SB.other ?_ (by omega));exact this)
   |some q=>
    rw[hr]at nf;have hq:=CY Nn hr;obtain⟨a',b',c',d',e',f',g',h',e2,_⟩:=kh q;simp only[lP,e2,sp]at nf;have eA:=aa (show lP (nx .i8 n)=.tuple #[.agg #[.int .u8 a',.int .u8 b',.int .u8 c',.int .u8 d',.int .u8 e',.int .u8 f',.int .u8 g',.int .u8 h'],.bool true]by rw[hq];simp only[lP,e2,sp]);clear hq e2 hr;go_wp2_with(go_at_call 220;refine(nf.out _).mono ?_;rintro r w1 ⟨rfl,ai⟩;have S1:Hid (Sw w w1):=⟨ac (ab S.out.below) ai,(S.out.sb.alloc _).below ai (S.out.sb.alloc _).lt⟩;clear ai;have bm:=S1.out.sb.lt;obtain⟨c0,c1,c2,c3,c4,c5,c6,c7,f0,f1,f2,f3,f4,f5,f6,f7⟩:=S1.out.sb.cells)
    exact bodyPost_ret (v:=.tuple #[.agg #[.int .u8 a',.int .u8 b',.int .u8 c',.int .u8 d',.int .u8 e',.int .u8 f',.int .u8 g',.int .u8 h'],.bool true]) (pF Tryz.results195 _ _ (w.heap.size+1) _ rfl rfl (S1.out.sb.set.alloc _)) rfl ⟨by rw[eA.out],by have:=S1.out.below;refine ab ?_;(iterate 8 refine ao ?_ (by omega));exact this⟩
  have ST:k=8:=by omega
  subst ST;have eA:=aa (show lP (nx .i8 n)=.tuple #[.agg #[.int .u8 0,.int .u8 0,.int .u8 0,.int .u8 0,.int .u8 0,.int .u8 0,.int .u8 0,.int .u8 0],.bool false]by rw[CZ Xd.out iH.out];rfl);obtain⟨c0,c1,c2,c3,c4,c5,c6,c7,f0,f1,f2,f3,f4,f5,f6,f7⟩:=S.out.sb.cells;go_wp2_with fail
  exact bodyPost_ret (v:=.tuple #[.agg #[.int .u8 0,.int .u8 0,.int .u8 0,.int .u8 0,.int .u8 0,.int .u8 0,.int .u8 0,.int .u8 0],.bool false]) (pF Tryz.results195 _ _ (w.heap.size+1) _ rfl rfl S.out.sb.set) rfl ⟨by rw[eA.out],by have:=S.out.below;(iterate 8 refine ao ?_ (by omega));exact this⟩
def lC(r:Nat)(l:List UInt8):Bool:=r != 65533||Lib.hasPrefix l [239,191,189]
theorem Kx(s:ByteArray)(h:3<=s.size):((s.extract 0 3).toList==[239,191,189])=Lib.hasPrefix (bl s) [239,191,189]:=by
 have e:(s.extract 0 3).toList=(bl s).take 3:=by rw[Lib.toList_data];show(s.extract 0 3).data.toList=_;rw[ByteArray.data_extract];simp[bl]
 rw[e];unfold Lib.hasPrefix;have hl:3<=(bl s).length:=by rw[bl_length];exact h
 match hb:bl s,hl with
 |a::b::c::r,_=>
  simp only[List.take_succ_cons,List.take_zero,List.isPrefixOf,Bool.and_true];rw[Bool.eq_iff_iff];simp;constructor
  ·rintro⟨rfl,rfl,rfl⟩;exact⟨rfl,rfl,rfl⟩
  rintro⟨rfl,rfl,rfl⟩;exact⟨rfl,rfl,rfl⟩
theorem Au(s:ByteArray)(h:s.size<3):Lib.hasPrefix (bl s) [239,191,189]=false:=by
 unfold Lib.hasPrefix;have hl:(bl s).length<3:=by rw[bl_length];exact h
 match hb:bl s,hl with
 | [],_=>rfl
 | [a],_=>simp[List.isPrefixOf]
 | [a,b],_=>simp[List.isPrefixOf]
theorem Kw(s:ByteArray)(w:World):Calls prog 232 #[.string s,.string ⟨#[239,191,189]⟩] w fun e w'=>e=.returned (.bool (Lib.hasPrefix (bl s) [239,191,189]))/\w'=w:=by
 by_cases h:(3:Int)<=(s.size:Int)
 ·have hb:(3:Nat)<=s.size:=by omega
  have e:=aa (Kx s hb);go_enter func232,ntmps232;go_wp2;go_ret;exact⟨by rw[<-e.out];rfl,rfl⟩
 have e:=aa (Au s (by omega));go_enter func232,ntmps232;go_wp2;go_ret;exact⟨by rw[<-e.out];rfl,rfl⟩
theorem qN(s:ByteArray)(w:World):Calls prog 219 #[.string s,.string ⟨#[239,191,189]⟩] w fun e w'=>e=.returned (.bool (Lib.hasPrefix (bl s) [239,191,189]))/\w'=w:=by
 go_enter func219,ntmps219;go_wp2_with(go_at_call 232;refine(Kw s _).mono ?_;rintro e w' ⟨rfl,rfl⟩)
 go_ret;exact⟨rfl,rfl⟩
theorem kA(r:Nat)(s:ByteArray)(w:World)(b:Bool)(hb:lC r (bl s)=b):Calls prog 194 #[.int .i32 r,.string s] w fun e w'=>e=.returned (.bool b)/\w'=w:=by
 have hb:=aa hb;have hp:=aa (qN s);by_cases h:r=65533
 ·subst h
  go_enter func194,ntmps194;go_wp2_with(go_at_call 219;refine(hp.out _).mono ?_;rintro e w' ⟨rfl,rfl⟩)
  go_ret;refine⟨?_,rfl⟩;rw[<-hb.out];rfl
 have h':((r:Int)==65533)=false:=by rw[beq_eq_false_iff_ne];omega
 have h2:decide ((r:Int)=65533)=false:=decide_eq_false (by omega);go_enter func194,ntmps194;go_wp2_with(go_at_call 219;refine(hp.out _).mono ?_;rintro e w' ⟨rfl,rfl⟩)
 go_ret;refine⟨?_,rfl⟩;rw[<-hb.out];simp[lC,h]
theorem kH(l:List UInt8):Lib.hasPrefix l [239,191,189]=true↔∃t,l=239::191::189::t:=by
 unfold Lib.hasPrefix;rw[List.isPrefixOf_iff_prefix];constructor
 ·rintro⟨t,rfl⟩;exact⟨t,rfl⟩
 rintro⟨t,rfl⟩;exact⟨t,rfl⟩
theorem vX{l:List UInt8}{r n:Nat}(h:chr l=some (r,n)):lC r l=true:=by
 unfold lC;by_cases hr:r=65533
 ·subst hr
  rw[Bool.or_eq_true];right;rw[kH];rcases ja h with⟨a,t,rfl,rfl,h1,h2⟩|⟨a,b,t,rfl,rfl,h1,h2,hb,hr⟩|⟨a,b,c,t,rfl,rfl,h1,h2,hb,hc,g0,g1,hr⟩|⟨a,b,c,d,t,rfl,rfl,h1,h2,hb,hc,hd,g0,g1,hr⟩
  ·omega
  ·omega
  ·refine⟨t,?_⟩
   have ha:a.toNat=239:=by omega
   have hb:b.toNat=191:=by omega
   have hc:c.toNat=189:=by omega
   rw[show a=239 from UInt8.toNat_inj.1 ha,show b=191 from UInt8.toNat_inj.1 hb,show c=189 from UInt8.toNat_inj.1 hc]
  omega
 simp[hr]
theorem vY{l:List UInt8}(h:chr l=none):lC 65533 l=false:=by
 unfold lC;cases hp:Lib.hasPrefix l [239,191,189]
 ·rfl
 obtain⟨t,rfl⟩:=(kH l).1 hp;have:=FD 239 191 189 t (by decide) (by decide) (by decide) (by decide) (by decide) (by decide);rw[this]at h;cases h
theorem AB{q:St}(hq:q≠.i8){n:Nat}(h:n<128\/192<=n):nx q n=none:=by
 cases q
 ·exact absurd rfl hq
 all_goals (simp only[nx];rw[if_neg (by omega)])
theorem Bu{a:UInt8}{l:List UInt8}{r n:Nat}(h:chr (a::l)=some (r,n)):a.toNat<128\/192<=a.toNat:=by rcases ja h with⟨a,t,e,rfl,h1,h2⟩|⟨a,b,t,e,rfl,h1,h2,hb,hr⟩|⟨a,b,c,t,e,rfl,h1,h2,hb,hc,g0,g1,hr⟩|⟨a,b,c,d,t,e,rfl,h1,h2,hb,hc,hd,g0,g1,hr⟩<;>(cases e;omega)
theorem FA{a:UInt8}{l:List UInt8}(h:chr (a::l)=none):128<=a.toNat:=by
 rcases Nat.lt_or_ge a.toNat 128 with q|q
 ·rw[FE a l q]at h;cases h
 exact q
theorem rt(s:ByteArray)(pos:Nat)(h:pos<s.size):(bl s).drop pos=s[pos]::(bl s).drop (pos+1):=by rw[List.drop_eq_getElem_cons (by rw[bl_length];exact h),bH s pos h]
theorem mL{p q q':St}{l:List UInt8}{pos n:Nat}(h:run p (l.take pos)=some q)(h2:run q ((l.drop pos).take n)=some q'):run p (l.take (pos+n))=some q':=by rw[List.take_add,run_app h];exact h2
theorem oh{p q:St}{l:List UInt8}{pos:Nat}(h:run p (l.take pos)=some q)(h2:run q (l.drop pos)=none):run p l=none:=by rw[<-List.take_append_drop pos l,run_app h];exact h2
theorem sG{W:World}{i j o:Nat}{v:Value}{x:Obj}(h:W.heap[i]?=some x)(hij:i≠j):(W.setCell ⟨j,o,none⟩ v).heap[i]?=some x:=by rw[Below.heap_setCell _ _ _ _ hij];exact h
structure Th(w:World)(s:ByteArray)(p:St)(pos:Nat)(q:St)(W:World):Prop where
 below:Below w.heap.size w W
 sbp:∃a b c d e f g h:Nat,FX q=sp a b c d e f g h/\SB W w.heap.size a b c d e f g h
 sbr:SB W (w.heap.size+1) 0 0 0 0 0 0 0 0
 it:W.heap[w.heap.size+1+1]?=some (.stringIter s pos)
 le:pos<=s.size
 hr:run p ((bl s).take pos)=some q
theorem ue(p:St)(s:ByteArray)(w:World)(g:Gu w)(hs:s.size<9223372036854775807):Calls prog 158 #[FX p,.string s] w fun r w'=>r=.returned (lP (run p (bl s)))/\Below w.heap.size w w':=by
 have g:=aa g;obtain⟨x0,x1,x2,x3,x4,x5,x6,x7,e1,pX⟩:=kh p;have T0:Hid (Th w s p 0 p (((w.alloc (.cells #[.int .u8 x0,.int .u8 x1,.int .u8 x2,.int .u8 x3,.int .u8 x4,.int .u8 x5,.int .u8 x6,.int .u8 x7] 149)).alloc (.cells #[.int .u8 0,.int .u8 0,.int .u8 0,.int .u8 0,.int .u8 0,.int .u8 0,.int .u8 0,.int .u8 0] 149)).iter s 0)):=by
  refine⟨ab (ab (ab af)),⟨x0,x1,x2,x3,x4,x5,x6,x7,e1,((CQ w x0 x1 x2 x3 x4 x5 x6 x7).alloc _).alloc _⟩,(rT w _ 0 0 0 0 0 0 0 0).alloc _,?_,Nat.zero_le _,rfl⟩;have:=World.iter_heap ((w.alloc (.cells #[.int .u8 x0,.int .u8 x1,.int .u8 x2,.int .u8 x3,.int .u8 x4,.int .u8 x5,.int .u8 x6,.int .u8 x7] 149)).alloc (.cells #[.int .u8 0,.int .u8 0,.int .u8 0,.int .u8 0,.int .u8 0,.int .u8 0,.int .u8 0,.int .u8 0] 149)) s 0
  simpa using this
 rw[e1];clear e1 pX;unfold sp;go_enter func158,ntmps158;go_wp2_with fail
 go_loopw [5] (fun ok w'=>∃(pos:Nat) (q:St),ok=.bool false/\Hid (Th w s p pos q w')) (fun _ w'=>s.size-w'.iterPos (w.heap.size+1+1))
 case atStart=>exact⟨0,p,rfl,T0.out⟩
 case round=>
  obtain⟨pos,q,rfl,T⟩:=hrel;clear T0;by_cases hp:pos<s.size
  ·obtain⟨W1,Be⟩:∃W1,wr.iterAt (w.heap.size+1+1) s (pos+(Utf8.decode s pos).2)=W1:=⟨_,rfl⟩
   have jW:∀ty,(Instr.next (.pointer (some ⟨w.heap.size+1+1,0,none⟩)) true ty).run prog wr=.ok (.tuple #[.bool true,.int .i64 pos,.int .i32 (Utf8.decode s pos).1]) W1:=fun ty=>by rw[<-Be];exact Lib.run_next_any_at wr _ s pos ty T.out.it hp
   have JE:Below w.heap.size w W1:=by rw[<-Be];exact Lib.below_iterAt T.out.below (by omega) _ _
   have lY:W1.heap[w.heap.size+1+1]?=some (.stringIter s (pos+(Utf8.decode s pos).2)):=by rw[<-Be];exact Lib.iterAt_heap wr _ s pos _ T.out.it
   have LU:∀j,j≠w.heap.size+1+1->W1.heap[j]?=wr.heap[j]?:=fun j hj=>by rw[<-Be];exact Lib.iterAt_other wr _ j s _ hj
   obtain⟨a,b,c,d,e,f,g2,h,e1,sb⟩:=T.out.sbp;have gy:SB W1 w.heap.size a b c d e f g2 h:=by unfold SB at sb ⊢;rw[LU _ (by omega)];exact sb
   have lX:SB W1 (w.heap.size+1) 0 0 0 0 0 0 0 0:=by have:=T.out.sbr;unfold SB at this ⊢;rw[LU _ (by omega)];exact this
   have qH:=aa T.out.hr;have hposit:=iterPos_of T.out.it;have zv:=g.out.below JE;have b0:=zv.btc 0 (by omega);have b1:=zv.btc 1 (by omega);have b2:=zv.btc 2 (by omega);have b3:=zv.btc 3 (by omega);have b4:=zv.btc 4 (by omega);have b5:=zv.btc 5 (by omega);have b6:=zv.btc 6 (by omega);have b7:=zv.btc 7 (by omega);obtain⟨c0,c1,c2,c3,c4,c5,c6,c7,_⟩:=gy.cells;have zw:=rt s pos hp;have gj:=qh s pos hp;have oP:(bl (s.extract pos s.size))=(bl s).drop pos:=by have:=Lib.extract_eq s pos s.size;rw[this];show(((bl s).drop pos).take (s.size-pos))=_;exact List.take_of_length_le (by rw[List.length_drop,bl_length];omega)
   have pX:∀w,(Op.equalIn 10000 149 (.agg #[.int .u8 a,.int .u8 b,.int .u8 c,.int .u8 d,.int .u8 e,.int .u8 f,.int .u8 g2,.int .u8 h]) (.agg #[.int .u8 0,.int .u8 0,.int .u8 0,.int .u8 0,.int .u8 0,.int .u8 0,.int .u8 0,.int .u8 0])).run prog w=.ok (q==.i8) w:=fun w=>by have:=lK q w;rw[e1]at this;exact this
   clear Be LU sb T;have JE:=aa JE;have lY:=aa lY;have gy:=aa gy;have lX:=aa lX;have zv:=aa zv;have e1:=aa e1;have Nk:(q==IntKind.i8)=decide (q=.i8):=by cases q<;>rfl
   rw[Nk]at pX;by_cases hq:q=.i8
   ·cases hc:chr ((bl s).drop pos)with
    |some rn=>
     obtain⟨r,n⟩:=rn;rw[hc]at gj;simp only[Option.getD_some]at gj;obtain⟨n1,n4,nl,LK,_,_⟩:=chr_some hc;rw[List.length_drop,bl_length]at nl;have bR:=aa (kA r (s.extract pos s.size));have sJ:lC r (bl (s.extract pos s.size))=true:=by rw[oP];exact vX hc
     have bR:=aa (fun w=>kA r (s.extract pos s.size) w true sJ);have hnext:=aa (show run p ((bl s).take (pos+n))=some .i8 from mL qH.out (by rw[hq];exact LK));subst hq;simp only[decide_true]at pX;rw[gj]at jW lY;clear zw gj oP sJ hc LK;go_wp2_with(go_at_call 194;refine(bR.out _).mono ?_;rintro r w2 ⟨rfl,gi⟩;have jm:=gi.symm;clear gi;subst jm)
     go_roundw
     case rel=>exact⟨pos+n,.i8,rfl,JE.out,⟨a,b,c,d,e,f,g2,h,e1.out,gy.out⟩,lX.out,lY.out,by omega,hnext.out⟩
     case measure=>rw[hposit,iterPos_of lY.out];omega
    |none=>
     rw[hc]at gj;simp only[Option.getD_none]at gj;have sJ:lC 65533 (bl (s.extract pos s.size))=false:=by rw[oP];exact vY hc
     have bR:=aa (fun w=>kA 65533 (s.extract pos s.size) w false sJ);have h8:128<=s[pos].toNat:=by rw[zw]at hc;exact FA hc
     have cb:=aa (fun w g=>GK s[pos].toNat w g h8);have Ep:Hid (∀(w:World),Gu w->Calls prog 195 #[.agg #[.int .u8 a,.int .u8 b,.int .u8 c,.int .u8 d,.int .u8 e,.int .u8 f,.int .u8 g2,.int .u8 h],.int .u8 s[pos].toNat] w fun r w'=>r=.returned (lP (nx q s[pos].toNat))/\Below w.heap.size w w'):=fun w g=>by have:=cb.out w g;rw[<-hq,e1.out]at this;exact this
     clear cb;have cb:=Ep;clear Ep h8;have Pr:decide (q=IntKind.i8)=true:=decide_eq_true hq;rw[Pr]at pX;rw[gj]at jW lY;clear gj oP sJ hc hq Pr Nk;cases hn:nx q s[pos].toNat with
     |none=>
      have eA:=aa (show lP (run p (bl s))=.tuple #[.agg #[.int .u8 0,.int .u8 0,.int .u8 0,.int .u8 0,.int .u8 0,.int .u8 0,.int .u8 0,.int .u8 0],.bool false]by rw[oh qH.out (by rw[zw];exact run_cons_no hn)];rfl);rw[hn]at cb;simp only[lP,sp]at cb;clear zw hn;go_wp2_with(go_at_call 194;refine(bR.out _).mono ?_;rintro r w2 ⟨rfl,gi⟩;have jm:=gi.symm;clear gi;subst jm)
      go_region_with(go_at_call 195;refine(cb.out W1.drew zv.out.drew).mono ?_;rintro r w2 ⟨rfl,aq⟩;have T2:Hid (Below w.heap.size w w2):=ac JE.out.drew aq;have sp2:Hid (SB w2 w.heap.size a b c d e f g2 h):=gy.out.drew.below aq gy.out.lt;have sr2:Hid (SB w2 (w.heap.size+1) 0 0 0 0 0 0 0 0):=lX.out.drew.below aq lX.out.lt;have it2:=aa ((aq.block _ (show w.heap.size+1+1<W1.drew.heap.size from(Array.getElem?_eq_some_iff.1 lY.out).1)).trans lY.out);clear aq;obtain⟨m0,m1,m2,m3,m4,m5,m6,m7,f0,f1,f2,f3,f4,f5,f6,f7⟩:=sp2.out.cells;obtain⟨r0,r1,r2,r3,r4,r5,r6,r7,k0,k1,k2,k3,k4,k5,k6,k7⟩:=sr2.out.cells)
      all_goals
       go_wp2_with fail
       exact bodyPost_ret (v:=.tuple #[.agg #[.int .u8 0,.int .u8 0,.int .u8 0,.int .u8 0,.int .u8 0,.int .u8 0,.int .u8 0,.int .u8 0],.bool false]) (pF Tryz.results158 _ _ (w.heap.size+1) _ rfl rfl (by refine SB.set (a:=0) (b:=0) (c:=0) (d:=0) (e:=0) (f:=0) (g:=0) (h:=0) ?_;(iterate 8 refine SB.other ?_ (by omega));exact sr2.out)) rfl ⟨by rw[eA.out],by(iterate 16 refine ao ?_ (by omega));exact T2.out⟩
     |some q'=>
      obtain⟨a',b',c',d',e',f',g3,h',e2,_⟩:=kh q';have hnext:=aa (show run p ((bl s).take (pos+1))=some q' from mL qH.out (by rw[zw];simp[run,hn]));rw[hn]at cb;simp only[lP,e2,sp]at cb;have e2:=aa e2;clear zw hn;go_wp2_with(go_at_call 194;refine(bR.out _).mono ?_;rintro r w2 ⟨rfl,gi⟩;have jm:=gi.symm;clear gi;subst jm)
      go_region_with(go_at_call 195;refine(cb.out W1.drew zv.out.drew).mono ?_;rintro r w2 ⟨rfl,aq⟩;have T2:Hid (Below w.heap.size w w2):=ac JE.out.drew aq;have sp2:Hid (SB w2 w.heap.size a b c d e f g2 h):=gy.out.drew.below aq gy.out.lt;have sr2:Hid (SB w2 (w.heap.size+1) 0 0 0 0 0 0 0 0):=lX.out.drew.below aq lX.out.lt;have it2:=aa ((aq.block _ (show w.heap.size+1+1<W1.drew.heap.size from(Array.getElem?_eq_some_iff.1 lY.out).1)).trans lY.out);clear aq;obtain⟨m0,m1,m2,m3,m4,m5,m6,m7,f0,f1,f2,f3,f4,f5,f6,f7⟩:=sp2.out.cells;obtain⟨r0,r1,r2,r3,r4,r5,r6,r7,k0,k1,k2,k3,k4,k5,k6,k7⟩:=sr2.out.cells)
      all_goals
       go_wp2_with fail
       go_roundw
       case rel=>exact⟨pos+1,q',rfl,by(iterate 8 refine ao ?_ (by omega));exact T2.out,⟨a',b',c',d',e',f',g3,h',e2.out,sp2.out.set⟩,by(iterate 8 refine SB.other ?_ (by omega));exact sr2.out,by(iterate 8 refine sG ?_ (by omega));exact it2.out,by omega,hnext.out⟩
       case measure=>rw[hposit,iterPos_of (show _=_ by(iterate 8 refine sG ?_ (by omega));exact it2.out)];omega
   have aT:(nx q s[pos].toNat=none)\/(Utf8.decode s pos).2=1:=by
    cases hc:chr ((bl s).drop pos)with
    |some rn=>
     left;rw[zw]at hc;exact AB hq (Bu hc)
    |none=>right;rw[gj,hc];rfl
   have cb:Hid (∀(w:World),Gu w->Calls prog 195 #[.agg #[.int .u8 a,.int .u8 b,.int .u8 c,.int .u8 d,.int .u8 e,.int .u8 f,.int .u8 g2,.int .u8 h],.int .u8 s[pos].toNat] w fun r w'=>r=.returned (lP (nx q s[pos].toNat))/\Below w.heap.size w w'):=fun w g=>by have:=GJ q hq s[pos].toNat w g;rw[e1.out]at this;exact this
   have Pr:decide (q=IntKind.i8)=false:=decide_eq_false hq;rw[Pr]at pX;obtain⟨D1,Cg⟩:∃D1,(Utf8.decode s pos).1=D1:=⟨_,rfl⟩
   obtain⟨D2,zB⟩:∃D2,(Utf8.decode s pos).2=D2:=⟨_,rfl⟩
   rw[Cg]at jW;rw[zB]at lY aT;clear gj oP Pr Nk Cg zB;cases hn:nx q s[pos].toNat with
   |none=>
    have eA:=aa (show lP (run p (bl s))=.tuple #[.agg #[.int .u8 0,.int .u8 0,.int .u8 0,.int .u8 0,.int .u8 0,.int .u8 0,.int .u8 0,.int .u8 0],.bool false]by rw[oh qH.out (by rw[zw];exact run_cons_no hn)];rfl);rw[hn]at cb;simp only[lP,sp]at cb;clear zw hn;go_wp2_with(fail)
    go_region_with(go_at_call 195;refine(cb.out W1.drew zv.out.drew).mono ?_;rintro r w2 ⟨rfl,aq⟩;have T2:Hid (Below w.heap.size w w2):=ac JE.out.drew aq;have sp2:Hid (SB w2 w.heap.size a b c d e f g2 h):=gy.out.drew.below aq gy.out.lt;have sr2:Hid (SB w2 (w.heap.size+1) 0 0 0 0 0 0 0 0):=lX.out.drew.below aq lX.out.lt;have it2:=aa ((aq.block _ (show w.heap.size+1+1<W1.drew.heap.size from(Array.getElem?_eq_some_iff.1 lY.out).1)).trans lY.out);clear aq;obtain⟨m0,m1,m2,m3,m4,m5,m6,m7,f0,f1,f2,f3,f4,f5,f6,f7⟩:=sp2.out.cells;obtain⟨r0,r1,r2,r3,r4,r5,r6,r7,k0,k1,k2,k3,k4,k5,k6,k7⟩:=sr2.out.cells)
    all_goals
     go_wp2_with fail
     exact bodyPost_ret (v:=.tuple #[.agg #[.int .u8 0,.int .u8 0,.int .u8 0,.int .u8 0,.int .u8 0,.int .u8 0,.int .u8 0,.int .u8 0],.bool false]) (pF Tryz.results158 _ _ (w.heap.size+1) _ rfl rfl (by refine SB.set (a:=0) (b:=0) (c:=0) (d:=0) (e:=0) (f:=0) (g:=0) (h:=0) ?_;(iterate 8 refine SB.other ?_ (by omega));exact sr2.out)) rfl ⟨by rw[eA.out],by(iterate 16 refine ao ?_ (by omega));exact T2.out⟩
   |some q'=>
    obtain⟨a',b',c',d',e',f',g3,h',e2,_⟩:=kh q';have hnext:=aa (show run p ((bl s).take (pos+1))=some q' from mL qH.out (by rw[zw];simp[run,hn]));have hD:D2=1:=by
     rcases aT with h1|h1
     ·rw[hn]at h1;cases h1
     exact h1
    subst hD;clear aT;rw[hn]at cb;simp only[lP,e2,sp]at cb;have e2:=aa e2;clear zw hn;go_wp2_with(fail)
    go_region_with(go_at_call 195;refine(cb.out W1.drew zv.out.drew).mono ?_;rintro r w2 ⟨rfl,aq⟩;have T2:Hid (Below w.heap.size w w2):=ac JE.out.drew aq;have sp2:Hid (SB w2 w.heap.size a b c d e f g2 h):=gy.out.drew.below aq gy.out.lt;have sr2:Hid (SB w2 (w.heap.size+1) 0 0 0 0 0 0 0 0):=lX.out.drew.below aq lX.out.lt;have it2:=aa ((aq.block _ (show w.heap.size+1+1<W1.drew.heap.size from(Array.getElem?_eq_some_iff.1 lY.out).1)).trans lY.out);clear aq;obtain⟨m0,m1,m2,m3,m4,m5,m6,m7,f0,f1,f2,f3,f4,f5,f6,f7⟩:=sp2.out.cells;obtain⟨r0,r1,r2,r3,r4,r5,r6,r7,k0,k1,k2,k3,k4,k5,k6,k7⟩:=sr2.out.cells)
    all_goals
     go_wp2_with fail
     go_roundw
     case rel=>exact⟨pos+1,q',rfl,by(iterate 8 refine ao ?_ (by omega));exact T2.out,⟨a',b',c',d',e',f',g3,h',e2.out,sp2.out.set⟩,by(iterate 8 refine SB.other ?_ (by omega));exact sr2.out,by(iterate 8 refine sG ?_ (by omega));exact it2.out,by omega,hnext.out⟩
     case measure=>rw[hposit,iterPos_of (show _=_ by(iterate 8 refine sG ?_ (by omega));exact it2.out)];omega
  have Ss:pos=s.size:=by have:=T.out.le;omega
  subst Ss;have jW:∀ty,(Instr.next (.pointer (some ⟨w.heap.size+1+1,0,none⟩)) true ty).run prog wr=.ok (.tuple #[.bool false]) wr:=fun ty=>Lib.run_next_end_at wr _ s _ ty T.out.it hp;obtain⟨a,b,c,d,e,f,g2,h,e1,sb⟩:=T.out.sbp;obtain⟨c0,c1,c2,c3,c4,c5,c6,c7,_⟩:=sb.cells;obtain⟨r0,r1,r2,r3,r4,r5,r6,r7,k0,k1,k2,k3,k4,k5,k6,k7⟩:=T.out.sbr.cells;have eA:=aa (show lP (run p (bl s))=.tuple #[.agg #[.int .u8 a,.int .u8 b,.int .u8 c,.int .u8 d,.int .u8 e,.int .u8 f,.int .u8 g2,.int .u8 h],.bool true]by have:=T.out.hr;rw[List.take_of_length_le (by rw[bl_length];omega)]at this;rw[this];simp only[lP,e1,sp])
  clear e1;have sb:=aa sb;go_wp2_with fail
  exact bodyPost_ret (v:=.tuple #[.agg #[.int .u8 a,.int .u8 b,.int .u8 c,.int .u8 d,.int .u8 e,.int .u8 f,.int .u8 g2,.int .u8 h],.bool true]) (pF Tryz.results158 _ _ (w.heap.size+1) _ rfl rfl T.out.sbr.set) rfl ⟨by rw[eA.out],by have:=T.out.below;(iterate 8 refine ao ?_ (by omega));exact this⟩
def okT(l:List UInt8):Bool:=decide (run .i8 l=some .i8)
theorem yJ(l:List UInt8):okT l=true↔run .i8 l=some .i8:=by simp[okT]
theorem Kh{o:Option St}{l:List UInt8}(h:run .i8 l=o):okT l=(o.isSome&&(o.getD .i16==.i8)):=by
 unfold okT;rw[h];cases o with
 |none=>rfl
 |some q=>cases q<;>rfl
theorem Gu.bts{w:World}(g:Gu w):w.cell? ⟨4,0,none⟩=some (.int .u8 0)/\w.cell? ⟨4,1,none⟩=some (.int .u8 0)/\w.cell? ⟨4,2,none⟩=some (.int .u8 0)/\w.cell? ⟨4,3,none⟩=some (.int .u8 0)/\w.cell? ⟨4,4,none⟩=some (.int .u8 0)/\w.cell? ⟨4,5,none⟩=some (.int .u8 0)/\w.cell? ⟨4,6,none⟩=some (.int .u8 0)/\w.cell? ⟨4,7,none⟩=some (.int .u8 0) :=
 ⟨g.btc 0 (by omega),g.btc 1 (by omega),g.btc 2 (by omega),g.btc 3 (by omega),g.btc 4 (by omega),g.btc 5 (by omega),g.btc 6 (by omega),g.btc 7 (by omega)⟩
theorem Gu.bt1{w:World}(g:Gu w):(∀o,(w.alloc o).cell? ⟨4,0,none⟩=some (.int .u8 0))/\(∀o,(w.alloc o).cell? ⟨4,1,none⟩=some (.int .u8 0))/\(∀o,(w.alloc o).cell? ⟨4,2,none⟩=some (.int .u8 0))/\(∀o,(w.alloc o).cell? ⟨4,3,none⟩=some (.int .u8 0))/\(∀o,(w.alloc o).cell? ⟨4,4,none⟩=some (.int .u8 0))/\(∀o,(w.alloc o).cell? ⟨4,5,none⟩=some (.int .u8 0))/\(∀o,(w.alloc o).cell? ⟨4,6,none⟩=some (.int .u8 0))/\(∀o,(w.alloc o).cell? ⟨4,7,none⟩=some (.int .u8 0)):=by have k:∀o,Gu (w.alloc o):=fun o=>g.below (ab af);exact⟨fun o=>(k o).btc 0 (by omega),fun o=>(k o).btc 1 (by omega),fun o=>(k o).btc 2 (by omega),fun o=>(k o).btc 3 (by omega),fun o=>(k o).btc 4 (by omega),fun o=>(k o).btc 5 (by omega),fun o=>(k o).btc 6 (by omega),fun o=>(k o).btc 7 (by omega)⟩
theorem yn(s:ByteArray)(w:World)(g:Gu w)(hs:s.size<9223372036854775807):Calls prog 158 #[.agg #[.int .u8 0,.int .u8 0,.int .u8 0,.int .u8 0,.int .u8 0,.int .u8 0,.int .u8 0,.int .u8 0],.string s] w fun r w'=>r=.returned (lP (run .i8 (bl s)))/\Below w.heap.size w w':=ue .i8 s w g hs
theorem valid_any(s:ByteArray)(w:World)(g:Gu w)(hs:s.size<9223372036854775807):Calls prog 129 #[.string s] w fun r w'=>r=.returned (.bool (okT (bl s)))/\Below w.heap.size w w':=by
 obtain⟨b0,b1,b2,b3,b4,b5,b6,b7⟩:=g.bts;have g:=aa g;have ht:=aa (yn s w g.out hs);obtain⟨o,ho⟩:∃o,run .i8 (bl s)=o:=⟨_,rfl⟩
 rw[Kh ho];rw[ho]at ht;clear ho;cases o with
 |none=>
  simp only[lP,sp]at ht;go_enter func129,ntmps129;go_wp2_with(go_at_call 158;refine ht.out.mono ?_;rintro r w1 ⟨rfl,ai⟩;obtain⟨d0,d1,d2,d3,d4,d5,d6,d7⟩:=(g.out.below ai).bt1;have ai:=aa ai)
  go_ret;exact⟨rfl,ab ai.out⟩
 |some q=>
  obtain⟨a,b,c,d,e,f,g2,h,e1,pX⟩:=kh q;simp only[lP,e1,sp]at ht;clear e1;go_enter func129,ntmps129;go_wp2_with(go_at_call 158;refine ht.out.mono ?_;rintro r w1 ⟨rfl,ai⟩;obtain⟨d0,d1,d2,d3,d4,d5,d6,d7⟩:=(g.out.below ai).bt1;have ai:=aa ai)
  go_ret;exact⟨by simp,ab ai.out⟩
theorem oL(r:Int)(w:World)(h0:-9223372036854775808<=r)(h1:r<=9223372036854775807):Calls prog 246 #[.int .i64 r] w fun e w'=>e=.returned (.bool (Utf8.valid r))/\w'=w:=by
 have e:Utf8.valid r=decide ((0<=r/\r<55296)\/(55295+2048<r/\r<=1114111)):=by simp only[Utf8.valid];rw[Bool.eq_iff_iff];simp only[Bool.or_eq_true,Bool.and_eq_true,decide_eq_true_eq];omega
 rw[e];go_enter func246,ntmps246;go_wp2
 all_goals
  go_ret;refine⟨congrArg Ending.returned (show Value.bool _=Value.bool _ from congrArg Value.bool ?_),rfl⟩
  first
   |rfl
   |(rw[Bool.eq_iff_iff];simp;omega)
theorem encode_any(r:Int)(w:World)(h0:-9223372036854775808<=r)(h1:r<=9223372036854775807):Calls prog 235 #[.int .i64 r] w fun e w'=>e=.returned (.tuple (if Utf8.valid r then #[.string (Utf8.encode r),.int .i64 0] else #[.string ⟨#[]⟩,.int .i64 1]))/\w'=w:=by
 have hc:=aa (fun w=>oL r w h0 h1);cases hv:Utf8.valid r
 ·rw[hv]at hc
  go_enter func235,ntmps235;go_wp2_with(go_at_call 246;refine(hc.out _).mono ?_;rintro e w1 ⟨rfl,rfl⟩)
  go_ret2;exact⟨rfl,rfl⟩
 rw[hv]at hc;have hw:IntKind.i32.wrap r=r:=by
  have:0<=r/\r<=1114111:=by simp only[Utf8.valid,Bool.or_eq_true,Bool.and_eq_true,decide_eq_true_eq]at hv;omega
  rw[IntKind.wrap_i32];omega
 clear hv;go_enter func235,ntmps235;go_wp2_with(go_at_call 246;refine(hc.out _).mono ?_;rintro e w1 ⟨rfl,rfl⟩)
 go_ret2;exact⟨rfl,rfl⟩
section
open Go.ChangeShapes Go.WideShapes Go.ChangeAt Go.RowKit Go.Joins
theorem c5:Tryz.prog.cellsOf 5=1:=by kernel_rfl
theorem UQ:Tryz.prog.cellsOf 147=2:=by kernel_rfl
theorem UP:Tryz.prog.cellsOf 149=8:=by kernel_rfl
theorem Xo:Tryz.prog.cellsOf 202=64:=by kernel_rfl
theorem split_at'(k n:Nat)(cs:List Value):cs.drop k=(cs.drop k).take n++cs.drop (k+n):=by rw[<-List.drop_drop];exact(List.take_append_drop n _).symm
theorem spans_cells{W:World}{fuel:Nat}{cs:List Value}{p:List MemPlace}{a b c d e f g h:Int}
  (hd:DataW.trod (fun _=>()) prog W 0 (fun _=>true) false fuel 149 cs=some (.agg [.agg [.lit (.int .u8 a),.lit (.int .u8 b)],.agg [.lit (.int .u8 c),.lit (.int .u8 d)],.agg [.lit (.int .u8 e),.lit (.int .u8 f)],.agg [.lit (.int .u8 g),.lit (.int .u8 h)]],p)) :
  cs=[.int .u8 a,.int .u8 b,.int .u8 c,.int .u8 d,.int .u8 e,.int .u8 f,.int .u8 g,.int .u8 h]:=by
 obtain⟨xs,m1,rfl,dx,aL,zn,qM⟩:=DataW.trod_array Tryz.underlying149 hd;rw[UP]at aL;have key:∀(i:Nat) (x y:Int),i<4->([.agg [.lit (.int .u8 a),.lit (.int .u8 b)],.agg [.lit (.int .u8 c),.lit (.int .u8 d)],.agg [.lit (.int .u8 e),.lit (.int .u8 f)],.agg [.lit (.int .u8 g),.lit (.int .u8 h)]]:List (DataW Unit))[i]?=some (.agg [.lit (.int .u8 x),.lit (.int .u8 y)])->(cs.drop (i*2)).take 2=[.int .u8 x,.int .u8 y]:=by intro i x y hi uZ;obtain⟨fuel',d',q,jE,he⟩:=Lib.array_elem Tryz.underlying149 hd i hi;rw[uZ]at jE;obtain rfl:=Option.some.inj jE;rw[UQ]at he;exact Lib.cells_of_tab (zs:=[x,y]) Tryz.underlying147 Tryz.underlying5 c5 UQ he
 have k0:=key 0 a b (by omega) rfl;have k1:=key 1 c d (by omega) rfl;have k2:=key 2 e f (by omega) rfl;have k3:=key 3 g h (by omega) rfl;have e0:cs=cs.drop 0:=rfl;rw[e0,split_at' 0 2 cs,split_at' (0+2) 2 cs,split_at' (0+2+2) 2 cs,split_at' (0+2+2+2) 2 cs,List.drop_of_length_le (i:=0+2+2+2+2) (by omega)];simp only[Nat.zero_mul,Nat.one_mul]at k0 k1 k2 k3;rw[k0,k1,k2,k3];rfl
theorem longer_cells{W:World}{fuel:Nat}{cs:List Value}{p:List MemPlace}
  (hd:DataW.trod (fun _=>()) prog W 0 (fun _=>true) false fuel 202 cs=some (Rows.laid_calamus_utf_longer,p)):cs=lgC.toList:=by
 obtain⟨xs,m1,rfl,dx,aL,zn,qM⟩:=DataW.trod_array Tryz.underlying202 hd;rw[Xo]at aL;have key:∀(i:Nat),i<8->∃fuel' q d',(match (Rows.laid_calamus_utf_longer:DataW Unit)with | .agg ds=>ds|_=>[])[i]?=some d'/\DataW.trod (fun _=>()) prog W 0 (fun _=>true) false fuel' 149 ((cs.drop (i*8)).take 8)=some (d',q):=by intro i hi;obtain⟨fuel',d',q,jE,he⟩:=Lib.array_elem Tryz.underlying202 hd i hi;rw[UP]at he;exact⟨fuel',q,d',jE,he⟩
 have k0:(cs.drop (0*8)).take 8=[.int .u8 194,.int .u8 223,.int .u8 128,.int .u8 191,.int .u8 0,.int .u8 0,.int .u8 0,.int .u8 0]:=by obtain⟨fuel',q,d',jE,he⟩:=key 0 (by omega);obtain rfl:=Option.some.inj jE;exact spans_cells he
 have k1:(cs.drop (1*8)).take 8=[.int .u8 224,.int .u8 224,.int .u8 160,.int .u8 191,.int .u8 128,.int .u8 191,.int .u8 0,.int .u8 0]:=by obtain⟨fuel',q,d',jE,he⟩:=key 1 (by omega);obtain rfl:=Option.some.inj jE;exact spans_cells he
 have k2:(cs.drop (2*8)).take 8=[.int .u8 225,.int .u8 236,.int .u8 128,.int .u8 191,.int .u8 128,.int .u8 191,.int .u8 0,.int .u8 0]:=by obtain⟨fuel',q,d',jE,he⟩:=key 2 (by omega);obtain rfl:=Option.some.inj jE;exact spans_cells he
 have k3:(cs.drop (3*8)).take 8=[.int .u8 237,.int .u8 237,.int .u8 128,.int .u8 159,.int .u8 128,.int .u8 191,.int .u8 0,.int .u8 0]:=by obtain⟨fuel',q,d',jE,he⟩:=key 3 (by omega);obtain rfl:=Option.some.inj jE;exact spans_cells he
 have k4:(cs.drop (4*8)).take 8=[.int .u8 238,.int .u8 239,.int .u8 128,.int .u8 191,.int .u8 128,.int .u8 191,.int .u8 0,.int .u8 0]:=by obtain⟨fuel',q,d',jE,he⟩:=key 4 (by omega);obtain rfl:=Option.some.inj jE;exact spans_cells he
 have k5:(cs.drop (5*8)).take 8=[.int .u8 240,.int .u8 240,.int .u8 144,.int .u8 191,.int .u8 128,.int .u8 191,.int .u8 128,.int .u8 191]:=by obtain⟨fuel',q,d',jE,he⟩:=key 5 (by omega);obtain rfl:=Option.some.inj jE;exact spans_cells he
 have k6:(cs.drop (6*8)).take 8=[.int .u8 241,.int .u8 243,.int .u8 128,.int .u8 191,.int .u8 128,.int .u8 191,.int .u8 128,.int .u8 191]:=by obtain⟨fuel',q,d',jE,he⟩:=key 6 (by omega);obtain rfl:=Option.some.inj jE;exact spans_cells he
 have k7:(cs.drop (7*8)).take 8=[.int .u8 244,.int .u8 244,.int .u8 128,.int .u8 143,.int .u8 128,.int .u8 191,.int .u8 128,.int .u8 191]:=by obtain⟨fuel',q,d',jE,he⟩:=key 7 (by omega);obtain rfl:=Option.some.inj jE;exact spans_cells he
 have e0:cs=cs.drop 0:=rfl;rw[e0,split_at' 0 8 cs,split_at' (0+8) 8 cs,split_at' (0+8+8) 8 cs,split_at' (0+8+8+8) 8 cs,split_at' (0+8+8+8+8) 8 cs,split_at' (0+8+8+8+8+8) 8 cs,split_at' (0+8+8+8+8+8+8) 8 cs,split_at' (0+8+8+8+8+8+8+8) 8 cs,List.drop_of_length_le (i:=0+8+8+8+8+8+8+8+8) (by omega)];simp only[Nat.reduceMul,Nat.reduceAdd]at k0 k1 k2 k3 k4 k5 k6 k7 ⊢;rw[k0,k1,k2,k3,k4,k5,k6,k7];rfl
theorem heap_of_var{W:World}{n:String}{g:Nat}{cs:Array Value}(hg:Tryz.prog.globalNamed n=some g)(h:W.var? prog n=some cs):∃t fr,W.heap[g]?=some (.cells cs t fr):=by
 simp only[World.var?,hg,Option.bind_some]at h
 split at h
 ·rename_i cs' t fr e
  obtain rfl:=Option.some.inj h;exact⟨t,fr,e⟩
 cases h
end
