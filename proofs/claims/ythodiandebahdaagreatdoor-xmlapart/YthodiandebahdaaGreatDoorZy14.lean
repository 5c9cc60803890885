/- Merged by program: EgFeed, JsIndex. -/
import Derived.Test.YthodiandebahdaaGreatDoorZy13
namespace Go.Proofs.YthodiandebahdaaGreatDoor
open Go.RowKit
set_option linter.unusedSimpArgs false
set_option linter.unusedVariables false
set_option maxHeartbeats 8000000
theorem take_any {W:World} {i B n:Nat} {st:List Pa} {bg:Bool} (h:Hd) (hz:EvZ h) (c:CkA W i B n st bg) (hi:i<W.heap.size) (hn:n≤200000):Calls Tryz.prog 65 #[.pointer (some ⟨i,0,none⟩),.agg (evs h)] W fun r w'=>TakeP W i B n (stepE st bg h) r w':=by
 by_cases h10:h.kind=10
 ·exact take_10 h hz h10 c hi hn
 ·by_cases h11:h.kind=11
  ·exact take_11 h h11 c hi
  ·exact take_v h h10 h11 c hi hn
def CkS (W:World) (i B n:Nat):Option (List Pa×Bool)→Prop
 | none=>Ck W i B (.slice none 0 0) [] false true
 | some x=>CkA W i B n x.1 x.2
theorem CkS.then {W W1:World} {i B n:Nat} {s:Option (List Pa×Bool)} (h:CkS W i B n s) (hb:Below W.heap.size W W1):CkS W1 i B n s:=by
 cases s with
 | none=>exact Ck.then h hb
 | some x=>exact CkA.then h hb
def feedE (s:Option (List Pa×Bool)) (q:Bool) (h:Hd):Option (List Pa×Bool):=if q then s.bind fun x=>stepE x.1 x.2 h else none
theorem brk {W:World} {i B:Nat} {v:Value} {b1 b2:Bool} (k:KB W i v b1 b2) (h1:i<B) (h2:B≤W.heap.size):Ck (((W.setCell ⟨i,0,none⟩ (.slice none 0 0)).setCell ⟨i,1,none⟩ (.bool false)).setCell ⟨i,2,none⟩ (.bool true)) i B (.slice none 0 0) [] false true :=
 Ck.new (((k.set0 _).set1 _).set2 _) h1 (by simpa using h2)
set_option maxRecDepth 100000 in
theorem cfeed_k {W:World} {i B n:Nat} (s:Option (List Pa×Bool)) (h:Hd) (hz:EvZ h) (c:CkS W i B n s) (hi:i<W.heap.size) (hiB:i<B) (hB:B≤W.heap.size) (hn:n≤200000) (g:Ut.Gu W) (q:Bool) (hq:q=true↔May h) :
  Calls Tryz.prog 35 #[.pointer (some ⟨i,0,none⟩),.agg (evs h)] W fun r w'=>r=.returned (.int .i64 (if (feedE s q h).isSome then 0 else 50))∧CkS w' i B (n + 1) (feedE s q h)∧BK i W w':=by
 have hB0:Hid (∀ o,Below W.heap.size W (W.alloc o)):=fun o=>below_al (Below.refl _ _)
 have E0:=hide (EB.new W h)
 have mb:=hide (fun o=>mayBe_any h hz (W.alloc o) (g.below (below_al (Below.refl _ _))) q hq)
 cases s with
 | none =>
  have c':Ck W i B (.slice none 0 0) [] false true:=c
  obtain ⟨h0,h1,h2,h3,h4,h5⟩:=c'.kb.cells
  have hk:=hide c'.kb
  have hf:feedE none q h=none:=by unfold feedE;cases q <;> rfl
  rw [hf]
  clear c c' hf hq g
  obtain ⟨kd,fl,ng,dg,ex,bt,tx,nm⟩:=h
  simp only [evs]
  go_enter Tryz.func35, Tryz.ntmps35
  go_wp2
  go_ret
  have t1:Ty W i:=hk.out.ty
  refine ⟨rfl,Ck.then (brk hk.out hiB hB) (below_al (Below.refl _ _)),?_⟩
  refine BK.al ?_ (by simp;omega)
  exact (((BK.refl i W).set (p:=⟨i,0,none⟩) (Nat.le_refl i) t1 _).set (p:=⟨i,1,none⟩) (Nat.le_refl i) (t1.set _ _) _).set (p:=⟨i,2,none⟩) (Nat.le_refl i) ((t1.set _ _).set _ _) _
 | some x =>
  obtain ⟨st,bg⟩:=x
  have c':CkA W i B n st bg:=c
  have hkb:∃ v,KB W i v bg false:=by obtain ⟨v,ps,k,_⟩:=c';exact ⟨v,k.kb⟩
  obtain ⟨v0,hk0⟩:=hkb
  obtain ⟨h0,h1,h2,h3,h4,h5⟩:=hk0.cells
  cases q
  ·have hf:feedE (some (st,bg)) false h=none:=rfl
   rw [hf]
   have hk:=hide hk0
   clear c c' hf hq g hk0
   obtain ⟨kd,fl,ng,dg,ex,bt,tx,nm⟩:=h
   simp only [evs] at mb ⊢
   go_enter Tryz.func35, Tryz.ntmps35
   go_wp2_with (go_at_call 64;refine (mb.out _).mono ?_;rintro e w1 ⟨rfl,hb1⟩;have B1:=hide (below_then (hB0.out _) hb1);have K1:=hide (hk.out.same (B1.out.block i hi));clear hb1;obtain ⟨j0,j1,j2,l0,l1,l2⟩:=K1.out.cells)
   go_ret
   refine ⟨rfl,brk K1.out hiB (Nat.le_trans hB B1.out.size),?_⟩
   have t1:Ty w1 i:=K1.out.ty
   exact (((BK.of B1.out (Nat.le_of_lt hi)).set (p:=⟨i,0,none⟩) (Nat.le_refl i) t1 _).set (p:=⟨i,1,none⟩) (Nat.le_refl i) (t1.set _ _) _).set (p:=⟨i,2,none⟩) (Nat.le_refl i) ((t1.set _ _).set _ _) _
  ·have hf:feedE (some (st,bg)) true h=stepE st bg h:=rfl
   rw [hf]
   have tk:=hide (fun W1 (hb:Below W.heap.size W W1)=>take_any h hz (c'.then hb) (Nat.lt_of_lt_of_le hi hb.size) hn)
   have hk:=hide hk0
   clear c c' hf hq g hk0
   obtain ⟨o,ho⟩:∃ o,stepE st bg h=o:=⟨_,rfl⟩
   rw [ho] at tk ⊢
   clear ho
   obtain ⟨kd,fl,ng,dg,ex,bt,tx,nm⟩:=h
   have E0':=E0
   simp only [evs] at mb tk ⊢
   cases o with
   | none =>
    go_enter Tryz.func35, Tryz.ntmps35
    go_wp2_with (first
     | (go_at_call 64;refine (mb.out _).mono ?_;rintro e w1 ⟨rfl,hb1⟩;have B1:=hide (below_then (hB0.out _) hb1);have E1:=hide (E0.out.below hb1);clear hb1;obtain ⟨d0,d1,d2,d3,d4,d5,d6⟩:=E1.out.cells;simp only at d0 d1 d2 d3 d4 d5 d6)
     | (go_at_call 65;refine (tk.out _ B1.out).mono ?_;rintro e w2 ⟨he,hb2,⟨v2,b2,hk2⟩,_⟩;subst he;have B2:=hide hb2;have K2:=hide hk2;clear hb2 hk2;obtain ⟨j0,j1,j2,l0,l1,l2⟩:=K2.out.cells))
    go_ret
    refine ⟨rfl,brk K2.out hiB (Nat.le_trans hB (Nat.le_trans B1.out.size B2.out.below.size)),?_⟩
    have t1:Ty w2 i:=K2.out.ty
    exact ((((BK.of B1.out (Nat.le_of_lt hi)).trans B2.out).set (p:=⟨i,0,none⟩) (Nat.le_refl i) t1 _).set (p:=⟨i,1,none⟩) (Nat.le_refl i) (t1.set _ _) _).set (p:=⟨i,2,none⟩) (Nat.le_refl i) ((t1.set _ _).set _ _) _
   | some x =>
    go_enter Tryz.func35, Tryz.ntmps35
    go_wp2_with (first
     | (go_at_call 64;refine (mb.out _).mono ?_;rintro e w1 ⟨rfl,hb1⟩;have B1:=hide (below_then (hB0.out _) hb1);have E1:=hide (E0.out.below hb1);clear hb1;obtain ⟨d0,d1,d2,d3,d4,d5,d6⟩:=E1.out.cells;simp only at d0 d1 d2 d3 d4 d5 d6)
     | (go_at_call 65;refine (tk.out _ B1.out).mono ?_;rintro e w2 ⟨he,hb2,_,hc2⟩;subst he;have B2:=hide hb2;have C2:=hide (hc2 x rfl);clear hb2 hc2))
    go_ret
    exact ⟨rfl,C2.out,(BK.of B1.out (Nat.le_of_lt hi)).trans B2.out⟩
theorem cfeed_any {W:World} {i B n:Nat} (s:Option (List Pa×Bool)) (h:Hd) (hz:EvZ h) (c:CkS W i B n s) (hi:i<W.heap.size) (hiB:i<B) (hB:B≤W.heap.size) (hn:n≤200000) (g:Ut.Gu W) (q:Bool) (hq:q=true↔May h) :
  Calls Tryz.prog 35 #[.pointer (some ⟨i,0,none⟩),.agg (evs h)] W fun r w'=>r=.returned (.int .i64 (if (feedE s q h).isSome then 0 else 50))∧CkS w' i B (n + 1) (feedE s q h)∧Below i W w':=by
 refine (cfeed_k s h hz c hi hiB hB hn g q hq).mono ?_
 rintro r w' ⟨h1,h2,h3⟩
 exact ⟨h1,h2,h3.below⟩
theorem run_ibs (s:ByteArray) (c:Int) (w:World):(callFunc 117 #[.string s,.int .u8 c]).run Tryz.prog w=.ok (.value (.int .i64 (firstIdx s c.toNat.toUInt8))) w:=by
 rw [run_callFunc_indexByte Tryz.func117 (by kernel_rfl) (by kernel_rfl) (by kernel_rfl) (by kernel_rfl),run_indexByte_string]
 rfl
theorem slib_any (s:ByteArray) (c:Int) (w:World):Calls Tryz.prog 92 #[.string s,.int .u8 c] w fun r w'=>r=.returned (.int .i64 (firstIdx s c.toNat.toUInt8))∧w'=w:=by
 go_enter Tryz.func92, Tryz.ntmps92
 go_wp2_with (first|rw [run_ibs])
 go_ret
 exact ⟨rfl,rfl⟩
theorem sib_any (s:ByteArray) (c:Int) (w:World):Calls Tryz.prog 62 #[.string s,.int .u8 c] w fun r w'=>r=.returned (.int .i64 (firstIdx s c.toNat.toUInt8))∧w'=w:=by
 have h:=hide (slib_any s c w)
 go_enter Tryz.func62, Tryz.ntmps62
 go_wp2_with (go_at_call 92;refine h.out.mono ?_;rintro e w1 ⟨rfl,hw1⟩;have hw1s:=hw1.symm;clear hw1;subst hw1s)
 go_ret
 exact ⟨rfl,rfl⟩
end Go.Proofs.YthodiandebahdaaGreatDoor
