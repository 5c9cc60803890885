/- Merged by program: MlRef. -/
import Derived.Test.YtpimjkdakjhoaaaGreatDoorZw29
namespace Go.Proofs.YtpimjkdakjhoaaaGreatDoor
open Go.RowKit
set_option linter.unusedSimpArgs false
set_option linter.unusedVariables false
set_option maxHeartbeats 8000000
def RW (J:List UInt8) (E:Int) (w:World) (e:Ending) (w':World):Prop :=
 Below w.heap.size w w'∧(E≠0→e=.returned (.tuple #[.slice none 0 0,.int .i64 E]))∧(E=0→(J.length≤65536→∃ a c,e=.returned (.tuple #[.slice a J.length c,.int .i64 0])∧∀ W,Below w'.heap.size w' W→(convert 32 9 (.slice a J.length c)).run Tryz.prog W=.ok (.string (mkB J)) W)∧(65536<J.length→e=.returned (.tuple #[.slice none 0 0,.int .i64 2])))
set_option maxRecDepth 100000 in
theorem rwrite_any (n:Nat) (x:VT n) (ns ls:Value) (w:World) (hr:Rdy n w x ns ls) (hg:Rg n x) (E:Int) (hE:Chk n x E)
  (rck:∀ W,Below w.heap.size w W→Calls Tryz.prog 26 #[.agg (vals (vhd n x) ns ls)] W fun e w'=>e=.returned (.int .i64 E)∧Below W.heap.size W w') :
  Calls Tryz.prog 11 #[.agg (vals (vhd n x) ns ls)] w fun e w'=>RW (jtx n x) E w e w':=by
 obtain ⟨a1,m1,d1,a2,m2,d2,rfl,rfl⟩:=hr.rd.shape
 have tg:Hid (E=0→∀ W (hb:Below w.heap.size w W),Calls Tryz.prog 27 #[.agg (vals (vhd n x) (.slice a1 m1 d1) (.slice a2 m2 d2))] W fun e w'=>TxP W (jtx n x) e w'):=fun h0 W hb=>rtxt n x _ _ W ⟨hr.rd.below hb,(by
  rcases hE with ⟨e,_⟩|⟨e,_⟩|⟨_,q,r⟩
  ·omega
  ·omega
  ·exact ⟨q,r.1,hg⟩),(by
  rcases hE with ⟨e,_⟩|⟨e,_⟩|⟨_,q,r⟩
  ·omega
  ·omega
  ·have:=jtx_len n x q r.1
   have:=r.2.2
   omega)⟩
 have rck':=hide rck
 obtain ⟨h,hh⟩:∃ h,vhd n x=h:=⟨_,rfl⟩
 rw [hh] at tg rck' ⊢
 simp only [vals] at tg rck' ⊢
 obtain ⟨J,hJ⟩:∃ J,jtx n x=J:=⟨_,rfl⟩
 rw [hJ] at tg ⊢
 clear hJ hE hr hg hh rck
 have T0:Hid (Tw w h (.slice a1 m1 d1) (.slice a2 m2 d2) _):=Tw.new w _ _ _
 simp only [vals] at T0
 obtain ⟨v0,v1,v2,v3,v4,v5,v6,v7,v8⟩:=T0.out.bx.cells
 have hJs:(mkB J).size=J.length:=mkB_size J
 by_cases h0:E=0
 ·have tg1:=hide (tg.out h0)
  subst h0
  clear tg
  by_cases hz:J.length≤65536
  ·have hzi:¬ (65536:Int)<(J.length:Int):=by omega
   go_enter Tryz.func11, Tryz.ntmps11
   go_wp2_with (go_at_call 26;refine Sto.out ?_)
   refine Sto.mk ((rck'.out _ T0.out.be).mono ?_)
   rintro e w1 ⟨rfl,hb1⟩
   have T1:=hide (T0.out.then hb1)
   clear hb1 v0 v1 v2 v3 v4 v5 v6 v7 v8
   obtain ⟨v0,v1,v2,v3,v4,v5,v6,v7,v8⟩:=T1.out.bx.cells
   go_wp2_with (go_at_call 27;refine Sto.out ?_)
   refine Sto.mk ((tg1.out _ T1.out.be).mono ?_)
   rintro e w2 ⟨rfl,hb2⟩
   have T2:=hide (T1.out.then hb2)
   clear hb2 v0 v1 v2 v3 v4 v5 v6 v7 v8
   obtain ⟨c,W',hcv,hbW,hrd⟩:=conv_by w2 J
   have B3:=hide (T2.out.then hbW).be
   have R3:=hide hrd
   have hz':=hide hz
   clear hbW hrd hz
   go_wp2_with fail
   go_ret2
   exact ⟨B3.out,fun q=>absurd rfl q,fun _=>⟨fun _=>⟨_,_,rfl,R3.out⟩,fun q=>absurd hz'.out (by omega)⟩⟩
  ·have hzi:(65536:Int)<(J.length:Int):=by omega
   go_enter Tryz.func11, Tryz.ntmps11
   go_wp2_with (go_at_call 26;refine Sto.out ?_)
   refine Sto.mk ((rck'.out _ T0.out.be).mono ?_)
   rintro e w1 ⟨rfl,hb1⟩
   have T1:=hide (T0.out.then hb1)
   clear hb1 v0 v1 v2 v3 v4 v5 v6 v7 v8
   obtain ⟨v0,v1,v2,v3,v4,v5,v6,v7,v8⟩:=T1.out.bx.cells
   go_wp2_with (go_at_call 27;refine Sto.out ?_)
   refine Sto.mk ((tg1.out _ T1.out.be).mono ?_)
   rintro e w2 ⟨rfl,hb2⟩
   have T2:=hide (T1.out.then hb2)
   clear hb2 v0 v1 v2 v3 v4 v5 v6 v7 v8
   have hz':=hide hz
   clear hz
   go_wp2_with fail
   go_ret2
   exact ⟨T2.out.be,fun q=>absurd rfl q,fun _=>⟨fun q=>absurd q hz'.out,fun _=>rfl⟩⟩
 ·have hE0:(E==0)=false:=by simpa using h0
  have h0':=hide h0
  clear h0 tg
  go_enter Tryz.func11, Tryz.ntmps11
  go_wp2_with (go_at_call 26;refine Sto.out ?_)
  refine Sto.mk ((rck'.out _ T0.out.be).mono ?_)
  rintro e w1 ⟨rfl,hb1⟩
  have T1:=hide (T0.out.then hb1)
  clear hb1 v0 v1 v2 v3 v4 v5 v6 v7 v8
  go_wp2_with fail
  go_ret2
  exact ⟨T1.out.be,fun _=>rfl,fun q=>absurd q h0'.out⟩
end Go.Proofs.YtpimjkdakjhoaaaGreatDoor
