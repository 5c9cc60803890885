/- Merged by program: JoTally. -/
import Derived.Test.YtpimjkdakjhoaaaGreatDoorZk14
namespace Go.Proofs.YtpimjkdakjhoaaaGreatDoor
open Go.RowKit
set_option linter.unusedSimpArgs false
set_option linter.unusedVariables false
set_option maxHeartbeats 8000000
structure Tp where
 kind:Int
 items:Nat
def tcs (p:Tp):List Value:=[.int .i64 p.kind,.int .i64 p.items]
def txs (ps:List Tp):List Value:=ps.flatMap tcs
theorem txs_length (ps:List Tp):(txs ps).length=ps.length * 2:=by
 induction ps with
 | nil=>rfl
 | cons a l ih=>simp only [txs,List.flatMap_cons,List.length_append,List.length_cons] at *;rw [ih];simp [tcs];omega
theorem txs_app (a b:List Tp):txs (a++b)=txs a++txs b:=by simp [txs]
theorem txs_one (p:Tp):txs [p]=tcs p:=by simp [txs]
theorem txs_at (qs:List Tp) (p:Tp) (r:Nat):(txs (qs++[p]))[qs.length * 2 + r]?=(tcs p)[r]?:=by
 rw [txs_app,txs_one,List.getElem?_append_right (by rw [txs_length];omega),txs_length,Nat.add_sub_cancel_left]
theorem txs_set (qs:List Tp) (p:Tp) (r:Nat) (u:Value):(txs (qs++[p])).set (qs.length * 2 + r) u=txs qs++(tcs p).set r u:=by
 rw [txs_app,txs_one,List.set_append_right _ _ (by rw [txs_length];omega),txs_length,Nat.add_sub_cancel_left]
def TyB (W:World) (t:Nat) (z:Nat) (v:Value):Prop:=W.heap[t]?=some (.cells #[.int .i64 z,v] 95 (0,0))
structure TyA (W:World) (t B:Nat) (v:Value) (z:Nat) (ps:List Tp):Prop where
 tb:TyB W t z v
 row:W.ownsRow B 156 2 v ps.length (txs ps)
 tB:t<B
 hB:B≤W.heap.size
 len:ps.length≤16
 siz:z≤4096
 its:∀ p∈ps,p.items≤256
section
variable {W W1 : World} {t B z : Nat} {v : Value} {ps : List Tp}
theorem TyB.cells (q:TyB W t z v):W.cell? ⟨t,0,none⟩=some (.int .i64 z)∧W.cell? ⟨t,1,none⟩=some v∧W.frozen? ⟨t,0,none⟩=false∧W.frozen? ⟨t,1,none⟩=false:=by
 unfold TyB at q
 simp [World.cell?,World.frozen?,q]
theorem TyB.lt (q:TyB W t z v):t<W.heap.size:=by
 by_cases h:t<W.heap.size
 ·exact h
 ·unfold TyB at q
  rw [Array.getElem?_eq_none (by omega)] at q
  cases q
theorem TyB.same (q:TyB W t z v) (h:W1.heap[t]?=W.heap[t]?):TyB W1 t z v:=by unfold TyB;rw [h];exact q
theorem TyB.set0 (q:TyB W t z v) (u:Nat):TyB (W.setCell ⟨t,0,none⟩ (.int .i64 u)) t u v:=by
 unfold TyB at q ⊢
 rw [setCell_eq_setRow W t 0 _ _ (0,0) _ q,setRow_heap W t _ _ _ (0,0) q]
 rfl
theorem TyB.set1 (q:TyB W t z v) (u:Value):TyB (W.setCell ⟨t,1,none⟩ u) t z u:=by
 unfold TyB at q ⊢
 rw [setCell_eq_setRow W t 1 _ _ (0,0) _ q,setRow_heap W t _ _ _ (0,0) q]
 rfl
theorem TyA.shape (c:TyA W t B v z ps):∃ a cp,v=.slice a ps.length cp:=by
 rcases c.row.2 with ⟨rfl,e⟩|⟨g,cap,cur,rfl,_⟩
 ·exact ⟨none,0,by rw [e]⟩
 ·exact ⟨_,_,rfl⟩
theorem TyA.then (h:TyA W t B v z ps) (hb:Below W.heap.size W W1):TyA W1 t B v z ps :=
 {h with tb:=h.tb.same (hb.block t h.tb.lt),row:=own_of h.row fun k _ hk=>hb.block k hk,hB:=Nat.le_trans h.hB hb.size}
theorem TyA.last {qs:List Tp} {p:Tp} (c:TyA W t B v z (qs++[p])):∃ g cp,v=.slice (some ⟨g,0,none⟩) (qs.length + 1) cp∧qs.length + 1≤cp∧cp≤maxLen∧B≤g∧W.cell? ⟨g,qs.length * 2,none⟩=some (.int .i64 p.kind)∧W.cell? ⟨g,qs.length * 2 + 1,none⟩=some (.int .i64 p.items)∧∀ j,W.frozen? ⟨g,j,none⟩=false:=by
 have hr:=c.row
 rw [List.length_append,List.length_singleton] at hr
 rcases hr.2 with ⟨_,e⟩|⟨g,cap,cur,rfl,h1,h2,h3,h4,h5,h6⟩
 ·omega
 ·refine ⟨g,cap,rfl,h3,h4,h1,?_,?_,fun j=>World.ownsRow.frozenAt hr j⟩
  ·rw [World.ownsRow.cellAt hr _ (by omega)];exact txs_at qs p 0
  ·rw [World.ownsRow.cellAt hr _ (by omega)];exact txs_at qs p 1
end
def lng (k:Int):Int:=if k=10∨k=9 then 64 else 4096
def begs (ps:List Tp) (k:Int):Bool:=match ps.getLast? with
 | none=>false
 | some p=>decide (k=10) || decide (p.kind=7)
theorem begs_last (qs:List Tp) (p:Tp) (k:Int):begs (qs++[p]) k=(decide (k=10) || decide (p.kind=7)):=by simp [begs]
def wan (k:Int):Nat:=if k=9 then 2 else 1
def few (ps:List Tp):Bool:=match ps.getLast? with
 | none=>true
 | some p=>decide (p.items<256)
def rom (z:Nat) (ps:List Tp) (k:Int):Bool:=decide (z + wan k≤4096) && decide (ps.length + wan k≤16) && (!begs ps k || few ps)
theorem longest_any (k:Int) (w:World):Calls Tryz.prog 138 #[.int .i64 k] w fun r w'=>r=.returned (.int .i64 (lng k))∧w'=w:=by
 by_cases h1:k=10
 ·subst h1
  go_enter Tryz.func138, Tryz.ntmps138
  go_wp2
  go_ret
  exact ⟨rfl,rfl⟩
 ·by_cases h2:k=9
  ·subst h2
   go_enter Tryz.func138, Tryz.ntmps138
   go_wp2
   go_ret
   exact ⟨rfl,rfl⟩
  ·have e1:(k==10)=false:=by simpa using h1
   have e2:(k==9)=false:=by simpa using h2
   have e3:Hid (lng k=4096):=by show lng k=4096;unfold lng;simp [h1,h2]
   go_enter Tryz.func138, Tryz.ntmps138
   go_wp2
   go_ret
   exact ⟨by rw [e3.out];rfl,rfl⟩
section
variable {W W1 : World} {t B z : Nat} {v : Value} {ps : List Tp}
theorem TyA.begins (c:TyA W t B v z ps) (k:Int):Calls Tryz.prog 149 #[.pointer (some ⟨t,0,none⟩),.int .i64 k] W fun r w'=>r=.returned (.bool (begs ps k))∧∃ m,w'=W.drewN m:=by
 have ml:maxLen=9223372036854775807:=rfl
 rcases List.eq_nil_or_concat ps with rfl|⟨qs,p,rfl⟩
 ·obtain ⟨a,cp,rfl⟩:=c.shape
  obtain ⟨c0,c1,f0,f1⟩:=c.tb.cells
  clear c
  go_enter Tryz.func149, Tryz.ntmps149
  go_wp2
  go_ret
  exact ⟨rfl,0,rfl⟩
 ·rw [List.concat_eq_append] at c ⊢
  obtain ⟨g,cp,rfl,h1,h2,h3,k0,k1,kf⟩:=c.last
  obtain ⟨c0,c1,f0,f1⟩:=c.tb.cells
  have e1:(k==10)=decide (k=10):=by rw [Bool.eq_iff_iff];simp
  have hb:Hid (begs (qs++[p]) k=((k==10) || (p.kind==7))):=by show _=_;rw [begs_last,Bool.eq_iff_iff];simp
  have hw:IntKind.i64.wrap ((qs.length:Int) + 1 - 1)=(qs.length:Int):=by rw [IntKind.wrap_i64] <;> omega
  have hw2:IntKind.i64.wrap ((qs.length:Int))=(qs.length:Int):=by rw [IntKind.wrap_i64] <;> omega
  clear c e1
  cases hk:(k==10)
  ·go_enter Tryz.func149, Tryz.ntmps149
   go_wp2
   go_quiet (fail)
   go_wp2
   go_ret
   exact ⟨by rw [hb.out,hk];first|rfl|(simp;done)|trace_state,_,rfl⟩
  ·have hk10:k=10:=by simpa using hk
   subst hk10
   go_enter Tryz.func149, Tryz.ntmps149
   go_wp2
   go_quiet (fail)
   go_wp2
   go_ret
   exact ⟨by rw [hb.out,hk];rfl,_,rfl⟩
theorem hasRoom_any (c:TyA W t B v z ps) (k:Int):Calls Tryz.prog 139 #[.pointer (some ⟨t,0,none⟩),.int .i64 k] W fun r w'=>r=.returned (.bool (rom z ps k))∧∃ m,w'=W.drewN m:=by
 have ml:maxLen=9223372036854775807:=rfl
 have hsz:=c.siz
 have hln:=c.len
 obtain ⟨c0,c1,f0,f1⟩:=c.tb.cells
 have BG:Hid (∀ m,Calls Tryz.prog 149 #[.pointer (some ⟨t,0,none⟩),.int .i64 k] (W.drewN m) fun r w'=>r=.returned (.bool (begs ps k))∧∃ m,w'=W.drewN m):=fun m=>((c.then (W1:=W.drewN m) ⟨rfl,rfl,rfl,Nat.le_refl _,fun _ _=>rfl⟩).begins k).mono (by rintro r w' ⟨h1,m',rfl⟩;exact ⟨h1,m + m',by simp [World.drewN,Nat.add_assoc]⟩)
 by_cases h9:k=9
 ·subst h9
  have hwan:Hid (wan 9=2):=rfl
  have hw1:IntKind.i64.wrap ((z:Int) + 2)=(z:Int) + 2:=by rw [IntKind.wrap_i64] <;> omega
  have hw2:IntKind.i64.wrap ((ps.length:Int) + 2)=(ps.length:Int) + 2:=by rw [IntKind.wrap_i64] <;> omega
  by_cases g1:4096<z + 2
  ·have d1:decide ((4096:Int)<(z:Int) + 2)=true:=by simp;omega
   obtain ⟨a,cp,rfl⟩:=c.shape
   have hR:Hid (rom z ps 9=false):=by show rom z ps 9=false;unfold rom;rw [hwan.out];simp;omega
   clear c
   go_enter Tryz.func139, Tryz.ntmps139
   go_wp2
   go_ret
   exact ⟨by rw [hR.out];rfl,0,rfl⟩
  ·have d1:decide ((4096:Int)<(z:Int) + 2)=false:=by simp;omega
   by_cases g2:16<ps.length + 2
   ·have d2:decide ((16:Int)<(ps.length:Int) + 2)=true:=by simp;omega
    obtain ⟨a,cp,rfl⟩:=c.shape
    have hR:Hid (rom z ps 9=false):=by show rom z ps 9=false;unfold rom;rw [hwan.out];simp;omega
    clear c
    go_enter Tryz.func139, Tryz.ntmps139
    go_wp2
    go_ret
    exact ⟨by rw [hR.out];rfl,0,rfl⟩
   ·have d2:decide ((16:Int)<(ps.length:Int) + 2)=false:=by simp;omega
    have hR:Hid (rom z ps 9=(!begs ps 9 || few ps)):=by show rom z ps 9=_;unfold rom;rw [hwan.out,decide_eq_true (show z + 2≤4096 by omega),decide_eq_true (show ps.length + 2≤16 by omega)];rfl
    cases hbg:begs ps 9
    ·rw [hbg] at BG
     obtain ⟨a,cp,rfl⟩:=c.shape
     clear c
     go_enter Tryz.func139, Tryz.ntmps139
     go_wp2
     go_quiet (first|(go_at_call 149;exact BG.out _))
     all_goals
      go_wp2
      go_ret
      exact ⟨by rw [hR.out,hbg];rfl,_,rfl⟩
    ·rw [hbg] at BG
     rcases List.eq_nil_or_concat ps with rfl|⟨qs,p,rfl⟩
     ·cases hbg
     ·rw [List.concat_eq_append] at c hbg hR hw2 d2 hln g2 ⊢
      obtain ⟨g,cp,rfl,l1,l2,l3,k0,k1,kf⟩:=c.last
      have hfw:Hid (few (qs++[p])=decide ((p.items:Int)<256)):=by show _=_;unfold few;rw [List.getLast?_append,List.getLast?_singleton];rw [Bool.eq_iff_iff];simp;omega
      have hv:IntKind.i64.wrap ((qs.length:Int) + 1 - 1)=(qs.length:Int):=by rw [IntKind.wrap_i64] <;> omega
      have hv2:IntKind.i64.wrap ((qs.length:Int))=(qs.length:Int):=by rw [IntKind.wrap_i64] <;> omega
      rw [List.length_append,List.length_singleton] at g2
      clear c hln hw2 d2
      have hw2:IntKind.i64.wrap ((qs.length:Int) + 1 + 2)=(qs.length:Int) + 1 + 2:=by rw [IntKind.wrap_i64] <;> omega
      have d2:decide ((16:Int)<(qs.length:Int) + 1 + 2)=false:=by simp;omega
      clear g2
      go_enter Tryz.func139, Tryz.ntmps139
      go_wp2
      go_quiet (first|(go_at_call 149;exact BG.out _))
      all_goals
       go_wp2
       go_ret
       exact ⟨by rw [hR.out,hbg,hfw.out,Bool.not_true,Bool.false_or];first|exact rfl|(with_reducible rfl)|(simp;done)|trace_state,_,rfl⟩
 ·have e9:(k==9)=false:=by simpa using h9
  have hwan:Hid (wan k=1):=by show wan k=1;unfold wan;simp [h9]
  have hw1:IntKind.i64.wrap ((z:Int) + 1)=(z:Int) + 1:=by rw [IntKind.wrap_i64] <;> omega
  have hw2:IntKind.i64.wrap ((ps.length:Int) + 1)=(ps.length:Int) + 1:=by rw [IntKind.wrap_i64] <;> omega
  by_cases g1:4096<z + 1
  ·have d1:decide ((4096:Int)<(z:Int) + 1)=true:=by simp;omega
   obtain ⟨a,cp,rfl⟩:=c.shape
   have hR:Hid (rom z ps k=false):=by show rom z ps k=false;unfold rom;rw [hwan.out];simp;omega
   clear c
   go_enter Tryz.func139, Tryz.ntmps139
   go_wp2
   go_ret
   exact ⟨by rw [hR.out];rfl,0,rfl⟩
  ·have d1:decide ((4096:Int)<(z:Int) + 1)=false:=by simp;omega
   by_cases g2:16<ps.length + 1
   ·have d2:decide ((16:Int)<(ps.length:Int) + 1)=true:=by simp;omega
    obtain ⟨a,cp,rfl⟩:=c.shape
    have hR:Hid (rom z ps k=false):=by show rom z ps k=false;unfold rom;rw [hwan.out];simp;omega
    clear c
    go_enter Tryz.func139, Tryz.ntmps139
    go_wp2
    go_ret
    exact ⟨by rw [hR.out];rfl,0,rfl⟩
   ·have d2:decide ((16:Int)<(ps.length:Int) + 1)=false:=by simp;omega
    have hR:Hid (rom z ps k=(!begs ps k || few ps)):=by show rom z ps k=_;unfold rom;rw [hwan.out,decide_eq_true (show z + 1≤4096 by omega),decide_eq_true (show ps.length + 1≤16 by omega)];rfl
    cases hbg:begs ps k
    ·rw [hbg] at BG
     obtain ⟨a,cp,rfl⟩:=c.shape
     clear c
     go_enter Tryz.func139, Tryz.ntmps139
     go_wp2
     go_quiet (first|(go_at_call 149;exact BG.out _))
     all_goals
      go_wp2
      go_ret
      exact ⟨by rw [hR.out,hbg];rfl,_,rfl⟩
    ·rw [hbg] at BG
     rcases List.eq_nil_or_concat ps with rfl|⟨qs,p,rfl⟩
     ·cases hbg
     ·rw [List.concat_eq_append] at c hbg hR hw2 d2 hln g2 ⊢
      obtain ⟨g,cp,rfl,l1,l2,l3,k0,k1,kf⟩:=c.last
      have hfw:Hid (few (qs++[p])=decide ((p.items:Int)<256)):=by show _=_;unfold few;rw [List.getLast?_append,List.getLast?_singleton];rw [Bool.eq_iff_iff];simp;omega
      have hv:IntKind.i64.wrap ((qs.length:Int) + 1 - 1)=(qs.length:Int):=by rw [IntKind.wrap_i64] <;> omega
      have hv2:IntKind.i64.wrap ((qs.length:Int))=(qs.length:Int):=by rw [IntKind.wrap_i64] <;> omega
      rw [List.length_append,List.length_singleton] at g2
      clear c hln hw2 d2
      have hw2:IntKind.i64.wrap ((qs.length:Int) + 1 + 1)=(qs.length:Int) + 1 + 1:=by rw [IntKind.wrap_i64] <;> omega
      have d2:decide ((16:Int)<(qs.length:Int) + 1 + 1)=false:=by simp;omega
      clear g2
      go_enter Tryz.func139, Tryz.ntmps139
      go_wp2
      go_quiet (first|(go_at_call 149;exact BG.out _))
      all_goals
       go_wp2
       go_ret
       exact ⟨by rw [hR.out,hbg,hfw.out,Bool.not_true,Bool.false_or];first|exact rfl|(with_reducible rfl)|(simp;done)|trace_state,_,rfl⟩
end
end Go.Proofs.YtpimjkdakjhoaaaGreatDoor
