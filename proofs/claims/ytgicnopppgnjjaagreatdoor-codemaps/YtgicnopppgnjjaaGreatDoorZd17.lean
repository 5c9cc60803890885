/- Merged by program: XpCopy. -/
import Derived.Test.YtgicnopppgnjjaaGreatDoorZd07
import Derived.Laws.OwnMore
import Derived.Deep.AppendLies
import Derived.Deep.RegionHeld3
import Derived.Deep.RegionLaw
set_option linter.unusedSimpArgs false
set_option linter.unusedVariables false
namespace Go.Proofs.YtgicnopppgnjjaaGreatDoor
open Go.RowKit
def scs (l:List ByteArray):List Value:=l.map Value.string
theorem scs_length (l:List ByteArray):(scs l).length=l.length:=by simp [scs]
theorem scs_one (l:List ByteArray):∀ v∈scs l,v.oneCell'=true:=by
 intro u hu
 simp only [scs,List.mem_map] at hu
 obtain ⟨c,_,rfl⟩:=hu
 rfl
theorem info9:(Tryz.prog.info? 9).map (fun i=>(i.zero,i.size,i.bytes))=some (some (.string ⟨#[]⟩),1,16):=by kernel_rfl
def OwnS (W:World) (B:Nat) (v:Value) (l:List ByteArray):Prop:=W.ownsRow B 9 1 v l.length (scs l)
theorem NL.news {w:World} {b o sp:Nat} {a:Addr} {n c:Nat} {l:List ByteArray} (h:NL w (.slice (some a) n c) l):∀ j u,(scs l)[j]?=some u→w.cell? (a.add j)=some u:=by
 rcases h with ⟨e,_⟩|⟨b,o,c,sp,e,h1,h2,h3,hc⟩
 ·cases e
 ·simp only [Value.slice.injEq,Option.some.injEq] at e
  obtain ⟨rfl,_,rfl⟩:=e
  intro j u hj
  simp only [scs,List.getElem?_map] at hj
  obtain ⟨x,hx,rfl⟩:=Option.map_eq_some_iff.1 hj
  obtain ⟨hjl,rfl⟩:=List.getElem?_eq_some_iff.1 hx
  obtain ⟨rfl,_⟩:=h3 (by omega)
  rw [show (⟨b,o,none⟩:Addr).add j=⟨b,o + j,none⟩ by unfold Addr.add;split <;> simp_all]
  exact hc j hjl
section
variable {w : World} {ops : Array Oper} {rest : List Oper} {o : Oper} {a : Act} {Q : Exit → Act → World → Prop}
theorem app_names (hgd:o.guard=none) (s x:Operand) (ho:o.op=.call {callee:=.builtin .append,args:=#[s,x],argTypes:=#[23,23]})
  (hs:a.eval s=.slice none 0 0) (an:Option Addr) (n cn:Nat) (l:List ByteArray) (hx:a.eval x=.slice an n cn) (hn:l.length=n) (hl:NL w (.slice an n cn) l) (hm:n≤281474976710)
  (h:∀ av c' w',Hid (OwnS w' w.heap.size (.slice av n c') l)→Hid (Below w.heap.size w w')→wpList Tryz.prog ops Q rest (a.put o.dst (.slice av n c')) w'):wpList Tryz.prog ops Q (o :: rest) a w:=by
 obtain ⟨i0,hi,hz0,hz1,hz2⟩:=info_parts info9
 cases an with
 | none =>
  have hn0:n=0∧cn=0∧l=[]:=by
   rcases hl with ⟨e,e2⟩|⟨_,_,_,_,e,_⟩
   ·simp only [Value.slice.injEq] at e;exact ⟨e.2.1,e.2.2,e2⟩
   ·cases e
  obtain ⟨rfl,rfl,rfl⟩:=hn0
  refine wpList_plain hgd fun K hK=>?_
  have hr:=run_append_owned_none (P:=Tryz.prog) w w.heap.size 23 o.type 9 i0 1 Tryz.underlying23 hi (.slice none 0 0) 0 [] (World.ownsRow_nil _ _ _ _)
  unfold Oper.wp execOp
  simp only [ho,resolve,invoke,builtin,Sem.run_bind,Sem.run_pure,Result.andThen_ok,List.map_toArray,List.map_cons,List.map_nil,hs,hx,hr]
  exact hK _ _ (h none 0 w (World.ownsRow_nil _ _ _ _) (Below.refl _ _))
 | some ad =>
  refine wpList_append_own_at w hgd s x 23 ho w.heap.size 9 i0 (.string ⟨#[]⟩) 1 16 Tryz.underlying23 hi hz0 hz1 hz2 rfl (by decide) (.slice none 0 0) 0 [] hs (World.ownsRow_nil _ _ _ _) ad n cn (scs l) hx (by rw [scs_length,hn];simp) (NL.news hl (b:=0) (o:=0) (sp:=0)) (scs_one _) ?_ ?_ (Nat.le_refl _) ?_
  ·unfold maxLen;omega
  ·omega
  ·intro v' w' h1 h2 h3 _
   simp only [Nat.zero_add,List.nil_append] at h1
   have h1':OwnS w' w.heap.size v' l:=by unfold OwnS;rw [hn];exact h1
   have hb:Below w.heap.size w w':=(Below.refl _ w).grown h2 (Nat.le_refl _) (fun k hk=>by cases hk)
   rcases h1.2 with ⟨rfl,e⟩|⟨g,cap,cur,rfl,_⟩
   ·subst e;exact h none 0 w' h1' hb
   ·exact h _ _ w' h1' hb
end
end Go.Proofs.YtgicnopppgnjjaaGreatDoor
