/- Merged by program: TjUp. -/
import Derived.Test.YthodiandebahdaaGreatDoorZy22
namespace Go.Proofs.YthodiandebahdaaGreatDoor
open Go.RowKit
set_option linter.unusedSimpArgs false
set_option linter.unusedVariables false
set_option maxHeartbeats 8000000
def up:(n:Nat)→VT n→VT (n + 1)
 | 0,x=>Empty.elim x
 | n + 1,x=>((x.1,x.2.map (up n)):Hd×List (VT (n + 1)))
theorem up_hd:∀ (n:Nat) (x:VT n),vhd (n + 1) (up n x)=vhd n x
 | 0,x=>Empty.elim x
 | n + 1,x=>rfl
theorem up_fl:∀ (n:Nat) (x:VT n),fl (n + 1) (up n x)=fl n x
 | 0,x=>Empty.elim x
 | n + 1,x=>by
  obtain ⟨h,l⟩:=x
  show fl (n + 2) ((h,l.map (up n)):VT (n + 2))=fl (n + 1) ((h,l):VT (n + 1))
  rw [fl_succ,fl_succ]
  have:kids (n + 1) h (l.map (up n)) (l.map (up n)).length=kids n h l l.length:=by
   unfold kids
   rw [List.length_map]
   congr 1
   apply List.map_congr_left
   intro i hi
   unfold kid
   congr 1
   rw [List.getElem?_map]
   cases l[i]? with
   | none=>rfl
   | some y=>exact up_fl n y
  rw [this]
theorem up_isv:∀ (n:Nat) (x:VT n),IsV n x→IsV (n + 1) (up n x)
 | 0,x,_=>Empty.elim x
 | n + 1,x,hv=>by
  obtain ⟨h,l⟩:=x
  obtain ⟨⟨b1,b2,b3,b4⟩,⟨f1,f2,f3,f4⟩,hc⟩:=hv
  refine ⟨⟨b1,b2,b3,?_⟩,⟨f1,f2,fun q=>?_,fun q=>?_⟩,?_⟩
  ·rcases b4 with q|q
   ·exact Or.inl q
   ·right
    show l.map (up n)=[]
    rw [show l=[] from q];rfl
  ·have:=f3 q
   show h.names.length=(l.map (up n)).length∧Nms h.names
   rw [List.length_map];exact this
  ·have:=f4 q
   show okT h.text=true∧(l.map (up n)).length=1
   rw [List.length_map];exact this
  ·intro y hy
   have hy:y∈l.map (up n):=hy
   obtain ⟨z,hz,rfl⟩:=List.mem_map.1 hy
   exact up_isv n z (hc z hz)
theorem up_rd:∀ (n:Nat) (w:World) (x:VT n) (ns ls:Value),RD n w x ns ls→RD (n + 1) w (up n x) ns ls
 | 0,w,x,_,_,_=>Empty.elim x
 | n + 1,w,x,ns,ls,hr=>by
  obtain ⟨h,l⟩:=x
  obtain ⟨h1,h2⟩:=hr
  refine ⟨h1,?_⟩
  rcases h2 with ⟨e1,e2⟩|⟨b,o,c,sp,e1,e2,e3,e4,e5⟩
  ·refine Or.inl ⟨e1,?_⟩
   show l.map (up n)=[]
   rw [show l=[] from e2];rfl
  ·refine Or.inr ⟨b,o,c,sp,?_,?_,e3,?_,?_⟩
   ·show ls=.slice _ (l.map (up n)).length c
    rw [List.length_map];exact e1
   ·show (l.map (up n)).length≤c
    rw [List.length_map];exact e2
   ·show 0<(l.map (up n)).length→_
    rw [List.length_map];exact e4
   ·intro i hi
    have hi2:i<(l.map (up n)).length:=hi
    have hi':i<l.length:=by rwa [List.length_map] at hi2
    obtain ⟨ns',ls',k1,k2⟩:=e5 i hi'
    have eg:(l.map (up n))[i]'hi2=up n (l[i]'hi'):=List.getElem_map ..
    refine ⟨ns',ls',?_,?_⟩
    ·show w.rangeAt b (o + i * 9) (vals (vhd (n + 1) ((l.map (up n))[i]'hi2)) ns' ls').toList
     rw [eg,up_hd];exact k1
    ·show RD (n + 1) w ((l.map (up n))[i]'hi2) ns' ls'
     rw [eg];exact up_rd n w _ _ _ k2
def ups (n:Nat) (x:VT n):(k:Nat)→VT (n + k)
 | 0=>x
 | k + 1=>up (n + k) (ups n x k)
section
variable (n : Nat) (x : VT n)
theorem ups_hd:∀ k,vhd (n + k) (ups n x k)=vhd n x
 | 0=>rfl
 | k + 1=>(up_hd (n + k) _).trans (ups_hd k)
theorem ups_fl:∀ k,fl (n + k) (ups n x k)=fl n x
 | 0=>rfl
 | k + 1=>(up_fl (n + k) _).trans (ups_fl k)
theorem ups_isv (h:IsV n x):∀ k,IsV (n + k) (ups n x k)
 | 0=>h
 | k + 1=>up_isv (n + k) _ (ups_isv h k)
theorem ups_rd {w:World} {ns ls:Value} (h:RD n w x ns ls):∀ k,RD (n + k) w (ups n x k) ns ls
 | 0=>h
 | k + 1=>up_rd (n + k) w _ _ _ (ups_rd h k)
end
theorem same_tree (n m:Nat) (x:VT n) (y:VT m) (hx:IsV n x) (hy:IsV m y) (he:fl n x=fl m y):∃ (N:Nat) (z:VT N),vhd N z=vhd n x∧vhd N z=vhd m y∧(∀ w ns ls,RD n w x ns ls→RD N w z ns ls)∧(∀ w ns ls,RD m w y ns ls→RD N w z ns ls):=by
 have e:∃ a:VT (n + m),a=ups n x m:=⟨_,rfl⟩
 obtain ⟨b,hb⟩:∃ b:VT (n + m),(fl (n + m) b=fl m y)∧IsV (n + m) b∧vhd (n + m) b=vhd m y∧(∀ w ns ls,RD m w y ns ls→RD (n + m) w b ns ls):=by
  have hc:m + n=n + m:=Nat.add_comm _ _
  have:∀ (N:Nat) (hN:m + n=N),∃ b:VT N,(fl N b=fl m y)∧IsV N b∧vhd N b=vhd m y∧(∀ w ns ls,RD m w y ns ls→RD N w b ns ls):=by
   intro N hN
   subst hN
   exact ⟨ups m y n,ups_fl m y n,ups_isv m y hy n,ups_hd m y n,fun w ns ls h=>ups_rd m y h n⟩
  exact this _ hc
 obtain ⟨b1,b2,b3,b4⟩:=hb
 have hab:ups n x m=b:=(fl_inj (n + m) _ _ (ups_isv n x hx m) b2 [] [] (by rw [ups_fl,b1,he])).1
 refine ⟨n + m,b,?_,b3,?_,b4⟩
 ·rw [←hab];exact ups_hd n x m
 ·intro w ns ls h
  rw [←hab];exact ups_rd n x h m
end Go.Proofs.YthodiandebahdaaGreatDoor
