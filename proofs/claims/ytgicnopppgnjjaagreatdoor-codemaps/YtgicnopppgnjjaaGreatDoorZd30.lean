/- Merged by program: TlTok. -/
import Derived.Test.YtgicnopppgnjjaaGreatDoorZd23
import Derived.Test.YtgicnopppgnjjaaGreatDoorZd24
import Derived.Test.YtgicnopppgnjjaaGreatDoorZd11
import Derived.Test.YtgicnopppgnjjaaGreatDoorZd07
import Derived.Test.YtgicnopppgnjjaaGreatDoorZd09
set_option linter.unusedSimpArgs false
set_option linter.unusedVariables false
namespace Go.Proofs.YtgicnopppgnjjaaGreatDoor
namespace Lx
def mk (s:List UInt8):Tk:=⟨4,s,0⟩
def wd (s:List UInt8):Tk:=⟨1,s,0⟩
def ntk (s:List UInt8):Tk:=if (prR [wd s]).1=0 then wd s else ⟨2,s,0⟩
def ctk (h:Hd):Tk:=if h.kind=5 then ⟨2,bl h.text,0⟩ else if h.kind=3 then ⟨3,printL h.neg (bl h.dig) h.exp,0⟩ else if h.kind=1 then wd [110,117,108,108] else if h.flag=true then wd [116,114,117,101] else wd [102,97,108,115,101]
def sepT (c:Tk):List (List Tk)→List Tk
 | []=>[]
 | [a]=>a
 | a :: b :: r=>a++c :: sepT c (b :: r)
theorem sep_snoc (c:Tk):∀ (l:List (List Tk)) (a:List Tk),sepT c (l++[a])=(if l=[] then a else sepT c l++c :: a)
 | [],a=>rfl
 | [b],a=>by simp [sepT]
 | b :: d :: l,a=>by
  have:=sep_snoc c (d :: l) a
  rw [if_neg (by simp)] at this ⊢
  simp only [List.cons_append] at this ⊢
  simp only [sepT]
  rw [this]
  simp
def btw (o:List UInt8) (l:List Tk) (s:List UInt8):List Tk:=mk o :: (l++[mk s])
def itm (m:List UInt8) (ns:List ByteArray) (ks:List (List Tk)):List (List Tk):=(ns.zip ks).map fun x=>ntk (bl x.1) :: mk m :: x.2
def nmd (m:List UInt8) (ns:List ByteArray) (ks:List (List Tk)):List Tk:=btw [123] (sepT (mk [44]) (itm m ns ks)) [125]
def plW (op:Int):List UInt8:=if op=1 then [105,100] else if op=8 then [116,111,116,101,120,116] else if op=9 then [116,111,110,117,109] else if op=10 then [115,117,109] else if op=11 then [99,111,117,110,116] else []
def mtk:(n:Nat)→ET n→List Tk
 | 0,_=>[]
 | n + 1,x =>
  if x.1.op=2 then [mk [46],ntk (bl x.1.name)]
  else if x.1.op=5 then [wd [116,97,103],ntk (bl x.1.name)]
  else if x.1.op=7 then [wd [99,111,110,115,116],ctk (vhd x.1.vn x.1.val)]
  else if x.1.op=4 then btw [91] ((x.2.map (mtk n)).headD []) [93]
  else if x.1.op=3 then nmd [61] x.1.names (x.2.map (mtk n))
  else if x.1.op=6 then wd [99,97,115,101] :: nmd [61] x.1.names (x.2.map (mtk n))
  else if x.1.op=12 then sepT (mk [59]) (x.2.map fun y=>if (ehd n y).op=12 then btw [40] (mtk n y) [41] else mtk n y)
  else [wd (plW x.1.op)]
end Lx
end Go.Proofs.YtgicnopppgnjjaaGreatDoor
