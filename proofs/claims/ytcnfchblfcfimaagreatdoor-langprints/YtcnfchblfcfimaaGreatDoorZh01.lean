import Derived.Test.YtcnfchblfcfimaaGreatDoorZh00
set_option linter.all false
namespace Go.Proofs.YtcnfchblfcfimaaGreatDoor
def val:List Nat->Nat
 | []=>0
 |d::l=>d*10^l.length+val l
def pi(l:List Nat):Prop:=∀d∈l,d<=9
def dg(s:ByteArray):List Nat:=(bl s).map fun c=>c.toNat-48
theorem gF(s:ByteArray):(dg s).length=s.size:=by simp[dg,bl_length]
theorem MB(s:ByteArray)(k:Nat)(h:k<s.size):(dg s)[k]'(by rw[gF];exact h)=s[k].toNat-48:=by simp only[dg,List.getElem_map];rw[bH s k h]
theorem Fu(s:ByteArray)(h:bW (bl s)=true):pi (dg s):=by intro d hd;simp only[dg,List.mem_map]at hd;obtain⟨c,hc,rfl⟩:=hd;have:=(bZ c).1 ((List.all_eq_true.1 h) c hc);omega
theorem kN(s:ByteArray)(h:bW (bl s)=true)(k:Nat)(hk:k<s.size):48<=s[k].toNat/\s[k].toNat<=57:=by
 have h1:s[k]∈bl s:=by rw[<-bH s k hk];exact List.getElem_mem _
 have:=(bZ s[k]).1 ((List.all_eq_true.1 h) _ h1);omega
