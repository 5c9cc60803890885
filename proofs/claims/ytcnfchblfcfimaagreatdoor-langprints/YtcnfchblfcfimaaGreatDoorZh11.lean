import Derived.Test.YtcnfchblfcfimaaGreatDoorZh03
set_option linter.all false
namespace Go.Proofs.YtcnfchblfcfimaaGreatDoor
open RowKit
def dd(l:List UInt8)(p:List UInt8):List UInt8:=l.take 1++(if 1<l.length then 46::l.drop 1 else [])++101::p
