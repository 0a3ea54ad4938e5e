import Derived.Test.YtiopfihjmkfdmaaGreatDoorB7
import Derived.Deep.RegionHeld3
import Derived.Laws.Externs
import Derived.Lib.AppendIntMem
import Derived.Lib.AppendStr
import Derived.Lib.Builder
import Derived.Lib.SmallJoins
import Derived.Lib.UnsafeStr
namespace Go.Proofs.YtiopfihjmkfdmaaGreatDoor
open Go.Proofs.Tryz Sp
open Go.RowKit
set_option maxRecDepth 100000
set_option maxHeartbeats 16000000
section
variable{er:Nat × Nat}
theorem sA{w:Wd}{B:Nat}{v:Value}(h:iR w B v er):∃t u,v=.iface t u:=by
 rcases h with⟨rfl,_⟩ | ⟨N,_,rfl,_⟩
 ·exact⟨_,_,rfl⟩
 ·exact⟨_,_,rfl⟩
theorem iR.laid{w:Wd}{B:Nat}{v:Value}(h:iR w B v er)(o:Obj):iR (w.alloc o) B v er:=by
 rcases h with h | ⟨N,h1,h2,h3⟩
 ·exact .inl h
 ·exact .inr ⟨N,h1,h2,heap_alloc_old h3⟩
end
end Go.Proofs.YtiopfihjmkfdmaaGreatDoor
