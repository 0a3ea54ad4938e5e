import Derived.Test.YtiopfihjmkfdmabGreatDoorC7
import Derived.Deep.RegionHeld3
import Derived.Laws.Externs
import Derived.Lib.AppendIntMem
import Derived.Lib.AppendStr
import Derived.Lib.Builder
import Derived.Lib.SmallJoins
import Derived.Lib.UnsafeStr
namespace Go.Proofs.YtiopfihjmkfdmabGreatDoor
open Go.Value renaming iface->σ
open Go.Proofs.Tryz Sp
open Go.RowKit
set_option maxRecDepth 100000
set_option maxHeartbeats 16000000
section
variable{er:Nat×Nat}
theorem Bz{w:Wd}{B:Nat}{v:Value}(h:lD w B v er):∃t u,v=σ t u:=by
 rcases h with⟨rfl,_⟩|⟨N,_,rfl,_⟩
 .exact⟨_,_,rfl⟩
 .exact⟨_,_,rfl⟩
theorem lD.laid{w:Wd}{B:Nat}{v:Value}(h:lD w B v er)(o:Obj):lD (w.alloc o) B v er:=by
 rcases h with h|⟨N,h1,h2,h3⟩
 .exact .inl h
 .exact .inr ⟨N,h1,h2,heap_alloc_old h3⟩
end
end Go.Proofs.YtiopfihjmkfdmabGreatDoor
