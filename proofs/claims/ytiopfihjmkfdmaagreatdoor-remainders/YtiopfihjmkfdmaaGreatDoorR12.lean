import Derived.Test.YtiopfihjmkfdmaaGreatDoorR9
import Derived.Deep.AppendLies
import Derived.Deep.DrawnRows
import Derived.Deep.RegionHeld3
import Derived.Deep.RegionLaw
import Derived.LaidEql
import Derived.Laws.Externs
import Derived.Lib.AppendIntMem
import Derived.Lib.AppendStr
import Derived.Lib.Builder
import Derived.Lib.SmallJoins
import Derived.Lib.UnsafeStr
import Derived.OwnWalk
import Derived.RowKitTokens
import Derived.Stop.Asserts
namespace Go.Proofs.YtiopfihjmkfdmaaGreatDoor
open Option renaming none→M,some→Y
open Go.Value renaming int→I,bool→U,agg→J
open Go.IntKind renaming i64→O
open Go.Ending renaming returned→υ
open Go.Proofs.Tryz Sp
open Go.RowKit
set_option maxRecDepth 100000
set_option maxHeartbeats 16000000
theorem rp{w:Wd}{o:Obj}{b i:Nat}(cR:b<w.heap.size)(h:w.frozen? ⟨b,i,M⟩=false):(w.alloc o).drew.frozen? ⟨b,i,M⟩=false:=by rw[World.frozen?_of_block (w:=w) (w':=(w.alloc o).drew) (Below.heap_alloc _ _ _ cR)];exact h
theorem nw{w:Wd}{o:Obj}{b i:Nat}{v:Value}(cR:b<w.heap.size)(h:w.cell? ⟨b,i,M⟩=Y v):(w.alloc o).drew.cell? ⟨b,i,M⟩=Y v:=by rw[World.cell?_of_block (w:=w) (w':=(w.alloc o).drew) (Below.heap_alloc _ _ _ cR)];exact h
attribute [local go_sem ↓] Go.wp_at_zero Go.wp_at_succ
section
variable{er:Nat × Nat}
theorem kj.weaken{w:Wd}{B B':Nat}{v:Value}(h:kj w B v er)(hB:B'<=B):kj w B' v er:=by
 rcases h with h | ⟨N,h1,h2,h3⟩
 ·exact .inl h
 ·exact .inr ⟨N,Nat.le_trans hB h1,h2,h3⟩
theorem kj.set{w:Wd}{B S i:Nat}{v u:Value}(h:kj w B v er)(hS:S<B):kj (w.setCell ⟨S,i,M⟩ u) B v er:=by
 rcases h with h | ⟨N,h1,h2,h3⟩
 ·exact .inl h
 ·exact .inr ⟨N,h1,h2,by rw[Below.heap_setCell _ _ _ _ (by show N≠S;omega)];exact h3⟩
theorem qk(n g:Int)(w:Wd)(h:0<=n)(h':n<=g):Calls prog 42 #[I O n,I O g] w fun e w'=>e=υ (U true)/\w'=w:=by go_enter func42,ntmps42;go_wp2_with fail;go_ret;exact⟨rfl,rfl⟩
theorem JU(p k:Int)(v:Value)(w:Wd):(method 587 279 (J #[I O p,I O k,v]) "Where").run prog w=.ok (72,I O p) w:=by kernel_rfl
theorem OW(p k:Int)(w:Wd):(method 587 283 (J #[I O p,I O k]) "Where").run prog w=.ok (72,I O p) w:=by kernel_rfl
theorem JL(p q k:Int)(v u:Value)(w:Wd):(method 587 287 (J #[I O p,I O q,I O k,v,u]) "Where").run prog w=.ok (72,I O p) w:=by kernel_rfl
theorem QR(p k:Int)(v u b c e:Value)(w:Wd):(method 587 290 (J #[I O p,I O k,v,u,b,c,e]) "Where").run prog w=.ok (72,I O p) w:=by kernel_rfl
theorem Mt(p k:Int)(v u b:Value)(w:Wd):(method 587 293 (J #[I O p,I O k,v,u,b]) "Where").run prog w=.ok (72,I O p) w:=by kernel_rfl
end
end Go.Proofs.YtiopfihjmkfdmaaGreatDoor
