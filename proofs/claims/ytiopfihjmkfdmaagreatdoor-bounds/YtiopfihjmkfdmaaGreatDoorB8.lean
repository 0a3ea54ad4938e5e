import Derived.Test.YtiopfihjmkfdmaaGreatDoorB7
import Derived.Deep.AppendLies
import Derived.Deep.DrawnRows
import Derived.Deep.RegionHeld3
import Derived.Deep.RegionLaw
import Derived.LaidEql
import Derived.Laws.Externs
import Derived.Lib.AppendIntMem
import Derived.Lib.AppendStr
import Derived.Lib.Builder
import Derived.Lib.SmallJoins
import Derived.Lib.UnsafeStr
import Derived.OwnWalk
import Derived.RowKitTokens
import Derived.Stop.Asserts
namespace Go.Proofs.YtiopfihjmkfdmaaGreatDoor
open Go.Proofs.Tryz Sp
open Go.RowKit
set_option maxRecDepth 100000
set_option maxHeartbeats 16000000
theorem qZ{w:Wd}{o:Obj}{b i:Nat}(dj:b<w.heap.size)(h:w.frozen? ⟨b,i,none⟩=false):(w.alloc o).drew.frozen? ⟨b,i,none⟩=false:=by rw[World.frozen?_of_block (w:=w) (w':=(w.alloc o).drew) (Below.heap_alloc _ _ _ dj)];exact h
theorem mG{w:Wd}{o:Obj}{b i:Nat}{v:Value}(dj:b<w.heap.size)(h:w.cell? ⟨b,i,none⟩=some v):(w.alloc o).drew.cell? ⟨b,i,none⟩=some v:=by rw[World.cell?_of_block (w:=w) (w':=(w.alloc o).drew) (Below.heap_alloc _ _ _ dj)];exact h
attribute [local go_sem ↓] Go.wp_at_zero Go.wp_at_succ
section
variable{w:Wd}
variable{v u:Value}
variable{er:Nat × Nat}
theorem iR.weaken{B B':Nat}(h:iR w B v er)(hB:B'<=B):iR w B' v er:=by
 rcases h with h | ⟨N,h1,h2,h3⟩
 ·exact .inl h
 ·exact .inr ⟨N,Nat.le_trans hB h1,h2,h3⟩
theorem iR.set{B S i:Nat}(h:iR w B v er)(hS:S<B):iR (w.setCell ⟨S,i,none⟩ u) B v er:=by
 rcases h with h | ⟨N,h1,h2,h3⟩
 ·exact .inl h
 ·exact .inr ⟨N,h1,h2,by rw[Below.heap_setCell _ _ _ _ (by show N≠S;omega)];exact h3⟩
theorem tT{base DD n:Nat}{e:TypeId}{sz:Nat}{vs:List Value}(h:w.ownsRow base e sz v n vs)(hb:DD<=base):w.ownsRow DD e sz v n vs:=by
 obtain⟨h1,h2⟩:=h;refine⟨h1,?_⟩
 rcases h2 with h2 | ⟨g,cap,cur,rfl,hg,r⟩
 ·exact .inl h2
 ·exact .inr ⟨g,cap,cur,rfl,Nat.le_trans hb hg,r⟩
theorem pY(n g:Int)(w:Wd)(h:0<=n)(h':n<=g):Calls prog 42 #[.int .i64 n,.int .i64 g] w fun e w'=>e=.returned (.bool true)/\w'=w:=by go_enter func42,ntmps42;go_wp2_with fail;go_ret;exact⟨rfl,rfl⟩
theorem Ih(p k:Int)(v:Value)(w:Wd):(method 587 279 (.agg #[.int .i64 p,.int .i64 k,v]) "Where").run prog w=.ok (72,.int .i64 p) w:=by kernel_rfl
theorem PI(p k:Int)(w:Wd):(method 587 283 (.agg #[.int .i64 p,.int .i64 k]) "Where").run prog w=.ok (72,.int .i64 p) w:=by kernel_rfl
theorem ID(p q k:Int)(v u:Value)(w:Wd):(method 587 287 (.agg #[.int .i64 p,.int .i64 q,.int .i64 k,v,u]) "Where").run prog w=.ok (72,.int .i64 p) w:=by kernel_rfl
theorem QE(p k:Int)(v u b c e:Value)(w:Wd):(method 587 290 (.agg #[.int .i64 p,.int .i64 k,v,u,b,c,e]) "Where").run prog w=.ok (72,.int .i64 p) w:=by kernel_rfl
theorem Ll(p k:Int)(v u b:Value)(w:Wd):(method 587 293 (.agg #[.int .i64 p,.int .i64 k,v,u,b]) "Where").run prog w=.ok (72,.int .i64 p) w:=by kernel_rfl
end
end Go.Proofs.YtiopfihjmkfdmaaGreatDoor
