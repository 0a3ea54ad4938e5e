import Derived.Test.YtiopfihjmkfdmabGreatDoorC7
import Derived.Deep.AppendLies
import Derived.Deep.DrawnRows
import Derived.Deep.RegionHeld3
import Derived.Deep.RegionLaw
import Derived.LaidEql
import Derived.Laws.Externs
import Derived.Lib.AppendIntMem
import Derived.Lib.AppendStr
import Derived.Lib.Builder
import Derived.Lib.SmallJoins
import Derived.Lib.UnsafeStr
import Derived.OwnWalk
import Derived.RowKitTokens
import Derived.Stop.Asserts
namespace Go.Proofs.YtiopfihjmkfdmabGreatDoor
open Option renaming none->M,some->Y
open Go.Value renaming int->I,bool->U,agg->J
open Go.IntKind renaming i64->O
open Go.Ending renaming returned->υ
open Go.Proofs.Tryz Sp
open Go.RowKit
set_option maxRecDepth 100000
set_option maxHeartbeats 16000000
theorem sY{w:Wd}{o:Obj}{b i:Nat}(df:b<w.heap.size)(h:w.frozen? ⟨b,i,M⟩=false):(w.alloc o).drew.frozen? ⟨b,i,M⟩=false:=by rw[World.frozen?_of_block (w:=w) (w':=(w.alloc o).drew) (Below.heap_alloc _ _ _ df)];exact h
theorem ox{w:Wd}{o:Obj}{b i:Nat}{v:Value}(df:b<w.heap.size)(h:w.cell? ⟨b,i,M⟩=Y v):(w.alloc o).drew.cell? ⟨b,i,M⟩=Y v:=by rw[World.cell?_of_block (w:=w) (w':=(w.alloc o).drew) (Below.heap_alloc _ _ _ df)];exact h
attribute [local go_sem ↓] Go.wp_at_zero Go.wp_at_succ
section
variable{w:Wd}
variable{v u:Value}
variable{er:Nat×Nat}
theorem lD.weaken{B B':Nat}(h:lD w B v er)(hB:B'<=B):lD w B' v er:=by
 rcases h with h|⟨N,h1,h2,h3⟩
 .exact .inl h
 .exact .inr ⟨N,Nat.le_trans hB h1,h2,h3⟩
theorem lD.set{B S i:Nat}(h:lD w B v er)(hS:S<B):lD (w.setCell ⟨S,i,M⟩ u) B v er:=by
 rcases h with h|⟨N,h1,h2,h3⟩
 .exact .inl h
 .exact .inr ⟨N,h1,h2,by rw[Æ _ _ _ _ (by show N≠S;omega)];exact h3⟩
theorem wT{base FU n:Nat}{e:TypeId}{sz:Nat}{vs:List Value}(h:w.ownsRow base e sz v n vs)(hb:FU<=base):w.ownsRow FU e sz v n vs:=by
 obtain⟨h1,h2⟩:=h;refine⟨h1,?_⟩
 rcases h2 with h2|⟨g,cap,cur,rfl,hg,r⟩
 .exact .inl h2
 .exact .inr ⟨g,cap,cur,rfl,Nat.le_trans hb hg,r⟩
theorem jF(n g:Int)(w:Wd)(h:0<=n)(h':n<=g):Calls prog 33 #[I O n,I O g] w λe w'=>e=υ (U true)/\w'=w:=by go_enter func33,ntmps33;go_wp2_with fail;go_ret;exact⟨rfl,rfl⟩
theorem KS(p k:Int)(v:Value)(w:Wd):(method 580 276 (J #[I O p,I O k,v]) "Where").run prog w=.ok (45,I O p) w:=Ã
theorem RU(p k:Int)(w:Wd):(method 580 279 (J #[I O p,I O k]) "Where").run prog w=.ok (45,I O p) w:=Ã
theorem LW(p q k:Int)(v u:Value)(w:Wd):(method 580 284 (J #[I O p,I O q,I O k,v,u]) "Where").run prog w=.ok (45,I O p) w:=Ã
theorem TS(p k:Int)(v u b c e:Value)(w:Wd):(method 580 287 (J #[I O p,I O k,v,u,b,c,e]) "Where").run prog w=.ok (45,I O p) w:=Ã
theorem Oa(p k:Int)(v u b:Value)(w:Wd):(method 580 290 (J #[I O p,I O k,v,u,b]) "Where").run prog w=.ok (45,I O p) w:=Ã
end
end Go.Proofs.YtiopfihjmkfdmabGreatDoor
