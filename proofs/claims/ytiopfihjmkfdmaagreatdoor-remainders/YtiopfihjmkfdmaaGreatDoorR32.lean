import Derived.Test.YtiopfihjmkfdmaaGreatDoorR5
namespace Go.Proofs.YtiopfihjmkfdmaaGreatDoor
open Go.Value renaming int→I,bool→U,tuple→φ
open Go.IntKind renaming i64→O,i16→ψ
open Option renaming some→Y
open Go.Ending renaming returned→υ
open Go.Proofs.Tryz Sp
open Go.RowKit
set_option maxRecDepth 100000
set_option maxHeartbeats 16000000
def gK(k:Nat)(x y:Int):Int:=(Sp.work k x y).getD 0
theorem EM(k:Nat)(hk:k<5)(x y:Int)(w:Wd) :
  Calls prog 239 #[I O k,I ψ x,I ψ y] w fun e w'=>e=υ (φ #[I ψ (gK k x y),U (Sp.work k x y).isSome])/\w'=w:=by
 rcases(show k=0∨k=1∨k=2∨k=3∨k=4 from by omega) with rfl | rfl | rfl | rfl | rfl
 ·go_enter func239,ntmps239
  go_wp2_with fail
  go_ret2
  exact⟨rfl,rfl⟩
 ·go_enter func239,ntmps239
  go_wp2_with fail
  go_ret2
  exact⟨rfl,rfl⟩
 ·go_enter func239,ntmps239
  go_wp2_with fail
  go_ret2
  exact⟨rfl,rfl⟩
 ·by_cases hy:y=0
  ·subst hy
   go_enter func239,ntmps239;go_wp2_with fail
   go_ret2
   exact⟨rfl,rfl⟩
  ·have e:Hid (Sp.work 3 x y=Y (tX (x.tdiv y))):=by unfold Hid Sp.work;simp[hy]
   go_enter func239,ntmps239;go_wp2_with fail
   go_ret2
   refine⟨?_,rfl⟩;unfold gK;rw[e.out];rfl
 ·by_cases hy:y=0
  ·subst hy
   go_enter func239,ntmps239;go_wp2_with fail
   go_ret2
   exact⟨rfl,rfl⟩
  ·have e:Hid (Sp.work 4 x y=Y (x.tmod y)):=by unfold Hid Sp.work;simp[hy]
   go_enter func239,ntmps239;go_wp2_with fail
   go_ret2
   refine⟨?_,rfl⟩;unfold gK;rw[e.out];rfl
theorem Dq(k:Nat)(hk:k<6)(x y:Int)(w:Wd) :
  Calls prog 213 #[I O k,I ψ x,I ψ y] w fun e w'=>e=υ (U (Sp.holds k x y))/\w'=w:=by
 rcases(show k=0∨k=1∨k=2∨k=3∨k=4∨k=5 from by omega) with rfl | rfl | rfl | rfl | rfl | rfl
 all_goals
  go_enter func213,ntmps213;go_wp2_with fail;go_ret;exact⟨rfl,rfl⟩
end Go.Proofs.YtiopfihjmkfdmaaGreatDoor
