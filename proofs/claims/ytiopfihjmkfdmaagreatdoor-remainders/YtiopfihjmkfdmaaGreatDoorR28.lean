import Derived.Test.YtiopfihjmkfdmaaGreatDoorR11
namespace Go.Proofs.YtiopfihjmkfdmaaGreatDoor
open Go.Value renaming int→I
open Go.IntKind renaming i64→O
open Go.Ending renaming returned→υ
open Go.Proofs.Tryz Sp
open Go.RowKit
set_option maxRecDepth 100000
set_option maxHeartbeats 16000000
theorem zK(n:Int)(w:Wd):Calls prog 18 #[I O n] w fun e w'=>e=υ (I O n)/\w'=w:=by go_enter func18,ntmps18;go_wp2_with fail;go_ret;exact⟨rfl,rfl⟩
theorem p9.after{w w':Wd}(h:p9 w)(hb:ω w w'):p9 w':=h.below hb h.laid.size
end Go.Proofs.YtiopfihjmkfdmaaGreatDoor
