/- Again, proved. -/
import Derived.Test.YtjkllmiikdlhhaaGreatDoorAgainRow
import Derived.Test.YtjkllmiikdlhhaaGreatDoorBackT
namespace Go.Proofs.YtjkllmiikdlhhaaGreatDoor

theorem again_proved : Rows.AgainCardSaid := again_card Sp.print_again

end Go.Proofs.YtjkllmiikdlhhaaGreatDoor
