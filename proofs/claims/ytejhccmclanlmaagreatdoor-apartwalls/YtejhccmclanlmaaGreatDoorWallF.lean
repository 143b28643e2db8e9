/- For every config, every two scripts and every number of a domain, whatever they hold, the law ApartWalls returns true and its arguments read as before: where nothing is refused, a script and another one that agrees with it on all that reach a domain make that domain the same, with the same trace. Conditions: none (the row's listed tables are tied to the program's text by the card). -/
import Derived.Test.YtejhccmclanlmaaGreatDoorLw2F
import Derived.Test.YtejhccmclanlmaaGreatDoorV42
set_option linter.all false
set_option maxRecDepth 100000
set_option maxHeartbeats 8000000
namespace Go.Proofs.YtejhccmclanlmaaGreatDoor
open Go.RowKit Go.Proofs.Tryz
theorem Zsj:Zf2:=fun C B S M T N dn w hC h5 hS hT htab=>Zqn C B S M T N dn w hC hS hT h5 htab
theorem apartWalls_holds:Rows.ApartWallsCardSaid:=Zpr Zsj
end Go.Proofs.YtejhccmclanlmaaGreatDoor
