/- Part 22: The contract of (*writer).kids, given tree's. -/
import Derived.Test.YtjidpkcjpgdafaaSv1
import Derived.Test.YtjidpkcjpgdafaaSv5
import Derived.Test.YtjidpkcjpgdafaaSv12
import Derived.Test.YtjidpkcjpgdafaaSv14
import Derived.Test.YtjidpkcjpgdafaaSv21
import Derived.Test.YtjidpkcjpgdafaaSv2
import Derived.Shelf.Strings.Builder1
import Derived.Deep.RegionHeld3
import Derived.Deep.LoopGhost
set_option maxRecDepth 100000
set_option maxHeartbeats 4000000
namespace Go.Proofs.Ytjidpkcjpgdafaa
open Go.RowKit
theorem TrAt.lows {B:Nat} {w w':World} {t:Tr} {v:TV} (h:TrAt (fun k=>k < B) w t v) (hb:Below B w w'):TrAt (fun k=>k < B) w' t v:=TrAt.move (fun _ h=>h) (fun k hk _=>hb.block k hk) t v h
end Go.Proofs.Ytjidpkcjpgdafaa
