/- Layer 15: what the landed Known and Loses answer. -/
import Derived.Test.YtmhabodijmnldaaKwCode
import Derived.Test.YtmhabodijmnldaaKwSaid2
import Derived.Test.YtmhabodijmnldaaKwC4
namespace Go.Proofs.Ytmhabodijmnldaa
open Go.RowKit Ex
set_option maxRecDepth 100000
theorem kwSaid2 (z : World) : KwSaid2 z where
  known := fun s O L cs p w h hn _ _ _ => known_code s O L cs p w h hn
  loses := fun e w _ _ => loses_code e w
end Go.Proofs.Ytmhabodijmnldaa
