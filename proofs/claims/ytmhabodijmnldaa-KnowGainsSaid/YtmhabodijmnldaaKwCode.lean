/- Layer 15: what the landed know's calls answer. -/
import Derived.Test.YtmhabodijmnldaaKwSaid
import Derived.Test.YtmhabodijmnldaaKwC3
namespace Go.Proofs.Ytmhabodijmnldaa
open Go.RowKit Ex
set_option maxRecDepth 100000
theorem kwSaid (z : World) : KwSaid z where
  knows := fun o p w _ _ _ => knows_code o p w
  zone := fun k w _ _ => zone_codeK k w
  show_ := fun s O L cs id ps w h hn _ _ _ _ => show_code s O L cs id ps w h hn
  hide := fun s O L cs id ps w h hn _ _ _ _ => hide_code s O L cs id ps w h hn
  gains := fun e w _ _ => gains_code e w
  gained := fun A n c l w hE _ hm _ => gained_code A n c l w hE hm
end Go.Proofs.Ytmhabodijmnldaa
