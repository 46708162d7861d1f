/- Layer 6: the reference's Has; how large an effect is that is looked at. -/
import Derived.Test.YtmdfgkfimlmmnaaDoorTreeBase
namespace Go.Proofs.YtmdfgkfimlmmnaaDoor
open Go.RowKit Ex
end Go.Proofs.YtmdfgkfimlmmnaaDoor
