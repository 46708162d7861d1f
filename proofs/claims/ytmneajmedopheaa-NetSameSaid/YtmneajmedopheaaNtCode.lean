/- Layer 13: all that the code's calls answer. -/
import Derived.Test.YtmneajmedopheaaNtC2
import Derived.Test.YtmneajmedopheaaNtC6
namespace Go.Proofs.Ytmneajmedopheaa
open Go.RowKit Ex
theorem ntSaid (z : World) : NtSaid z where
  run := fun s O L cs A n c l w h hn hl hE _ hm _ => run_code s O L cs A n c l w h hn hl hE hm
  undo := fun s O L cs A n c l w h hn hl hE _ hm _ => undo_code s O L cs A n c l w h hn hl hE hm
  inv := fun A n c l w hE _ hm _ => (invL_code A n c l w hE hm).mono fun _ _ ⟨A', c', h1, h2, h3, h4⟩ => ⟨A', n, c', h1, h2, h3, h4⟩
  net := fun A n c l w hE hc hm _ => net_code A n c l w hE hc hm
end Go.Proofs.Ytmneajmedopheaa
