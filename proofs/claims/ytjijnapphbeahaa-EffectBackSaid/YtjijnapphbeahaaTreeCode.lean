/- Layer 6: what effect's calls answer, of the landed code; and the reference's Take, as the laws' walks want it. -/
import Derived.Test.YtjijnapphbeahaaTreeC10
namespace Go.Proofs.Ytjijnapphbeahaa
open Go.RowKit Ex Wx
theorem takeR_any (A : Option Addr) (n c : Nat) (l : List Int) (w : World) (B : Nat) (hN : Nums .u8 w B A n l) (hby : byB l) (hnc : n ≤ c) (hn : n ≤ 2000) (hB : B ≤ w.heap.size) :
    Calls Try.prog 18 #[.slice A n c, .int .i64 1] w (TakeRPost 8 l w) := by
  have h := takeQ_any 8 1 (by omega) A n c l w B hN hby hnc (by omega) hB
  rw [show ((1 : Nat) : Int) = 1 from rfl] at h
  refine h.mono ?_
  rintro e w' ⟨cs, he, hr, hb⟩
  exact ⟨9, cs, he, hr.reads (fun _ hq => hq.2), hb⟩
theorem effSaid (z : World) : EffSaid z where
  check := fun d t cs tg w hr hs _ _ => checkTop_any d t cs tg w hr hs
  size := fun d t cs w hr hs _ => size_eff d t cs w hr (by omega)
  depth := fun d t cs w hr hs _ => depth_eff d t cs w hr (by omega)
  has := fun d t cs op w hr hs _ _ => has_eff d t cs w op hr (by omega)
  same := fun d t cs d' t' cs' w hr hr' hs _ _ => same_any d t t' cs cs' d' w hr hr' (by omega)
  copy := fun d t cs w hr hs _ => (copy_any d t cs w hr (by omega)).mono (by
    rintro e w' ⟨cs', he, hr', hb⟩
    exact ⟨d, cs', he, hr'.reads (fun _ hq => hq.2), hr'.apart (fun _ hq => hq) (by omega), hb⟩)
  bytes := fun d t cs w hr hs _ => bytes_eff d t cs w hr (by omega)
  take := fun A n c l w B hN hby hnc hn hB _ => takeTop_any A n c l w B hN hby hnc hn hB
end Go.Proofs.Ytjijnapphbeahaa
