/- Layer 14: what the landed journal's calls answer. -/
import Derived.Test.YtncmfkmgaghklaaJnG1
import Derived.Test.YtncmfkmgaghklaaJnG2
namespace Go.Proofs.Ytncmfkmgaghklaa
open Go.RowKit Ex
set_option maxRecDepth 100000
theorem jnSaid (z : World) : JnSaid jnT z where
  new := fun w _ => new_code w
  add := fun p j F A n c l w h ho hE hnc hcm _ _ => add_code p j F A n c l w h ho hE hnc hcm
  mark := fun p j F w h ho hl _ _ => mark_code p j F w h ho hl
  live := fun p j F c w h ho _ _ => live_code p j F c w h ho
  span := fun p j F c w h ho _ _ => span_codeJ p j F c w h ho
  back := fun p j F c w h ho _ _ _ => back_codeJ p j F c w h ho
  fold := fun p j F c w h ho _ _ _ => fold_codeJ p j F c w h ho
  len := fun p j F w h _ _ => len_code p j F w h
  marks := fun p j F w h _ _ _ => marks_codeJ p j F w h
  next := fun p j F w h ho hl _ => next_code p j F w h ho hl
  copy := fun p j F w h ho _ _ => copy_codeJ p j F w h ho
theorem jnNil (z : World) : JnNil z where
  add := fun A n c _ w _ _ _ _ => add_nil A n c w
  mark := fun w _ => mark_nil w
  live := fun c w _ _ => live_nil c w
  span := fun c w _ _ => span_nilJ c w
  back := fun c w _ _ => back_nilJ c w
  fold := fun c w _ _ => fold_nilJ c w
  len := fun w _ => len_nil w
  marks := fun w _ => marks_nilJ w
  next := fun w _ => next_nil w
  copy := fun w _ => copy_nilJ w
end Go.Proofs.Ytncmfkmgaghklaa
