/- Layer 13: the library's Backward over a list of events, as what it hands to a range's rounds. -/
import Derived.Shelf.Abstract
import Derived.Shelf.RegionOpen
import Derived.WalkKit
import Derived.OwnWalkIn
import Derived.TacticsInMore
import Derived.LoopNIn
import Derived.LoopIn
import Derived.Sort.CutIn
import Derived.BigFrameIn
import Derived.Test.YtmneajmedopheaaSeq
import Derived.Test.YtmneajmedopheaaNtEv2
import Derived.Test.YtmneajmedopheaaNtG3
import Derived.Deep.MidRow
namespace Go.Proofs.Ytmneajmedopheaa
open Go.RowKit Go.Shelf Ex
attribute [local go_sem] Oper.semAt_some
set_option maxRecDepth 100000
theorem load_evmIn {F : Fence} {n : Nat} {ops : Array Oper} {rest : List Oper} {op : Oper} {a : Act} {w : World} {Q : Exit → Act → World → Prop} (hgd : op.guard = none) (x : Operand) (ho : op.op = .load 45 x)
    (b o : Nat) (hx : a.eval x = .pointer (some ⟨b, o, none⟩)) (e : EvT) (h : w.rangeAt b o (evC e).toList)
    (hK : wpListIn F n Try.prog ops Q rest (a.put op.dst (evV e)) w) : wpListIn F n Try.prog ops Q (op :: rest) a w := by
  refine wpListIn_plain hgd fun K hK' => ⟨fun f hf => by simp [Oper.about, ho] at hf, ?_⟩
  rw [Oper.semAt_eq _ _ _ (fun c => by rw [ho]; exact Op.noConfusion)]
  unfold execOp
  have hs := ev_size e
  rw [← Array.length_toList] at hs
  have hr := run_loadVar_mid (P := Try.prog) w b o 45 (evC e).toList _ h Try.underlying45 rfl hs
  rw [Array.toArray_toList] at hr
  simp only [ho, hx, Instr.loadAt, Instr.sureAddr, Sem.run_bind, Sem.run_pure, Result.andThen_ok, hr]
  exact hK' _ _ hK
theorem store_evIn {F : Fence} {n : Nat} {ops : Array Oper} {rest : List Oper} {op : Oper} {a : Act} {w : World} {Q : Exit → Act → World → Prop} (hgd : op.guard = none) (x y : Operand) (ho : op.op = .store 45 x y)
    (g : Nat) (e : EvT) (hx : a.eval x = .pointer (some ⟨g, 0, none⟩)) (hy : a.eval y = evV e) (old : Array Value) (hg : w.heap[g]? = some (.cells old 45 (0, 0))) (hold : old.size = 6)
    (hK : wpListIn F n Try.prog ops Q rest (a.put op.dst undef) (w.setRow g (evC e))) : wpListIn F n Try.prog ops Q (op :: rest) a w := by
  refine wpListIn_plain hgd fun K hK' => ⟨fun f hf => by simp [Oper.about, ho] at hf, ?_⟩
  rw [Oper.semAt_eq _ _ _ (fun c => by rw [ho]; exact Op.noConfusion)]
  unfold execOp
  have hsz := ev_size e
  have hone := evC_one e
  have h6 : old.size = (evC e).size := hold
  have hy2 : a.eval y = .agg (evC e) := hy
  generalize evC e = es at hsz hone h6 hy2 hK
  simp only [ho, hx, hy2, Instr.storeAt, Instr.sureAddr, Sem.run_bind, Sem.run_pure, Result.andThen_ok, run_storeVar_row w g 45 45 old es hg hsz h6 hone]
  exact hK' _ _ hK
theorem handsV_mono {F : Fence} {n : Nat} {P : Program} {g : Nat} {lb : Array Value} {enc : Nat → Array Value → Array Value} {H : Nat → Nat → Array Value → World → Prop} {N : Nat} {B B' : World → Prop} (h : Hands F n P g lb enc H N B) (hB : ∀ W, B' W → B W) : Hands F n P g lb enc H N B' :=
  fun l J Jx W hl hJ => h l J Jx W hl (fun k A hA => ⟨hB _ (hJ k A hA).1, (hJ k A hA).2⟩)
/-- The box of the slice, and what it reads as. -/
structure SeenV (w : World) (bx : Nat) (A : Option Addr) (n c : Nat) (l : List EvT) : Prop where
  box : w.heap[bx]? = some (.cells #[.slice A n c] 30 (0, 0))
  N : RdV w.heap.size w A l
theorem SeenV.keep {w w' : World} {bx : Nat} {A : Option Addr} {n c : Nat} {l : List EvT} (h : SeenV w bx A n c l) (hb : Below w.heap.size w w') : SeenV w' bx A n c l :=
  ⟨(hb.block bx (Array.getElem?_eq_some_iff.1 h.box).1).trans h.box, (h.N.below hb).more hb.size⟩
/-- The k-th from the back. -/
def bkE (l : List EvT) (k : Nat) : EvT := l.reverse.getD k ev0
set_option linter.unusedSimpArgs false in
set_option maxHeartbeats 1000000 in
theorem backV_hands {bx : Nat} {A : Option Addr} {n c : Nat} {l : List EvT} (hln : l.length = n) (hn : n ≤ 1000000) :
    Hands Fence.wide 5 Try.prog 35 #[.pointer (some ⟨bx, 0, none⟩)] (fun k _ => #[.int .i64 ((n : Int) - 1 - (k : Int)), evV (bkE l k)]) (fun _ _ _ _ => True) n (fun W => SeenV W bx A n c l) := by
  intro lp J Jx W hl hJB hJg hJxg hY h0
  have cb : W.cell? ⟨bx, 0, none⟩ = some (.slice A n c) := by rw [cell_of_row W bx 0 _ _ _ (hJB 0 W h0).1.box]; rfl
  have e1 : IntKind.i64.wrap ((n : Int) - 1) = (n : Int) - 1 := i64_in (by omega) (by omega)
  refine callsIn_of_wp Try.func35 rfl trivial ?_ rfl
  simp only [Try.ntmps35, List.size_toArray, List.length_cons, List.length_nil, Nat.reduceAdd, Nat.reduceSub, Array.replicate_succ, Array.replicate_zero, List.push_toArray, List.append_toArray, List.nil_append, List.cons_append]
  gi_upto_region 1 with fail
  clear cb
  gi_loopw [3] (fun i wr => ∃ (k : Nat) (j : Int), i = .int .i64 j ∧ j = (n : Int) - 1 - (k : Int) ∧ k ≤ n ∧ J k wr) (fun i _ => (intOf i + 1).toNat)
  case atStart => exact ⟨0, _, rfl, by omega, by omega, h0⟩
  case round =>
    obtain ⟨k, j, rfl, hj, hk, hJ⟩ := hrel
    have hlr := (hJB k wr hJ).2
    by_cases hlt : k < n
    · obtain ⟨p, hp⟩ : ∃ p : Nat, p = n - 1 - k := ⟨_, rfl⟩
      obtain rfl : j = (p : Int) := by omega
      have d0 : decide (0 ≤ (p : Int)) = true := by simp
      have hS := (hJB k wr hJ).1
      obtain ⟨b1, o1, ea, _, g1⟩ := hS.N.at_ (show p < l.length by omega)
      subst ea
      have cb : wr.cell? ⟨bx, 0, none⟩ = some (.slice (some ⟨b1, o1, none⟩) n c) := by rw [cell_of_row wr bx 0 _ _ _ hS.box]; rfl
      obtain ⟨v, hv⟩ : ∃ v, v = bkE l k := ⟨_, rfl⟩
      rw [show l[p]'(by omega) = v by
        rw [hv]; unfold bkE
        rw [List.getD_eq_getElem?_getD, List.getElem?_reverse (by omega), List.getElem?_eq_getElem (by omega), Option.getD_some]
        congr 1; omega] at g1
      have g0 : (0 : Int) ≤ (p : Int) := by omega
      have g2 : (p : Int) < (n : Int) := by omega
      obtain ⟨fn, tmps, assign, body, hy, hR⟩ := hY k #[] wr hlt hJ trivial
      rw [← hv, ← hj] at hy
      have e2 : IntKind.i64.wrap ((p : Int) - 1) = (p : Int) - 1 := i64_in (by omega) (by omega)
      have HP := Lib.hid hp
      have G1 := Lib.hid g1
      clear hv hp hj hS g1
      gi_wp2_with (refine load_evmIn rfl (.tmp 15) rfl b1 (o1 + p * 6) rfl v G1.out ?_)
      refine hR.mono ?_
      rintro e W2 (⟨rfl, hJ2⟩ | ⟨rfl, hJx⟩)
      · gi_wp2_with fail
        go_roundw
        case rel => exact ⟨k + 1, _, rfl, by have := HP.out; omega, by omega, hJ2⟩
        case measure => simp [intOf]
      · gi_wp2_with fail
        refine bodyPost_ret (results_none rfl _ _ _) rfl ?_
        exact ⟨⟨_, rfl⟩, .inr hJx⟩
    · obtain rfl : k = n := by omega
      have d0 : decide (0 ≤ j) = false := by simp; omega
      clear hj
      gi_wp2_with fail
      go_end0
      exact ⟨⟨_, rfl⟩, .inl hJ⟩
theorem backV_any (A : Option Addr) (n c : Nat) (l : List EvT) (w : World) (hN : RdV w.heap.size w A l) (hln : l.length = n) (hn : n ≤ 1000000) :
    Calls Try.prog 22 #[.slice A n c] w fun e w' => Below w.heap.size w w' ∧ ∃ (gf : Nat) (lb : Array Value), e = .returned (.func (.func gf) #[] lb) ∧ (∀ args w, (callFunc gf args).run Try.prog w = .ok (.enter gf args) w) ∧
      Hands Fence.wide 5 Try.prog gf lb (fun k _ => #[.int .i64 ((n : Int) - 1 - (k : Int)), evV (bkE l k)]) (fun _ _ _ _ => True) n (fun W => SeenV W w.heap.size A n c l) ∧ SeenV w' w.heap.size A n c l := by
  have hb : Below w.heap.size w (w.alloc (.cells #[.slice A n c] 30)) := (Below.refl _ _).alloc (Nat.le_refl _) _
  have hS : SeenV (w.alloc (.cells #[.slice A n c] 30)) w.heap.size A n c l := ⟨heap_alloc_new _ _, (hN.below hb).more hb.size⟩
  go_enter Try.func22, Try.ntmps22
  go_wp2_with fail
  go_ret
  exact ⟨hb, 35, _, rfl, enters_of Try.func35 (by kernel_rfl) rfl, backV_hands hln hn, hS⟩
end Go.Proofs.Ytmneajmedopheaa
