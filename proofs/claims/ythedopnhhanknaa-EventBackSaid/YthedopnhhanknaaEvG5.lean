/- Layer 12: an event's bytes tell it: plain facts. Layer 12: the code's Bytes. Layer 2: numbers of bytes that were cut. Layer 12: an event of numbers. Layer 12: the code's Parse. Layer 12: what event's seven calls answer. -/
import Derived.Test.YthedopnhhanknaaEvG2
import Derived.Test.YthedopnhhanknaaEvG3
import Derived.Test.YthedopnhhanknaaWireC
import Derived.Test.YthedopnhhanknaaWireF
import Derived.Test.YthedopnhhanknaaEvG4
namespace Go.Proofs.Ythedopnhhanknaa
open Go.RowKit Ex Wx
theorem ofN_nums (e : EvT) : ofN (numsE e) = e := rfl
theorem numsE_i64 {e : EvT} (h : EvI e) : ∀ n ∈ numsE e, i64B n := by
  intro n hn
  simp only [numsE, List.mem_cons, List.not_mem_nil, or_false] at hn
  rcases hn with rfl | rfl | rfl | rfl | rfl | rfl
  · exact h.k
  · exact h.a
  · exact h.b
  · exact h.c
  · exact h.d
  · exact h.e
theorem bytesE_by {e : EvT} (h : EvI e) : byB (bytesE e) := flat_byB (numsE_i64 h)
theorem bytesE_few (e : EvT) : (bytesE e).length ≤ 60 := flat_len (numsE e)
/-- There and back. -/
theorem parse_bytesE {e : EvT} (h : EvI e) (hc : chkE e = 0) : parseE (bytesE e) = (e, 0) := by
  have hm : more 6 (bytesE e) 0 [] = (numsE e, (bytesE e).length, 0) := by
    have := more_flat (numsE e) (bytesE e) 0 [] [] (numsE_i64 h) (by simp [bytesE])
    simpa [numsE, bytesE] using this
  unfold parseE
  rw [hm]
  simp only [ne_eq, not_true_eq_false, if_false, Nat.lt_irrefl, ofN_nums, hc]
end Go.Proofs.Ythedopnhhanknaa
namespace Go.Proofs.Ythedopnhhanknaa
open Go.RowKit Ex Wx
set_option maxRecDepth 100000
theorem index_ev (k a b c d f : Int) : ∀ i : Nat, i < 6 → ∀ w, (Instr.index 54 (.agg #[.int .i64 k, .int .i64 a, .int .i64 b, .int .i64 c, .int .i64 d, .int .i64 f]) (.int .i64 (i : Int))).run Try.prog w = .ok (.int .i64 ([k, a, b, c, d, f].getD i 0)) w
  | 0, _, _ => by kernel_rfl
  | 1, _, _ => by kernel_rfl
  | 2, _, _ => by kernel_rfl
  | 3, _, _ => by kernel_rfl
  | 4, _, _ => by kernel_rfl
  | 5, _, _ => by kernel_rfl
  | _ + 6, h, _ => absurd h (by omega)
structure BytR (w : World) (l : List Int) (A : Option Addr) (m c : Nat) (W : World) : Prop where
  N : Nums .u8 W W.heap.size A m l
  c : m ≤ c
  b : Below w.heap.size w W
theorem flat_take (l : List Int) {i : Nat} (h : i < l.length) : (l.take (i + 1)).flatMap bts = (l.take i).flatMap bts ++ bts (l.getD i 0) := by
  rw [List.take_succ_eq_append_getElem h, List.flatMap_append, List.getD_eq_getElem?_getD, List.getElem?_eq_getElem h]
  simp
set_option linter.unusedSimpArgs false in
set_option maxHeartbeats 0 in
theorem bytes_code (e : EvT) (w : World) (hi : EvI e) : Calls Try.prog 22 #[evV e] w fun en w' => ∃ A n c, en = .returned (.slice A n c) ∧ Nums .u8 w' w'.heap.size A n (bytesE e) ∧ n ≤ c ∧ Below w.heap.size w w' := by
  have hall := numsE_i64 hi
  obtain ⟨k, a, b, c, d, f⟩ := e
  obtain ⟨ns, hns⟩ : ∃ ns, ns = [k, a, b, c, d, f] := ⟨_, rfl⟩
  have hby : bytesE ⟨k, a, b, c, d, f⟩ = ns.flatMap bts := by rw [hns]; rfl
  have hix := index_ev k a b c d f
  rw [← hns] at hix
  have HN := Lib.hid (show ns.length = 6 by rw [hns]; rfl)
  have HA := Lib.hid (show ∀ x ∈ ns, i64B x by rw [hns]; exact hall)
  rw [hby]
  have HIx := Lib.hid hix
  unfold evV
  simp only
  clear hi hall hns hby hix
  go_enter Try.func22, Try.ntmps22
  go_upto_region 1 with fail
  obtain ⟨w1, hw1⟩ : ∃ w1, w1 = w.alloc (.cells #[.int .i64 k, .int .i64 a, .int .i64 b, .int .i64 c, .int .i64 d, .int .i64 f] 31) := ⟨_, rfl⟩
  have hrow : w1.heap[w.heap.size]? = some (.cells #[.int .i64 k, .int .i64 a, .int .i64 b, .int .i64 c, .int .i64 d, .int .i64 f] 31 (0, 0)) := by rw [hw1]; exact heap_alloc_new _ _
  have hb1 : Below w.heap.size w w1 := by rw [hw1]; exact (Below.refl _ _).alloc (Nat.le_refl _) _
  rw [← hw1]
  have c0 := cell_of_row w1 w.heap.size 0 _ _ _ hrow
  have c1 := cell_of_row w1 w.heap.size 1 _ _ _ hrow
  have c2 := cell_of_row w1 w.heap.size 2 _ _ _ hrow
  have c3 := cell_of_row w1 w.heap.size 3 _ _ _ hrow
  have c4 := cell_of_row w1 w.heap.size 4 _ _ _ hrow
  have c5 := cell_of_row w1 w.heap.size 5 _ _ _ hrow
  simp at c0 c1 c2 c3 c4 c5
  clear hw1 hrow
  go_upto_region 3 with fail
  clear c0 c1 c2 c3 c4 c5
  go_loopw [3, 19] (fun o i wr => ∃ (j m cc : Nat) (A' : Option Addr), i = .int .i64 ((j : Nat) : Int) ∧ o = .slice A' m cc ∧ j ≤ 6 ∧ Hid (BytR w ((ns.take j).flatMap bts) A' m cc wr)) (fun _ i _ => 6 - (intOf i).toNat)
  case atStart => exact ⟨0, 0, 0, none, rfl, rfl, by omega, Lib.hid ⟨by simpa using Nums.none_, Nat.le_refl _, hb1⟩⟩
  case round =>
    obtain ⟨j, m, cc, A4, rfl, rfl, hj, HO⟩ := hrel
    by_cases hlt : j < 6
    · have hd : decide ((j : Int) < 6) = true := by simp; omega
      have hix := HIx.out j hlt
      have g0 : (0 : Int) ≤ (j : Int) := by omega
      have g1 : (j : Int) < 6 := by omega
      obtain ⟨x, hx⟩ : ∃ x, x = ns.getD j 0 := ⟨_, rfl⟩
      rw [← hx] at hix
      have hxb : i64B x := HA.out x (by rw [hx, List.getD_eq_getElem?_getD, List.getElem?_eq_getElem (by have := HN.out; omega)]; exact List.getElem_mem _)
      have hfl := flat_take ns (i := j) (by have := HN.out; omega)
      rw [← hx] at hfl
      have hml : m ≤ 100 := by rw [← HO.out.N.len]; have := Wx.flat_len (ns.take j); have h2 := List.length_take (l := ns) (i := j); omega
      have hpt := put_any A4 m cc _ x hxb wr _ HO.out.N (Nat.le_refl _) (by omega)
      rw [← hfl] at hpt
      clear hx hxb hfl hml
      go_wp2_with fail
      refine hpt.mono ?_
      rintro en w2 ⟨A5, m5, c5, rfl, ho5, hb5⟩
      clear hpt hix
      have hO5 := Lib.hid (show BytR w ((ns.take (j + 1)).flatMap bts) A5 m5 c5 w2 from ⟨ho5.nums, ho5.cap, keepB hb5 HO.out.b⟩)
      clear ho5 hb5
      go_wp2_with fail
      go_roundw
      case rel => exact ⟨j + 1, _, _, _, by go_num, rfl, by omega, hO5⟩
      case measure => simp [intOf]; omega
    · obtain rfl : j = 6 := by omega
      have hd : decide (((6 : Nat) : Int) < 6) = false := by decide
      have HE := Lib.hid (show ns.take 6 = ns by rw [← HN.out, List.take_length])
      go_wp2_with fail
      go_ret
      rw [← HE.out]
      exact ⟨_, _, _, rfl, by rw [HE.out] at HO ⊢; exact HO.out.N, HO.out.c, HO.out.b⟩
end Go.Proofs.Ythedopnhhanknaa
namespace Go.Proofs.Ythedopnhhanknaa
open Go.RowKit Wx
theorem dec_take : ∀ (l : List Int) (i x m : Nat), i ≤ 9 → 10 - i ≤ m → dec i x (l.take m) = dec i x l
  | [], i, x, m, _, _ => by simp
  | b :: r, i, x, m, hi, hm => by
    obtain ⟨m', rfl⟩ : ∃ m', m = m' + 1 := ⟨m - 1, by omega⟩
    rw [List.take_succ_cons, dec, dec]
    by_cases h1 : (b = 0 ∧ 0 < i) ∨ (i = 9 ∧ 1 < b)
    · rw [if_pos h1, if_pos h1]
    · rw [if_neg h1, if_neg h1]
      by_cases h2 : b < 128
      · rw [if_pos h2, if_pos h2]
      · rw [if_neg h2, if_neg h2]
        have : i < 9 := by
          rcases Nat.lt_or_ge i 9 with h | h
          · exact h
          · exact absurd (Or.inr ⟨by omega, by omega⟩) h1
        exact dec_take r (i + 1) _ m' (by omega) (by omega)
theorem tk_take (l : List Int) {m : Nat} (h : 10 ≤ m) : tk (l.take m) = tk l := dec_take l 0 0 m (by omega) (by omega)
theorem tk_ten {l : List Int} (hl : byB l) : (tk l).2.1 ≤ 10 := by
  obtain ⟨n, k, e, ht⟩ : ∃ n k e, tk l = (n, k, e) := ⟨_, _, _, rfl⟩
  rw [ht]
  rcases tk_range hl ht with ⟨_, h, _⟩ | ⟨_, _, _, h, _⟩
  · simp [h]
  · exact h
theorem more_take : ∀ (m : Nat) (l : List Int) (T a : Nat) (acc : List Int), byB l → a + 10 * m ≤ T → more m (l.take T) a acc = more m l a acc
  | 0, _, _, _, _, _, _ => rfl
  | m + 1, l, T, a, acc, hb, h => by
    have e : tk ((l.take T).drop a) = tk (l.drop a) := by rw [List.drop_take]; exact tk_take _ (by omega)
    have h10 := tk_ten (byB_drop a hb)
    rw [more, more, e]
    split
    · rfl
    · exact more_take m l T _ _ hb (by omega)
theorem tl_take {l : List Int} (hb : byB l) : tl (l.take 4010) 400 = tl l 400 := by
  have h10 := tk_ten hb
  unfold tl
  rw [tk_take l (by omega)]
  split
  · rfl
  split
  · rfl
  split
  · rfl
  · exact more_take _ l 4010 _ _ hb (by omega)
end Go.Proofs.Ythedopnhhanknaa
namespace Go.Proofs.Ythedopnhhanknaa
open Go.RowKit Ex
set_option maxRecDepth 100000
theorem ofN_snoc (acc : List Int) (x : Int) (h : acc.length < 6) : (evC (ofN acc)).setIfInBounds acc.length (.int .i64 x) = evC (ofN (acc ++ [x])) := by
  match acc, h with
  | [], _ => rfl
  | [a], _ => rfl
  | [a, b], _ => rfl
  | [a, b, c], _ => rfl
  | [a, b, c, d], _ => rfl
  | [a, b, c, d, e], _ => rfl
  | _ :: _ :: _ :: _ :: _ :: _ :: _, h => simp at h; omega
theorem ofN_get (acc : List Int) {k : Nat} (h : k < 6) : (evC (ofN acc))[k]? = some (.int .i64 (acc.getD k 0)) := by
  match k, h with
  | 0, _ => rfl
  | 1, _ => rfl
  | 2, _ => rfl
  | 3, _ => rfl
  | 4, _ => rfl
  | 5, _ => rfl
  | _ + 6, h => omega
end Go.Proofs.Ythedopnhhanknaa
namespace Go.Proofs.Ythedopnhhanknaa
open Go.RowKit Ex Wx
set_option maxRecDepth 100000
theorem index_pt (g : Nat) : ∀ i : Nat, i < 6 → ∀ w, (Instr.index 73 (.agg #[.pointer (some ⟨g, 0, none⟩), .pointer (some ⟨g, 1, none⟩), .pointer (some ⟨g, 2, none⟩), .pointer (some ⟨g, 3, none⟩), .pointer (some ⟨g, 4, none⟩), .pointer (some ⟨g, 5, none⟩)]) (.int .i64 (i : Int))).run Try.prog w = .ok (.pointer (some ⟨g, i, none⟩)) w
  | 0, _, _ => by kernel_rfl
  | 1, _, _ => by kernel_rfl
  | 2, _, _ => by kernel_rfl
  | 3, _, _ => by kernel_rfl
  | 4, _, _ => by kernel_rfl
  | 5, _, _ => by kernel_rfl
  | _ + 6, h, _ => absurd h (by omega)
/-- Numbers that were taken; what is left. -/
structure ParS (w : World) (g2 g5 : Nat) (l1 : List Int) (k a : Nat) (acc : List Int) (A : Option Addr) (m c : Nat) (W : World) : Prop where
  N : Nums .u8 W W.heap.size A m (l1.drop a)
  cap : m ≤ c
  len : acc.length = k
  mo : more (6 - k) l1 a acc = more 6 l1 0 []
  al : a ≤ l1.length
  a10 : a ≤ 10 * k
  ev : EvB W g5 (ofN acc)
  rs : EvB W g2 ev0
  bl : Below w.heap.size w W
theorem ParS.put {w : World} {g2 g5 : Nat} {l1 : List Int} {k a : Nat} {acc : List Int} {A A' : Option Addr} {m c m' c' : Nat} {W W' : World} (h : ParS w g2 g5 l1 k a acc A m c W) (hk : k < 6) (hg : g2 ≠ g5) (hw : w.heap.size ≤ g5) (hl : byB l1) {n : Int} {kk : Nat} (ht : tk (l1.drop a) = (n, kk, 0))
    (ho : Own .u8 5 W' W.heap.size A' m' c' ((l1.drop a).drop kk)) (hb : Below W.heap.size W W') : ParS w g2 g5 l1 (k + 1) (a + kk) (acc ++ [n]) A' m' c' (W'.setCell ⟨g5, k, none⟩ (.int .i64 n)) := by
  have hg5 := h.ev.lt
  have hr := tk_range (l := l1.drop a) (fun x hx => hl x (List.mem_of_mem_drop hx)) ht
  have hk2 : kk ≤ (l1.drop a).length ∧ kk ≤ 10 := by
    rcases hr with ⟨_, h1, _⟩ | ⟨_, h1, h2, h3, _⟩
    · omega
    · exact ⟨by omega, by omega⟩
  rw [List.length_drop] at hk2
  have ho2 : Own .u8 5 (W'.setCell ⟨g5, k, none⟩ (.int .i64 n)) W.heap.size A' m' c' ((l1.drop a).drop kk) := ⟨ho.1, by
    refine ⟨ho.2.1, ?_⟩
    rcases ho.2.2 with hv | ⟨g, cap, cur, hv, hbs, hgc, rest⟩
    · exact .inl hv
    · exact .inr ⟨g, cap, cur, hv, hbs, (heap_setCell_other W' ⟨g5, k, none⟩ g _ (by simp; omega)).trans hgc, rest⟩⟩
  refine ⟨by rw [← List.drop_drop]; exact ho2.nums, ho2.cap, by simp [h.len], ?_, by have := h.al; omega, by have := h.a10; omega, ?_, (h.rs.keep hb).far hg k _, (keepB hb h.bl).setCell (p := ⟨g5, k, none⟩) hw _⟩
  · have hm := more_ok (m := 6 - (k + 1)) (acc := acc) ht
    rw [show 6 - (k + 1) + 1 = 6 - k by omega] at hm
    rw [← hm]; exact h.mo
  · have hs := ofN_snoc acc n (by have := h.len; omega)
    rw [h.len] at hs
    exact (h.ev.keep hb).set_ k _ hs
set_option linter.unusedSimpArgs false in
set_option maxHeartbeats 0 in
theorem parse_code (A : Option Addr) (n c : Nat) (l : List Int) (w : World) (hN : Nums .u8 w w.heap.size A n l) (hc : n ≤ c) (hb : byB l) (hn : n ≤ 1000000) :
    Calls Try.prog 24 #[.slice A n c] w fun en w' => en = .returned (.tuple #[evV (parseE l).1, errV (parseE l).2]) ∧ Below w.heap.size w w' := by
  obtain ⟨T, hT⟩ : ∃ T, T = min n 61 := ⟨_, rfl⟩
  obtain ⟨A1, hcut, hN1⟩ := cut_to (P := Try.prog) hN hc (show T ≤ n by omega) 48 (by kernel_rfl) (fun _ => by kernel_rfl)
  have hln := hN.len
  have hmt : more 6 (l.take T) 0 [] = more 6 l 0 [] := by
    by_cases h : n ≤ 61
    · rw [List.take_of_length_le (by omega)]
    · exact more_take 6 l T 0 [] hb (by omega)
  obtain ⟨l1, hl1⟩ : ∃ l1, l1 = l.take T := ⟨_, rfl⟩
  rw [← hl1] at hN1 hmt
  have hb1 : byB l1 := fun x hx => hb x (by rw [hl1] at hx; exact List.mem_of_mem_take hx)
  have hl1n := hN1.len
  have HT := Lib.hid hT
  have HL := Lib.hid hln
  have HMT := Lib.hid hmt
  have HB1 := Lib.hid hb1
  have HN1 := Lib.hid hN1
  have HL1 := Lib.hid hl1n
  obtain ⟨r, hr⟩ : ∃ r, r = parseE l := ⟨_, rfl⟩
  rw [← hr]
  have HR := Lib.hid hr
  have hT1 : T ≤ c := by omega
  have hmin : min (61 : Int) (n : Int) = (T : Int) := by omega
  have hT61 : T ≤ 61 := by omega
  clear hN hb hn hT hln hmt hl1 hb1 hN1 hl1n hr
  go_enter Try.func24, Try.ntmps24
  go_upto_region 3 with fail
  obtain ⟨w2, hw2⟩ : ∃ w2, w2 = (w.alloc (.cells (evC ev0) 31)).alloc (.cells (evC ev0) 31) := ⟨_, rfl⟩
  have hb1 : Below (w.alloc (.cells (evC ev0) 31)).heap.size (w.alloc (.cells (evC ev0) 31)) w2 := by rw [hw2]; exact (Below.refl _ _).alloc (Nat.le_refl _) _
  have hb0 : Below w.heap.size w (w.alloc (.cells (evC ev0) 31)) := (Below.refl _ _).alloc (Nat.le_refl _) _
  have hE1 : EvB w2 w.heap.size ev0 := EvB.keep (heap_alloc_new _ _) hb1
  have hE2 : EvB w2 (w.heap.size + 1) ev0 := by rw [hw2]; have := heap_alloc_new (w.alloc (.cells (evC ev0) 31)) (.cells (evC ev0) 31); rwa [World.size_alloc] at this
  have hb2 := keepB hb1 hb0
  show Code.wp _ _ _ _ ((w.alloc (.cells (evC ev0) 31)).alloc (.cells (evC ev0) 31))
  rw [← hw2]
  clear hw2 hb1 hb0
  obtain ⟨g2, hg2⟩ : ∃ g, g = w.heap.size := ⟨_, rfl⟩
  rw [← hg2] at hE1
  rw [← hg2] at hE2
  rw [← hg2]
  obtain ⟨g5, hg5⟩ : ∃ g, g = g2 + 1 := ⟨_, rfl⟩
  rw [← hg5] at hE2
  rw [← hg5]
  have HG := Lib.hid (show w.heap.size ≤ g2 ∧ w.heap.size ≤ g5 ∧ g2 ≠ g5 by omega)
  have HP0 := Lib.hid (show ParS w g2 g5 l1 0 0 [] A1 T c w2 from ⟨by rw [List.drop_zero]; exact (HN1.out.below hb2).more hb2.size, hT1, rfl, rfl, Nat.zero_le _, Nat.le_refl _, hE2, hE1, hb2⟩)
  clear hg2 hg5 hE1 hE2 hb2 hmin hcut
  have hix0 := index_pt g5
  have HIx := Lib.hid hix0
  clear hix0
  go_upto_region 4 with fail
  go_loopw [4, 24] (fun o i wr => ∃ (k a m cc : Nat) (acc : List Int) (A' : Option Addr), i = .int .i64 ((k : Nat) : Int) ∧ o = .slice A' m cc ∧ k ≤ 6 ∧ Hid (ParS w g2 g5 l1 k a acc A' m cc wr)) (fun _ i _ => 6 - (intOf i).toNat)
  case atStart => exact ⟨0, 0, T, c, [], A1, rfl, rfl, by omega, HP0⟩
  case round =>
    clear HP0
    obtain ⟨k, a, m, cc, acc, A4, rfl, rfl, hk, HO⟩ := hrel
    have hsz0 := ev_size ev0
    have hone0 := evC_one ev0
    by_cases hlt : k < 6
    · have hd : decide ((k : Int) < 6) = true := by simp; omega
      have hix := HIx.out k hlt
      have g0 : (0 : Int) ≤ (k : Int) := by omega
      have g1 : (k : Int) < 6 := by omega
      obtain ⟨x, kk, e0, htk⟩ : ∃ x kk e0, tk (l1.drop a) = (x, kk, e0) := ⟨_, _, _, rfl⟩
      have hrg := tk_range (l := l1.drop a) (fun y hy => HB1.out y (List.mem_of_mem_drop hy)) htk
      have hm100 : m ≤ 61 := by rw [← HO.out.N.len, List.length_drop]; have := HL1.out; omega
      by_cases he0 : e0 = 0
      · subst he0
        have htake := take_ok A4 m cc (l1.drop a) wr _ HO.out.N HO.out.cap (fun y hy => HB1.out y (List.mem_of_mem_drop hy)) (Nat.le_refl _) (by omega) x kk htk
        have HTK := Lib.hid htk
        clear htk hrg
        go_wp2_with fail
        refine htake.mono ?_
        rintro en w3 ⟨A5, m5, c5, rfl, ho5, hb5⟩
        clear htake hix
        have HO5 := Lib.hid (HO.out.put hlt HG.out.2.2 HG.out.2.1 HB1.out HTK.out ho5 hb5)
        have he5 := HO.out.ev.keep hb5
        have k5 := cell_of_row w3 g5 k _ _ _ he5
        rw [ofN_get acc hlt] at k5
        have f5 := frozen_of_row w3 g5 k _ _ he5
        clear ho5 he5
        go_wp2_with fail
        go_roundw
        case rel => exact ⟨k + 1, _, _, _, _, _, by go_num, rfl, by omega, HO5⟩
        case measure => simp [intOf]; omega
      · have hx0 : x = 0 ∧ kk = 0 := by
          rcases hrg with ⟨h1, h2, _⟩ | ⟨h1, _⟩
          · exact ⟨h1, h2⟩
          · exact absurd h1 he0
        obtain ⟨rfl, rfl⟩ := hx0
        have htake := take_bad A4 m cc (l1.drop a) wr _ HO.out.N (fun y hy => HB1.out y (List.mem_of_mem_drop hy)) (by omega) e0 he0 htk
        have HRE := Lib.hid (show r = (ev0, e0) from by
          have h1 := HO.out.mo
          rw [show 6 - k = (6 - (k + 1)) + 1 by omega, more_bad htk he0] at h1
          rw [HR.out]
          unfold parseE
          rw [← HMT.out, ← h1]
          simp only
          rw [if_pos he0])
        have hr2 := HO.out.rs
        have hb2 := HO.out.bl
        have HE0 := Lib.hid he0
        clear htk hrg he0
        unfold EvB at hr2
        go_wp2_with fail
        refine htake.mono ?_
        rintro en w3 ⟨rfl, rfl⟩
        clear htake hix
        have hz6 := ev0_is
        go_wp2_with (refine wpList_store_row rfl 31 (.tmp 2) (.tmp 35) rfl g2 _ rfl rfl 31 (evC ev0) hr2 hsz0 rfl hone0 ?_)
        refine bodyPost_ret (v := .tuple #[.agg (evC ev0), .iface 65 (.int .i64 e0)]) ?_ rfl ⟨by rw [HRE.out, errV_err HE0.out]; rfl, below_setRow hb2 _ _ HG.out.1⟩
        exact results_cell_tmp (ty := 31) (p := 2) (q := 3) (by kernel_rfl) _ _ g2 31 _ (0, 0) _ rfl (setRow_heap _ _ _ _ _ _ hr2) Try.underlying31 rfl hsz0
    · obtain rfl : k = 6 := by omega
      have hd : decide (((6 : Nat) : Int) < 6) = false := by decide
      have hM : more 6 l 0 [] = (acc, a, 0) := by rw [← HMT.out, ← HO.out.mo]; rfl
      have hm : m = l1.length - a := by rw [← HO.out.N.len, List.length_drop]
      have hrs := HO.out.rs
      have hbl := HO.out.bl
      unfold EvB at hrs
      by_cases hm0 : 0 < m
      · have HRE := Lib.hid (show r = (ev0, 3) from by
          have h1 := HO.out.al
          have h2 := HL1.out
          have h3 := HT.out
          have h4 := HL.out
          rw [HR.out]
          unfold parseE
          rw [hM]
          simp only [ne_eq, not_true_eq_false, if_false]
          rw [if_pos (by omega)])
        have hdm : decide (0 < m) = true := decide_eq_true hm0
        have hz6 := ev0_is
        clear hM hm hm0
        go_wp2_with (refine wpList_store_row rfl 31 (.tmp 2) (.tmp 45) rfl g2 _ rfl rfl 31 (evC ev0) hrs hsz0 rfl hone0 ?_)
        refine bodyPost_ret (v := .tuple #[.agg (evC ev0), .iface 65 (.int .i64 3)]) ?_ rfl ⟨by rw [HRE.out, errV_err (by decide)]; rfl, below_setRow hbl _ _ HG.out.1⟩
        exact results_cell_tmp (ty := 31) (p := 2) (q := 3) (by kernel_rfl) _ _ g2 31 _ (0, 0) _ rfl (setRow_heap _ _ _ _ _ _ hrs) Try.underlying31 rfl hsz0
      · have HRE := Lib.hid (show r = if chkE (ofN acc) ≠ 0 then (ev0, chkE (ofN acc)) else (ofN acc, 0) from by
          have h1 := HO.out.al
          have h2 := HL1.out
          have h3 := HT.out
          have h4 := HL.out
          have h5 := HO.out.a10
          rw [HR.out]
          unfold parseE
          rw [hM]
          simp only [ne_eq, not_true_eq_false, if_false]
          rw [if_neg (by omega)])
        have hdm : decide (0 < m) = false := decide_eq_false hm0
        have hev := HO.out.ev
        have hck := fun W => check_code (ofN acc) W
        obtain ⟨e, he⟩ : ∃ e, e = ofN acc := ⟨_, rfl⟩
        rw [← he] at hck hev
        have HRE := Lib.hid (show r = if chkE e ≠ 0 then (ev0, chkE e) else (e, 0) by rw [he]; exact HRE.out)
        have hsE := ev_size e
        have hoE := evC_one e
        have hsE6 : (evC ev0).size = (evC e).size := rfl
        obtain ⟨es, hes⟩ : ∃ es, es = evC e := ⟨_, rfl⟩
        have HES := Lib.hid hes
        unfold EvB at hev
        rw [← hes] at hsE hoE hsE6 hev
        rw [show evV e = .agg es by rw [hes]; rfl] at hck
        have hge := (Array.getElem?_eq_some_iff.1 hev).1
        have hgr := (Array.getElem?_eq_some_iff.1 hrs).1
        clear hM hm hm0 he hes
        go_wp2_with (refine wpList_load_row rfl 31 (.tmp 5) rfl g5 rfl 31 _ (0, 0) _ hev Try.underlying31 rfl hsE ?_)
        refine (hck _).mono ?_
        rintro en w3 ⟨rfl, hb3⟩
        clear hck
        have hev3 := (hb3.block g5 hge).trans hev
        have hrs3 := (hb3.block g2 hgr).trans hrs
        have hbl3 := keepB hb3 hbl
        clear hev hrs
        by_cases hce : chkE e = 0
        · have HRF := Lib.hid (show r = (e, 0) by rw [HRE.out, if_neg (by simpa using hce)])
          rw [hce, errV_nil]
          clear hce
          go_wp2_with (first
            | (refine wpList_load_row rfl 31 (.tmp 5) rfl g5 rfl 31 _ (0, 0) _ hev3 Try.underlying31 rfl hsE ?_)
            | (refine wpList_store_row rfl 31 (.tmp 2) (.tmp 53) rfl g2 _ rfl rfl 31 (evC ev0) hrs3 hsE hsE6 hoE ?_))
          refine bodyPost_ret (v := .tuple #[.agg es, .nilIface]) ?_ rfl ⟨by rw [HRF.out, errV_nil, HES.out]; rfl, below_setRow hbl3 _ _ HG.out.1⟩
          exact results_cell_tmp (ty := 31) (p := 2) (q := 3) (by kernel_rfl) _ _ g2 31 _ (0, 0) _ rfl (setRow_heap _ _ _ _ _ _ hrs3) Try.underlying31 rfl hsE
        · have HRF := Lib.hid (show r = (ev0, chkE e) by rw [HRE.out, if_pos hce])
          obtain ⟨ce, hcee⟩ : ∃ ce, ce = chkE e := ⟨_, rfl⟩
          have HCE := Lib.hid hcee
          have HC0 := Lib.hid (show ce ≠ 0 by rw [hcee]; exact hce)
          rw [← hcee, errV_err HC0.out]
          have hz6 := ev0_is
          clear hce hcee
          go_wp2_with (refine wpList_store_row rfl 31 (.tmp 2) (.tmp 51) rfl g2 _ rfl rfl 31 (evC ev0) hrs3 hsz0 rfl hone0 ?_)
          refine bodyPost_ret (v := .tuple #[.agg (evC ev0), .iface 65 (.int .i64 ce)]) ?_ rfl ⟨by rw [HRF.out, ← HCE.out, errV_err HC0.out]; rfl, below_setRow hbl3 _ _ HG.out.1⟩
          exact results_cell_tmp (ty := 31) (p := 2) (q := 3) (by kernel_rfl) _ _ g2 31 _ (0, 0) _ rfl (setRow_heap _ _ _ _ _ _ hrs3) Try.underlying31 rfl hsz0
end Go.Proofs.Ythedopnhhanknaa
namespace Go.Proofs.Ythedopnhhanknaa
open Go.RowKit Ex
set_option maxRecDepth 100000
theorem evSaid (z : World) : EvSaid z where
  check := fun e w _ _ => check_code e w
  apply := fun s O L cs e w h hn hll hi _ => apply_code s O L cs e w h hn hll hi
  do_ := fun s O L e g w ha hx _ hn hll hi _ => do_code s O L e g w ha hx hn hll hi
  inv := fun e w _ _ => inv_code e w
  sets := fun e w _ _ => sets_any e w
  bytes := fun e w hi _ => bytes_code e w hi
  parse := fun A n c l w hN hc hb hn _ => parse_code A n c l w hN hc hb hn
end Go.Proofs.Ythedopnhhanknaa
