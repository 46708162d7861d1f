/- Layer 15: the landed code's Known. -/
import Derived.Test.YtmhabodijmnldaaKwC2
import Derived.Test.YtmhabodijmnldaaKwSaid2
import Derived.Test.YtmhabodijmnldaaKwLw
import Derived.Test.YtmhabodijmnldaaSl
import Derived.Test.YtmhabodijmnldaaStBox
namespace Go.Proofs.Ytmhabodijmnldaa
open Go.RowKit Ex
set_option maxRecDepth 100000
set_option maxHeartbeats 0 in
theorem known_code (s : StT) (O : SlT) (L : Nat → SlT) (cs : Array Value) (p : Int) (w : World) (hR : ReadsS w.heap.size w cs s O L) (hn : s.objs.length ≤ 1000) :
    Calls Try.prog 10 #[.agg cs, .int .i64 p] w (KwIP w (knownK p 0 s.objs)) := by
  have hcs := hR.size
  have HR := Lib.hid hR
  have HN := Lib.hid hn
  obtain ⟨i0, hi, hz0, hz1, hz2⟩ := info_parts info_intK
  have c0 : cs[0]? = some (.slice O.A O.n O.c) := by rw [HR.out.cs]; exact stC_objs _ _ _ _
  have hOn := HR.out.on
  obtain ⟨A, n, c⟩ := O
  simp only at c0 hOn
  subst hOn
  clear hR hn
  go_enter Try.func10, Try.ntmps10
  go_upto_region 1 with fail
  obtain ⟨w1, hw1⟩ : ∃ w1, w1 = w.alloc (.cells cs 29) := ⟨_, rfl⟩
  have hs1 : StAt w1 w.heap.size cs := by rw [hw1]; exact StAt.new _ _
  have hb1 : Below w.heap.size w w1 := by rw [hw1]; exact (Below.refl _ _).alloc (Nat.le_refl _) _
  show Code.wp _ _ _ _ (w.alloc (.cells cs 29))
  rw [← hw1]
  obtain ⟨gs, hgs⟩ : ∃ g, g = w.heap.size := ⟨_, rfl⟩
  rw [← hgs] at hs1
  try rw [← hgs]
  have cg : w1.cell? ⟨gs, 0, none⟩ = some (.slice A s.objs.length c) := by rw [hs1.cell]; exact c0
  have HB1 := Lib.hid hb1
  have HO0 := Lib.hid (show Own .i64 3 w1 w.heap.size none 0 0 (knownK p 0 (s.objs.take 0)) from Own.nil w1)
  clear hw1 hgs hb1 c0 hs1
  go_upto_region 3 with fail
  go_loopw [5, 11] (fun v i wr => ∃ (A1 : Option Addr) (m c1 k : Nat), v = .slice A1 m c1 ∧ i = .int .i64 ((k : Nat) : Int) ∧ k ≤ s.objs.length ∧ Hid (Own .i64 3 wr w.heap.size A1 m c1 (knownK p 0 (s.objs.take k))) ∧ Hid (Below w.heap.size w wr)) (fun _ i _ => s.objs.length - (intOf i).toNat)
  case atStart => exact ⟨_, 0, 0, 0, rfl, rfl, by omega, HO0, HB1⟩
  case round =>
    clear HO0 HB1 cg
    obtain ⟨A1, m, c1, k, rfl, rfl, hk, HO1, HB1⟩ := hrel
    by_cases hlt : k < s.objs.length
    · obtain ⟨o, ho⟩ : ∃ o, s.objs[k]? = some o := ⟨_, List.getElem?_eq_getElem hlt⟩
      obtain ⟨b, off, ea, hbl, hra⟩ := HR.out.o k o ho
      simp only at ea
      subst ea
      have HRa := Lib.hid (range_below HB1.out hbl hra)
      have HTk := Lib.hid (knownK_take (p := p) ho)
      have hmk : m ≤ 1000 := by
        have h1 := HO1.out.len
        have h2 := known_len p (s.objs.take k) 0
        have h3 := HN.out
        rw [List.length_take] at h2
        omega
      have p0 : (0 : Int) ≤ (k : Int) := by omega
      have p1 : (k : Int) < (s.objs.length : Int) := by omega
      have p2 : (k : Int) ≤ 1000 := by have := HN.out; omega
      have hz := st_zero18
      have hnew : (wr.alloc (.cells (arr .i64 18 fun _ => 0) 33)).heap[wr.heap.size]? = some (.cells (arr .i64 18 fun _ => 0) 33 (0, 0)) := heap_alloc_new _ _
      have hsx : (Try.prog.info? 33).map (·.size) = some (arr .i64 18 o).size := by rw [arr_size]; exact st_size18
      clear ho hra hbl
      go_upto_region 5 with (first
        | (refine load_obj rfl (.tmp 14) rfl b (off + k * 18) rfl o HRa.out ?_)
        | (refine wpList_store_row rfl 33 (.tmp 7) (.tmp 15) rfl wr.heap.size _ rfl rfl 33 (arr .i64 18 fun _ => 0) hnew hsx (by rw [arr_size, arr_size]) (arr_one .i64 18 o) ?_))
      obtain ⟨w5, hw5, hO5, hb5⟩ := ob_box wr o
      rw [← hw5]
      have HB5 := Lib.hid (keepB hb5 HB1.out)
      have HOx := Lib.hid (HO1.out.below hb5 (Nat.le_refl _))
      obtain ⟨go, hgo⟩ : ∃ g, g = wr.heap.size := ⟨_, rfl⟩
      rw [← hgo] at hO5 ⊢
      obtain ⟨q, hq⟩ : ∃ q, q = bitK (o 17) p := ⟨_, rfl⟩
      have hkn := knows_code o p w5
      rw [← hq] at hkn HTk
      have hO7 := hO5.range
      clear hw5 hgo hnew hsx hz hb5 hO5 hq HO1 HB1 HRa
      go_wp2_with (refine load_objW (by rfl) (.tmp 7) rfl go 0 rfl o hO7 ?_)
      refine hkn.mono ?_
      rintro en w8 ⟨rfl, hb8⟩
      have HB8 := Lib.hid (keepB hb8 HB5.out)
      have HO8 := Lib.hid (HOx.out.below hb8 (Nat.le_refl _))
      clear hb8 HB5 HOx hO7 hkn
      cases q with
      | true =>
        have HTk := Lib.hid (HTk.out.trans (by rw [if_pos rfl]))
        go_wp2_with (at_builtin; refine wpList_app rfl (.tmp 19) (.tmp 21) _ rfl .i64 w.heap.size 3 i0 _ 8 Try.underlying23 hi hz0 hz1 hz2 rfl A1 m c1 _ rfl (HO8.out.alloc _) _ (some ⟨w8.heap.size, 0, none⟩) 1 1 [(k : Int)] rfl (Nums.one _ _ _ _) (by omega) (by omega) (by have := HB8.out.size; simp; omega) ?_; intro A6 c6 w9 hown9 hg9)
        have HO9 := Lib.hid hown9
        have HB9 := Lib.hid ((HO8.out.alloc (.cells #[.int .i64 (k : Int)] 3)).belowGrown (HB8.out.alloc HB8.out.size _) (by have := HB8.out.size; simp; omega) hg9)
        clear hown9 hg9
        go_roundw
        case rel => exact ⟨A6, _, c6, k + 1, rfl, by go_num, by omega, by rw [HTk.out]; exact HO9, HB9⟩
        case measure => simp [intOf]; omega
      | false =>
        have HTk := Lib.hid (HTk.out.trans (by rw [if_neg (by simp), List.append_nil]))
        go_wp2_with fail
        go_roundw
        case rel => exact ⟨A1, m, c1, k + 1, rfl, by go_num, by omega, by rw [HTk.out]; exact HO8, HB8⟩
        case measure => simp [intOf]; omega
    · obtain rfl : k = s.objs.length := by omega
      have HL := Lib.hid (show Own .i64 3 wr w.heap.size A1 m c1 (knownK p 0 s.objs) from by have h := HO1.out; rw [List.take_length] at h; exact h)
      go_wp2_with fail
      go_ret
      exact ⟨A1, m, c1, rfl, HL.out.cap, HL.out.nums, HB1.out⟩
end Go.Proofs.Ytmhabodijmnldaa
