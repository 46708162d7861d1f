/- Layer 14: the law JournalNil. -/
import Derived.Test.YtncmfkmgaghklaaJnAlive
import Derived.Test.YtncmfkmgaghklaaIs
namespace Go.Proofs.Ytncmfkmgaghklaa
open Go.RowKit Ex
set_option maxRecDepth 100000
set_option linter.unusedSimpArgs false in
set_option maxHeartbeats 0 in
theorem journalNil_walk {T : JRep} {w : World} (E : JnSaid T w) (EN : JnNil w) (c : Int) (e : EvT) (hc : N64 c) (hI : EvI e) :
    Calls Try.prog 4 #[.int .i64 c, evV e] w fun en w' => en = .returned (.bool true) ∧ Below w.heap.size w w' := by
  have HC := Lib.hid hc
  have HI := Lib.hid hI
  clear hc hI
  go_enter Try.func4, Try.ntmps4
  go_upto_region 1 with fail
  obtain ⟨w1, hw1⟩ : ∃ w1, w1 = w.alloc (.cells (evC e) 41) := ⟨_, rfl⟩
  have he1 : EvB w1 w.heap.size e := by rw [hw1]; exact heap_alloc_new _ _
  have hb1 : Below w.heap.size w w1 := by rw [hw1]; exact (Below.refl _ _).alloc (Nat.le_refl _) _
  show Code.wp _ _ _ _ (w.alloc (.cells (evC e) 41))
  rw [← hw1]
  obtain ⟨ge, hge⟩ : ∃ g, g = w.heap.size := ⟨_, rfl⟩
  rw [← hge] at he1
  rw [← hge]
  clear hw1 hge
  go_wp2_with fail
  refine (jnAlive E w1 hb1).mono ?_
  rintro en w2 ⟨rfl, hb⟩
  have he2 := he1.keep hb
  have hb2 := keepB hb hb1
  clear he1 hb1 hb
  go_wp2_with fail
  refine (EN.span c w2 HC.out hb2).mono ?_
  rintro en w3 ⟨A3, c3, rfl, hb⟩
  have he3 := he2.keep hb
  have hb3 := keepB hb hb2
  clear he2 hb2 hb
  go_wp2_with fail
  refine (EN.back c w3 HC.out hb3).mono ?_
  rintro en w4 ⟨A4, c4, rfl, hb⟩
  have he4 := he3.keep hb
  have hb4 := keepB hb hb3
  clear he3 hb3 hb
  have hb5 : Below w4.heap.size w4 (w4.alloc (.cells (evC e) 41)) := (Below.refl _ _).alloc (Nat.le_refl _) _
  have hE5 : EvB (w4.alloc (.cells (evC e) 41)) w4.heap.size e := heap_alloc_new _ _
  have hbw5 := keepB hb5 hb4
  have hV5 : Evs (w4.alloc (.cells (evC e) 41)).heap.size (w4.alloc (.cells (evC e) 41)) (some ⟨w4.heap.size, 0, none⟩) 1 [e] := ⟨rfl, rdV_one hE5, fun x hx => by
    obtain rfl : x = e := by simpa using hx
    exact HI.out⟩
  have ha := EN.add _ 1 1 [e] _ hV5 (Nat.le_refl _) (by omega) hbw5
  clear hb5 hE5 hV5 hb4
  go_wp2_with (first
    | (refine load_ev (by rfl) (.tmp 3) rfl ge rfl e he4 ?_)
    | (refine wpList_buildSliceEv rfl (.tmp 25) rfl e rfl ?_))
  refine ha.mono ?_
  rintro en w6 ⟨rfl, hb⟩
  have hb6 := keepB hb hbw5
  clear ha hb hbw5 he4
  go_wp2_with fail
  refine (is_by 4 4 w6).mono ?_
  rintro en v1 ⟨rfl, rfl⟩
  go_wp2_with fail
  refine (is_by 16 16 w6).mono ?_
  rintro en v2 ⟨rfl, rfl⟩
  go_wp2_with fail
  refine (is_by 16 16 w6).mono ?_
  rintro en v3 ⟨rfl, rfl⟩
  go_wp2_with fail
  refine (EN.fold c w6 HC.out hb6).mono ?_
  rintro en w7 ⟨rfl, hb⟩
  have hb7 := keepB hb hb6
  clear hb6 hb
  go_wp2_with fail
  refine (is_by 16 16 w7).mono ?_
  rintro en v4 ⟨rfl, rfl⟩
  go_wp2_with fail
  refine (EN.mark w7 hb7).mono ?_
  rintro en w8 ⟨rfl, hb⟩
  have hb8 := keepB hb hb7
  clear hb7 hb
  go_wp2_with fail
  refine (EN.len w8 hb8).mono ?_
  rintro en w9 ⟨rfl, hb⟩
  have hb9 := keepB hb hb8
  clear hb8 hb
  go_wp2_with fail
  refine (EN.next w9 hb9).mono ?_
  rintro en wA ⟨rfl, hb⟩
  have hbA := keepB hb hb9
  clear hb9 hb
  go_wp2_with fail
  refine (EN.live c wA HC.out hbA).mono ?_
  rintro en wB ⟨rfl, hb⟩
  have hbB := keepB hb hbA
  clear hbA hb
  go_wp2_with fail
  refine (EN.marks wB hbB).mono ?_
  rintro en wC ⟨A5, c5, rfl, hb⟩
  have hbC := keepB hb hbB
  clear hbB hb
  go_wp2_with fail
  refine (EN.copy wC hbC).mono ?_
  rintro en wD ⟨rfl, hb⟩
  have hbD := keepB hb hbC
  clear hbC hb
  go_wp2_with fail
  go_ret
  exact ⟨rfl, hbD⟩
end Go.Proofs.Ytncmfkmgaghklaa
