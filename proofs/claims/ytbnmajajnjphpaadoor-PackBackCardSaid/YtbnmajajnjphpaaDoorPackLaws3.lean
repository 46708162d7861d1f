/- Layer 3: PackObjects, walked over what the calls answer. -/
import Derived.Test.YtbnmajajnjphpaaDoorPackLaws2
namespace Go.Proofs.YtbnmajajnjphpaaDoor
open Go.RowKit Px
attribute [local go_sem] arr_get
theorem object_ok {b : World} (S : PackSaid b) {x : Int} (r : Nat → Int) (h0 : 0 ≤ x) (h1 : x < 2097152) (w : World) (hw : Below b.heap.size b w) : Calls Tryd.prog 13 #[.int .u32 x, .agg (arr .i64 9 r)] w fun e w' => e = .returned (.tuple #[.agg (arr .i64 18 (objF x r)), .nilIface]) ∧ Below w.heap.size w w' :=
  (S.object x r w h0 (by omega) hw).mono fun _ _ ⟨h, h2⟩ => by
    rcases h with ⟨_, h⟩ | ⟨h, _⟩
    · exact ⟨h, h2⟩
    · omega
theorem object_bad {b : World} (S : PackSaid b) {x : Int} (r : Nat → Int) (h0 : 2097152 ≤ x) (h1 : x < 4294967296) (w : World) (hw : Below b.heap.size b w) : Calls Tryd.prog 13 #[.int .u32 x, .agg (arr .i64 9 r)] w fun e w' => e = .returned (.tuple #[.agg (arr .i64 18 (fun _ => 0)), .iface 54 (.int .i64 2)]) ∧ Below w.heap.size w w' :=
  (S.object x r w (by omega) h1 hw).mono fun _ _ ⟨h, h2⟩ => by
    rcases h with ⟨h, _⟩ | ⟨_, h⟩
    · omega
    · exact ⟨h, h2⟩
theorem objectRef_ok {x : Int} (r : Nat → Int) (h0 : 0 ≤ x) (h1 : x < 2097152) (w : World) : Calls Tryd.prog 14 #[.int .u32 x, .agg (arr .i64 9 r)] w fun e w' => e = .returned (.tuple #[.agg (arr .i64 18 (objF x r)), .int .i64 0]) ∧ Below w.heap.size w w' :=
  (objectRef_any x h0 (by omega) r w).mono fun _ _ ⟨h, h2⟩ => by
    rcases h with ⟨_, h⟩ | ⟨h, _⟩
    · exact ⟨h, h2⟩
    · omega
theorem objectRef_bad {x : Int} (r : Nat → Int) (h0 : 2097152 ≤ x) (h1 : x < 4294967296) (w : World) : Calls Tryd.prog 14 #[.int .u32 x, .agg (arr .i64 9 r)] w fun e w' => e = .returned (.tuple #[.agg (arr .i64 18 (fun _ => 0)), .int .i64 2]) ∧ Below w.heap.size w w' :=
  (objectRef_any x (by omega) h1 r w).mono fun _ _ ⟨h, h2⟩ => by
    rcases h with ⟨h, _⟩ | ⟨_, h⟩
    · omega
    · exact ⟨h, h2⟩
/-- A variable is made, and an array laid there. -/
theorem laid_new (w : World) (k : IntKind) (n : Nat) (t : TypeId) (f g : Nat → Int) : ∃ W, W = (w.alloc (.cells (arr k n f) t)).setRow w.heap.size (arr k n g) ∧ ArrAt k n t W w.heap.size g ∧ Below w.heap.size w W :=
  ⟨_, rfl, (ArrAt.new w k n t f).setRow g, below_setRow ((Below.refl _ _).alloc (Nat.le_refl _) _) _ _ (Nat.le_refl _)⟩
set_option maxRecDepth 100000 in
set_option maxHeartbeats 1000000 in
theorem packObjects_ok {w : World} (S : PackSaid w) (x : Int) (h0 : 0 ≤ x) (h1 : x < 2097152) (r : Nat → Int) :
    Calls Tryd.prog 4 #[.int .u32 x, .agg (arr .i64 9 r)] w fun e w' => e = .returned (.bool true) ∧ Below w.heap.size w w' := by
  have hz := zero18
  have hsz : ∀ f, (Tryd.prog.info? 23).map (·.size) = some (arr .i64 18 f).size := fun f => by rw [arr_size]; exact size18
  have hs9 : (Tryd.prog.info? 33).map (·.size) = some (arr .i64 9 r).size := by rw [arr_size]; exact size9
  go_enter Tryd.func4, Tryd.ntmps4
  go_wp2_with fail
  refine (alive_true S.toHeadSaid _ ((Below.refl _ _).alloc (Nat.le_refl _) _)).mono ?_
  rintro e w1 ⟨rfl, hb1⟩
  have ha := (ArrAt.new w .i64 9 33 r).keep hb1
  have hbel1 : Below w.heap.size w w1 := ((Below.refl _ _).alloc (Nat.le_refl _) _).trans (hb1.mono (by simp))
  have hl := ha.lt
  clear hb1
  go_wp2_with (refine wpList_load_row rfl 33 (.tmp 3) rfl w.heap.size rfl 33 _ (0, 0) _ ha Tryd.underlying33 rfl hs9 ?_)
  refine (object_ok S r h0 h1 _ hbel1).mono ?_
  rintro e w2 ⟨rfl, hb2⟩
  have ha2 := ha.keep hb2
  have hbel2 := keepB hb2 hbel1
  clear hb2 ha hbel1
  obtain ⟨w3, hw3, hn3, hb3⟩ := laid_new w2 .i64 18 23 (fun _ => 0) (objF x r)
  go_upto_region 4 with (refine wpList_store_row rfl 23 (.tmp 5) (.tmp 15) rfl w2.heap.size _ rfl rfl 23 (arr .i64 18 (fun _ => 0)) (heap_alloc_new _ _) (hsz _) (by simp only [arr_size]) (arr_one _ _ _) ?_)
  rw [← hw3]
  have ha3 := ha2.keep hb3
  have hbel3 := keepB hb3 hbel2
  clear hb3 ha2 hbel2 hw3
  go_wp2_with (refine wpList_load_row rfl 33 (.tmp 3) rfl w.heap.size rfl 33 _ (0, 0) _ ha3 Tryd.underlying33 rfl hs9 ?_)
  refine (objectRef_ok r h0 h1 _).mono ?_
  rintro e w4 ⟨rfl, hb4⟩
  have hn4 := hn3.keep hb4
  have hbel4 := keepB hb4 hbel3
  clear hb4 hn3 ha3 hbel3
  obtain ⟨w5, hw5, hn5, hb5⟩ := laid_new w4 .i64 18 23 (fun _ => 0) (objF x r)
  go_upto_region 5 with (refine wpList_store_row rfl 23 (.tmp 7) (.tmp 21) rfl w4.heap.size _ rfl rfl 23 (arr .i64 18 (fun _ => 0)) (heap_alloc_new _ _) (hsz _) (by simp only [arr_size]) (arr_one _ _ _) ?_)
  rw [← hw5]
  have hm5 := hn4.keep hb5
  have hbel5 := keepB hb5 hbel4
  have heq := eq18 (objF x r) (objF x r) (fun _ _ => rfl)
  clear hb5 hn4 hbel4 hw5 hs9 hz
  go_wp2_with (first
    | (refine wpList_load_row rfl 23 (.tmp 5) rfl w2.heap.size rfl 23 _ (0, 0) _ hm5 Tryd.underlying23 rfl (hsz _) ?_)
    | (refine wpList_load_row rfl 23 (.tmp 7) rfl w4.heap.size rfl 23 _ (0, 0) _ hn5 Tryd.underlying23 rfl (hsz _) ?_)
    | (go_at_call 10; refine (num_nil _).mono ?_; rintro e w6 ⟨rfl, rfl⟩))
  go_ret
  exact ⟨rfl, hbel5⟩
set_option maxRecDepth 100000 in
set_option maxHeartbeats 1000000 in
theorem packObjects_bad {w : World} (S : PackSaid w) (x : Int) (h0 : 2097152 ≤ x) (h1 : x < 4294967296) (r : Nat → Int) :
    Calls Tryd.prog 4 #[.int .u32 x, .agg (arr .i64 9 r)] w fun e w' => e = .returned (.bool true) ∧ Below w.heap.size w w' := by
  have hz := zero18
  have hsz : ∀ f, (Tryd.prog.info? 23).map (·.size) = some (arr .i64 18 f).size := fun f => by rw [arr_size]; exact size18
  have hs9 : (Tryd.prog.info? 33).map (·.size) = some (arr .i64 9 r).size := by rw [arr_size]; exact size9
  go_enter Tryd.func4, Tryd.ntmps4
  go_wp2_with fail
  refine (alive_true S.toHeadSaid _ ((Below.refl _ _).alloc (Nat.le_refl _) _)).mono ?_
  rintro e w1 ⟨rfl, hb1⟩
  have ha := (ArrAt.new w .i64 9 33 r).keep hb1
  have hbel1 : Below w.heap.size w w1 := ((Below.refl _ _).alloc (Nat.le_refl _) _).trans (hb1.mono (by simp))
  have hl := ha.lt
  clear hb1
  go_wp2_with (refine wpList_load_row rfl 33 (.tmp 3) rfl w.heap.size rfl 33 _ (0, 0) _ ha Tryd.underlying33 rfl hs9 ?_)
  refine (object_bad S r h0 h1 _ hbel1).mono ?_
  rintro e w2 ⟨rfl, hb2⟩
  have ha2 := ha.keep hb2
  have hbel2 := keepB hb2 hbel1
  clear hb2 ha hbel1
  obtain ⟨w3, hw3, hn3, hb3⟩ := laid_new w2 .i64 18 23 (fun _ => 0) (fun _ => 0)
  go_upto_region 4 with (refine wpList_store_row rfl 23 (.tmp 5) (.tmp 15) rfl w2.heap.size _ rfl rfl 23 (arr .i64 18 (fun _ => 0)) (heap_alloc_new _ _) (hsz _) (by simp only [arr_size]) (arr_one _ _ _) ?_)
  rw [← hw3]
  have ha3 := ha2.keep hb3
  have hbel3 := keepB hb3 hbel2
  clear hb3 ha2 hbel2 hw3
  go_wp2_with (refine wpList_load_row rfl 33 (.tmp 3) rfl w.heap.size rfl 33 _ (0, 0) _ ha3 Tryd.underlying33 rfl hs9 ?_)
  refine (objectRef_bad r h0 h1 _).mono ?_
  rintro e w4 ⟨rfl, hb4⟩
  have hn4 := hn3.keep hb4
  have hbel4 := keepB hb4 hbel3
  clear hb4 hn3 ha3 hbel3
  obtain ⟨w5, hw5, hn5, hb5⟩ := laid_new w4 .i64 18 23 (fun _ => 0) (fun _ => 0)
  go_upto_region 5 with (refine wpList_store_row rfl 23 (.tmp 7) (.tmp 21) rfl w4.heap.size _ rfl rfl 23 (arr .i64 18 (fun _ => 0)) (heap_alloc_new _ _) (hsz _) (by simp only [arr_size]) (arr_one _ _ _) ?_)
  rw [← hw5]
  have hm5 := hn4.keep hb5
  have hbel5 := keepB hb5 hbel4
  have heq := eq18 (fun _ => 0) (fun _ => 0) (fun _ _ => rfl)
  clear hb5 hn4 hbel4 hw5 hs9 hz
  go_wp2_with (first
    | (refine wpList_load_row rfl 23 (.tmp 5) rfl w2.heap.size rfl 23 _ (0, 0) _ hm5 Tryd.underlying23 rfl (hsz _) ?_)
    | (refine wpList_load_row rfl 23 (.tmp 7) rfl w4.heap.size rfl 23 _ (0, 0) _ hn5 Tryd.underlying23 rfl (hsz _) ?_)
    | (go_at_call 10; refine (num_err 2 (by decide) _).mono ?_; rintro e w6 ⟨rfl, rfl⟩))
  go_ret
  exact ⟨rfl, hbel5⟩
theorem packObjects_walk {w : World} (S : PackSaid w) (x : Int) (r : Nat → Int) (hx : 0 ≤ x ∧ x < 4294967296) :
    Calls Tryd.prog 4 #[.int .u32 x, .agg (arr .i64 9 r)] w fun e w' => e = .returned (.bool true) ∧ Below w.heap.size w w' := by
  by_cases h : x < 2097152
  · exact packObjects_ok S x hx.1 h r
  · exact packObjects_bad S x (by omega) hx.2 r
end Go.Proofs.YtbnmajajnjphpaaDoor
