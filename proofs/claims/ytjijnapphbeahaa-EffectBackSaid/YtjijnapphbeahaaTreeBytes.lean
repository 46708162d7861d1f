/- Layer 6: an effect's bytes, and the reference's Bytes. -/
import Derived.Test.YtjijnapphbeahaaTreeBase
import Derived.Test.YtjijnapphbeahaaWireD
namespace Go.Proofs.Ytjijnapphbeahaa
open Go.RowKit Ex Wx
namespace Ex
/-- An effect's own numbers. -/
def hdT (op n m who : Int) (k : Nat) : List Int := bts op ++ bts n ++ bts m ++ bts who ++ bts (k : Int)
mutual
/-- An effect's bytes. -/
def btT : ET → List Int
  | .node op n m who l => hdT op n m who l.length ++ btL l
def btL : List ET → List Int
  | [] => []
  | t :: l => btT t ++ btL l
end
theorem hdT_len (op n m who : Int) (k : Nat) : (hdT op n m who k).length ≤ 50 := by
  have h0 := (bts_len op).2; have h1 := (bts_len n).2; have h2 := (bts_len m).2; have h3 := (bts_len who).2; have h4 := (bts_len (k : Int)).2
  simp only [hdT, List.length_append]; omega
mutual
theorem btT_len : ∀ t, (btT t).length ≤ 50 * sizeT t
  | .node op n m who l => by
    have h1 := hdT_len op n m who l.length
    have h2 := btL_len l
    simp only [btT, sizeT, List.length_append]; omega
theorem btL_len : ∀ l, (btL l).length ≤ 50 * sizeL l
  | [] => by simp [btL]
  | t :: l => by
    have h1 := btT_len t
    have h2 := btL_len l
    simp only [btL, sizeL, List.length_append]; omega
end
theorem btL_take : ∀ (l : List ET) (i : Nat) (t : ET), l[i]? = some t → btL (l.take (i + 1)) = btL (l.take i) ++ btT t
  | [], i, t, h => by simp at h
  | x :: l, 0, t, h => by simp at h; subst h; simp [btL]
  | x :: l, i + 1, t, h => by
    have := btL_take l i t (by simpa using h)
    simp only [List.take_succ_cons, btL, this, List.append_assoc]
end Ex
def ByRel (w1 : World) (hd : List Int) (l : List ET) (v i : Value) (wr : World) : Prop :=
  ∃ A m c k, v = .slice A m c ∧ i = .int .i64 ((k : Nat) : Int) ∧ k ≤ l.length ∧ Own .u8 5 wr w1.heap.size A m c (hd ++ btL (l.take k)) ∧ Below w1.heap.size w1 wr
set_option linter.unusedSimpArgs false in
set_option maxRecDepth 100000 in
set_option maxHeartbeats 2000000 in
theorem bytesRef6_any : ∀ (d : Nat) (t : ET) (cs : Array Value) (w : World), Reads w.heap.size w d cs t → sizeT t ≤ 1000000 →
    Calls Try.prog 21 #[.agg cs] w (MadeB .u8 5 w w.heap.size (btT t)) := by
  intro d
  obtain ⟨i0, hi, hz0, hz1, hz2⟩ := info_parts info_u8
  induction d with
  | zero => exact fun t cs w h => absurd h id
  | succ d ih =>
    intro t cs w hr hsz
    obtain ⟨op, n, m, who, l⟩ := t
    obtain ⟨i1, i2, i3, i4, A, c, hcs, hl, hc, hx⟩ := hr
    have HX := Lib.hid hx
    have HCs := Lib.hid hcs
    have hlen := sizeL_len l
    simp only [sizeT] at hsz
    have hil : i64B (l.length : Int) := ⟨by omega, by omega⟩
    clear hx hcs
    go_enter Try.func21, Try.ntmps21
    go_upto_region 1 with fail
    obtain ⟨w1, hw1⟩ : ∃ w1, w1 = w.alloc (.cells cs 24) := ⟨_, rfl⟩
    have HE := Lib.hid (show EvAt w1 w.heap.size cs by rw [hw1]; exact EvAt.new _ _)
    have hb1 : Below w.heap.size w w1 := by rw [hw1]; exact (Below.refl _ _).alloc (Nat.le_refl _) _
    rw [← hw1]
    clear hw1
    have hgl : w.heap.size < w1.heap.size := HE.out.lt
    have c0 : w1.cell? ⟨w.heap.size, 0, none⟩ = some (.int .i64 op) := by rw [HE.out.cell, HCs.out]; rfl
    go_wp2_with fail
    refine (bytesRef_any op i1 _).mono ?_
    rintro e w2 ⟨A4, m4, c4, rfl, hown4, hbel4⟩
    have hq0 := (bts_len op).2
    have hq1 := (bts_len n).2
    have hq2 := (bts_len m).2
    have hq3 := (bts_len who).2
    have hq4 := (bts_len (l.length : Int)).2
    clear c0
    have HV := Lib.hid hown4
    have hm4 := hown4.len
    try simp only [List.length_append] at hm4
    have cv := (HE.out.below hbel4 hgl).cell 1
    rw [HCs.out, show (evC op n m who A l.length c)[1]? = some (.int .i64 n) from rfl] at cv
    go_wp2_with fail
    refine (bytesRef_any n i2 _).mono ?_
    rintro e w5 ⟨A5, m5, c5, rfl, hown5, hb5⟩
    have hm5 : m5 ≤ 10 := by have := hown5.len; have := (bts_len n).2; omega
    have hown4' := hown4.below hb5 (Nat.le_refl _)
    have hs4 := hbel4.size
    have hs5 := hb5.size
    have hbel5 := hbel4.trans (hb5.mono hs4)
    clear hown4 hbel4 cv HV hb5
    go_upto_region 3 with (at_builtin; refine wpList_app rfl (.tmp 9) (.tmp 12) _ rfl .u8 w1.heap.size 5 i0 _ 1 Try.underlying37 hi hz0 hz1 hz2 rfl _ _ _ _ rfl hown4' _ A5 m5 c5 _ rfl hown5.nums (by omega) (by omega) (by omega) ?_; intro A6 c6 w6 hown6 hg6)
    have hbel4 := hown4'.belowGrown hbel5 (by omega) hg6
    have hown4 := hown6
    clear hown4' hbel5 hown5 hg6 hs4 hs5 hown6 hm4
    have HV := Lib.hid hown4
    have hm4 := hown4.len
    try simp only [List.length_append] at hm4
    have cv := (HE.out.below hbel4 hgl).cell 2
    rw [HCs.out, show (evC op n m who A l.length c)[2]? = some (.int .i64 m) from rfl] at cv
    go_wp2_with fail
    refine (bytesRef_any m i3 _).mono ?_
    rintro e w5 ⟨A5, m5, c5, rfl, hown5, hb5⟩
    have hm5 : m5 ≤ 10 := by have := hown5.len; have := (bts_len m).2; omega
    have hown4' := hown4.below hb5 (Nat.le_refl _)
    have hs4 := hbel4.size
    have hs5 := hb5.size
    have hbel5 := hbel4.trans (hb5.mono hs4)
    clear hown4 hbel4 cv HV hb5
    go_upto_region 4 with (at_builtin; refine wpList_app rfl (.tmp 14) (.tmp 17) _ rfl .u8 w1.heap.size 5 i0 _ 1 Try.underlying37 hi hz0 hz1 hz2 rfl _ _ _ _ rfl hown4' _ A5 m5 c5 _ rfl hown5.nums (by omega) (by omega) (by omega) ?_; intro A6 c6 w6 hown6 hg6)
    have hbel4 := hown4'.belowGrown hbel5 (by omega) hg6
    have hown4 := hown6
    clear hown4' hbel5 hown5 hg6 hs4 hs5 hown6 hm4
    have HV := Lib.hid hown4
    have hm4 := hown4.len
    try simp only [List.length_append] at hm4
    have cv := (HE.out.below hbel4 hgl).cell 3
    rw [HCs.out, show (evC op n m who A l.length c)[3]? = some (.int .i64 who) from rfl] at cv
    go_wp2_with fail
    refine (bytesRef_any who i4 _).mono ?_
    rintro e w5 ⟨A5, m5, c5, rfl, hown5, hb5⟩
    have hm5 : m5 ≤ 10 := by have := hown5.len; have := (bts_len who).2; omega
    have hown4' := hown4.below hb5 (Nat.le_refl _)
    have hs4 := hbel4.size
    have hs5 := hb5.size
    have hbel5 := hbel4.trans (hb5.mono hs4)
    clear hown4 hbel4 cv HV hb5
    go_upto_region 5 with (at_builtin; refine wpList_app rfl (.tmp 19) (.tmp 22) _ rfl .u8 w1.heap.size 5 i0 _ 1 Try.underlying37 hi hz0 hz1 hz2 rfl _ _ _ _ rfl hown4' _ A5 m5 c5 _ rfl hown5.nums (by omega) (by omega) (by omega) ?_; intro A6 c6 w6 hown6 hg6)
    have hbel4 := hown4'.belowGrown hbel5 (by omega) hg6
    have hown4 := hown6
    clear hown4' hbel5 hown5 hg6 hs4 hs5 hown6 hm4
    have HV := Lib.hid hown4
    have hm4 := hown4.len
    try simp only [List.length_append] at hm4
    have cv := (HE.out.below hbel4 hgl).cell 4
    rw [HCs.out, show (evC op n m who A l.length c)[4]? = some (.slice A l.length c) from rfl] at cv
    go_wp2_with fail
    refine (bytesRef_any (l.length : Int) hil _).mono ?_
    rintro e w5 ⟨A5, m5, c5, rfl, hown5, hb5⟩
    have hm5 : m5 ≤ 10 := by have := hown5.len; have := (bts_len (l.length : Int)).2; omega
    have hown4' := hown4.below hb5 (Nat.le_refl _)
    have hs4 := hbel4.size
    have hs5 := hb5.size
    have hbel5 := hbel4.trans (hb5.mono hs4)
    clear hown4 hbel4 cv HV hb5
    go_upto_region 6 with (at_builtin; refine wpList_app rfl (.tmp 24) (.tmp 28) _ rfl .u8 w1.heap.size 5 i0 _ 1 Try.underlying37 hi hz0 hz1 hz2 rfl _ _ _ _ rfl hown4' _ A5 m5 c5 _ rfl hown5.nums (by omega) (by omega) (by omega) ?_; intro A6 c6 w6 hown6 hg6)
    have hbel4 := hown4'.belowGrown hbel5 (by omega) hg6
    have hown4 := hown6
    clear hown4' hbel5 hown5 hg6 hs4 hs5 hown6 hm4
    have HO := Lib.hid (show Own .u8 5 _ w1.heap.size _ _ _ (hdT op n m who l.length ++ btL (l.take 0)) by
      have h := hown4
      simp only [btL, List.take_zero, List.append_nil, hdT]
      exact h)
    have cv := (HE.out.below hbel4 hgl).cell 4
    rw [HCs.out, show (evC op n m who A l.length c)[4]? = some (.slice A l.length c) from rfl] at cv
    have hhd := hdT_len op n m who l.length
    obtain ⟨hd, hhde⟩ : ∃ hd, hd = hdT op n m who l.length := ⟨_, rfl⟩
    rw [← hhde] at HO hhd
    have HBt := Lib.hid (show btT (.node op n m who l) = hd ++ btL l by simp only [btT]; rw [hhde])
    go_upto_region 7 with fail
    clear hown4 cv hhde i1 i2 i3 i4 hil hq0 hq1 hq2 hq3 hq4
    go_loopw [3, 33] (fun v i wr => ByRel w1 hd l v i wr) (fun _ i _ => l.length - (intOf i).toNat)
    case atStart => exact ⟨_, _, _, 0, rfl, rfl, by omega, HO.out, hbel4⟩
    case round =>
      obtain ⟨A4, m4, c4, k, rfl, rfl, hk, hown4, hb⟩ := hrel
      clear HO hbel4
      have HO := Lib.hid hown4
      have hm4 := hown4.len
      have hs4 := hb.size
      have hbt := btL_len (l.take k)
      have hsz2 := sizeL_take_le l k
      simp only [List.length_append] at hm4
      have hm4b : m4 ≤ 60000000 := by omega
      clear hown4 hm4 hbt hsz2
      by_cases hlt : k < l.length
      · obtain ⟨t, ht⟩ : ∃ t, l[k]? = some t := ⟨_, List.getElem?_eq_getElem hlt⟩
        obtain ⟨b, o, xs, rfl, hbb, hra, hrx⟩ := HX.out k t ht
        have hd' : decide ((k : Int) < (l.length : Int)) = true := by simp; omega
        have hts := size_mem ht
        have hbt := btT_len t
        have HN := Lib.hid (btL_take l k t ht)
        have hkr : k < 1000000 := by omega
        have hxs := hrx.size
        have hx1 := hrx.one
        have hsx : (Try.prog.info? 24).map (·.size) = some xs.size := by rw [hxs]; exact size5
        have hraw := rangeAt_below hb (by have := hb1.size; omega) (rangeAt_below hb1 hbb hra)
        have hnew : (wr.alloc (.cells zeroE 24)).heap[wr.heap.size]? = some (.cells zeroE 24 (0, 0)) := heap_alloc_new _ _
        go_upto_region 9 with (first
          | (refine load_sub rfl (.tmp 35) rfl b (o + k * 5) rfl xs hxs hraw ?_)
          | (refine wpList_store_row rfl 24 (.tmp 5) (.tmp 36) rfl wr.heap.size _ rfl rfl 24 zeroE hnew hsx (by rw [hxs]; rfl) hx1 ?_))
        obtain ⟨wn, hwn, hEn, hbn⟩ := ev_box wr (xs := xs)
        have hrn := hrx.grow (keepB hbn (keepB hb hb1))
        have hbwn := keepB hbn hb
        rw [← hwn]
        clear hwn hnew hraw hx1
        have hown4 := HO.out.below hbn (Nat.le_refl _)
        go_wp2_with (refine wpList_load_row rfl 24 (.tmp 5) rfl wr.heap.size rfl 24 _ (0, 0) _ hEn Try.underlying24 rfl hsx ?_)
        refine (ih t xs wn hrn (by omega)).mono ?_
        rintro e w5 ⟨A5, m5, c5, rfl, hown5, hb5⟩
        have hm5 : m5 ≤ 60000000 := by have := hown5.len; omega
        have hown4' := hown4.below hb5 (Nat.le_refl _)
        have hs6 := hbwn.size
        have hs5 := hb5.size
        have hbel5 := keepB hb5 hbwn
        clear hown4 hrn hbn hb5 hbwn hts hd'
        go_wp2_with (at_builtin; refine wpList_app rfl (.tmp 37) (.tmp 39) _ rfl .u8 w1.heap.size 5 i0 _ 1 Try.underlying37 hi hz0 hz1 hz2 rfl _ _ _ _ rfl hown4' _ A5 m5 c5 _ rfl hown5.nums (by omega) (by omega) (by omega) ?_; intro A6 c6 w6 hown6 hg6)
        have HO6 := Lib.hid hown6
        have hbel6 := hown4'.belowGrown hbel5 (by omega) hg6
        clear hown6 hg6 hown5 hown4' hbel5
        go_roundw
        case rel => exact ⟨A6, _, c6, k + 1, rfl, by go_num, by omega, by rw [HN.out, ← List.append_assoc]; exact HO6.out, hbel6⟩
        case measure => simp [intOf]; omega
      · obtain rfl : k = l.length := by omega
        have hd' : decide ((l.length : Int) < (l.length : Int)) = false := by simp
        rw [List.take_length] at HO
        go_wp2_with fail
        go_ret
        refine ⟨A4, m4, c4, rfl, ?_, keepB hb hb1⟩
        rw [HBt.out]
        exact HO.out.base_le (by omega)
end Go.Proofs.Ytjijnapphbeahaa
