/- Layer 10: the reference's ranges. -/
import Derived.Test.YtihbdbgmijkjmaaDoorStRef2
import Derived.Test.YtihbdbgmijkjmaaDoorStBase
import Derived.WalkMore
namespace Go.Proofs.YtihbdbgmijkjmaaDoor
open Go.ChangeShapes Go.WideShapes Go.RowKit Ex
set_option maxRecDepth 100000
attribute [local go_sem] arr_get
def playB (p : Nat → Int) : Bool := inR (p 0) (-1073741824) 1073741824 && inR (p 7) 0 1 && inR (p 8) 0 1 && (List.range 6).all fun k => inR (p (k + 1)) 0 1000
def gameB (g : Nat → Int) : Bool := inR (g 0) 0 1073741824 && inR (g 1) 0 1 && inR (g 2) 0 7 && inR (g 3) 0 1 && inR (g 4) 0 1 && inR (g 5) 0 4096 && inR (g 6) 0 3
def plB (s : StT) (j : Nat) : Bool := playB fun i => s.pl (j * 9 + i)
def rangesB (s : StT) : Bool := (s.objs.all fun o => objectB o s.objs.length) && plB s 0 && plB s 1 && gameB s.gm
def PlK (p : Nat → Int) (k : Nat) : Prop := ∀ m, m + 1 < k → inR (p (m + 1)) 0 1000 = true
def GoodP (s : StT) (j : Nat) : Prop := ∀ m, m < j → plB s m = true
theorem playB_first {p : Nat → Int} (h : inR (p 0) (-1073741824) 1073741824 = false ∨ inR (p 7) 0 1 = false ∨ inR (p 8) 0 1 = false) : playB p = false := by
  rcases h with h | h | h <;> simp [playB, h]
theorem playB_mid {p : Nat → Int} {k : Nat} (hk : k < 6) (h : inR (p (k + 1)) 0 1000 = false) : playB p = false := by
  have : ((List.range 6).all fun k => inR (p (k + 1)) 0 1000) = false := by
    rw [Bool.eq_false_iff]; intro h2
    rw [List.all_eq_true] at h2
    have := h2 k (List.mem_range.2 hk)
    rw [h] at this; cases this
  unfold playB
  rw [this, Bool.and_false]
theorem playB_good {p : Nat → Int} (h0 : inR (p 0) (-1073741824) 1073741824 = true) (h7 : inR (p 7) 0 1 = true) (h8 : inR (p 8) 0 1 = true) (h : PlK p 7) : playB p = true := by
  have : ((List.range 6).all fun k => inR (p (k + 1)) 0 1000) = true := by
    rw [List.all_eq_true]
    intro k hk
    exact h k (by have := List.mem_range.1 hk; omega)
  simp only [playB, h0, h7, h8, this, Bool.and_true]
theorem rangesB_pl {s : StT} {j : Nat} (hj : j < 2) (h : plB s j = false) : rangesB s = false := by
  match j, hj with
  | 0, _ => simp [rangesB, h]
  | 1, _ => simp [rangesB, h]
theorem rangesB_obj {s : StT} {k : Nat} (hk : k < s.objs.length) (h : objectB s.objs[k] s.objs.length = false) : rangesB s = false := by
  have : (s.objs.all fun o => objectB o s.objs.length) = false := by
    rw [Bool.eq_false_iff]; intro h2
    rw [List.all_eq_true] at h2
    have := h2 _ (List.getElem_mem hk)
    rw [h] at this; cases this
  simp [rangesB, this]
def GoodO (s : StT) (k : Nat) : Prop := ∀ j (hj : j < s.objs.length), j < k → objectB s.objs[j] s.objs.length = true
theorem objs_all {s : StT} (h : ∀ j (hj : j < s.objs.length), objectB s.objs[j] s.objs.length = true) : (s.objs.all fun o => objectB o s.objs.length) = true := by
  rw [List.all_eq_true]
  intro o ho
  obtain ⟨i, hi, rfl⟩ := List.getElem_of_mem ho
  exact h i hi
set_option maxHeartbeats 0 in
theorem ranges_any (s : StT) (O : SlT) (L : Nat → SlT) (cs : Array Value) (w : World) (B : Nat) (h : ReadsS B w cs s O L) (hB : B ≤ w.heap.size) (hn : s.objs.length ≤ 1000000) :
    Calls Tryd.prog 34 #[.agg cs] w fun e w' => e = .returned (.bool (rangesB s)) ∧ Below w.heap.size w w' := by
  go_enter Tryd.func34, Tryd.ntmps34
  have hcs := h.cs
  have c0 : cs[0]? = some (.slice O.A O.n O.c) := by rw [hcs]; exact stC_objs _ _ _ _
  have hOn := h.on
  have hOc := h.oc
  have hO := h.o
  have H := Lib.hid h
  clear h
  obtain ⟨A, n, c⟩ := O
  simp only at c0 hOn hOc hO
  clear hcs
  subst hOn
  go_upto_region 2 with fail
  have hs0 : StAt (w.alloc (.cells cs 29)) w.heap.size cs := StAt.new _ _
  have hb0 : Below w.heap.size w (w.alloc (.cells cs 29)) := (Below.refl _ _).alloc (Nat.le_refl _) _
  go_loopw [12] (fun i wr => ∃ k : Nat, i = .int .i64 ((k : Nat) : Int) ∧ k ≤ s.objs.length ∧ GoodO s k ∧ Below w.heap.size w wr ∧ StAt wr w.heap.size cs) (fun i _ => s.objs.length - (intOf i).toNat)
  case atStart => exact ⟨0, rfl, by omega, fun j hj hk => absurd hk (by omega), hb0, hs0⟩
  case round =>
    obtain ⟨k, rfl, hk, hgood, hbr, hsr⟩ := hrel
    have c0 := (hsr.cell 0).trans c0
    by_cases hlt : k < s.objs.length
    · obtain ⟨b, off, rfl, hbB, hra⟩ := hO.at_ (show k < s.objs.length by omega)
      have hra := range_below hbr (by omega) hra
      obtain ⟨x, hx⟩ : ∃ x, x = s.objs[k]'(by omega) := ⟨_, rfl⟩
      rw [← hx] at hra
      have HX := Lib.hid hx
      clear hx
      have hz := st_zero18
      have hnew : (wr.alloc (.cells (arr .i64 18 fun _ => 0) 56)).heap[wr.heap.size]? = some (.cells (arr .i64 18 fun _ => 0) 56 (0, 0)) := heap_alloc_new _ _
      have hsx : (Tryd.prog.info? 56).map (·.size) = some (arr .i64 18 x).size := by rw [arr_size]; exact st_size18
      go_upto_region 4 with (first
        | (refine load_obj rfl (.tmp 14) rfl b (off + k * 18) rfl x hra ?_)
        | (refine wpList_store_row rfl 56 (.tmp 4) (.tmp 15) rfl wr.heap.size _ rfl rfl 56 (arr .i64 18 fun _ => 0) hnew hsx (by rw [arr_size, arr_size]) (arr_one .i64 18 x) ?_))
      obtain ⟨wn, hwn, hEn, hbn⟩ := ob_box wr x
      rw [← hwn]
      have hbrn := keepB hbn hbr
      have hsn := hsr.keep hbn
      have c0n : wn.cell? ⟨w.heap.size, 0, none⟩ = some (.slice (some ⟨b, off, none⟩) s.objs.length c) := (hbn.cell hsr.lt).trans c0
      clear hwn hnew hra hz c0
      go_upto_region 5 with (refine wpList_load_row rfl 56 (.tmp 4) rfl wr.heap.size rfl 56 _ (0, 0) _ hEn Tryd.underlying56 rfl hsx ?_)
      refine (st_object_any x _ wn).mono ?_
      rintro e w4 ⟨rfl, hb4⟩
      have hbr4 := keepB hb4 hbrn
      have hs4 := hsn.keep hb4
      clear c0n hEn hbn hbrn hsn hsr hbr
      by_cases hq : objectB x s.objs.length = true
      · have hgood2 : GoodO s (k + 1) := fun j hj hjk => by
          by_cases e : j = k
          · subst e; rw [← HX.out]; exact hq
          · exact hgood j hj (by omega)
        go_wp2_with fail
        go_roundw
        case rel => exact ⟨k + 1, by go_num, by omega, hgood2, hbr4, hs4⟩
        case measure => simp [intOf]; omega
      · have hq : objectB x s.objs.length = false := by simpa using hq
        have hf : rangesB s = false := rangesB_obj (by omega) (HX.out ▸ hq)
        go_wp2_with fail
        go_ret
        exact ⟨congrArg (fun b => Ending.returned (Value.bool b)) hf.symm, hbr4⟩
    · obtain rfl : k = s.objs.length := by omega
      have hobj := objs_all fun j hj => hgood j hj hj
      have hq0 : GoodP s 0 := fun m hm => absurd hm (by omega)
      go_upto_region 8 with fail
      go_loopw [5] (fun i wr2 => ∃ j : Nat, i = .int .i64 ((j : Nat) : Int) ∧ j ≤ 2 ∧ GoodP s j ∧ Below w.heap.size w wr2 ∧ StAt wr2 w.heap.size cs) (fun i _ => 2 - (intOf i).toNat)
      case atStart => exact ⟨0, rfl, by omega, hq0, hbr, hsr⟩
      case round =>
        clear c0 hsr hbr
        obtain ⟨j, rfl, hj, hgp, hbr, hsr⟩ := hrel
        by_cases hlt : j < 2
        · have hd2 : decide ((j : Int) < 2) = true := by simp; omega
          obtain ⟨p, hp⟩ : ∃ p : Nat → Int, p = fun i => s.pl (j * 9 + i) := ⟨_, rfl⟩
          have hra := hsr
          rw [H.out.cs] at hra
          have hra := hra.pl hlt
          rw [← hp] at hra
          have HP := Lib.hid hp
          clear hp
          have hz := st_zero9
          have hnew : (wr.alloc (.cells (arr .i64 9 fun _ => 0) 25)).heap[wr.heap.size]? = some (.cells (arr .i64 9 fun _ => 0) 25 (0, 0)) := heap_alloc_new _ _
          have hsx : (Tryd.prog.info? 25).map (·.size) = some (arr .i64 9 p).size := by rw [arr_size]; exact st_size9
          go_upto_region 11 with (first
            | (refine load_nine rfl (.tmp 29) rfl w.heap.size (12 + j * 9) rfl p hra ?_)
            | (refine wpList_store_row rfl 25 (.tmp 6) (.tmp 30) rfl wr.heap.size _ rfl rfl 25 (arr .i64 9 fun _ => 0) hnew hsx (by rw [arr_size, arr_size]) (arr_one .i64 9 p) ?_))
          obtain ⟨wn, hwn, hEn, hbn⟩ := arr_box 9 25 wr p
          rw [← hwn]
          have hbrn := keepB hbn hbr
          have hsn := hsr.keep hbn
          have p0 := hEn.cell (i := 0) (by omega)
          have p7 := hEn.cell (i := 7) (by omega)
          have p8 := hEn.cell (i := 8) (by omega)
          clear hwn hnew hra hz hsx
          by_cases h0 : inR (p 0) (-1073741824) 1073741824 = true
          case neg =>
            have f0 : inR (p 0) (-1073741824) 1073741824 = false := by simpa using h0
            go_wp2_with fail
            refine (in_any _ _ _ _).mono ?_
            rintro e w9 ⟨rfl, rfl⟩
            have hf : rangesB s = false := rangesB_pl hlt (by unfold plB; rw [← HP.out]; exact playB_first (.inl f0))
            go_wp2_with fail
            go_ret
            exact ⟨congrArg (fun b => Ending.returned (Value.bool b)) hf.symm, hbrn⟩
          by_cases h7 : inR (p 7) 0 1 = true
          case neg =>
            have f7 : inR (p 7) 0 1 = false := by simpa using h7
            go_wp2_with fail
            refine (in_any _ _ _ _).mono ?_
            rintro e w9 ⟨rfl, rfl⟩
            go_wp2_with fail
            refine (in_any _ _ _ _).mono ?_
            rintro e w9 ⟨rfl, rfl⟩
            have hf : rangesB s = false := rangesB_pl hlt (by unfold plB; rw [← HP.out]; exact playB_first (.inr (.inl f7)))
            go_wp2_with fail
            go_ret
            exact ⟨congrArg (fun b => Ending.returned (Value.bool b)) hf.symm, hbrn⟩
          by_cases h8 : inR (p 8) 0 1 = true
          case neg =>
            have f8 : inR (p 8) 0 1 = false := by simpa using h8
            go_wp2_with fail
            refine (in_any _ _ _ _).mono ?_
            rintro e w9 ⟨rfl, rfl⟩
            go_wp2_with fail
            refine (in_any _ _ _ _).mono ?_
            rintro e w9 ⟨rfl, rfl⟩
            go_wp2_with fail
            refine (in_any _ _ _ _).mono ?_
            rintro e w9 ⟨rfl, rfl⟩
            have hf : rangesB s = false := rangesB_pl hlt (by unfold plB; rw [← HP.out]; exact playB_first (.inr (.inr f8)))
            go_wp2_with fail
            go_ret
            exact ⟨congrArg (fun b => Ending.returned (Value.bool b)) hf.symm, hbrn⟩
          go_wp2_with fail
          refine (in_any _ _ _ _).mono ?_
          rintro e w9 ⟨rfl, rfl⟩
          go_wp2_with fail
          refine (in_any _ _ _ _).mono ?_
          rintro e w9 ⟨rfl, rfl⟩
          go_wp2_with fail
          refine (in_any _ _ _ _).mono ?_
          rintro e w9 ⟨rfl, rfl⟩
          clear p0 p7 p8
          obtain ⟨g, hg⟩ : ∃ g, g = wr.heap.size := ⟨_, rfl⟩
          rw [← hg] at hEn ⊢
          clear hg
          go_upto_region 14 with fail
          have hk0 : PlK p 1 := fun m hm => absurd hm (by omega)
          go_loopw [7] (fun i wq => ∃ k : Nat, i = .int .i64 ((k + 1 : Nat) : Int) ∧ k ≤ 6 ∧ PlK p (k + 1) ∧ Below w.heap.size w wq ∧ StAt wq w.heap.size cs ∧ ArrAt .i64 9 25 wq g p) (fun i _ => 7 - (intOf i).toNat)
          case atStart => exact ⟨0, rfl, by omega, hk0, hbrn, hsn, hEn⟩
          case round =>
            clear hEn hsn hbrn hsr hbr
            obtain ⟨k, rfl, hk, hgk, hbr, hsr, hE⟩ := hrel
            by_cases hk6 : k < 6
            · have hd : decide (((k + 1 : Nat) : Int) ≤ 6) = true := by simp; omega
              have pk := hE.cell (i := k + 1) (by omega)
              by_cases hq : inR (p (k + 1)) 0 1000 = true
              case neg =>
                have fq : inR (p (k + 1)) 0 1000 = false := by simpa using hq
                go_wp2_with fail
                refine (in_any _ _ _ _).mono ?_
                rintro e w9 ⟨rfl, rfl⟩
                have hf : rangesB s = false := rangesB_pl hlt (by unfold plB; rw [← HP.out]; exact playB_mid hk6 fq)
                go_wp2_with fail
                go_ret
                exact ⟨congrArg (fun b => Ending.returned (Value.bool b)) hf.symm, hbr⟩
              have hgk2 : PlK p (k + 1 + 1) := fun m hm => by
                by_cases e : m = k
                · subst e; exact hq
                · exact hgk m (by omega)
              go_wp2_with fail
              refine (in_any _ _ _ _).mono ?_
              rintro e w9 ⟨rfl, rfl⟩
              go_wp2_with fail
              go_roundw
              case rel => exact ⟨k + 1, by go_num, by omega, hgk2, hbr, hsr, hE⟩
              case measure => simp [intOf]; omega
            · obtain rfl : k = 6 := by omega
              have hplj : plB s j = true := by unfold plB; rw [← HP.out]; exact playB_good h0 h7 h8 hgk
              have hgp2 : GoodP s (j + 1) := fun m hm => by
                by_cases e : m = j
                · subst e; exact hplj
                · exact hgp m (by omega)
              go_wp2_with fail
              go_roundw
              case rel => exact ⟨j + 1, by go_num, by omega, hgp2, hbr, hsr⟩
              case measure => simp [intOf]; omega
        · obtain rfl : j = 2 := by omega
          have hp0 := hgp 0 (by omega)
          have hp1 := hgp 1 (by omega)
          obtain ⟨q, hq⟩ : ∃ q : Nat → Int, q = s.gm := ⟨_, rfl⟩
          have hra := hsr
          rw [H.out.cs] at hra
          have hra := hra.gm
          rw [← hq] at hra
          have HQ : rangesB s = gameB q := by rw [hq]; simp only [rangesB, hobj, hp0, hp1, Bool.true_and]
          have HQ := Lib.hid HQ
          clear hq hp0 hp1 hgp hobj
          have hz := zero7
          have hnew : (wr.alloc (.cells (arr .i64 7 fun _ => 0) 27)).heap[wr.heap.size]? = some (.cells (arr .i64 7 fun _ => 0) 27 (0, 0)) := heap_alloc_new _ _
          have hsx : (Tryd.prog.info? 27).map (·.size) = some (arr .i64 7 q).size := by rw [arr_size]; exact st_size7
          go_upto_region 19 with (first
            | (refine load_seven rfl (.tmp 56) rfl w.heap.size 30 rfl q hra ?_)
            | (refine wpList_store_row rfl 27 (.tmp 8) (.tmp 57) rfl wr.heap.size _ rfl rfl 27 (arr .i64 7 fun _ => 0) hnew hsx (by rw [arr_size, arr_size]) (arr_one .i64 7 q) ?_))
          obtain ⟨wn, hwn, hEn, hbn⟩ := arr_box 7 27 wr q
          rw [← hwn]
          have hbrn := keepB hbn hbr
          have q0 := hEn.cell (i := 0) (by omega)
          have q1 := hEn.cell (i := 1) (by omega)
          have q2 := hEn.cell (i := 2) (by omega)
          have q3 := hEn.cell (i := 3) (by omega)
          have q4 := hEn.cell (i := 4) (by omega)
          have q5 := hEn.cell (i := 5) (by omega)
          have q6 := hEn.cell (i := 6) (by omega)
          clear hwn hnew hra hz hsx hsr hbr
          by_cases h0 : inR (q 0) 0 1073741824 = true
          case neg =>
            have f0 : inR (q 0) 0 1073741824 = false := by simpa using h0
            go_wp2_with fail
            refine (in_any _ _ _ _).mono ?_
            rintro e w9 ⟨rfl, rfl⟩
            go_wp2_with fail
            go_ret
            exact ⟨congrArg (fun b => Ending.returned (Value.bool b)) (by rw [HQ.out]; simp only [gameB, f0, Bool.false_and] : false = rangesB s), hbrn⟩
          by_cases h1 : inR (q 1) 0 1 = true
          case neg =>
            have f1 : inR (q 1) 0 1 = false := by simpa using h1
            go_wp2_with fail
            refine (in_any _ _ _ _).mono ?_
            rintro e w9 ⟨rfl, rfl⟩
            go_wp2_with fail
            refine (in_any _ _ _ _).mono ?_
            rintro e w9 ⟨rfl, rfl⟩
            go_wp2_with fail
            go_ret
            exact ⟨congrArg (fun b => Ending.returned (Value.bool b)) (by rw [HQ.out]; simp only [gameB, f1, Bool.false_and, Bool.and_false] : false = rangesB s), hbrn⟩
          by_cases h2 : inR (q 2) 0 7 = true
          case neg =>
            have f2 : inR (q 2) 0 7 = false := by simpa using h2
            go_wp2_with fail
            refine (in_any _ _ _ _).mono ?_
            rintro e w9 ⟨rfl, rfl⟩
            go_wp2_with fail
            refine (in_any _ _ _ _).mono ?_
            rintro e w9 ⟨rfl, rfl⟩
            go_wp2_with fail
            refine (in_any _ _ _ _).mono ?_
            rintro e w9 ⟨rfl, rfl⟩
            go_wp2_with fail
            go_ret
            exact ⟨congrArg (fun b => Ending.returned (Value.bool b)) (by rw [HQ.out]; simp only [gameB, f2, Bool.false_and, Bool.and_false] : false = rangesB s), hbrn⟩
          by_cases h3 : inR (q 3) 0 1 = true
          case neg =>
            have f3 : inR (q 3) 0 1 = false := by simpa using h3
            go_wp2_with fail
            refine (in_any _ _ _ _).mono ?_
            rintro e w9 ⟨rfl, rfl⟩
            go_wp2_with fail
            refine (in_any _ _ _ _).mono ?_
            rintro e w9 ⟨rfl, rfl⟩
            go_wp2_with fail
            refine (in_any _ _ _ _).mono ?_
            rintro e w9 ⟨rfl, rfl⟩
            go_wp2_with fail
            refine (in_any _ _ _ _).mono ?_
            rintro e w9 ⟨rfl, rfl⟩
            go_wp2_with fail
            go_ret
            exact ⟨congrArg (fun b => Ending.returned (Value.bool b)) (by rw [HQ.out]; simp only [gameB, f3, Bool.false_and, Bool.and_false] : false = rangesB s), hbrn⟩
          by_cases h4 : inR (q 4) 0 1 = true
          case neg =>
            have f4 : inR (q 4) 0 1 = false := by simpa using h4
            go_wp2_with fail
            refine (in_any _ _ _ _).mono ?_
            rintro e w9 ⟨rfl, rfl⟩
            go_wp2_with fail
            refine (in_any _ _ _ _).mono ?_
            rintro e w9 ⟨rfl, rfl⟩
            go_wp2_with fail
            refine (in_any _ _ _ _).mono ?_
            rintro e w9 ⟨rfl, rfl⟩
            go_wp2_with fail
            refine (in_any _ _ _ _).mono ?_
            rintro e w9 ⟨rfl, rfl⟩
            go_wp2_with fail
            refine (in_any _ _ _ _).mono ?_
            rintro e w9 ⟨rfl, rfl⟩
            go_wp2_with fail
            go_ret
            exact ⟨congrArg (fun b => Ending.returned (Value.bool b)) (by rw [HQ.out]; simp only [gameB, f4, Bool.false_and, Bool.and_false] : false = rangesB s), hbrn⟩
          by_cases h5 : inR (q 5) 0 4096 = true
          case neg =>
            have f5 : inR (q 5) 0 4096 = false := by simpa using h5
            go_wp2_with fail
            refine (in_any _ _ _ _).mono ?_
            rintro e w9 ⟨rfl, rfl⟩
            go_wp2_with fail
            refine (in_any _ _ _ _).mono ?_
            rintro e w9 ⟨rfl, rfl⟩
            go_wp2_with fail
            refine (in_any _ _ _ _).mono ?_
            rintro e w9 ⟨rfl, rfl⟩
            go_wp2_with fail
            refine (in_any _ _ _ _).mono ?_
            rintro e w9 ⟨rfl, rfl⟩
            go_wp2_with fail
            refine (in_any _ _ _ _).mono ?_
            rintro e w9 ⟨rfl, rfl⟩
            go_wp2_with fail
            refine (in_any _ _ _ _).mono ?_
            rintro e w9 ⟨rfl, rfl⟩
            go_wp2_with fail
            go_ret
            exact ⟨congrArg (fun b => Ending.returned (Value.bool b)) (by rw [HQ.out]; simp only [gameB, f5, Bool.false_and, Bool.and_false] : false = rangesB s), hbrn⟩
          by_cases h6 : inR (q 6) 0 3 = true
          case neg =>
            have f6 : inR (q 6) 0 3 = false := by simpa using h6
            go_wp2_with fail
            refine (in_any _ _ _ _).mono ?_
            rintro e w9 ⟨rfl, rfl⟩
            go_wp2_with fail
            refine (in_any _ _ _ _).mono ?_
            rintro e w9 ⟨rfl, rfl⟩
            go_wp2_with fail
            refine (in_any _ _ _ _).mono ?_
            rintro e w9 ⟨rfl, rfl⟩
            go_wp2_with fail
            refine (in_any _ _ _ _).mono ?_
            rintro e w9 ⟨rfl, rfl⟩
            go_wp2_with fail
            refine (in_any _ _ _ _).mono ?_
            rintro e w9 ⟨rfl, rfl⟩
            go_wp2_with fail
            refine (in_any _ _ _ _).mono ?_
            rintro e w9 ⟨rfl, rfl⟩
            go_wp2_with fail
            refine (in_any _ _ _ _).mono ?_
            rintro e w9 ⟨rfl, rfl⟩
            go_wp2_with fail
            go_ret
            exact ⟨congrArg (fun b => Ending.returned (Value.bool b)) (by rw [HQ.out]; simp only [gameB, f6, Bool.and_false] : false = rangesB s), hbrn⟩
          go_wp2_with fail
          refine (in_any _ _ _ _).mono ?_
          rintro e w9 ⟨rfl, rfl⟩
          go_wp2_with fail
          refine (in_any _ _ _ _).mono ?_
          rintro e w9 ⟨rfl, rfl⟩
          go_wp2_with fail
          refine (in_any _ _ _ _).mono ?_
          rintro e w9 ⟨rfl, rfl⟩
          go_wp2_with fail
          refine (in_any _ _ _ _).mono ?_
          rintro e w9 ⟨rfl, rfl⟩
          go_wp2_with fail
          refine (in_any _ _ _ _).mono ?_
          rintro e w9 ⟨rfl, rfl⟩
          go_wp2_with fail
          refine (in_any _ _ _ _).mono ?_
          rintro e w9 ⟨rfl, rfl⟩
          go_wp2_with fail
          refine (in_any _ _ _ _).mono ?_
          rintro e w9 ⟨rfl, rfl⟩
          go_wp2_with fail
          go_ret
          exact ⟨congrArg (fun b => Ending.returned (Value.bool b)) (by rw [HQ.out]; simp only [gameB, h0, h1, h2, h3, h4, h5, h6, Bool.true_and] : true = rangesB s), hbrn⟩
end Go.Proofs.YtihbdbgmijkjmaaDoor
