/- Layer 10: the code's numbersFit. -/
import Derived.Test.YtihbdbgmijkjmaaDoorStC2
import Derived.Test.YtihbdbgmijkjmaaDoorStLong
namespace Go.Proofs.YtihbdbgmijkjmaaDoor
open Go.RowKit Ex
attribute [local go_sem] arr_get
set_option maxRecDepth 100000
theorem playB_is (p : Nat → Int) : playB p = fitsB p spanP 9 := by
  rw [Bool.eq_iff_iff]
  simp only [playB, fitsB, range9, range6, List.all_cons, List.all_nil, Bool.and_true, Bool.and_eq_true, spanP]
  constructor
  · intro h; simp only [h, and_self]
  · intro h; simp only [h, and_self]
theorem gameB_is (g : Nat → Int) : gameB g = fitsB g spanG 7 := by
  rw [Bool.eq_iff_iff]
  simp only [gameB, fitsB, range7, List.all_cons, List.all_nil, Bool.and_true, Bool.and_eq_true, spanG]
  constructor
  · intro h; simp only [h, and_self]
  · intro h; simp only [h, and_self]
theorem index_obj (f : Nat → Int) : ∀ i : Nat, i < 18 → ∀ w, (Instr.index 56 (.agg (arr .i64 18 f)) (.int .i64 (i : Int))).run Tryd.prog w = .ok (.int .i64 (f i)) w
  | 0, _, _ => by kernel_rfl
  | 1, _, _ => by kernel_rfl
  | 2, _, _ => by kernel_rfl
  | 3, _, _ => by kernel_rfl
  | 4, _, _ => by kernel_rfl
  | 5, _, _ => by kernel_rfl
  | 6, _, _ => by kernel_rfl
  | 7, _, _ => by kernel_rfl
  | 8, _, _ => by kernel_rfl
  | 9, _, _ => by kernel_rfl
  | 10, _, _ => by kernel_rfl
  | 11, _, _ => by kernel_rfl
  | 12, _, _ => by kernel_rfl
  | 13, _, _ => by kernel_rfl
  | 14, _, _ => by kernel_rfl
  | 15, _, _ => by kernel_rfl
  | 16, _, _ => by kernel_rfl
  | 17, _, _ => by kernel_rfl
  | _ + 18, h, _ => absurd h (by omega)
theorem index_nine (f : Nat → Int) : ∀ i : Nat, i < 9 → ∀ w, (Instr.index 25 (.agg (arr .i64 9 f)) (.int .i64 (i : Int))).run Tryd.prog w = .ok (.int .i64 (f i)) w
  | 0, _, _ => by kernel_rfl
  | 1, _, _ => by kernel_rfl
  | 2, _, _ => by kernel_rfl
  | 3, _, _ => by kernel_rfl
  | 4, _, _ => by kernel_rfl
  | 5, _, _ => by kernel_rfl
  | 6, _, _ => by kernel_rfl
  | 7, _, _ => by kernel_rfl
  | 8, _, _ => by kernel_rfl
  | _ + 9, h, _ => absurd h (by omega)
theorem index_seven (f : Nat → Int) : ∀ i : Nat, i < 7 → ∀ w, (Instr.index 27 (.agg (arr .i64 7 f)) (.int .i64 (i : Int))).run Tryd.prog w = .ok (.int .i64 (f i)) w
  | 0, _, _ => by kernel_rfl
  | 1, _, _ => by kernel_rfl
  | 2, _, _ => by kernel_rfl
  | 3, _, _ => by kernel_rfl
  | 4, _, _ => by kernel_rfl
  | 5, _, _ => by kernel_rfl
  | 6, _, _ => by kernel_rfl
  | _ + 7, h, _ => absurd h (by omega)
theorem index_two (f : Nat → Int) : ∀ i : Nat, i < 2 → ∀ w, (Instr.index 26 (.agg (arr .i64 18 f)) (.int .i64 (i : Int))).run Tryd.prog w = .ok (.agg (arr .i64 9 fun j => f (i * 9 + j))) w
  | 0, _, _ => by kernel_rfl
  | 1, _, _ => by kernel_rfl
  | _ + 2, h, _ => absurd h (by omega)
theorem size18p : (Tryd.prog.info? 26).map (·.size) = some 18 := by kernel_rfl
theorem load_two {ops : Array Oper} {rest : List Oper} {op : Oper} {a : Act} {w : World} {Q : Exit → Act → World → Prop} (hgd : op.guard = none) (x : Operand) (ho : op.op = .load 26 x)
    (b o : Nat) (hx : a.eval x = .pointer (some ⟨b, o, none⟩)) (f : Nat → Int) (h : w.rangeAt b o (arr .i64 18 f).toList)
    (hK : wpList Tryd.prog ops Q rest (a.put op.dst (.agg (arr .i64 18 f))) w) : wpList Tryd.prog ops Q (op :: rest) a w := by
  refine wpList_load_mid hgd 26 x ho b o hx (arr .i64 18 f).toList _ h Tryd.underlying26 rfl (by rw [Array.length_toList, arr_size]; exact size18p) ?_
  rw [Array.toArray_toList]
  exact hK
theorem StAt.two {w : World} {g : Nat} {O : SlT} {L : Nat → SlT} {p q : Nat → Int} (h : StAt w g (stC O L p q)) : w.rangeAt g 12 (arr .i64 18 p).toList := fun i v hv => by
  have hi : i < 18 := by have := (List.getElem?_eq_some_iff.1 hv).1; rw [Array.length_toList, arr_size] at this; exact this
  rw [Array.getElem?_toList, arr_get .i64 18 _ hi] at hv
  rw [h.cell, stC_pl _ _ _ _ hi]
  exact hv
def UpTo (f : Nat → Int) (sp : Nat → Int × Int) (m : Nat) : Prop := ∀ i, i < m → inR (f i) (sp i).1 (sp i).2 = true
theorem UpTo.next {f : Nat → Int} {sp : Nat → Int × Int} {m : Nat} (h : UpTo f sp m) (hm : inR (f m) (sp m).1 (sp m).2 = true) : UpTo f sp (m + 1) := fun i hi => by
  by_cases e : i = m
  · subst e; exact hm
  · exact h i (by omega)
set_option maxHeartbeats 0 in
theorem numbers_code (s : StT) (O : SlT) (L : Nat → SlT) (cs : Array Value) (w : World) (B : Nat) (h : ReadsS B w cs s O L) (hB : B ≤ w.heap.size) (hn : s.objs.length ≤ 1000000) :
    Calls Tryd.prog 37 #[.agg cs] w fun e w' => e = .returned (.bool (rangesB s)) ∧ Below w.heap.size w w' := by
  obtain ⟨q, hq⟩ : ∃ q, q = rangesB s := ⟨_, rfl⟩
  rw [← hq]
  have HQ := Lib.hid hq
  clear hq
  go_enter Tryd.func37, Tryd.ntmps37
  have hcs := h.cs
  have c0 : cs[0]? = some (.slice O.A O.n O.c) := by rw [hcs]; exact stC_objs _ _ _ _
  have hOn := h.on
  have hOc := h.oc
  have hO := h.o
  have hsz : (Tryd.prog.info? 29).map (·.size) = some cs.size := by rw [h.size]; exact size37
  have H := Lib.hid h
  clear h
  obtain ⟨A, n, c⟩ := O
  simp only at c0 hOn hOc hO
  have HC := Lib.hid hcs
  clear hcs
  subst hOn
  go_upto_region 1 with fail
  have hs0 : StAt (w.alloc (.cells cs 29)) w.heap.size cs := StAt.new _ _
  have hb0 : Below w.heap.size w (w.alloc (.cells cs 29)) := (Below.refl _ _).alloc (Nat.le_refl _) _
  obtain ⟨w1, hw1⟩ : ∃ w1, w1 = w.alloc (.cells cs 29) := ⟨_, rfl⟩
  rw [← hw1] at hs0 hb0 ⊢
  clear hw1
  have c1 := (hs0.cell 0).trans c0
  go_upto_region 2 with fail
  go_loopw [16] (fun i wr => ∃ k : Nat, i = .int .i64 ((k : Nat) : Int) ∧ k ≤ s.objs.length ∧ GoodO s k ∧ Below w.heap.size w wr ∧ StAt wr w.heap.size cs) (fun i _ => s.objs.length - (intOf i).toNat)
  case atStart => exact ⟨0, rfl, by omega, fun j hj hk => absurd hk (by omega), hb0, hs0⟩
  case round =>
    clear hb0 hs0 c1
    obtain ⟨k, rfl, hk, hgood, hbr, hsr⟩ := hrel
    by_cases hlt : k < s.objs.length
    · have hlk := hlt
      obtain ⟨b, off, rfl, hbB, hra⟩ := hO.at_ hlt
      have hra := range_below hbr (by omega) hra
      obtain ⟨x, hx⟩ : ∃ x, x = s.objs[k] := ⟨_, rfl⟩
      rw [← hx] at hra
      have HX := Lib.hid hx
      clear hx
      have hz := st_zero18
      have hnew : (wr.alloc (.cells (arr .i64 18 fun _ => 0) 56)).heap[wr.heap.size]? = some (.cells (arr .i64 18 fun _ => 0) 56 (0, 0)) := heap_alloc_new _ _
      have hsx : (Tryd.prog.info? 56).map (·.size) = some (arr .i64 18 x).size := by rw [arr_size]; exact st_size18
      go_upto_region 4 with (first
        | (refine load_obj rfl (.tmp 18) rfl b (off + k * 18) rfl x hra ?_)
        | (refine wpList_store_row rfl 56 (.tmp 4) (.tmp 19) rfl wr.heap.size _ rfl rfl 56 (arr .i64 18 fun _ => 0) hnew hsx (by rw [arr_size, arr_size]) (arr_one .i64 18 x) ?_))
      obtain ⟨wn, hwn, hEn, hbn⟩ := ob_box wr x
      rw [← hwn]
      have hbrn := keepB hbn hbr
      clear hwn hnew hra hz
      have xs : ∀ i < 18, wn.cell? ⟨wr.heap.size, i, none⟩ = some (.int .i64 (x i)) := fun i hi => by
        have h := cell_of_row wn wr.heap.size i _ _ _ hEn
        rw [arr_get .i64 18 x hi] at h
        exact h
      clear xs
      have hsn := hsr.keep hbn
      go_upto_region 5 with (refine wpList_load_row rfl 56 (.tmp 4) rfl wr.heap.size rfl 56 _ (0, 0) _ hEn Tryd.underlying56 rfl hsx ?_)
      have hu0 : UpTo x (spanO (s.objs.length : Nat)) 0 := fun i hi => absurd hi (by omega)
      go_loopw [21] (fun i wq => ∃ m : Nat, i = .int .i64 ((m : Nat) : Int) ∧ m ≤ 18 ∧ UpTo x (spanO (s.objs.length : Nat)) m ∧ Below w.heap.size w wq ∧ StAt wq w.heap.size cs) (fun i _ => 18 - (intOf i).toNat)
      case atStart => exact ⟨0, rfl, by omega, hu0, hbrn, hsn⟩
      case round =>
        clear hu0 hbrn hsn hbn hEn hbr hsr
        obtain ⟨m, rfl, hm, hup, hbr, hsr⟩ := hrel
        by_cases hm8 : m < 18
        · have hd : decide ((m : Int) < 18) = true := by simp; omega
          have hix := index_obj x m hm8
          have c2 := (hsr.cell 0).trans c0
          have hq1 := obj_span (s.objs.length : Nat) m hm8
          obtain ⟨sp, hsp⟩ : ∃ sp, sp = spanO (s.objs.length : Nat) m := ⟨_, rfl⟩
          rw [← hsp] at hq1
          have HS := Lib.hid hsp
          clear hsp
          obtain ⟨y, hy⟩ : ∃ y, y = x m := ⟨_, rfl⟩
          rw [← hy] at hix
          have HY := Lib.hid hy
          clear hy
          go_wp2_with fail
          refine (hq1 _).mono ?_
          rintro e w4 ⟨rfl, hb4⟩
          clear hq1 hix
          have hbr4 := keepB hb4 hbr
          have hs4 := hsr.keep hb4
          go_wp2_with fail
          refine (has_span sp.1 sp.2 y _).mono ?_
          rintro e w5 ⟨rfl, hb5⟩
          have hbr5 := keepB hb5 hbr4
          have hs5 := hs4.keep hb5
          clear c2 hb4 hbr4 hs4 hb5
          by_cases hin : inR y sp.1 sp.2 = true
          · have hup2 := hup.next (by rw [← HY.out, ← HS.out]; exact hin)
            go_wp2_with fail
            go_roundw
            case rel => exact ⟨m + 1, by go_num, by omega, hup2, hbr5, hs5⟩
            case measure => simp [intOf]; omega
          · have hin : inR y sp.1 sp.2 = false := by simpa using hin
            have hf := rangesB_obj hlt (by rw [objectB_is, ← HX.out]; exact fitsB_bad hm8 (by rw [← HY.out, ← HS.out]; exact hin))
            obtain rfl := HQ.out.trans hf
            clear hf
            go_wp2_with fail
            go_ret
            exact ⟨rfl, hbr5⟩
        · obtain rfl : m = 18 := by omega
          have hgood2 : GoodO s (k + 1) := fun j hj hjk => by
            by_cases e : j = k
            · subst e; rw [← HX.out, objectB_is]; exact fitsB_iff.2 hup
            · exact hgood j hj (by omega)
          go_wp2_with fail
          go_roundw
          case rel => exact ⟨k + 1, by go_num, by omega, hgood2, hbr, hsr⟩
          case measure => simp [intOf]; omega
    · obtain rfl : k = s.objs.length := by omega
      have hobj := objs_all fun j hj => hgood j hj hj
      clear hgood
      obtain ⟨p, hp⟩ : ∃ p, p = s.pl := ⟨_, rfl⟩
      have hra := hsr
      rw [HC.out] at hra
      have hra := hra.two
      rw [← hp] at hra
      have HP := Lib.hid hp
      clear hp
      go_upto_region 12 with (refine load_two rfl (.tmp 35) rfl w.heap.size 12 rfl p hra ?_)
      clear hra
      have hq0 : GoodP s 0 := fun m hm => absurd hm (by omega)
      go_loopw [37] (fun i wr2 => ∃ j : Nat, i = .int .i64 ((j : Nat) : Int) ∧ j ≤ 2 ∧ GoodP s j ∧ Below w.heap.size w wr2 ∧ StAt wr2 w.heap.size cs) (fun i _ => 2 - (intOf i).toNat)
      case atStart => exact ⟨0, rfl, by omega, hq0, hbr, hsr⟩
      case round =>
        clear hq0 hsr hbr
        obtain ⟨j, rfl, hj, hgp, hbr, hsr⟩ := hrel
        by_cases hlt : j < 2
        · have hd2 : decide ((j : Int) < 2) = true := by simp; omega
          have hix := index_two p j hlt
          obtain ⟨f, hf⟩ : ∃ f : Nat → Int, f = fun i => p (j * 9 + i) := ⟨_, rfl⟩
          rw [← hf] at hix
          have HF := Lib.hid hf
          clear hf
          have hz := st_zero9
          have hnew : (wr.alloc (.cells (arr .i64 9 fun _ => 0) 25)).heap[wr.heap.size]? = some (.cells (arr .i64 9 fun _ => 0) 25 (0, 0)) := heap_alloc_new _ _
          have hsx : (Tryd.prog.info? 25).map (·.size) = some (arr .i64 9 f).size := by rw [arr_size]; exact st_size9
          go_upto_region 14 with (refine wpList_store_row rfl 25 (.tmp 8) (.tmp 39) rfl wr.heap.size _ rfl rfl 25 (arr .i64 9 fun _ => 0) hnew hsx (by rw [arr_size, arr_size]) (arr_one .i64 9 f) ?_)
          clear hix
          obtain ⟨wn, hwn, hEn, hbn⟩ := arr_box 9 25 wr f
          rw [← hwn]
          have hbrn := keepB hbn hbr
          have hsn := hsr.keep hbn
          clear hwn hnew hz
          go_upto_region 15 with (refine wpList_load_row rfl 25 (.tmp 8) rfl wr.heap.size rfl 25 _ (0, 0) _ hEn Tryd.underlying25 rfl hsx ?_)
          have hu0 : UpTo f spanP 0 := fun i hi => absurd hi (by omega)
          go_loopw [41] (fun i wq => ∃ m : Nat, i = .int .i64 ((m : Nat) : Int) ∧ m ≤ 9 ∧ UpTo f spanP m ∧ Below w.heap.size w wq ∧ StAt wq w.heap.size cs) (fun i _ => 9 - (intOf i).toNat)
          case atStart => exact ⟨0, rfl, by omega, hu0, hbrn, hsn⟩
          case round =>
            clear hu0 hbrn hsn hbn hEn hbr hsr
            obtain ⟨m, rfl, hm, hup, hbr, hsr⟩ := hrel
            by_cases hm8 : m < 9
            · have hd : decide ((m : Int) < 9) = true := by simp; omega
              have hix := index_nine f m hm8
              have hq1 := pl_span m hm8
              obtain ⟨sp, hsp⟩ : ∃ sp, sp = spanP m := ⟨_, rfl⟩
              rw [← hsp] at hq1
              have HS := Lib.hid hsp
              clear hsp
              obtain ⟨y, hy⟩ : ∃ y, y = f m := ⟨_, rfl⟩
              rw [← hy] at hix
              have HY := Lib.hid hy
              clear hy
              go_wp2_with fail
              refine (hq1 _).mono ?_
              rintro e w4 ⟨rfl, hb4⟩
              clear hq1 hix
              have hbr4 := keepB hb4 hbr
              have hs4 := hsr.keep hb4
              go_wp2_with fail
              refine (has_span sp.1 sp.2 y _).mono ?_
              rintro e w5 ⟨rfl, hb5⟩
              have hbr5 := keepB hb5 hbr4
              have hs5 := hs4.keep hb5
              clear hb4 hbr4 hs4 hb5
              by_cases hin : inR y sp.1 sp.2 = true
              · have hup2 := hup.next (by rw [← HY.out, ← HS.out]; exact hin)
                go_wp2_with fail
                go_roundw
                case rel => exact ⟨m + 1, by go_num, by omega, hup2, hbr5, hs5⟩
                case measure => simp [intOf]; omega
              · have hin : inR y sp.1 sp.2 = false := by simpa using hin
                have hf : rangesB s = false := rangesB_pl hlt (by
                  unfold plB
                  rw [← HP.out, ← HF.out, playB_is]
                  exact fitsB_bad hm8 (by rw [← HY.out, ← HS.out]; exact hin))
                obtain rfl := HQ.out.trans hf
                clear hf
                go_wp2_with fail
                go_ret
                exact ⟨rfl, hbr5⟩
            · obtain rfl : m = 9 := by omega
              have hgp2 : GoodP s (j + 1) := fun m hm => by
                by_cases e : m = j
                · subst e; unfold plB; rw [← HP.out, ← HF.out, playB_is]; exact fitsB_iff.2 hup
                · exact hgp m (by omega)
              go_wp2_with fail
              go_roundw
              case rel => exact ⟨j + 1, by go_num, by omega, hgp2, hbr, hsr⟩
              case measure => simp [intOf]; omega
        · obtain rfl : j = 2 := by omega
          have hp0 := hgp 0 (by omega)
          have hp1 := hgp 1 (by omega)
          obtain ⟨f, hf⟩ : ∃ f : Nat → Int, f = s.gm := ⟨_, rfl⟩
          have hra := hsr
          rw [HC.out] at hra
          have hra := hra.gm
          rw [← hf] at hra
          have HF : rangesB s = gameB f := by rw [hf]; simp only [rangesB, hobj, hp0, hp1, Bool.true_and]
          have HF := Lib.hid HF
          clear hf hp0 hp1 hgp hobj
          go_upto_region 22 with (refine load_seven rfl (.tmp 52) rfl w.heap.size 30 rfl f hra ?_)
          clear hra
          have hu0 : UpTo f spanG 0 := fun i hi => absurd hi (by omega)
          go_loopw [54] (fun i wq => ∃ m : Nat, i = .int .i64 ((m : Nat) : Int) ∧ m ≤ 7 ∧ UpTo f spanG m ∧ Below w.heap.size w wq) (fun i _ => 7 - (intOf i).toNat)
          case atStart => exact ⟨0, rfl, by omega, hu0, hbr⟩
          case round =>
            clear hu0 hbr hsr
            obtain ⟨m, rfl, hm, hup, hbr⟩ := hrel
            by_cases hm8 : m < 7
            · have hd : decide ((m : Int) < 7) = true := by simp; omega
              have hix := index_seven f m hm8
              have hq1 := gm_span m hm8
              obtain ⟨sp, hsp⟩ : ∃ sp, sp = spanG m := ⟨_, rfl⟩
              rw [← hsp] at hq1
              have HS := Lib.hid hsp
              clear hsp
              obtain ⟨y, hy⟩ : ∃ y, y = f m := ⟨_, rfl⟩
              rw [← hy] at hix
              have HY := Lib.hid hy
              clear hy
              go_wp2_with fail
              refine (hq1 _).mono ?_
              rintro e w4 ⟨rfl, hb4⟩
              clear hq1 hix
              have hbr4 := keepB hb4 hbr
              go_wp2_with fail
              refine (has_span sp.1 sp.2 y _).mono ?_
              rintro e w5 ⟨rfl, hb5⟩
              have hbr5 := keepB hb5 hbr4
              clear hb4 hbr4 hb5
              by_cases hin : inR y sp.1 sp.2 = true
              · have hup2 := hup.next (by rw [← HY.out, ← HS.out]; exact hin)
                go_wp2_with fail
                go_roundw
                case rel => exact ⟨m + 1, by go_num, by omega, hup2, hbr5⟩
                case measure => simp [intOf]; omega
              · have hin : inR y sp.1 sp.2 = false := by simpa using hin
                have hf : rangesB s = false := HF.out.trans (by
                  rw [gameB_is]
                  exact fitsB_bad hm8 (by rw [← HY.out, ← HS.out]; exact hin))
                obtain rfl := HQ.out.trans hf
                clear hf
                go_wp2_with fail
                go_ret
                exact ⟨rfl, hbr5⟩
            · obtain rfl : m = 7 := by omega
              have hf : rangesB s = true := HF.out.trans (by rw [gameB_is]; exact fitsB_iff.2 hup)
              obtain rfl := HQ.out.trans hf
              clear hf
              go_wp2_with fail
              go_ret
              exact ⟨rfl, hbr⟩
end Go.Proofs.YtihbdbgmijkjmaaDoor
