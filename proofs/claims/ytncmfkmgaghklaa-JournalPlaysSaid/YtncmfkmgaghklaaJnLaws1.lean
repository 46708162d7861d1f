/- Layer 14: the law JournalPlays. -/
import Derived.Test.YtncmfkmgaghklaaJnLJ
import Derived.Test.YtncmfkmgaghklaaJnAct
import Derived.Test.YtncmfkmgaghklaaJnIs
import Derived.Test.YtncmfkmgaghklaaJnAd
import Derived.Test.YtncmfkmgaghklaaJnAlive
import Derived.Test.YtncmfkmgaghklaaNtRfI
import Derived.Test.YtncmfkmgaghklaaNtNi
import Derived.Deep.DeepCutAuto
import Derived.Deep.CutBlock
namespace Go.Proofs.Ytncmfkmgaghklaa
open Go.RowKit Ex
set_option maxRecDepth 100000
theorem Acts.grow {n : Nat} {w w' : World} {A : Option Addr} {l : List ActT} (h : Acts w.heap.size w A n l) (hb : Below w.heap.size w w') : Acts w'.heap.size w' A n l := ⟨h.n, fun i a hi => by
  obtain ⟨b, off, cs, h1, h2, h3, ⟨A', n', c', h4, h5, h6, h7⟩, h8, h9⟩ := (h.below hb).r i a hi
  exact ⟨b, off, cs, h1, Nat.lt_of_lt_of_le h2 hb.size, h3, ⟨A', n', c', h4, h5, h6, h7.more hb.size⟩, h8, h9⟩⟩
/-- The law between two acts. -/
def LX (T : JRep) (w : World) (X : Nat → Prop) (gm k u : Nat) (jv ov : Value) (W : World) : Prop := ∃ (pj : Nat) (J : JT) (Fj : Nat → Prop) (old : Option OT) (G : Nat → Prop) (A : Option Addr) (n cc : Nat) (qs : List QT) (P : PT),
  jv = ptrV pj ∧ ov = oldV old ∧ LJ T w X pj J Fj old G A n cc qs P W ∧ LS k u J old n P ∧ JBox W gm A n cc P.last
theorem ev0_one (e : EvT) (he : e ∈ [ev0]) : EvI e := by
  obtain rfl : e = ev0 := by simpa using he
  exact ⟨by decide, by decide, by decide, by decide, by decide, by decide⟩
/-- The law while it writes into its own list. -/
structure KL (T : JRep) (w : World) (X : Nat → Prop) (pj : Nat) (J : JT) (Fj : Nat → Prop) (old : Option OT) (G : Nat → Prop) (A : Option Addr) (n cc : Nat) (qs : List QT) (P : PT) (base : Nat) (A7 : Option Addr) (n7 c7 : Nat) (l : List EvT) (g9 gm ga : Nat) (x : Int) (Am : Option Addr) (cm : Nat) (cn : Int) (A' : Option Addr) (c' : Nat) (W : World) : Prop where
  lj : LJ T w X pj J Fj old G A n cc qs P W
  own : OwnV W base A7 n7 c7 l
  b9 : JBox W g9 A n cc x
  bm : JBox W gm Am n cm x
  ab : ABox W ga 0 cn A' n7 c'
/-- What an answer of Add tells, whichever way. -/
theorem AddQ.one {w w' : World} {A : Option Addr} {n c : Nat} {P : PT} {evs : List EvT} {en : Ending} {G : Nat → Prop} {qs : List QT} (h : AddQ w A n c P evs en w') (hm : MG G w A n c qs P) :
    ∃ A' c' qs' P' G', en = .returned (.tuple #[.agg #[.slice A' n c', .int .i64 P.last], .int .i64 (chkL evs)]) ∧ MG G' w' A' n c' qs' P' ∧ (∀ b, G' b → G b ∨ w.heap.size ≤ b) ∧ P' = (if chkL evs = 0 then addP P evs else P) ∧ Below w.heap.size w w' := by
  by_cases hz : chkL evs = 0
  · obtain ⟨A', c', qs', h1, h2, h3⟩ := h.2 hz
    exact ⟨A', c', qs', _, _, by rw [h1, hz], h2, fun b hb => .inr (hb.2.resolve_left (fun h => h)), by rw [if_pos hz], h3⟩
  · obtain ⟨h1, h2⟩ := h.1 hz
    exact ⟨A, c, qs, P, G, h1, hm.below h2, fun b hb => .inl hb, by rw [if_neg hz], h2⟩
theorem LS.flat (k u : Nat) {J : JT} {old : Option OT} {n : Nat} {P : PT} (h : LS k u J old n P) : J.ev.length ≤ 20 * k := by have := h.ev; rw [flat_ps, ← h.e] at this; exact this
set_option linter.unusedSimpArgs false in
set_option maxHeartbeats 0 in
theorem journalPlays_walk {T : JRep} {w : World} (E : JnSaid T w) (N : JnNil w) (A0 : Option Addr) (n0 c0 : Nat) (l : List ActT) (hA : Acts w.heap.size w A0 n0 l) (hm : n0 ≤ maxLen) :
    Calls Try.prog 3 #[.slice A0 n0 c0] w fun en w' => en = .returned (.bool true) ∧ Below w.heap.size w w' := by
  have HA := Lib.hid hA
  have HM0 := Lib.hid hm
  clear hA hm
  go_enter Try.func3, Try.ntmps3
  go_wp2_with fail
  refine (jnAlive E w (Below.refl _ _)).mono ?_
  rintro en w1 ⟨rfl, hb1⟩
  go_wp2_with fail
  refine (longA_any A0 n0 c0 l w1 (HA.out.grow hb1) HM0.out).mono ?_
  rintro en w2 ⟨bl, rfl, hbl, hb2⟩
  have HB2 := Lib.hid (keepB hb2 hb1)
  clear hb1 hb2
  cases bl with
  | true =>
    have hb := HB2.out
    go_wp2_with fail
    go_ret
    exact ⟨rfl, hb⟩
  | false =>
  have HSz := Lib.hid (hbl rfl)
  have hn41 : n0 ≤ 41 := by have := HSz.out.1; have := HA.out.n; omega
  clear hbl
  have hnw := E.new w2 HB2.out
  unfold ptrV at hnw
  go_wp2_with fail
  refine hnw.mono ?_
  clear hnw
  rintro en w3 ⟨pj, F, rfl, hR3, hF3, hb3⟩
  go_wp2_with fail
  refine (newRef_any w3).mono ?_
  rintro en w4 ⟨Am, rfl, hO4, hb4⟩
  have hLJ4 : LJ T w (fun _ => False) pj j0 F none (NewG (fun _ => False) w3 w4) Am 1 1 [⟨0, ⟨none, 0, 0⟩⟩] p0 w4 := by
    have hbw3 := keepB hb3 HB2.out
    refine ⟨keepB hb4 hbw3, T.stay hR3 hb4.size fun k hk => hb4.block k (T.lt hR3 hk), j0_ok, fun b hb => Nat.le_trans HB2.out.size (hF3 b hb), MG.made (Nat.le_refl _) hO4 (PtG.nil.snoc (q := ⟨0, ⟨none, 0, 0⟩⟩) (p := (0, [])) rfl (Nat.le_refl _) EvG.nil ⟨by decide, by decide⟩), fun b hb hg => ?_, fun b hx => hx.elim, fun b hx => hx.elim, fun b hx => hx.elim, fun o ho => (by cases ho)⟩
    have h1 := T.lt hR3 hb
    have h2 := hg.2.resolve_left (fun h => h)
    omega
  have hnew : (w4.alloc (.cells #[.slice none 0 0, .int .i64 0] 29)).heap[w4.heap.size]? = some (.cells #[.slice none 0 0, .int .i64 0] 29 (0, 0)) := heap_alloc_new _ _
  have hszn := jsize Am 1 1 0
  have honen := jone Am 1 1 0
  go_upto_region 6 with (refine wpList_store_row rfl 29 (.tmp 4) (.tmp 20) rfl w4.heap.size _ rfl rfl 29 #[.slice none 0 0, .int .i64 0] hnew hszn rfl honen ?_)
  have hb5 : Below w4.heap.size w4 ((w4.alloc (.cells #[.slice none 0 0, .int .i64 0] 29)).setRow w4.heap.size #[.slice Am 1 1, .int .i64 0]) := below_setRow ((Below.refl _ _).alloc (Nat.le_refl _) _) _ _ (Nat.le_refl _)
  have hg5 : JBox ((w4.alloc (.cells #[.slice none 0 0, .int .i64 0] 29)).setRow w4.heap.size #[.slice Am 1 1, .int .i64 0]) w4.heap.size Am 1 1 p0.last := setRow_heap _ _ _ _ _ _ hnew
  obtain ⟨gm, hgm⟩ : ∃ g, g = w4.heap.size := ⟨_, rfl⟩
  obtain ⟨w5, hw5⟩ : ∃ W, W = (w4.alloc (.cells #[.slice none 0 0, .int .i64 0] 29)).setRow w4.heap.size #[.slice Am 1 1, .int .i64 0] := ⟨_, rfl⟩
  rw [← hw5] at hb5 hg5 ⊢
  rw [← hgm] at hg5 ⊢
  have HX0 := Lib.hid (show LX T w (fun b => b = gm) gm 0 0 (ptrV pj) (oldV none) w5 from
    ⟨pj, j0, F, none, _, Am, 1, 1, _, p0, rfl, rfl, (hLJ4.addY (Y := fun b => b = gm) hb5 (fun b hb => ⟨by rw [hb, hgm]; exact Nat.le_refl _, by rw [hb]; exact hg5.lt⟩)).lessX (fun b hb => .inr hb), ⟨rfl, Nat.le_refl _, Nat.le_refl _, Int.le_refl _, Int.le_refl _, fun o ho => (by cases ho)⟩, hg5⟩)
  clear hR3 hF3 hb3 hO4 hb4 hLJ4 hnew hszn honen hb5 hg5 hgm hw5 HB2
  go_upto_region 8 with fail
  go_loopw [3, 5, 23] (fun jv ov i wr => ∃ k : Nat, i = .int .i64 ((k : Nat) : Int) ∧ k ≤ n0 ∧ Hid (LX T w (fun b => b = gm) gm k k jv ov wr)) (fun _ _ i _ => n0 - (intOf i).toNat)
  case atStart => exact ⟨0, rfl, by omega, HX0⟩
  case round =>
    clear HX0
    obtain ⟨k, rfl, hk, HX⟩ := hrel
    by_cases hlt : k < n0
    · obtain ⟨pj, J, Fj, old, G, A, n, cc, qs, P, rfl, rfl, hL, hS, hM⟩ := HX.out
      obtain ⟨a, ha⟩ : ∃ a, l[k]? = some a := ⟨_, List.getElem?_eq_getElem (by rw [← HA.out.n]; exact hlt)⟩
      obtain ⟨b, off, cs, rfl, hb, hra, ⟨A', n', c', rfl, h1, h2, h3⟩, hak, hac⟩ := HA.out.r k a ha
      have hra := range_below hL.b hb hra
      have hc0 := hra 0 _ rfl
      have hc1 := hra 1 _ rfl
      have hc2 := hra 2 _ rfl
      rw [Nat.add_zero] at hc0
      have g0 : (0 : Int) ≤ (k : Int) := by omega
      have g1 : (k : Int) < (n0 : Int) := by omega
      have hnew : (wr.alloc (.cells #[.int .i64 0, .int .i64 0, .slice none 0 0] 33)).heap[wr.heap.size]? = some (.cells #[.int .i64 0, .int .i64 0, .slice none 0 0] 33 (0, 0)) := heap_alloc_new _ _
      have hsz := actV a.k a.c A' n' c'
      have hone := actOne a.k a.c A' n' c'
      have HAc := Lib.hid (show n' ≤ c' ∧ c' ≤ maxLen ∧ Evs w.heap.size w A' n' a.ev ∧ N64 a.k ∧ N64 a.c ∧ a.ev.length ≤ 20 ∧ k + 1 ≤ 41 from ⟨h1, h2, h3, hak, hac, HSz.out.2 a (List.mem_of_getElem? ha), by have := HSz.out.1; have := HA.out.n; omega⟩)
      have HL := Lib.hid hL
      have HS := Lib.hid hS
      have HMb := Lib.hid hM
      clear hra h1 h2 h3 hak hac ha hb hL hS hM HX
      go_upto_region 10 with (refine wpList_store_row rfl 33 (.tmp 7) (.tmp 26) rfl wr.heap.size _ rfl rfl 33 #[.int .i64 0, .int .i64 0, .slice none 0 0] hnew hsz rfl hone ?_)
      have hbn : Below wr.heap.size wr ((wr.alloc (.cells #[.int .i64 0, .int .i64 0, .slice none 0 0] 33)).setRow wr.heap.size #[.int .i64 a.k, .int .i64 a.c, .slice A' n' c']) := below_setRow ((Below.refl _ _).alloc (Nat.le_refl _) _) _ _ (Nat.le_refl _)
      have hgn : ABox ((wr.alloc (.cells #[.int .i64 0, .int .i64 0, .slice none 0 0] 33)).setRow wr.heap.size #[.int .i64 a.k, .int .i64 a.c, .slice A' n' c']) wr.heap.size a.k a.c A' n' c' := setRow_heap _ _ _ _ _ _ hnew
      obtain ⟨ga, hga⟩ : ∃ g, g = wr.heap.size := ⟨_, rfl⟩
      obtain ⟨w9, hw9⟩ : ∃ W, W = (wr.alloc (.cells #[.int .i64 0, .int .i64 0, .slice none 0 0] 33)).setRow wr.heap.size #[.int .i64 a.k, .int .i64 a.c, .slice A' n' c'] := ⟨_, rfl⟩
      rw [← hw9] at hbn hgn ⊢
      rw [← hga] at hgn ⊢
      have HL9 := Lib.hid (show LJ T w (fun b => b = gm ∨ b = ga) pj J Fj old G A n cc qs P w9 from HL.out.addY (Y := fun b => b = ga) hbn (fun b hb => ⟨by rw [hb, hga]; exact Nat.le_refl _, by rw [hb]; exact hgn.lt⟩))
      have HM9 := Lib.hid (HMb.out.keep hbn)
      have HG9 := Lib.hid hgn
      have HE9 := Lib.hid (HAc.out.2.2.1.grow HL9.out.b)
      obtain ⟨ca0, ca1, ca2⟩ := hgn.cells
      clear hw9 hga hnew hsz hone hbn hgn hc0 hc1 hc2 HL HMb
      obtain ⟨kd, hkd⟩ : ∃ q, q = a.k := ⟨_, rfl⟩
      obtain ⟨cn, hcn⟩ : ∃ q, q = a.c := ⟨_, rfl⟩
      rw [← hkd] at ca0 HG9 HAc
      rw [← hcn] at ca1 HG9 HAc
      clear hkd hcn
      unfold ptrV
      go_upto_block 2 with fail
      go_cut [3, 5] (fun jv ov wx => LX T w (fun b => b = gm ∨ b = ga) gm (k + 1) k jv ov wx ∧ ABox wx ga kd cn A' n' c')
      case first =>
        by_cases k0 : kd = 0
        · subst k0
          have hbE0 : Below w9.heap.size w9 (w9.alloc (.cells #[] 41)) := (Below.refl _ _).alloc (Nat.le_refl _) _
          have ca2' := (HG9.out.keep hbE0).cells.2.2
          have h0 := ownV_empty w9 w9.heap.size (Nat.le_refl _)
          have hR0 := HE9.out.r.below hbE0
          have hs0 := hbE0.size
          have hn20 : 0 + n' ≤ 1000000 := by have := HE9.out.n; have := HAc.out; omega
          go_upto_region 13 with (at_builtin; refine wpList_appV rfl (.tmp 31) (.tmp 33) rfl w9.heap.size (some ⟨w9.heap.size, 0, none⟩) 0 0 [] rfl h0 _ A' n' c' a.ev rfl hR0 HE9.out.n hn20 hs0 ?_; intro A7 c7 w7 ho7 hg7)
          rw [Nat.zero_add, List.nil_append] at ho7
          try rw [Nat.zero_add]
          have hb7 := h0.grown hbE0 hs0 hg7
          have hL7 := HL9.out.addY (Y := fun b => (Value.slice A7 n' c7).ownBlock = some b) hb7 (fun b hb => ho7.o.lt b hb)
          have hm7 := HM9.out.keep hb7
          have hg7a := HG9.out.keep hb7
          obtain ⟨_, _, cc2⟩ := hg7a.cells
          have hszj := jsize A n cc P.last
          have had := addRef_any A n cc P qs A' n' c' a.ev w7 hL7.m (by have := HS.out.n; have := HAc.out; omega) (HE9.out.grow hb7) (by have := HE9.out.n; have := HAc.out; omega) (by have := HS.out.ev; have := HE9.out.n; have := HAc.out; omega)
          obtain ⟨x, hx⟩ : ∃ x, x = P.last := ⟨_, rfl⟩
          rw [← hx] at hm7 hszj
          have hone := fun en w' (h : AddQ w7 A n cc P a.ev en w') => AddQ.one h hL7.m
          rw [← hx] at had hone
          have HXl := Lib.hid hx
          have HOne := Lib.hid hone
          obtain ⟨r, hr⟩ : ∃ r, r = chkL a.ev := ⟨_, rfl⟩
          have HR := Lib.hid hr
          have hcap7 := ho7.cap
          clear hx hone hr hbE0 h0 hR0 hs0 hn20 hg7 ca2'
          go_wp2_with (refine wpList_load_row rfl 29 (.tmp 4) rfl gm rfl 29 _ (0, 0) _ hm7 Try.underlying29 rfl hszj ?_)
          refine had.mono ?_
          clear had
          intro en w8 hq
          obtain ⟨A8, c8, qs8, P8, G8, rfl, hm8, hG8, hP8, hb8⟩ := HOne.out en w8 hq
          rw [← HR.out] at hP8 ⊢
          clear hq HOne
          have hL8 := hL7.newM hb8 hm8 hG8
          have hnew : (w8.alloc (.cells #[.slice none 0 0, .int .i64 0] 29)).heap[w8.heap.size]? = some (.cells #[.slice none 0 0, .int .i64 0] 29 (0, 0)) := heap_alloc_new _ _
          have hszn := jsize A8 n c8 x
          have honen := jone A8 n c8 x
          go_upto_region 14 with (refine wpList_store_row rfl 29 (.tmp 9) (.tmp 40) rfl w8.heap.size _ rfl rfl 29 #[.slice none 0 0, .int .i64 0] hnew hszn rfl honen ?_)
          have hbn : Below w8.heap.size w8 ((w8.alloc (.cells #[.slice none 0 0, .int .i64 0] 29)).setRow w8.heap.size #[.slice A8 n c8, .int .i64 x]) := below_setRow ((Below.refl _ _).alloc (Nat.le_refl _) _) _ _ (Nat.le_refl _)
          have hgn : JBox ((w8.alloc (.cells #[.slice none 0 0, .int .i64 0] 29)).setRow w8.heap.size #[.slice A8 n c8, .int .i64 x]) w8.heap.size A8 n c8 x := setRow_heap _ _ _ _ _ _ hnew
          obtain ⟨g9, hg9⟩ : ∃ g, g = w8.heap.size := ⟨_, rfl⟩
          obtain ⟨wA, hwA⟩ : ∃ W, W = (w8.alloc (.cells #[.slice none 0 0, .int .i64 0] 29)).setRow w8.heap.size #[.slice A8 n c8, .int .i64 x] := ⟨_, rfl⟩
          rw [← hwA] at hbn hgn ⊢
          rw [← hg9] at hgn ⊢
          have hLA := hL8.addY (Y := fun b => b = g9) hbn (fun b hb => ⟨by rw [hb, hg9]; exact Nat.le_refl _, by rw [hb]; exact hgn.lt⟩)
          have hn97 : g9 ≠ gm := by have h1 := (hL8.xl gm (.inl (.inl rfl))).2; omega
          have hb7A := keepB hbn hb8
          have hoA := ho7.below hb7A
          have hmA := hm7.keep hb7A
          have hgA := hg7a.keep hb7A
          have hevA := hoA.evs HE9.out.i
          have hae : addE J a.ev = r := by
            have h1 := LS.flat k k HS.out
            have h2 := HAc.out
            unfold addE
            rw [← HR.out]
            by_cases hz : r = 0
            · rw [if_neg (by simp [hz]), if_neg (by omega), hz]
            · rw [if_pos hz]
          have hadd := E.add pj J Fj A7 n' c7 a.ev wA hLA.r hLA.ok hevA hcap7.1 hcap7.2 hLA.low hLA.b
          rw [hae] at hadd
          unfold ptrV at hadd
          have HAe := Lib.hid hae
          have HP8 := Lib.hid hP8
          clear hae hP8 hwA hg9 hnew hszn honen hbn hL8 hm8 hG8 hb8 hb7A ho7 hm7 hg7a hL7 hb7 hevA cc2 ca2 ca1 ca0
          go_wp2_with fail
          refine hadd.mono ?_
          clear hadd
          rintro en wB ⟨rfl, hpB⟩
          obtain ⟨F2, hLB, hft⟩ := hLA.turnJ hpB (add_ok hLA.ok)
          have hmB : JBox wB gm A n cc x := hft.keep (hLA.xf gm (.inl (.inl (.inl rfl)))) hmA
          have hgB : ABox wB ga 0 cn A' n' c' := hft.keep (hLA.xf ga (.inl (.inl (.inr rfl)))) hgA
          have h9B : JBox wB g9 A8 n c8 x := hft.keep (hLA.xf g9 (.inr rfl)) hgn
          have hoB : OwnV wB w9.heap.size A7 n' c7 a.ev := ⟨hoA.len, owns_keep hoA.o fun j hj => hft.block j (hoA.o.lt j hj).2 (hLA.xf j (.inl (.inr hj)))⟩
          clear hpB hft hLA hmA hgA hgn hoA
          go_wp2_with fail
          refine (num_by r wB).mono ?_
          rintro en wC ⟨rfl, rfl⟩
          have HK0 := Lib.hid (show KL T w (fun b => ((b = gm ∨ b = ga) ∨ (Value.slice A7 n' c7).ownBlock = some b) ∨ b = g9) pj (addJ J a.ev) F2 old G8 A8 n c8 qs8 P8 w9.heap.size A7 n' c7 a.ev g9 gm ga x A cc cn A' c' wB from ⟨hLB, hoB, h9B, hmB, hgB⟩)
          clear hLB hoB h9B hmB hgB
          go_upto_region 17 with fail
          go_loopw [50] (fun i wr => ∃ (j : Nat) (l2 : List EvT), i = .int .i64 ((j : Nat) : Int) ∧ j ≤ n' ∧ Hid (KL T w (fun b => ((b = gm ∨ b = ga) ∨ (Value.slice A7 n' c7).ownBlock = some b) ∨ b = g9) pj (addJ J a.ev) F2 old G8 A8 n c8 qs8 P8 w9.heap.size A7 n' c7 l2 g9 gm ga x A cc cn A' c' wr)) (fun i _ => n' - (intOf i).toNat)
          case atStart => exact ⟨0, a.ev, rfl, by omega, HK0⟩
          case round =>
            clear HK0
            obtain ⟨j, l2, rfl, hj, HK⟩ := hrel
            by_cases hlt2 : j < n'
            · have hjl : j < l2.length := by rw [← HK.out.own.len]; exact hlt2
              obtain ⟨g, rfl, hcA, hfA, hbg, hlg, hset⟩ := HK.out.own.set_ (j := 1) hjl (by omega)
              replace hcA : wr.cell? ⟨g, j * 6 + 1, none⟩ = some (.int .i64 l2[j].a) := hcA
              obtain ⟨va, hva⟩ : ∃ v, v = l2[j].a := ⟨_, rfl⟩
              rw [← hva] at hcA
              have hnt : ∀ {q : Nat} {cs : Array Value} {t : TypeId}, wr.heap[q]? = some (.cells cs t (0, 0)) → t ≠ 41 → q ≠ g := fun h ht e => by
                obtain ⟨_, cur, hc⟩ := own_ty HK.out.own.o (j := g) rfl
                subst e
                exact ht (ty_same h hc)
              have HK2 := Lib.hid (show KL T w (fun b => ((b = gm ∨ b = ga) ∨ (Value.slice (some ⟨g, 0, none⟩) n' c7).ownBlock = some b) ∨ b = g9) pj (addJ J a.ev) F2 old G8 A8 n c8 qs8 P8 w9.heap.size (some ⟨g, 0, none⟩) n' c7 (l2.set j { l2[j] with a := 77 }) g9 gm ga x A cc cn A' c' (wr.setCell ⟨g, j * 6 + 1, none⟩ (.int .i64 77)) from
                ⟨HK.out.lj.turnX (foot_cell (.inl (.inr rfl)) _), hset _ _ rfl, (heap_setCell_other wr ⟨g, j * 6 + 1, none⟩ g9 _ (hnt HK.out.b9 (by decide))).trans HK.out.b9, (heap_setCell_other wr ⟨g, j * 6 + 1, none⟩ gm _ (hnt HK.out.bm (by decide))).trans HK.out.bm, (heap_setCell_other wr ⟨g, j * 6 + 1, none⟩ ga _ (hnt HK.out.ab (by decide))).trans HK.out.ab⟩)
              have q0 : (0 : Int) ≤ (j : Int) := by omega
              have q1 : (j : Int) < (n' : Int) := by omega
              have q2 : (n' : Int) ≤ 20 := by have := HE9.out.n; have := HAc.out; omega
              clear hset hbg hlg HK hnt hva
              go_wp2_with fail
              go_roundw
              case rel => exact ⟨j + 1, _, by go_num, by omega, HK2⟩
              case measure => simp [intOf]; omega
            · obtain rfl : n' = j := by omega
              have h9 := HK.out.b9
              have hm9 := HK.out.bm
              have hsz9 := jsize A8 n c8 x
              have hone9 := jone A8 n c8 x
              have HF := Lib.hid (show LX T w (fun b => b = gm ∨ b = ga) gm (k + 1) k (.pointer (some ⟨pj, 0, none⟩)) (oldV old) (wr.setRow gm #[.slice A8 n c8, .int .i64 x]) ∧ ABox (wr.setRow gm #[.slice A8 n c8, .int .i64 x]) ga 0 cn A' n' c' from by
                have hne : ga ≠ gm := fun e => by
                  have h := HK.out.ab
                  rw [e] at h
                  exact absurd (ty_same h hm9) (by decide)
                have hlast : P8.last = x := by rw [HP8.out, HXl.out]; split; exact add_last P a.ev; rfl
                refine ⟨⟨pj, addJ J a.ev, F2, old, G8, A8, n, c8, qs8, P8, rfl, rfl, (HK.out.lj.turnX (foot_row (.inl (.inl (.inl rfl))) _)).lessX (fun b hb => .inl (.inl hb)), ?_, by rw [hlast]; exact setRow_heap _ _ _ _ _ _ hm9⟩, (setRow_other wr gm ga _ hne).trans HK.out.ab⟩
                by_cases hz : r = 0
                · rw [HP8.out, if_pos hz]
                  exact HS.out.add (by rw [HAe.out]; exact hz) HAc.out.2.2.2.2.2.1
                · rw [HP8.out, if_neg hz, show addJ J a.ev = J from if_neg (by rw [HAe.out]; exact hz)]
                  exact HS.out.next)
              clear HK
              go_wp2_with (first
                | (refine wpList_load_row rfl 29 (.tmp 9) rfl g9 rfl 29 _ (0, 0) _ h9 Try.underlying29 rfl hsz9 ?_)
                | (refine wpList_store_row rfl 29 (.tmp 4) (.tmp 58) rfl gm _ rfl rfl 29 #[.slice A n cc, .int .i64 x] hm9 hsz9 rfl hone9 ?_))
              go_meet
              exact HF.out
        by_cases k1 : kd = 1
        · subst k1
          clear k0
          have hpl : J.last = P.last := by rw [HS.out.e]; rfl
          obtain ⟨x, hx⟩ : ∃ x, x = P.last := ⟨_, rfl⟩
          obtain ⟨x1, hx1⟩ : ∃ y, y = x + 1 := ⟨_, rfl⟩
          have HXl := Lib.hid (show x = P.last ∧ x1 = x + 1 ∧ J.last = x from ⟨hx, hx1, hpl.trans hx.symm⟩)
          have hmb : JBox w9 gm A n cc x := by rw [hx]; exact HM9.out
          have hszj := jsize A n cc x
          have hmr := markRef_any A n cc x qs w9 HL9.out.m.rdQ HL9.out.m.n (by rw [HL9.out.m.n, HL9.out.m.p.len]; show 0 < P.r.length + 1; omega) (by have := HS.out.n; have := HAc.out; omega) (by have := HS.out.l0; omega) (by have := HS.out.l; have := HAc.out; omega)
          rw [← hx1] at hmr
          clear hpl hx hx1
          go_wp2_with (refine wpList_load_row rfl 29 (.tmp 4) rfl gm rfl 29 _ (0, 0) _ hmb Try.underlying29 rfl hszj ?_)
          refine hmr.mono ?_
          clear hmr
          rintro en w10 ⟨A9, c9, rfl, hO9, hb10⟩
          have hm10 := hmb.keep hb10
          have hszn := jsize A9 (n + 1) c9 x1
          have honen := jone A9 (n + 1) c9 x1
          have hmg : LJ T w (fun b => b = gm ∨ b = ga) pj J Fj old (NewG G w9 w10) A9 (n + 1) c9 (qs ++ [⟨x1, ⟨none, 0, 0⟩⟩]) (markP P) w10 := HL9.out.newM hb10 (by
            have h := HL9.out.m.mark (A' := A9) (c' := c9) ⟨by have := HS.out.l0; have := HXl.out; omega, by have := HS.out.l; have := HAc.out; have := HXl.out; omega⟩ hb10 (by rw [← HXl.out.1, ← HXl.out.2.1]; exact hO9)
            rw [← HXl.out.1, ← HXl.out.2.1] at h
            exact h) (fun b hb => hb.2)
          go_upto_region 24 with (refine wpList_store_row rfl 29 (.tmp 4) (.tmp 62) rfl gm _ rfl rfl 29 #[.slice A n cc, .int .i64 x] hm10 hszn rfl honen ?_)
          rename_i K0 hK0
          have hne : ga ≠ gm := fun e => by
            have h := HG9.out
            rw [e] at h
            exact absurd (ty_same h HM9.out) (by decide)
          have hm11 : JBox (w10.setRow gm #[.slice A9 (n + 1) c9, .int .i64 x1]) gm A9 (n + 1) c9 x1 := setRow_heap _ _ _ _ _ _ hm10
          have hg11 : ABox (w10.setRow gm #[.slice A9 (n + 1) c9, .int .i64 x1]) ga 1 cn A' n' c' := (setRow_other w10 gm ga _ hne).trans (HG9.out.keep hb10)
          have hL11 := hmg.turnX (foot_row (X := fun b => b = gm ∨ b = ga) (.inl rfl) #[.slice A9 (n + 1) c9, .int .i64 x1])
          have hL12 := hL11.below (Below.refl _ _).drew
          have k0 : ∀ W, JBox W gm A9 (n + 1) c9 x1 → W.cell? ⟨gm, 1, none⟩ = some (.int .i64 x1) := fun W h => cell_of_row W gm 1 _ _ _ h
          refine wp_region_held_drew (S := fun W => JBox W gm A9 (n + 1) c9 x1) (by kernel_rfl) (show JBox (World.drew _) gm A9 (n + 1) c9 x1 from hm11) (fun hHeld => ?_)
          obtain ⟨w12, hw12⟩ : ∃ W, W = (w10.setRow gm #[.slice A9 (n + 1) c9, .int .i64 x1]).drew := ⟨_, rfl⟩
          have hg12 : ABox (w10.setRow gm #[.slice A9 (n + 1) c9, .int .i64 x1]).drew ga 1 cn A' n' c' := hg11
          rw [← hw12] at hHeld hL12 hg12 ⊢
          clear hw12 hm11 hg11 hL11 hmg hm10 hszn honen hmb hszj hb10 hO9
          refine wpAnyH_take (i := 0) (v := ?_) rfl (by kernel_rfl) (by kernel_rfl) (by kernel_rfl) (fun _ _ _ h => h) (Or.inl ⟨by rfl, ?_⟩) hHeld ?_
          rotate_left
          · (intro w hSw; go_simp; (try with_reducible rfl))
          simp only [Act.put, List.getElem_toArray, List.getElem_cons_zero, List.getElem_cons_succ, List.setIfInBounds_toArray, List.set_cons_zero, List.set_cons_succ]
          refine wpAnyH_take (i := 2) (v := ?_) rfl (by kernel_rfl) (by kernel_rfl) (by kernel_rfl) (fun _ _ _ h => h) (Or.inl ⟨by rfl, ?_⟩) hHeld ?_
          rotate_left
          · (intro w hSw; go_simp; (try with_reducible rfl))
          simp only [Act.put, List.getElem_toArray, List.getElem_cons_zero, List.getElem_cons_succ, List.setIfInBounds_toArray, List.set_cons_zero, List.set_cons_succ]
          refine wpAnyH_take (i := 3) (v := ?_) rfl (by kernel_rfl) (by kernel_rfl) (by kernel_rfl) (fun _ _ _ h => h) (Or.inl ⟨by rfl, ?_⟩) hHeld ?_
          rotate_left
          · (intro w hSw; go_simp; (try with_reducible rfl))
          simp only [Act.put, List.getElem_toArray, List.getElem_cons_zero, List.getElem_cons_succ, List.setIfInBounds_toArray, List.set_cons_zero, List.set_cons_succ]
          clear k0
          have hmk := E.mark pj J Fj w12 hL12.r hL12.ok (by have := HS.out.l; have := HAc.out; omega) hL12.low hL12.b
          unfold ptrV at hmk
          rw [HXl.out.2.2, ← HXl.out.2.1] at hmk
          refine wpAnyH_ready (rs := [1]) (by kernel_rfl) (by simp) ?_
          refine AllReadyH.cons rfl (fun K hK => ?_) AllReadyH.nil
          try simp only [List.getElem_toArray, List.getElem_cons_zero, List.getElem_cons_succ]
          go_simp
          refine hmk.mono ?_
          clear hmk
          rintro en w13 ⟨rfl, hp13⟩
          obtain ⟨F2, hL13, hft⟩ := hL12.turnJ hp13 (mark_ok hL12.ok)
          have hm13 : JBox w13 gm A9 (n + 1) c9 x1 := hft.keep (hL12.xf gm (.inl rfl)) hHeld
          have hg13 : ABox w13 ga 1 cn A' n' c' := hft.keep (hL12.xf ga (.inr rfl)) hg12
          clear hHeld
          have hHeld := hm13
          go_wp2_with fail
          refine hK.out _ _ hm13 (fun _ => ?_)
          clear hK K
          try simp only [Act.put, List.setIfInBounds_toArray, List.set_cons_zero, List.set_cons_succ]
          clear hp13 hft hL12 hg12
          refine wpAnyH_take (i := 4) (v := ?_) rfl (by kernel_rfl) (by kernel_rfl) (by kernel_rfl) (fun _ _ _ h => h) (Or.inl ⟨by rfl, ?_⟩) hHeld ?_
          rotate_left
          · (intro w hSw; go_simp; (try with_reducible rfl))
          simp only [Act.put, List.getElem_toArray, List.getElem_cons_zero, List.getElem_cons_succ, List.setIfInBounds_toArray, List.set_cons_zero, List.set_cons_succ]
          refine wpAnyH_done (by kernel_rfl) ?_ _
          refine hK0 _ _ ?_
          clear hK0 K0 hHeld
          have HF := Lib.hid (show LX T w (fun b => b = gm ∨ b = ga) gm (k + 1) k (.pointer (some ⟨pj, 0, none⟩)) (oldV old) w13 ∧ ABox w13 ga 1 cn A' n' c' from
            ⟨⟨pj, markJ J, F2, old, _, A9, n + 1, c9, _, markP P, rfl, rfl, hL13, HS.out.mark, by rw [show (markP P).last = x1 from by rw [HXl.out.2.1, HXl.out.1]; rfl]; exact hm13⟩, hg13⟩)
          clear hL13 hm13 hg13
          go_wp2_with fail
          go_meet
          exact HF.out
        by_cases k2 : kd = 2
        · subst k2
          clear k0 k1
          obtain ⟨x, hx⟩ : ∃ x, x = P.last := ⟨_, rfl⟩
          have HXl := Lib.hid hx
          have hmb : JBox w9 gm A n cc x := by rw [hx]; exact HM9.out
          have hszj := jsize A n cc x
          have HPs := Lib.hid (show n = (allPs P).length ∧ (allPs P).length = P.r.length + 1 ∧ n ≤ 42 ∧ (flat (allPs P)).length ≤ 820 from ⟨HL9.out.m.n.trans HL9.out.m.p.len, rfl, by have := HS.out.n; have := HAc.out; omega, by have := HS.out.ev; have := HAc.out; omega⟩)
          have hfi := findRef_any A n cc P cn w9 HL9.out.m.ptR (by have := HPs.out; omega)
          rw [← hx] at hfi
          obtain ⟨at_, hat⟩ : ∃ z, z = fidx P.r cn 1 := ⟨_, rfl⟩
          rw [← hat] at hfi
          have HAt := Lib.hid hat
          clear hx hat
          go_wp2_with (refine wpList_load_row rfl 29 (.tmp 4) rfl gm rfl 29 _ (0, 0) _ hmb Try.underlying29 rfl hszj ?_)
          refine hfi.mono ?_
          clear hfi
          rintro en w10 ⟨rfl, hb10⟩
          have HLA := Lib.hid (HL9.out.below hb10)
          have hmA : JBox w10 gm A n cc x := hmb.keep hb10
          have hgA := HG9.out.keep hb10
          obtain ⟨cb0, cb1, _⟩ := hgA.cells
          clear hmb hb10
          have hli : liveJ J cn = (idxP P.r cn).isSome := by rw [HS.out.e]; exact live_P P cn
          have hne : ga ≠ gm := fun e => by
            rw [e] at hgA
            exact absurd (ty_same hgA hmA) (by decide)
          have hbk := E.back pj J Fj cn w10 HLA.out.r HLA.out.ok HAc.out.2.2.2.2.1 HLA.out.low HLA.out.b
          unfold ptrV at hbk
          obtain ⟨e, he⟩ : ∃ e, e = deadJ J cn := ⟨_, rfl⟩
          rw [← he] at hbk
          have HE := Lib.hid he
          clear he
          cases hidx : idxP P.r cn with
          | none =>
            obtain rfl : at_ = -1 := by rw [HAt.out]; unfold fidx; rw [hidx]
            have hlf : liveJ J cn = false := by rw [hli, hidx]; rfl
            obtain rfl : e = 16 := by rw [HE.out]; unfold deadJ; rw [hlf]; rfl
            have hsp : spanJ J cn = [] := by rw [HS.out.e]; unfold spanJ; rw [findJ_P, hidx]; rfl
            rw [back_dead hlf, hsp] at hbk
            clear HAt HE hli hlf hidx hsp hszj
            go_wp2_with fail
            refine hbk.mono ?_
            clear hbk
            rintro en w11 ⟨⟨A3, n3, c3, rfl, hc3, hV3⟩, hp11⟩
            obtain ⟨F2, hL11, hft⟩ := HLA.out.turnJ hp11 HLA.out.ok
            have hm11 : JBox w11 gm A n cc x := hft.keep (HLA.out.xf gm (.inl rfl)) hmA
            have hg11 : ABox w11 ga 2 cn A' n' c' := hft.keep (HLA.out.xf ga (.inr rfl)) hgA
            obtain rfl : n3 = 0 := hV3.n
            have HF := Lib.hid (show LX T w (fun b => b = gm ∨ b = ga) gm (k + 1) k (.pointer (some ⟨pj, 0, none⟩)) (oldV old) w11 ∧ ABox w11 ga 2 cn A' n' c' from
              ⟨⟨pj, J, F2, old, G, A, n, cc, qs, P, rfl, rfl, hL11, HS.out.next, by rw [← HXl.out]; exact hm11⟩, hg11⟩)
            clear hc3 hV3 hp11 hL11 hft hm11 hg11 hmA hgA cb0 cb1
            go_wp2_with fail
            refine (is_by 16 16 w11).mono ?_
            rintro en w12 ⟨rfl, rfl⟩
            go_wp2_with fail
            go_meet
            exact HF.out
          | some i =>
            obtain ⟨at1, hat1⟩ : ∃ z : Nat, z = i + 1 := ⟨_, rfl⟩
            obtain rfl : at_ = (at1 : Int) := by rw [HAt.out]; unfold fidx; rw [hidx]; show (i : Int) + ((1 : Nat) : Int) = _; omega
            have hlf : liveJ J cn = true := by rw [hli, hidx]; rfl
            obtain rfl : e = 0 := by rw [HE.out]; unfold deadJ; rw [hlf]; rfl
            have hsp : spanJ J cn = flat (P.r.drop i) := by rw [HS.out.e]; exact span_P hidx
            obtain ⟨lx, hlx⟩ := idx_at hidx
            have hil := (List.getElem?_eq_some_iff.1 hlx).1
            obtain ⟨qt, hqt⟩ : ∃ qt, qs[at1]? = some qt := ⟨_, List.getElem?_eq_getElem (by rw [← HL9.out.m.n]; have := HPs.out; omega)⟩
            have HIx := Lib.hid (And.intro hidx (And.intro hqt (And.intro hat1 hil)))
            rw [hsp, errV_nil] at hbk
            have d0 : decide ((at1 : Int) < 0) = false := by simp
            have d1 : decide ((0 : Int) ≤ (at1 : Int)) = true := by simp
            clear HAt HE hli hlf hidx hsp hlx hil hqt hat1
            go_upto_region 34 with fail
            refine hbk.mono ?_
            clear hbk
            rintro en w11 ⟨⟨A3, n3, c3, rfl, hc3, hV3⟩, hp11⟩
            obtain ⟨F2, hL11, hft⟩ := HLA.out.turnJ hp11 (back_ok HLA.out.ok)
            have hm11 : JBox w11 gm A n cc x := hft.keep (HLA.out.xf gm (.inl rfl)) hmA
            have hg11 : ABox w11 ga 2 cn A' n' c' := hft.keep (HLA.out.xf ga (.inr rfl)) hgA
            have hal := allRef_any A n cc P at1 w11 hL11.m.ptR (by have := HPs.out; omega) (by have := HPs.out; have := HIx.out; omega) (by have := HPs.out; omega)
            rw [← HXl.out, show (allPs P).drop at1 = P.r.drop i by rw [HIx.out.2.2.1]; rfl] at hal
            have HV3 := Lib.hid hV3
            clear hp11 hft hmA hgA cb0 cb1 hV3 hc3
            go_wp2_with (refine load_wantJ (by rfl) (.tmp 4) rfl gm rfl A n cc x hm11 ?_)
            refine hal.mono ?_
            clear hal
            rintro en w12 ⟨A4, m4, c4, rfl, hV4⟩
            have hEv4 : ∀ e ∈ flat (P.r.drop i), EvI e := by
              have h := flat_i hL11.m.ptR.ev at1
              rw [show (allPs P).drop at1 = P.r.drop i by rw [HIx.out.2.2.1]; rfl] at h
              exact h
            have hm4 : m4 ≤ 820 := by
              have h1 := hV4.own.len
              have h2 := flat_drop_len (allPs P) at1
              rw [show (allPs P).drop at1 = P.r.drop i by rw [HIx.out.2.2.1]; rfl] at h2
              have := HPs.out
              omega
            have hin := invLRef_any A4 m4 c4 _ w12 (hV4.own.evs hEv4) (by omega)
            have hL12 := hL11.below hV4.b
            have hm12 := hm11.keep hV4.b
            have hg12 := hg11.keep hV4.b
            have hV12 := HV3.out.grow hV4.b
            have HV4 := Lib.hid (And.intro hV4.own.len hm4)
            clear hV4 hL11 hm11 hg11 hEv4 hm4 HV3
            go_wp2_with fail
            refine hin.mono ?_
            clear hin
            rintro en w13 ⟨A5, c5, rfl, _, hV5, hb5⟩
            have hn34 : n3 = m4 := by rw [hV12.n, hV5.n]
            subst hn34
            have hev := events_any A3 A5 n3 c3 c5 _ w13 (hV12.grow hb5) hV5 (by have := HV4.out; omega)
            have hL13 := hL12.below hb5
            have hm13 := hm12.keep hb5
            have hg13 := hg12.keep hb5
            clear hV12 hL12 hm12 hg12 hV5 hb5
            go_wp2_with fail
            refine hev.mono ?_
            clear hev
            rintro en w14 ⟨rfl, hb6⟩
            have hL14 := hL13.below hb6
            have hm14 := hm13.keep hb6
            have hg14 := hg13.keep hb6
            obtain ⟨cd0, _, _⟩ := hg14.cells
            have hba := backRef_any A n cc x qs at1 qt none 0 0 w14 hL14.m.rdQ hL14.m.n HIx.out.2.1 hL14.m.c (by have := HPs.out; omega)
            clear hL13 hm13 hg13 hb6
            go_wp2_with (refine wpList_load_row rfl 29 (.tmp 4) rfl gm rfl 29 _ (0, 0) _ hm14 Try.underlying29 rfl hszj ?_)
            refine hba.mono ?_
            clear hba
            rintro en w15 ⟨A6, c6, rfl, hO6, hb7⟩
            rw [HIx.out.2.2.1] at hO6
            have hbG := hL14.m.back (x := cn) HIx.out.1 (by rw [← HIx.out.2.2.1]; exact HIx.out.2.1) hb7 hO6 (Nat.le_refl _) EvG.nil
            have hLn := (hL14).newM hb7 hbG (fun b hb => hb.2)
            have hmn := (hm14).keep hb7
            have hgn := (hg14).keep hb7
            have hszn := jsize A6 (at1 + 1) c6 x
            have honen := jone A6 (at1 + 1) c6 x
            have hL16 := hLn.turnX (foot_row (X := fun b => b = gm ∨ b = ga) (.inl rfl) #[.slice A6 (at1 + 1) c6, .int .i64 x])
            have hm16 : JBox (World.setRow w15 gm #[.slice A6 (at1 + 1) c6, .int .i64 x]) gm A6 (at1 + 1) c6 x := setRow_heap _ _ _ _ _ _ hmn
            have hg16 : ABox (World.setRow w15 gm #[.slice A6 (at1 + 1) c6, .int .i64 x]) ga 2 cn A' n' c' := (setRow_other w15 gm ga _ hne).trans hgn
            rw [← HIx.out.2.2.1] at hL16
            have HF := Lib.hid (show LX T w (fun b => b = gm ∨ b = ga) gm (k + 1) k (.pointer (some ⟨pj, 0, none⟩)) (oldV old) (World.setRow w15 gm #[.slice A6 (at1 + 1) c6, .int .i64 x]) ∧ ABox (World.setRow w15 gm #[.slice A6 (at1 + 1) c6, .int .i64 x]) ga 2 cn A' n' c' from
              ⟨⟨pj, (backJ J cn), F2, old, _, A6, (at1 + 1), c6, _, (backP P cn i []), rfl, rfl, hL16, (by rw [HIx.out.2.2.1]; exact (HS.out.back HIx.out.1 HPs.out.1)), (by rw [show PT.last (backP P cn i []) = x from by rw [HXl.out]; rfl]; exact hm16)⟩, hg16⟩)
            clear hL16 hm16 hg16 hLn hgn hL14 hbG hm14 hg14 hb7 hne
            go_wp2_with (refine wpList_store_row rfl 29 (.tmp 4) (.tmp 120) rfl gm _ rfl rfl 29 #[.slice A n cc, .int .i64 x] hmn hszn rfl honen ?_)
            go_meet
            exact HF.out
        by_cases k3 : kd = 3
        · subst k3
          clear k0 k1 k2
          obtain ⟨x, hx⟩ : ∃ x, x = P.last := ⟨_, rfl⟩
          have HXl := Lib.hid hx
          have hmb : JBox w9 gm A n cc x := by rw [hx]; exact HM9.out
          have hszj := jsize A n cc x
          have HPs := Lib.hid (show n = (allPs P).length ∧ (allPs P).length = P.r.length + 1 ∧ n ≤ 42 ∧ (flat (allPs P)).length ≤ 820 from ⟨HL9.out.m.n.trans HL9.out.m.p.len, rfl, by have := HS.out.n; have := HAc.out; omega, by have := HS.out.ev; have := HAc.out; omega⟩)
          have hfi := findRef_any A n cc P cn w9 HL9.out.m.ptR (by have := HPs.out; omega)
          rw [← hx] at hfi
          obtain ⟨at_, hat⟩ : ∃ z, z = fidx P.r cn 1 := ⟨_, rfl⟩
          rw [← hat] at hfi
          have HAt := Lib.hid hat
          clear hx hat
          go_wp2_with (refine wpList_load_row rfl 29 (.tmp 4) rfl gm rfl 29 _ (0, 0) _ hmb Try.underlying29 rfl hszj ?_)
          refine hfi.mono ?_
          clear hfi
          rintro en w10 ⟨rfl, hb10⟩
          have HLA := Lib.hid (HL9.out.below hb10)
          have hmA : JBox w10 gm A n cc x := hmb.keep hb10
          have hgA := HG9.out.keep hb10
          obtain ⟨cb0, cb1, _⟩ := hgA.cells
          clear hmb hb10
          have hli : liveJ J cn = (idxP P.r cn).isSome := by rw [HS.out.e]; exact live_P P cn
          have hne : ga ≠ gm := fun e => by
            rw [e] at hgA
            exact absurd (ty_same hgA hmA) (by decide)
          have hbk := E.fold pj J Fj cn w10 HLA.out.r HLA.out.ok HAc.out.2.2.2.2.1 HLA.out.low HLA.out.b
          unfold ptrV at hbk
          obtain ⟨e, he⟩ : ∃ e, e = deadJ J cn := ⟨_, rfl⟩
          rw [← he] at hbk
          have HE := Lib.hid he
          clear he
          cases hidx : idxP P.r cn with
          | none =>
            obtain rfl : at_ = -1 := by rw [HAt.out]; unfold fidx; rw [hidx]
            have hlf : liveJ J cn = false := by rw [hli, hidx]; rfl
            obtain rfl : e = 16 := by rw [HE.out]; unfold deadJ; rw [hlf]; rfl
            have hfj : foldJ J cn = J := by rw [HS.out.e]; unfold foldJ; rw [findJ_P, hidx]; rfl
            rw [hfj] at hbk
            clear HAt HE hli hlf hidx hfj hszj
            go_wp2_with fail
            refine hbk.mono ?_
            clear hbk
            rintro en w11 ⟨rfl, hp11⟩
            obtain ⟨F2, hL11, hft⟩ := HLA.out.turnJ hp11 HLA.out.ok
            have hm11 : JBox w11 gm A n cc x := hft.keep (HLA.out.xf gm (.inl rfl)) hmA
            have hg11 : ABox w11 ga 3 cn A' n' c' := hft.keep (HLA.out.xf ga (.inr rfl)) hgA
            have HF := Lib.hid (show LX T w (fun b => b = gm ∨ b = ga) gm (k + 1) k (.pointer (some ⟨pj, 0, none⟩)) (oldV old) w11 ∧ ABox w11 ga 3 cn A' n' c' from
              ⟨⟨pj, J, F2, old, G, A, n, cc, qs, P, rfl, rfl, hL11, HS.out.next, by rw [← HXl.out]; exact hm11⟩, hg11⟩)
            clear hp11 hL11 hft hm11 hg11 hmA hgA cb0 cb1
            go_wp2_with fail
            refine (is_by 16 16 w11).mono ?_
            rintro en w12 ⟨rfl, rfl⟩
            go_wp2_with fail
            go_meet
            exact HF.out
          | some i =>
            obtain ⟨at1, hat1⟩ : ∃ z : Nat, z = i + 1 := ⟨_, rfl⟩
            obtain rfl : at_ = (at1 : Int) := by rw [HAt.out]; unfold fidx; rw [hidx]; show (i : Int) + ((1 : Nat) : Int) = _; omega
            have hlf : liveJ J cn = true := by rw [hli, hidx]; rfl
            obtain rfl : e = 0 := by rw [HE.out]; unfold deadJ; rw [hlf]; rfl
            obtain ⟨lx, hlx⟩ := idx_at hidx
            have hil := (List.getElem?_eq_some_iff.1 hlx).1
            obtain ⟨qt, hqt⟩ : ∃ qt, qs[at1]? = some qt := ⟨_, List.getElem?_eq_getElem (by rw [← HL9.out.m.n]; have := HPs.out; omega)⟩
            have HIx := Lib.hid (And.intro hidx (And.intro hqt (And.intro hat1 hil)))
            rw [errV_nil] at hbk
            have d0 : decide ((at1 : Int) < 0) = false := by simp
            clear HAt HE hli hlf hidx hlx hil hqt hat1
            go_wp2_with fail
            refine hbk.mono ?_
            clear hbk
            rintro en w11 ⟨rfl, hp11⟩
            obtain ⟨F2, hL11, hft⟩ := HLA.out.turnJ hp11 (fold_ok HLA.out.ok)
            have hm11 : JBox w11 gm A n cc x := hft.keep (HLA.out.xf gm (.inl rfl)) hmA
            have hg11 : ABox w11 ga 3 cn A' n' c' := hft.keep (HLA.out.xf ga (.inr rfl)) hgA
            obtain ⟨cd0, _, _⟩ := hg11.cells
            have hfo := foldRef_any A n cc P qs at1 qt w11 hL11.m.ptR hL11.m.rdQ hL11.m.n HIx.out.2.1 hL11.m.c (by have := HPs.out; omega) (by have := HPs.out; omega)
            rw [← HXl.out, show (allPs P).drop at1 = P.r.drop i by rw [HIx.out.2.2.1]; rfl] at hfo
            have HEv := Lib.hid (show ∀ e ∈ netL (flat (P.r.drop i)), EvI e from net_i (by
              have h := flat_i hL11.m.ptR.ev at1
              rw [show (allPs P).drop at1 = P.r.drop i by rw [HIx.out.2.2.1]; rfl] at h
              exact h))
            clear hp11 hft hmA hgA cb0 cb1
            go_wp2_with (refine wpList_load_row rfl 29 (.tmp 4) rfl gm rfl 29 _ (0, 0) _ hm11 Try.underlying29 rfl hszj ?_)
            refine hfo.mono ?_
            clear hfo
            rintro en w15 ⟨A6, c6, Al, nl, cl, rfl, hO6, hcl, hVl, hb7⟩
            rw [HIx.out.2.2.1] at hO6
            have hbG := hL11.m.back (x := cn) HIx.out.1 (by rw [← HIx.out.2.2.1]; exact HIx.out.2.1) hb7 hO6 hcl ((hVl.evG HEv.out).wide newG_new)
            have hLn := (hL11).newM hb7 hbG (fun b hb => hb.2)
            have hmn := (hm11).keep hb7
            have hgn := (hg11).keep hb7
            have hszn := jsize A6 (at1 + 1) c6 x
            have honen := jone A6 (at1 + 1) c6 x
            have hL16 := hLn.turnX (foot_row (X := fun b => b = gm ∨ b = ga) (.inl rfl) #[.slice A6 (at1 + 1) c6, .int .i64 x])
            have hm16 : JBox (World.setRow w15 gm #[.slice A6 (at1 + 1) c6, .int .i64 x]) gm A6 (at1 + 1) c6 x := setRow_heap _ _ _ _ _ _ hmn
            have hg16 : ABox (World.setRow w15 gm #[.slice A6 (at1 + 1) c6, .int .i64 x]) ga 3 cn A' n' c' := (setRow_other w15 gm ga _ hne).trans hgn
            rw [← HIx.out.2.2.1] at hL16
            have HF := Lib.hid (show LX T w (fun b => b = gm ∨ b = ga) gm (k + 1) k (.pointer (some ⟨pj, 0, none⟩)) (oldV old) (World.setRow w15 gm #[.slice A6 (at1 + 1) c6, .int .i64 x]) ∧ ABox (World.setRow w15 gm #[.slice A6 (at1 + 1) c6, .int .i64 x]) ga 3 cn A' n' c' from
              ⟨⟨pj, (foldJ J cn), F2, old, _, A6, (at1 + 1), c6, _, (backP P cn i (netL (flat (P.r.drop i)))), rfl, rfl, hL16, (by rw [HIx.out.2.2.1]; exact (HS.out.fold HIx.out.1 HPs.out.1)), (by rw [show PT.last (backP P cn i (netL (flat (P.r.drop i)))) = x from by rw [HXl.out]; rfl]; exact hm16)⟩, hg16⟩)
            clear hL16 hm16 hg16 hLn hgn hL11 hbG hm11 hg11 hb7 hne
            go_wp2_with (refine wpList_store_row rfl 29 (.tmp 4) (.tmp 117) rfl gm _ rfl rfl 29 #[.slice A n cc, .int .i64 x] hmn hszn rfl honen ?_)
            go_meet
            exact HF.out
        by_cases k4 : kd = 4
        · subst k4
          have hcp := E.copy pj J Fj w9 HL9.out.r HL9.out.ok (by
            have h1 := (JnJ.mk HL9.out.ok HS.out.e (by have := HS.out.l; have := HAc.out; omega)).m
            have h2 := HS.out.n
            have h3 := HL9.out.m.n.trans HL9.out.m.p.len
            have h4 : (allPs P).length = P.r.length + 1 := rfl
            have := HAc.out
            omega) HL9.out.b
          unfold ptrV at hcp
          clear k0 k1 k2 k3
          go_wp2_with fail
          refine hcp.mono ?_
          clear hcp
          rintro en w10 ⟨p2, F2, rfl, hr2, hF2, hb2⟩
          have HF := Lib.hid (show LX T w (fun b => b = gm ∨ b = ga) gm (k + 1) k (.pointer (some ⟨p2, 0, none⟩)) (.pointer (some ⟨pj, 0, none⟩)) w10 ∧ ABox w10 ga 4 cn A' n' c' from
            ⟨⟨p2, J, F2, some ⟨pj, J, Fj⟩, G, A, n, cc, qs, P, rfl, rfl, HL9.out.copy hb2 hr2 hF2, HS.out.copy, HM9.out.keep hb2⟩, HG9.out.keep hb2⟩)
          clear hr2 hF2 hb2
          go_wp2_with fail
          go_meet
          exact HF.out
        · have d0 : (kd == 0) = false := by simp [k0]
          have d1 : (kd == 1) = false := by simp [k1]
          have d2 : (kd == 2) = false := by simp [k2]
          have d3 : (kd == 3) = false := by simp [k3]
          have d4 : (kd == 4) = false := by simp [k4]
          clear k0 k1 k2 k3 k4
          go_wp2_with fail
          go_meet
          exact ⟨⟨pj, J, Fj, old, G, A, n, cc, qs, P, rfl, rfl, HL9.out, HS.out.next, HM9.out⟩, HG9.out⟩
      case rest =>
        clear HL9 HM9 HG9 HE9 HS ca0 ca1 ca2
        obtain ⟨⟨pj, J, Fj, old, G, A, n, cc, qs, P, rfl, rfl, hL, hS, hM⟩, hG⟩ := hcut
        have HS := Lib.hid hS
        unfold ptrV
        cases old with
        | none =>
          rw [show oldV none = .pointer none from rfl]
          have hmk := N.mark wc hL.b
          go_wp2_with fail
          refine hmk.mono ?_
          clear hmk
          rintro en wd ⟨rfl, hbd⟩
          have HS := Lib.hid HS.out.none_
          have HL := Lib.hid (hL.below hbd)
          have HM := Lib.hid (hM.keep hbd)
          have HG := Lib.hid (hG.keep hbd)
          clear hL hS hM hG hbd
          go_upto_region 49 with fail
          have HI := Lib.hid (is_any E pj J Fj A n cc qs P cn wd ⟨HL.out.r, HL.out.b⟩ ⟨HL.out.ok, HS.out.e, by have := HS.out.l; have := HAc.out; omega⟩ HL.out.m (by have := HS.out.n; have := HAc.out; omega) (by have := HS.out.ev; have := HAc.out; omega) HAc.out.2.2.2.2.1)
          have hmb := HM.out
          have hszj := jsize A n cc P.last
          have ca1 := HG.out.cells.2.1
          obtain ⟨x, hx⟩ : ∃ x, x = P.last := ⟨_, rfl⟩
          rw [← hx] at hmb hszj HI
          have hI := HI.out
          unfold ptrV at hI
          have HXl := Lib.hid hx
          clear HI hx
          go_wp2_with (refine wpList_load_row rfl 29 (.tmp 4) rfl gm rfl 29 _ (0, 0) _ hmb Try.underlying29 rfl hszj ?_)
          refine hI.mono ?_
          clear hI
          rintro en wZ ⟨rfl, hbZ⟩
          have HXn := Lib.hid (show LX T w (fun b => b = gm) gm (k + 1) (k + 1) (.pointer (some ⟨pj, 0, none⟩)) (.pointer none) wZ from ⟨pj, J, Fj, _, G, A, n, cc, qs, P, rfl, rfl, (HL.out.below hbZ).lessX (fun b hb => .inl hb), HS.out, HM.out.keep hbZ⟩)
          clear hbZ hmb hszj ca1 HL HS HM HG
          go_wp2_with fail
          go_roundw
          case rel => exact ⟨k + 1, by go_num, by omega, HXn⟩
          case measure => simp [intOf]; omega
        | some o =>
          rw [show oldV (some o) = .pointer (some ⟨o.p, 0, none⟩) from rfl]
          have hO := hL.o o rfl
          have hmk := E.mark o.p o.j o.f wc hO.r hO.ok (by have := (hS.o o rfl).2; have := HAc.out; omega) hO.low hL.b
          unfold ptrV at hmk
          obtain ⟨ls, hls⟩ : ∃ x, x = o.j.last + 1 := ⟨_, rfl⟩
          have d0 : decide (0 < ls) = true := decide_eq_true (by have := hO.ok.l; omega)
          rw [← hls] at hmk
          clear hls
          go_wp2_with fail
          refine hmk.mono ?_
          clear hmk
          rintro en wd ⟨rfl, hpd⟩
          obtain ⟨F2, hL2, hft⟩ := hL.turnO hpd (mark_ok hO.ok)
          have HM2 := Lib.hid (hft.keep (hO.x gm (.inl rfl)) hM)
          have HG2 := Lib.hid (hft.keep (hO.x ga (.inr rfl)) hG)
          have HO2 := Lib.hid (hL2.o _ rfl)
          have hbE : Below wd.heap.size wd (wd.alloc (.cells (evC ev0) 41)) := (Below.refl _ _).alloc (Nat.le_refl _) _
          have hEE : EvB (wd.alloc (.cells (evC ev0) 41)) wd.heap.size ev0 := heap_alloc_new _ _
          have hL3 := hL2.below hbE
          have hO3 := hL3.o _ rfl
          have had := E.add o.p (markJ o.j) F2 (some ⟨wd.heap.size, 0, none⟩) 1 1 [ev0] _ hO3.r hO3.ok ⟨rfl, rdV_one hEE, fun e he => ev0_one e he⟩ (Nat.le_refl _) (by unfold maxLen; omega) hO3.low hL3.b
          have hz : addE (markJ o.j) [ev0] = 0 := by
            have h1 := (HS.out.o o rfl).1
            have h2 := HAc.out
            unfold addE
            rw [if_neg (by decide), if_neg (by show ¬ 65536 < o.j.ev.length + 1; omega)]
          have HZ := Lib.hid hz
          rw [hz] at had
          unfold ptrV at had
          rw [errV_nil] at had
          have hM3 := HM2.out
          have hM3 : JBox wd gm A n cc P.last := hM3
          have hM3 := hM3.keep hbE
          have hG3 : ABox wd ga kd cn A' n' c' := HG2.out
          have hG3 := hG3.keep hbE
          clear hz HM2 HG2 HO2 hft hL2 hpd hO hL hM hG hS hbE hEE
          go_wp2_with fail
          refine had.mono ?_
          clear had
          rintro en we ⟨rfl, hpe⟩
          obtain ⟨F3, hL4, hft2⟩ := hL3.turnO hpe (add_ok hO3.ok)
          have hz : addE (markJ o.j) [ev0] = 0 := HZ.out
          have HS := Lib.hid (HS.out.older (F := F3) hz)
          have HL := Lib.hid hL4
          have HM := Lib.hid (show JBox we gm A n cc P.last from hft2.keep (hO3.x gm (.inl rfl)) hM3)
          have HG := Lib.hid (show ABox we ga kd cn A' n' c' from hft2.keep (hO3.x ga (.inr rfl)) hG3)
          clear hz hpe hL4 hft2 hM3 hG3 hL3 hO3
          go_upto_region 49 with fail
          have HI := Lib.hid (is_any E pj J Fj A n cc qs P cn we ⟨HL.out.r, HL.out.b⟩ ⟨HL.out.ok, HS.out.e, by have := HS.out.l; have := HAc.out; omega⟩ HL.out.m (by have := HS.out.n; have := HAc.out; omega) (by have := HS.out.ev; have := HAc.out; omega) HAc.out.2.2.2.2.1)
          have hmb := HM.out
          have hszj := jsize A n cc P.last
          have ca1 := HG.out.cells.2.1
          obtain ⟨x, hx⟩ : ∃ x, x = P.last := ⟨_, rfl⟩
          rw [← hx] at hmb hszj HI
          have hI := HI.out
          unfold ptrV at hI
          have HXl := Lib.hid hx
          clear HI hx
          go_wp2_with (refine wpList_load_row rfl 29 (.tmp 4) rfl gm rfl 29 _ (0, 0) _ hmb Try.underlying29 rfl hszj ?_)
          refine hI.mono ?_
          clear hI
          rintro en wZ ⟨rfl, hbZ⟩
          have HXn := Lib.hid (show LX T w (fun b => b = gm) gm (k + 1) (k + 1) (.pointer (some ⟨pj, 0, none⟩)) (.pointer (some ⟨o.p, 0, none⟩)) wZ from ⟨pj, J, Fj, _, G, A, n, cc, qs, P, rfl, rfl, (HL.out.below hbZ).lessX (fun b hb => .inl hb), HS.out, HM.out.keep hbZ⟩)
          clear hbZ hmb hszj ca1 HL HS HM HG
          go_wp2_with fail
          go_roundw
          case rel => exact ⟨k + 1, by go_num, by omega, HXn⟩
          case measure => simp [intOf]; omega
    · obtain rfl : k = n0 := by omega
      obtain ⟨pj, J, Fj, old, G, A, n, cc, qs, P, rfl, rfl, hL, hS, hM⟩ := HX.out
      have hb := hL.b
      clear hL hS hM
      go_wp2_with fail
      go_ret
      exact ⟨rfl, hb⟩
end Go.Proofs.Ytncmfkmgaghklaa
