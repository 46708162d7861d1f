/- Layer 14: the document's Add. -/
import Derived.Test.YtncmfkmgaghklaaJnG
import Derived.Test.YtncmfkmgaghklaaEvRef
namespace Go.Proofs.Ytncmfkmgaghklaa
open Go.RowKit Ex
set_option maxRecDepth 100000
theorem chk_next {l : List EvT} {k : Nat} {e : EvT} (h : l[k]? = some e) : chkL (l.drop k) = if chkE e ≠ 0 then chkE e else chkL (l.drop (k + 1)) := by
  have hk := (List.getElem?_eq_some_iff.1 h).1
  rw [List.drop_eq_getElem_cons hk, (List.getElem?_eq_some_iff.1 h).2]; rfl
/-- A block of events of the call's own. -/
def GE (base : Nat) (W : World) (b : Nat) : Prop := base ≤ b ∧ ∃ cur, W.heap[b]? = some (.cells cur 41 (0, 0))
theorem OwnV.evT {W : World} {base n c : Nat} {A : Option Addr} {l : List EvT} (h : OwnV W base A n c l) (hi : ∀ e ∈ l, EvI e) : EvG (GE base W) W A n l := ⟨h.len, fun i e hl => (by
  obtain ⟨b, off, h1, h2, h3⟩ := h.rd i e hl
  exact ⟨b, off, h1, own_ty h.o (by subst h1; rfl), h3⟩), hi⟩
theorem PtG.ge {W W' : World} {base : Nat} {qs : List QT} {ps : List (Int × List EvT)} (h : PtG (GE base W) W qs ps) (hs : ∀ (b : Nat) (cur : Array Value), W.heap[b]? = some (.cells cur 41 (0, 0)) → W'.heap[b]? = W.heap[b]?) : PtG (GE base W') W' qs ps :=
  (h.stay (w' := W') fun k ⟨_, cur, hc⟩ => hs k cur hc).wide fun k ⟨h1, cur, hc⟩ => ⟨h1, cur, (hs k cur hc).trans hc⟩
theorem EvG.ge {W W' : World} {base n : Nat} {A : Option Addr} {l : List EvT} (h : EvG (GE base W) W A n l) (hs : ∀ (b : Nat) (cur : Array Value), W.heap[b]? = some (.cells cur 41 (0, 0)) → W'.heap[b]? = W.heap[b]?) : EvG (GE base W') W' A n l :=
  (h.stay (w' := W') fun k ⟨_, cur, hc⟩ => hs k cur hc).wide fun k ⟨h1, cur, hc⟩ => ⟨h1, cur, (hs k cur hc).trans hc⟩
/-- The argument's box, the answer's box. -/
structure AJ (w : World) (gj gr : Nat) (A : Option Addr) (n c : Nat) (x : Int) (W : World) : Prop where
  b : Below w.heap.size w W
  j : JBox W gj A n c x
  r : JBox W gr none 0 0 0
theorem AJ.keep {w W W' : World} {gj gr n c : Nat} {A : Option Addr} {x : Int} (h : AJ w gj gr A n c x W) (hb : Below W.heap.size W W') : AJ w gj gr A n c x W' := ⟨keepB hb h.b, h.j.keep hb, h.r.keep hb⟩
/-- What Add answers. -/
def AddQ (w : World) (A : Option Addr) (n c : Nat) (P : PT) (evs : List EvT) (en : Ending) (w' : World) : Prop :=
  (chkL evs ≠ 0 → en = .returned (.tuple #[.agg #[.slice A n c, .int .i64 P.last], .int .i64 (chkL evs)]) ∧ Below w.heap.size w w') ∧
  (chkL evs = 0 → ∃ A' c' qs', en = .returned (.tuple #[.agg #[.slice A' n c', .int .i64 P.last], .int .i64 0]) ∧ MG (NewG (fun _ => False) w w') w' A' n c' qs' (addP P evs) ∧ Below w.heap.size w w')
/-- A part in a box. -/
def PBox (W : World) (g : Nat) (num : Int) (A : Option Addr) (n c : Nat) : Prop := W.heap[g]? = some (.cells #[.int .i64 num, .slice A n c] 66 (0, 0))
theorem PBox.lt {W : World} {g n c : Nat} {A : Option Addr} {x : Int} (h : PBox W g x A n c) : g < W.heap.size := (Array.getElem?_eq_some_iff.1 h).1
theorem PBox.keep {W W' : World} {g n c : Nat} {A : Option Addr} {x : Int} (h : PBox W g x A n c) (hb : Below W.heap.size W W') : PBox W' g x A n c := (hb.block g h.lt).trans h
theorem PBox.app {W W' : World} {g n c base m k : Nat} {A A2 : Option Addr} {x : Int} {l : List EvT} (h : PBox W g x A n c) (ho : OwnV W base A2 m k l) (hg : W.grownBy W' (Value.slice A2 m k).ownBlock) : PBox W' g x A n c := by
  refine (hg.block g h.lt (fun e => ?_)).trans h
  obtain ⟨_, cur, hc⟩ := own_ty ho.o e.symm
  exact absurd (ty_same hc h) (by decide)
/-- Add between two parts: the new parts so far, in their box. -/
structure AL (w : World) (gj gr go : Nat) (A : Option Addr) (n c : Nat) (x : Int) (ps : List (Int × List EvT)) (Ak : Option Addr) (k ck : Nat) (qk : List QT) (W : World) : Prop where
  aj : AJ w gj gr A n c x W
  bx : JBox W go Ak k ck x
  own : OwnQ W w.heap.size Ak k ck qk
  pt : PtG (GE w.heap.size W) W qk (ps.take k)
  lo : w.heap.size ≤ go
theorem AL.keep {w W W' : World} {gj gr go n c k ck : Nat} {A Ak : Option Addr} {x : Int} {ps : List (Int × List EvT)} {qk : List QT} (h : AL w gj gr go A n c x ps Ak k ck qk W) (hb : Below W.heap.size W W') : AL w gj gr go A n c x ps Ak k ck qk W' :=
  ⟨h.aj.keep hb, h.bx.keep hb, h.own.below hb, h.pt.ge fun b _ hc => hb.block b (Array.getElem?_eq_some_iff.1 hc).1, h.lo⟩
theorem psize (A : Option Addr) (n c : Nat) (x : Int) : (Try.prog.info? 66).map (·.size) = some (#[Value.int .i64 x, Value.slice A n c] : Array Value).size := by kernel_rfl
theorem pone (A : Option Addr) (n c : Nat) (x : Int) : (#[Value.int .i64 x, Value.slice A n c] : Array Value).all (·.oneCell') = true := by simp [Value.oneCell']
/-- One part more in the row. -/
theorem AL.next {w W W3 W9 : World} {gj gr go n c k ck c9 : Nat} {A Ak A9 : Option Addr} {x num : Int} {ps : List (Int × List EvT)} {qk : List QT} {sl : SlT} {p : Int × List EvT}
    (h : AL w gj gr go A n c x ps Ak k ck qk W) (hb : Below W.heap.size W W3) (hgj : gj ≠ go) (hgr : gr ≠ go) (hp : ps[k]? = some p) (hnum : num = p.1) (hc : sl.n ≤ sl.c) (hv : EvG (GE w.heap.size W3) W3 sl.A sl.n p.2) (hi : N64 p.1)
    (ho9 : OwnQ W9 w.heap.size A9 (k + 1) c9 (qk ++ [⟨num, sl⟩])) (hg9 : W3.grownBy W9 (Value.slice Ak k ck).ownBlock) :
    JBox W9 go Ak k ck x ∧ AL w gj gr go A n c x ps A9 (k + 1) c9 (qk ++ [⟨num, sl⟩]) (W9.setCell ⟨go, 0, none⟩ (.slice A9 (k + 1) c9)) := by
  have h3 := h.keep hb
  have hj9 := JBox.app h3.aj.j h3.own hg9
  have hr9 := JBox.app h3.aj.r h3.own hg9
  have hg9b := JBox.app h3.bx h3.own hg9
  have hB9 := h3.own.grown h3.aj.b h3.aj.b.size hg9
  have hs1 : ∀ (b : Nat) (cur : Array Value), W3.heap[b]? = some (.cells cur 41 (0, 0)) → W9.heap[b]? = W3.heap[b]? := fun b cur hc => hg9.block b (Array.getElem?_eq_some_iff.1 hc).1 (fun e => by
    obtain ⟨_, cur2, hc2⟩ := own_ty h3.own.o e.symm
    exact absurd (ty_same hc hc2) (by decide))
  have hs2 : ∀ (b : Nat) (cur : Array Value), W9.heap[b]? = some (.cells cur 41 (0, 0)) → (W9.setCell ⟨go, 0, none⟩ (.slice A9 (k + 1) c9)).heap[b]? = W9.heap[b]? := fun b cur hc => heap_setCell_other W9 ⟨go, 0, none⟩ b _ (fun e => by
    simp at e
    subst e
    exact absurd (ty_same hc hg9b) (by decide))
  have hp3 : PtG (GE w.heap.size W9) W9 (qk ++ [⟨num, sl⟩]) (ps.take (k + 1)) := by
    rw [show ps.take (k + 1) = ps.take k ++ [p] from by rw [List.take_add_one, hp]; rfl]
    exact (h3.pt.ge hs1).snoc hnum hc (hv.ge hs1) hi
  refine ⟨hg9b, ⟨⟨hB9.setCell h.lo _, (heap_setCell_other W9 ⟨go, 0, none⟩ gj _ hgj).trans hj9, (heap_setCell_other W9 ⟨go, 0, none⟩ gr _ hgr).trans hr9⟩, heap_setCell_same W9 go 0 _ _ _ hg9b, ⟨ho9.len, owns_keep ho9.o fun j hj => heap_setCell_other W9 ⟨go, 0, none⟩ j _ (fun e => ?_)⟩, hp3.ge hs2, h.lo⟩⟩
  obtain ⟨_, cur, hc⟩ := own_ty ho9.o hj
  simp at e
  subst e
  exact absurd (ty_same hc hg9b) (by decide)
set_option linter.unusedSimpArgs false in
set_option maxHeartbeats 0 in
theorem addRef_any {G : Nat → Prop} (A : Option Addr) (n cc : Nat) (P : PT) (qs : List QT) (A1 : Option Addr) (n1 c1 : Nat) (evs : List EvT) (w : World) (hM : MG G w A n cc qs P) (hn : n ≤ 1000) (hE : Evs w.heap.size w A1 n1 evs) (hn1 : n1 ≤ 1000)
    (hev : (flat (allPs P)).length + n1 ≤ 60000) : Calls Try.prog 11 #[.agg #[.slice A n cc, .int .i64 P.last], .slice A1 n1 c1] w (AddQ w A n cc P evs) := by
  have HM := Lib.hid hM
  have HE := Lib.hid hE
  have HN := Lib.hid (show n ≤ 1000 ∧ n1 ≤ 1000 ∧ n = (allPs P).length ∧ (flat (allPs P)).length + n1 ≤ 60000 from ⟨hn, hn1, hM.n.trans hM.p.len, hev⟩)
  obtain ⟨x, hx⟩ : ∃ x, x = P.last := ⟨_, rfl⟩
  have HX := Lib.hid hx
  unfold AddQ
  rw [← hx]
  clear hM hE hev hx
  go_enter Try.func11, Try.ntmps11
  go_upto_region 1 with fail
  have hb0 : Below w.heap.size w (w.alloc (.cells #[.slice A n cc, .int .i64 x] 29)) := (Below.refl _ _).alloc (Nat.le_refl _) _
  have hb1 : Below (w.alloc (.cells #[.slice A n cc, .int .i64 x] 29)).heap.size (w.alloc (.cells #[.slice A n cc, .int .i64 x] 29)) ((w.alloc (.cells #[.slice A n cc, .int .i64 x] 29)).alloc (.cells #[.slice none 0 0, .int .i64 0] 29)) := (Below.refl _ _).alloc (Nat.le_refl _) _
  have hj1 : JBox ((w.alloc (.cells #[.slice A n cc, .int .i64 x] 29)).alloc (.cells #[.slice none 0 0, .int .i64 0] 29)) w.heap.size A n cc x := JBox.keep (heap_alloc_new _ _) hb1
  have hr1 : JBox ((w.alloc (.cells #[.slice A n cc, .int .i64 x] 29)).alloc (.cells #[.slice none 0 0, .int .i64 0] 29)) (w.heap.size + 1) none 0 0 0 := by
    have := heap_alloc_new (w.alloc (.cells #[.slice A n cc, .int .i64 x] 29)) (.cells #[.slice none 0 0, .int .i64 0] 29)
    rwa [World.size_alloc] at this
  have hbw := keepB hb1 hb0
  obtain ⟨w1, hw1⟩ : ∃ w1, w1 = (w.alloc (.cells #[.slice A n cc, .int .i64 x] 29)).alloc (.cells #[.slice none 0 0, .int .i64 0] 29) := ⟨_, rfl⟩
  rw [← hw1] at hj1 hr1 hbw
  rw [← hw1]
  obtain ⟨gj, hgj⟩ : ∃ g, g = w.heap.size := ⟨_, rfl⟩
  obtain ⟨gr, hgr⟩ : ∃ g, g = w.heap.size + 1 := ⟨_, rfl⟩
  rw [← hgr] at hr1
  rw [← hgj] at hj1
  rw [← hgj, show gj + 1 = gr by omega]
  have HG := Lib.hid (show gj = w.heap.size ∧ gr = w.heap.size + 1 from ⟨hgj, hgr⟩)
  clear hw1 hb0 hb1 hgj hgr
  have HJ0 := Lib.hid (show AJ w gj gr A n cc x w1 from ⟨hbw, hj1, hr1⟩)
  have HC0 := Lib.hid (show chkL evs = chkL (evs.drop 0) from rfl)
  clear hbw hj1 hr1
  go_upto_region 2 with fail
  go_loopw [15] (fun i wr => ∃ k : Nat, i = .int .i64 ((k : Nat) : Int) ∧ k ≤ n1 ∧ Hid (chkL evs = chkL (evs.drop k)) ∧ Hid (AJ w gj gr A n cc x wr)) (fun i _ => n1 - (intOf i).toNat)
  case atStart => exact ⟨0, rfl, by omega, HC0, HJ0⟩
  case round =>
    clear HC0 HJ0
    obtain ⟨k, rfl, hk, HC, HJ⟩ := hrel
    by_cases hlt : k < n1
    · have hlt' : k < evs.length := by rw [← HE.out.n]; exact hlt
      obtain ⟨b1, o1, ea, hb1, g1⟩ := HE.out.r.at_ hlt'
      subst ea
      have G1 := Lib.hid (range_below HJ.out.b hb1 g1)
      obtain ⟨e, he⟩ : ∃ e, e = evs[k] := ⟨_, rfl⟩
      rw [← he] at G1
      have HX1 := Lib.hid (chk_next (show evs[k]? = some e by rw [he]; exact List.getElem?_eq_getElem hlt'))
      have p0 : (0 : Int) ≤ (k : Int) := by omega
      have p1 : (k : Int) < (n1 : Int) := by omega
      have p2 : (n1 : Int) ≤ 1000 := by omega
      clear he g1 hb1 hlt'
      have hsz := ev_size e
      have hone := evC_one e
      have hs6 : (evC ev0).size = (evC e).size := rfl
      have hz6 := ev0_is
      have hnew : (World.alloc wr (.cells (evC ev0) 41)).heap[(World.heap wr).size]? = some (.cells (evC ev0) 41 (0, 0)) := heap_alloc_new _ _
      obtain ⟨es, hes⟩ : ∃ es, es = evC e := ⟨_, rfl⟩
      have hev : evV e = .agg es := by rw [hes]; rfl
      have HEs := Lib.hid hes
      rw [← hes] at hsz hs6 hone
      clear hes
      go_upto_region 4 with (first
        | (refine load_evm rfl (.tmp 17) rfl b1 (o1 + k * 6) rfl e G1.out ?_; rw [hev])
        | (refine wpList_store_row rfl 41 (.tmp 7) (.tmp 18) rfl (World.heap wr).size _ rfl rfl 41 (evC ev0) hnew hsz hs6 hone ?_))
      rw [HEs.out]
      clear hnew hsz hs6 hone hz6 hev HEs es
      obtain ⟨w4, hw4, he4, hb4⟩ := ev_box wr e
      rw [← hw4]
      obtain ⟨ge, hge⟩ : ∃ g, g = (World.heap wr).size := ⟨_, rfl⟩
      rw [← hge] at he4
      rw [← hge]
      have HGge := Lib.hid hge
      clear hw4 hge
      have HJ4 := Lib.hid (HJ.out.keep hb4)
      clear HJ hb4 G1
      go_wp2_with (refine load_ev (by rfl) (.tmp 7) rfl ge rfl e he4 ?_)
      refine (evCheckRef_any e w4).mono ?_
      rintro en w5 ⟨rfl, hb5⟩
      have HJ5 := Lib.hid (HJ4.out.keep hb5)
      clear HJ4 he4 hb5
      obtain ⟨r, hr⟩ : ∃ r, r = chkE e := ⟨_, rfl⟩
      rw [← hr] at HX1 ⊢
      clear hr
      by_cases hr0 : r = 0
      · subst hr0
        have HC6 := Lib.hid (show chkL evs = chkL (evs.drop (k + 1)) from HC.out.trans (HX1.out.trans (if_neg (by simp))))
        go_wp2_with fail
        go_roundw
        case rel => exact ⟨k + 1, by go_num, by omega, HC6, HJ5⟩
        case measure => simp [intOf]; omega
      · have HF := Lib.hid (show chkL evs = r from HC.out.trans (HX1.out.trans (if_pos hr0)))
        have HR0 := Lib.hid hr0
        have d0 : (r != 0) = true := by simp [hr0]
        have hsz := jsize (some ⟨b1, o1, none⟩) 0 0 0
        have hszj := jsize A n cc x
        have honej := jone A n cc x
        have hj5 := HJ5.out.j
        have hr5 := HJ5.out.r
        clear hr0 hsz
        go_wp2_with (first
          | (refine wpList_load_row rfl 29 (.tmp 2) rfl gj rfl 29 _ (0, 0) _ hj5 Try.underlying29 rfl hszj ?_)
          | (refine wpList_store_row rfl 29 (.tmp 4) (.tmp 23) rfl gr _ rfl rfl 29 _ hr5 hszj rfl honej ?_))
        have hwr : w.heap.size ≤ gr := by have := HG.out; omega
        refine bodyPost_ret (v := .tuple #[.agg #[.slice A n cc, .int .i64 x], .int .i64 r]) ?_ rfl ⟨fun _ => ⟨by rw [HF.out], below_setRow HJ5.out.b gr _ hwr⟩, fun h0 => absurd (HF.out.symm.trans h0) HR0.out⟩
        exact results_cell_tmp (ty := 29) (p := 4) (q := 5) (by kernel_rfl) _ _ gr 29 _ (0, 0) _ rfl (setRow_heap _ _ _ _ _ _ hr5) Try.underlying29 rfl hszj
    · obtain rfl : n1 = k := by omega
      have HC6 := Lib.hid (show chkL evs = 0 from by rw [HC.out, HE.out.n, List.drop_length]; rfl)
      clear HC
      have hszj := jsize A n cc x
      have hj5 := HJ.out.j
      have hal := allRef_any A n cc P 0 wr (HM.out.ptR.grow HJ.out.b) (by have := HN.out; omega) (by omega) (by have := HN.out; omega)
      rw [← HX.out, List.drop_zero] at hal
      go_wp2_with (refine wpList_load_row rfl 29 (.tmp 2) rfl gj rfl 29 _ (0, 0) _ hj5 Try.underlying29 rfl hszj ?_)
      refine hal.mono ?_
      clear hal
      rintro en w2 ⟨A2, m2, c2, rfl, hV2⟩
      have HJ2 := Lib.hid (HJ.out.keep hV2.b)
      have hm2 : m2 + n1 ≤ 60000 := by have := hV2.own.len; have := HN.out; omega
      have hmz : ((m2 : Int) + (n1 : Int)) ≤ 60000 := by omega
      have d0 : decide ((65536 : Int) < (m2 : Int) + (n1 : Int)) = false := by simp; omega
      have cj1 : w2.cell? ⟨gj, 1, none⟩ = some (.int .i64 x) := cell_of_row w2 gj 1 _ _ _ HJ2.out.j
      have hnew : (w2.alloc (.cells #[.slice none 0 0, .int .i64 0] 29)).heap[w2.heap.size]? = some (.cells #[.slice none 0 0, .int .i64 0] 29 (0, 0)) := heap_alloc_new _ _
      have hszn := jsize none 0 0 x
      have honen := jone none 0 0 x
      clear HJ hV2 hj5
      go_upto_region 11 with (refine wpList_store_row rfl 29 (.tmp 9) (.tmp 36) rfl w2.heap.size _ rfl rfl 29 #[.slice none 0 0, .int .i64 0] hnew hszn rfl honen ?_)
      have hbn : Below w2.heap.size w2 ((w2.alloc (.cells #[.slice none 0 0, .int .i64 0] 29)).setRow w2.heap.size #[.slice none 0 0, .int .i64 x]) := below_setRow ((Below.refl _ _).alloc (Nat.le_refl _) _) _ _ (Nat.le_refl _)
      have hgn : JBox ((w2.alloc (.cells #[.slice none 0 0, .int .i64 0] 29)).setRow w2.heap.size #[.slice none 0 0, .int .i64 x]) w2.heap.size none 0 0 x := setRow_heap _ _ _ _ _ _ hnew
      obtain ⟨go, hgo⟩ : ∃ g, g = w2.heap.size := ⟨_, rfl⟩
      have HGo := Lib.hid (show gj ≠ go ∧ gr ≠ go from ⟨by have := JBox.lt HJ2.out.j; omega, by have := JBox.lt HJ2.out.r; omega⟩)
      have hlo : w.heap.size ≤ go := by rw [hgo]; exact HJ2.out.b.size
      obtain ⟨w3, hw3⟩ : ∃ W, W = (w2.alloc (.cells #[.slice none 0 0, .int .i64 0] 29)).setRow w2.heap.size #[.slice none 0 0, .int .i64 x] := ⟨_, rfl⟩
      rw [← hw3] at hbn hgn ⊢
      rw [← hgo] at hgn ⊢
      have HA3 := Lib.hid (show AL w gj gr go A n cc x (allPs (addP P evs)) none 0 0 [] w3 from ⟨HJ2.out.keep hbn, hgn, ⟨rfl, rfl, .inl ⟨rfl, rfl⟩⟩, by rw [List.take_zero]; exact PtG.nil, hlo⟩)
      have cj0 : w3.cell? ⟨gj, 0, none⟩ = some (.slice A n cc) := cell_of_row w3 gj 0 _ _ _ HA3.out.aj.j
      have f1 : (n : Int) ≤ 1000 := by omega
      clear hw3 hgo hbn hgn hlo hnew hszn honen cj1 d0 hm2 hmz HJ2
      go_upto_region 12 with fail
      clear cj0
      go_loopw [40] (fun i wr => ∃ (k ck : Nat) (Ak : Option Addr) (qk : List QT), i = .int .i64 ((k : Nat) : Int) ∧ k ≤ n ∧ Hid (AL w gj gr go A n cc x (allPs (addP P evs)) Ak k ck qk wr)) (fun i _ => n - (intOf i).toNat)
      case atStart => exact ⟨0, 0, none, [], rfl, by omega, HA3⟩
      case round =>
        clear HA3
        obtain ⟨k, ck, Ak, qk, rfl, hk, HAL⟩ := hrel
        by_cases hlt : k < n
        · obtain ⟨p, hp⟩ : ∃ p, (allPs P)[k]? = some p := ⟨_, List.getElem?_eq_getElem (by rw [← HN.out.2.2.1]; exact hlt)⟩
          obtain ⟨q, hq⟩ : ∃ q, qs[k]? = some q := ⟨_, List.getElem?_eq_getElem (by rw [← HM.out.n]; exact hlt)⟩
          obtain ⟨b, off, rfl, hGb, hra⟩ := HM.out.r k q hq
          obtain ⟨hnum, hcap', hev'⟩ := HM.out.p.at_ k q p hq hp
          obtain ⟨num, A', n', c'⟩ := q
          have hblt : b < w.heap.size := HM.out.lt b hGb
          have hc0 := hra 0 (.int .i64 num) rfl
          have hc1 := hra 1 (.slice A' n' c') rfl
          rw [Nat.add_zero] at hc0
          have hc0 := (HAL.out.aj.b.cell (show (⟨b, off + k * 2, none⟩ : Addr).block < w.heap.size from hblt)).trans hc0
          have hc1 := (HAL.out.aj.b.cell (show (⟨b, off + k * 2 + 1, none⟩ : Addr).block < w.heap.size from hblt)).trans hc1
          have HNum := Lib.hid (show num = p.1 from hnum)
          have HNi := Lib.hid (HM.out.p.i p (List.mem_of_getElem? hp))
          have HEv := Lib.hid (show Evs w.heap.size w A' n' p.2 from hev'.evs HM.out.lt)
          have HP := Lib.hid hp
          have HPl := Lib.hid (show n' ≤ 60000 from by
            have h1 : p.2.length ≤ (flat (allPs P)).length := by
              have := flat_drop_len (allPs P) k
              rw [List.drop_eq_getElem_cons (List.getElem?_eq_some_iff.1 hp).1, (List.getElem?_eq_some_iff.1 hp).2, flat_cons, List.length_append] at this
              omega
            have := HEv.out.n
            have := HN.out
            omega)
          have g0 : (0 : Int) ≤ (k : Int) := by omega
          have g1 : (k : Int) < (n : Int) := by omega
          have hnew : (wr.alloc (.cells #[.int .i64 0, .slice none 0 0] 66)).heap[wr.heap.size]? = some (.cells #[.int .i64 0, .slice none 0 0] 66 (0, 0)) := heap_alloc_new _ _
          have hszp := psize A' n' c' num
          have honep := pone A' n' c' num
          clear hp hq hra hGb hnum hcap' hev' hblt
          go_upto_region 14 with (refine wpList_store_row rfl 66 (.tmp 11) (.tmp 44) rfl wr.heap.size _ rfl rfl 66 #[.int .i64 0, .slice none 0 0] hnew hszp rfl honep ?_)
          rename_i K0 hK0
          have hB4 : Below wr.heap.size wr ((wr.alloc (.cells #[.int .i64 0, .slice none 0 0] 66)).setRow wr.heap.size #[.int .i64 num, .slice A' n' c']) := below_setRow ((Below.refl _ _).alloc (Nat.le_refl _) _) _ _ (Nat.le_refl _)
          have hp4 : PBox ((wr.alloc (.cells #[.int .i64 0, .slice none 0 0] 66)).setRow wr.heap.size #[.int .i64 num, .slice A' n' c']) wr.heap.size num A' n' c' := setRow_heap _ _ _ _ _ _ hnew
          obtain ⟨gp, hgp⟩ : ∃ g, g = wr.heap.size := ⟨_, rfl⟩
          obtain ⟨w4, hw4⟩ : ∃ W, W = (wr.alloc (.cells #[.int .i64 0, .slice none 0 0] 66)).setRow wr.heap.size #[.int .i64 num, .slice A' n' c'] := ⟨_, rfl⟩
          rw [← hw4] at hp4 hB4 ⊢
          rw [← hgp] at hp4 ⊢
          clear hw4 hgp hnew hszp honep hc0 hc1
          have k0 : ∀ W, PBox W gp num A' n' c' → W.cell? ⟨gp, 0, none⟩ = some (.int .i64 num) := fun W h => cell_of_row W gp 0 _ _ _ h
          have k1 : ∀ W, PBox W gp num A' n' c' → W.cell? ⟨gp, 1, none⟩ = some (.slice A' n' c') := fun W h => cell_of_row W gp 1 _ _ _ h
          refine wp_region_held_drew (S := fun W => PBox W gp num A' n' c') (by kernel_rfl) (show PBox w4.drew gp num A' n' c' from hp4) (fun hHeld => ?_)
          refine wpAnyH_take (i := 0) (v := ?_) rfl (by kernel_rfl) (by kernel_rfl) (by kernel_rfl) (fun _ _ _ h => h) (Or.inl ⟨by rfl, ?_⟩) hHeld ?_
          rotate_left
          · (intro w hSw; go_simp; (try with_reducible rfl))
          simp only [Act.put, List.getElem_toArray, List.getElem_cons_zero, List.getElem_cons_succ, List.setIfInBounds_toArray, List.set_cons_zero, List.set_cons_succ]
          refine wpAnyH_take (i := 1) (v := ?_) rfl (by kernel_rfl) (by kernel_rfl) (by kernel_rfl) (fun _ _ _ h => h) (Or.inl ⟨by rfl, ?_⟩) hHeld ?_
          rotate_left
          · (intro w hSw; go_simp; (try with_reducible rfl))
          simp only [Act.put, List.getElem_toArray, List.getElem_cons_zero, List.getElem_cons_succ, List.setIfInBounds_toArray, List.set_cons_zero, List.set_cons_succ]
          refine wpAnyH_take (i := 3) (v := ?_) rfl (by kernel_rfl) (by kernel_rfl) (by kernel_rfl) (fun _ _ _ h => h) (Or.inl ⟨by rfl, ?_⟩) hHeld ?_
          rotate_left
          · (intro w hSw; go_simp; (try with_reducible rfl))
          simp only [Act.put, List.getElem_toArray, List.getElem_cons_zero, List.getElem_cons_succ, List.setIfInBounds_toArray, List.set_cons_zero, List.set_cons_succ]
          refine wpAnyH_take (i := 4) (v := ?_) rfl (by kernel_rfl) (by kernel_rfl) (by kernel_rfl) (fun _ _ _ h => h) (Or.inl ⟨by rfl, ?_⟩) hHeld ?_
          rotate_left
          · (intro w hSw; go_simp; (try with_reducible rfl))
          simp only [Act.put, List.getElem_toArray, List.getElem_cons_zero, List.getElem_cons_succ, List.setIfInBounds_toArray, List.set_cons_zero, List.set_cons_succ]
          clear k0 k1
          have hB0 : Below wr.heap.size wr w4.drew := hB4.drew
          obtain ⟨w2, hw2⟩ : ∃ w2, w2 = w4.drew := ⟨_, rfl⟩
          rw [← hw2] at hHeld hB0
          rw [← hw2]
          have hs0 : gp < w2.heap.size := PBox.lt hHeld
          clear hw2 hp4 hB4
          refine wpAnyH_ready (rs := [2, 7]) (by kernel_rfl) (by simp) ?_
          refine AllReadyH.cons rfl (fun K hK => ?_) (AllReadyH.cons rfl (fun K hK => ?_) AllReadyH.nil)
          all_goals (try simp only [List.getElem_toArray, List.getElem_cons_zero, List.getElem_cons_succ])
          · skip
            go_simp
            have hbE : Below (World.heap w2).size w2 (World.alloc w2 (.cells #[] 41)) := (Below.refl _ _).alloc (Nat.le_refl _) _
            have h0 := ownV_empty w2 wr.heap.size (hB0).size
            have hBe := keepB hbE hB0
            have hpe := PBox.keep hHeld hbE
            refine hK.out _ _ hpe (fun _ => ?_)
            clear hK K
            try simp only [Act.put, List.setIfInBounds_toArray, List.set_cons_zero, List.set_cons_succ]
            have hHeld := hpe
            refine wpAnyH_ready (rs := [5, 7]) (by kernel_rfl) (by simp) ?_
            refine AllReadyH.cons rfl (fun K hK => ?_) (AllReadyH.cons rfl (fun K hK => ?_) AllReadyH.nil)
            all_goals (try simp only [List.getElem_toArray, List.getElem_cons_zero, List.getElem_cons_succ])
            · skip
              refine wp_appV (.tmp 47) (.tmp 49) rfl wr.heap.size (some ⟨w2.heap.size, 0, none⟩) 0 0 [] rfl h0 w.heap.size A' n' c' p.2 rfl (HEv.out.r.below (keepB hBe HAL.out.aj.b)) HEv.out.n (by have := HEv.out.n; have := HPl.out; omega) (hBe).size ?_
              intro A7 c7 w7 ho7 hg7 _hat7
              rw [Nat.zero_add, List.nil_append] at ho7
              try rw [Nat.zero_add]
              have hB7 := (h0).grown hBe (hBe).size hg7
              have hp7 := PBox.app hpe h0 hg7
              refine hK.out _ _ hp7 (fun _ => ?_)
              clear hK K
              try simp only [Act.put, List.setIfInBounds_toArray, List.set_cons_zero, List.set_cons_succ]
              have hHeld := hp7
              refine wpAnyH_take (i := 6) (v := ?_) rfl (by kernel_rfl) (by kernel_rfl) (by kernel_rfl) (fun _ _ _ h => h) (Or.inl ⟨by rfl, ?_⟩) hHeld ?_
              rotate_left
              · (intro w hSw; go_simp; (try with_reducible rfl))
              simp only [Act.put, List.getElem_toArray, List.getElem_cons_zero, List.getElem_cons_succ, List.setIfInBounds_toArray, List.set_cons_zero, List.set_cons_succ]
              refine wpAnyH_ready (rs := [7]) (by kernel_rfl) (by simp) ?_
              refine AllReadyH.cons rfl (fun K hK => ?_) AllReadyH.nil
              try simp only [List.getElem_toArray, List.getElem_cons_zero, List.getElem_cons_succ]
              have hs7 : gp < w7.heap.size := PBox.lt hp7
              have hse2 : wr.heap.size ≤ w7.heap.size := hB7.size
              go_simp
              have hbO : Below (World.heap w7).size w7 (World.alloc w7 (.cells #[.int .i64 0, .slice none 0 0] 66)) := (Below.refl _ _).alloc (Nat.le_refl _) _
              have hqo : PBox (World.alloc w7 (.cells #[.int .i64 0, .slice none 0 0] 66)) (World.heap w7).size 0 none 0 0 := heap_alloc_new _ _
              have hBo := keepB hbO hB7
              have hpo := PBox.keep hp7 hbO
              refine hK.out _ _ hpo (fun _ => ?_)
              clear hK K
              try simp only [Act.put, List.setIfInBounds_toArray, List.set_cons_zero, List.set_cons_succ]
              have hHeld := hpo
              refine wpAnyH_ready (rs := [8]) (by kernel_rfl) (by simp) ?_
              refine AllReadyH.cons rfl (fun K hK => ?_) AllReadyH.nil
              try simp only [List.getElem_toArray, List.getElem_cons_zero, List.getElem_cons_succ]
              have ho8 := ho7.below hbO
              have hsz := psize A7 n' c7 num
              have hone := pone A7 n' c7 num
              refine wp_store_row 66 (.tmp 12) (.tmp 51) rfl w7.heap.size _ rfl rfl 66 _ hqo hsz rfl hone ?_
              have hnp : gp ≠ w7.heap.size := by have := hs7; omega
              have hpE : PBox (World.setRow (w7.alloc (.cells #[.int .i64 0, .slice none 0 0] 66)) (w7.heap.size) #[.int .i64 num, .slice A7 n' c7]) gp num A' n' c' := (setRow_other (w7.alloc (.cells #[.int .i64 0, .slice none 0 0] 66)) (w7.heap.size) gp _ hnp).trans hpo
              have hgE : PBox (World.setRow (w7.alloc (.cells #[.int .i64 0, .slice none 0 0] 66)) (w7.heap.size) #[.int .i64 num, .slice A7 n' c7]) (w7.heap.size) num A7 n' c7 := setRow_heap _ _ _ _ _ _ hqo
              have hBE : Below wr.heap.size wr (World.setRow (w7.alloc (.cells #[.int .i64 0, .slice none 0 0] 66)) (w7.heap.size) #[.int .i64 num, .slice A7 n' c7]) := below_setRow hBo (w7.heap.size) _ hse2
              have hOE : OwnV (World.setRow (w7.alloc (.cells #[.int .i64 0, .slice none 0 0] 66)) (w7.heap.size) #[.int .i64 num, .slice A7 n' c7]) wr.heap.size A7 n' c7 p.2 := ⟨(ho8).len, owns_keep (ho8).o fun j hj => setRow_other (w7.alloc (.cells #[.int .i64 0, .slice none 0 0] 66)) (w7.heap.size) j _ (fun e => by
                obtain ⟨_, cur, hc⟩ := own_ty (ho8).o hj
                subst e
                exact absurd (ty_same hc hqo) (by decide))⟩
              have hge : wr.heap.size ≤ w7.heap.size := hse2
              obtain ⟨gq, hgq⟩ : ∃ g, g = w7.heap.size := ⟨_, rfl⟩
              rw [← hgq] at hpE hgE hBE hOE hge ⊢
              obtain ⟨wE, hwE⟩ : ∃ W, W = World.setRow (w7.alloc (.cells #[.int .i64 0, .slice none 0 0] 66)) gq #[.int .i64 num, .slice A7 n' c7] := ⟨_, rfl⟩
              rw [← hwE] at hpE hgE hBE hOE ⊢
              clear hgq hwE
              refine hK.out _ _ hpE (fun _ => ?_)
              clear hK K
              try simp only [Act.put, List.setIfInBounds_toArray, List.set_cons_zero, List.set_cons_succ]
              refine wpAnyH_done (by kernel_rfl) ?_ _
              refine hK0 _ _ ?_
              clear hK0 K0 hHeld hsz hone hpE
              have cg0 : wE.cell? ⟨gj, 0, none⟩ = some (.slice (some ⟨b, off, none⟩) n cc) := cell_of_row wE gj 0 _ _ _ (HAL.out.aj.j.keep hBE)
              by_cases hlast : (k : Int) = (n : Int) - 1
              · have d0 : ((k : Int) == (n : Int) - 1) = true := by simp [hlast]
                have cq1 : wE.cell? ⟨gq, 1, none⟩ = some (.slice A7 n' c7) := cell_of_row wE gq 1 _ _ _ hgE
                have hr1 := HE.out.r.below (keepB hBE HAL.out.aj.b)
                have hs1 := hBE.size
                have hsum : n' + n1 ≤ 1000000 := by have := hOE.len; have := HPl.out; have := HN.out; omega
                have HLast := Lib.hid (show (allPs (addP P evs))[k]? = some (p.1, p.2 ++ evs) from by
                  rw [add_at, HP.out]; simp; rw [← HN.out.2.2.1]; omega)
                clear hlast
                go_upto_region 17 with (at_builtin; refine wpList_appV rfl (.tmp 59) (.tmp 60) rfl wr.heap.size A7 n' c7 _ rfl hOE _ A1 n1 c1 evs rfl hr1 HE.out.n hsum hs1 ?_; intro A8 c8 w8 ho8 hg8; have hq8 := PBox.app hgE hOE hg8; have cq8 : w8.cell? ⟨gq, 1, none⟩ = some (.slice A7 n' c7) := cell_of_row w8 gq 1 _ _ _ hq8; have fq8 := frozen_of_row w8 gq 1 _ _ hq8)
                have hB8 := hOE.grown hBE hs1 hg8
                have hqF : PBox (w8.setCell ⟨gq, 1, none⟩ (.slice A8 (n' + n1) c8)) gq num A8 (n' + n1) c8 := heap_setCell_same w8 gq 1 _ _ _ hq8
                have hBF : Below wr.heap.size wr (w8.setCell ⟨gq, 1, none⟩ (.slice A8 (n' + n1) c8)) := hB8.setCell hge _
                have hOF : OwnV (w8.setCell ⟨gq, 1, none⟩ (.slice A8 (n' + n1) c8)) wr.heap.size A8 (n' + n1) c8 (p.2 ++ evs) := ⟨ho8.len, owns_keep ho8.o fun j hj => heap_setCell_other w8 ⟨gq, 1, none⟩ j _ (fun e => by
                  obtain ⟨_, cur, hc⟩ := own_ty ho8.o hj
                  simp at e
                  subst e
                  exact absurd (ty_same hc hq8) (by decide))⟩
                obtain ⟨wF, hwF⟩ : ∃ W, W = w8.setCell ⟨gq, 1, none⟩ (.slice A8 (n' + n1) c8) := ⟨_, rfl⟩
                rw [← hwF] at hqF hBF hOF ⊢
                clear hwF cg0 d0 cq1 hr1 hq8 cq8 fq8 hg8 ho8 hB8 hgE hBE hOE hs1
                have hALF := HAL.out.keep hBF
                have co0 : wF.cell? ⟨go, 0, none⟩ = some (.slice Ak k ck) := cell_of_row wF go 0 _ _ _ hALF.bx
                have cq0 : wF.cell? ⟨gq, 0, none⟩ = some (.int .i64 num) := cell_of_row wF gq 0 _ _ _ hqF
                have cq1 : wF.cell? ⟨gq, 1, none⟩ = some (.slice A8 (n' + n1) c8) := cell_of_row wF gq 1 _ _ _ hqF
                have hbS : Below wF.heap.size wF (wF.alloc (.cells #[.int .i64 num, .slice A8 (n' + n1) c8] 66)) := (Below.refl _ _).alloc (Nat.le_refl _) _
                have hS : (wF.alloc (.cells #[.int .i64 num, .slice A8 (n' + n1) c8] 66)).heap[wF.heap.size]? = some (.cells #[.int .i64 num, .slice A8 (n' + n1) c8] 66 (0, 0)) := heap_alloc_new _ _
                have hBS := keepB hbS hBF
                have hALS := HAL.out.keep hBS
                have hOS := hALS.own
                have hsS := hALS.aj.b.size
                have hrd := rdQ_one (q := ⟨num, ⟨A8, (n' + n1), c8⟩⟩) hS
                have hk1 : k + 1 ≤ 1000000 := by have := HN.out; omega
                have hcap := hOF.cap.1
                have hvF : EvG (GE w.heap.size (wF.alloc (.cells #[.int .i64 num, .slice A8 (n' + n1) c8] 66))) (wF.alloc (.cells #[.int .i64 num, .slice A8 (n' + n1) c8] 66)) A8 (n' + n1) (p.2 ++ evs) := ((hOF.below hbS).low HAL.out.aj.b.size).evT (fun e he => by rcases List.mem_append.1 he with h | h; exact HEv.out.i e h; exact HE.out.i e h)
                have hnext := fun A9 c9 W9 => AL.next (A9 := A9) (c9 := c9) (W9 := W9) (num := num) (sl := ⟨A8, (n' + n1), c8⟩) HAL.out hBS HGo.out.1 HGo.out.2 HLast.out HNum.out hcap hvF HNi.out
                have HNx := Lib.hid hnext
                clear hS hbS hBS hALS hcap hvF hOF hBF hALF hnext hqF
                go_wp2_with (at_builtin; refine wpList_appQ rfl (.tmp 64) (.tmp 66) rfl w.heap.size Ak k ck _ rfl hOS _ wF.heap.size 0 1 1 [⟨num, ⟨A8, (n' + n1), c8⟩⟩] rfl hrd rfl hk1 hsS ?_; intro A9 c9 w9 ho9 hg9; obtain ⟨hb9, hal9⟩ := HNx.out A9 c9 w9 ho9 hg9; have co9 : w9.cell? ⟨go, 0, none⟩ = some (.slice Ak k ck) := cell_of_row w9 go 0 _ _ _ hb9; have fo9 := frozen_of_row w9 go 0 _ _ hb9)
                have HAL9 := Lib.hid hal9
                clear ho9 hg9 hb9 hal9 co9 fo9 co0 cq0 cq1 hOS hrd HNx
                go_roundw
                case rel => exact ⟨k + 1, _, _, _, by go_num, by omega, HAL9⟩
                case measure => simp [intOf]; omega
              · have d0 : ((k : Int) == (n : Int) - 1) = false := by simp [hlast]
                have HLast := Lib.hid (show (allPs (addP P evs))[k]? = some (p.1, p.2) from by
                  rw [add_at, HP.out]; simp; rw [← HN.out.2.2.1]; omega)
                clear hlast
                go_upto_region 17 with fail
                obtain ⟨wF, hwF⟩ : ∃ W, W = wE := ⟨_, rfl⟩
                rw [← hwF] at hgE hBE hOE ⊢
                have hqF := hgE
                have hBF := hBE
                have hOF := hOE
                clear hwF cg0 d0 hgE hBE hOE
                have hALF := HAL.out.keep hBF
                have co0 : wF.cell? ⟨go, 0, none⟩ = some (.slice Ak k ck) := cell_of_row wF go 0 _ _ _ hALF.bx
                have cq0 : wF.cell? ⟨gq, 0, none⟩ = some (.int .i64 num) := cell_of_row wF gq 0 _ _ _ hqF
                have cq1 : wF.cell? ⟨gq, 1, none⟩ = some (.slice A7 n' c7) := cell_of_row wF gq 1 _ _ _ hqF
                have hbS : Below wF.heap.size wF (wF.alloc (.cells #[.int .i64 num, .slice A7 n' c7] 66)) := (Below.refl _ _).alloc (Nat.le_refl _) _
                have hS : (wF.alloc (.cells #[.int .i64 num, .slice A7 n' c7] 66)).heap[wF.heap.size]? = some (.cells #[.int .i64 num, .slice A7 n' c7] 66 (0, 0)) := heap_alloc_new _ _
                have hBS := keepB hbS hBF
                have hALS := HAL.out.keep hBS
                have hOS := hALS.own
                have hsS := hALS.aj.b.size
                have hrd := rdQ_one (q := ⟨num, ⟨A7, n', c7⟩⟩) hS
                have hk1 : k + 1 ≤ 1000000 := by have := HN.out; omega
                have hcap := hOF.cap.1
                have hvF : EvG (GE w.heap.size (wF.alloc (.cells #[.int .i64 num, .slice A7 n' c7] 66))) (wF.alloc (.cells #[.int .i64 num, .slice A7 n' c7] 66)) A7 n' p.2 := ((hOF.below hbS).low HAL.out.aj.b.size).evT HEv.out.i
                have hnext := fun A9 c9 W9 => AL.next (A9 := A9) (c9 := c9) (W9 := W9) (num := num) (sl := ⟨A7, n', c7⟩) HAL.out hBS HGo.out.1 HGo.out.2 HLast.out HNum.out hcap hvF HNi.out
                have HNx := Lib.hid hnext
                clear hS hbS hBS hALS hcap hvF hOF hBF hALF hnext hqF
                go_wp2_with (at_builtin; refine wpList_appQ rfl (.tmp 64) (.tmp 66) rfl w.heap.size Ak k ck _ rfl hOS _ wF.heap.size 0 1 1 [⟨num, ⟨A7, n', c7⟩⟩] rfl hrd rfl hk1 hsS ?_; intro A9 c9 w9 ho9 hg9; obtain ⟨hb9, hal9⟩ := HNx.out A9 c9 w9 ho9 hg9; have co9 : w9.cell? ⟨go, 0, none⟩ = some (.slice Ak k ck) := cell_of_row w9 go 0 _ _ _ hb9; have fo9 := frozen_of_row w9 go 0 _ _ hb9)
                have HAL9 := Lib.hid hal9
                clear ho9 hg9 hb9 hal9 co9 fo9 co0 cq0 cq1 hOS hrd HNx
                go_roundw
                case rel => exact ⟨k + 1, _, _, _, by go_num, by omega, HAL9⟩
                case measure => simp [intOf]; omega
            · skip
              have hse : gp < (w2.alloc (.cells #[] 41)).heap.size := PBox.lt hpe
              go_simp
              have hbO : Below (World.heap (w2.alloc (.cells #[] 41))).size (w2.alloc (.cells #[] 41)) (World.alloc (w2.alloc (.cells #[] 41)) (.cells #[.int .i64 0, .slice none 0 0] 66)) := (Below.refl _ _).alloc (Nat.le_refl _) _
              have hqo : PBox (World.alloc (w2.alloc (.cells #[] 41)) (.cells #[.int .i64 0, .slice none 0 0] 66)) (World.heap (w2.alloc (.cells #[] 41))).size 0 none 0 0 := heap_alloc_new _ _
              have hBo := keepB hbO hBe
              have hpo := PBox.keep hpe hbO
              refine hK.out _ _ hpo (fun _ => ?_)
              clear hK K
              try simp only [Act.put, List.setIfInBounds_toArray, List.set_cons_zero, List.set_cons_succ]
              have hHeld := hpo
              refine wpAnyH_ready (rs := [5]) (by kernel_rfl) (by simp) ?_
              refine AllReadyH.cons rfl (fun K hK => ?_) AllReadyH.nil
              try simp only [List.getElem_toArray, List.getElem_cons_zero, List.getElem_cons_succ]
              have h1 := h0.below hbO
              refine wp_appV (.tmp 47) (.tmp 49) rfl wr.heap.size (some ⟨w2.heap.size, 0, none⟩) 0 0 [] rfl h1 w.heap.size A' n' c' p.2 rfl (HEv.out.r.below (keepB hBo HAL.out.aj.b)) HEv.out.n (by have := HEv.out.n; have := HPl.out; omega) (hBo).size ?_
              intro A7 c7 w7 ho7 hg7 _hat7
              rw [Nat.zero_add, List.nil_append] at ho7
              try rw [Nat.zero_add]
              have hB7 := (h1).grown hBo (hBo).size hg7
              have hp7 := PBox.app hpo h1 hg7
              refine hK.out _ _ hp7 (fun _ => ?_)
              clear hK K
              try simp only [Act.put, List.setIfInBounds_toArray, List.set_cons_zero, List.set_cons_succ]
              have hHeld := hp7
              refine wpAnyH_take (i := 6) (v := ?_) rfl (by kernel_rfl) (by kernel_rfl) (by kernel_rfl) (fun _ _ _ h => h) (Or.inl ⟨by rfl, ?_⟩) hHeld ?_
              rotate_left
              · (intro w hSw; go_simp; (try with_reducible rfl))
              simp only [Act.put, List.getElem_toArray, List.getElem_cons_zero, List.getElem_cons_succ, List.setIfInBounds_toArray, List.set_cons_zero, List.set_cons_succ]
              refine wpAnyH_ready (rs := [8]) (by kernel_rfl) (by simp) ?_
              refine AllReadyH.cons rfl (fun K hK => ?_) AllReadyH.nil
              try simp only [List.getElem_toArray, List.getElem_cons_zero, List.getElem_cons_succ]
              have hg7o := PBox.app hqo h1 hg7
              rw [World.size_alloc] at hg7o hse
              have hse2 : wr.heap.size ≤ w2.heap.size + 1 := Nat.le_trans hB0.size (by omega)
              have hsz := psize A7 n' c7 num
              have hone := pone A7 n' c7 num
              refine wp_store_row 66 (.tmp 12) (.tmp 51) rfl (w2.heap.size + 1) _ rfl rfl 66 _ hg7o hsz rfl hone ?_
              have hnp : gp ≠ (w2.heap.size + 1) := by have := hse; omega
              have hpE : PBox (World.setRow w7 ((w2.heap.size + 1)) #[.int .i64 num, .slice A7 n' c7]) gp num A' n' c' := (setRow_other w7 ((w2.heap.size + 1)) gp _ hnp).trans hp7
              have hgE : PBox (World.setRow w7 ((w2.heap.size + 1)) #[.int .i64 num, .slice A7 n' c7]) ((w2.heap.size + 1)) num A7 n' c7 := setRow_heap _ _ _ _ _ _ hg7o
              have hBE : Below wr.heap.size wr (World.setRow w7 ((w2.heap.size + 1)) #[.int .i64 num, .slice A7 n' c7]) := below_setRow hB7 ((w2.heap.size + 1)) _ hse2
              have hOE : OwnV (World.setRow w7 ((w2.heap.size + 1)) #[.int .i64 num, .slice A7 n' c7]) wr.heap.size A7 n' c7 p.2 := ⟨(ho7).len, owns_keep (ho7).o fun j hj => setRow_other w7 ((w2.heap.size + 1)) j _ (fun e => by
                obtain ⟨_, cur, hc⟩ := own_ty (ho7).o hj
                subst e
                exact absurd (ty_same hc hg7o) (by decide))⟩
              have hge : wr.heap.size ≤ (w2.heap.size + 1) := hse2
              obtain ⟨gq, hgq⟩ : ∃ g, g = (w2.heap.size + 1) := ⟨_, rfl⟩
              rw [← hgq] at hpE hgE hBE hOE hge ⊢
              obtain ⟨wE, hwE⟩ : ∃ W, W = World.setRow w7 gq #[.int .i64 num, .slice A7 n' c7] := ⟨_, rfl⟩
              rw [← hwE] at hpE hgE hBE hOE ⊢
              clear hgq hwE
              refine hK.out _ _ hpE (fun _ => ?_)
              clear hK K
              try simp only [Act.put, List.setIfInBounds_toArray, List.set_cons_zero, List.set_cons_succ]
              refine wpAnyH_done (by kernel_rfl) ?_ _
              refine hK0 _ _ ?_
              clear hK0 K0 hHeld hsz hone hpE
              have cg0 : wE.cell? ⟨gj, 0, none⟩ = some (.slice (some ⟨b, off, none⟩) n cc) := cell_of_row wE gj 0 _ _ _ (HAL.out.aj.j.keep hBE)
              by_cases hlast : (k : Int) = (n : Int) - 1
              · have d0 : ((k : Int) == (n : Int) - 1) = true := by simp [hlast]
                have cq1 : wE.cell? ⟨gq, 1, none⟩ = some (.slice A7 n' c7) := cell_of_row wE gq 1 _ _ _ hgE
                have hr1 := HE.out.r.below (keepB hBE HAL.out.aj.b)
                have hs1 := hBE.size
                have hsum : n' + n1 ≤ 1000000 := by have := hOE.len; have := HPl.out; have := HN.out; omega
                have HLast := Lib.hid (show (allPs (addP P evs))[k]? = some (p.1, p.2 ++ evs) from by
                  rw [add_at, HP.out]; simp; rw [← HN.out.2.2.1]; omega)
                clear hlast
                go_upto_region 17 with (at_builtin; refine wpList_appV rfl (.tmp 59) (.tmp 60) rfl wr.heap.size A7 n' c7 _ rfl hOE _ A1 n1 c1 evs rfl hr1 HE.out.n hsum hs1 ?_; intro A8 c8 w8 ho8 hg8; have hq8 := PBox.app hgE hOE hg8; have cq8 : w8.cell? ⟨gq, 1, none⟩ = some (.slice A7 n' c7) := cell_of_row w8 gq 1 _ _ _ hq8; have fq8 := frozen_of_row w8 gq 1 _ _ hq8)
                have hB8 := hOE.grown hBE hs1 hg8
                have hqF : PBox (w8.setCell ⟨gq, 1, none⟩ (.slice A8 (n' + n1) c8)) gq num A8 (n' + n1) c8 := heap_setCell_same w8 gq 1 _ _ _ hq8
                have hBF : Below wr.heap.size wr (w8.setCell ⟨gq, 1, none⟩ (.slice A8 (n' + n1) c8)) := hB8.setCell hge _
                have hOF : OwnV (w8.setCell ⟨gq, 1, none⟩ (.slice A8 (n' + n1) c8)) wr.heap.size A8 (n' + n1) c8 (p.2 ++ evs) := ⟨ho8.len, owns_keep ho8.o fun j hj => heap_setCell_other w8 ⟨gq, 1, none⟩ j _ (fun e => by
                  obtain ⟨_, cur, hc⟩ := own_ty ho8.o hj
                  simp at e
                  subst e
                  exact absurd (ty_same hc hq8) (by decide))⟩
                obtain ⟨wF, hwF⟩ : ∃ W, W = w8.setCell ⟨gq, 1, none⟩ (.slice A8 (n' + n1) c8) := ⟨_, rfl⟩
                rw [← hwF] at hqF hBF hOF ⊢
                clear hwF cg0 d0 cq1 hr1 hq8 cq8 fq8 hg8 ho8 hB8 hgE hBE hOE hs1
                have hALF := HAL.out.keep hBF
                have co0 : wF.cell? ⟨go, 0, none⟩ = some (.slice Ak k ck) := cell_of_row wF go 0 _ _ _ hALF.bx
                have cq0 : wF.cell? ⟨gq, 0, none⟩ = some (.int .i64 num) := cell_of_row wF gq 0 _ _ _ hqF
                have cq1 : wF.cell? ⟨gq, 1, none⟩ = some (.slice A8 (n' + n1) c8) := cell_of_row wF gq 1 _ _ _ hqF
                have hbS : Below wF.heap.size wF (wF.alloc (.cells #[.int .i64 num, .slice A8 (n' + n1) c8] 66)) := (Below.refl _ _).alloc (Nat.le_refl _) _
                have hS : (wF.alloc (.cells #[.int .i64 num, .slice A8 (n' + n1) c8] 66)).heap[wF.heap.size]? = some (.cells #[.int .i64 num, .slice A8 (n' + n1) c8] 66 (0, 0)) := heap_alloc_new _ _
                have hBS := keepB hbS hBF
                have hALS := HAL.out.keep hBS
                have hOS := hALS.own
                have hsS := hALS.aj.b.size
                have hrd := rdQ_one (q := ⟨num, ⟨A8, (n' + n1), c8⟩⟩) hS
                have hk1 : k + 1 ≤ 1000000 := by have := HN.out; omega
                have hcap := hOF.cap.1
                have hvF : EvG (GE w.heap.size (wF.alloc (.cells #[.int .i64 num, .slice A8 (n' + n1) c8] 66))) (wF.alloc (.cells #[.int .i64 num, .slice A8 (n' + n1) c8] 66)) A8 (n' + n1) (p.2 ++ evs) := ((hOF.below hbS).low HAL.out.aj.b.size).evT (fun e he => by rcases List.mem_append.1 he with h | h; exact HEv.out.i e h; exact HE.out.i e h)
                have hnext := fun A9 c9 W9 => AL.next (A9 := A9) (c9 := c9) (W9 := W9) (num := num) (sl := ⟨A8, (n' + n1), c8⟩) HAL.out hBS HGo.out.1 HGo.out.2 HLast.out HNum.out hcap hvF HNi.out
                have HNx := Lib.hid hnext
                clear hS hbS hBS hALS hcap hvF hOF hBF hALF hnext hqF
                go_wp2_with (at_builtin; refine wpList_appQ rfl (.tmp 64) (.tmp 66) rfl w.heap.size Ak k ck _ rfl hOS _ wF.heap.size 0 1 1 [⟨num, ⟨A8, (n' + n1), c8⟩⟩] rfl hrd rfl hk1 hsS ?_; intro A9 c9 w9 ho9 hg9; obtain ⟨hb9, hal9⟩ := HNx.out A9 c9 w9 ho9 hg9; have co9 : w9.cell? ⟨go, 0, none⟩ = some (.slice Ak k ck) := cell_of_row w9 go 0 _ _ _ hb9; have fo9 := frozen_of_row w9 go 0 _ _ hb9)
                have HAL9 := Lib.hid hal9
                clear ho9 hg9 hb9 hal9 co9 fo9 co0 cq0 cq1 hOS hrd HNx
                go_roundw
                case rel => exact ⟨k + 1, _, _, _, by go_num, by omega, HAL9⟩
                case measure => simp [intOf]; omega
              · have d0 : ((k : Int) == (n : Int) - 1) = false := by simp [hlast]
                have HLast := Lib.hid (show (allPs (addP P evs))[k]? = some (p.1, p.2) from by
                  rw [add_at, HP.out]; simp; rw [← HN.out.2.2.1]; omega)
                clear hlast
                go_upto_region 17 with fail
                obtain ⟨wF, hwF⟩ : ∃ W, W = wE := ⟨_, rfl⟩
                rw [← hwF] at hgE hBE hOE ⊢
                have hqF := hgE
                have hBF := hBE
                have hOF := hOE
                clear hwF cg0 d0 hgE hBE hOE
                have hALF := HAL.out.keep hBF
                have co0 : wF.cell? ⟨go, 0, none⟩ = some (.slice Ak k ck) := cell_of_row wF go 0 _ _ _ hALF.bx
                have cq0 : wF.cell? ⟨gq, 0, none⟩ = some (.int .i64 num) := cell_of_row wF gq 0 _ _ _ hqF
                have cq1 : wF.cell? ⟨gq, 1, none⟩ = some (.slice A7 n' c7) := cell_of_row wF gq 1 _ _ _ hqF
                have hbS : Below wF.heap.size wF (wF.alloc (.cells #[.int .i64 num, .slice A7 n' c7] 66)) := (Below.refl _ _).alloc (Nat.le_refl _) _
                have hS : (wF.alloc (.cells #[.int .i64 num, .slice A7 n' c7] 66)).heap[wF.heap.size]? = some (.cells #[.int .i64 num, .slice A7 n' c7] 66 (0, 0)) := heap_alloc_new _ _
                have hBS := keepB hbS hBF
                have hALS := HAL.out.keep hBS
                have hOS := hALS.own
                have hsS := hALS.aj.b.size
                have hrd := rdQ_one (q := ⟨num, ⟨A7, n', c7⟩⟩) hS
                have hk1 : k + 1 ≤ 1000000 := by have := HN.out; omega
                have hcap := hOF.cap.1
                have hvF : EvG (GE w.heap.size (wF.alloc (.cells #[.int .i64 num, .slice A7 n' c7] 66))) (wF.alloc (.cells #[.int .i64 num, .slice A7 n' c7] 66)) A7 n' p.2 := ((hOF.below hbS).low HAL.out.aj.b.size).evT HEv.out.i
                have hnext := fun A9 c9 W9 => AL.next (A9 := A9) (c9 := c9) (W9 := W9) (num := num) (sl := ⟨A7, n', c7⟩) HAL.out hBS HGo.out.1 HGo.out.2 HLast.out HNum.out hcap hvF HNi.out
                have HNx := Lib.hid hnext
                clear hS hbS hBS hALS hcap hvF hOF hBF hALF hnext hqF
                go_wp2_with (at_builtin; refine wpList_appQ rfl (.tmp 64) (.tmp 66) rfl w.heap.size Ak k ck _ rfl hOS _ wF.heap.size 0 1 1 [⟨num, ⟨A7, n', c7⟩⟩] rfl hrd rfl hk1 hsS ?_; intro A9 c9 w9 ho9 hg9; obtain ⟨hb9, hal9⟩ := HNx.out A9 c9 w9 ho9 hg9; have co9 : w9.cell? ⟨go, 0, none⟩ = some (.slice Ak k ck) := cell_of_row w9 go 0 _ _ _ hb9; have fo9 := frozen_of_row w9 go 0 _ _ hb9)
                have HAL9 := Lib.hid hal9
                clear ho9 hg9 hb9 hal9 co9 fo9 co0 cq0 cq1 hOS hrd HNx
                go_roundw
                case rel => exact ⟨k + 1, _, _, _, by go_num, by omega, HAL9⟩
                case measure => simp [intOf]; omega
          · skip
            go_simp
            have hbO : Below (World.heap w2).size w2 (World.alloc w2 (.cells #[.int .i64 0, .slice none 0 0] 66)) := (Below.refl _ _).alloc (Nat.le_refl _) _
            have hqo : PBox (World.alloc w2 (.cells #[.int .i64 0, .slice none 0 0] 66)) (World.heap w2).size 0 none 0 0 := heap_alloc_new _ _
            have hBo := keepB hbO hB0
            have hpo := PBox.keep hHeld hbO
            refine hK.out _ _ hpo (fun _ => ?_)
            clear hK K
            try simp only [Act.put, List.setIfInBounds_toArray, List.set_cons_zero, List.set_cons_succ]
            have hHeld := hpo
            refine wpAnyH_ready (rs := [2]) (by kernel_rfl) (by simp) ?_
            refine AllReadyH.cons rfl (fun K hK => ?_) AllReadyH.nil
            try simp only [List.getElem_toArray, List.getElem_cons_zero, List.getElem_cons_succ]
            go_simp
            have hbE : Below (World.heap (w2.alloc (.cells #[.int .i64 0, .slice none 0 0] 66))).size (w2.alloc (.cells #[.int .i64 0, .slice none 0 0] 66)) (World.alloc (w2.alloc (.cells #[.int .i64 0, .slice none 0 0] 66)) (.cells #[] 41)) := (Below.refl _ _).alloc (Nat.le_refl _) _
            have h0 := ownV_empty (w2.alloc (.cells #[.int .i64 0, .slice none 0 0] 66)) wr.heap.size (hBo).size
            have hBe := keepB hbE hBo
            have hpe := PBox.keep hpo hbE
            refine hK.out _ _ hpe (fun _ => ?_)
            clear hK K
            try simp only [Act.put, List.setIfInBounds_toArray, List.set_cons_zero, List.set_cons_succ]
            have hHeld := hpe
            refine wpAnyH_ready (rs := [5]) (by kernel_rfl) (by simp) ?_
            refine AllReadyH.cons rfl (fun K hK => ?_) AllReadyH.nil
            try simp only [List.getElem_toArray, List.getElem_cons_zero, List.getElem_cons_succ]
            have hgo1 := PBox.keep hqo hbE
            rw [World.size_alloc] at h0
            refine wp_appV (.tmp 47) (.tmp 49) rfl wr.heap.size (some ⟨(w2.heap.size + 1), 0, none⟩) 0 0 [] rfl h0 w.heap.size A' n' c' p.2 rfl (HEv.out.r.below (keepB hBe HAL.out.aj.b)) HEv.out.n (by have := HEv.out.n; have := HPl.out; omega) (hBe).size ?_
            intro A7 c7 w7 ho7 hg7 _hat7
            rw [Nat.zero_add, List.nil_append] at ho7
            try rw [Nat.zero_add]
            have hB7 := (h0).grown hBe (hBe).size hg7
            have hp7 := PBox.app hpe h0 hg7
            refine hK.out _ _ hp7 (fun _ => ?_)
            clear hK K
            try simp only [Act.put, List.setIfInBounds_toArray, List.set_cons_zero, List.set_cons_succ]
            have hHeld := hp7
            refine wpAnyH_take (i := 6) (v := ?_) rfl (by kernel_rfl) (by kernel_rfl) (by kernel_rfl) (fun _ _ _ h => h) (Or.inl ⟨by rfl, ?_⟩) hHeld ?_
            rotate_left
            · (intro w hSw; go_simp; (try with_reducible rfl))
            simp only [Act.put, List.getElem_toArray, List.getElem_cons_zero, List.getElem_cons_succ, List.setIfInBounds_toArray, List.set_cons_zero, List.set_cons_succ]
            refine wpAnyH_ready (rs := [8]) (by kernel_rfl) (by simp) ?_
            refine AllReadyH.cons rfl (fun K hK => ?_) AllReadyH.nil
            try simp only [List.getElem_toArray, List.getElem_cons_zero, List.getElem_cons_succ]
            have hg7o := PBox.app hgo1 h0 hg7
            have hse2 : wr.heap.size ≤ w2.heap.size := hB0.size
            have hsz := psize A7 n' c7 num
            have hone := pone A7 n' c7 num
            refine wp_store_row 66 (.tmp 12) (.tmp 51) rfl w2.heap.size _ rfl rfl 66 _ hg7o hsz rfl hone ?_
            have hnp : gp ≠ w2.heap.size := by have := hs0; omega
            have hpE : PBox (World.setRow w7 (w2.heap.size) #[.int .i64 num, .slice A7 n' c7]) gp num A' n' c' := (setRow_other w7 (w2.heap.size) gp _ hnp).trans hp7
            have hgE : PBox (World.setRow w7 (w2.heap.size) #[.int .i64 num, .slice A7 n' c7]) (w2.heap.size) num A7 n' c7 := setRow_heap _ _ _ _ _ _ hg7o
            have hBE : Below wr.heap.size wr (World.setRow w7 (w2.heap.size) #[.int .i64 num, .slice A7 n' c7]) := below_setRow hB7 (w2.heap.size) _ hse2
            have hOE : OwnV (World.setRow w7 (w2.heap.size) #[.int .i64 num, .slice A7 n' c7]) wr.heap.size A7 n' c7 p.2 := ⟨(ho7).len, owns_keep (ho7).o fun j hj => setRow_other w7 (w2.heap.size) j _ (fun e => by
              obtain ⟨_, cur, hc⟩ := own_ty (ho7).o hj
              subst e
              exact absurd (ty_same hc hg7o) (by decide))⟩
            have hge : wr.heap.size ≤ w2.heap.size := hse2
            obtain ⟨gq, hgq⟩ : ∃ g, g = w2.heap.size := ⟨_, rfl⟩
            rw [← hgq] at hpE hgE hBE hOE hge ⊢
            obtain ⟨wE, hwE⟩ : ∃ W, W = World.setRow w7 gq #[.int .i64 num, .slice A7 n' c7] := ⟨_, rfl⟩
            rw [← hwE] at hpE hgE hBE hOE ⊢
            clear hgq hwE
            refine hK.out _ _ hpE (fun _ => ?_)
            clear hK K
            try simp only [Act.put, List.setIfInBounds_toArray, List.set_cons_zero, List.set_cons_succ]
            refine wpAnyH_done (by kernel_rfl) ?_ _
            refine hK0 _ _ ?_
            clear hK0 K0 hHeld hsz hone hpE
            have cg0 : wE.cell? ⟨gj, 0, none⟩ = some (.slice (some ⟨b, off, none⟩) n cc) := cell_of_row wE gj 0 _ _ _ (HAL.out.aj.j.keep hBE)
            by_cases hlast : (k : Int) = (n : Int) - 1
            · have d0 : ((k : Int) == (n : Int) - 1) = true := by simp [hlast]
              have cq1 : wE.cell? ⟨gq, 1, none⟩ = some (.slice A7 n' c7) := cell_of_row wE gq 1 _ _ _ hgE
              have hr1 := HE.out.r.below (keepB hBE HAL.out.aj.b)
              have hs1 := hBE.size
              have hsum : n' + n1 ≤ 1000000 := by have := hOE.len; have := HPl.out; have := HN.out; omega
              have HLast := Lib.hid (show (allPs (addP P evs))[k]? = some (p.1, p.2 ++ evs) from by
                rw [add_at, HP.out]; simp; rw [← HN.out.2.2.1]; omega)
              clear hlast
              go_upto_region 17 with (at_builtin; refine wpList_appV rfl (.tmp 59) (.tmp 60) rfl wr.heap.size A7 n' c7 _ rfl hOE _ A1 n1 c1 evs rfl hr1 HE.out.n hsum hs1 ?_; intro A8 c8 w8 ho8 hg8; have hq8 := PBox.app hgE hOE hg8; have cq8 : w8.cell? ⟨gq, 1, none⟩ = some (.slice A7 n' c7) := cell_of_row w8 gq 1 _ _ _ hq8; have fq8 := frozen_of_row w8 gq 1 _ _ hq8)
              have hB8 := hOE.grown hBE hs1 hg8
              have hqF : PBox (w8.setCell ⟨gq, 1, none⟩ (.slice A8 (n' + n1) c8)) gq num A8 (n' + n1) c8 := heap_setCell_same w8 gq 1 _ _ _ hq8
              have hBF : Below wr.heap.size wr (w8.setCell ⟨gq, 1, none⟩ (.slice A8 (n' + n1) c8)) := hB8.setCell hge _
              have hOF : OwnV (w8.setCell ⟨gq, 1, none⟩ (.slice A8 (n' + n1) c8)) wr.heap.size A8 (n' + n1) c8 (p.2 ++ evs) := ⟨ho8.len, owns_keep ho8.o fun j hj => heap_setCell_other w8 ⟨gq, 1, none⟩ j _ (fun e => by
                obtain ⟨_, cur, hc⟩ := own_ty ho8.o hj
                simp at e
                subst e
                exact absurd (ty_same hc hq8) (by decide))⟩
              obtain ⟨wF, hwF⟩ : ∃ W, W = w8.setCell ⟨gq, 1, none⟩ (.slice A8 (n' + n1) c8) := ⟨_, rfl⟩
              rw [← hwF] at hqF hBF hOF ⊢
              clear hwF cg0 d0 cq1 hr1 hq8 cq8 fq8 hg8 ho8 hB8 hgE hBE hOE hs1
              have hALF := HAL.out.keep hBF
              have co0 : wF.cell? ⟨go, 0, none⟩ = some (.slice Ak k ck) := cell_of_row wF go 0 _ _ _ hALF.bx
              have cq0 : wF.cell? ⟨gq, 0, none⟩ = some (.int .i64 num) := cell_of_row wF gq 0 _ _ _ hqF
              have cq1 : wF.cell? ⟨gq, 1, none⟩ = some (.slice A8 (n' + n1) c8) := cell_of_row wF gq 1 _ _ _ hqF
              have hbS : Below wF.heap.size wF (wF.alloc (.cells #[.int .i64 num, .slice A8 (n' + n1) c8] 66)) := (Below.refl _ _).alloc (Nat.le_refl _) _
              have hS : (wF.alloc (.cells #[.int .i64 num, .slice A8 (n' + n1) c8] 66)).heap[wF.heap.size]? = some (.cells #[.int .i64 num, .slice A8 (n' + n1) c8] 66 (0, 0)) := heap_alloc_new _ _
              have hBS := keepB hbS hBF
              have hALS := HAL.out.keep hBS
              have hOS := hALS.own
              have hsS := hALS.aj.b.size
              have hrd := rdQ_one (q := ⟨num, ⟨A8, (n' + n1), c8⟩⟩) hS
              have hk1 : k + 1 ≤ 1000000 := by have := HN.out; omega
              have hcap := hOF.cap.1
              have hvF : EvG (GE w.heap.size (wF.alloc (.cells #[.int .i64 num, .slice A8 (n' + n1) c8] 66))) (wF.alloc (.cells #[.int .i64 num, .slice A8 (n' + n1) c8] 66)) A8 (n' + n1) (p.2 ++ evs) := ((hOF.below hbS).low HAL.out.aj.b.size).evT (fun e he => by rcases List.mem_append.1 he with h | h; exact HEv.out.i e h; exact HE.out.i e h)
              have hnext := fun A9 c9 W9 => AL.next (A9 := A9) (c9 := c9) (W9 := W9) (num := num) (sl := ⟨A8, (n' + n1), c8⟩) HAL.out hBS HGo.out.1 HGo.out.2 HLast.out HNum.out hcap hvF HNi.out
              have HNx := Lib.hid hnext
              clear hS hbS hBS hALS hcap hvF hOF hBF hALF hnext hqF
              go_wp2_with (at_builtin; refine wpList_appQ rfl (.tmp 64) (.tmp 66) rfl w.heap.size Ak k ck _ rfl hOS _ wF.heap.size 0 1 1 [⟨num, ⟨A8, (n' + n1), c8⟩⟩] rfl hrd rfl hk1 hsS ?_; intro A9 c9 w9 ho9 hg9; obtain ⟨hb9, hal9⟩ := HNx.out A9 c9 w9 ho9 hg9; have co9 : w9.cell? ⟨go, 0, none⟩ = some (.slice Ak k ck) := cell_of_row w9 go 0 _ _ _ hb9; have fo9 := frozen_of_row w9 go 0 _ _ hb9)
              have HAL9 := Lib.hid hal9
              clear ho9 hg9 hb9 hal9 co9 fo9 co0 cq0 cq1 hOS hrd HNx
              go_roundw
              case rel => exact ⟨k + 1, _, _, _, by go_num, by omega, HAL9⟩
              case measure => simp [intOf]; omega
            · have d0 : ((k : Int) == (n : Int) - 1) = false := by simp [hlast]
              have HLast := Lib.hid (show (allPs (addP P evs))[k]? = some (p.1, p.2) from by
                rw [add_at, HP.out]; simp; rw [← HN.out.2.2.1]; omega)
              clear hlast
              go_upto_region 17 with fail
              obtain ⟨wF, hwF⟩ : ∃ W, W = wE := ⟨_, rfl⟩
              rw [← hwF] at hgE hBE hOE ⊢
              have hqF := hgE
              have hBF := hBE
              have hOF := hOE
              clear hwF cg0 d0 hgE hBE hOE
              have hALF := HAL.out.keep hBF
              have co0 : wF.cell? ⟨go, 0, none⟩ = some (.slice Ak k ck) := cell_of_row wF go 0 _ _ _ hALF.bx
              have cq0 : wF.cell? ⟨gq, 0, none⟩ = some (.int .i64 num) := cell_of_row wF gq 0 _ _ _ hqF
              have cq1 : wF.cell? ⟨gq, 1, none⟩ = some (.slice A7 n' c7) := cell_of_row wF gq 1 _ _ _ hqF
              have hbS : Below wF.heap.size wF (wF.alloc (.cells #[.int .i64 num, .slice A7 n' c7] 66)) := (Below.refl _ _).alloc (Nat.le_refl _) _
              have hS : (wF.alloc (.cells #[.int .i64 num, .slice A7 n' c7] 66)).heap[wF.heap.size]? = some (.cells #[.int .i64 num, .slice A7 n' c7] 66 (0, 0)) := heap_alloc_new _ _
              have hBS := keepB hbS hBF
              have hALS := HAL.out.keep hBS
              have hOS := hALS.own
              have hsS := hALS.aj.b.size
              have hrd := rdQ_one (q := ⟨num, ⟨A7, n', c7⟩⟩) hS
              have hk1 : k + 1 ≤ 1000000 := by have := HN.out; omega
              have hcap := hOF.cap.1
              have hvF : EvG (GE w.heap.size (wF.alloc (.cells #[.int .i64 num, .slice A7 n' c7] 66))) (wF.alloc (.cells #[.int .i64 num, .slice A7 n' c7] 66)) A7 n' p.2 := ((hOF.below hbS).low HAL.out.aj.b.size).evT HEv.out.i
              have hnext := fun A9 c9 W9 => AL.next (A9 := A9) (c9 := c9) (W9 := W9) (num := num) (sl := ⟨A7, n', c7⟩) HAL.out hBS HGo.out.1 HGo.out.2 HLast.out HNum.out hcap hvF HNi.out
              have HNx := Lib.hid hnext
              clear hS hbS hBS hALS hcap hvF hOF hBF hALF hnext hqF
              go_wp2_with (at_builtin; refine wpList_appQ rfl (.tmp 64) (.tmp 66) rfl w.heap.size Ak k ck _ rfl hOS _ wF.heap.size 0 1 1 [⟨num, ⟨A7, n', c7⟩⟩] rfl hrd rfl hk1 hsS ?_; intro A9 c9 w9 ho9 hg9; obtain ⟨hb9, hal9⟩ := HNx.out A9 c9 w9 ho9 hg9; have co9 : w9.cell? ⟨go, 0, none⟩ = some (.slice Ak k ck) := cell_of_row w9 go 0 _ _ _ hb9; have fo9 := frozen_of_row w9 go 0 _ _ hb9)
              have HAL9 := Lib.hid hal9
              clear ho9 hg9 hb9 hal9 co9 fo9 co0 cq0 cq1 hOS hrd HNx
              go_roundw
              case rel => exact ⟨k + 1, _, _, _, by go_num, by omega, HAL9⟩
              case measure => simp [intOf]; omega
        · obtain rfl : k = n := by omega
          have hszk := jsize Ak k ck x
          have honek := jone Ak k ck x
          have hg9 := HAL.out.bx
          have hr9 := HAL.out.aj.r
          have HF := Lib.hid (show MG (NewG (fun _ => False) w (wr.setRow gr #[.slice Ak k ck, .int .i64 x])) (wr.setRow gr #[.slice Ak k ck, .int .i64 x]) Ak k ck qk (addP P evs) ∧ Below w.heap.size w (wr.setRow gr #[.slice Ak k ck, .int .i64 x]) from by
            have hpt := HAL.out.pt
            rw [List.take_of_length_le (by rw [add_len, ← HN.out.2.2.1]; exact Nat.le_refl _)] at hpt
            have hsame : ∀ (b : Nat) (cur : Array Value), wr.heap[b]? = some (.cells cur 41 (0, 0)) → (wr.setRow gr #[.slice Ak k ck, .int .i64 x]).heap[b]? = wr.heap[b]? := fun b cur hc => setRow_other wr gr b _ (fun e => by
              subst e
              exact absurd (ty_same hc hr9) (by decide))
            refine ⟨MG.made (HAL.out.own.cap) (HAL.out.own.row hr9 _) ((hpt.ge hsame).wide fun b ⟨h1, cur, h2⟩ => ⟨(Array.getElem?_eq_some_iff.1 h2).1, .inr h1⟩), below_setRow HAL.out.aj.b gr _ (by have := HG.out; omega)⟩)
          go_wp2_with (first
            | (refine wpList_load_row rfl 29 (.tmp 9) rfl go rfl 29 _ (0, 0) _ hg9 Try.underlying29 rfl hszk ?_)
            | (refine wpList_store_row rfl 29 (.tmp 4) (.tmp 70) rfl gr _ rfl rfl 29 _ hr9 hszk rfl honek ?_))
          refine bodyPost_ret (v := .tuple #[.agg #[.slice Ak k ck, .int .i64 x], .int .i64 0]) ?_ rfl ⟨fun h0 => absurd HC6.out h0, fun _ => ⟨Ak, ck, qk, rfl, HF.out.1, HF.out.2⟩⟩
          exact results_cell_tmp (ty := 29) (p := 4) (q := 5) (by kernel_rfl) _ _ gr 29 _ (0, 0) _ rfl (setRow_heap _ _ _ _ _ _ hr9) Try.underlying29 rfl hszk
end Go.Proofs.Ytncmfkmgaghklaa
