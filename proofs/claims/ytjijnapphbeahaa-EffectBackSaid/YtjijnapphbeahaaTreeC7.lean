/- Layer 6: contracts of effect's put and Bytes. -/
import Derived.Test.YtjijnapphbeahaaTreeTake
import Derived.Test.YtjijnapphbeahaaWireC
namespace Go.Proofs.Ytjijnapphbeahaa
open Go.RowKit Ex Wx
/-- append of any slice of numbers to one of the call's own, with where it lies then. -/
theorem run_appG {P : Program} (w : World) (k : IntKind) (base : Nat) (t ty e : TypeId) (i : TypeInfo) (z : Value) (bytes : Nat) (ht : P.underlying t = some (.slice e)) (hi : P.info? e = some i) (hz : i.zero = some z)
    (hsize : i.size = 1) (hby : i.bytes = bytes) (hzs : z.cells.size = 1)
    {A : Option Addr} {n c : Nat} {l : List Int} (hown : Own k e w base A n c l) {B : Nat} {A2 : Option Addr} {m c2 : Nat} {l2 : List Int} (h2 : Nums k w B A2 m l2)
    (hsm : n + m ≤ 4294967296) (hb8 : bytes ≤ 8) (hbase : base ≤ w.heap.size) :
    ∃ A' c' w', (Builtin.append_ #[t, t] ty #[.slice A n c, .slice A2 m c2]).run P w = .ok (.slice A' (n + m) c') w' ∧ Own k e w' base A' (n + m) c' (l ++ l2) ∧ w.grownBy w' (Value.slice A n c).ownBlock ∧
      ((Value.slice A' (n + m) c').ownBlock = (Value.slice A n c).ownBlock ∨ (Value.slice A' (n + m) c').ownBlock = some w.heap.size) := by
  have hlen : (l ++ l2).length = n + m := by rw [List.length_append, hown.1, h2.1]
  rcases A2 with _ | ad
  · have hl2 : l2 = [] := by
      cases l2 with
      | nil => rfl
      | cons x r => obtain ⟨a, e, _⟩ := h2.2 0 x (by simp); cases e
    subst hl2
    obtain rfl : m = 0 := by have := h2.1; simpa using this.symm
    exact ⟨A, c, w, run_app_nil w base t ty e i ht hi _ n _ hown.2 c2, by simpa using hown, World.grownBy.refl w _, .inl rfl⟩
  · obtain ⟨v', w', hrun, h3, h4, _, h5⟩ := run_append_own_at (P := P) w base t ty e i z 1 bytes ht hi hz hsize hby hzs (by omega) (.slice A n c) n (l.map (Value.int k)) hown.2 ad m c2 (l2.map (Value.int k))
      (by rw [List.length_map, h2.1]; omega)
      (fun j u hj => by
        rw [List.getElem?_map, Option.map_eq_some_iff] at hj
        obtain ⟨x, hx, rfl⟩ := hj
        obtain ⟨a, ea, _, hc⟩ := h2.2 j x hx
        injection ea with ea
        subst ea
        exact hc) (ints_one k l2) (by unfold maxLen; omega)
      (by have : (n + m) * bytes ≤ 4294967296 * 8 := Nat.mul_le_mul hsm hb8
          omega) hbase
    rw [← List.map_append] at h3
    rcases h3.2 with ⟨rfl, hn⟩ | ⟨g, cap, cur, rfl, rest⟩
    · rw [hn] at h3 ⊢
      refine ⟨none, 0, w', hrun, ⟨by omega, h3⟩, h4, h5⟩
    · exact ⟨_, cap, w', hrun, ⟨hlen, h3⟩, h4, h5⟩
theorem wpList_appG {P : Program} {w : World} {ops : Array Oper} {rest : List Oper} {o : Oper} {a : Act} {Q : Exit → Act → World → Prop} (hgd : o.guard = none) (s x : Operand) (t : TypeId)
    (ho : o.op = .call { callee := .builtin .append, args := #[s, x], argTypes := #[t, t] })
    (k : IntKind) (base : Nat) (e : TypeId) (i : TypeInfo) (z : Value) (bytes : Nat) (ht : P.underlying t = some (.slice e)) (hi : P.info? e = some i) (hz : i.zero = some z)
    (hsize : i.size = 1) (hby : i.bytes = bytes) (hzs : z.cells.size = 1)
    (A : Option Addr) (n c : Nat) (l : List Int) (hs : a.eval s = .slice A n c) (hown : Own k e w base A n c l)
    (B : Nat) (A2 : Option Addr) (m c2 : Nat) (l2 : List Int) (hx : a.eval x = .slice A2 m c2) (h2 : Nums k w B A2 m l2)
    (hsm : n + m ≤ 4294967296) (hb8 : bytes ≤ 8) (hbase : base ≤ w.heap.size)
    (h : ∀ A' c' w', Own k e w' base A' (n + m) c' (l ++ l2) → w.grownBy w' (Value.slice A n c).ownBlock → ((Value.slice A' (n + m) c').ownBlock = (Value.slice A n c).ownBlock ∨ (Value.slice A' (n + m) c').ownBlock = some w.heap.size) →
      wpList P ops Q rest (a.put o.dst (.slice A' (n + m) c')) w') :
    wpList P ops Q (o :: rest) a w := by
  refine wpList_plain hgd fun K hK => ?_
  obtain ⟨A', c', w', hr, h3, h4, h5⟩ := run_appG (P := P) w k base t o.type e i z bytes ht hi hz hsize hby hzs hown (c2 := c2) h2 hsm hb8 hbase
  unfold Oper.wp execOp
  simp only [ho, resolve, invoke, builtin, Sem.run_bind, Sem.run_pure, Result.andThen_ok, List.map_toArray, List.map_cons, List.map_nil, hs, hx, hr]
  exact hK _ _ (h A' c' w' h3 h4 h5)
theorem grown_trans {w wr wr' : World} {row0 row1 : Option Nat} (h : w.grownBy wr row0) (h1 : wr.grownBy wr' row1) (hr : ∀ g, row1 = some g → some g = row0 ∨ w.heap.size ≤ g) : w.grownBy wr' row0 :=
  ⟨h1.os.trans h.os, h1.tape.trans h.tape, h1.output.trans h.output, Nat.le_trans h.size h1.size, fun k hk hne => (h1.block k (by have := h.size; omega) (fun e => by
    rcases hr k e.symm with h2 | h2
    · exact hne h2
    · omega)).trans (h.block k hk hne)⟩
/-- Bytes of the call's own, from base on; since w nothing but row0's block has turned, and they lie there or in a new one. -/
structure OG (w : World) (base : Nat) (row0 : Option Nat) (A : Option Addr) (n c : Nat) (l : List Int) (wr : World) : Prop where
  own : Own .u8 5 wr base A n c l
  gr : w.grownBy wr row0
  at_ : ∀ g, (Value.slice A n c).ownBlock = some g → some g = row0 ∨ w.heap.size ≤ g
theorem OG.start {w : World} {base : Nat} {A : Option Addr} {n c : Nat} {l : List Int} (h : Own .u8 5 w base A n c l) : OG w base (Value.slice A n c).ownBlock A n c l w := ⟨h, World.grownBy.refl _ _, fun _ e => .inl e.symm⟩
section
variable {w wr wr' : World} {base n c m c' : Nat} {row0 : Option Nat} {A A' : Option Addr} {l l' : List Int}
theorem OG.keep (h : OG w base row0 A n c l wr) (hb : Below wr.heap.size wr wr') : OG w base row0 A n c l wr' :=
  ⟨h.own.below hb (Nat.le_refl _), grown_trans (row1 := none) h.gr ⟨hb.os, hb.tape, hb.output, hb.size, fun k hk _ => hb.block k hk⟩ (fun g e => by cases e), h.at_⟩
theorem OG.trans (h : OG w base row0 A n c l wr) (h' : OG wr base (Value.slice A n c).ownBlock A' m c' l' wr') : OG w base row0 A' m c' l' wr' :=
  ⟨h'.own, grown_trans h.gr h'.gr h.at_, fun g e => by
    rcases h'.at_ g e with h1 | h1
    · exact h.at_ g h1.symm
    · exact .inr (by have := h.gr.size; omega)⟩
theorem OG.grow (h : OG w base row0 A n c l wr) (ho : Own .u8 5 wr' base A' m c' l') (hg : wr.grownBy wr' (Value.slice A n c).ownBlock)
    (ha : (Value.slice A' m c').ownBlock = (Value.slice A n c).ownBlock ∨ (Value.slice A' m c').ownBlock = some wr.heap.size) : OG w base row0 A' m c' l' wr' :=
  h.trans ⟨ho, hg, fun g e => by
    rcases ha with ha | ha
    · exact .inl (by rw [← ha, e])
    · rw [ha] at e; injection e with e; exact .inr (by omega)⟩
theorem OG.below (h : OG w base row0 A n c l wr) (hb : base ≤ w.heap.size) (hr : ∀ g, row0 = some g → base ≤ g) : Below base w wr := (Below.refl _ _).grown h.gr hb hr
end
def PutPost (A : Option Addr) (n c : Nat) (bs : List Int) (t : ET) (base : Nat) (w : World) (e : Ending) (w' : World) : Prop :=
  ∃ A' m c', e = .returned (.slice A' m c') ∧ OG w base (Value.slice A n c).ownBlock A' m c' (bs ++ btT t) w'
def P1Rel (w1 : World) (base : Nat) (row0 : Option Nat) (bs xs : List Int) (v i : Value) (wr : World) : Prop :=
  ∃ A m c k, v = .slice A m c ∧ i = .int .i64 ((k : Nat) : Int) ∧ k ≤ 5 ∧ OG w1 base row0 A m c (bs ++ btsL (xs.take k)) wr
def P2Rel (w1 : World) (base : Nat) (row0 : Option Nat) (bs : List Int) (l : List ET) (v i : Value) (wr : World) : Prop :=
  ∃ A m c k, v = .slice A m c ∧ i = .int .i64 ((k : Nat) : Int) ∧ k ≤ l.length ∧ OG w1 base row0 A m c (bs ++ btL (l.take k)) wr
theorem btsL_len (l : List Int) : (btsL l).length ≤ 10 * l.length := by
  induction l with
  | nil => simp [btsL]
  | cons x l ih => have := (bts_len x).2; simp only [btsL, List.length_append, List.length_cons]; omega
theorem index_lit (a b c d e : Int) (k : Nat) (hk : k < 5) (W : World) : (Instr.index 60 (.agg #[.int .i64 a, .int .i64 b, .int .i64 c, .int .i64 d, .int .i64 e]) (.int .i64 (k : Int))).run Try.prog W = .ok (.int .i64 ([a, b, c, d, e].getD k 0)) W := by
  match k, hk with
  | 0, _ => exact (show (Instr.index 60 (.agg #[.int .i64 a, .int .i64 b, .int .i64 c, .int .i64 d, .int .i64 e]) (.int .i64 0)).run Try.prog W = .ok (.int .i64 a) W by kernel_rfl)
  | 1, _ => exact (show (Instr.index 60 (.agg #[.int .i64 a, .int .i64 b, .int .i64 c, .int .i64 d, .int .i64 e]) (.int .i64 1)).run Try.prog W = .ok (.int .i64 b) W by kernel_rfl)
  | 2, _ => exact (show (Instr.index 60 (.agg #[.int .i64 a, .int .i64 b, .int .i64 c, .int .i64 d, .int .i64 e]) (.int .i64 2)).run Try.prog W = .ok (.int .i64 c) W by kernel_rfl)
  | 3, _ => exact (show (Instr.index 60 (.agg #[.int .i64 a, .int .i64 b, .int .i64 c, .int .i64 d, .int .i64 e]) (.int .i64 3)).run Try.prog W = .ok (.int .i64 d) W by kernel_rfl)
  | 4, _ => exact (show (Instr.index 60 (.agg #[.int .i64 a, .int .i64 b, .int .i64 c, .int .i64 d, .int .i64 e]) (.int .i64 4)).run Try.prog W = .ok (.int .i64 e) W by kernel_rfl)
set_option linter.unusedSimpArgs false in
set_option maxRecDepth 100000 in
set_option maxHeartbeats 2000000 in
theorem put_eff : ∀ (d : Nat) (t : ET) (cs : Array Value) (w : World) (base : Nat) (A0 : Option Addr) (n0 c0 : Nat) (bs : List Int), Reads base w d cs t → base ≤ w.heap.size → Own .u8 5 w base A0 n0 c0 bs → n0 + 50 * sizeT t ≤ 60000000 →
    Calls Try.prog 34 #[.slice A0 n0 c0, .agg cs] w (PutPost A0 n0 c0 bs t base w) := by
  intro d
  obtain ⟨i0, hi, hz0, hz1, hz2⟩ := info_parts info_u8
  induction d with
  | zero => exact fun t cs w _ _ _ _ _ h => absurd h id
  | succ d ih =>
    intro t cs w base A0 n0 c0 bs hr hbase hown hsz
    obtain ⟨op, n, m, who, l⟩ := t
    obtain ⟨i1, i2, i3, i4, A, c, hcs, hl, hc, hx⟩ := hr
    have HX := Lib.hid hx
    have HCs := Lib.hid hcs
    have hlen := sizeL_len l
    simp only [sizeT] at hsz
    have hil : i64B (l.length : Int) := ⟨by omega, by omega⟩
    have hrow : ∀ g, (Value.slice A0 n0 c0).ownBlock = some g → base ≤ g ∧ g < w.heap.size := fun g hg => hown.2.lt g hg
    have hn0 := hown.len
    have HO0 := Lib.hid hown
    clear hx hcs hown
    go_enter Try.func34, Try.ntmps34
    go_upto_region 1 with fail
    obtain ⟨w1, hw1⟩ : ∃ w1, w1 = w.alloc (.cells cs 24) := ⟨_, rfl⟩
    have HE := Lib.hid (show EvAt w1 w.heap.size cs by rw [hw1]; exact EvAt.new _ _)
    have hb1 : Below w.heap.size w w1 := by rw [hw1]; exact (Below.refl _ _).alloc (Nat.le_refl _) _
    rw [← hw1]
    clear hw1
    have hs1 := hb1.size
    have k0 : w1.cell? ⟨w.heap.size, 0, none⟩ = some (.int .i64 op) := by rw [HE.out.cell, HCs.out]; rfl
    have k1 : w1.cell? ⟨w.heap.size, 1, none⟩ = some (.int .i64 n) := by rw [HE.out.cell, HCs.out]; rfl
    have k2 : w1.cell? ⟨w.heap.size, 2, none⟩ = some (.int .i64 m) := by rw [HE.out.cell, HCs.out]; rfl
    have k3 : w1.cell? ⟨w.heap.size, 3, none⟩ = some (.int .i64 who) := by rw [HE.out.cell, HCs.out]; rfl
    have k4 : w1.cell? ⟨w.heap.size, 4, none⟩ = some (.slice A l.length c) := by rw [HE.out.cell, HCs.out]; rfl
    go_upto_region 2 with fail
    clear k0 k1 k2 k3 k4
    obtain ⟨xs, hxs⟩ : ∃ xs : List Int, xs = [op, n, m, who, (l.length : Int)] := ⟨_, rfl⟩
    have HIx := Lib.hid (fun k hk W => index_lit op n m who (l.length : Int) k hk W)
    rw [← hxs] at HIx
    have hxl : xs.length = 5 := by rw [hxs]; rfl
    have HXi := Lib.hid (show ∀ x ∈ xs, i64B x by
      intro x hx
      rw [hxs] at hx
      simp at hx
      rcases hx with rfl | rfl | rfl | rfl | rfl
      · exact i1
      · exact i2
      · exact i3
      · exact i4
      · exact hil)
    have HHd := Lib.hid (show btT (.node op n m who l) = btsL xs ++ btL l by rw [hxs]; simp [btT, hdT, btsL])
    obtain ⟨row0, hrow0⟩ : ∃ r, r = (Value.slice A0 n0 c0).ownBlock := ⟨_, rfl⟩
    have HO1 := Lib.hid (show OG w1 base row0 A0 n0 c0 (bs ++ btsL (xs.take 0)) w1 by
      have h := OG.start (HO0.out.below hb1 (Nat.le_refl _))
      rw [← hrow0] at h
      simpa [btsL] using h)
    rw [← hrow0] at hrow
    have HRow := Lib.hid hrow0
    clear hxs i1 i2 i3 i4 hil hrow0
    go_loopw [0, 21] (fun v i wr => P1Rel w1 base row0 bs xs v i wr) (fun _ i _ => 5 - (intOf i).toNat)
    case atStart => exact ⟨A0, n0, c0, 0, rfl, rfl, by omega, HO1.out⟩
    case round =>
      obtain ⟨A4, m4, c4, k, rfl, rfl, hk, hog⟩ := hrel
      have HG := Lib.hid hog
      have hm4 := hog.own.len
      have hbl := btsL_len (xs.take k)
      rw [List.length_take] at hbl
      simp only [List.length_append] at hm4
      have hm4b : m4 ≤ n0 + 50 := by omega
      have hs4 := hog.gr.size
      clear hog hm4 hbl HO1
      by_cases hlt : k < 5
      · obtain ⟨x, hx⟩ : ∃ x, xs[k]? = some x := ⟨_, List.getElem?_eq_getElem (by omega)⟩
        have hxe : xs.getD k 0 = x := by rw [List.getD, hx]; rfl
        have hxi := HXi.out x (List.mem_of_getElem? hx)
        have HN := Lib.hid (btsL_take xs k x hx).1
        have hd : decide ((k : Int) < 5) = true := by simp; omega
        have hget := fun W => HIx.out k hlt W
        rw [hxe] at hget
        clear hxe hx
        go_wp2_with fail
        refine (put_any none 0 0 [] x hxi wr 0 Nums.none_ (Nat.zero_le _) (by omega)).mono ?_
        rintro e w5 ⟨A5, m5, c5, rfl, hown5, hb5⟩
        rw [List.nil_append] at hown5
        have hm5 : m5 ≤ 10 := by have := hown5.len; have := (bts_len x).2; omega
        have hog5 := HG.out.keep hb5
        have hs5 := hb5.size
        go_wp2_with (at_builtin; refine wpList_appG rfl (.tmp 24) (.tmp 26) _ rfl .u8 base 5 i0 _ 1 Try.underlying37 hi hz0 hz1 hz2 rfl _ _ _ _ rfl hog5.own _ A5 m5 c5 _ rfl hown5.nums (by omega) (by omega) (by omega) ?_; intro A6 c6 w6 hown6 hg6 ha6)
        have HG6 := Lib.hid (hog5.grow hown6 hg6 ha6)
        clear hown6 hg6 hown5 hog5 ha6 hb5 hget
        go_roundw
        case rel => exact ⟨A6, _, c6, k + 1, rfl, by go_num, by omega, by rw [HN.out, ← List.append_assoc]; exact HG6.out⟩
        case measure => simp [intOf]; omega
      · obtain rfl : k = 5 := by omega
        rw [show ((5 : Nat) : Int) = (5 : Int) from rfl]
        have hE5 : EvAt wr w.heap.size cs := (HG.out.gr.block w.heap.size HE.out.lt (fun e => by have := (hrow w.heap.size e.symm).2; omega)).trans HE.out
        have k4 : wr.cell? ⟨w.heap.size, 4, none⟩ = some (.slice A l.length c) := by rw [hE5.cell, HCs.out]; rfl
        rw [List.take_of_length_le (by omega)] at HG
        have HG2 := Lib.hid (show OG w1 base row0 A4 m4 c4 ((bs ++ btsL xs) ++ btL (l.take 0)) wr by simpa [btL] using HG.out)
        obtain ⟨bs2, hbs2⟩ : ∃ b, b = bs ++ btsL xs := ⟨_, rfl⟩
        rw [← hbs2] at HG2
        have hbs2l : bs2.length ≤ n0 + 50 := by rw [hbs2, List.length_append]; have := btsL_len xs; omega
        have HB2 := Lib.hid hbs2
        clear hE5 hbs2 HG
        go_upto_region 7 with fail
        clear k4
        go_loopw [0, 32] (fun v i wr => P2Rel w1 base row0 bs2 l v i wr) (fun _ i _ => l.length - (intOf i).toNat)
        case atStart => exact ⟨A4, m4, c4, 0, rfl, rfl, by omega, HG2.out⟩
        case round =>
          obtain ⟨A4, m4, c4, k, rfl, rfl, hk, hog⟩ := hrel
          have HG := Lib.hid hog
          have hm4 := hog.own.len
          have hbl := btL_len (l.take k)
          have hst := sizeL_take_le l k
          simp only [List.length_append] at hm4
          have hs4 := hog.gr.size
          have hbelow := hog.below (by omega) (fun g e => (hrow g e).1)
          clear hog HG2
          by_cases hlt : k < l.length
          · obtain ⟨t, ht⟩ : ∃ t, l[k]? = some t := ⟨_, List.getElem?_eq_getElem hlt⟩
            obtain ⟨b, o, ys, rfl, hbb, hra, hrx⟩ := HX.out k t ht
            have hd : decide ((k : Int) < (l.length : Int)) = true := by simp; omega
            have hts := size_mem ht
            have hst1 := sizeL_take l k t ht
            have hst2 := sizeL_take_le l (k + 1)
            have HN := Lib.hid (btL_take l k t ht)
            have hkr : k < 100000000 := by omega
            have hm4b : m4 + 50 * sizeT t ≤ 60000000 := by omega
            have hbel := (hb1.mono hbase).trans hbelow
            have hys := hrx.size
            have hy1 := hrx.one
            have hsx : (Try.prog.info? 24).map (·.size) = some ys.size := by rw [hys]; exact size5
            have hraw := rangeAt_below hbel hbb hra
            have hnew : (wr.alloc (.cells zeroE 24)).heap[wr.heap.size]? = some (.cells zeroE 24 (0, 0)) := heap_alloc_new _ _
            clear hst hst1 hst2 hbl hm4
            go_upto_region 9 with (first
              | (refine load_sub rfl (.tmp 34) rfl b (o + k * 5) rfl ys hys hraw ?_)
              | (refine wpList_store_row rfl 24 (.tmp 8) (.tmp 35) rfl wr.heap.size _ rfl rfl 24 zeroE hnew hsx (by rw [hys]; rfl) hy1 ?_))
            obtain ⟨wn, hwn, hEn, hbn⟩ := ev_box wr (xs := ys)
            rw [← hwn]
            clear hwn hnew hraw hy1
            have hogn := HG.out.keep hbn
            have hsn := hbn.size
            have hrn := hrx.keep (hbel.trans (hbn.mono (by omega)))
            go_wp2_with (refine wpList_load_row rfl 24 (.tmp 8) rfl wr.heap.size rfl 24 _ (0, 0) _ hEn Try.underlying24 rfl hsx ?_)
            refine (ih t ys wn base A4 m4 c4 _ hrn (by omega) hogn.own hm4b).mono ?_
            rintro e w5 ⟨A5, m5, c5, rfl, hog5⟩
            have HG6 := Lib.hid (hogn.trans hog5)
            clear hrn hbn hogn hog5 hts hd hbelow hbel hEn
            go_wp2_with fail
            go_roundw
            case rel => exact ⟨A5, m5, c5, k + 1, rfl, by go_num, by omega, by rw [HN.out, ← List.append_assoc]; exact HG6.out⟩
            case measure => simp [intOf]; omega
          · obtain rfl : k = l.length := by omega
            have hd : decide ((l.length : Int) < (l.length : Int)) = false := by simp
            rw [List.take_length] at HG
            have HF := Lib.hid (show OG w base (Value.slice A0 n0 c0).ownBlock A4 m4 c4 (bs ++ btT (.node op n m who l)) wr by
              have h := HG.out
              rw [← HRow.out]
              refine ⟨by rw [HHd.out, ← List.append_assoc, ← HB2.out]; exact h.own, grown_trans (row1 := row0) ⟨hb1.os, hb1.tape, hb1.output, hb1.size, fun k hk _ => hb1.block k hk⟩ h.gr (fun g e => .inl e.symm), fun g e => ?_⟩
              rcases h.at_ g e with h1 | h1
              · exact .inl h1
              · exact .inr (by omega))
            clear hbl hst hm4
            go_wp2_with fail
            go_ret
            exact ⟨A4, m4, c4, rfl, HF.out⟩
theorem bytes_eff (d : Nat) (t : ET) (cs : Array Value) (w : World) (hr : Reads w.heap.size w d cs t) (hs : sizeT t ≤ 1000000) : Calls Try.prog 20 #[.agg cs] w (MadeB .u8 5 w w.heap.size (btT t)) := by
  have hsx : (Try.prog.info? 24).map (·.size) = some cs.size := by rw [hr.size]; exact size5
  go_enter Try.func20, Try.ntmps20
  go_upto_region 1 with fail
  obtain ⟨w1, hw1⟩ : ∃ w1, w1 = w.alloc (.cells cs 24) := ⟨_, rfl⟩
  have HE := Lib.hid (show EvAt w1 w.heap.size cs by rw [hw1]; exact EvAt.new _ _)
  have hb1 : Below w.heap.size w w1 := by rw [hw1]; exact (Below.refl _ _).alloc (Nat.le_refl _) _
  rw [← hw1]
  clear hw1
  have hE := HE.out
  go_wp2_with (refine wpList_load_row rfl 24 (.tmp 1) rfl w.heap.size rfl 24 _ (0, 0) _ hE Try.underlying24 rfl hsx ?_)
  refine (put_eff d t cs w1 w.heap.size none 0 0 [] (hr.keep hb1) hb1.size (Own.nil _) (by omega)).mono ?_
  rintro e w2 ⟨A2, m2, c2, rfl, hog⟩
  rw [List.nil_append] at hog
  have HG := Lib.hid hog
  clear hog
  go_wp2_with fail
  go_ret
  exact ⟨A2, m2, c2, rfl, HG.out.own, hb1.trans (HG.out.below hb1.size (fun g e => by cases e))⟩
end Go.Proofs.Ytjijnapphbeahaa
