/- Layer 13: the code's net of a span. -/
import Derived.Test.YtmneajmedopheaaNtC3
import Derived.Test.YtmneajmedopheaaNtC4
import Derived.Test.YtmneajmedopheaaNtDf
namespace Go.Proofs.Ytmneajmedopheaa
open Go.RowKit Ex Go.Maps
set_option maxRecDepth 100000
/-- The span's events so far. -/
def spN (l : List EvT) : NtT := foldN nt0 l
theorem spN_snoc (l : List EvT) (e : EvT) : spN (l ++ [e]) = stepN (spN l) e := foldN_snoc _ _ _
theorem spN_move {l : List EvT} {e : EvT} (hc : isCut e = false) (hs : isSet e = false) : (spN (l ++ [e])).m = (spN l).m ++ [e] ∧ (spN (l ++ [e])).f = (spN l).f := by
  rw [spN_snoc]; unfold stepN; rw [if_neg (by simp [hc]), if_neg (by simp [hs])]; exact ⟨rfl, rfl⟩
theorem spN_set {l : List EvT} {e : EvT} (hc : isCut e = false) (hs : isSet e = true) : (spN (l ++ [e])).m = (spN l).m ∧ (spN (l ++ [e])).f = insE (spN l).f e := by
  rw [spN_snoc]; unfold stepN; rw [if_neg (by simp [hc]), if_pos hs]; exact ⟨rfl, rfl⟩
theorem spN_len (l : List EvT) : (spN l).m.length + (spN l).f.length ≤ l.length := by have := (ntI l).n; unfold spN; omega
/-- What a span's call answers. -/
def SpP (w : World) (base : Nat) (l : List EvT) (en : Ending) (w' : World) : Prop := ∃ A n c, en = .returned (.slice A n c) ∧ OwnV w' base A n c l ∧ Below base w w'
theorem set_last (f : List EvT) (x : EvT) : (f ++ [x]).set f.length { x with d := x.d } = f ++ [x] := by
  rw [List.set_append_right _ _ (Nat.le_refl _), Nat.sub_self]; rfl
set_option linter.unusedSimpArgs false in
set_option maxHeartbeats 0 in
theorem span_code (Al : Option Addr) (nl cl : Nat) (l : List EvT) (w : World) (hr : RdV w.heap.size w Al l) (hnl : nl = l.length)
    (hi : ∀ e ∈ l, EvI e) (hcut : ∀ e ∈ l, isCut e = false) (hn : nl ≤ 1000) : Calls Try.prog 25 #[.slice Al nl cl] w (SpP w w.heap.size ((spN l).m ++ finE (spN l).f)) := by
  have HR := Lib.hid hr
  have HI := Lib.hid hi
  have HCu := Lib.hid hcut
  have HNl := Lib.hid hnl
  have HB0 := Lib.hid hn
  have hnl1 : nl ≤ 1000 := by omega
  have hmm := @run_makeMap Try.prog
  obtain ⟨base, hbase⟩ : ∃ base, base = w.heap.size := ⟨_, rfl⟩
  clear hr hi hcut hnl hn
  go_enter Try.func25, Try.ntmps25
  go_upto_region 4 with fail
  clear hmm
  have HS0 := Lib.hid (show SpI base w.heap.size [] none 0 0 none 0 0 (.map []) (spN (l.take 0)).m (spN (l.take 0)).f w (w.alloc (.map #[] 0)) from by
    have hb : Below w.heap.size w (w.alloc (.map #[] 0)) := (Below.refl _ _).alloc (Nat.le_refl _) _
    exact ⟨by rw [hbase]; exact hb, ownV_nil _ _, ownV_nil _ _, World.ownsMap_made _ _ _ _, MapF.nil, fun j _ h => (by cases h), Nat.le_of_eq hbase, List.Pairwise.nil⟩)
  obtain ⟨gm, hgm⟩ : ∃ g, g = w.heap.size := ⟨_, rfl⟩
  rw [← hgm] at HS0
  rw [← hgm]
  rw [← hbase] at HR
  have HBase := Lib.hid hbase
  clear hgm hbase
  go_loopw [3, 4, 13] (fun o s i wr => ∃ (k n c ns cs : Nat) (A As : Option Addr) (D : DataW Unit), i = .int .i64 ((k : Nat) : Int) ∧ o = .slice A n c ∧ s = .slice As ns cs ∧ k ≤ nl ∧ Hid (SpI base gm [] A n c As ns cs D (spN (l.take k)).m (spN (l.take k)).f w wr)) (fun _ _ i _ => nl - (intOf i).toNat)
  case atStart => exact ⟨0, 0, 0, 0, 0, none, none, .map [], rfl, rfl, rfl, by omega, HS0⟩
  case round =>
    clear HS0
    obtain ⟨k, n, c, ns, cs, A, As, D, rfl, rfl, rfl, hk, HS⟩ := hrel
    have HLn := Lib.hid (show n + ns ≤ k from by
      have h1 := HS.out.ho.len
      have h2 := HS.out.hf.len
      have h3 := spN_len (l.take k)
      rw [List.nil_append] at h1
      rw [List.length_take] at h3
      omega)
    by_cases hlt : k < nl
    · have hlt' : k < l.length := by rw [← HNl.out]; exact hlt
      obtain ⟨b1, o1, ea, hb1, g1⟩ := HR.out.at_ hlt'
      subst ea
      have G1 := Lib.hid (range_below HS.out.b hb1 g1)
      have hxi := HI.out l[k] (List.getElem_mem hlt')
      have hxc := HCu.out l[k] (List.getElem_mem hlt')
      obtain ⟨x, hx⟩ : ∃ x, x = l[k] := ⟨_, rfl⟩
      rw [← hx] at G1 hxi hxc
      have HX := Lib.hid (take_snoc (show l[k]? = some x by rw [hx]; exact List.getElem?_eq_getElem hlt'))
      have HXi := Lib.hid (And.intro hxi hxc)
      have p0 : (0 : Int) ≤ (k : Int) := by omega
      have p1 : (k : Int) < (nl : Int) := by omega
      have HAs := Lib.hid (fun j hj => (HS.out.hf.o.lt j hj).2)
      clear hx g1 hb1 hlt' hxi hxc
      have hsz := ev_size x
      have hone := evC_one x
      have hs6 : (evC ev0).size = (evC x).size := rfl
      have hz6 := ev0_is
      have hnew : (World.alloc wr (.cells (evC ev0) 45)).heap[(World.heap wr).size]? = some (.cells (evC ev0) 45 (0, 0)) := heap_alloc_new _ _
      obtain ⟨es, hes⟩ : ∃ es, es = evC x := ⟨_, rfl⟩
      have hev : evV x = .agg es := by rw [hes]; rfl
      have HEs := Lib.hid hes
      rw [← hes] at hsz hs6 hone
      clear hes
      go_upto_region 6 with (first
        | (refine load_evm rfl (.tmp 15) rfl b1 (o1 + k * 6) rfl x G1.out ?_; rw [hev])
        | (refine wpList_store_row rfl 45 (.tmp 7) (.tmp 16) rfl (World.heap wr).size _ rfl rfl 45 (evC ev0) hnew hsz hs6 hone ?_))
      rw [HEs.out]
      clear hnew hsz hs6 hone hz6 hev HEs es
      obtain ⟨w4, hw4, he4, hb4⟩ := ev_box wr x
      rw [← hw4]
      obtain ⟨ge, hge⟩ : ∃ g, g = (World.heap wr).size := ⟨_, rfl⟩
      rw [← hge] at he4
      rw [← hge]
      have HGge := Lib.hid hge
      clear hw4 hge
      have HS4 := Lib.hid (HS.out.keep hb4)
      clear HS hb4 G1
      go_wp2_with (refine load_ev (by rfl) (.tmp 7) rfl ge rfl x he4 ?_)
      refine (sets_any x w4).mono ?_
      rintro en w5 ⟨rfl, hb5⟩
      have HS5 := Lib.hid (HS4.out.keep hb5)
      have he5 := he4.keep hb5
      rw [show (decide (2 ≤ x.k) && decide (x.k ≤ 4)) = isSet x from rfl]
      clear HS4 he4 hb5
      obtain ⟨q, hq⟩ : ∃ q, q = isSet x := ⟨_, rfl⟩
      rw [← hq]
      cases q with
      | false =>
        have HP := Lib.hid (spN_move (l := l.take k) HXi.out.2 hq.symm)
        clear hq
        have hb6 : Below w5.heap.size w5 (w5.alloc (.cells (evC x) 45)) := (Below.refl _ _).alloc (Nat.le_refl _) _
        have hE6 : EvB (w5.alloc (.cells (evC x) 45)) w5.heap.size x := heap_alloc_new _ _
        have HS6 := Lib.hid (HS5.out.keep hb6)
        have hO6 := HS6.out.ho
        have hR6 := rdV_one hE6
        have hsz6 := HS6.out.size
        have hn1 : n + 1 ≤ 1000000 := by have := HLn.out; have := HB0.out; omega
        clear hb6 hE6 HS5 HAs
        go_wp2_with (first
          | (refine load_ev (by rfl) (.tmp 7) rfl ge rfl x he5 ?_)
          | (refine wpList_buildSliceEv rfl (.tmp 21) rfl x rfl ?_)
          | (at_builtin; refine wpList_appVG rfl (.tmp 20) (.tmp 22) rfl base A n c _ rfl hO6 _ _ 1 1 [x] rfl hR6 rfl hn1 hsz6 ?_; intro A7 c7 w7 ho7 hg7 hat7))
        have HS7 := Lib.hid (show SpI base gm [] A7 (n + 1) c7 As ns cs D (spN (l.take (k + 1))).m (spN (l.take (k + 1))).f w w7 from by
          rw [HX.out, HP.out.1, HP.out.2]
          exact HS6.out.addO (by rw [← List.append_assoc]; exact ho7) hg7 hat7)
        clear ho7 hg7 hat7 hO6 hR6 he5
        go_roundw
        case rel => exact ⟨k + 1, _, _, _, _, _, _, _, by go_num, rfl, rfl, by omega, HS7⟩
        case measure => simp [intOf]; omega
      | true =>
        have HP := Lib.hid (spN_set (l := l.take k) HXi.out.2 hq.symm)
        clear hq
        go_wp2_with (refine load_ev (by rfl) (.tmp 7) rfl ge rfl x he5 ?_)
        refine (key_code x w5).mono ?_
        rintro en w7 ⟨rfl, hb6⟩
        have HS7 := Lib.hid (HS5.out.keep hb6)
        have he7 := he5.keep hb6
        clear HS5 he5 hb6
        obtain ⟨kl, hkey⟩ := HXi.out.1.key
        have HKey := Lib.hid hkey
        have hm7 := HS7.out.hm
        go_upto_region 9 with (at_lookup; refine wpList_lookup_own_ok_int _ rfl _ _ 68 rfl 70 3 .i64 law3 Try.underlying68 Try.underlying3 (zeroI3 _) gm ns _ rfl hm7 _ kl rfl hkey ?_; intro c2 hat hwc)
        obtain ⟨b, hb⟩ : ∃ b, b = has D kl := ⟨_, rfl⟩
        rw [← hb]
        have HB := Lib.hid hb
        have HAt := Lib.hid hat
        clear hb hat hwc hm7
        cases b with
        | true =>
          have hany := HS7.out.mf.h x kl HKey.out
          rw [← HB.out] at hany
          obtain ⟨i, y, hy, hsk, hins⟩ := ins_place HS7.out.ap hany.symm
          have hci := HS7.out.mf.a x kl i y HKey.out hy hsk (.lit (.int .i64 0))
          rw [HAt.out] at hci
          obtain rfl : c2 = (i : Int) := by injection hci with hci; injection hci
          have hil : i < ((spN (l.take k)).f).length := (List.getElem?_eq_some_iff.1 hy).1
          obtain ⟨gf, rfl, hcf, hff, hbf, hlf, hset⟩ := HS7.out.hf.set_ (j := 4) hil (by omega)
          have hfy : (spN (l.take k)).f[i] = y := (List.getElem?_eq_some_iff.1 hy).2
          rw [hfy] at hcf hset
          have hcf : w7.cell? ⟨gf, i * 6 + 4, none⟩ = some (.int .i64 y.d) := hcf
          have HS8 := Lib.hid (show SpI base gm [] A n c (some ⟨gf, 0, none⟩) ns cs D (spN (l.take (k + 1))).m (spN (l.take (k + 1))).f w (w7.setCell ⟨gf, i * 6 + 4, none⟩ (.int .i64 x.d)) from by
            rw [HX.out, HP.out.1, HP.out.2, hins]
            refine HS7.out.setF hbf hy (hset _ _ ?_) ?_
            · rfl
            · rw [← hins]; exact ins_apart HS7.out.ap)
          have cd := he7.cells.2.2.2.2.1
          have g0 : (0 : Int) ≤ (i : Int) := by omega
          have g1 : (i : Int) < (ns : Int) := by have := HS7.out.hf.len; omega
          clear hci HAt HB hany hy hsk hins hil hfy hset HS7 hkey hbf hlf HAs
          go_wp2_with fail
          go_roundw
          case rel => exact ⟨k + 1, _, _, _, _, _, _, _, by go_num, rfl, rfl, by omega, HS8⟩
          case measure => simp [intOf]; omega
        | false =>
          have hany := HS7.out.mf.h x kl HKey.out
          rw [← HB.out] at hany
          have HIns := Lib.hid (ins_none hany.symm)
          clear hany HAt
          go_wp2_with (refine load_ev (by rfl) (.tmp 7) rfl ge rfl x he7 ?_)
          refine (key_code x w7).mono ?_
          rintro en w6 ⟨rfl, hb6⟩
          have HS6 := Lib.hid (HS7.out.keep hb6)
          have he6 := he7.keep hb6
          clear HS7 he7 hb6
          have hm7 := HS6.out.hm
          have hns : ns < maxLen := by have := HLn.out; unfold maxLen; omega
          have hwf : (Lit.int .i64 (ns : Int)).wf = true := wf64 ⟨by omega, by have := HLn.out; omega⟩
          go_upto_region 12 with (at_mapUpdate; refine wpList_mapUpdate_own _ rfl _ _ _ 68 rfl 70 3 law3 Try.underlying68 _ gm ns _ rfl hm7 hns _ _ kl rfl rfl hkey _ [] (plainElem_int Try.underlying3 hwf) ?_; intro w8 hm8 hg8)
          obtain ⟨hbB, hO8, hF8, hsz8⟩ := HS6.out.addM hg8
          have he8 : EvB w8 ge x := (hg8.block ge he6.lt (fun e => by
            injection e with e
            obtain ⟨es, clock, hb, _⟩ := HS6.out.hm
            rw [← e] at hb
            have h7 := he6
            unfold EvB at h7
            rw [h7] at hb; cases hb)).trans he6
          have hb9 : Below w8.heap.size w8 (w8.alloc (.cells (evC x) 45)) := (Below.refl _ _).alloc (Nat.le_refl _) _
          have hE9 : EvB (w8.alloc (.cells (evC x) 45)) w8.heap.size x := heap_alloc_new _ _
          have hF9 := hF8.below hb9
          have HAll := Lib.hid (And.intro (hbB.trans (hb9.mono hsz8)) (And.intro (hO8.below hb9) (And.intro hF9 (hm8.alloc (.cells (evC x) 45)))))
          have HE9 := Lib.hid (he8.keep hb9)
          have hR9 := rdV_one hE9
          have hsz9 : base ≤ (w8.alloc (.cells (evC x) 45)).heap.size := Nat.le_trans hsz8 hb9.size
          have hn1 : ns + 1 ≤ 1000000 := by have := HLn.out; omega
          clear hbB hO8 hF8 hsz8 hb9 hE9 hm8 hg8 hkey he6 hm7 hns hwf
          go_upto_region 13 with (first
            | (refine load_ev (by rfl) (.tmp 7) rfl ge rfl x he8 ?_)
            | (refine wpList_buildSliceEv rfl (.tmp 40) rfl x rfl ?_)
            | (at_builtin; refine wpList_appVG rfl (.tmp 39) (.tmp 41) rfl base As ns cs _ rfl hF9 _ _ 1 1 [x] rfl hR9 rfl hn1 hsz9 ?_; intro A7 c7 w9 ho7 hg7 hat7))
          have HS9 := Lib.hid (show SpI base gm [] A n c A7 (ns + 1) c7 (D.put kl (.lit (.int .i64 (ns : Int)))) (spN (l.take (k + 1))).m ((spN (l.take k)).f ++ [x]) w w9 from by
            rw [HX.out, HP.out.1]
            exact HS6.out.addF HKey.out HB.out.symm (by rw [← HIns.out]; exact ins_apart HS6.out.ap) HAll.out.1 HAll.out.2.1 HAll.out.2.2.1 HAll.out.2.2.2 ho7 hg7 hat7)
          have he9 : EvB w9 ge x := (hg7.block ge HE9.out.lt (fun e => by
            have h1 := HAs.out ge e.symm
            have h2 := HGge.out
            omega)).trans HE9.out
          have hlen := HS6.out.hf.len
          obtain ⟨gf, rfl, hcf, hff, hbf, hlf, hset⟩ := HS9.out.hf.set_ (i := ns) (j := 4) (by rw [List.length_append]; simp; omega) (by omega)
          have hfy : ((spN (l.take k)).f ++ [x])[ns]'(by rw [List.length_append]; simp; omega) = x := by
            rw [List.getElem_append_right (by omega)]; simp
          rw [hfy] at hcf hset
          have hcf : w9.cell? ⟨gf, ns * 6 + 4, none⟩ = some (.int .i64 x.d) := hcf
          have HS10 := Lib.hid (show SpI base gm [] A n c (some ⟨gf, 0, none⟩) (ns + 1) c7 (D.put kl (.lit (.int .i64 (ns : Int)))) (spN (l.take (k + 1))).m (spN (l.take (k + 1))).f w (w9.setCell ⟨gf, ns * 6 + 4, none⟩ (.int .i64 x.d)) from by
            have e1 : ((spN (l.take k)).f ++ [x]).set ns { x with d := x.d } = (spN (l.take (k + 1))).f := by
              rw [hlen, set_last, HX.out, HP.out.2, HIns.out]
            rw [← e1]
            refine HS9.out.setF hbf (y := x) ?_ (hset _ _ rfl) ?_
            · rw [List.getElem?_eq_getElem (by rw [List.length_append]; simp; omega), hfy]
            · rw [hlen, set_last]; exact HS9.out.ap)
          have cd := he9.cells.2.2.2.2.1
          have g0 : (0 : Int) ≤ (ns : Int) := by omega
          have g1 : (ns : Int) < ((ns + 1 : Nat) : Int) := by omega
          clear ho7 hg7 hat7 hF9 hR9 he8 HS6 HAll hlen hfy hset hbf hlf HS9 HAs HE9 hn1 hsz9
          go_wp2_with fail
          go_roundw
          case rel => exact ⟨k + 1, _, _, _, _, _, _, _, by go_num, rfl, rfl, by omega, HS10⟩
          case measure => simp [intOf]; omega
    · obtain rfl : k = nl := by omega
      obtain ⟨m, hm⟩ : ∃ m, m = (spN l).m := ⟨_, rfl⟩
      obtain ⟨f, hf⟩ : ∃ f, f = (spN l).f := ⟨_, rfl⟩
      have HMF := Lib.hid (And.intro hm hf)
      have hfull : l.take k = l := by rw [HNl.out, List.take_length]
      rw [hfull, ← hm, ← hf] at HS
      rw [← hm, ← hf]
      clear hm hf hfull
      have hde := delV_code base As ns cs f wr HS.out.hf (by have := HLn.out; omega)
      go_wp2_with fail
      refine hde.mono ?_
      clear hde
      rintro en w2 ⟨n2, rfl, ho2, hg2⟩
      have hm2 : OwnV w2 base A n c m := HS.out.ho.gone hg2 fun j hj e => HS.out.d j hj e.symm
      have hb2 : Below base w w2 := HS.out.hf.grown HS.out.b HS.out.size hg2
      have hs2 : base ≤ w2.heap.size := Nat.le_trans HS.out.size hg2.size
      have hr2 := ho2.rd
      have hl2 := ho2.len
      have hn2 : n + n2 ≤ 1000000 := by
        have h1 := HS.out.hf.len
        have h2 := fin_len f
        have h3 := HLn.out
        omega
      have HL2 := Lib.hid hl2
      clear HS ho2 hg2 hl2
      go_wp2_with (at_builtin; refine wpList_appVG rfl (.tmp 52) (.tmp 53) rfl base A n c _ rfl hm2 _ _ n2 cs (finE f) rfl hr2 HL2.out hn2 hs2 ?_; intro A7 c7 w7 ho7 hg7 hat7)
      have HF := Lib.hid (show SpP w w.heap.size ((spN l).m ++ finE (spN l).f) (.returned (.slice A7 (n + n2) c7)) w7 from by
        rw [← HBase.out, ← HMF.out.1, ← HMF.out.2]
        exact ⟨_, _, _, rfl, ho7, hm2.grown hb2 hs2 hg7⟩)
      clear ho7 hg7 hat7 hm2 hb2 hr2
      go_ret
      exact HF.out
end Go.Proofs.Ytmneajmedopheaa
