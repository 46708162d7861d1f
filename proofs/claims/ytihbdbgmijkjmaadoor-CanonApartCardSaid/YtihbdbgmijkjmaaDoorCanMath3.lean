/- Layer 11: a state's bytes tell it: plain facts. -/
import Derived.Test.YtihbdbgmijkjmaaDoorCanMath2
import Derived.Test.YtihbdbgmijkjmaaDoorStZone2
namespace Go.Proofs.YtihbdbgmijkjmaaDoor
open Go.RowKit Ex Px Wx
/-- What doesn't hang on more than an object's numbers is alike for like objects. -/
theorem all_same {f : (Nat → Int) → Bool} (hf : ∀ x y, sameI 18 x y = true → f x = f y) : ∀ {l r : List (Nat → Int)}, sameOL l r = true → l.all f = r.all f
  | [], [], _ => rfl
  | [], _ :: _, h => by simp [sameOL] at h
  | _ :: _, [], h => by simp [sameOL] at h
  | x :: l, y :: r, h => by
    simp only [sameOL, Bool.and_eq_true] at h
    rw [List.all_cons, List.all_cons, hf x y h.1, all_same hf h.2]
theorem flat_same {f : (Nat → Int) → List Int} (hf : ∀ x y, sameI 18 x y = true → f x = f y) : ∀ {l r : List (Nat → Int)}, sameOL l r = true → l.flatMap f = r.flatMap f
  | [], [], _ => rfl
  | [], _ :: _, h => by simp [sameOL] at h
  | _ :: _, [], h => by simp [sameOL] at h
  | x :: l, y :: r, h => by
    simp only [sameOL, Bool.and_eq_true] at h
    rw [List.flatMap_cons, List.flatMap_cons, hf x y h.1, flat_same hf h.2]
theorem range_all {f g : Nat → Bool} {n : Nat} (h : ∀ z, z < n → f z = g z) : (List.range n).all f = (List.range n).all g := by
  rw [Bool.eq_iff_iff, List.all_eq_true, List.all_eq_true]
  constructor
  · intro h1 z hz; rw [← h z (List.mem_range.1 hz)]; exact h1 z hz
  · intro h1 z hz; rw [h z (List.mem_range.1 hz)]; exact h1 z hz
section
variable {x y : Nat → Int}
theorem objectB_congr (n : Int) (h : sameI 18 x y = true) : objectB x n = objectB y n := by
  rw [sameI_iff] at h
  simp only [objectB, h 0 (by omega), h 1 (by omega), h 2 (by omega), h 3 (by omega), h 4 (by omega), h 5 (by omega), h 6 (by omega), h 7 (by omega), h 8 (by omega), h 9 (by omega), h 10 (by omega), h 11 (by omega), h 12 (by omega), h 13 (by omega), h 14 (by omega), h 15 (by omega), h 16 (by omega), h 17 (by omega)]
theorem formedB_congr (h : sameI 18 x y = true) : formedB x = formedB y := by
  rw [sameI_iff] at h
  simp only [formedB, zeroB, h 1 (by omega), h 2 (by omega), h 3 (by omega), h 4 (by omega), h 5 (by omega), h 6 (by omega), h 7 (by omega), h 8 (by omega), h 9 (by omega), h 10 (by omega), h 11 (by omega), h 12 (by omega), h 16 (by omega)]
theorem wrongO_congr (h : sameI 18 x y = true) : wrongO x = wrongO y := by
  rw [sameI_iff] at h
  simp only [wrongO, h 1 (by omega), h 3 (by omega), h 13 (by omega)]
theorem btsO_congr (h : sameI 18 x y = true) : btsO x = btsO y := by
  rw [sameI_iff] at h
  simp only [btsO, numsO, sum_lit, restL, h 0 (by omega), h 1 (by omega), h 2 (by omega), h 3 (by omega), h 4 (by omega), h 5 (by omega), h 6 (by omega), h 7 (by omega), h 8 (by omega), h 9 (by omega), h 10 (by omega), h 11 (by omega), h 12 (by omega), h 13 (by omega), h 14 (by omega), h 15 (by omega), h 16 (by omega), h 17 (by omega)]
end
/-- Two states that are the same. -/
structure SameT (a b : StT) : Prop where
  o : sameOL a.objs b.objs = true
  l : ∀ z, z < 11 → a.lists z = b.lists z
  p : ∀ i, i < 18 → a.pl i = b.pl i
  g : ∀ i, i < 7 → a.gm i = b.gm i
theorem sameS_iff {a b : StT} : sameS a b = true ↔ SameT a b := by
  simp only [sameS, Bool.and_eq_true, sameI_iff]
  constructor
  · rintro ⟨⟨⟨h1, h2⟩, h3⟩, h4⟩
    refine ⟨h2, fun z hz => ?_, h3, h4⟩
    unfold sameL at h1
    simpa using List.all_eq_true.1 h1 z (List.mem_range.2 hz)
  · rintro ⟨h1, h2, h3, h4⟩
    exact ⟨⟨⟨sameL_good h2, h1⟩, h3⟩, h4⟩
section
variable {a b : StT}
theorem SameT.len (h : SameT a b) : a.objs.length = b.objs.length := (sameOL_iff.1 h.o).1
theorem ranges_congr (h : SameT a b) : rangesB a = rangesB b := by
  have e1 : a.objs.all (fun o => objectB o a.objs.length) = b.objs.all fun o => objectB o b.objs.length := by
    rw [h.len]; exact all_same (fun x y => objectB_congr _) h.o
  have e2 : ∀ j, j < 2 → plB a j = plB b j := fun j hj => by
    simp only [plB, playB]
    rw [h.p (j * 9 + 0) (by omega), h.p (j * 9 + 7) (by omega), h.p (j * 9 + 8) (by omega), range_all fun k hk => by rw [h.p (j * 9 + (k + 1)) (by omega)]]
  have e3 : gameB a.gm = gameB b.gm := by
    simp only [gameB, h.g 0 (by omega), h.g 1 (by omega), h.g 2 (by omega), h.g 3 (by omega), h.g 4 (by omega), h.g 5 (by omega), h.g 6 (by omega)]
  simp only [rangesB, e1, e2 0 (by omega), e2 1 (by omega), e3]
theorem zones_congr (h : SameT a b) : zonesB a = zonesB b := by
  have e1 : listsB a = listsB b := by
    unfold listsB
    exact range_all fun z hz => by rw [h.l z hz, h.len]
  unfold zonesB
  rw [e1, h.len, range_all fun i hi => ?_]
  have ha : i < a.objs.length := by rw [h.len]; exact hi
  rw [List.getD_eq_getElem?_getD, List.getD_eq_getElem?_getD, List.getElem?_eq_getElem ha, List.getElem?_eq_getElem hi, Option.getD_some, Option.getD_some]
  have hs := (sameOL_iff.1 h.o).2 i ha hi
  have h3 := sameI_iff.1 hs 3 (by omega)
  have e2 : apartB a i (b.objs[i] 3) = apartB b i (b.objs[i] 3) := by
    unfold apartB
    exact range_all fun z hz => by rw [h.l z hz]
  have e3 : timesN a i 11 = timesN b i 11 := by
    unfold timesN
    congr 1
    exact List.map_congr_left fun z hz => by rw [h.l z (List.mem_range.1 hz)]
  simp only [zoneO, h3, wrongO_congr hs, e2, e3]
theorem chk_congr (h : SameT a b) : chkS a = chkS b := by
  simp only [chkS, h.len, ranges_congr h, zones_congr h, all_same (fun x y => formedB_congr) h.o]
theorem flL_congr {L L' : Nat → List Int} : ∀ (m z : Nat), (∀ i, z ≤ i → i < z + m → L i = L' i) → flL L z m = flL L' z m
  | 0, _, _ => rfl
  | m + 1, z, h => by rw [flL, flL, h z (by omega) (by omega), flL_congr m (z + 1) fun i h1 h2 => h i (by omega) (by omega)]
theorem bytes_congr (h : SameT a b) : bytesS a = bytesS b := by
  have e1 : (List.range 18).map a.pl = (List.range 18).map b.pl := List.map_congr_left fun i hi => h.p i (List.mem_range.1 hi)
  have e2 : (List.range 7).map a.gm = (List.range 7).map b.gm := List.map_congr_left fun i hi => h.g i (List.mem_range.1 hi)
  simp only [bytesS, numsP, h.len, flat_same (fun x y => btsO_congr) h.o, flL_congr 11 0 (fun i _ hi => h.l i (by omega)), e1, e2]
end
/-- An object as its head and rest tell it. -/
def nfO (o : Nat → Int) : Nat → Int := objF (sumH o 9) fun i => (restL o).getD i 0
theorem nfO_same {o : Nat → Int} (h : Fit o 9) : sameI 18 (nfO o) o = true := sameI_iff.2 (obj_back h)
theorem pO_flat : ∀ (os : List (Nat → Int)) (r : List Int) (acc : List (Nat → Int)), (∀ o ∈ os, OkO o) → pO os.length (os.flatMap btsO ++ r) acc = (acc ++ os.map nfO, r, 0)
  | [], r, acc, _ => by simp [pO]
  | o :: os, r, acc, h => by
    obtain ⟨hf, hi⟩ := h o (by simp)
    obtain ⟨h0, h1⟩ := head_in hf
    have e : (o :: os).flatMap btsO ++ r = bts (sumH o 9) ++ ((restL o).flatMap bts ++ (os.flatMap btsO ++ r)) := by
      rw [List.flatMap_cons, btsO, numsO, List.flatMap_cons]; simp only [List.append_assoc]
    have ht := tk_bts (n := sumH o 9) (by unfold i64B; omega) ((restL o).flatMap bts ++ (os.flatMap btsO ++ r))
    have hm := more_flat (restL o) ((restL o).flatMap bts ++ (os.flatMap btsO ++ r)) 0 [] (os.flatMap btsO ++ r) (restL_i64 hi) rfl
    rw [restL_len, List.nil_append, Nat.zero_add] at hm
    rw [e, List.length_cons, pO, ht]
    simp only [List.drop_left]
    rw [hm]
    simp only [List.drop_left]
    rw [if_neg (by omega), if_neg (by omega), if_neg (by omega), if_neg (by omega), pO_flat os r _ fun x hx => h x (by simp [hx])]
    simp [nfO]
theorem pL_flat (L : Nat → List Int) : ∀ (m z : Nat) (r : List Int) (L0 : Nat → List Int), (∀ i, z ≤ i → i < z + m → (∀ n ∈ L i, i64B n) ∧ (L i).length ≤ 400) → ∃ L', pL m z (flL L z m ++ r) L0 = (L', r, 0) ∧ (∀ i, i < z → L' i = L0 i) ∧ ∀ i, z ≤ i → i < z + m → L' i = L i
  | 0, z, r, L0, _ => ⟨L0, by simp [pL, flL], fun _ _ => rfl, fun i h1 h2 => absurd h2 (by omega)⟩
  | m + 1, z, r, L0, h => by
    obtain ⟨h1, h2⟩ := h z (by omega) (by omega)
    have ht := tl_lst h1 (by omega) (flL L (z + 1) m ++ r) 400 (by omega)
    obtain ⟨L', e, ha, hb⟩ := pL_flat L m (z + 1) r (fun i => if i = z then L z else L0 i) fun i h3 h4 => h i (by omega) (by omega)
    refine ⟨L', ?_, fun i hi => by rw [ha i (by omega), if_neg (by omega)], fun i h3 h4 => ?_⟩
    · rw [flL, List.append_assoc, pL, ht]
      simp only [List.drop_left]
      rw [if_neg (by omega)]
      exact e
    · by_cases e2 : i = z
      · subst e2; rw [ha i (by omega), if_pos rfl]
      · exact hb i (by omega) (by omega)
/-- A right state's bytes tell it. -/
theorem parse_bytes {s : StT} (hc : chkS s = 0) (ho : ∀ o ∈ s.objs, ∀ i, i < 18 → i64B (o i)) (hl : ∀ z, z < 11 → ∀ n ∈ s.lists z, i64B n) (hp : ∀ i, i < 18 → i64B (s.pl i)) (hg : ∀ i, i < 7 → i64B (s.gm i)) :
    ∃ t, parseS (bytesS s) = (t, 0) ∧ SameT t s := by
  obtain ⟨h1, h2, h3, _⟩ := chk_ranges hc
  have hn : i64B (s.objs.length : Int) := by unfold i64B; omega
  have ht := tk_bts hn (s.objs.flatMap btsO ++ (flL s.lists 0 11 ++ (numsP s.pl s.gm).flatMap bts))
  have hO := pO_flat s.objs (flL s.lists 0 11 ++ (numsP s.pl s.gm).flatMap bts) [] fun o h => ⟨fit_objs hc o h, ho o h⟩
  obtain ⟨L', hL, _, hL2⟩ := pL_flat s.lists 11 0 ((numsP s.pl s.gm).flatMap bts) (fun _ => []) fun i _ hi => ⟨hl i (by omega), by have := zones_list h3 (show i < 11 by omega); omega⟩
  have h25 : (numsP s.pl s.gm).length = 25 := by simp [numsP]
  have hi64 : ∀ n ∈ numsP s.pl s.gm, i64B n := fun n hn => by
    simp only [numsP, List.mem_append, List.mem_map, List.mem_range] at hn
    rcases hn with ⟨i, hi, rfl⟩ | ⟨i, hi, rfl⟩
    · exact hp i hi
    · exact hg i hi
  have hm := more_flat (numsP s.pl s.gm) ((numsP s.pl s.gm).flatMap bts) 0 [] [] hi64 (by simp)
  rw [h25, List.nil_append, Nat.zero_add] at hm
  have hs : SameT (mkS (s.objs.map nfO) L' (numsP s.pl s.gm)) s := by
    refine ⟨sameOL_iff.2 ⟨by simp [mkS], fun k hk1 hk2 => ?_⟩, fun z hz => hL2 z (by omega) (by omega), fun i hi => ?_, fun i hi => ?_⟩
    · simp only [mkS, List.getElem_map]
      exact nfO_same (fit_objs hc _ (List.getElem_mem _))
    · show (numsP s.pl s.gm).getD i 0 = s.pl i
      rw [List.getD_eq_getElem?_getD, numsP, List.getElem?_append_left (by simpa using hi)]
      simp [hi]
    · show (numsP s.pl s.gm).getD (18 + i) 0 = s.gm i
      rw [List.getD_eq_getElem?_getD, numsP, List.getElem?_append_right (by simp)]
      simp [hi]
  refine ⟨_, ?_, hs⟩
  rw [bytesS, parseS, ht]
  simp only [List.drop_left]
  rw [if_neg (by omega), if_neg (by omega), if_neg (by omega), Int.toNat_natCast, hO]
  simp only [List.nil_append]
  rw [if_neg (by omega), parse2, hL]
  simp only
  rw [if_neg (by omega), parse3, hm]
  simp only
  rw [if_neg (by omega), if_neg (by omega), if_neg]
  simp only [ne_eq, Decidable.not_not]
  exact (chk_congr hs).trans hc
theorem SameT.symm {a b : StT} (h : SameT a b) : SameT b a := by
  have h1 := sameOL_iff.1 h.o
  exact ⟨sameOL_iff.2 ⟨h1.1.symm, fun k hk1 hk2 => sameI_iff.2 fun i hi => (sameI_iff.1 (h1.2 k hk2 hk1) i hi).symm⟩, fun z hz => (h.l z hz).symm, fun i hi => (h.p i hi).symm, fun i hi => (h.g i hi).symm⟩
theorem SameT.trans {a b c : StT} (h : SameT a b) (h' : SameT b c) : SameT a c := by
  have h1 := sameOL_iff.1 h.o
  have h2 := sameOL_iff.1 h'.o
  exact ⟨sameOL_iff.2 ⟨h1.1.trans h2.1, fun k hk1 hk2 => sameI_iff.2 fun i hi => (sameI_iff.1 (h1.2 k hk1 (by omega)) i hi).trans (sameI_iff.1 (h2.2 k (by omega) hk2) i hi)⟩, fun z hz => (h.l z hz).trans (h'.l z hz), fun i hi => (h.p i hi).trans (h'.p i hi), fun i hi => (h.g i hi).trans (h'.g i hi)⟩
end Go.Proofs.YtihbdbgmijkjmaaDoor
