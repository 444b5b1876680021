/-
  The reference's Apart, Order and what they lean on.
-/
import Derived.Test.YticjgmhgpeihjaaGreatDoorLoRef3
import Derived.Test.YticjgmhgpeihjaaGreatDoorLoNorm2
namespace Go.Gz
open Go.Sort
/-! ### insertion: a rune of a class above 0 moved ahead of those of greater classes -/
/-- the rune x moved ahead, from behind the row that is turned round. -/
def back (key : Int → Int) (x : Int) : List Int → List Int
  | [] => [x]
  | y :: t => if 0 < key x ∧ key x < key y then y :: back key x t else x :: y :: t
end Go.Gz
namespace Go.Proofs.YticjgmhgpeihjaaGreatDoor
open Go.RowKit Go.Gz Go.Sort

def RaRel (W : World) (ls : List LR) (s : List Int) (v i : Value) (wr : World) (g : Nat) : Prop := ∃ k : Nat, i = .int .i64 k ∧ k ≤ s.length ∧ s.length - k ≤ g ∧ Below W.heap.size W wr ∧ Own wr W.heap.size 21 .i32 v (apartL ls (s.take k))

theorem apOne (w : World) (x : Int) (t : TypeId) : ∀ j, j < 1 → (w.alloc (.cells #[.int .i32 x] t)).cell? ⟨w.heap.size, j, none⟩ = some (.int .i32 ([x].getD j 0)) := by
  intro j hj
  obtain rfl : j = 0 := by omega
  rw [World.cell?_alloc_new]; rfl

set_option maxHeartbeats 1000000 in
set_option maxRecDepth 100000 in
theorem refApart_any (ls : List LR) (h3 : ∀ x ∈ ls, x.to.length ≤ 3) (p : Option Addr) (cap : Nat) (s : List Int) (q : Option Addr) (c : Nat) (W : World) (hl : Lores W p ls) (hs : Row W .i32 q s) (hsz : ls.length < 1000000) (hz : s.length ≤ 100000) :
    Calls Tryz.prog 27 #[.slice p ls.length cap, .slice q s.length c] W (RetOwn W (apartL ls s)) := by
  have HL := Lib.hid hl; clear hl
  have HS := Lib.hid hs; clear hs
  have H3 := Lib.hid h3; clear h3
  go_enter Tryz.func27, Tryz.ntmps27
  go_wp2_with fail
  go_loopg [5, 6] s.length (fun g v i wr => Hid (RaRel W ls s v i wr g))
  case atStart => exact Lib.hid ⟨0, rfl, Nat.zero_le _, by omega, Below.refl _ _, by rw [List.take_zero, apart_nil]; exact Own.nil _ _ _ _⟩
  case round =>
    have hrel' := hrel.out
    clear hrel
    obtain ⟨k, rfl, hk, hg, hb, hown⟩ := hrel'
    have HB := Lib.hid hb; clear hb
    have HO := Lib.hid hown; clear hown
    have hsz2 := HB.out.size
    by_cases hlt : k < s.length
    · have hltz : (k : Int) < (s.length : Int) := by omega
      obtain ⟨b, o, rfl, hbW, hcell⟩ := row_cell HS.out HB.out hlt
      have hts := Lib.hid (take_snoc_getD s k hlt)
      obtain ⟨r, hrr⟩ : ∃ r, s.getD k 0 = r := ⟨_, rfl⟩
      rw [hrr] at hcell hts
      clear hrr
      have hf := Lib.hid (refFind_first ls p cap r wr (HL.out.below HB.out) hsz)
      have hlen := apart_le H3.out (s.take k)
      rw [List.length_take] at hlen
      have ha1 := ap1_le H3.out r
      go_wp2_with fail
      refine hf.out.mono ?_
      rintro e w3 ⟨hw3, h5⟩
      obtain rfl : wr = w3 := hw3.symm
      clear hw3 hf
      rcases h5 with ⟨k', hk', hfk, rfl⟩ | ⟨hno, rfl⟩
      · have hk'z : (k' : Int) < (ls.length : Int) := by omega
        have hk'0 : decide ((0 : Int) ≤ (k' : Int)) = true := decide_eq_true (by omega)
        obtain ⟨b', off', rfl, hb', _, _, g3, hto⟩ := HL.out.at_ HB.out hk'
        have e1 : ap1 ls r = if 0 < (ls[k']!).to.length then (ls[k']!).to else [r] := by unfold ap1 toL; rw [hfk]
        obtain ⟨x, hx⟩ : ∃ x, ls[k']! = x := ⟨_, rfl⟩
        rw [hx] at g3 hto e1
        have HT := Lib.hid hto
        clear hx hfk hto
        by_cases hpos : 0 < x.to.length
        · have hposz : (0 : Int) < (x.to.length : Int) := by omega
          rw [if_pos hpos] at e1
          rw [e1] at ha1
          have E1 := Lib.hid e1; clear e1
          go_wp2_with (at_builtin; refine wpList_own_row rfl _ _ 36 rfl 21 .i32 4 Tryz.underlying36 info_rune (by decide) W.heap.size _ _ rfl HO.out x.p x.cap x.to rfl HT.out.1 HT.out.2.2 ?lenOk hsz2 ?_)
          case lenOk => omega
          intro v' w4 hown4 hgrow4
          have HB4 := Lib.hid (HB.out.grown hgrow4 hsz2 (fun g hg => HO.out.lt g hg))
          have HO4 := Lib.hid hown4; clear hown4 hgrow4
          go_wp2_with fail
          go_roundg (s.length - (k + 1))
          case measure => omega
          case rel => exact Lib.hid ⟨k + 1, by go_num, by omega, by omega, HB4.out, by rw [hts.out, apart_snoc, E1.out]; exact HO4.out⟩
        · have hposz : decide ((0 : Int) < (x.to.length : Int)) = false := decide_eq_false (by omega)
          rw [if_neg hpos] at e1
          have E1 := Lib.hid e1; clear e1
          go_wp2_with (at_builtin; refine wpList_own_push rfl _ _ 36 rfl 21 .i32 4 Tryz.underlying36 info_rune (by decide) W.heap.size _ _ rfl (HO.out.alloc _) wr.heap.size 1 1 [r] rfl rfl ?newCells ?lenOk ?below ?_)
          case newCells => exact apOne _ _ _
          case lenOk => omega
          case below => simp; omega
          intro v' w4 hown4 hgrow4
          have HB4 := Lib.hid ((HB.out.alloc hsz2 _).grown hgrow4 (by simp; omega) (fun g hg => HO.out.lt g hg))
          have HO4 := Lib.hid hown4; clear hown4 hgrow4
          go_wp2_with fail
          go_roundg (s.length - (k + 1))
          case measure => omega
          case rel => exact Lib.hid ⟨k + 1, by go_num, by omega, by omega, HB4.out, by rw [hts.out, apart_snoc, E1.out]; exact HO4.out⟩
      · have E1 := Lib.hid (show ap1 ls r = [r] by unfold ap1 toL; rw [find_no hno]; rfl)
        clear hno
        go_wp2_with (at_builtin; refine wpList_own_push rfl _ _ 36 rfl 21 .i32 4 Tryz.underlying36 info_rune (by decide) W.heap.size _ _ rfl (HO.out.alloc _) wr.heap.size 1 1 [r] rfl rfl ?newCells ?lenOk ?below ?_)
        case newCells => exact apOne _ _ _
        case lenOk => omega
        case below => simp; omega
        intro v' w4 hown4 hgrow4
        have HB4 := Lib.hid ((HB.out.alloc hsz2 _).grown hgrow4 (by simp; omega) (fun g hg => HO.out.lt g hg))
        have HO4 := Lib.hid hown4; clear hown4 hgrow4
        go_wp2_with fail
        go_roundg (s.length - (k + 1))
        case measure => omega
        case rel => exact Lib.hid ⟨k + 1, by go_num, by omega, by omega, HB4.out, by rw [hts.out, apart_snoc, E1.out]; exact HO4.out⟩
    · obtain rfl : k = s.length := by omega
      have hltz : ¬ (s.length : Int) < (s.length : Int) := by omega
      go_wp2_with fail
      go_ret
      exact ⟨_, rfl, HB.out, by have := HO.out; rw [List.take_length] at this; exact this⟩
end Go.Proofs.YticjgmhgpeihjaaGreatDoor
namespace Go.Gz
open Go.Sort
theorem back_stop {key : Int → Int} {x r : Int} (hr : key r ≤ 0) (B : List Int) : ∀ A : List Int, back key x (A ++ r :: B) = back key x A ++ r :: B
  | [] => by
    simp only [List.nil_append, back]
    rw [if_neg (by omega)]; rfl
  | y :: A => by
    simp only [List.cons_append, back]
    split
    · rw [back_stop hr B A]; rfl
    · rfl
theorem mem_back {key : Int → Int} {x z : Int} : ∀ {R : List Int}, z ∈ back key x R → z = x ∨ z ∈ R
  | [], h => by simp [back] at h; exact Or.inl h
  | y :: t, h => by
    unfold back at h
    split at h
    · rcases List.mem_cons.1 h with h | h
      · exact Or.inr (by simp [h])
      · rcases mem_back h with h | h
        · exact Or.inl h
        · exact Or.inr (by simp [h])
    · simpa using h
theorem back_desc {key : Int → Int} {x : Int} (hx : 0 < key x) : ∀ {R : List Int}, R.Pairwise (fun a b => key b ≤ key a) → (back key x R).Pairwise (fun a b => key b ≤ key a)
  | [], _ => by simp [back]
  | y :: t, h => by
    have h1 := (List.pairwise_cons.1 h).1
    have h2 := (List.pairwise_cons.1 h).2
    unfold back
    split
    · rename_i hc
      refine List.pairwise_cons.2 ⟨fun z hz => ?_, back_desc hx h2⟩
      rcases mem_back hz with rfl | hz
      · omega
      · exact h1 z hz
    · rename_i hc
      refine List.pairwise_cons.2 ⟨fun z hz => ?_, h⟩
      have hy : key y ≤ key x := by omega
      rcases List.mem_cons.1 hz with rfl | hz
      · exact hy
      · have := h1 z hz; omega
theorem back_filter (key : Int → Int) (x : Int) (c : Int) : ∀ R : List Int, (back key x R).filter (fun z => decide (key z = c)) = (x :: R).filter (fun z => decide (key z = c))
  | [] => rfl
  | y :: t => by
    unfold back
    split
    · rename_i h
      have ih := back_filter key x c t
      simp only [List.filter_cons] at ih ⊢
      rw [ih]
      by_cases h1 : key x = c <;> by_cases h2 : key y = c
      · omega
      · simp [h1, h2]
      · simp [h1, h2]
      · simp [h1, h2]
    · rfl
theorem isort_snoc {key : Int → Int} {x : Int} (hx : 0 < key x) (acc : List Int) : isort key (acc ++ [x]) = (back key x (isort key acc).reverse).reverse := by
  refine (isort_uniq ?_ fun c => ?_).symm
  · unfold SrtL
    rw [List.pairwise_reverse]
    refine back_desc hx ?_
    rw [List.pairwise_reverse]
    exact isort_srt key acc
  · rw [List.filter_reverse, back_filter, List.filter_append, ← isort_stb key acc c, ← List.filter_reverse, List.reverse_cons, List.reverse_reverse, List.filter_append]
theorem ordGo_snoc {key : Int → Int} {x : Int} : ∀ (l acc : List Int), ordGo key acc (l ++ [x]) = (back key x (ordGo key acc l).reverse).reverse
  | [], acc => by
    simp only [List.nil_append, ordGo]
    split
    · rename_i h
      have : back key x (isort key acc).reverse = x :: (isort key acc).reverse := by
        cases (isort key acc).reverse with
        | nil => rfl
        | cons y t => rw [back, if_neg (by omega)]
      rw [this]
      simp [isort]
    · exact isort_snoc (by omega) acc
  | r :: t, acc => by
    simp only [List.cons_append, ordGo]
    split
    · rename_i h
      rw [ordGo_snoc t [], List.reverse_append, List.reverse_cons, List.append_assoc, List.singleton_append, back_stop h]
      simp
    · exact ordGo_snoc t _
theorem order_snoc {key : Int → Int} {x : Int} (l : List Int) : orderL key (l ++ [x]) = (back key x (orderL key l).reverse).reverse := ordGo_snoc l []
theorem order_one (key : Int → Int) (x : Int) : orderL key [x] = [x] := by
  have := order_snoc (key := key) (x := x) []
  rw [List.nil_append] at this
  rw [this]; rfl

/-- the rune x on its way ahead: A ahead of it, B passed by. -/
structure RoIn (key : Int → Int) (s : List Int) (i : Nat) (x : Int) (A B : List Int) : Prop where
  len : A.length + B.length = i
  res : orderL key (s.take (i + 1)) = (back key x A.reverse).reverse ++ B
theorem RoIn.start {key : Int → Int} {s : List Int} {i : Nat} (hi : i < s.length) : RoIn key s i (s.getD i 0) (orderL key (s.take i)) [] :=
  ⟨by rw [order_length, List.length_take]; simp; omega, by
    have e : s.take (i + 1) = s.take i ++ [s.getD i 0] := by rw [List.take_succ_eq_append_getElem hi]; simp [List.getD, hi]
    rw [e, order_snoc, List.append_nil]⟩
theorem RoIn.step {key : Int → Int} {s : List Int} {i : Nat} {x y : Int} {A B : List Int} (h : RoIn key s i x (A ++ [y]) B) (h1 : 0 < key x) (h2 : key x < key y) : RoIn key s i x A (y :: B) :=
  ⟨by have := h.len; simp at this ⊢; omega, by
    rw [h.res, List.reverse_append, List.reverse_singleton, List.singleton_append, back, if_pos ⟨h1, h2⟩]; simp⟩
theorem RoIn.stop {key : Int → Int} {s : List Int} {i : Nat} {x : Int} {A B : List Int} (h : RoIn key s i x A B) (hs : A = [] ∨ ∃ A' y, A = A' ++ [y] ∧ ¬ (0 < key x ∧ key x < key y)) : orderL key (s.take (i + 1)) = A ++ x :: B := by
  rw [h.res]
  rcases hs with rfl | ⟨A', y, rfl, hn⟩
  · simp [back]
  · rw [List.reverse_append, List.reverse_singleton, List.singleton_append, back, if_neg hn]; simp
end Go.Gz
namespace Go.Proofs.YticjgmhgpeihjaaGreatDoor
open Go.RowKit Go.Gz Go.Sort

theorem own_at {w : World} {B : Nat} {g n cap : Nat} {xs : List Int} (h : Own w B 21 .i32 (.slice (some ⟨g, 0, none⟩) n cap) xs) : xs.length = n ∧ B ≤ g ∧ g < w.heap.size ∧ (∀ j, j < n → w.cell? ⟨g, j, none⟩ = some (.int .i32 (xs.getD j 0)) ∧ w.frozen? ⟨g, j, none⟩ = false) := by
  obtain ⟨h1, ⟨h0, _⟩ | ⟨g', cap', cur, hv, hg, hh, hc, hm, hs, ht⟩⟩ := h
  · cases h0
  · injection hv with hp hn hcc
    injection hp with hp
    injection hp with hp _ _
    subst hp; subst hcc; subst hn
    refine ⟨rfl, hg, (Array.getElem?_eq_some_iff.1 hh).1, fun j hj => ⟨?_, ?_⟩⟩
    · have e1 : cur[j]? = some (.int .i32 (xs.getD j 0)) := by
        have := congrArg (·[j]?) ht
        simp only [Nat.mul_one, List.getElem?_take, hj, if_true, Array.getElem?_toList, List.getElem?_map] at this
        rw [this]
        simp [List.getD, hj]
      simp only [World.cell?, hh]
      exact e1
    · simp only [World.frozen?, hh]
      simp
theorem own_set {w : World} {B : Nat} {g n cap : Nat} {xs : List Int} (h : Own w B 21 .i32 (.slice (some ⟨g, 0, none⟩) n cap) xs) (j : Nat) (hj : j < n) (y : Int) : Own (w.setCell ⟨g, j, none⟩ (.int .i32 y)) B 21 .i32 (.slice (some ⟨g, 0, none⟩) n cap) (xs.set j y) := by
  obtain ⟨h1, ⟨h0, _⟩ | ⟨g', cap', cur, hv, hg, hh, hc, hm, hs, ht⟩⟩ := h
  · cases h0
  · injection hv with hp hn hcc
    injection hp with hp
    injection hp with hp _ _
    subst hp; subst hcc; subst hn
    refine ⟨by simp, Or.inr ⟨g, cap, cur.setIfInBounds j (.int .i32 y), by simp, hg, by simp [World.setCell, Array.getElem?_modify, hh], by simpa using hc, hm, by simpa using hs, ?_⟩⟩
    rw [List.length_set, Nat.mul_one] at *
    rw [Array.toList_setIfInBounds, List.take_set, ht, List.map_set]
theorem cellB {w w' : World} {a : Addr} {v : Value} (hb : Below w.heap.size w w') (h : w.cell? a = some v) (hl : a.block < w.heap.size) : w'.cell? a = some v := by rw [hb.cell hl]; exact h
theorem frozB {w w' : World} {a : Addr} {b : Bool} (hb : Below w.heap.size w w') (h : w.frozen? a = b) (hl : a.block < w.heap.size) : w'.frozen? a = b := by rw [hb.frozen hl]; exact h
end Go.Proofs.YticjgmhgpeihjaaGreatDoor
namespace Go.Proofs.YticjgmhgpeihjaaGreatDoor
open Go.RowKit Go.Gz Go.Sort

theorem getD_mid (A : List Int) (x : Int) (T : List Int) (k : Nat) (h : A.length = k) : (A ++ x :: T).getD k 0 = x := by
  subst h
  simp [List.getD]
theorem getD_last (A : List Int) (y : Int) (T : List Int) (k : Nat) (h : A.length = k) : (A ++ [y] ++ T).getD k 0 = y := by
  rw [List.append_assoc]; exact getD_mid A y T k h
theorem swap_two (A : List Int) (y x : Int) (T : List Int) (k : Nat) (h : A.length = k) : ((A ++ [y] ++ x :: T).set k x).set (k + 1) y = A ++ x :: y :: T := by
  subst h
  rw [List.append_assoc, List.set_append_right _ _ (Nat.le_refl _), Nat.sub_self]
  rw [List.set_append_right _ _ (Nat.le_succ _), show A.length.succ - A.length = 1 by omega]
  rfl

def RoOut (W : World) (cls : Int → Int) (s : List Int) (g cap : Nat) (vi : Value) (wr : World) (gk : Nat) : Prop :=
  ∃ i : Nat, vi = .int .i64 (i : Int) ∧ 1 ≤ i ∧ i ≤ s.length ∧ s.length - i ≤ gk ∧ Below W.heap.size W wr ∧ Own wr W.heap.size 21 .i32 (.slice (some ⟨g, 0, none⟩) s.length cap) (orderL cls (s.take i) ++ s.drop i)
def RoRel (W : World) (cls : Int → Int) (s : List Int) (g cap i : Nat) (vk : Value) (wr : World) (gk : Nat) : Prop :=
  ∃ (k : Nat) (x : Int) (A B : List Int), vk = .int .i64 (k : Int) ∧ k ≤ gk ∧ A.length = k ∧ RoIn cls s i x A B ∧ Below W.heap.size W wr ∧ Own wr W.heap.size 21 .i32 (.slice (some ⟨g, 0, none⟩) s.length cap) (A ++ x :: B ++ s.drop (i + 1))

set_option maxHeartbeats 4000000 in
set_option maxRecDepth 100000 in
theorem refOrder_any (ls : List LR) (hr : Rising ls) (p : Option Addr) (cap : Nat) (s : List Int) (q : Option Addr) (c : Nat) (W : World) (hl : Lores W p ls) (hs : Row W .i32 q s) (hqc : q = none → c = 0) (hsz : ls.length < 1000000) (hz : s.length ≤ 900000) :
    Calls Tryz.prog 26 #[.slice p ls.length cap, .slice q s.length c] W (RetOwn W (orderL (clsL ls) s)) := by
  have hcl := Lib.hid (fun r w hb => (refClass_any ls hr p cap r w (hl.below hb) hsz).mono (R' := fun e w' => e = .returned (.int .i64 (clsL ls r)) ∧ Below w.heap.size w w') fun _ _ ⟨h1, h2⟩ => ⟨h1, h2 ▸ Below.refl _ _⟩)
  clear hl hr
  obtain ⟨cls, hcls⟩ : ∃ cls, clsL ls = cls := ⟨_, rfl⟩
  rw [hcls] at hcl ⊢
  clear hcls
  have HS := Lib.hid hs; clear hs
  have HQC := Lib.hid hqc; clear hqc
  have mx := mixedL
  go_enter Tryz.func26, Tryz.ntmps26
  go_wp2_with (at_builtin; refine wpList_own_row rfl _ _ 36 rfl 21 .i32 4 Tryz.underlying36 info_rune (by decide) W.heap.size _ [] rfl (Own.nil _ _ _ _) q c s rfl HS.out HQC.out ?lenOk (Nat.le_refl _) ?_)
  case lenOk => simp only [List.length_nil]; omega
  intro v1 w1 hown1 hgrow1
  have HB1 := Lib.hid ((Below.refl W.heap.size W).grown hgrow1 (Nat.le_refl _) (fun g hg => by cases hg))
  have HO1 := Lib.hid hown1
  clear hgrow1
  by_cases hs0 : s.length = 0
  · obtain rfl : s = [] := List.eq_nil_of_length_eq_zero hs0
    obtain ⟨p1, c1, rfl, _, _⟩ := Own.row hown1
    have hz1 : ¬ (1 : Int) < 0 := by omega
    clear hown1 hs0
    go_wp2_with fail
    go_loopg [6] 1 (fun gk vi wr => vi = .int .i64 1 ∧ wr = w1)
    case atStart => exact ⟨rfl, rfl⟩
    case round =>
      obtain ⟨rfl, rfl⟩ := hrel
      go_wp2_with fail
      go_ret
      exact ⟨_, rfl, HB1.out, HO1.out⟩
  · have hv : ∃ g c1, v1 = .slice (some ⟨g, 0, none⟩) s.length c1 := by
      obtain ⟨h1, ⟨rfl, h0⟩ | ⟨g, cap', cur, rfl, hg, hh, hc, hm, hss, ht⟩⟩ := hown1
      · exact absurd (by simpa using h0) hs0
      · exact ⟨g, cap', rfl⟩
    obtain ⟨g, c1, rfl⟩ := hv
    clear hown1
    go_wp2_with fail
    go_loopg [6] s.length (fun gk vi wr => Hid (RoOut W cls s g c1 vi wr gk))
    case atStart =>
      refine Lib.hid ⟨1, rfl, Nat.le_refl _, by omega, by omega, HB1.out, ?_⟩
      have e : orderL cls (s.take 1) ++ s.drop 1 = s := by
        match s, hs0 with
        | r :: t, _ => simp [order_one]
      rw [e]; exact HO1.out
    case round =>
      clear HO1 HB1
      have hrel' := hrel.out
      clear hrel
      obtain ⟨i, rfl, hi1, hin, hg, hb, hown⟩ := hrel'
      have HB := Lib.hid hb; clear hb
      have HO := Lib.hid hown; clear hown
      by_cases hlt : i < s.length
      · have hltz : (i : Int) < (s.length : Int) := by omega
        have hin0 := RoIn.start (key := cls) hlt
        go_wp2_with fail
        obtain ⟨wo, rfl⟩ : ∃ wo, wo = wr := ⟨_, rfl⟩
        go_loopg [7] i (fun g2 vk w2 => Hid (RoRel W cls s g c1 i vk w2 g2))
        case atStart =>
          refine Lib.hid ⟨i, s.getD i 0, orderL cls (s.take i), [], rfl, Nat.le_refl _, by rw [order_length, List.length_take]; omega, hin0, HB.out, ?_⟩
          have e : orderL cls (s.take i) ++ s.getD i 0 :: [] ++ s.drop (i + 1) = orderL cls (s.take i) ++ s.drop i := by
            rw [List.drop_eq_getElem_cons hlt]; simp [List.getD, hlt]
          rw [e]; exact HO.out
        case round =>
          have hrel' := hrel.out
          clear hrel
          obtain ⟨k, x, A, B, rfl, hg2, hA, hI, hb, hown⟩ := hrel'
          have HB2 := Lib.hid hb
          have HO2 := Lib.hid hown
          have HI := Lib.hid hI
          obtain ⟨hlen, hgB, hgW, hcell⟩ := own_at hown
          have hAB := hI.len
          have hks : k < s.length := by omega
          have hsr := hb.size
          clear hb hown hI
          obtain ⟨ck, fk⟩ := hcell k hks
          have ex : (A ++ x :: B ++ s.drop (i + 1)).getD k 0 = x := by rw [List.append_assoc]; exact getD_mid A x _ k hA
          rw [ex] at ck
          have hx := Lib.hid (hcl.out x)
          by_cases hk0 : 0 < k
          · obtain ⟨j, hj⟩ : ∃ j, k = j + 1 := ⟨k - 1, by omega⟩
            obtain ⟨A', y, hAy⟩ : ∃ A' y, A = A' ++ [y] := ⟨A.dropLast, A.getLast (by intro h; rw [h] at hA; simp at hA; omega), (List.dropLast_concat_getLast _).symm⟩
            subst hj
            subst hAy
            have hA' : A'.length = j := by simpa using hA
            obtain ⟨cj, fj⟩ := hcell j (by omega)
            have ey : (A' ++ [y] ++ x :: B ++ s.drop (i + 1)).getD j 0 = y := by rw [List.append_assoc]; exact getD_last A' y _ j hA'
            rw [ey] at cj
            have hy := Lib.hid (hcl.out y)
            have jz : (j : Int) < (s.length : Int) := by omega
            have jz1 : (j : Int) + 1 < (s.length : Int) := by omega
            have p0 : (0 : Int) ≤ (j : Int) + 1 := by omega
            have p1 : (0 : Int) < (j : Int) + 1 := by omega
            have e0 : ((j : Int) + 1).toNat = j + 1 := by omega
            have hwp : IntKind.i64.wrap (j : Int) = (j : Int) := by rw [IntKind.wrap_i64]; omega
            have f1 := fun pw : BelowOf wr => pw.cell (a := ⟨g, j + 1, none⟩) hgW ck
            have f2 := fun pw : BelowOf wr => pw.cell (a := ⟨g, j, none⟩) hgW cj
            have HX := Lib.hid (fun pw : BelowOf wr => Calls.below_of pw (hx.out pw.w' (HB2.out.trans (pw.h.mono hsr))))
            have HY := Lib.hid (fun pw : BelowOf wr => Calls.below_of pw (hy.out pw.w' (HB2.out.trans (pw.h.mono hsr))))
            obtain ⟨cx, hcx⟩ : ∃ cx, cls x = cx := ⟨_, rfl⟩
            obtain ⟨cy, hcy⟩ : ∃ cy, cls y = cy := ⟨_, rfl⟩
            rw [hcx] at HX
            rw [hcy] at HY
            have HCX := Lib.hid hcx; clear hcx
            have HCY := Lib.hid hcy; clear hcy
            clear hx hy hcell ex ey hAB hA
            have HA' := Lib.hid hA'; clear hA'
            by_cases h1 : 0 < cx
            · by_cases h2 : cx < cy
              · have hmx : mx = mx := rfl
                clear hmx
                go_wp2_with fail
                refine wp_region_quiet_below (by assumption) (by kernel_rfl) ?_
                repeat (go_big_quiet_step (first | (go_at_call 41; first | (with_reducible exact HX.out _) | (with_reducible exact HY.out _))))
                refine wpQuiet_nil ?_
                intro _ hw'
                obtain ⟨⟨wq, hbq⟩, hw''⟩ := hw'
                subst hw''
                have HBq := Lib.hid (HB2.out.trans (hbq.mono hsr))
                have HOq := Lib.hid (own_below HO2.out hbq)
                have ckq := cellB hbq ck hgW
                have cjq := cellB hbq cj hgW
                have fkq := frozB hbq fk hgW
                have fjq := frozB hbq fj hgW
                clear hbq f1 f2 ck cj fk fj HX HY
                go_wp2_with fail
                go_region
                all_goals go_wp2_with fail
                go_roundg j
                case measure => omega
                case rel => exact Lib.hid ⟨j, x, A', y :: B, rfl, Nat.le_refl _, HA'.out, HI.out.step (by rw [HCX.out]; exact h1) (by rw [HCX.out, HCY.out]; exact h2), ((HBq.out.setCell (p := ⟨g, j, none⟩) hgB _).setCell (p := ⟨g, j + 1, none⟩) hgB _).drew, by
                  have h5 := own_set (own_set HOq.out j (by omega) x) (j + 1) (by omega) y
                  have e5 : (((A' ++ [y] ++ x :: B ++ s.drop (i + 1)).set j x).set (j + 1) y) = A' ++ x :: (y :: B) ++ s.drop (i + 1) := by
                    have := swap_two A' y x (B ++ s.drop (i + 1)) j HA'.out
                    simpa using this
                  rw [e5] at h5
                  exact World.ownsRow.drew h5⟩
              · have h2d : decide (cx < cy) = false := decide_eq_false h2
                have HN := Lib.hid (show ¬ (0 < cls x ∧ cls x < cls y) by rw [HCX.out, HCY.out]; omega)
                clear h2
                go_wp2_with fail
                refine wp_region_quiet_below (by assumption) (by kernel_rfl) ?_
                repeat (go_big_quiet_step (first | (go_at_call 41; first | (with_reducible exact HX.out _) | (with_reducible exact HY.out _))))
                refine wpQuiet_nil ?_
                intro _ hw'
                obtain ⟨⟨wq, hbq⟩, hw''⟩ := hw'
                subst hw''
                have HBq := Lib.hid (HB2.out.trans (hbq.mono hsr))
                have HOq := Lib.hid (own_below HO2.out hbq)
                clear hbq
                go_wp2_with fail
                go_roundg (s.length - (i + 1))
                case measure => omega
                case rel => exact Lib.hid ⟨i + 1, by go_num, by omega, by omega, by omega, HBq.out, by
                  rw [HI.out.stop (Or.inr ⟨A', y, rfl, HN.out⟩)]
                  have := HOq.out
                  simpa using this⟩
            · have h1d : decide (0 < cx) = false := decide_eq_false h1
              have HN := Lib.hid (show ¬ (0 < cls x ∧ cls x < cls y) by rw [HCX.out]; omega)
              clear h1
              go_wp2_with fail
              refine wp_region_quiet_below (by assumption) (by kernel_rfl) ?_
              repeat (go_big_quiet_step (first | (go_at_call 41; first | (with_reducible exact HX.out _) | (with_reducible exact HY.out _))))
              refine wpQuiet_nil ?_
              intro _ hw'
              obtain ⟨⟨wq, hbq⟩, hw''⟩ := hw'
              subst hw''
              have HBq := Lib.hid (HB2.out.trans (hbq.mono hsr))
              have HOq := Lib.hid (own_below HO2.out hbq)
              clear hbq
              go_wp2_with fail
              go_roundg (s.length - (i + 1))
              case measure => omega
              case rel => exact Lib.hid ⟨i + 1, by go_num, by omega, by omega, by omega, HBq.out, by
                rw [HI.out.stop (Or.inr ⟨A', y, rfl, HN.out⟩)]
                have := HOq.out
                simpa using this⟩
          · have hk0d : decide ((0 : Int) < (k : Int)) = false := decide_eq_false (by omega)
            have hk0n : decide (0 < k) = false := decide_eq_false hk0
            have HX := hx
            have HY := hx
            have HAn := Lib.hid (List.eq_nil_of_length_eq_zero (show A.length = 0 by omega))
            clear ex hcell ck fk hk0 hA hAB
            go_wp2_with fail
            refine wp_region_quiet_below (by assumption) (by kernel_rfl) ?_
            repeat (go_big_quiet_step (first | (go_at_call 41; first | (with_reducible exact HX.out _) | (with_reducible exact HY.out _))))
            refine wpQuiet_nil ?_
            intro _ hw'
            obtain ⟨⟨wq, hbq⟩, hw''⟩ := hw'
            subst hw''
            have HBq := Lib.hid (HB2.out.trans (hbq.mono hsr))
            have HOq := Lib.hid (own_below HO2.out hbq)
            clear hbq
            go_wp2_with fail
            go_roundg (s.length - (i + 1))
            case measure => omega
            case rel => exact Lib.hid ⟨i + 1, by go_num, by omega, by omega, by omega, HBq.out, by
              rw [HI.out.stop (Or.inl HAn.out)]
              have := HOq.out
              simpa using this⟩
      · obtain rfl : i = s.length := by omega
        have hltz : ¬ (s.length : Int) < (s.length : Int) := by omega
        go_wp2_with fail
        go_ret
        exact ⟨_, rfl, HB.out, by have := HO.out; rw [List.take_length, List.drop_length, List.append_nil] at this; exact this⟩
end Go.Proofs.YticjgmhgpeihjaaGreatDoor
