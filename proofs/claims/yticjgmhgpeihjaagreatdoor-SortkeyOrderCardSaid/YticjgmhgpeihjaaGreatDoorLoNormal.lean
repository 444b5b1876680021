/-
  Layer lore: Order, Normal.
-/
import Derived.Test.YticjgmhgpeihjaaGreatDoorLoOrder
namespace Go.Proofs.YticjgmhgpeihjaaGreatDoor
open Go.RowKit Go.Gz Go.Sort

/-- the pieces up to st are in order, what comes behind is as it came. -/
structure OrI (cls : Int → Int) (s A S C : List Int) : Prop where
  tail : ∃ pre, s = pre ++ S ++ C ∧ pre.length = A.length
  marks : ∀ x ∈ S, 0 < cls x
  res : orderL cls s = A ++ ordGo cls S C

def OrRel (W : World) (cls : Int → Int) (s : List Int) (n b : Nat) (st i : Value) (wr : World) (g : Nat) : Prop :=
  ∃ (a k : Nat) (A S C : List Int), st = .int .i64 a ∧ i = .int .i64 k ∧ a ≤ k ∧ k ≤ n ∧ n - k ≤ g ∧ A.length = a ∧ S.length = k - a ∧ C.length = n - k ∧ OrI cls s A S C ∧ Below W.heap.size W wr ∧ b < wr.heap.size ∧ PRow cls wr b 0 (A ++ S ++ C)

theorem own_lower {w : World} {B B' : Nat} {e : TypeId} {k : IntKind} {v : Value} {xs : List Int} (h : Own w B e k v xs) (hB : B' ≤ B) : Own w B' e k v xs := by
  obtain ⟨h1, h2 | ⟨g, cap, cur, hv, hg, hr⟩⟩ := h
  · exact ⟨h1, Or.inl h2⟩
  · exact ⟨h1, Or.inr ⟨g, cap, cur, hv, Nat.le_trans hB hg, hr⟩⟩

theorem sort_at (cls : Int → Int) (blk off cap m : Nat) (A S C : List Int) (B : Nat) (W w : World) (hm : S.length = m) (h : PRow cls w blk 0 (A ++ S ++ C)) (hoff : m = 0 ∨ off = A.length * 2) (hb : Below B W w) (hB : B ≤ blk) (hBW : B ≤ W.heap.size) (hblk : blk < w.heap.size) (hsz : m < 1000000) :
    Calls Tryz.prog 78 #[.slice (some ⟨blk, off, none⟩) m cap] w fun e w' => e = .returned (.tuple #[]) ∧ Hid (PRow cls w' blk 0 (A ++ isort cls S ++ C)) ∧ Hid (Below B W w') ∧ w.heap.size ≤ w'.heap.size := by
  subst hm
  exact sort_piece cls blk off cap A S C B W w h (hoff.imp List.eq_nil_of_length_eq_zero id) hb hB hBW hblk hsz

set_option maxHeartbeats 2000000 in
set_option maxRecDepth 100000 in
theorem order_any (ls : List LR) (hr : Rising ls) (p : Option Addr) (cap : Nat) (s : List Int) (q : Option Addr) (c : Nat) (W : World) (hl : Lores W p ls) (hs : Row W .i32 q s) (hsz : ls.length < 1000000) (hz : s.length ≤ 900000) :
    Calls Tryz.prog 53 #[.slice p ls.length cap, .slice q s.length c] W (RetOwn W (orderL (clsL ls) s)) := by
  have h1 := Lib.hid (rising_ok ls hr p cap W hl hsz)
  have h2 := Lib.hid (fun w hb => classify_any ls hr p cap s q c w (hl.below hb) (hs.below hb) hsz hz)
  clear hl hs hr
  obtain ⟨cls, hcls⟩ : ∃ cls, clsL ls = cls := ⟨_, rfl⟩
  rw [hcls] at h2 ⊢
  clear hcls
  go_enter Tryz.func53, Tryz.ntmps53
  go_wp2_with fail
  refine h1.out.mono ?_
  rintro e w1 ⟨rfl, hb1⟩
  have hsz1 := hb1.size
  go_wp2_with fail
  refine (h2.out w1 hb1).mono ?_
  rintro e w2 ⟨b, rfl, hbW, hbl, hb2, hp2⟩
  have HB2 := Lib.hid (hb1.trans (hb2.mono hsz1))
  have HP2 := Lib.hid hp2
  have hbW' : W.heap.size ≤ b := by omega
  clear hb1 hb2 hp2 h1 h2 hsz1 hbW
  go_wp2_with fail
  obtain ⟨n, hn⟩ : ∃ n, s.length = n := ⟨_, rfl⟩
  rw [hn] at hz ⊢
  have HN := Lib.hid hn; clear hn
  go_loopg [6, 15] n (fun g st i wr => Hid (OrRel W cls s n b st i wr g))
  case atStart => exact Lib.hid ⟨0, 0, [], [], s, rfl, rfl, Nat.le_refl _, Nat.zero_le _, by omega, rfl, rfl, by have := HN.out; omega, ⟨⟨[], rfl, rfl⟩, fun x hx => by simp at hx, rfl⟩, HB2.out, hbl, HP2.out⟩
  case round =>
    clear HB2 HP2 hbl w1 w2
    have hrel' := hrel.out
    clear hrel
    obtain ⟨a, k, A, S, C, rfl, rfl, hak, hkn, hg, hA, hS, hC, hI, hb, hbl, hp⟩ := hrel'
    have HI := Lib.hid hI; clear hI
    have HB := Lib.hid hb; clear hb
    have HP := Lib.hid hp; clear hp
    have HA := Lib.hid hA; clear hA
    have HS := Lib.hid hS; clear hS
    have HC := Lib.hid hC; clear hC
    have hsz2 := HB.out.size
    by_cases hlt : k < n
    · obtain ⟨r, C', hCr⟩ : ∃ r C', C = r :: C' := by
        cases C with
        | nil => have := HC.out; simp at this; omega
        | cons r C' => exact ⟨r, C', rfl⟩
      subst hCr
      obtain ⟨⟨c0, _⟩, c1, _⟩ := HP.out k (by have h1 := HA.out; have h2 := HS.out; simp; omega)
      rw [show (A ++ S ++ r :: C').getD k 0 = r by
        have h1 := HA.out; have h2 := HS.out
        simp only [List.getD]
        rw [List.getElem?_append_right (by simp; omega), show k - (A ++ S).length = 0 by simp; omega]
        rfl] at c0 c1
      rw [Nat.zero_add] at c0 c1
      have hltz : (k : Int) < (n : Int) := by omega
      obtain ⟨cv, hcv⟩ : ∃ cv, cls r = cv := ⟨_, rfl⟩
      rw [hcv] at c1
      have HCV := Lib.hid hcv; clear hcv
      by_cases hle : cv ≤ 0
      · have hcw := Lib.hid (fun w1 (hb1 : Below wr.heap.size wr w1) => sort_at cls b (a * 2) (n - a) (k - a) A S (r :: C') W.heap.size W w1 HS.out (HP.out.below hb1 hbl) (Or.inr (by rw [HA.out])) (HB.out.trans (hb1.mono hsz2)) hbW' (Nat.le_refl _) (Nat.lt_of_lt_of_le hbl hb1.size) (by omega))
        have hal := Lib.hid ((Below.refl wr.heap.size wr).alloc (Nat.le_refl _) (.cells #[.int .i32 r, .int .i64 cv] 119))
        go_wp2_with fail
        refine (hcw.out _ hal.out).mono ?_
        rintro e w3 ⟨rfl, hp3, hb3, hs3⟩
        simp only [World.size_alloc] at hs3
        clear hcw hal
        go_wp2_with fail
        go_roundg (n - (k + 1))
        case measure => omega
        case rel => exact Lib.hid ⟨k + 1, k + 1, A ++ isort cls S ++ [r], [], C', by go_num, by go_num, Nat.le_refl _, by omega, by omega, by have h1 := HA.out; have h2 := HS.out; simp [isort_length]; omega, by simp, by have := HC.out; simp at this; omega,
          ⟨by obtain ⟨pre, h1, h2⟩ := HI.out.tail; exact ⟨pre ++ S ++ [r], by rw [h1]; simp, by simp [isort_length, h2]⟩, fun x hx => by simp at hx, by
            rw [HI.out.res, ordGo, if_pos (by rw [HCV.out]; exact hle)]; simp⟩,
          hb3.out, by omega, by
            have : A ++ isort cls S ++ [r] ++ [] ++ C' = A ++ isort cls S ++ r :: C' := by simp
            rw [this]; exact hp3.out⟩
      · go_wp2_with fail
        go_roundg (n - (k + 1))
        case measure => omega
        case rel => exact Lib.hid ⟨a, k + 1, A, S ++ [r], C', rfl, by go_num, by omega, by omega, by omega, HA.out, by have := HS.out; simp; omega, by have := HC.out; simp at this; omega,
          ⟨by obtain ⟨pre, h1, h2⟩ := HI.out.tail; exact ⟨pre, by rw [h1]; simp, h2⟩, fun x hx => by
            rcases List.mem_append.1 hx with hx | hx
            · exact HI.out.marks x hx
            · simp at hx; subst hx; rw [HCV.out]; omega, by rw [HI.out.res, ordGo, if_neg (by rw [HCV.out]; omega)]⟩,
          HB.out.alloc hsz2 _, by simp; omega, by
            have : A ++ (S ++ [r]) ++ C' = A ++ S ++ r :: C' := by simp
            rw [this]
            exact HP.out.below ((Below.refl _ _).alloc (Nat.le_refl _) _) hbl⟩
    · obtain rfl : k = n := by omega
      have hltz : ¬ (k : Int) < (k : Int) := by omega
      obtain rfl : C = [] := List.eq_nil_of_length_eq_zero (by have := HC.out; omega)
      by_cases hka : k = a
      · obtain rfl : a = k := hka.symm
        have hcw := Lib.hid (sort_at cls b 0 0 0 A S [] W.heap.size W wr (by rw [HS.out]; omega) HP.out (Or.inl rfl) HB.out hbW' (Nat.le_refl _) hbl (by omega))
        go_wp2_with fail
        refine hcw.out.mono ?_
        rintro e w3 ⟨rfl, hp3, hb3, hs3⟩
        have hxs : A ++ isort cls S ++ [] = orderL cls s := by rw [HI.out.res, ordGo]; simp
        have hol : (orderL cls s).length = a := by rw [order_length, HN.out]
        rw [hxs] at hp3
        have hrn := runes_any cls (orderL cls s) b w3 hp3.out (by omega) (by omega)
        rw [hol] at hrn
        have HRn := Lib.hid hrn; clear hrn hxs hol hcw
        go_wp2_with fail
        refine HRn.out.mono ?_
        rintro e w4 ⟨v, rfl, hb4, hown⟩
        have HB4 := Lib.hid (hb3.out.trans (hb4.mono hb3.out.size))
        have HO4 := Lib.hid (own_lower hown hb3.out.size)
        clear hb4 hown
        go_wp2_with fail
        go_ret
        exact ⟨v, rfl, HB4.out, HO4.out⟩
      · have hcw := Lib.hid (sort_at cls b (a * 2) (k - a) (k - a) A S [] W.heap.size W wr HS.out HP.out (Or.inr (by rw [HA.out])) HB.out hbW' (Nat.le_refl _) hbl (by omega))
        go_wp2_with fail
        refine hcw.out.mono ?_
        rintro e w3 ⟨rfl, hp3, hb3, hs3⟩
        have hxs : A ++ isort cls S ++ [] = orderL cls s := by rw [HI.out.res, ordGo]; simp
        have hol : (orderL cls s).length = k := by rw [order_length, HN.out]
        rw [hxs] at hp3
        have hrn := runes_any cls (orderL cls s) b w3 hp3.out (by omega) (by omega)
        rw [hol] at hrn
        have HRn := Lib.hid hrn; clear hrn hxs hol hcw
        go_wp2_with fail
        refine HRn.out.mono ?_
        rintro e w4 ⟨v, rfl, hb4, hown⟩
        have HB4 := Lib.hid (hb3.out.trans (hb4.mono hb3.out.size))
        have HO4 := Lib.hid (own_lower hown hb3.out.size)
        clear hb4 hown
        go_wp2_with fail
        go_ret
        exact ⟨v, rfl, HB4.out, HO4.out⟩
end Go.Proofs.YticjgmhgpeihjaaGreatDoor
