/-
  Layer lore: the search of a rune's row; Class.
-/
import Derived.Test.YticjgmhgpeihjaaGreatDoorLoRows
import Derived.Test.YticjgmhgpeihjaaGreatDoorStabMerge
import Derived.BigRegion
import Derived.Shelf.SlSortCmp.QuietGrown
namespace Go.Proofs.YticjgmhgpeihjaaGreatDoor
open Go.RowKit Go.Gz Go.Sort

theorem cmpI32_neg (x y : Int) : cmpI32 x y < 0 ↔ x < y := by
  unfold cmpI32
  split
  · simp_all
  · split <;> simp_all
theorem cmpI32_eq (x y : Int) : cmpI32 x y = 0 ↔ x = y := by
  unfold cmpI32
  split
  · constructor
    · intro h; simp at h
    · intro h; omega
  · split
    · constructor
      · intro h; simp at h
      · intro h; omega
    · constructor
      · intro h; omega
      · intro h; rfl

/-- the search's answer: the place of r's row, or that there is none. -/
def Searched (ls : List LR) (r : Int) (W : World) (e : Ending) (w' : World) : Prop :=
  Below W.heap.size W w' ∧ ((∃ k : Nat, k < ls.length ∧ ls[k]!.r = r ∧ e = .returned (.tuple #[.int .i64 k, .bool true])) ∨ ((∀ i, i < ls.length → ls[i]!.r ≠ r) ∧ ∃ k : Nat, e = .returned (.tuple #[.int .i64 k, .bool false])))

theorem find1_below (x : LR) (r : Int) (w : World) : Calls Tryz.prog 101 #[.agg #[.int .i32 x.r, .int .i64 x.c, .slice x.p x.to.length x.cap], .int .i32 r] w fun e w' => e = .returned (.int .i64 (cmpI32 x.r r)) ∧ Hid (Below w.heap.size w w') :=
  (find1_any x r w).mono fun _ _ ⟨h, q, os, hw⟩ => ⟨h, Lib.hid (by rw [hw]; exact grow_below w q os)⟩

set_option maxHeartbeats 2000000 in
set_option maxRecDepth 100000 in
theorem search_any (ls : List LR) (hr : Rising ls) (p : Option Addr) (cap : Nat) (r : Int) (W : World) (hl : Lores W p ls) (hsz : ls.length < 1000000) :
    Calls Tryz.prog 100 #[.slice p ls.length cap, .int .i32 r, .func (.func 101) #[] #[]] W (Searched ls r W) := by
  have HL := Lib.hid hl; clear hl
  have HR := Lib.hid hr; clear hr
  go_enter Tryz.func100, Tryz.ntmps100
  go_wp2_with fail
  go_loopg [9, 10] ls.length (fun g va vb wr => ∃ lo hi : Nat, va = .int .i64 lo ∧ vb = .int .i64 hi ∧ lo ≤ hi ∧ hi ≤ ls.length ∧ hi - lo ≤ g ∧ Hid (Below W.heap.size W wr) ∧ Hid (∀ t, t < lo → ls[t]!.r < r) ∧ Hid (∀ t, hi ≤ t → t < ls.length → r ≤ ls[t]!.r))
  case atStart => exact ⟨0, ls.length, rfl, rfl, Nat.zero_le _, Nat.le_refl _, by omega, Lib.hid (Below.refl _ _), Lib.hid fun t ht => by omega, Lib.hid fun t h1 h2 => by omega⟩
  case round =>
    obtain ⟨lo, hi, rfl, rfl, hlh, hin, hg, HB, HA, HZ⟩ := hrel
    by_cases hlt : lo < hi
    · obtain ⟨h, h1, h2, ez⟩ : ∃ h : Nat, lo ≤ h ∧ h < hi ∧ ((lo : Int) + (hi : Int)) / 2 = (h : Int) := ⟨(lo + hi) / 2, (half lo hi hlt).1, (half lo hi hlt).2, by omega⟩
      have hhz : (h : Int) < (ls.length : Int) := by omega
      obtain ⟨b, off, rfl, hbW, c1, c2, c3, _⟩ := HL.out.at_ HB.out (show h < ls.length by omega)
      obtain ⟨x, hx⟩ : ∃ x, ls[h]! = x := ⟨_, rfl⟩
      rw [hx] at c1 c2 c3
      have HX := Lib.hid hx; clear hx
      have hc := Lib.hid (find1_below x r wr)
      by_cases hlv : cmpI32 x.r r < 0
      · go_wp2_with (go_at_call 101; refine hc.out.mono ?_; rintro e w' ⟨rfl, hb'⟩)
        go_roundg (hi - (h + 1))
        case measure => omega
        case rel => exact ⟨h + 1, hi, by go_num, rfl, by omega, hin, by omega, Lib.hid (HB.out.trans (hb'.out.mono HB.out.size)), Lib.hid fun t ht => by
          have k1 := (cmpI32_neg _ _).1 hlv
          rw [← HX.out] at k1
          by_cases c : t = h
          · rw [c]; exact k1
          · have := HR.out t h (by omega) (by omega); omega, HZ⟩
      · go_wp2_with (go_at_call 101; refine hc.out.mono ?_; rintro e w' ⟨rfl, hb'⟩)
        go_roundg (h - lo)
        case measure => omega
        case rel => exact ⟨lo, h, rfl, rfl, by omega, by omega, by omega, Lib.hid (HB.out.trans (hb'.out.mono HB.out.size)), HA, Lib.hid fun t ht htn => by
          have k1 := mt (cmpI32_neg x.r r).2 (by omega)
          rw [← HX.out] at k1
          by_cases c : t = h
          · rw [c]; omega
          · have := HR.out h t (by omega) (by omega); omega⟩
    · obtain rfl : hi = lo := by omega
      by_cases hn : hi < ls.length
      · have hhz : (hi : Int) < (ls.length : Int) := by omega
        obtain ⟨b, off, rfl, hbW, c1, c2, c3, _⟩ := HL.out.at_ HB.out hn
        obtain ⟨x, hx⟩ : ∃ x, ls[hi]! = x := ⟨_, rfl⟩
        rw [hx] at c1 c2 c3
        have HX := Lib.hid hx; clear hx
        have hc := Lib.hid (find1_below x r wr)
        by_cases hlv : cmpI32 x.r r = 0
        · have hlb : (cmpI32 x.r r == 0) = true := by simp [hlv]
          have HV := Lib.hid hlv; clear hlv
          go_wp2_with (go_at_call 101; refine hc.out.mono ?_; rintro e w' ⟨rfl, hb'⟩)
          go_ret2
          exact ⟨HB.out.trans (hb'.out.mono HB.out.size), Or.inl ⟨hi, hn, by rw [HX.out]; exact (cmpI32_eq _ _).1 HV.out, rfl⟩⟩
        · have hlb : (cmpI32 x.r r == 0) = false := by simp [hlv]
          have HV := Lib.hid hlv; clear hlv
          go_wp2_with (go_at_call 101; refine hc.out.mono ?_; rintro e w' ⟨rfl, hb'⟩)
          go_ret2
          exact ⟨HB.out.trans (hb'.out.mono HB.out.size), Or.inr ⟨fun i hi' => by
            have k1 : ls[hi]!.r ≠ r := by rw [HX.out]; exact fun h => HV.out ((cmpI32_eq _ _).2 h)
            have k2 := HZ.out hi (Nat.le_refl _) hn
            by_cases c1 : i < hi
            · have := HA.out i c1; omega
            · by_cases c2 : i = hi
              · rw [c2]; exact k1
              · have := HR.out hi i (by omega) hi'; omega, hi, rfl⟩⟩
      · have hhz : ¬ (hi : Int) < (ls.length : Int) := by omega
        go_wp2_with fail
        go_ret2
        exact ⟨HB.out, Or.inr ⟨fun i hi' => by have := HA.out i (by omega); omega, hi, rfl⟩⟩

/-- the row that find answers. -/
def Found1 (ls : List LR) (r : Int) (W : World) (e : Ending) (w' : World) : Prop :=
  e = .returned (.agg #[.int .i32 (findL ls r).r, .int .i64 (findL ls r).c, .slice (findL ls r).p (findL ls r).to.length (findL ls r).cap]) ∧ Below W.heap.size W w' ∧ ToAt w' (findL ls r)

set_option maxHeartbeats 1000000 in
theorem find_any (ls : List LR) (hr : Rising ls) (p : Option Addr) (cap : Nat) (r : Int) (W : World) (hl : Lores W p ls) (hsz : ls.length < 1000000) :
    Calls Tryz.prog 80 #[.slice p ls.length cap, .int .i32 r] W (Found1 ls r W) := by
  have HL := Lib.hid hl
  have HR := Lib.hid hr; clear hr
  have hc := Lib.hid (search_any ls HR.out p cap r (W.alloc (.cells #[.int .i32 0, .int .i64 0, .slice none 0 0] 49)) (hl.below ((Below.refl _ _).alloc (Nat.le_refl _) _)) hsz)
  clear hl
  go_enter Tryz.func80, Tryz.ntmps80
  go_wp2_with fail
  refine hc.out.mono ?_
  rintro e w1 ⟨hb1, h | h⟩
  · obtain ⟨k, hk, hkr, rfl⟩ := h
    have hb0 := Lib.hid (((Below.refl _ W).alloc (Nat.le_refl _) (.cells #[.int .i32 0, .int .i64 0, .slice none 0 0] 49)).trans (hb1.mono (by simp)))
    obtain ⟨b, off, rfl, hbW, c1, c2, c3, c4⟩ := HL.out.at_ hb0.out hk
    have hhz : (k : Int) < (ls.length : Int) := by omega
    have hf := Lib.hid (show findL ls r = ls[k]! by rw [← hkr]; exact find_at HR.out hk)
    have hs1 := hb1.size
    simp only [World.size_alloc] at hs1
    have f0 : w1.cell? ⟨W.heap.size, 0, none⟩ = some (.int .i32 0) := by rw [hb1.cell (p := ⟨W.heap.size, 0, none⟩) (by simp)]; simp
    have f1 : w1.cell? ⟨W.heap.size, 1, none⟩ = some (.int .i64 0) := by rw [hb1.cell (p := ⟨W.heap.size, 1, none⟩) (by simp)]; simp
    have f2 : w1.cell? ⟨W.heap.size, 2, none⟩ = some (.slice none 0 0) := by rw [hb1.cell (p := ⟨W.heap.size, 2, none⟩) (by simp)]; simp
    have g0 : w1.frozen? ⟨W.heap.size, 0, none⟩ = false := by rw [hb1.frozen (p := ⟨W.heap.size, 0, none⟩) (by simp)]; simp
    have g1 : w1.frozen? ⟨W.heap.size, 1, none⟩ = false := by rw [hb1.frozen (p := ⟨W.heap.size, 1, none⟩) (by simp)]; simp
    have g2 : w1.frozen? ⟨W.heap.size, 2, none⟩ = false := by rw [hb1.frozen (p := ⟨W.heap.size, 2, none⟩) (by simp)]; simp
    clear hb1 hkr
    obtain ⟨x, hx⟩ : ∃ x, ls[k]! = x := ⟨_, rfl⟩
    rw [hx] at c1 c2 c3 c4 hf
    have HX := Lib.hid hx
    clear hx c4
    go_wp2_with fail
    obtain ⟨w2, hw2⟩ : ∃ w2, ((w1.setCell ⟨W.heap.size, 0, none⟩ (.int .i32 x.r)).setCell ⟨W.heap.size, 1, none⟩ (.int .i64 x.c)).setCell ⟨W.heap.size, 2, none⟩ (.slice x.p x.to.length x.cap) = w2 := ⟨_, rfl⟩
    have p0 : w2.cell? ⟨W.heap.size, 0, none⟩ = some (.int .i32 x.r) := by rw [← hw2]; simp [go_sem, f0]
    have p1 : w2.cell? ⟨W.heap.size, 1, none⟩ = some (.int .i64 x.c) := by rw [← hw2]; simp [go_sem, f1]
    have p2 : w2.cell? ⟨W.heap.size, 2, none⟩ = some (.slice x.p x.to.length x.cap) := by rw [← hw2]; simp [go_sem, f2]
    have hb2 : Below W.heap.size W w2 := by rw [← hw2]; exact ((hb0.out.setCell (p := ⟨W.heap.size, 0, none⟩) (Nat.le_refl _) _).setCell (p := ⟨W.heap.size, 1, none⟩) (Nat.le_refl _) _).setCell (p := ⟨W.heap.size, 2, none⟩) (Nat.le_refl _) _
    rw [hw2]
    refine bodyPost_ret (v := .agg #[.int .i32 x.r, .int .i64 x.c, .slice x.p x.to.length x.cap]) (by simp [results, Tryz.results80, go_sem, p0, p1, p2]) rfl ?_
    refine ⟨by rw [hf.out], hb2, ?_⟩
    have hm : ToAt W x := by
      rcases HL.out with h0 | ⟨b', off', hp', hlt', hcc⟩
      · rw [h0] at hk; simp at hk
      · have := (hcc k hk).2.2.2; rwa [HX.out] at this
    rw [hf.out]
    exact hm.below hb2
  · obtain ⟨hno, k, rfl⟩ := h
    have hf := Lib.hid (find_no hno); clear hno
    have hb0 := Lib.hid (((Below.refl _ W).alloc (Nat.le_refl _) (.cells #[.int .i32 0, .int .i64 0, .slice none 0 0] 49)).trans (hb1.mono (by simp)))
    have hs1 := hb1.size
    simp only [World.size_alloc] at hs1
    have f0 : w1.cell? ⟨W.heap.size, 0, none⟩ = some (.int .i32 0) := by rw [hb1.cell (p := ⟨W.heap.size, 0, none⟩) (by simp)]; simp
    have f1 : w1.cell? ⟨W.heap.size, 1, none⟩ = some (.int .i64 0) := by rw [hb1.cell (p := ⟨W.heap.size, 1, none⟩) (by simp)]; simp
    have f2 : w1.cell? ⟨W.heap.size, 2, none⟩ = some (.slice none 0 0) := by rw [hb1.cell (p := ⟨W.heap.size, 2, none⟩) (by simp)]; simp
    have g0 : w1.frozen? ⟨W.heap.size, 0, none⟩ = false := by rw [hb1.frozen (p := ⟨W.heap.size, 0, none⟩) (by simp)]; simp
    have g1 : w1.frozen? ⟨W.heap.size, 1, none⟩ = false := by rw [hb1.frozen (p := ⟨W.heap.size, 1, none⟩) (by simp)]; simp
    have g2 : w1.frozen? ⟨W.heap.size, 2, none⟩ = false := by rw [hb1.frozen (p := ⟨W.heap.size, 2, none⟩) (by simp)]; simp
    clear hb1
    go_wp2_with fail
    obtain ⟨w2, hw2⟩ : ∃ w2, ((w1.setCell ⟨W.heap.size, 0, none⟩ (.int .i32 0)).setCell ⟨W.heap.size, 1, none⟩ (.int .i64 0)).setCell ⟨W.heap.size, 2, none⟩ (.slice none 0 0) = w2 := ⟨_, rfl⟩
    have p0 : w2.cell? ⟨W.heap.size, 0, none⟩ = some (.int .i32 0) := by rw [← hw2]; simp [go_sem, f0]
    have p1 : w2.cell? ⟨W.heap.size, 1, none⟩ = some (.int .i64 0) := by rw [← hw2]; simp [go_sem, f1]
    have p2 : w2.cell? ⟨W.heap.size, 2, none⟩ = some (.slice none 0 0) := by rw [← hw2]; simp [go_sem, f2]
    have hb2 : Below W.heap.size W w2 := by rw [← hw2]; exact ((hb0.out.setCell (p := ⟨W.heap.size, 0, none⟩) (Nat.le_refl _) _).setCell (p := ⟨W.heap.size, 1, none⟩) (Nat.le_refl _) _).setCell (p := ⟨W.heap.size, 2, none⟩) (Nat.le_refl _) _
    rw [hw2]
    refine bodyPost_ret (v := .agg #[.int .i32 0, .int .i64 0, .slice none 0 0]) (by simp [results, Tryz.results80, go_sem, p0, p1, p2]) rfl ?_
    exact ⟨by rw [hf.out]; rfl, hb2, by rw [hf.out]; exact ToAt.zero _⟩
end Go.Proofs.YticjgmhgpeihjaaGreatDoor
