/-
  Layer lore: May.
-/
import Derived.Test.YticjgmhgpeihjaaGreatDoorLoAny
import Derived.Laws.EntriesVeiled
namespace Go.Proofs.YticjgmhgpeihjaaGreatDoor
open Go.RowKit Go.Gz Go.Sort

theorem eg18 : ∀ args w, (callFunc 52 args).run Tryz.prog w = .ok (.enter 52 args) w := enters_of Tryz.func52 (by kernel_rfl) rfl
theorem eg23 : ∀ args w, (callFunc 70 args).run Tryz.prog w = .ok (.enter 70 args) w := enters_of Tryz.func70 (by kernel_rfl) rfl
theorem eg41 : ∀ args w, (callFunc 88 args).run Tryz.prog w = .ok (.enter 88 args) w := enters_of Tryz.func88 (by kernel_rfl) rfl
theorem eg42 : ∀ args w, (callFunc 89 args).run Tryz.prog w = .ok (.enter 89 args) w := enters_of Tryz.func89 (by kernel_rfl) rfl

theorem anyMayNot (p : Option Addr) (cap : Nat) (xs : List Int) (W : World) (hp : Row W .i32 p xs) (hsz : xs.length < 4611686018427387904) :
    Calls Tryz.prog 51 #[.slice p xs.length cap, .func (.func 52) #[] #[]] W fun e w' => e = .returned (.bool (xs.any mayNotB)) ∧ Below W.heap.size W w' :=
  containsRunes 52 #[] eg18 mayNotB p cap xs W hp hsz fun r w hb => (mayNot_any r w).mono fun _ _ h => ⟨h.1, h.2 ▸ hb⟩

/-- may a row not be, whatever the others are. -/
def wrongB (x : LR) : Bool := mayNotB x.r || (decide (x.c < if x.to.length = 0 then 1 else 0) || (decide (254 < x.c) || (decide (3 < x.to.length) || x.to.any mayNotB)))

set_option maxHeartbeats 2000000 in
theorem wrong_none (r c : Int) (p : Option Addr) (n cap : Nat) (mn an : Bool) (w : World) (hn : ((n : Int) == 0) = true)
    (hm : Hid (∀ w1 : World, Calls Tryz.prog 52 #[.int .i32 r] w1 fun e w' => e = .returned (.bool mn) ∧ w1 = w'))
    (ha : Hid (¬ 3 < n → ∀ w1 : World, Below w.heap.size w w1 → Calls Tryz.prog 51 #[.slice p n cap, .func (.func 52) #[] #[]] w1 fun e w' => e = .returned (.bool an) ∧ Below w1.heap.size w1 w')) :
    Calls Tryz.prog 70 #[.agg #[.int .i32 r, .int .i64 c, .slice p n cap]] w fun e w' => e = .returned (.bool (mn || (decide (c < 1) || (decide (254 < c) || (decide (3 < n) || an))))) ∧ Below w.heap.size w w' := by
  have hb0 := Lib.hid ((Below.refl w.heap.size w).alloc (Nat.le_refl _) (.cells #[.int .i32 r, .int .i64 c, .slice p n cap] 49))
  cases mn with
  | true =>
    go_enter Tryz.func70, Tryz.ntmps70
    go_wp2_with (first | (go_at_call 52; refine (hm.out _).mono ?_; rintro e w' ⟨rfl, rfl⟩))
    go_ret
    exact ⟨rfl, hb0.out⟩
  | false =>
    by_cases h1 : c < 1
    · have e1 := Lib.hid (decide_eq_true h1)
      go_enter Tryz.func70, Tryz.ntmps70
      go_wp2_with (first | (go_at_call 52; refine (hm.out _).mono ?_; rintro e w' ⟨rfl, rfl⟩))
      go_ret
      exact ⟨by rw [e1.out]; rfl, hb0.out⟩
    · have e1 := Lib.hid (decide_eq_false h1)
      by_cases h2 : 254 < c
      · have e2 := Lib.hid (decide_eq_true h2)
        go_enter Tryz.func70, Tryz.ntmps70
        go_wp2_with (first | (go_at_call 52; refine (hm.out _).mono ?_; rintro e w' ⟨rfl, rfl⟩))
        go_ret
        exact ⟨by rw [e1.out, e2.out]; rfl, hb0.out⟩
      · have e2 := Lib.hid (decide_eq_false h2)
        by_cases h3 : 3 < n
        · have e3 := Lib.hid (decide_eq_true h3)
          have h3z : (3 : Int) < (n : Int) := by omega
          go_enter Tryz.func70, Tryz.ntmps70
          go_wp2_with (first | (go_at_call 52; refine (hm.out _).mono ?_; rintro e w' ⟨rfl, rfl⟩))
          go_ret
          exact ⟨by rw [e1.out, e2.out, e3.out]; rfl, hb0.out⟩
        · have e3 := Lib.hid (decide_eq_false h3)
          have h3z : decide ((3 : Int) < (n : Int)) = false := decide_eq_false (by omega)
          have HA := Lib.hid (ha.out h3)
          go_enter Tryz.func70, Tryz.ntmps70
          go_wp2_with (first | (go_at_call 52; refine (hm.out _).mono ?_; rintro e w' ⟨rfl, rfl⟩) | (go_at_call 51; refine (HA.out _ hb0.out).mono ?_; rintro e w' ⟨rfl, hb'⟩))
          go_ret
          exact ⟨by rw [e1.out, e2.out, e3.out]; cases an <;> rfl, hb0.out.trans (hb'.mono hb0.out.size)⟩

set_option maxHeartbeats 2000000 in
theorem wrong_some (r c : Int) (p : Option Addr) (n cap : Nat) (mn an : Bool) (w : World) (hn : ((n : Int) == 0) = false)
    (hm : Hid (∀ w1 : World, Calls Tryz.prog 52 #[.int .i32 r] w1 fun e w' => e = .returned (.bool mn) ∧ w1 = w'))
    (ha : Hid (¬ 3 < n → ∀ w1 : World, Below w.heap.size w w1 → Calls Tryz.prog 51 #[.slice p n cap, .func (.func 52) #[] #[]] w1 fun e w' => e = .returned (.bool an) ∧ Below w1.heap.size w1 w')) :
    Calls Tryz.prog 70 #[.agg #[.int .i32 r, .int .i64 c, .slice p n cap]] w fun e w' => e = .returned (.bool (mn || (decide (c < 0) || (decide (254 < c) || (decide (3 < n) || an))))) ∧ Below w.heap.size w w' := by
  have hb0 := Lib.hid ((Below.refl w.heap.size w).alloc (Nat.le_refl _) (.cells #[.int .i32 r, .int .i64 c, .slice p n cap] 49))
  cases mn with
  | true =>
    go_enter Tryz.func70, Tryz.ntmps70
    go_wp2_with (first | (go_at_call 52; refine (hm.out _).mono ?_; rintro e w' ⟨rfl, rfl⟩))
    go_ret
    exact ⟨rfl, hb0.out⟩
  | false =>
    by_cases h1 : c < 0
    · have e1 := Lib.hid (decide_eq_true h1)
      go_enter Tryz.func70, Tryz.ntmps70
      go_wp2_with (first | (go_at_call 52; refine (hm.out _).mono ?_; rintro e w' ⟨rfl, rfl⟩))
      go_ret
      exact ⟨by rw [e1.out]; rfl, hb0.out⟩
    · have e1 := Lib.hid (decide_eq_false h1)
      by_cases h2 : 254 < c
      · have e2 := Lib.hid (decide_eq_true h2)
        go_enter Tryz.func70, Tryz.ntmps70
        go_wp2_with (first | (go_at_call 52; refine (hm.out _).mono ?_; rintro e w' ⟨rfl, rfl⟩))
        go_ret
        exact ⟨by rw [e1.out, e2.out]; rfl, hb0.out⟩
      · have e2 := Lib.hid (decide_eq_false h2)
        by_cases h3 : 3 < n
        · have e3 := Lib.hid (decide_eq_true h3)
          have h3z : (3 : Int) < (n : Int) := by omega
          go_enter Tryz.func70, Tryz.ntmps70
          go_wp2_with (first | (go_at_call 52; refine (hm.out _).mono ?_; rintro e w' ⟨rfl, rfl⟩))
          go_ret
          exact ⟨by rw [e1.out, e2.out, e3.out]; rfl, hb0.out⟩
        · have e3 := Lib.hid (decide_eq_false h3)
          have h3z : decide ((3 : Int) < (n : Int)) = false := decide_eq_false (by omega)
          have HA := Lib.hid (ha.out h3)
          go_enter Tryz.func70, Tryz.ntmps70
          go_wp2_with (first | (go_at_call 52; refine (hm.out _).mono ?_; rintro e w' ⟨rfl, rfl⟩) | (go_at_call 51; refine (HA.out _ hb0.out).mono ?_; rintro e w' ⟨rfl, hb'⟩))
          go_ret
          exact ⟨by rw [e1.out, e2.out, e3.out]; cases an <;> rfl, hb0.out.trans (hb'.mono hb0.out.size)⟩

theorem wrong_any (x : LR) (w : World) (hx : ToAt w x) :
    Calls Tryz.prog 70 #[.agg #[.int .i32 x.r, .int .i64 x.c, .slice x.p x.to.length x.cap]] w fun e w' => e = .returned (.bool (wrongB x)) ∧ Below w.heap.size w w' := by
  have ha := Lib.hid (fun (h3 : ¬ 3 < x.to.length) w1 (hb : Below w.heap.size w w1) => anyMayNot x.p x.cap x.to w1 (hx.1.below hb) (by omega))
  have hm := Lib.hid (fun w1 => mayNot_any x.r w1)
  unfold wrongB
  by_cases h : x.to.length = 0
  · rw [if_pos h]
    exact wrong_none x.r x.c x.p x.to.length x.cap _ _ w (by simp [h]) hm ha
  · rw [if_neg h]
    exact wrong_some x.r x.c x.p x.to.length x.cap _ _ w (by simp; intro h2; exact h (by rw [h2]; rfl)) hm ha

/-! ### no rune of a To has a To itself -/
def hasTo (ls : List LR) (r : Int) : Bool := decide (0 < (toL ls r).length)

theorem flat1_any (ls : List LR) (hr : Rising ls) (p : Option Addr) (cap : Nat) (r : Int) (B : Nat) (w : World) (hl : Lores w p ls) (hsz : ls.length < 1000000) (hc : w.cell? ⟨B, 0, none⟩ = some (.slice p ls.length cap)) :
    Calls Tryz.prog 88 #[.int .i32 r, .pointer (some ⟨B, 0, none⟩)] w fun e w' => e = .returned (.bool (hasTo ls r)) ∧ Below w.heap.size w w' := by
  have h2 := Lib.hid (find_any ls hr p cap r w hl hsz)
  clear hl hr
  unfold hasTo toL
  go_enter Tryz.func88, Tryz.ntmps88
  go_wp2_with fail
  refine h2.out.mono ?_
  rintro e w2 ⟨rfl, hb2, _⟩
  have HB := Lib.hid hb2; clear hb2
  have hfd := fun w : World => field2 (findL ls r).r (findL ls r).c (findL ls r).p (findL ls r).to.length (findL ls r).cap w
  go_wp2
  go_ret
  exact ⟨rfl, HB.out⟩

theorem flat2_any (ls : List LR) (hr : Rising ls) (p : Option Addr) (cap : Nat) (x : LR) (B C : Nat) (w : World) (hl : Lores w p ls) (hsz : ls.length < 1000000) (hx : ToAt w x) (hxs : x.to.length < 4611686018427387904)
    (hB : B < w.heap.size) (hC : C < w.heap.size) (hc : w.cell? ⟨B, 0, none⟩ = some (.slice p ls.length cap)) (hd : w.cell? ⟨C, 0, none⟩ = some (.func (.func 88) #[] #[.pointer (some ⟨B, 0, none⟩)])) :
    Calls Tryz.prog 89 #[.agg #[.int .i32 x.r, .int .i64 x.c, .slice x.p x.to.length x.cap], .pointer (some ⟨C, 0, none⟩)] w fun e w' => e = .returned (.bool (x.to.any (hasTo ls))) ∧ Below w.heap.size w w' := by
  obtain ⟨wb, hwb⟩ : ∃ wb, wb = w.alloc (.cells #[.int .i32 x.r, .int .i64 x.c, .slice x.p x.to.length x.cap] 49) := ⟨_, rfl⟩
  have hb0 := Lib.hid (show Below w.heap.size w wb from hwb ▸ (Below.refl _ _).alloc (Nat.le_refl _) _)
  have h := Lib.hid (containsRunes 88 #[.pointer (some ⟨B, 0, none⟩)] eg41 (hasTo ls) x.p x.cap x.to wb (hx.1.below hb0.out) hxs fun r W hb => by
    have hbW := hb0.out.trans (hb.mono hb0.out.size)
    exact (flat1_any ls hr p cap r B W (hl.below hbW) hsz (by rw [hbW.cell (p := ⟨B, 0, none⟩) hB]; exact hc)).mono fun _ _ h => ⟨h.1, hb.trans (h.2.mono hb.size)⟩)
  clear hl hr hx hc
  obtain ⟨an, han⟩ : ∃ an, x.to.any (hasTo ls) = an := ⟨_, rfl⟩
  rw [han] at h ⊢
  clear han
  have HW := Lib.hid hwb
  go_enter Tryz.func89, Tryz.ntmps89
  go_wp2_with (go_at_call 51; rw [← HW.out]; refine h.out.mono ?_; rintro e w' ⟨rfl, hb'⟩)
  go_ret
  exact ⟨rfl, hb0.out.trans (hb'.mono hb0.out.size)⟩

theorem flat_any (ls : List LR) (hr : Rising ls) (p : Option Addr) (cap : Nat) (W : World) (hl : Lores W p ls) (hsz : ls.length < 1000000) (hxs : ∀ x ∈ ls, x.to.length < 4611686018427387904) :
    Calls Tryz.prog 71 #[.slice p ls.length cap] W fun e w' => e = .returned (.bool (!ls.any fun x => x.to.any (hasTo ls))) ∧ Below W.heap.size W w' := by
  obtain ⟨wb, hwb⟩ : ∃ wb, wb = (W.alloc (.cells #[.slice p ls.length cap] 22)).alloc (.cells #[.func (.func 88) #[] #[.pointer (some ⟨W.heap.size, 0, none⟩)]] 66) := ⟨_, rfl⟩
  have hb0 := Lib.hid (show Below W.heap.size W wb from hwb ▸ ((Below.refl _ _).alloc (Nat.le_refl _) _).alloc (by simp) _)
  have hs1 : W.heap.size < wb.heap.size := by rw [hwb]; simp; omega
  have hs2 : W.heap.size + 1 < wb.heap.size := by rw [hwb]; simp
  have c1 : wb.cell? ⟨W.heap.size, 0, none⟩ = some (.slice p ls.length cap) := by rw [hwb]; simp
  have c2 : wb.cell? ⟨W.heap.size + 1, 0, none⟩ = some (.func (.func 88) #[] #[.pointer (some ⟨W.heap.size, 0, none⟩)]) := by rw [hwb]; simp
  have h := Lib.hid (containsRows 89 #[.pointer (some ⟨W.heap.size + 1, 0, none⟩)] eg42 (fun x => x.to.any (hasTo ls)) p cap ls wb (hl.below hb0.out) (by omega) fun x w hb hx hm => by
    have hbW := hb0.out.trans (hb.mono hb0.out.size)
    have hsz1 := hb.size
    exact (flat2_any ls hr p cap x W.heap.size (W.heap.size + 1) w (hl.below hbW) hsz hx (hxs x hm) (by omega) (by omega) (by rw [hb.cell (p := ⟨W.heap.size, 0, none⟩) hs1]; exact c1) (by rw [hb.cell (p := ⟨W.heap.size + 1, 0, none⟩) hs2]; exact c2)).mono fun _ _ h => ⟨h.1, hb.trans (h.2.mono hb.size)⟩)
  clear hl hr hxs c1 c2 hs1 hs2
  obtain ⟨an, han⟩ : ∃ an, (ls.any fun x => x.to.any (hasTo ls)) = an := ⟨_, rfl⟩
  rw [han] at h ⊢
  clear han
  have HW := Lib.hid hwb
  clear hwb
  go_enter Tryz.func71, Tryz.ntmps71
  go_wp2_with (go_at_call 69; try rw [← HW.out]; refine h.out.mono ?_; rintro e w' ⟨rfl, hb'⟩)
  go_ret
  exact ⟨rfl, hb0.out.trans (hb'.mono hb0.out.size)⟩
end Go.Proofs.YticjgmhgpeihjaaGreatDoor
