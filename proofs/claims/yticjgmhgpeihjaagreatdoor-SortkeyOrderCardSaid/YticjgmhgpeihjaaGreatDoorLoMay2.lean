/-
  Layer lore: May, whole.
-/
import Derived.Test.YticjgmhgpeihjaaGreatDoorLoMay
namespace Go.Gz
def riseB (ls : List LR) : Bool := (List.range (ls.length - 1)).all fun i => decide (ls[i]!.r < ls[i + 1]!.r)
theorem riseB_iff (ls : List LR) : riseB ls = true ↔ Rising ls := by
  unfold riseB Rising
  rw [List.all_eq_true]
  constructor
  · intro h i j hij hj
    have hs : ∀ n i, i + 1 + n < ls.length → ls[i]!.r < ls[i + 1 + n]!.r := by
      intro n
      induction n with
      | zero => intro i hi; exact of_decide_eq_true (h i (List.mem_range.2 (by omega)))
      | succ n ih =>
        intro i hi
        have h1 := ih i (by omega)
        have h2 : ls[i + 1 + n]!.r < ls[i + 1 + n + 1]!.r := of_decide_eq_true (h (i + 1 + n) (List.mem_range.2 (by omega)))
        have e : i + 1 + (n + 1) = i + 1 + n + 1 := by omega
        rw [e]; omega
    have := hs (j - i - 1) i (by omega)
    rwa [show i + 1 + (j - i - 1) = j by omega] at this
  · intro h i hi
    exact decide_eq_true (h i (i + 1) (by omega) (by have := List.mem_range.1 hi; omega))
end Go.Gz
namespace Go.Proofs.YticjgmhgpeihjaaGreatDoor
open Go.RowKit Go.Gz Go.Sort

set_option maxHeartbeats 1000000 in
theorem rise_any (ls : List LR) (p : Option Addr) (cap : Nat) (W : World) (hl : Lores W p ls) (hsz : ls.length < 1000000) :
    Calls Tryz.prog 68 #[.slice p ls.length cap] W fun e w' => e = .returned (.bool (riseB ls)) ∧ Below W.heap.size W w' := by
  have HL := Lib.hid hl; clear hl
  obtain ⟨an, han⟩ : ∃ an, riseB ls = an := ⟨_, rfl⟩
  rw [han]
  have HA := Lib.hid han; clear han
  go_enter Tryz.func68, Tryz.ntmps68
  go_wp2_with fail
  go_loopg [3] ls.length (fun g va wr => ∃ k : Nat, va = .int .i64 k ∧ 1 ≤ k ∧ (k ≤ ls.length ∨ k = 1) ∧ ls.length + 1 - k ≤ g + 1 ∧ Hid (Below W.heap.size W wr) ∧ Hid (∀ j, j + 1 < k → ls[j]!.r < ls[j + 1]!.r))
  case atStart => exact ⟨1, rfl, by omega, Or.inr rfl, by omega, Lib.hid (Below.refl _ _), Lib.hid fun j hj => by omega⟩
  case round =>
    obtain ⟨k, rfl, hk1, hk2, hg, HB, HN⟩ := hrel
    by_cases hlt : k < ls.length
    · obtain ⟨i, rfl⟩ : ∃ i : Nat, k = i + 1 := ⟨k - 1, by omega⟩
      have hltz : (i : Int) + 1 < (ls.length : Int) := by omega
      obtain ⟨b, off, rfl, hbW, c1, _, _, _⟩ := HL.out.at_ HB.out (show i + 1 < ls.length by omega)
      obtain ⟨b', off', hpe, hbW', d1, _, _, _⟩ := HL.out.at_ HB.out (show i < ls.length by omega)
      simp only [Option.some.injEq, Addr.mk.injEq, and_true] at hpe
      obtain ⟨rfl, rfl⟩ := hpe
      obtain ⟨x, hx⟩ : ∃ x, ls[i + 1]!.r = x := ⟨_, rfl⟩
      obtain ⟨y, hy⟩ : ∃ x, ls[i]!.r = x := ⟨_, rfl⟩
      rw [hx] at c1
      rw [hy] at d1
      have HX := Lib.hid hx; clear hx
      have HY := Lib.hid hy; clear hy
      have jz1 : (i : Int) < (ls.length : Int) := by omega
      have p0 : (0 : Int) ≤ (i : Int) + 1 := by omega
      have e0 : ((i : Int) + 1).toNat = i + 1 := by omega
      have hwp : IntKind.i64.wrap (i : Int) = (i : Int) := by rw [IntKind.wrap_i64]; omega
      by_cases hge : x ≤ y
      · go_wp2_with fail
        go_quiet (fail)
        go_wp2_with fail
        go_ret
        refine ⟨?_, below_drewN HB.out _⟩
        have : an = false := by
          rw [← HA.out, ← Bool.not_eq_true, riseB_iff]
          intro h
          have := h i (i + 1) (by omega) (by omega)
          rw [HX.out, HY.out] at this; omega
        rw [this]; rfl
      · go_wp2_with fail
        go_quiet (fail)
        go_wp2_with fail
        go_roundg (ls.length - (i + 2))
        case measure => omega
        case rel => exact ⟨i + 1 + 1, by go_num, by omega, by omega, by omega, Lib.hid (below_drewN HB.out _), Lib.hid fun j hj => by
          by_cases c : j = i
          · rw [c, HX.out, HY.out]; omega
          · exact HN.out j (by omega)⟩
    · have hltz : ¬ (k : Int) < (ls.length : Int) := by omega
      go_wp2_with fail
      go_ret
      refine ⟨?_, HB.out⟩
      have : an = true := by
        rw [← HA.out]
        unfold riseB
        rw [List.all_eq_true]
        intro i hi
        exact decide_eq_true (HN.out i (by have := List.mem_range.1 hi; omega))
      rw [this]; rfl

/-- may a lore be. -/
def mayB (ls : List LR) : Bool := decide (ls.length ≤ 64) && (riseB ls && (!ls.any wrongB && !ls.any fun x => x.to.any (hasTo ls)))

theorem le3_of {ls : List LR} (h : ls.any wrongB = false) : ∀ x ∈ ls, x.to.length ≤ 3 := fun x hx => by
  have := List.any_eq_false.1 h x hx
  unfold wrongB at this
  simp only [Bool.or_eq_true, not_or, decide_eq_true_eq] at this
  omega
theorem valid_of {ls : List LR} (h : ls.any wrongB = false) : ∀ x ∈ ls, ∀ z ∈ x.to, mayNotB z = false := fun x hx z hz => by
  have := List.any_eq_false.1 h x hx
  unfold wrongB at this
  simp only [Bool.or_eq_true, not_or] at this
  have h2 := this.2.2.2.2
  rw [Bool.not_eq_true, List.any_eq_false] at h2
  simpa using h2 z hz
set_option maxHeartbeats 1000000 in
theorem may_any (ls : List LR) (p : Option Addr) (cap : Nat) (W : World) (hl : Lores W p ls) (hsz : ls.length < 1000000) :
    Calls Tryz.prog 47 #[.slice p ls.length cap] W fun e w' => e = .returned (.bool (mayB ls)) ∧ Below W.heap.size W w' := by
  unfold mayB
  by_cases h64 : ls.length ≤ 64
  · have h64z : (ls.length : Int) ≤ 64 := by omega
    rw [decide_eq_true h64]
    have h1 := Lib.hid (rise_any ls p cap W hl hsz)
    have h2 := Lib.hid (fun w hb => containsRows 70 #[] eg23 wrongB p cap ls w (hl.below hb) (by omega) fun x w1 hb1 hx _ => (wrong_any x w1 hx).mono fun _ _ h => ⟨h.1, hb1.trans (h.2.mono hb1.size)⟩)
    have h3 := Lib.hid (fun (hr : Rising ls) (hw : ls.any wrongB = false) w hb => flat_any ls hr p cap w (hl.below hb) hsz fun x hx => by have := le3_of hw x hx; omega)
    clear hl
    obtain ⟨a1, e1⟩ : ∃ a1, riseB ls = a1 := ⟨_, rfl⟩
    obtain ⟨a2, e2⟩ : ∃ a2, ls.any wrongB = a2 := ⟨_, rfl⟩
    obtain ⟨a3, e3⟩ : ∃ a3, (ls.any fun x => x.to.any (hasTo ls)) = a3 := ⟨_, rfl⟩
    have E1 := Lib.hid e1
    rw [e1] at h1
    rw [e2] at h2
    have E2 := Lib.hid e2
    rw [e3] at h3
    rw [e1, e2, e3]
    clear e1 e2 e3
    cases a1 with
    | false =>
      go_enter Tryz.func47, Tryz.ntmps47
      go_wp2_with (go_at_call 68; refine h1.out.mono ?_; rintro e w1 ⟨rfl, hb1⟩)
      go_ret
      exact ⟨rfl, hb1⟩
    | true =>
      have hr := (riseB_iff ls).1 E1.out
      cases a2 with
      | true =>
        clear h3 hr
        go_enter Tryz.func47, Tryz.ntmps47
        go_wp2_with (first | (go_at_call 68; refine h1.out.mono ?_; rintro e w1 ⟨rfl, hb1⟩) | (go_at_call 69; refine (h2.out _ hb1).mono ?_; rintro e w2 ⟨rfl, hb2⟩))
        go_ret
        exact ⟨rfl, hb1.trans (hb2.mono hb1.size)⟩
      | false =>
        have h3' := Lib.hid (fun w hb => h3.out hr E2.out w hb)
        clear h3 hr
        go_enter Tryz.func47, Tryz.ntmps47
        go_wp2_with (first | (go_at_call 68; refine h1.out.mono ?_; rintro e w1 ⟨rfl, hb1⟩) | (go_at_call 69; refine (h2.out _ hb1).mono ?_; rintro e w2 ⟨rfl, hb2⟩) | (go_at_call 71; refine (h3'.out _ (hb1.trans (hb2.mono hb1.size))).mono ?_; rintro e w3 ⟨rfl, hb3⟩))
        go_ret
        have h12 := hb1.trans (hb2.mono hb1.size)
        exact ⟨by cases a3 <;> rfl, h12.trans (hb3.mono h12.size)⟩
  · have h64z : ¬ (ls.length : Int) ≤ 64 := by omega
    rw [decide_eq_false h64]
    clear hl
    go_enter Tryz.func47, Tryz.ntmps47
    go_wp2_with fail
    go_ret
    exact ⟨rfl, Below.refl _ _⟩

theorem may_wrong {ls : List LR} (h : mayB ls = true) : ls.any wrongB = false := by
  unfold mayB at h
  simp only [Bool.and_eq_true, Bool.not_eq_true'] at h
  exact h.2.2.1
theorem may_flat {ls : List LR} (h : mayB ls = true) : ∀ x ∈ ls, ∀ z ∈ x.to, hasTo ls z = false := fun x hx z hz => by
  unfold mayB at h
  simp only [Bool.and_eq_true, Bool.not_eq_true'] at h
  have h2 := List.any_eq_false.1 h.2.2.2 x hx
  rw [Bool.not_eq_true, List.any_eq_false] at h2
  simpa using h2 z hz
theorem may_rising {ls : List LR} (h : mayB ls = true) : Rising ls := by
  unfold mayB at h
  simp only [Bool.and_eq_true] at h
  exact (riseB_iff ls).1 h.2.1
end Go.Proofs.YticjgmhgpeihjaaGreatDoor
