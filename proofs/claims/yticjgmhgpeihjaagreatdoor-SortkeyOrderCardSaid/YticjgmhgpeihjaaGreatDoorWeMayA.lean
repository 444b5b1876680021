/-
  Layer weigh: which elements may not be; slices.ContainsFunc at elements and at a table's rows.
-/
import Derived.Test.YticjgmhgpeihjaaGreatDoorWeFind2
namespace Go.Gz
/-- may no row have this element. -/
def elNotB (x : EL) : Bool := decide (x.p < 0 ∨ 60000 < x.p ∨ x.s < 0 ∨ 200 < x.s ∨ x.t < 0 ∨ 200 < x.t ∨ (0 < x.p ∧ x.s = 0) ∨ (0 < x.s ∧ x.t = 0))
theorem elNot_t (p s t : Int) (h : p < 0 ∨ 60000 < p ∨ s < 0 ∨ 200 < s ∨ t < 0 ∨ 200 < t ∨ (0 < p ∧ s = 0) ∨ (0 < s ∧ t = 0)) : true = elNotB ⟨p, s, t⟩ := (decide_eq_true h).symm
theorem elNot_f (p s t : Int) (h : ¬ (p < 0 ∨ 60000 < p ∨ s < 0 ∨ 200 < s ∨ t < 0 ∨ 200 < t ∨ (0 < p ∧ s = 0) ∨ (0 < s ∧ t = 0))) : false = elNotB ⟨p, s, t⟩ := (decide_eq_false h).symm
end Go.Gz
namespace Go.Proofs.YticjgmhgpeihjaaGreatDoor
open Go.RowKit Go.Gz Go.Sort

set_option maxHeartbeats 2000000 in
theorem elNot_any (x : EL) (w : World) : Calls Tryz.prog 66 #[.agg #[.int .i64 x.p, .int .i64 x.s, .int .i64 x.t]] w fun e w' => e = .returned (.bool (elNotB x)) ∧ Below w.heap.size w w' := by
  have hb0 := Lib.hid ((Below.refl w.heap.size w).alloc (Nat.le_refl _) (.cells #[.int .i64 x.p, .int .i64 x.s, .int .i64 x.t] 44))
  obtain ⟨p, s, t⟩ := x
  obtain ⟨bv, hbv⟩ : ∃ bv, elNotB ⟨p, s, t⟩ = bv := ⟨_, rfl⟩
  rw [hbv]
  dsimp only at hb0 ⊢
  have HBV := Lib.hid hbv; clear hbv
  have w1 := Lib.hid (within_any p 60000)
  have w2 := Lib.hid (within_any s 200)
  have w3 := Lib.hid (within_any t 200)
  by_cases h1 : 0 ≤ p ∧ p ≤ 60000
  · rw [decide_eq_true h1.1, decide_eq_true h1.2] at w1
    by_cases h2 : 0 ≤ s ∧ s ≤ 200
    · rw [decide_eq_true h2.1, decide_eq_true h2.2] at w2
      by_cases h3 : 0 ≤ t ∧ t ≤ 200
      · rw [decide_eq_true h3.1, decide_eq_true h3.2] at w3
        by_cases h4 : 0 < p
        · by_cases h5 : s = 0
          · have h5b : ((s : Int) == 0) = true := by simp [h5]
            obtain rfl : true = bv := (elNot_t p s t (by omega)).trans HBV.out
            have H5 := Lib.hid h5; clear h5 HBV
            go_enter Tryz.func66, Tryz.ntmps66
            go_wp2_with fail
            refine (w1.out _).mono ?_
            rintro e w' ⟨rfl, rfl⟩
            go_wp2_with fail
            refine (w2.out _).mono ?_
            rintro e w' ⟨rfl, rfl⟩
            go_wp2_with fail
            refine (w3.out _).mono ?_
            rintro e w' ⟨rfl, rfl⟩
            go_wp2_with fail
            go_ret
            exact ⟨rfl, hb0.out⟩
          · have h5b : ((s : Int) == 0) = false := by simp [h5]
            have h6 : 0 < s := by omega
            by_cases h7 : t = 0
            · have h7b : ((t : Int) == 0) = true := by simp [h7]
              obtain rfl : true = bv := (elNot_t p s t (by omega)).trans HBV.out
              have H7 := Lib.hid h7; clear h7 HBV h5
              go_enter Tryz.func66, Tryz.ntmps66
              go_wp2_with fail
              refine (w1.out _).mono ?_
              rintro e w' ⟨rfl, rfl⟩
              go_wp2_with fail
              refine (w2.out _).mono ?_
              rintro e w' ⟨rfl, rfl⟩
              go_wp2_with fail
              refine (w3.out _).mono ?_
              rintro e w' ⟨rfl, rfl⟩
              go_wp2_with fail
              go_ret
              exact ⟨rfl, hb0.out⟩
            · have h7b : ((t : Int) == 0) = false := by simp [h7]
              obtain rfl : false = bv := (elNot_f p s t (by omega)).trans HBV.out
              clear h7 HBV h5
              go_enter Tryz.func66, Tryz.ntmps66
              go_wp2_with fail
              refine (w1.out _).mono ?_
              rintro e w' ⟨rfl, rfl⟩
              go_wp2_with fail
              refine (w2.out _).mono ?_
              rintro e w' ⟨rfl, rfl⟩
              go_wp2_with fail
              refine (w3.out _).mono ?_
              rintro e w' ⟨rfl, rfl⟩
              go_wp2_with fail
              go_ret
              exact ⟨rfl, hb0.out⟩
        · by_cases h6 : 0 < s
          · by_cases h7 : t = 0
            · have h7b : ((t : Int) == 0) = true := by simp [h7]
              obtain rfl : true = bv := (elNot_t p s t (by omega)).trans HBV.out
              have H7 := Lib.hid h7; clear h7 HBV
              go_enter Tryz.func66, Tryz.ntmps66
              go_wp2_with fail
              refine (w1.out _).mono ?_
              rintro e w' ⟨rfl, rfl⟩
              go_wp2_with fail
              refine (w2.out _).mono ?_
              rintro e w' ⟨rfl, rfl⟩
              go_wp2_with fail
              refine (w3.out _).mono ?_
              rintro e w' ⟨rfl, rfl⟩
              go_wp2_with fail
              go_ret
              exact ⟨rfl, hb0.out⟩
            · have h7b : ((t : Int) == 0) = false := by simp [h7]
              obtain rfl : false = bv := (elNot_f p s t (by omega)).trans HBV.out
              clear h7 HBV
              go_enter Tryz.func66, Tryz.ntmps66
              go_wp2_with fail
              refine (w1.out _).mono ?_
              rintro e w' ⟨rfl, rfl⟩
              go_wp2_with fail
              refine (w2.out _).mono ?_
              rintro e w' ⟨rfl, rfl⟩
              go_wp2_with fail
              refine (w3.out _).mono ?_
              rintro e w' ⟨rfl, rfl⟩
              go_wp2_with fail
              go_ret
              exact ⟨rfl, hb0.out⟩
          · obtain rfl : false = bv := (elNot_f p s t (by omega)).trans HBV.out
            clear HBV
            go_enter Tryz.func66, Tryz.ntmps66
            go_wp2_with fail
            refine (w1.out _).mono ?_
            rintro e w' ⟨rfl, rfl⟩
            go_wp2_with fail
            refine (w2.out _).mono ?_
            rintro e w' ⟨rfl, rfl⟩
            go_wp2_with fail
            refine (w3.out _).mono ?_
            rintro e w' ⟨rfl, rfl⟩
            go_wp2_with fail
            go_ret
            exact ⟨rfl, hb0.out⟩
      · have hc : (decide (0 ≤ t) && decide (t ≤ 200)) = false := by rw [← Bool.not_eq_true, Bool.and_eq_true, decide_eq_true_eq, decide_eq_true_eq]; exact h3
        rw [hc] at w3
        obtain rfl : true = bv := (elNot_t p s t (by omega)).trans HBV.out
        clear HBV h3 hc
        go_enter Tryz.func66, Tryz.ntmps66
        go_wp2_with fail
        refine (w1.out _).mono ?_
        rintro e w' ⟨rfl, rfl⟩
        go_wp2_with fail
        refine (w2.out _).mono ?_
        rintro e w' ⟨rfl, rfl⟩
        go_wp2_with fail
        refine (w3.out _).mono ?_
        rintro e w' ⟨rfl, rfl⟩
        go_wp2_with fail
        go_ret
        exact ⟨rfl, hb0.out⟩
    · have hc : (decide (0 ≤ s) && decide (s ≤ 200)) = false := by rw [← Bool.not_eq_true, Bool.and_eq_true, decide_eq_true_eq, decide_eq_true_eq]; exact h2
      rw [hc] at w2
      obtain rfl : true = bv := (elNot_t p s t (by omega)).trans HBV.out
      clear HBV h2 hc w3
      go_enter Tryz.func66, Tryz.ntmps66
      go_wp2_with fail
      refine (w1.out _).mono ?_
      rintro e w' ⟨rfl, rfl⟩
      go_wp2_with fail
      refine (w2.out _).mono ?_
      rintro e w' ⟨rfl, rfl⟩
      go_wp2_with fail
      go_ret
      exact ⟨rfl, hb0.out⟩
  · have hc : (decide (0 ≤ p) && decide (p ≤ 60000)) = false := by rw [← Bool.not_eq_true, Bool.and_eq_true, decide_eq_true_eq, decide_eq_true_eq]; exact h1
    rw [hc] at w1
    obtain rfl : true = bv := (elNot_t p s t (by omega)).trans HBV.out
    clear HBV h1 hc w2 w3
    go_enter Tryz.func66, Tryz.ntmps66
    go_wp2_with (go_at_call 48; refine (w1.out _).mono ?_; rintro e w' ⟨rfl, rfl⟩)
    go_ret
    exact ⟨rfl, hb0.out⟩

theorem egEl : ∀ args w, (callFunc 66 args).run Tryz.prog w = .ok (.enter 66 args) w := enters_of Tryz.func66 (by kernel_rfl) rfl
theorem egMR : ∀ args w, (callFunc 45 args).run Tryz.prog w = .ok (.enter 45 args) w := enters_of Tryz.func45 (by kernel_rfl) rfl

set_option maxHeartbeats 1000000 in
theorem indexEls (g : FuncId) (cb : Array Value) (eg : ∀ args w, (callFunc g args).run Tryz.prog w = .ok (.enter g args) w) (q : EL → Bool) (p : Option Addr) (cap : Nat) (xs : List EL) (W : World) (hp : Els W p xs) (hsz : xs.length < 4611686018427387904)
    (hq : ∀ x w, Below W.heap.size W w → Calls Tryz.prog g (#[.agg #[.int .i64 x.p, .int .i64 x.s, .int .i64 x.t]] ++ cb) w fun e w' => e = .returned (.bool (q x)) ∧ Below W.heap.size W w') :
    Calls Tryz.prog 85 #[.slice p xs.length cap, .func (.func g) #[] cb] W (Idx (xs.any q) W) := by
  have HP := Lib.hid hp; clear hp
  have HQ := Lib.hid hq; clear hq
  obtain ⟨an, han⟩ : ∃ an, xs.any q = an := ⟨_, rfl⟩
  rw [han]
  have HA := Lib.hid han; clear han
  go_enter Tryz.func85, Tryz.ntmps85
  go_wp2_with fail
  go_loopg [8] xs.length (fun gk vi wr => ∃ k : Nat, vi = .int .i64 k ∧ k ≤ xs.length ∧ xs.length - k ≤ gk ∧ Hid (Below W.heap.size W wr) ∧ Hid (∀ j, j < k → q xs[j]! = false))
  case atStart => exact ⟨0, rfl, Nat.zero_le _, by omega, Lib.hid (Below.refl _ _), Lib.hid fun j hj => by omega⟩
  case round =>
    obtain ⟨k, rfl, hk, hg, HB, HN⟩ := hrel
    by_cases hlt : k < xs.length
    · have hltz : (k : Int) < (xs.length : Int) := by omega
      obtain ⟨b, o, rfl, hbW, c1, c2, c3⟩ := HP.out.at_ HB.out hlt
      have hcall := HQ.out xs[k]! wr HB.out
      obtain ⟨x, hx⟩ : ∃ x, xs[k]! = x := ⟨_, rfl⟩
      rw [hx] at c1 c2 c3 hcall
      have HX := Lib.hid hx; clear hx
      cases hb : q x with
      | true =>
        rw [hb] at hcall
        have HC := Lib.hid hcall; clear hcall
        have HV := Lib.hid hb; clear hb
        go_wp2_with (go_at_fn g; refine HC.out.mono ?_; rintro e w' ⟨rfl, hb'⟩)
        go_ret
        refine ⟨hb', Or.inl ⟨?_, k, rfl⟩⟩
        rw [← HA.out, List.any_eq_true]
        exact ⟨x, by rw [← HX.out]; exact getE_mem hlt, HV.out⟩
      | false =>
        rw [hb] at hcall
        have HC := Lib.hid hcall; clear hcall
        have HV := Lib.hid hb; clear hb
        go_wp2_with (go_at_fn g; refine HC.out.mono ?_; rintro e w' ⟨rfl, hb'⟩)
        have HB' := Lib.hid hb'; clear hb'
        go_roundg (xs.length - (k + 1))
        case measure => omega
        case rel => exact ⟨k + 1, by go_num, by omega, by omega, HB', Lib.hid fun j hj => by
          by_cases c : j = k
          · rw [c, HX.out]; exact HV.out
          · exact HN.out j (by omega)⟩
    · obtain rfl : k = xs.length := by omega
      go_wp2_with fail
      go_ret
      refine ⟨HB.out, Or.inr ⟨?_, rfl⟩⟩
      rw [← HA.out, List.any_eq_false]
      intro x hx
      obtain ⟨i, hi, rfl⟩ := List.getElem_of_mem hx
      have := HN.out i hi
      rw [getElem!_pos xs i hi] at this
      simpa using this

theorem containsEls (g : FuncId) (cb : Array Value) (eg : ∀ args w, (callFunc g args).run Tryz.prog w = .ok (.enter g args) w) (q : EL → Bool) (p : Option Addr) (cap : Nat) (xs : List EL) (W : World) (hp : Els W p xs) (hsz : xs.length < 4611686018427387904)
    (hq : ∀ x w, Below W.heap.size W w → Calls Tryz.prog g (#[.agg #[.int .i64 x.p, .int .i64 x.s, .int .i64 x.t]] ++ cb) w fun e w' => e = .returned (.bool (q x)) ∧ Below W.heap.size W w') :
    Calls Tryz.prog 65 #[.slice p xs.length cap, .func (.func g) #[] cb] W fun e w' => e = .returned (.bool (xs.any q)) ∧ Below W.heap.size W w' := by
  have h := Lib.hid (indexEls g cb eg q p cap xs W hp hsz hq)
  obtain ⟨an, han⟩ : ∃ an, xs.any q = an := ⟨_, rfl⟩
  rw [han] at h ⊢
  clear hq hp han eg
  go_enter Tryz.func65, Tryz.ntmps65
  go_wp2_with fail
  refine h.out.mono ?_
  rintro e w' ⟨hb, ⟨ha, k, rfl⟩ | ⟨ha, rfl⟩⟩
  · subst ha
    have HB := Lib.hid hb; clear hb
    go_wp2
    go_ret
    exact ⟨rfl, HB.out⟩
  · subst ha
    have HB := Lib.hid hb; clear hb
    go_wp2
    go_ret
    exact ⟨rfl, HB.out⟩

set_option maxHeartbeats 1000000 in
theorem indexWrs (g : FuncId) (cb : Array Value) (eg : ∀ args w, (callFunc g args).run Tryz.prog w = .ok (.enter g args) w) (q : WR → Bool) (p : Option Addr) (cap : Nat) (ls : List WR) (W : World) (hp : Wrs W p ls) (hsz : ls.length < 4611686018427387904)
    (hq : ∀ x w, Below W.heap.size W w → RowAt w x → x ∈ ls → Calls Tryz.prog g (#[.agg #[.slice x.op x.of.length x.oc, .slice x.tp x.to.length x.tc]] ++ cb) w fun e w' => e = .returned (.bool (q x)) ∧ Below W.heap.size W w') :
    Calls Tryz.prog 73 #[.slice p ls.length cap, .func (.func g) #[] cb] W (Idx (ls.any q) W) := by
  have HP := Lib.hid hp; clear hp
  have HQ := Lib.hid hq; clear hq
  obtain ⟨an, han⟩ : ∃ an, ls.any q = an := ⟨_, rfl⟩
  rw [han]
  have HA := Lib.hid han; clear han
  go_enter Tryz.func73, Tryz.ntmps73
  go_wp2_with fail
  go_loopg [8] ls.length (fun gk vi wr => ∃ k : Nat, vi = .int .i64 k ∧ k ≤ ls.length ∧ ls.length - k ≤ gk ∧ Hid (Below W.heap.size W wr) ∧ Hid (∀ j, j < k → q ls[j]! = false))
  case atStart => exact ⟨0, rfl, Nat.zero_le _, by omega, Lib.hid (Below.refl _ _), Lib.hid fun j hj => by omega⟩
  case round =>
    obtain ⟨k, rfl, hk, hg, HB, HN⟩ := hrel
    by_cases hlt : k < ls.length
    · have hltz : (k : Int) < (ls.length : Int) := by omega
      obtain ⟨b, o, rfl, hbW, c1, c2, c3⟩ := HP.out.at_ HB.out hlt
      have hcall := HQ.out ls[k]! wr HB.out c3 (getW_mem hlt)
      obtain ⟨x, hx⟩ : ∃ x, ls[k]! = x := ⟨_, rfl⟩
      rw [hx] at c1 c2 hcall
      clear c3
      have HX := Lib.hid hx; clear hx
      cases hb : q x with
      | true =>
        rw [hb] at hcall
        have HC := Lib.hid hcall; clear hcall
        have HV := Lib.hid hb; clear hb
        go_wp2_with (go_at_fn g; refine HC.out.mono ?_; rintro e w' ⟨rfl, hb'⟩)
        go_ret
        refine ⟨hb', Or.inl ⟨?_, k, rfl⟩⟩
        rw [← HA.out, List.any_eq_true]
        exact ⟨x, by rw [← HX.out]; exact getW_mem hlt, HV.out⟩
      | false =>
        rw [hb] at hcall
        have HC := Lib.hid hcall; clear hcall
        have HV := Lib.hid hb; clear hb
        go_wp2_with (go_at_fn g; refine HC.out.mono ?_; rintro e w' ⟨rfl, hb'⟩)
        have HB' := Lib.hid hb'; clear hb'
        go_roundg (ls.length - (k + 1))
        case measure => omega
        case rel => exact ⟨k + 1, by go_num, by omega, by omega, HB', Lib.hid fun j hj => by
          by_cases c : j = k
          · rw [c, HX.out]; exact HV.out
          · exact HN.out j (by omega)⟩
    · obtain rfl : k = ls.length := by omega
      go_wp2_with fail
      go_ret
      refine ⟨HB.out, Or.inr ⟨?_, rfl⟩⟩
      rw [← HA.out, List.any_eq_false]
      intro x hx
      obtain ⟨i, hi, rfl⟩ := List.getElem_of_mem hx
      have := HN.out i hi
      rw [getElem!_pos ls i hi] at this
      simpa using this

theorem containsWrs (g : FuncId) (cb : Array Value) (eg : ∀ args w, (callFunc g args).run Tryz.prog w = .ok (.enter g args) w) (q : WR → Bool) (p : Option Addr) (cap : Nat) (ls : List WR) (W : World) (hp : Wrs W p ls) (hsz : ls.length < 4611686018427387904)
    (hq : ∀ x w, Below W.heap.size W w → RowAt w x → x ∈ ls → Calls Tryz.prog g (#[.agg #[.slice x.op x.of.length x.oc, .slice x.tp x.to.length x.tc]] ++ cb) w fun e w' => e = .returned (.bool (q x)) ∧ Below W.heap.size W w') :
    Calls Tryz.prog 50 #[.slice p ls.length cap, .func (.func g) #[] cb] W fun e w' => e = .returned (.bool (ls.any q)) ∧ Below W.heap.size W w' := by
  have h := Lib.hid (indexWrs g cb eg q p cap ls W hp hsz hq)
  obtain ⟨an, han⟩ : ∃ an, ls.any q = an := ⟨_, rfl⟩
  rw [han] at h ⊢
  clear hq hp han eg
  go_enter Tryz.func50, Tryz.ntmps50
  go_wp2_with fail
  refine h.out.mono ?_
  rintro e w' ⟨hb, ⟨ha, k, rfl⟩ | ⟨ha, rfl⟩⟩
  · subst ha
    have HB := Lib.hid hb; clear hb
    go_wp2
    go_ret
    exact ⟨rfl, HB.out⟩
  · subst ha
    have HB := Lib.hid hb; clear hb
    go_wp2
    go_ret
    exact ⟨rfl, HB.out⟩
end Go.Proofs.YticjgmhgpeihjaaGreatDoor
