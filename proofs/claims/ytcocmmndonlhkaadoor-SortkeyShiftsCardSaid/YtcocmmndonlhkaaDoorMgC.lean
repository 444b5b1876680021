/-
  Several texts in one: WeMayA, WeMayB, WeMayC, WeMayD.
-/
import Derived.Test.YtcocmmndonlhkaaDoorWeFind2
import Derived.Test.YtcocmmndonlhkaaDoorLoNorm2
import Derived.RegionTactic
import Derived.Deep.RegionWith
import Derived.Test.YtcocmmndonlhkaaDoorQuietBelow
namespace Go.Gz
/-- may no row have this element. -/
def elNotB (x : EL) : Bool := decide (x.p < 0 ∨ 60000 < x.p ∨ x.s < 0 ∨ 200 < x.s ∨ x.t < 0 ∨ 200 < x.t ∨ (0 < x.p ∧ x.s = 0) ∨ (0 < x.s ∧ x.t = 0))
theorem elNot_t (p s t : Int) (h : p < 0 ∨ 60000 < p ∨ s < 0 ∨ 200 < s ∨ t < 0 ∨ 200 < t ∨ (0 < p ∧ s = 0) ∨ (0 < s ∧ t = 0)) : true = elNotB ⟨p, s, t⟩ := (decide_eq_true h).symm
theorem elNot_f (p s t : Int) (h : ¬ (p < 0 ∨ 60000 < p ∨ s < 0 ∨ 200 < s ∨ t < 0 ∨ 200 < t ∨ (0 < p ∧ s = 0) ∨ (0 < s ∧ t = 0))) : false = elNotB ⟨p, s, t⟩ := (decide_eq_false h).symm
end Go.Gz
namespace Go.Proofs.YtcocmmndonlhkaaDoor
open Go.RowKit Go.Gz Go.Sort

set_option maxHeartbeats 2000000 in
theorem elNot_any (x : EL) (w : World) : Calls Tryd.prog 52 #[.agg #[.int .i64 x.p, .int .i64 x.s, .int .i64 x.t]] w fun e w' => e = .returned (.bool (elNotB x)) ∧ Below w.heap.size w w' := by
  have hb0 := Lib.hid ((Below.refl w.heap.size w).alloc (Nat.le_refl _) (.cells #[.int .i64 x.p, .int .i64 x.s, .int .i64 x.t] 26))
  obtain ⟨p, s, t⟩ := x
  obtain ⟨bv, hbv⟩ : ∃ bv, elNotB ⟨p, s, t⟩ = bv := ⟨_, rfl⟩
  rw [hbv]
  dsimp only at hb0 ⊢
  have HBV := Lib.hid hbv; clear hbv
  have w1 := Lib.hid (within_any p 60000)
  have w2 := Lib.hid (within_any s 200)
  have w3 := Lib.hid (within_any t 200)
  by_cases h1 : 0 ≤ p ∧ p ≤ 60000
  · rw [decide_eq_true h1.1, decide_eq_true h1.2] at w1
    by_cases h2 : 0 ≤ s ∧ s ≤ 200
    · rw [decide_eq_true h2.1, decide_eq_true h2.2] at w2
      by_cases h3 : 0 ≤ t ∧ t ≤ 200
      · rw [decide_eq_true h3.1, decide_eq_true h3.2] at w3
        by_cases h4 : 0 < p
        · by_cases h5 : s = 0
          · have h5b : ((s : Int) == 0) = true := by simp [h5]
            obtain rfl : true = bv := (elNot_t p s t (by omega)).trans HBV.out
            have H5 := Lib.hid h5; clear h5 HBV
            go_enter Tryd.func52, Tryd.ntmps52
            go_wp2_with fail
            refine (w1.out _).mono ?_
            rintro e w' ⟨rfl, rfl⟩
            go_wp2_with fail
            refine (w2.out _).mono ?_
            rintro e w' ⟨rfl, rfl⟩
            go_wp2_with fail
            refine (w3.out _).mono ?_
            rintro e w' ⟨rfl, rfl⟩
            go_wp2_with fail
            go_ret
            exact ⟨rfl, hb0.out⟩
          · have h5b : ((s : Int) == 0) = false := by simp [h5]
            have h6 : 0 < s := by omega
            by_cases h7 : t = 0
            · have h7b : ((t : Int) == 0) = true := by simp [h7]
              obtain rfl : true = bv := (elNot_t p s t (by omega)).trans HBV.out
              have H7 := Lib.hid h7; clear h7 HBV h5
              go_enter Tryd.func52, Tryd.ntmps52
              go_wp2_with fail
              refine (w1.out _).mono ?_
              rintro e w' ⟨rfl, rfl⟩
              go_wp2_with fail
              refine (w2.out _).mono ?_
              rintro e w' ⟨rfl, rfl⟩
              go_wp2_with fail
              refine (w3.out _).mono ?_
              rintro e w' ⟨rfl, rfl⟩
              go_wp2_with fail
              go_ret
              exact ⟨rfl, hb0.out⟩
            · have h7b : ((t : Int) == 0) = false := by simp [h7]
              obtain rfl : false = bv := (elNot_f p s t (by omega)).trans HBV.out
              clear h7 HBV h5
              go_enter Tryd.func52, Tryd.ntmps52
              go_wp2_with fail
              refine (w1.out _).mono ?_
              rintro e w' ⟨rfl, rfl⟩
              go_wp2_with fail
              refine (w2.out _).mono ?_
              rintro e w' ⟨rfl, rfl⟩
              go_wp2_with fail
              refine (w3.out _).mono ?_
              rintro e w' ⟨rfl, rfl⟩
              go_wp2_with fail
              go_ret
              exact ⟨rfl, hb0.out⟩
        · by_cases h6 : 0 < s
          · by_cases h7 : t = 0
            · have h7b : ((t : Int) == 0) = true := by simp [h7]
              obtain rfl : true = bv := (elNot_t p s t (by omega)).trans HBV.out
              have H7 := Lib.hid h7; clear h7 HBV
              go_enter Tryd.func52, Tryd.ntmps52
              go_wp2_with fail
              refine (w1.out _).mono ?_
              rintro e w' ⟨rfl, rfl⟩
              go_wp2_with fail
              refine (w2.out _).mono ?_
              rintro e w' ⟨rfl, rfl⟩
              go_wp2_with fail
              refine (w3.out _).mono ?_
              rintro e w' ⟨rfl, rfl⟩
              go_wp2_with fail
              go_ret
              exact ⟨rfl, hb0.out⟩
            · have h7b : ((t : Int) == 0) = false := by simp [h7]
              obtain rfl : false = bv := (elNot_f p s t (by omega)).trans HBV.out
              clear h7 HBV
              go_enter Tryd.func52, Tryd.ntmps52
              go_wp2_with fail
              refine (w1.out _).mono ?_
              rintro e w' ⟨rfl, rfl⟩
              go_wp2_with fail
              refine (w2.out _).mono ?_
              rintro e w' ⟨rfl, rfl⟩
              go_wp2_with fail
              refine (w3.out _).mono ?_
              rintro e w' ⟨rfl, rfl⟩
              go_wp2_with fail
              go_ret
              exact ⟨rfl, hb0.out⟩
          · obtain rfl : false = bv := (elNot_f p s t (by omega)).trans HBV.out
            clear HBV
            go_enter Tryd.func52, Tryd.ntmps52
            go_wp2_with fail
            refine (w1.out _).mono ?_
            rintro e w' ⟨rfl, rfl⟩
            go_wp2_with fail
            refine (w2.out _).mono ?_
            rintro e w' ⟨rfl, rfl⟩
            go_wp2_with fail
            refine (w3.out _).mono ?_
            rintro e w' ⟨rfl, rfl⟩
            go_wp2_with fail
            go_ret
            exact ⟨rfl, hb0.out⟩
      · have hc : (decide (0 ≤ t) && decide (t ≤ 200)) = false := by rw [← Bool.not_eq_true, Bool.and_eq_true, decide_eq_true_eq, decide_eq_true_eq]; exact h3
        rw [hc] at w3
        obtain rfl : true = bv := (elNot_t p s t (by omega)).trans HBV.out
        clear HBV h3 hc
        go_enter Tryd.func52, Tryd.ntmps52
        go_wp2_with fail
        refine (w1.out _).mono ?_
        rintro e w' ⟨rfl, rfl⟩
        go_wp2_with fail
        refine (w2.out _).mono ?_
        rintro e w' ⟨rfl, rfl⟩
        go_wp2_with fail
        refine (w3.out _).mono ?_
        rintro e w' ⟨rfl, rfl⟩
        go_wp2_with fail
        go_ret
        exact ⟨rfl, hb0.out⟩
    · have hc : (decide (0 ≤ s) && decide (s ≤ 200)) = false := by rw [← Bool.not_eq_true, Bool.and_eq_true, decide_eq_true_eq, decide_eq_true_eq]; exact h2
      rw [hc] at w2
      obtain rfl : true = bv := (elNot_t p s t (by omega)).trans HBV.out
      clear HBV h2 hc w3
      go_enter Tryd.func52, Tryd.ntmps52
      go_wp2_with fail
      refine (w1.out _).mono ?_
      rintro e w' ⟨rfl, rfl⟩
      go_wp2_with fail
      refine (w2.out _).mono ?_
      rintro e w' ⟨rfl, rfl⟩
      go_wp2_with fail
      go_ret
      exact ⟨rfl, hb0.out⟩
  · have hc : (decide (0 ≤ p) && decide (p ≤ 60000)) = false := by rw [← Bool.not_eq_true, Bool.and_eq_true, decide_eq_true_eq, decide_eq_true_eq]; exact h1
    rw [hc] at w1
    obtain rfl : true = bv := (elNot_t p s t (by omega)).trans HBV.out
    clear HBV h1 hc w2 w3
    go_enter Tryd.func52, Tryd.ntmps52
    go_wp2_with (go_at_call 35; refine (w1.out _).mono ?_; rintro e w' ⟨rfl, rfl⟩)
    go_ret
    exact ⟨rfl, hb0.out⟩

theorem egEl : ∀ args w, (callFunc 52 args).run Tryd.prog w = .ok (.enter 52 args) w := enters_of Tryd.func52 (by kernel_rfl) rfl
theorem egMR : ∀ args w, (callFunc 32 args).run Tryd.prog w = .ok (.enter 32 args) w := enters_of Tryd.func32 (by kernel_rfl) rfl

set_option maxHeartbeats 1000000 in
theorem indexEls (g : FuncId) (cb : Array Value) (eg : ∀ args w, (callFunc g args).run Tryd.prog w = .ok (.enter g args) w) (q : EL → Bool) (p : Option Addr) (cap : Nat) (xs : List EL) (W : World) (hp : Els W p xs) (hsz : xs.length < 4611686018427387904)
    (hq : ∀ x w, Below W.heap.size W w → Calls Tryd.prog g (#[.agg #[.int .i64 x.p, .int .i64 x.s, .int .i64 x.t]] ++ cb) w fun e w' => e = .returned (.bool (q x)) ∧ Below W.heap.size W w') :
    Calls Tryd.prog 71 #[.slice p xs.length cap, .func (.func g) #[] cb] W (Idx (xs.any q) W) := by
  have HP := Lib.hid hp; clear hp
  have HQ := Lib.hid hq; clear hq
  obtain ⟨an, han⟩ : ∃ an, xs.any q = an := ⟨_, rfl⟩
  rw [han]
  have HA := Lib.hid han; clear han
  go_enter Tryd.func71, Tryd.ntmps71
  go_wp2_with fail
  go_loopg [8] xs.length (fun gk vi wr => ∃ k : Nat, vi = .int .i64 k ∧ k ≤ xs.length ∧ xs.length - k ≤ gk ∧ Hid (Below W.heap.size W wr) ∧ Hid (∀ j, j < k → q xs[j]! = false))
  case atStart => exact ⟨0, rfl, Nat.zero_le _, by omega, Lib.hid (Below.refl _ _), Lib.hid fun j hj => by omega⟩
  case round =>
    obtain ⟨k, rfl, hk, hg, HB, HN⟩ := hrel
    by_cases hlt : k < xs.length
    · have hltz : (k : Int) < (xs.length : Int) := by omega
      obtain ⟨b, o, rfl, hbW, c1, c2, c3⟩ := HP.out.at_ HB.out hlt
      have hcall := HQ.out xs[k]! wr HB.out
      obtain ⟨x, hx⟩ : ∃ x, xs[k]! = x := ⟨_, rfl⟩
      rw [hx] at c1 c2 c3 hcall
      have HX := Lib.hid hx; clear hx
      cases hb : q x with
      | true =>
        rw [hb] at hcall
        have HC := Lib.hid hcall; clear hcall
        have HV := Lib.hid hb; clear hb
        go_wp2_with (go_at_fn g; refine HC.out.mono ?_; rintro e w' ⟨rfl, hb'⟩)
        go_ret
        refine ⟨hb', Or.inl ⟨?_, k, rfl⟩⟩
        rw [← HA.out, List.any_eq_true]
        exact ⟨x, by rw [← HX.out]; exact getE_mem hlt, HV.out⟩
      | false =>
        rw [hb] at hcall
        have HC := Lib.hid hcall; clear hcall
        have HV := Lib.hid hb; clear hb
        go_wp2_with (go_at_fn g; refine HC.out.mono ?_; rintro e w' ⟨rfl, hb'⟩)
        have HB' := Lib.hid hb'; clear hb'
        go_roundg (xs.length - (k + 1))
        case measure => omega
        case rel => exact ⟨k + 1, by go_num, by omega, by omega, HB', Lib.hid fun j hj => by
          by_cases c : j = k
          · rw [c, HX.out]; exact HV.out
          · exact HN.out j (by omega)⟩
    · obtain rfl : k = xs.length := by omega
      go_wp2_with fail
      go_ret
      refine ⟨HB.out, Or.inr ⟨?_, rfl⟩⟩
      rw [← HA.out, List.any_eq_false]
      intro x hx
      obtain ⟨i, hi, rfl⟩ := List.getElem_of_mem hx
      have := HN.out i hi
      rw [getElem!_pos xs i hi] at this
      simpa using this

theorem containsEls (g : FuncId) (cb : Array Value) (eg : ∀ args w, (callFunc g args).run Tryd.prog w = .ok (.enter g args) w) (q : EL → Bool) (p : Option Addr) (cap : Nat) (xs : List EL) (W : World) (hp : Els W p xs) (hsz : xs.length < 4611686018427387904)
    (hq : ∀ x w, Below W.heap.size W w → Calls Tryd.prog g (#[.agg #[.int .i64 x.p, .int .i64 x.s, .int .i64 x.t]] ++ cb) w fun e w' => e = .returned (.bool (q x)) ∧ Below W.heap.size W w') :
    Calls Tryd.prog 51 #[.slice p xs.length cap, .func (.func g) #[] cb] W fun e w' => e = .returned (.bool (xs.any q)) ∧ Below W.heap.size W w' := by
  have h := Lib.hid (indexEls g cb eg q p cap xs W hp hsz hq)
  obtain ⟨an, han⟩ : ∃ an, xs.any q = an := ⟨_, rfl⟩
  rw [han] at h ⊢
  clear hq hp han eg
  go_enter Tryd.func51, Tryd.ntmps51
  go_wp2_with fail
  refine h.out.mono ?_
  rintro e w' ⟨hb, ⟨ha, k, rfl⟩ | ⟨ha, rfl⟩⟩
  · subst ha
    have HB := Lib.hid hb; clear hb
    go_wp2
    go_ret
    exact ⟨rfl, HB.out⟩
  · subst ha
    have HB := Lib.hid hb; clear hb
    go_wp2
    go_ret
    exact ⟨rfl, HB.out⟩

set_option maxHeartbeats 1000000 in
theorem indexWrs (g : FuncId) (cb : Array Value) (eg : ∀ args w, (callFunc g args).run Tryd.prog w = .ok (.enter g args) w) (q : WR → Bool) (p : Option Addr) (cap : Nat) (ls : List WR) (W : World) (hp : Wrs W p ls) (hsz : ls.length < 4611686018427387904)
    (hq : ∀ x w, Below W.heap.size W w → RowAt w x → x ∈ ls → Calls Tryd.prog g (#[.agg #[.slice x.op x.of.length x.oc, .slice x.tp x.to.length x.tc]] ++ cb) w fun e w' => e = .returned (.bool (q x)) ∧ Below W.heap.size W w') :
    Calls Tryd.prog 59 #[.slice p ls.length cap, .func (.func g) #[] cb] W (Idx (ls.any q) W) := by
  have HP := Lib.hid hp; clear hp
  have HQ := Lib.hid hq; clear hq
  obtain ⟨an, han⟩ : ∃ an, ls.any q = an := ⟨_, rfl⟩
  rw [han]
  have HA := Lib.hid han; clear han
  go_enter Tryd.func59, Tryd.ntmps59
  go_wp2_with fail
  go_loopg [8] ls.length (fun gk vi wr => ∃ k : Nat, vi = .int .i64 k ∧ k ≤ ls.length ∧ ls.length - k ≤ gk ∧ Hid (Below W.heap.size W wr) ∧ Hid (∀ j, j < k → q ls[j]! = false))
  case atStart => exact ⟨0, rfl, Nat.zero_le _, by omega, Lib.hid (Below.refl _ _), Lib.hid fun j hj => by omega⟩
  case round =>
    obtain ⟨k, rfl, hk, hg, HB, HN⟩ := hrel
    by_cases hlt : k < ls.length
    · have hltz : (k : Int) < (ls.length : Int) := by omega
      obtain ⟨b, o, rfl, hbW, c1, c2, c3⟩ := HP.out.at_ HB.out hlt
      have hcall := HQ.out ls[k]! wr HB.out c3 (getW_mem hlt)
      obtain ⟨x, hx⟩ : ∃ x, ls[k]! = x := ⟨_, rfl⟩
      rw [hx] at c1 c2 hcall
      clear c3
      have HX := Lib.hid hx; clear hx
      cases hb : q x with
      | true =>
        rw [hb] at hcall
        have HC := Lib.hid hcall; clear hcall
        have HV := Lib.hid hb; clear hb
        go_wp2_with (go_at_fn g; refine HC.out.mono ?_; rintro e w' ⟨rfl, hb'⟩)
        go_ret
        refine ⟨hb', Or.inl ⟨?_, k, rfl⟩⟩
        rw [← HA.out, List.any_eq_true]
        exact ⟨x, by rw [← HX.out]; exact getW_mem hlt, HV.out⟩
      | false =>
        rw [hb] at hcall
        have HC := Lib.hid hcall; clear hcall
        have HV := Lib.hid hb; clear hb
        go_wp2_with (go_at_fn g; refine HC.out.mono ?_; rintro e w' ⟨rfl, hb'⟩)
        have HB' := Lib.hid hb'; clear hb'
        go_roundg (ls.length - (k + 1))
        case measure => omega
        case rel => exact ⟨k + 1, by go_num, by omega, by omega, HB', Lib.hid fun j hj => by
          by_cases c : j = k
          · rw [c, HX.out]; exact HV.out
          · exact HN.out j (by omega)⟩
    · obtain rfl : k = ls.length := by omega
      go_wp2_with fail
      go_ret
      refine ⟨HB.out, Or.inr ⟨?_, rfl⟩⟩
      rw [← HA.out, List.any_eq_false]
      intro x hx
      obtain ⟨i, hi, rfl⟩ := List.getElem_of_mem hx
      have := HN.out i hi
      rw [getElem!_pos ls i hi] at this
      simpa using this

theorem containsWrs (g : FuncId) (cb : Array Value) (eg : ∀ args w, (callFunc g args).run Tryd.prog w = .ok (.enter g args) w) (q : WR → Bool) (p : Option Addr) (cap : Nat) (ls : List WR) (W : World) (hp : Wrs W p ls) (hsz : ls.length < 4611686018427387904)
    (hq : ∀ x w, Below W.heap.size W w → RowAt w x → x ∈ ls → Calls Tryd.prog g (#[.agg #[.slice x.op x.of.length x.oc, .slice x.tp x.to.length x.tc]] ++ cb) w fun e w' => e = .returned (.bool (q x)) ∧ Below W.heap.size W w') :
    Calls Tryd.prog 37 #[.slice p ls.length cap, .func (.func g) #[] cb] W fun e w' => e = .returned (.bool (ls.any q)) ∧ Below W.heap.size W w' := by
  have h := Lib.hid (indexWrs g cb eg q p cap ls W hp hsz hq)
  obtain ⟨an, han⟩ : ∃ an, ls.any q = an := ⟨_, rfl⟩
  rw [han] at h ⊢
  clear hq hp han eg
  go_enter Tryd.func37, Tryd.ntmps37
  go_wp2_with fail
  refine h.out.mono ?_
  rintro e w' ⟨hb, ⟨ha, k, rfl⟩ | ⟨ha, rfl⟩⟩
  · subst ha
    have HB := Lib.hid hb; clear hb
    go_wp2
    go_ret
    exact ⟨rfl, HB.out⟩
  · subst ha
    have HB := Lib.hid hb; clear hb
    go_wp2
    go_ret
    exact ⟨rfl, HB.out⟩
end Go.Proofs.YtcocmmndonlhkaaDoor
namespace Go.Proofs.YtcocmmndonlhkaaDoor
open Go.RowKit Go.Gz Go.Sort

theorem rune_cell (w : World) (x : Int) (t : TypeId) : ∀ j, j < 1 → (w.alloc (.cells #[.int .i32 x] t)).cell? ⟨w.heap.size, j, none⟩ = some (.int .i32 ([x].getD j 0)) := by
  intro j hj
  obtain rfl : j = 0 := by omega
  rw [World.cell?_alloc_new]; rfl

set_option maxHeartbeats 1000000 in
set_option maxRecDepth 100000 in
theorem with_any (s : List Int) (q : Option Addr) (c : Nat) (r : Int) (W : World) (hs : Row W .i32 q s) (hqc : q = none → c = 0) (hz : s.length ≤ 100000) :
    Calls Tryd.prog 67 #[.slice q s.length c, .int .i32 r] W (RetOwn W (s ++ [r])) := by
  have HS := Lib.hid hs; clear hs
  have HC := Lib.hid hqc; clear hqc
  obtain ⟨i0, hi, hz0, hz1, hz2⟩ := info_parts info_rune
  go_enter Tryd.func67, Tryd.ntmps67
  go_wp2_with (at_make; refine wpList_make_own _ rfl _ _ 24 rfl W.heap.size 21 i0 (.int .i32 0) 1 Tryd.underlying24 hi hz0 hz1 _ _ _ (s.length + 1) rfl rfl rfl ?by1 ?by2 (Nat.le_refl _) ?_)
  case by1 => rw [hz2]; omega
  case by2 => unfold maxLen; omega
  intro w2 hown hgrow
  have hb2 := Lib.hid ((Below.refl W.heap.size W).grown hgrow (Nat.le_refl _) (fun k hk => by cases hk))
  have HO := Lib.hid (show Own w2 W.heap.size 21 .i32 _ [] from hown)
  clear hown hgrow hi hz0 hz1 hz2
  have hs2 := hb2.out.size
  go_wp2_with (at_builtin; refine wpList_own_row rfl _ _ 24 rfl 21 .i32 4 Tryd.underlying24 info_rune (by decide) W.heap.size _ _ rfl HO.out q c s rfl (HS.out.below hb2.out) HC.out (by simp only [List.length_nil]; omega) hs2 ?_)
  intro v3 w3 hown3 hgrow3
  have HB3 := Lib.hid (hb2.out.grown hgrow3 hs2 (fun g hg => HO.out.lt g hg))
  have HO3 := Lib.hid hown3
  clear hown3 hgrow3 HO
  have hs3 := HB3.out.size
  go_wp2_with (at_builtin; refine wpList_own_push rfl _ _ 24 rfl 21 .i32 4 Tryd.underlying24 info_rune (by decide) W.heap.size _ _ rfl (HO3.out.alloc _) w3.heap.size 1 1 [r] rfl rfl ?newCells ?lenOk ?below ?_)
  case newCells => exact rune_cell _ _ _
  case lenOk => omega
  case below => simp; omega
  intro v4 w4 hown4 hgrow4
  have HB4 := Lib.hid ((HB3.out.alloc hs3 _).grown hgrow4 (by simp; omega) (fun g hg => HO3.out.lt g hg))
  have HO4 := Lib.hid hown4
  clear hown4 hgrow4 HO3
  go_wp2_with fail
  go_ret
  exact ⟨v4, rfl, HB4.out, HO4.out⟩

set_option maxHeartbeats 1000000 in
theorem equal_any (a b : List Int) (p q : Option Addr) (c d : Nat) (W : World) (hp : Row W .i32 p a) (hq : Row W .i32 q b) (ha : a.length < 4611686018427387904) (_hb : b.length < 4611686018427387904) :
    Calls Tryd.prog 70 #[.slice p a.length c, .slice q b.length d] W fun e w' => e = .returned (.bool (decide (a = b))) ∧ Below W.heap.size W w' := by
  have HP := Lib.hid hp; clear hp
  have HQ := Lib.hid hq; clear hq
  obtain ⟨bv, hbv⟩ : ∃ bv, decide (a = b) = bv := ⟨_, rfl⟩
  rw [hbv]
  have HV := Lib.hid hbv; clear hbv
  by_cases hl : a.length = b.length
  · have hne : ((a.length : Int) != (b.length : Int)) = false := by simp [hl]
    have HL := Lib.hid hl; clear hl
    go_enter Tryd.func70, Tryd.ntmps70
    go_wp2_with fail
    go_loopg [13] a.length (fun g va wr => ∃ k : Nat, va = .int .i64 k ∧ k ≤ a.length ∧ a.length - k ≤ g ∧ Hid (Below W.heap.size W wr) ∧ Hid (∀ j, j < k → a.getD j 0 = b.getD j 0))
    case atStart => exact ⟨0, rfl, Nat.zero_le _, by omega, Lib.hid (Below.refl _ _), Lib.hid fun j hj => by omega⟩
    case round =>
      obtain ⟨k, rfl, hk, hg, HB, HN⟩ := hrel
      by_cases hlt : k < a.length
      · have hltz : (k : Int) < (a.length : Int) := by omega
        have hltb : k < b.length := by have := HL.out; omega
        have hltbz : (k : Int) < (b.length : Int) := by omega
        obtain ⟨b1, o1, rfl, _, c1⟩ := row_cell HP.out HB.out hlt
        obtain ⟨b2, o2, rfl, _, c2⟩ := row_cell HQ.out HB.out hltb
        obtain ⟨x, hx⟩ : ∃ x, a.getD k 0 = x := ⟨_, rfl⟩
        obtain ⟨y, hy⟩ : ∃ x, b.getD k 0 = x := ⟨_, rfl⟩
        rw [hx] at c1
        rw [hy] at c2
        have HX := Lib.hid hx; clear hx
        have HY := Lib.hid hy; clear hy
        by_cases he : x = y
        · have heb : ((x : Int) != y) = false := by simp [he]
          have HE := Lib.hid he; clear he
          go_wp2_with fail
          go_quiet (fail)
          go_wp2_with fail
          go_roundg (a.length - (k + 1))
          case measure => omega
          case rel => exact ⟨k + 1, by go_num, by omega, by omega, Lib.hid (below_drewN HB.out _), Lib.hid fun j hj => by
            by_cases c : j = k
            · rw [c, HX.out, HY.out, HE.out]
            · exact HN.out j (by omega)⟩
        · have heb : ((x : Int) != y) = true := by simp [he]
          have HE := Lib.hid he; clear he
          go_wp2_with fail
          go_quiet (fail)
          go_wp2_with fail
          go_ret
          refine ⟨?_, below_drewN HB.out _⟩
          have : bv = false := by
            rw [← HV.out]
            refine decide_eq_false fun h => HE.out ?_
            rw [← HX.out, ← HY.out, h]
          rw [this]; rfl
      · obtain rfl : k = a.length := by omega
        have hltz : ¬ (a.length : Int) < (a.length : Int) := by omega
        go_wp2_with fail
        go_ret
        refine ⟨?_, HB.out⟩
        have : bv = true := by
          rw [← HV.out]
          refine decide_eq_true (List.ext_getElem HL.out fun i h1 h2 => ?_)
          have := HN.out i h1
          simpa [List.getD, h1, h2] using this
        rw [this]; rfl
  · have hne : ((a.length : Int) != (b.length : Int)) = true := by simp; omega
    have hf : false = bv := by rw [← HV.out]; exact (decide_eq_false fun h => hl (by rw [h])).symm
    subst hf
    clear HV hl
    go_enter Tryd.func70, Tryd.ntmps70
    go_wp2_with fail
    go_ret
    exact ⟨rfl, Below.refl _ _⟩

theorem may_nil : mayB [] = true := by kernel_rfl
/-- may each rune be, and has none a To. -/
def wholeB (ls : List LR) (s : List Int) : Bool := !s.any mayNotB && decide (apartL ls s = s)
set_option maxHeartbeats 1000000 in
theorem whole_any (ls : List LR) (hm : mayB ls = true) (p : Option Addr) (cap : Nat) (s : List Int) (q : Option Addr) (c : Nat) (W : World) (hl : Lores W p ls) (hs : Row W .i32 q s) (hsz : ls.length < 1000000) (hz : s.length ≤ 100000) :
    Calls Tryd.prog 50 #[.slice p ls.length cap, .slice q s.length c] W fun e w' => e = .returned (.bool (wholeB ls s)) ∧ Below W.heap.size W w' := by
  unfold wholeB
  cases hv : s.any mayNotB with
  | true =>
    have h1 := Lib.hid (normal_text [] may_nil none 0 s hv q c W (Or.inl rfl) hs (by decide) hz)
    clear hl hs hm hv
    go_enter Tryd.func50, Tryd.ntmps50
    go_wp2_with fail
    refine h1.out.mono ?_
    rintro e w1 ⟨rfl, hb1⟩
    have HB := Lib.hid hb1; clear hb1
    go_wp2_with fail
    go_ret
    exact ⟨rfl, HB.out⟩
  | false =>
    have h1 := Lib.hid (normal_ok [] may_nil none 0 s hv q c W (Or.inl rfl) hs (by decide) hz)
    have h2 := Lib.hid (fun w hb => apart_any ls (may_rising hm) (le3_of (may_wrong hm)) p cap s q c w (hl.below hb) (hs.below hb) hsz hz)
    have hlen := apart_le (le3_of (may_wrong hm)) s
    have HS := Lib.hid hs
    clear hl hs hm hv
    generalize apartL ls s = ys at h2 hlen ⊢
    go_enter Tryd.func50, Tryd.ntmps50
    go_wp2_with fail
    refine h1.out.mono ?_
    rintro e w1 ⟨v1, rfl, hb1, _⟩
    have HB1 := Lib.hid hb1; clear hb1
    go_wp2_with fail
    refine (h2.out w1 HB1.out).mono ?_
    rintro e w2 ⟨v2, rfl, hb2, hown2⟩
    have HB2 := Lib.hid (HB1.out.trans (hb2.mono HB1.out.size))
    obtain ⟨q', c', rfl, _, hrow⟩ := Own.row hown2
    have h3 := Lib.hid (equal_any ys s q' q c' c w2 hrow (HS.out.below HB2.out) (by omega) (by omega))
    clear hb2 hown2 hrow
    go_wp2_with fail
    refine h3.out.mono ?_
    rintro e w3 ⟨rfl, hb3⟩
    have HB3 := Lib.hid (HB2.out.trans (hb3.mono HB2.out.size))
    clear hb3
    go_wp2_with fail
    go_ret
    exact ⟨rfl, HB3.out⟩

/-- may this row be, in a table with these rows. -/
def mayRowB (ls : List LR) (rs : List WR) (x : WR) : Bool := (decide (1 ≤ x.of.length) && (decide (x.of.length ≤ 3) && wholeB ls x.of)) && ((decide (x.to.length ≤ 4) && !x.to.any elNotB) && isL rs (x.of.take 1))
end Go.Proofs.YtcocmmndonlhkaaDoor
namespace Go.Proofs.YtcocmmndonlhkaaDoor
open Go.RowKit Go.Gz Go.Sort

theorem row_take {w : World} {k : IntKind} {p : Option Addr} {xs : List Int} (h : Row w k p xs) (n : Nat) : Row w k p (xs.take n) := by
  rcases h with h | ⟨b, off, hp, hlt, hc⟩
  · exact Or.inl (by rw [h]; simp)
  · refine Or.inr ⟨b, off, hp, hlt, fun j hj => ?_⟩
    rw [List.length_take] at hj
    rw [hc j (by omega)]
    simp [List.getD, show j < n by omega]

/-- two boxes: a table, and a row. -/
abbrev boxTR (w : World) (lp : Option Addr) (ln lc : Nat) (rp : Option Addr) (rn rc : Nat) (top : Int) (sh : Bool) (op : Option Addr) (on oc : Nat) (tp : Option Addr) (tn tc : Nat) : World :=
  (w.alloc (.cells #[.slice lp ln lc, .slice rp rn rc, .int .i64 top, .bool sh] 33)).alloc (.cells #[.slice op on oc, .slice tp tn tc] 29)

set_option maxHeartbeats 4000000 in
set_option maxRecDepth 100000 in
theorem mayRow_walk (lp : Option Addr) (ln lc : Nat) (rp : Option Addr) (rn rc : Nat) (top : Int) (sh : Bool) (op : Option Addr) (on oc : Nat) (tp : Option Addr) (tn tc : Nat) (bw be bi : Bool) (fx : WR) (W : World)
    (hon : on ≤ oc)
    (hw : Hid (1 ≤ on → on ≤ 3 → ∀ w, Below W.heap.size W w → Calls Tryd.prog 50 #[.slice lp ln lc, .slice op on oc] w fun e w' => e = .returned (.bool bw) ∧ Below w.heap.size w w'))
    (he : Hid (tn ≤ 4 → ∀ w, Below W.heap.size W w → Calls Tryd.prog 51 #[.slice tp tn tc, .func (.func 52) #[] #[]] w fun e w' => e = .returned (.bool be) ∧ Below w.heap.size w w'))
    (hr : Hid (1 ≤ on → ∀ w, Below W.heap.size W w → Calls Tryd.prog 53 #[.slice rp rn rc, .slice op 1 oc] w (RetRow w fx bi))) :
    Calls Tryd.prog 33 #[.agg #[.slice lp ln lc, .slice rp rn rc, .int .i64 top, .bool sh], .agg #[.slice op on oc, .slice tp tn tc]] W fun e w' => e = .returned (.bool ((decide (1 ≤ on) && (decide (on ≤ 3) && bw)) && ((decide (tn ≤ 4) && !be) && bi))) ∧ Below W.heap.size W w' := by
  obtain ⟨bv, hbv⟩ : ∃ bv, ((decide (1 ≤ on) && (decide (on ≤ 3) && bw)) && ((decide (tn ≤ 4) && !be) && bi)) = bv := ⟨_, rfl⟩
  rw [hbv]
  have HV := Lib.hid hbv; clear hbv
  obtain ⟨wb, hwb⟩ : ∃ wb, wb = boxTR W lp ln lc rp rn rc top sh op on oc tp tn tc := ⟨_, rfl⟩
  have hb0 := Lib.hid (show Below W.heap.size W wb from hwb ▸ ((Below.refl _ _).alloc (Nat.le_refl _) _).alloc (by simp) _)
  have hs0 : wb.heap.size = W.heap.size + 1 + 1 := by rw [hwb]; simp
  have c0 : wb.cell? ⟨W.heap.size, 0, none⟩ = some (.slice lp ln lc) := by rw [hwb]; simp [boxTR]
  have c1 : wb.cell? ⟨W.heap.size, 1, none⟩ = some (.slice rp rn rc) := by rw [hwb]; simp [boxTR]
  have d0 : wb.cell? ⟨W.heap.size + 1, 0, none⟩ = some (.slice op on oc) := by rw [hwb]; simp [boxTR]
  have d1 : wb.cell? ⟨W.heap.size + 1, 1, none⟩ = some (.slice tp tn tc) := by rw [hwb]; simp [boxTR]
  have HW := Lib.hid hwb; clear hwb
  have H0 := Lib.hid hs0; clear hs0
  have C0 := Lib.hid c0
  have C1 := Lib.hid c1
  have D0 := Lib.hid d0
  have D1 := Lib.hid d1
  clear c0 c1 d0 d1
  by_cases h1 : 1 ≤ on
  · have h1z : (1 : Int) ≤ (on : Int) := by omega
    have h1b : decide ((on : Int) < 1) = false := decide_eq_false (by omega)
    by_cases h3 : on ≤ 3
    · have h3z : (on : Int) ≤ 3 := by omega
      have h3b : decide (3 < (on : Int)) = false := decide_eq_false (by omega)
      have hww := Lib.hid (hw.out h1 h3 wb hb0.out)
      have HR := Lib.hid (hr.out h1)
      have H3 := Lib.hid h3; clear h3
      have H1 := Lib.hid h1; clear h1
      clear hw hr
      go_enter Tryd.func33, Tryd.ntmps33
      have c0 := C0.out
      have d0 := D0.out
      rw [HW.out] at c0 d0
      go_wp2_with fail
      rw [show (W.alloc _).alloc _ = wb from HW.out.symm]
      refine hww.out.mono ?_
      rintro e w1 ⟨rfl, hb1⟩
      clear c0 d0
      have hs1 := hb1.size
      have c1' : w1.cell? ⟨W.heap.size, 1, none⟩ = some (.slice rp rn rc) := by rw [hb1.cell (p := ⟨W.heap.size, 1, none⟩) (by rw [H0.out]; show W.heap.size < _; omega)]; exact C1.out
      have d0' : w1.cell? ⟨W.heap.size + 1, 0, none⟩ = some (.slice op on oc) := by rw [hb1.cell (p := ⟨W.heap.size + 1, 0, none⟩) (by rw [H0.out]; show W.heap.size + 1 < _; omega)]; exact D0.out
      have d1' : w1.cell? ⟨W.heap.size + 1, 1, none⟩ = some (.slice tp tn tc) := by rw [hb1.cell (p := ⟨W.heap.size + 1, 1, none⟩) (by rw [H0.out]; show W.heap.size + 1 < _; omega)]; exact D1.out
      have HB1 := Lib.hid (hb0.out.trans (hb1.mono hb0.out.size))
      rw [H0.out] at hs1
      clear hb1
      cases bw with
      | false =>
        have e0 := Lib.hid (show bv = false by rw [← HV.out]; simp)
        go_wp2_with fail
        go_ret
        exact ⟨by rw [e0.out]; rfl, HB1.out⟩
      | true =>
        by_cases h4 : tn ≤ 4
        · have h4z : (tn : Int) ≤ 4 := by omega
          have h4b : decide (4 < (tn : Int)) = false := decide_eq_false (by omega)
          have HE := Lib.hid (he.out h4 w1 HB1.out)
          have H4 := Lib.hid h4; clear h4
          clear he
          go_wp2_with fail
          refine HE.out.mono ?_
          rintro e w2 ⟨rfl, hb2⟩
          have hs2 := hb2.size
          have c1'' : w2.cell? ⟨W.heap.size, 1, none⟩ = some (.slice rp rn rc) := by rw [hb2.cell (p := ⟨W.heap.size, 1, none⟩) (by show W.heap.size < _; omega)]; exact c1'
          have d0'' : w2.cell? ⟨W.heap.size + 1, 0, none⟩ = some (.slice op on oc) := by rw [hb2.cell (p := ⟨W.heap.size + 1, 0, none⟩) (by show W.heap.size + 1 < _; omega)]; exact d0'
          have HB2 := Lib.hid (HB1.out.trans (hb2.mono HB1.out.size))
          clear hb2 c1' d0' d1' HE
          cases be with
          | true =>
            have e0 := Lib.hid (show bv = false by rw [← HV.out]; simp)
            go_wp2_with fail
            go_ret
            exact ⟨by rw [e0.out]; rfl, HB2.out⟩
          | false =>
            have e0 := Lib.hid (show bv = bi by rw [← HV.out]; simp [H1.out, H3.out, H4.out])
            have HB2d := Lib.hid HB2.out.drew
            have a1 : (w2.alloc (.cells #[.slice none 0 0, .slice none 0 0] 29)).cell? ⟨W.heap.size, 1, none⟩ = some (.slice rp rn rc) := by rw [World.cell?_alloc_lt _ _ ⟨W.heap.size, 1, none⟩ (by show W.heap.size < _; omega)]; exact c1''
            have a0 : (w2.alloc (.cells #[.slice none 0 0, .slice none 0 0] 29)).cell? ⟨W.heap.size + 1, 0, none⟩ = some (.slice op on oc) := by rw [World.cell?_alloc_lt _ _ ⟨W.heap.size + 1, 0, none⟩ (by show W.heap.size + 1 < _; omega)]; exact d0''
            have HB2a := Lib.hid (HB2.out.alloc (by omega) (.cells #[.slice none 0 0, .slice none 0 0] 29)).drew
            have hon1 : (1 : Int) ≤ (oc : Int) := by have := H1.out; omega
            go_wp2_with fail
            go_region_with (go_at_call 53; first | (refine (HR.out _ HB2d.out).mono ?_; rintro e w3 ⟨rfl, hb3, _⟩) | (refine (HR.out _ HB2a.out).mono ?_; rintro e w3 ⟨rfl, hb3, _⟩; have q0 : w3.cell? ⟨w2.heap.size, 0, none⟩ = some (.slice none 0 0) := by {rw [hb3.cell (p := ⟨w2.heap.size, 0, none⟩) (by simp)]; simp}; have q1 : w3.cell? ⟨w2.heap.size, 1, none⟩ = some (.slice none 0 0) := by {rw [hb3.cell (p := ⟨w2.heap.size, 1, none⟩) (by simp)]; simp}; have q2 : w3.frozen? ⟨w2.heap.size, 0, none⟩ = false := by {rw [hb3.frozen (p := ⟨w2.heap.size, 0, none⟩) (by simp)]; simp}; have q3 : w3.frozen? ⟨w2.heap.size, 1, none⟩ = false := by {rw [hb3.frozen (p := ⟨w2.heap.size, 1, none⟩) (by simp)]; simp}))
            all_goals go_wp2_with fail
            all_goals go_ret
            all_goals refine ⟨by rw [e0.out]; rfl, ?_⟩
            all_goals first
              | exact (HB2d.out.trans (hb3.mono HB2d.out.size)).alloc (HB2d.out.trans (hb3.mono HB2d.out.size)).size _
              | exact ((HB2a.out.trans (hb3.mono HB2a.out.size)).setCell (p := ⟨w2.heap.size, 0, none⟩) HB2.out.size _).setCell (p := ⟨w2.heap.size, 1, none⟩) HB2.out.size _
        · have h4b : (4 : Int) < (tn : Int) := by omega
          have H4 := Lib.hid h4; clear h4 he
          have e0 := Lib.hid (show bv = false by rw [← HV.out]; simp [H4.out])
          go_wp2_with fail
          go_ret
          exact ⟨by rw [e0.out]; rfl, HB1.out⟩
    · have h3b : 3 < (on : Int) := by omega
      have H3 := Lib.hid h3; clear h3 hw he hr
      have e0 := Lib.hid (show bv = false by rw [← HV.out]; simp [H3.out])
      go_enter Tryd.func33, Tryd.ntmps33
      go_wp2_with fail
      go_ret
      exact ⟨by rw [e0.out]; rfl, by have := hb0.out; rw [HW.out] at this; exact this⟩
  · have h1b : (on : Int) < 1 := by omega
    have H1 := Lib.hid h1; clear h1 hw he hr
    have e0 := Lib.hid (show bv = false by rw [← HV.out]; simp [H1.out])
    go_enter Tryd.func33, Tryd.ntmps33
    go_wp2_with fail
    go_ret
    exact ⟨by rw [e0.out]; rfl, by have := hb0.out; rw [HW.out] at this; exact this⟩
set_option maxRecDepth 100000 in
theorem mayRow_any (T : TB) (hm : mayB T.ls = true) (hr : RisingW T.rs) (x : WR) (W : World) (hT : TableAt W T) (hx : RowAt W x) (hof : x.of.length ≤ 9223372036854775807) (hto : x.to.length ≤ 9223372036854775807) :
    Calls Tryd.prog 33 #[.agg #[.slice T.lp T.ls.length T.lc, .slice T.rp T.rs.length T.rc, .int .i64 T.top, .bool T.sh], .agg #[.slice x.op x.of.length x.oc, .slice x.tp x.to.length x.tc]] W fun e w' => e = .returned (.bool (mayRowB T.ls T.rs x)) ∧ Below W.heap.size W w' := by
  unfold mayRowB
  refine mayRow_walk _ _ _ _ _ _ _ _ _ _ _ _ _ _ _ _ _ (fndL T.rs (x.of.take 1)) W hx.1.2.1 (Lib.hid fun _ h3 w hb => whole_any T.ls hm T.lp T.lc x.of x.op x.oc w (hT.lore.below hb) (hx.1.1.below hb) hT.few.1 (by omega)) (Lib.hid fun _ w hb => containsEls 52 #[] egEl elNotB x.tp x.tc x.to w (hx.2.1.below hb) (by omega) fun y w1 hb1 => (elNot_any y w1).mono fun _ _ h => ⟨h.1, hb1.trans (h.2.mono hb1.size)⟩) (Lib.hid fun h1 w hb => ?_)
  have hlen : (x.of.take 1).length = 1 := by rw [List.length_take]; omega
  have := rowOf_any T.rs hr T.rp T.rc (x.of.take 1) x.op x.oc w (hT.rows.below hb) (row_take (hx.1.1.below hb) 1) hT.few.2.1 (by rw [hlen]; decide) fun y hy => (hT.few.2.2 y hy).1
  rw [hlen] at this
  exact this
end Go.Proofs.YtcocmmndonlhkaaDoor
namespace Go.Proofs.YtcocmmndonlhkaaDoor
open Go.RowKit Go.Gz Go.Sort

set_option maxHeartbeats 2000000 in
set_option maxRecDepth 100000 in
theorem riseW_any (rs : List WR) (p : Option Addr) (cap : Nat) (W : World) (hl : Wrs W p rs) (hsz : rs.length < 1000000) (hof : ∀ x ∈ rs, x.of.length ≤ 9223372036854775807) :
    Calls Tryd.prog 36 #[.slice p rs.length cap] W fun e w' => e = .returned (.bool (riseWB rs)) ∧ Below W.heap.size W w' := by
  have HL := Lib.hid hl; clear hl
  have HF := Lib.hid hof; clear hof
  obtain ⟨an, han⟩ : ∃ an, riseWB rs = an := ⟨_, rfl⟩
  rw [han]
  have HA := Lib.hid han; clear han
  have mx := mixedL
  go_enter Tryd.func36, Tryd.ntmps36
  go_wp2_with fail
  go_loopg [3] rs.length (fun g va wr => ∃ k : Nat, va = .int .i64 k ∧ 1 ≤ k ∧ (k ≤ rs.length ∨ k = 1) ∧ rs.length + 1 - k ≤ g + 1 ∧ Hid (Below W.heap.size W wr) ∧ Hid (∀ j, j + 1 < k → cmpL rs[j]!.of rs[j + 1]!.of < 0))
  case atStart => exact ⟨1, rfl, by omega, Or.inr rfl, by omega, Lib.hid (Below.refl _ _), Lib.hid fun j hj => by omega⟩
  case round =>
    obtain ⟨k, rfl, hk1, hk2, hg, HB, HN⟩ := hrel
    by_cases hlt : k < rs.length
    · obtain ⟨i, rfl⟩ : ∃ i : Nat, k = i + 1 := ⟨k - 1, by omega⟩
      have hltz : (i : Int) + 1 < (rs.length : Int) := by omega
      have hin : i < rs.length := by omega
      obtain ⟨b, off, rfl, hbW, c1, _, hrc⟩ := HL.out.at_ HB.out hlt
      obtain ⟨b', off', hpe, hbW', d1, d2, hrd⟩ := HL.out.at_ HB.out hin
      simp only [Option.some.injEq, Addr.mk.injEq, and_true] at hpe
      obtain ⟨rfl, rfl⟩ := hpe
      have hfy := HF.out _ (getW_mem hlt)
      have hfx := HF.out _ (getW_mem hin)
      obtain ⟨y, hy⟩ : ∃ y, rs[i + 1]! = y := ⟨_, rfl⟩
      obtain ⟨x, hx⟩ : ∃ x, rs[i]! = x := ⟨_, rfl⟩
      rw [hy] at c1 hrc hfy
      rw [hx] at d1 d2 hrd hfx
      have HX := Lib.hid hx; clear hx
      have HY := Lib.hid hy; clear hy
      have hsr := HB.out.size
      have hbr : b < wr.heap.size := by omega
      have hc := Lib.hid (fun pw : BelowOf wr => Calls.below_of pw (compareRow_any x y.of y.op y.oc pw.w' (hrd.below pw.h) (hrc.1.1.below pw.h) (by omega)))
      have f1 := fun pw : BelowOf wr => pw.cell (a := ⟨b, off + (i + 1) * 2, none⟩) hbr c1
      have f2 := fun pw : BelowOf wr => pw.cell (a := ⟨b, off + i * 2, none⟩) hbr d1
      have f3 := fun pw : BelowOf wr => pw.cell (a := ⟨b, off + i * 2 + 1, none⟩) hbr d2
      clear c1 d1 d2 hrc hrd
      obtain ⟨z, hz⟩ : ∃ z, cmpL x.of y.of = z := ⟨_, rfl⟩
      rw [hz] at hc
      have HZ := Lib.hid hz; clear hz
      have jz1 : (i : Int) < (rs.length : Int) := by omega
      have p0 : (0 : Int) ≤ (i : Int) + 1 := by omega
      have e0 : ((i : Int) + 1).toNat = i + 1 := by omega
      have hwp : IntKind.i64.wrap (i : Int) = (i : Int) := by rw [IntKind.wrap_i64]; omega
      by_cases hge : 0 ≤ z
      · go_wp2_with fail
        refine wp_region_quiet_below (by assumption) (by kernel_rfl) ?_
        repeat (go_big_quiet_step (first | (go_at_call 58; with_reducible exact hc.out _)))
        refine wpQuiet_nil ?_
        intro _ hw'
        obtain ⟨⟨wq, hbq⟩, hw''⟩ := hw'
        subst hw''
        have HBq := Lib.hid (HB.out.trans (hbq.mono hsr))
        clear hbq
        go_wp2_with fail
        go_ret
        refine ⟨?_, HBq.out⟩
        have : an = false := by
          rw [← HA.out, ← Bool.not_eq_true, riseWB_iff]
          intro h
          have := h i (i + 1) (by omega) (by omega)
          rw [HX.out, HY.out, HZ.out] at this; omega
        rw [this]; rfl
      · go_wp2_with fail
        refine wp_region_quiet_below (by assumption) (by kernel_rfl) ?_
        repeat (go_big_quiet_step (first | (go_at_call 58; with_reducible exact hc.out _)))
        refine wpQuiet_nil ?_
        intro _ hw'
        obtain ⟨⟨wq, hbq⟩, hw''⟩ := hw'
        subst hw''
        have HBq := Lib.hid (HB.out.trans (hbq.mono hsr))
        clear hbq
        go_wp2_with fail
        go_roundg (rs.length - (i + 2))
        case measure => omega
        case rel => exact ⟨i + 1 + 1, by go_num, by omega, by omega, by omega, HBq, Lib.hid fun j hj => by
          by_cases c : j = i
          · rw [c, HX.out, HY.out, HZ.out]; omega
          · exact HN.out j (by omega)⟩
    · have hltz : ¬ (k : Int) < (rs.length : Int) := by omega
      go_wp2_with fail
      go_ret
      refine ⟨?_, HB.out⟩
      have : an = true := by
        rw [← HA.out]
        unfold riseWB
        rw [List.all_eq_true]
        intro i hi
        exact decide_eq_true (HN.out i (by have := List.mem_range.1 hi; omega))
      rw [this]; rfl

set_option maxHeartbeats 1000000 in
theorem may1_any (T : TB) (hm : mayB T.ls = true) (hr : RisingW T.rs) (x : WR) (B : Nat) (W : World) (hT : TableAt W T) (hx : RowAt W x) (hof : x.of.length ≤ 9223372036854775807) (hto : x.to.length ≤ 9223372036854775807)
    (hB : B < W.heap.size) (c0 : W.cell? ⟨B, 0, none⟩ = some (.slice T.lp T.ls.length T.lc)) (c1 : W.cell? ⟨B, 1, none⟩ = some (.slice T.rp T.rs.length T.rc)) (c2 : W.cell? ⟨B, 2, none⟩ = some (.int .i64 T.top)) (c3 : W.cell? ⟨B, 3, none⟩ = some (.bool T.sh)) :
    Calls Tryd.prog 32 #[.agg #[.slice x.op x.of.length x.oc, .slice x.tp x.to.length x.tc], .pointer (some ⟨B, 0, none⟩)] W fun e w' => e = .returned (.bool (!mayRowB T.ls T.rs x)) ∧ Below W.heap.size W w' := by
  obtain ⟨wb, hwb⟩ : ∃ wb, wb = W.alloc (.cells #[.slice x.op x.of.length x.oc, .slice x.tp x.to.length x.tc] 29) := ⟨_, rfl⟩
  have hb0 := Lib.hid (show Below W.heap.size W wb from hwb ▸ (Below.refl _ _).alloc (Nat.le_refl _) _)
  have h := Lib.hid (mayRow_any T hm hr x wb (hT.below hb0.out) (hx.below hb0.out) hof hto)
  obtain ⟨bv, hbv⟩ : ∃ bv, mayRowB T.ls T.rs x = bv := ⟨_, rfl⟩
  rw [hbv] at h ⊢
  have d0 : wb.cell? ⟨B, 0, none⟩ = some (.slice T.lp T.ls.length T.lc) := by rw [hb0.out.cell (p := ⟨B, 0, none⟩) hB]; exact c0
  have d1 : wb.cell? ⟨B, 1, none⟩ = some (.slice T.rp T.rs.length T.rc) := by rw [hb0.out.cell (p := ⟨B, 1, none⟩) hB]; exact c1
  have d2 : wb.cell? ⟨B, 2, none⟩ = some (.int .i64 T.top) := by rw [hb0.out.cell (p := ⟨B, 2, none⟩) hB]; exact c2
  have d3 : wb.cell? ⟨B, 3, none⟩ = some (.bool T.sh) := by rw [hb0.out.cell (p := ⟨B, 3, none⟩) hB]; exact c3
  rw [hwb] at d0 d1 d2 d3
  clear hm hr hx hT hbv c0 c1 c2 c3
  have HW := Lib.hid hwb; clear hwb
  go_enter Tryd.func32, Tryd.ntmps32
  go_wp2_with fail
  rw [← HW.out]
  refine h.out.mono ?_
  rintro e w' ⟨rfl, hb'⟩
  clear d0 d1 d2 d3
  have HB := Lib.hid (hb0.out.trans (hb'.mono hb0.out.size))
  clear hb'
  go_wp2
  go_ret
  exact ⟨rfl, HB.out⟩

/-- may a table be. -/
def mayWB (ls : List LR) (rs : List WR) (top : Int) : Bool := mayB ls && ((decide (0 ≤ top) && decide (top ≤ 60000)) && (decide (rs.length ≤ 64) && (riseWB rs && !rs.any fun x => !mayRowB ls rs x)))

/-- the table in a box, and the closure upon it in another. -/
abbrev boxMay (w : World) (lp : Option Addr) (ln lc : Nat) (rp : Option Addr) (rn rc : Nat) (top : Int) (sh : Bool) : World :=
  w.alloc (.cells #[.slice lp ln lc, .slice rp rn rc, .int .i64 top, .bool sh] 33)

set_option maxHeartbeats 4000000 in
set_option maxRecDepth 100000 in
theorem mayW_walk (lp : Option Addr) (ln lc : Nat) (rp : Option Addr) (rn rc : Nat) (top : Int) (sh : Bool) (bl br ba : Bool) (W : World)
    (h1 : Hid (∀ w, Below W.heap.size W w → Calls Tryd.prog 34 #[.slice lp ln lc] w fun e w' => e = .returned (.bool bl) ∧ Below w.heap.size w w'))
    (h2 : Hid (∀ w, Below W.heap.size W w → Calls Tryd.prog 36 #[.slice rp rn rc] w fun e w' => e = .returned (.bool br) ∧ Below w.heap.size w w'))
    (h3 : Hid (bl = true → br = true → ∀ w, Below (W.heap.size + 1) (boxMay W lp ln lc rp rn rc top sh) w → Calls Tryd.prog 37 #[.slice rp rn rc, .func (.func 32) #[] #[.pointer (some ⟨W.heap.size, 0, none⟩)]] w fun e w' => e = .returned (.bool ba) ∧ Below w.heap.size w w')) :
    Calls Tryd.prog 22 #[.agg #[.slice lp ln lc, .slice rp rn rc, .int .i64 top, .bool sh]] W fun e w' => e = .returned (.bool (bl && ((decide (0 ≤ top) && decide (top ≤ 60000)) && (decide (rn ≤ 64) && (br && !ba))))) ∧ Below W.heap.size W w' := by
  obtain ⟨bv, hbv⟩ : ∃ bv, (bl && ((decide (0 ≤ top) && decide (top ≤ 60000)) && (decide (rn ≤ 64) && (br && !ba)))) = bv := ⟨_, rfl⟩
  rw [hbv]
  have HV := Lib.hid hbv; clear hbv
  obtain ⟨wb, hwb⟩ : ∃ wb, wb = boxMay W lp ln lc rp rn rc top sh := ⟨_, rfl⟩
  rw [← hwb] at h3
  have hb0 := Lib.hid (show Below W.heap.size W wb from hwb ▸ (Below.refl _ _).alloc (Nat.le_refl _) _)
  have hs0 : wb.heap.size = W.heap.size + 1 := by rw [hwb]; simp
  have C1 := Lib.hid (show wb.cell? ⟨W.heap.size, 1, none⟩ = some (.slice rp rn rc) by rw [hwb]; simp [boxMay])
  have C2 := Lib.hid (show wb.cell? ⟨W.heap.size, 2, none⟩ = some (.int .i64 top) by rw [hwb]; simp [boxMay])
  have HW := Lib.hid hwb; clear hwb
  have H0 := Lib.hid hs0; clear hs0
  have h1' := Lib.hid (h1.out wb hb0.out)
  go_enter Tryd.func22, Tryd.ntmps22
  go_wp2_with fail
  rw [show W.alloc _ = wb from HW.out.symm]
  refine h1'.out.mono ?_
  rintro e w1 ⟨rfl, hb1⟩
  have hs1 := hb1.size
  rw [H0.out] at hs1
  have c1 : w1.cell? ⟨W.heap.size, 1, none⟩ = some (.slice rp rn rc) := by rw [hb1.cell (p := ⟨W.heap.size, 1, none⟩) (by rw [H0.out]; show W.heap.size < _; omega)]; exact C1.out
  have c2 : w1.cell? ⟨W.heap.size, 2, none⟩ = some (.int .i64 top) := by rw [hb1.cell (p := ⟨W.heap.size, 2, none⟩) (by rw [H0.out]; show W.heap.size < _; omega)]; exact C2.out
  have HB1 := Lib.hid (hb0.out.trans (hb1.mono hb0.out.size))
  have HC1 := Lib.hid (hb1.mono (show W.heap.size + 1 ≤ wb.heap.size by rw [H0.out]; exact Nat.le_refl _))
  clear hb1 h1 h1'
  cases bl with
  | false =>
    have e0 := Lib.hid (show bv = false by rw [← HV.out]; simp)
    go_wp2_with fail
    go_ret
    exact ⟨by rw [e0.out]; rfl, HB1.out⟩
  | true =>
    have hwi := Lib.hid (within_any top 60000)
    by_cases ht : 0 ≤ top ∧ top ≤ 60000
    · rw [decide_eq_true ht.1, decide_eq_true ht.2] at hwi
      have HT := Lib.hid ht; clear ht
      by_cases hn : rn ≤ 64
      · have hnz : (rn : Int) ≤ 64 := by omega
        have HN := Lib.hid hn; clear hn
        have h2' := Lib.hid (h2.out w1 HB1.out)
        go_wp2_with fail
        refine (hwi.out _).mono ?_
        rintro e w' ⟨rfl, rfl⟩
        go_wp2_with fail
        refine h2'.out.mono ?_
        rintro e w2 ⟨rfl, hb2⟩
        have hs2 := hb2.size
        have c1' : w2.cell? ⟨W.heap.size, 1, none⟩ = some (.slice rp rn rc) := by rw [hb2.cell (p := ⟨W.heap.size, 1, none⟩) (by show W.heap.size < _; omega)]; exact c1
        have HB2 := Lib.hid (HB1.out.trans (hb2.mono HB1.out.size))
        have HC2 := Lib.hid (HC1.out.trans (hb2.mono (by omega)))
        clear hb2 c1 c2 h2 h2'
        cases br with
        | false =>
          have e0 := Lib.hid (show bv = false by rw [← HV.out]; simp)
          go_wp2_with fail
          go_ret
          exact ⟨by rw [e0.out]; rfl, HB2.out⟩
        | true =>
          have h3' := Lib.hid (h3.out (by simp) (by simp) w2 HC2.out)
          clear h3
          have e0 := Lib.hid (show bv = !ba by rw [← HV.out]; simp [HT.out.1, HT.out.2, HN.out])
          go_wp2_with fail
          refine h3'.out.mono ?_
          rintro e w3 ⟨rfl, hb3⟩
          have HB3 := Lib.hid (HB2.out.trans (hb3.mono HB2.out.size))
          clear hb3
          go_wp2_with fail
          go_ret
          exact ⟨by rw [e0.out]; rfl, HB3.out⟩
      · have hnz : decide ((rn : Int) ≤ 64) = false := decide_eq_false (by omega)
        have e0 := Lib.hid (show bv = false by rw [← HV.out]; simp [hn])
        clear hn h2 h3
        go_wp2_with fail
        refine (hwi.out _).mono ?_
        rintro e w' ⟨rfl, rfl⟩
        go_wp2_with fail
        go_ret
        exact ⟨by rw [e0.out]; rfl, HB1.out⟩
    · have hd : (decide (0 ≤ top) && decide (top ≤ 60000)) = false := by rw [← Bool.not_eq_true, Bool.and_eq_true, decide_eq_true_eq, decide_eq_true_eq]; exact ht
      rw [hd] at hwi
      have e0 := Lib.hid (show bv = false by rw [← HV.out, hd]; rfl)
      clear hd ht h2 h3
      go_wp2_with fail
      refine (hwi.out _).mono ?_
      rintro e w' ⟨rfl, rfl⟩
      go_wp2_with fail
      go_ret
      exact ⟨by rw [e0.out]; rfl, HB1.out⟩

set_option maxRecDepth 100000 in
theorem mayW_any (T : TB) (W : World) (hT : TableAt W T) :
    Calls Tryd.prog 22 #[.agg #[.slice T.lp T.ls.length T.lc, .slice T.rp T.rs.length T.rc, .int .i64 T.top, .bool T.sh]] W fun e w' => e = .returned (.bool (mayWB T.ls T.rs T.top)) ∧ Below W.heap.size W w' := by
  unfold mayWB
  refine mayW_walk _ _ _ _ _ _ _ _ _ _ _ W (Lib.hid fun w hb => may_any T.ls T.lp T.lc w (hT.lore.below hb) hT.few.1) (Lib.hid fun w hb => riseW_any T.rs T.rp T.rc w (hT.rows.below hb) hT.few.2.1 fun x hx => (hT.few.2.2 x hx).1) (Lib.hid fun hl hr w hb => ?_)
  have hb0 : Below W.heap.size W w := ((Below.refl W.heap.size W).alloc (Nat.le_refl _) _).trans (hb.mono (Nat.le_succ _))
  have hsz := hb.size
  simp only [boxMay, World.size_alloc] at hsz
  refine containsWrs 32 #[.pointer (some ⟨W.heap.size, 0, none⟩)] egMR (fun x => !mayRowB T.ls T.rs x) T.rp T.rc T.rs w (hT.rows.below hb0) (by have := hT.few.2.1; omega) fun x w1 hb1 hx hxm => ?_
  have hb01 := hb0.trans (hb1.mono hb0.size)
  have hf := hT.few.2.2 x hxm
  have cell : ∀ o, w1.cell? ⟨W.heap.size, o, none⟩ = (boxMay W T.lp T.ls.length T.lc T.rp T.rs.length T.rc T.top T.sh).cell? ⟨W.heap.size, o, none⟩ := fun o => by
    rw [hb1.cell (p := ⟨W.heap.size, o, none⟩) (by show W.heap.size < _; omega), hb.cell (p := ⟨W.heap.size, o, none⟩) (by simp)]
  exact (may1_any T hl ((riseWB_iff T.rs).1 hr) x W.heap.size w1 (hT.below hb01) hx hf.1 hf.2 (by have := hb1.size; omega) (by rw [cell]; simp [boxMay]) (by rw [cell]; simp [boxMay]) (by rw [cell]; simp [boxMay]) (by rw [cell]; simp [boxMay])).mono fun _ _ h => ⟨h.1, hb1.trans (h.2.mono hb1.size)⟩
end Go.Proofs.YtcocmmndonlhkaaDoor
