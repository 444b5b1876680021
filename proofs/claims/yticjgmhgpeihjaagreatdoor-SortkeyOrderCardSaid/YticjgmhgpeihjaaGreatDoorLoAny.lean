/-
  slices.ContainsFunc at runes and at a lore's rows: whatever the predicate.
-/
import Derived.Test.YticjgmhgpeihjaaGreatDoorLoClass
import Derived.Shelf.Abstract
namespace Go.Proofs.YticjgmhgpeihjaaGreatDoor
open Go.RowKit Go.Gz Go.Sort

/-- what the search for a first one answers. -/
def Idx (any : Bool) (W : World) (e : Ending) (w' : World) : Prop := Below W.heap.size W w' ∧ ((any = true ∧ ∃ k : Nat, e = .returned (.int .i64 k)) ∨ (any = false ∧ e = .returned (.int .i64 (-1))))

set_option maxHeartbeats 1000000 in
theorem indexRunes (g : FuncId) (cb : Array Value) (eg : ∀ args w, (callFunc g args).run Tryz.prog w = .ok (.enter g args) w) (q : Int → Bool) (p : Option Addr) (cap : Nat) (xs : List Int) (W : World) (hp : Row W .i32 p xs) (hsz : xs.length < 4611686018427387904)
    (hq : ∀ r w, Below W.heap.size W w → Calls Tryz.prog g (#[.int .i32 r] ++ cb) w fun e w' => e = .returned (.bool (q r)) ∧ Below W.heap.size W w') :
    Calls Tryz.prog 74 #[.slice p xs.length cap, .func (.func g) #[] cb] W (Idx (xs.any q) W) := by
  have HP := Lib.hid hp; clear hp
  have HQ := Lib.hid hq; clear hq
  obtain ⟨an, han⟩ : ∃ an, xs.any q = an := ⟨_, rfl⟩
  rw [han]
  have HA := Lib.hid han; clear han
  go_enter Tryz.func74, Tryz.ntmps74
  go_wp2_with fail
  go_loopg [8] xs.length (fun gk vi wr => ∃ k : Nat, vi = .int .i64 k ∧ k ≤ xs.length ∧ xs.length - k ≤ gk ∧ Hid (Below W.heap.size W wr) ∧ Hid (∀ j, j < k → q (xs.getD j 0) = false))
  case atStart => exact ⟨0, rfl, Nat.zero_le _, by omega, Lib.hid (Below.refl _ _), Lib.hid fun j hj => by omega⟩
  case round =>
    obtain ⟨k, rfl, hk, hg, HB, HN⟩ := hrel
    by_cases hlt : k < xs.length
    · have hltz : (k : Int) < (xs.length : Int) := by omega
      obtain ⟨b, o, rfl, hbW, hc⟩ := row_cell HP.out HB.out hlt
      have hcall := HQ.out (xs.getD k 0) wr HB.out
      obtain ⟨x, hx⟩ : ∃ x, xs.getD k 0 = x := ⟨_, rfl⟩
      rw [hx] at hc hcall
      have HX := Lib.hid hx; clear hx
      cases hb : q x with
      | true =>
        rw [hb] at hcall
        have HC := Lib.hid hcall; clear hcall
        have HV := Lib.hid hb; clear hb
        go_wp2_with (go_at_fn g; refine HC.out.mono ?_; rintro e w' ⟨rfl, hb'⟩)
        go_ret
        refine ⟨hb', Or.inl ⟨?_, k, rfl⟩⟩
        rw [← HA.out, List.any_eq_true]
        exact ⟨x, by rw [← HX.out]; simp [List.getD, hlt], HV.out⟩
      | false =>
        rw [hb] at hcall
        have HC := Lib.hid hcall; clear hcall
        have HV := Lib.hid hb; clear hb
        go_wp2_with (go_at_fn g; refine HC.out.mono ?_; rintro e w' ⟨rfl, hb'⟩)
        have HB' := Lib.hid hb'; clear hb'
        go_roundg (xs.length - (k + 1))
        case measure => omega
        case rel => exact ⟨k + 1, by go_num, by omega, by omega, HB', Lib.hid fun j hj => by
          by_cases c : j = k
          · rw [c, HX.out]; exact HV.out
          · exact HN.out j (by omega)⟩
    · obtain rfl : k = xs.length := by omega
      go_wp2_with fail
      go_ret
      refine ⟨HB.out, Or.inr ⟨?_, rfl⟩⟩
      rw [← HA.out, List.any_eq_false]
      intro x hx
      obtain ⟨i, hi, rfl⟩ := List.getElem_of_mem hx
      have := HN.out i hi
      simpa [List.getD, hi] using this

theorem containsRunes (g : FuncId) (cb : Array Value) (eg : ∀ args w, (callFunc g args).run Tryz.prog w = .ok (.enter g args) w) (q : Int → Bool) (p : Option Addr) (cap : Nat) (xs : List Int) (W : World) (hp : Row W .i32 p xs) (hsz : xs.length < 4611686018427387904)
    (hq : ∀ r w, Below W.heap.size W w → Calls Tryz.prog g (#[.int .i32 r] ++ cb) w fun e w' => e = .returned (.bool (q r)) ∧ Below W.heap.size W w') :
    Calls Tryz.prog 51 #[.slice p xs.length cap, .func (.func g) #[] cb] W fun e w' => e = .returned (.bool (xs.any q)) ∧ Below W.heap.size W w' := by
  have h := Lib.hid (indexRunes g cb eg q p cap xs W hp hsz hq)
  obtain ⟨an, han⟩ : ∃ an, xs.any q = an := ⟨_, rfl⟩
  rw [han] at h ⊢
  clear hq hp han eg
  go_enter Tryz.func51, Tryz.ntmps51
  go_wp2_with fail
  refine h.out.mono ?_
  rintro e w' ⟨hb, ⟨ha, k, rfl⟩ | ⟨ha, rfl⟩⟩
  · subst ha
    have HB := Lib.hid hb; clear hb
    go_wp2
    go_ret
    exact ⟨rfl, HB.out⟩
  · subst ha
    have HB := Lib.hid hb; clear hb
    go_wp2
    go_ret
    exact ⟨rfl, HB.out⟩

set_option maxHeartbeats 1000000 in
theorem indexRows (g : FuncId) (cb : Array Value) (eg : ∀ args w, (callFunc g args).run Tryz.prog w = .ok (.enter g args) w) (q : LR → Bool) (p : Option Addr) (cap : Nat) (ls : List LR) (W : World) (hp : Lores W p ls) (hsz : ls.length < 4611686018427387904)
    (hq : ∀ x w, Below W.heap.size W w → ToAt w x → x ∈ ls → Calls Tryz.prog g (#[.agg #[.int .i32 x.r, .int .i64 x.c, .slice x.p x.to.length x.cap]] ++ cb) w fun e w' => e = .returned (.bool (q x)) ∧ Below W.heap.size W w') :
    Calls Tryz.prog 87 #[.slice p ls.length cap, .func (.func g) #[] cb] W (Idx (ls.any q) W) := by
  have HP := Lib.hid hp; clear hp
  have HQ := Lib.hid hq; clear hq
  obtain ⟨an, han⟩ : ∃ an, ls.any q = an := ⟨_, rfl⟩
  rw [han]
  have HA := Lib.hid han; clear han
  go_enter Tryz.func87, Tryz.ntmps87
  go_wp2_with fail
  go_loopg [8] ls.length (fun gk vi wr => ∃ k : Nat, vi = .int .i64 k ∧ k ≤ ls.length ∧ ls.length - k ≤ gk ∧ Hid (Below W.heap.size W wr) ∧ Hid (∀ j, j < k → q ls[j]! = false))
  case atStart => exact ⟨0, rfl, Nat.zero_le _, by omega, Lib.hid (Below.refl _ _), Lib.hid fun j hj => by omega⟩
  case round =>
    obtain ⟨k, rfl, hk, hg, HB, HN⟩ := hrel
    by_cases hlt : k < ls.length
    · have hltz : (k : Int) < (ls.length : Int) := by omega
      obtain ⟨b, o, rfl, hbW, c1, c2, c3, c4⟩ := HP.out.at_ HB.out hlt
      have hcall := HQ.out ls[k]! wr HB.out c4 (get_mem hlt)
      obtain ⟨x, hx⟩ : ∃ x, ls[k]! = x := ⟨_, rfl⟩
      rw [hx] at c1 c2 c3 hcall
      clear c4
      have HX := Lib.hid hx; clear hx
      cases hb : q x with
      | true =>
        rw [hb] at hcall
        have HC := Lib.hid hcall; clear hcall
        have HV := Lib.hid hb; clear hb
        go_wp2_with (go_at_fn g; refine HC.out.mono ?_; rintro e w' ⟨rfl, hb'⟩)
        go_ret
        refine ⟨hb', Or.inl ⟨?_, k, rfl⟩⟩
        rw [← HA.out, List.any_eq_true]
        exact ⟨x, by rw [← HX.out]; exact get_mem hlt, HV.out⟩
      | false =>
        rw [hb] at hcall
        have HC := Lib.hid hcall; clear hcall
        have HV := Lib.hid hb; clear hb
        go_wp2_with (go_at_fn g; refine HC.out.mono ?_; rintro e w' ⟨rfl, hb'⟩)
        have HB' := Lib.hid hb'; clear hb'
        go_roundg (ls.length - (k + 1))
        case measure => omega
        case rel => exact ⟨k + 1, by go_num, by omega, by omega, HB', Lib.hid fun j hj => by
          by_cases c : j = k
          · rw [c, HX.out]; exact HV.out
          · exact HN.out j (by omega)⟩
    · obtain rfl : k = ls.length := by omega
      go_wp2_with fail
      go_ret
      refine ⟨HB.out, Or.inr ⟨?_, rfl⟩⟩
      rw [← HA.out, List.any_eq_false]
      intro x hx
      obtain ⟨i, hi, rfl⟩ := List.getElem_of_mem hx
      have := HN.out i hi
      rw [getElem!_pos ls i hi] at this
      simpa using this

theorem containsRows (g : FuncId) (cb : Array Value) (eg : ∀ args w, (callFunc g args).run Tryz.prog w = .ok (.enter g args) w) (q : LR → Bool) (p : Option Addr) (cap : Nat) (ls : List LR) (W : World) (hp : Lores W p ls) (hsz : ls.length < 4611686018427387904)
    (hq : ∀ x w, Below W.heap.size W w → ToAt w x → x ∈ ls → Calls Tryz.prog g (#[.agg #[.int .i32 x.r, .int .i64 x.c, .slice x.p x.to.length x.cap]] ++ cb) w fun e w' => e = .returned (.bool (q x)) ∧ Below W.heap.size W w') :
    Calls Tryz.prog 69 #[.slice p ls.length cap, .func (.func g) #[] cb] W fun e w' => e = .returned (.bool (ls.any q)) ∧ Below W.heap.size W w' := by
  have h := Lib.hid (indexRows g cb eg q p cap ls W hp hsz hq)
  obtain ⟨an, han⟩ : ∃ an, ls.any q = an := ⟨_, rfl⟩
  rw [han] at h ⊢
  clear hq hp han eg
  go_enter Tryz.func69, Tryz.ntmps69
  go_wp2_with fail
  refine h.out.mono ?_
  rintro e w' ⟨hb, ⟨ha, k, rfl⟩ | ⟨ha, rfl⟩⟩
  · subst ha
    have HB := Lib.hid hb; clear hb
    go_wp2
    go_ret
    exact ⟨rfl, HB.out⟩
  · subst ha
    have HB := Lib.hid hb; clear hb
    go_wp2
    go_ret
    exact ⟨rfl, HB.out⟩
end Go.Proofs.YticjgmhgpeihjaaGreatDoor
