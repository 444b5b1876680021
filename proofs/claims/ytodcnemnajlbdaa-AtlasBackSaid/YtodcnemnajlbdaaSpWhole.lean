/-
  Layer span: follow, Whole; the law's Few.
-/
import Derived.Test.YtodcnemnajlbdaaSpRows
namespace Go.Proofs.Ytodcnemnajlbdaa
open Go.RowKit Go.Gz

open Classical in
theorem follow_stop {l : List SP} {i : Nat} (h0 : 0 < i) (h : i < l.length) (hx : ¬ (sem l[i - 1]!.t = false ∧ l[i - 1]!.t = l[i]!.f)) : followB l = false := by
  unfold followB; exact decide_eq_false fun hp => hx (hp i h0 h)
open Classical in
theorem follow_end {l : List SP} (h : ∀ j, 0 < j → j < l.length → sem l[j - 1]!.t = false ∧ l[j - 1]!.t = l[j]!.f) : followB l = true := by
  unfold followB; exact decide_eq_true h

set_option maxHeartbeats 1000000 in
theorem follow_any (ls : List SP) (p : Option Addr) (c : Nat) (w : World) (hp : Spans w p ls) (hn : ls.length ≤ 9223372036854775807) :
    Calls Try.prog 36 #[.slice p ls.length c] w fun e w' => e = .returned (.bool (followB ls)) ∧ w = w' := by
  have HP := Lib.hid hp; clear hp
  obtain ⟨n, hln⟩ : ∃ n, ls.length = n := ⟨_, rfl⟩
  have HN := Lib.hid hln
  rw [hln] at hn ⊢
  clear hln
  go_enter Try.func36, Try.ntmps36
  go_wp2_with fail
  go_loopg [3] n (fun gg s3 wr => ∃ i : Nat, 1 ≤ i ∧ n - i ≤ gg ∧ (i ≤ n ∨ i = 1) ∧ s3 = .int .i64 i ∧ w = wr ∧ Hid (∀ j, 0 < j → j < i → j < n → sem ls[j - 1]!.t = false ∧ ls[j - 1]!.t = ls[j]!.f))
  case atStart => exact ⟨1, Nat.le_refl _, by omega, Or.inr rfl, rfl, rfl, Lib.hid (fun j h1 h2 => by omega)⟩
  case round =>
    obtain ⟨i, hi1, hg, hin, rfl, rfl, A⟩ := hrel
    by_cases hlt : i < n
    · have hltz : (i : Int) < (n : Int) := by omega
      obtain ⟨k, rfl⟩ : ∃ k, i = k + 1 := ⟨i - 1, by omega⟩
      obtain ⟨b, o, hpe, hbl, c1, _⟩ := span_cell HP.out (Below.refl _ w) (show k + 1 < ls.length by rw [HN.out]; exact hlt)
      obtain ⟨b', o', hpe', _, _, c2⟩ := span_cell HP.out (Below.refl _ w) (show k < ls.length by rw [HN.out]; omega)
      rw [hpe] at hpe'
      simp only [Option.some.injEq, Addr.mk.injEq, and_true] at hpe'
      obtain ⟨rfl, rfl⟩ := hpe'
      subst hpe
      obtain ⟨t, ht⟩ : ∃ t, ls[k]!.t = t := ⟨_, rfl⟩
      obtain ⟨f, hf⟩ : ∃ f, ls[k + 1]!.f = f := ⟨_, rfl⟩
      rw [ht] at c2
      rw [hf] at c1
      have HT := Lib.hid ht
      have HF := Lib.hid hf
      clear ht hf
      have ek : ((k + 1 : Nat) : Int) - 1 = (k : Int) := by omega
      by_cases h1 : t.toList = []
      · have hno := Lib.hid (show followB ls = false from follow_stop (l := ls) (i := k + 1) (by omega) (by rw [HN.out]; exact hlt) (fun hc => by
          rw [show k + 1 - 1 = k from rfl, HT.out] at hc
          have := hc.1
          unfold sem at this
          rw [h1] at this
          cases this))
        go_wp2_with fail
        go_ret
        exact ⟨by rw [hno.out]; rfl, rfl⟩
      · cases h2 : (t.toList == f.toList) with
        | false =>
          have hno := Lib.hid (show followB ls = false from follow_stop (l := ls) (i := k + 1) (by omega) (by rw [HN.out]; exact hlt) (fun hc => by
            rw [show k + 1 - 1 = k from rfl, HT.out, HF.out] at hc
            have := hc.2
            subst this
            simp at h2))
          go_wp2_with fail
          go_ret
          exact ⟨by rw [hno.out]; rfl, rfl⟩
        | true =>
          have h1b : t.toList.isEmpty = false := by simpa using h1
          have hyes := Lib.hid (show sem t = false ∧ t = f from ⟨by unfold sem; simpa using h1, data_inj (by rw [← Lib.toList_data, ← Lib.toList_data]; exact eq_of_beq h2)⟩)
          go_wp2_with fail
          go_roundg (n - (k + 1 + 1))
          case measure => omega
          case rel =>
            refine ⟨k + 1 + 1, by omega, by omega, by omega, by go_num, rfl, Lib.hid fun j h0 hj hjn => ?_⟩
            by_cases e : j = k + 1
            · subst e
              rw [show k + 1 - 1 = k from rfl, HT.out, HF.out]
              exact hyes.out
            · exact A.out j h0 (by omega) hjn
    · have hltz : ¬ (i : Int) < (n : Int) := by omega
      have hyes := Lib.hid (show followB ls = true from follow_end fun j h0 hj => A.out j h0 (by rw [HN.out] at hj; omega) (by rw [HN.out] at hj; exact hj))
      go_wp2_with fail
      go_ret
      exact ⟨by rw [hyes.out]; rfl, rfl⟩

set_option maxHeartbeats 1000000 in
theorem whole_any (ls : List SP) (p : Option Addr) (c : Nat) (w : World) (hp : Spans w p ls) (hn : ls.length ≤ 9223372036854775807) :
    Calls Try.prog 24 #[.slice p ls.length c] w fun e w' => e = .returned (.bool (wholeB ls)) ∧ Below w.heap.size w w' := by
  by_cases h0 : ls.length = 0
  · have hw : wholeB ls = false := by unfold wholeB; rw [if_pos h0]
    rw [h0, hw]
    clear hp hn h0 hw
    go_enter Try.func24, Try.ntmps24
    go_wp2_with fail
    go_ret
    exact ⟨rfl, Below.refl _ _⟩
  · have CC := Lib.hid (contains_any ls p c w hp hn)
    have CF := Lib.hid (fun w' (hb : Below w.heap.size w w') => follow_any ls p c w' (hp.below hb) hn)
    have HW := Lib.hid (show wholeB ls = (!ls.any emptyB && (sem ls[0]!.f && followB ls && sem ls[ls.length - 1]!.t)) by unfold wholeB; rw [if_neg h0])
    have HP := Lib.hid hp; clear hp
    obtain ⟨n, hln⟩ : ∃ n, ls.length = n := ⟨_, rfl⟩
    have HN := Lib.hid hln
    rw [hln] at hn CC CF HW h0 ⊢
    clear hln
    obtain ⟨m, rfl⟩ : ∃ m, n = m + 1 := ⟨n - 1, by omega⟩
    have hne : (((m + 1 : Nat) : Int) == 0) = false := by simp; omega
    obtain ⟨a, ha⟩ : ∃ a, ls.any emptyB = a := ⟨_, rfl⟩
    obtain ⟨f, hf⟩ : ∃ f, ls[0]!.f = f := ⟨_, rfl⟩
    obtain ⟨g, hg⟩ : ∃ g, followB ls = g := ⟨_, rfl⟩
    obtain ⟨t, ht⟩ : ∃ t, ls[m]!.t = t := ⟨_, rfl⟩
    rw [ha] at CC HW
    rw [hg] at CF HW
    rw [hf, show m + 1 - 1 = m from rfl, ht] at HW
    have HF := Lib.hid hf
    have HT := Lib.hid ht
    rw [HW.out]
    clear ha hf hg ht HW h0
    go_enter Try.func24, Try.ntmps24
    go_wp2_with fail
    refine CC.out.mono ?_
    rintro e w1 ⟨rfl, hb1⟩
    have HB1 := Lib.hid hb1
    have CF1 := Lib.hid (CF.out w1 hb1)
    obtain ⟨b, o, hpe, hbl, c1, _⟩ := span_cell HP.out hb1 (show 0 < ls.length by rw [HN.out]; omega)
    obtain ⟨b', o', hpe', _, _, c2⟩ := span_cell HP.out hb1 (show m < ls.length by rw [HN.out]; omega)
    rw [hpe] at hpe'
    simp only [Option.some.injEq, Addr.mk.injEq, and_true] at hpe'
    obtain ⟨rfl, rfl⟩ := hpe'
    subst hpe
    rw [HF.out, Nat.zero_mul, Nat.add_zero] at c1
    rw [HT.out] at c2
    clear hb1 CC CF
    have em : ((m + 1 : Nat) : Int) - 1 = (m : Int) := by omega
    cases a with
    | true =>
      go_wp2_with fail
      go_ret
      exact ⟨rfl, HB1.out⟩
    | false =>
      by_cases h1 : f.toList = []
      · go_wp2_with fail
        refine CF1.out.mono ?_
        rintro e w' ⟨rfl, rfl⟩
        clear CF1
        cases g with
        | false =>
          go_wp2_with fail
          go_ret
          exact ⟨by simp [sem, h1], HB1.out⟩
        | true =>
          go_wp2_with fail
          all_goals
            go_ret
            exact ⟨by simp_all [sem], HB1.out⟩
      · go_wp2_with fail
        go_ret
        exact ⟨by simp [sem, h1], HB1.out⟩
end Go.Proofs.Ytodcnemnajlbdaa
