/-
  Layer span: the reference's Within and Meets.
-/
import Derived.Test.YtafmglnjheeajaaSpMeet
namespace Go.Proofs.Ytafmglnjheeajaa
open Go.RowKit Go.Gz

theorem leS_eq (a b : ByteArray) : (slt a b || a.toList == b.toList) = !slt b a := by
  cases h : slt a b with
  | true =>
    cases k : slt b a with
    | true => have := slt_trans h k; rw [slt_irrefl] at this; cases this
    | false => rfl
  | false =>
    cases k : slt b a with
    | true =>
      have : a.toList ≠ b.toList := fun e => by
        have : a = b := data_inj (by rw [← Lib.toList_data, ← Lib.toList_data]; exact e)
        subst this
        rw [slt_irrefl] at k; cases k
      simp [this]
    | false => obtain rfl := slt_total h k; simp

/-- the cells of two boxed spans, and a world behind them. -/
def Two (W : World) (b : Nat) (f t f' t' : ByteArray) : Prop :=
  W.cell? ⟨b, 0, none⟩ = some (.string f) ∧ W.cell? ⟨b, 1, none⟩ = some (.string t) ∧ W.cell? ⟨b + 1, 0, none⟩ = some (.string f') ∧ W.cell? ⟨b + 1, 1, none⟩ = some (.string t')
theorem Two.below {W w : World} {b : Nat} {f t f' t' : ByteArray} (h : Two W b f t f' t') (hb : Below W.heap.size W w) (hs : b + 1 < W.heap.size) : Two w b f t f' t' :=
  ⟨by rw [hb.cell (p := ⟨b, 0, none⟩) (show b < W.heap.size by omega)]; exact h.1, by rw [hb.cell (p := ⟨b, 1, none⟩) (show b < W.heap.size by omega)]; exact h.2.1,
   by rw [hb.cell (p := ⟨b + 1, 0, none⟩) hs]; exact h.2.2.1, by rw [hb.cell (p := ⟨b + 1, 1, none⟩) hs]; exact h.2.2.2⟩
theorem Two.new (w : World) (f t f' t' : ByteArray) : Two ((w.alloc (.cells #[.string f, .string t] 23)).alloc (.cells #[.string f', .string t'] 23)) w.heap.size f t f' t' :=
  ⟨by simp [go_sem], by simp [go_sem], by simp [go_sem], by simp [go_sem]⟩

set_option maxHeartbeats 1000000 in
theorem refWithin_any (f t f' t' : ByteArray) (w : World) : Calls Try.prog 15 #[.agg #[.string f, .string t], .agg #[.string f', .string t']] w fun e w' => e = .returned (.bool (withinB ⟨f, t⟩ ⟨f', t'⟩)) ∧ Below w.heap.size w w' := by
  have CE := Lib.hid (fun w => refEmpty_any f t w)
  have hw := Lib.hid (show withinB ⟨f, t⟩ ⟨f', t'⟩ = (emptyB ⟨f, t⟩ || (!slt f f' && (sem t' || (!sem t && (slt t t' || t.toList == t'.toList))))) by rw [leS_eq]; rfl)
  rw [hw.out]
  clear hw
  obtain ⟨b, hb⟩ : ∃ b, emptyB ⟨f, t⟩ = b := ⟨_, rfl⟩
  rw [hb] at CE ⊢
  clear hb
  go_enter Try.func15, Try.ntmps15
  go_wp2_with fail
  obtain ⟨w0, hw0⟩ : ∃ w0, (w.alloc (.cells #[.string f, .string t] 23)).alloc (.cells #[.string f', .string t'] 23) = w0 := ⟨_, rfl⟩
  have HB0 := Lib.hid (show Below w.heap.size w w0 from hw0 ▸ ((Below.refl _ _).alloc (Nat.le_refl _) _).alloc (by simp) _)
  have HT0 := Lib.hid (show Two w0 w.heap.size f t f' t' from hw0 ▸ Two.new w f t f' t')
  have HS0 := Lib.hid (show w.heap.size + 1 < w0.heap.size by rw [← hw0]; simp)
  rw [hw0]
  clear hw0
  refine (CE.out w0).mono ?_
  rintro e w1 ⟨rfl, hb1⟩
  obtain ⟨c0, c1, c2, c3⟩ := HT0.out.below hb1 HS0.out
  have HB1 := Lib.hid (HB0.out.trans (hb1.mono HB0.out.size))
  clear hb1 CE
  cases b
  all_goals
    go_wp2_with fail
    all_goals
      go_ret
      refine ⟨?_, HB1.out⟩
      simp_all [slt, sem]

set_option maxHeartbeats 1000000 in
theorem refMeets_any (f t f' t' : ByteArray) (w : World) : Calls Try.prog 16 #[.agg #[.string f, .string t], .agg #[.string f', .string t']] w fun e w' => e = .returned (.bool (meetsB ⟨f, t⟩ ⟨f', t'⟩)) ∧ Below w.heap.size w w' := by
  have CE := Lib.hid (fun w => refEmpty_any f t w)
  have CE' := Lib.hid (fun w => refEmpty_any f' t' w)
  unfold meetsB
  obtain ⟨b, hb⟩ : ∃ b, emptyB ⟨f, t⟩ = b := ⟨_, rfl⟩
  obtain ⟨b', hb'⟩ : ∃ b', emptyB ⟨f', t'⟩ = b' := ⟨_, rfl⟩
  rw [hb] at CE ⊢
  rw [hb'] at CE' ⊢
  clear hb hb'
  go_enter Try.func16, Try.ntmps16
  go_wp2_with fail
  obtain ⟨w0, hw0⟩ : ∃ w0, (w.alloc (.cells #[.string f, .string t] 23)).alloc (.cells #[.string f', .string t'] 23) = w0 := ⟨_, rfl⟩
  have HB0 := Lib.hid (show Below w.heap.size w w0 from hw0 ▸ ((Below.refl _ _).alloc (Nat.le_refl _) _).alloc (by simp) _)
  have HT0 := Lib.hid (show Two w0 w.heap.size f t f' t' from hw0 ▸ Two.new w f t f' t')
  have HS0 := Lib.hid (show w.heap.size + 1 < w0.heap.size by rw [← hw0]; simp)
  rw [hw0]
  clear hw0
  refine (CE.out w0).mono ?_
  rintro e w1 ⟨rfl, hb1⟩
  obtain ⟨c0, c1, c2, c3⟩ := HT0.out.below hb1 HS0.out
  have HB1 := Lib.hid (HB0.out.trans (hb1.mono HB0.out.size))
  have HT1 := Lib.hid (HT0.out.below hb1 HS0.out)
  have HS1 := Lib.hid (show w.heap.size + 1 < w1.heap.size by have := hb1.size; have := HS0.out; omega)
  clear hb1 CE
  cases b
  · go_wp2_with fail
    refine (CE'.out w1).mono ?_
    rintro e w2 ⟨rfl, hb2⟩
    clear c0 c1 c2 c3
    obtain ⟨c0, c1, c2, c3⟩ := HT1.out.below hb2 HS1.out
    have HB2 := Lib.hid (HB1.out.trans (hb2.mono HB1.out.size))
    clear hb2 CE'
    cases b'
    all_goals
      go_wp2_with fail
      all_goals
        go_ret
        refine ⟨?_, HB2.out⟩
        simp_all [slt, sem]
  · go_wp2_with fail
    go_ret
    exact ⟨rfl, HB1.out⟩
end Go.Proofs.Ytafmglnjheeajaa
