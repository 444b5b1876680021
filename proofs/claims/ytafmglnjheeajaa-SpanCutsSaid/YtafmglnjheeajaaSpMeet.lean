/-
  Layer span: Meet, Within.
-/
import Derived.Test.YtafmglnjheeajaaSpHas
import Derived.Deep.RegionHeld3
namespace Go.Proofs.Ytafmglnjheeajaa
open Go.RowKit Go.Gz

theorem mixedS : Try.prog.follows .mixedOrders = true := by kernel_rfl

set_option maxHeartbeats 1000000 in
theorem meet_any (f t f' t' : ByteArray) (w : World) : Calls Try.prog 9 #[.agg #[.string f, .string t], .agg #[.string f', .string t']] w fun e w' => e = .returned (.agg #[.string (maxS2 f f'), .string (firstEndS t t')]) ∧ Below w.heap.size w w' := by
  have mx := mixedS
  have hmax := fun (w : World) (ts : Array TypeId) (ty : TypeId) => Lib.run_max_strs (P := Try.prog) w ts ty f f'
  rw [maxS_eq] at hmax
  obtain ⟨m, hm⟩ : ∃ m, maxS2 f f' = m := ⟨_, rfl⟩
  have C := Lib.hid (fun w => firstEnd_any t t' w)
  obtain ⟨n, hn⟩ : ∃ n, firstEndS t t' = n := ⟨_, rfl⟩
  simp only [hm, hn] at C hmax ⊢
  clear hm hn
  go_enter Try.func9, Try.ntmps9
  go_wp2_with fail
  go_region_held3 (fun w' => w'.cell? ⟨w.heap.size, 0, none⟩ = some (.string f) ∧ w'.cell? ⟨w.heap.size, 1, none⟩ = some (.string t) ∧ w'.cell? ⟨w.heap.size + 1, 0, none⟩ = some (.string f') ∧ w'.cell? ⟨w.heap.size + 1, 1, none⟩ = some (.string t'))
    (first | go_keep)
    (first | (go_at_call 23; (with_reducible refine (C.out _).mono ?_); rintro e w' ⟨rfl, rfl⟩))
  all_goals
    go_wp2_with fail
    refine bodyPost_ret (v := .agg #[.string m, .string n]) (by simp [results, Try.results9, go_sem]) rfl ⟨rfl, ?_⟩
    exact ((((Below.refl _ _).alloc (Nat.le_refl _) _).alloc (by simp) _).alloc (by simp; omega) _).drew

theorem eql_span (a b c d : ByteArray) (w : World) : (binOp .eql 23 (.agg #[.string a, .string b]) (.agg #[.string c, .string d])).run Try.prog w = .ok (.bool (decide ((⟨a, b⟩ : SP) = ⟨c, d⟩))) w := by
  have hl : ∀ x y : ByteArray, x.toList = y.toList → x = y := fun x y h => data_inj (by rw [← Lib.toList_data, ← Lib.toList_data]; exact h)
  by_cases h1 : a = c
  · by_cases h2 : b = d
    · subst h1; subst h2; simp [go_sem]
    · have h2' : ¬ b.toList = d.toList := fun h => h2 (hl _ _ h)
      simp [go_sem, h1, h2, h2']
  · have h1' : ¬ a.toList = c.toList := fun h => h1 (hl _ _ h)
    simp [go_sem, h1, h1']
set_option maxHeartbeats 1000000 in
theorem within_any (f t f' t' : ByteArray) (w : World) : Calls Try.prog 14 #[.agg #[.string f, .string t], .agg #[.string f', .string t']] w fun e w' => e = .returned (.bool (withinB ⟨f, t⟩ ⟨f', t'⟩)) ∧ Below w.heap.size w w' := by
  have mx := mixedS
  have hw := Lib.hid (within_eq ⟨f, t⟩ ⟨f', t'⟩)
  have CE := Lib.hid (fun w => empty_any f t w)
  have CM := Lib.hid (fun w => meet_any f t f' t' w)
  have he := eql_span (maxS2 f f') (firstEndS t t') f t
  obtain ⟨m, hm⟩ : ∃ m, maxS2 f f' = m := ⟨_, rfl⟩
  obtain ⟨n, hn⟩ : ∃ n, firstEndS t t' = n := ⟨_, rfl⟩
  obtain ⟨b, hb⟩ : ∃ b, emptyB ⟨f, t⟩ = b := ⟨_, rfl⟩
  unfold meetS at hw
  simp only [hm, hn, hb] at CM CE he hw
  obtain ⟨q, hq⟩ : ∃ q, decide ((⟨m, n⟩ : SP) = ⟨f, t⟩) = q := ⟨_, rfl⟩
  simp only [hq] at he hw
  rw [← hw.out]
  clear hm hn hb hq hw
  go_enter Try.func14, Try.ntmps14
  go_wp2_with fail
  obtain ⟨w0, hw0⟩ : ∃ w0, (w.alloc (.cells #[.string f, .string t] 23)).alloc (.cells #[.string f', .string t'] 23) = w0 := ⟨_, rfl⟩
  have HB0 := Lib.hid (show Below w.heap.size w w0 from hw0 ▸ ((Below.refl _ _).alloc (Nat.le_refl _) _).alloc (by simp) _)
  have c0 : w0.cell? ⟨w.heap.size, 0, none⟩ = some (.string f) := by rw [← hw0]; simp [go_sem]
  have c1 : w0.cell? ⟨w.heap.size, 1, none⟩ = some (.string t) := by rw [← hw0]; simp [go_sem]
  have c2 : w0.cell? ⟨w.heap.size + 1, 0, none⟩ = some (.string f') := by rw [← hw0]; simp [go_sem]
  have c3 : w0.cell? ⟨w.heap.size + 1, 1, none⟩ = some (.string t') := by rw [← hw0]; simp [go_sem]
  have hs0 : w.heap.size + 1 < w0.heap.size := by rw [← hw0]; simp
  rw [hw0]
  clear hw0
  have f0 := fun pw : BelowOf w0 => pw.cell (a := ⟨w.heap.size, 0, none⟩) (show w.heap.size < w0.heap.size by omega) c0
  have f1 := fun pw : BelowOf w0 => pw.cell (a := ⟨w.heap.size, 1, none⟩) (show w.heap.size < w0.heap.size by omega) c1
  have f2 := fun pw : BelowOf w0 => pw.cell (a := ⟨w.heap.size + 1, 0, none⟩) (show w.heap.size + 1 < w0.heap.size by omega) c2
  have f3 := fun pw : BelowOf w0 => pw.cell (a := ⟨w.heap.size + 1, 1, none⟩) (show w.heap.size + 1 < w0.heap.size by omega) c3
  clear c0 c1 c2 c3
  have HE := Lib.hid (fun pw : BelowOf w0 => Calls.below_of pw (CE.out pw.w'))
  have HM := Lib.hid (fun pw : BelowOf w0 => Calls.below_of pw (CM.out pw.w'))
  clear CE CM
  cases b
  all_goals
    refine wp_region_quiet_below (by assumption) (by kernel_rfl) ?_
    repeat (go_big_quiet_step (first | (go_at_call 12; with_reducible exact HE.out _) | (go_at_call 9; with_reducible exact HM.out _)))
    refine wpQuiet_nil ?_
    intro _ hw'
    obtain ⟨⟨wq, hbq⟩, hw''⟩ := hw'
    subst hw''
    have HBq := Lib.hid (HB0.out.trans (hbq.mono HB0.out.size))
    clear hbq
    go_wp2_with fail
    go_ret
    exact ⟨rfl, HBq.out⟩
end Go.Proofs.Ytafmglnjheeajaa
