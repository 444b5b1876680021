/-
  Layer seal: what bytes begin with.
-/
import Derived.Test.YtkidahlhnhglfaaSlFrame
import Derived.Test.YtkidahlhnhglfaaQuietBelow
import Derived.Test.YtkidahlhnhglfaaByBase
namespace Go.Proofs.Ytkidahlhnhglfaa
open Go.RowKit Go.Gz

theorem mixedSl : Try.prog.follows .mixedOrders = true := by kernel_rfl
def RetFi (w : World) (l : List UInt8) (e : Ending) (w' : World) : Prop :=
  Below w.heap.size w w' ∧ ((errL l ≠ 0 ∧ e = .returned (.tuple #[.agg #[.int .u8 0, .slice none 0 0], .int .i64 (errL l)])) ∨
    (errL l = 0 ∧ ∃ q d, e = .returned (.tuple #[.agg #[.int .u8 (kindL l).toNat, .slice q (manyL l) d], .int .i64 0]) ∧ Row w' .u8 q (nums (dataL l)) ∧ manyL l ≤ d ∧ (q = none → d = 0)))

theorem row_drop {w : World} {b o : Nat} {l : List UInt8} (h : Row w .u8 (some ⟨b, o, none⟩) (nums l)) (k : Nat) : Row w .u8 (some ⟨b, o + k, none⟩) (nums (l.drop k)) := by
  rcases h with h | ⟨b', o', hp, hlt, hc⟩
  · refine Or.inl ?_
    rw [nums_drop, h, List.drop_nil]
  · injection hp with hp; injection hp with h1 h2
    subst h1 h2
    refine Or.inr ⟨b, o + k, rfl, hlt, fun j hj => ?_⟩
    rw [nums_length, List.length_drop] at hj
    have := hc (k + j) (by rw [nums_length]; omega)
    rw [nums_getD _ _ (by omega)] at this
    rw [show o + k + j = o + (k + j) by omega, this, nums_getD _ _ (by rw [List.length_drop]; omega)]
    simp [List.getD]
theorem row_some {w : World} {p : Option Addr} {l : List UInt8} (h : Row w .u8 p (nums l)) (hl : l ≠ []) : ∃ b o, p = some ⟨b, o, none⟩ ∧ b < w.heap.size := by
  rcases h with h | ⟨b, o, hp, hlt, _⟩
  · exact absurd (by simpa [nums] using h) hl
  · exact ⟨b, o, hp, hlt⟩

set_option maxHeartbeats 2000000 in
set_option maxRecDepth 1000000 in
theorem first_any (l : List UInt8) (hl : l.length ≤ 1000000) (p : Option Addr) (cap : Nat) (w : World) (hp : Row w .u8 p (nums l)) (hcap : l.length ≤ cap) :
    Calls Try.prog 77 #[.slice p l.length cap] w (RetFi w l) := by
  have b0 := fun w : World => show (Instr.build 133 #[]).run Try.prog w = .ok (.agg #[.int .u8 0, .slice none 0 0]) w from by kernel_rfl
  obtain ⟨n, hn⟩ : ∃ n, l.length = n := ⟨_, rfl⟩
  by_cases h7 : n < 7
  · have he : errL l = 7 := by unfold errL; rw [if_pos (by omega)]
    have HF := Lib.hid (show ∀ w', Below w.heap.size w w' → RetFi w l (.returned (.tuple #[.agg #[.int .u8 0, .slice none 0 0], .int .i64 7])) w' from fun w' hb => ⟨hb, Or.inl ⟨by omega, by rw [he]; rfl⟩⟩)
    clear he hp
    rw [hn]
    rw [hn] at hcap
    have h7z : (n : Int) < 7 := by omega
    clear hn hl
    go_enter Try.func77, Try.ntmps77
    go_wp2_with fail
    refine bodyPost_ret (v := .tuple #[.agg #[.int .u8 0, .slice none 0 0], .int .i64 7]) (by simp [results, Try.results77, go_sem]) rfl (HF.out _ ?_)
    exact (Below.refl _ _).alloc (Nat.le_refl _) _
  · obtain ⟨b, o, rfl, hbw⟩ := row_some hp (by intro h; rw [h] at hn; simp at hn; omega)
    have h7z : ¬ (n : Int) < 7 := by omega
    have h7c : (7 : Int) ≤ (cap : Int) := by omega
    have hcz : (n : Int) ≤ (cap : Int) := by omega
    have hnz : (n : Int) ≤ 1000000 := by omega
    have CN := Lib.hid (show ∀ w1, Below w.heap.size w w1 → Calls Try.prog 82 #[.slice (some ⟨b, o, none⟩) 2 cap] w1 fun e w' => e = .returned (.int .u32 (manyL l : Nat)) ∧ w1 = w' from fun w1 hb => by
      have := number_any (l.take 2) (by rw [List.length_take]; omega) (some ⟨b, o, none⟩) cap w1 (row_take (hp.below hb) 2)
      rw [List.length_take, hn, Nat.min_eq_left (by omega)] at this
      exact this)
    have HP := Lib.hid hp; clear hp
    obtain ⟨m, hm⟩ : ∃ m, manyL l = m := ⟨_, rfl⟩
    have hm16 : m < 65536 := by
      rw [← hm]; unfold manyL
      have : ∃ x y, l.take 2 = [x, y] := by
        match l, hn with
        | x :: y :: r, _ => exact ⟨x, y, rfl⟩
        | [x], h => simp at h; omega
        | [], h => simp at h; omega
      obtain ⟨x, y, e⟩ := this
      rw [e, numL_two]
      have := u8_lt x
      have := u8_lt y
      omega
    rw [hm] at CN
    have hmz : (m : Int) < 65536 := by omega
    by_cases hbig : 32768 < m
    · have he : errL l = 3 := by unfold errL; rw [if_neg (by omega), if_pos (by omega)]
      have HF := Lib.hid (show ∀ w', Below w.heap.size w w' → RetFi w l (.returned (.tuple #[.agg #[.int .u8 0, .slice none 0 0], .int .i64 3])) w' from fun w' hb => ⟨hb, Or.inl ⟨by omega, by rw [he]; rfl⟩⟩)
      have hbz : (32768 : Int) < (m : Int) := by omega
      rw [hn]
      clear he hn hm hm16 hl hcap
      go_enter Try.func77, Try.ntmps77
      go_wp2_with fail
      refine (CN.out _ ((Below.refl _ _).alloc (Nat.le_refl _) _)).mono ?_
      rintro e w1 ⟨rfl, rfl⟩
      go_wp2_with fail
      refine bodyPost_ret (v := .tuple #[.agg #[.int .u8 0, .slice none 0 0], .int .i64 3]) (by simp [results, Try.results77, go_sem]) rfl (HF.out _ ?_)
      exact (Below.refl _ _).alloc (Nat.le_refl _) _
    · have hbz : ¬ (32768 : Int) < (m : Int) := by omega
      by_cases hroom : n < 7 + m
      · have he : errL l = 7 := by unfold errL; rw [if_neg (by omega), if_neg (by omega), if_pos (by omega)]
        have HF := Lib.hid (show ∀ w', Below w.heap.size w w' → RetFi w l (.returned (.tuple #[.agg #[.int .u8 0, .slice none 0 0], .int .i64 7])) w' from fun w' hb => ⟨hb, Or.inl ⟨by omega, by rw [he]; rfl⟩⟩)
        have hrz : (n : Int) < 7 + (m : Int) := by omega
        rw [hn]
        clear he hn hm hm16 hl hcap hmz
        go_enter Try.func77, Try.ntmps77
        go_wp2_with fail
        refine (CN.out _ ((Below.refl _ _).alloc (Nat.le_refl _) _)).mono ?_
        rintro e w1 ⟨rfl, rfl⟩
        go_wp2_with fail
        refine bodyPost_ret (v := .tuple #[.agg #[.int .u8 0, .slice none 0 0], .int .i64 7]) (by simp [results, Try.results77, go_sem]) rfl (HF.out _ ?_)
        exact (Below.refl _ _).alloc (Nat.le_refl _) _
      · have hrz : ¬ (n : Int) < 7 + (m : Int) := by omega
        have hmc : (7 : Int) + (m : Int) ≤ (cap : Int) := by omega
        obtain ⟨S, hS⟩ : ∃ S, sumL (l.take 3 ++ dataL l) = S := ⟨_, rfl⟩
        obtain ⟨N, hN⟩ : ∃ N, numL ((l.drop 3).take 4) = N := ⟨_, rfl⟩
        have hdl : (dataL l).length = m := by unfold dataL; rw [hm, List.length_take, List.length_drop]; omega
        have hrD : ∀ o' w1, Below w.heap.size w w1 → (o' = o + 7 ∨ m = 0) → Row w1 .u8 (some ⟨b, o', none⟩) (nums (dataL l)) := fun o' w1 hb h => by
          rcases h with rfl | h
          · have := row_take (row_drop (HP.out.below hb) 7) m
            unfold dataL; rw [hm]; exact this
          · exact Or.inl (List.eq_nil_of_length_eq_zero (by rw [nums_length, hdl]; exact h))
        have CS := Lib.hid (show ∀ (c1 o' d' : Nat) w1, 3 ≤ c1 → (o' = o + 7 ∨ m = 0) → m ≤ d' → Below w.heap.size w w1 → Calls Try.prog 64 #[.slice (some ⟨b, o, none⟩) 3 c1, .slice (some ⟨b, o', none⟩) m d'] w1 fun e w' => e = .returned (.int .u32 (S : Nat)) ∧ Below w1.heap.size w1 w' from fun c1 o' d' w1 h1 h2 h3 hb => by
          have := sumOf_any (l.take 3) (dataL l) (by rw [List.length_take]; omega) (by rw [hdl]; omega) (some ⟨b, o, none⟩) (some ⟨b, o', none⟩) c1 d' w1 (row_take (HP.out.below hb) 3) (hrD o' w1 hb h2) (by rw [List.length_take]; omega) (by rw [hdl]; exact h3)
          rw [List.length_take, hn, Nat.min_eq_left (by omega), hdl, hS] at this
          exact this)
        have CM := Lib.hid (show ∀ (c1 : Nat) w1, Below w.heap.size w w1 → Calls Try.prog 82 #[.slice (some ⟨b, o + 3, none⟩) 4 c1] w1 fun e w' => e = .returned (.int .u32 (N : Nat)) ∧ Below w1.heap.size w1 w' from fun c1 w1 hb => by
          have := number_any ((l.drop 3).take 4) (by rw [List.length_take]; omega) (some ⟨b, o + 3, none⟩) c1 w1 (row_take (row_drop (HP.out.below hb) 3) 4)
          rw [List.length_take, List.length_drop, hn, Nat.min_eq_left (by omega), hN] at this
          exact this.mono fun e w' h => ⟨h.1, h.2 ▸ Below.refl _ _⟩)
        have hkd : l.getD 2 0 = kindL l := rfl
        obtain ⟨K, hK⟩ : ∃ K, kindL l = K := ⟨_, rfl⟩
        rw [hK] at hkd
        have HC := Lib.hid (show ∀ w1, Below w.heap.size w w1 → w1.cell? ⟨b, o + 2, none⟩ = some (.int .u8 (K.toNat : Int)) from fun w1 hb => by
          obtain ⟨b', o', e, _, hc⟩ := byte_cell HP.out hb (show 2 < l.length by omega)
          injection e with e; injection e with e1 e2; subst e1; subst e2
          rw [hc, hkd])
        have he : errL l = if S = N then 0 else 6 := by unfold errL; rw [if_neg (by omega), if_neg (by omega), if_neg (by omega), hS, hN]
        have hFok := Lib.hid (show S = N → ∀ o' d' w', (o' = o + 7 ∨ m = 0) → m ≤ d' → Below w.heap.size w w' → RetFi w l (.returned (.tuple #[.agg #[.int .u8 K.toNat, .slice (some ⟨b, o', none⟩) m d'], .int .i64 0])) w' from fun h o' d' w' h1 h2 hb => ⟨hb, Or.inr ⟨by rw [he, if_pos h], _, _, by rw [hK, hm], hrD o' w' hb h1, by rw [hm]; exact h2, fun h => by cases h⟩⟩)
        have hFbad := Lib.hid (show S ≠ N → ∀ w', Below w.heap.size w w' → RetFi w l (.returned (.tuple #[.agg #[.int .u8 0, .slice none 0 0], .int .i64 6])) w' from fun h w' hb => ⟨hb, Or.inl ⟨by rw [he, if_neg h]; decide, by rw [he, if_neg h]; rfl⟩⟩)
        rw [hn]
        have hnat := Lib.hid (show 7 ≤ cap ∧ 7 + m ≤ cap from by omega)
        clear hmz he hkd hK hrD hdl hS hN hm hm16 hn hl hcap h7 hbig hroom
        obtain ⟨W1, hW1⟩ : ∃ W1, w.alloc (.cells #[.int .u8 0, .slice none 0 0] 133) = W1 := ⟨_, rfl⟩
        have HB1 := Lib.hid (show Below w.heap.size w W1 from hW1 ▸ (Below.refl _ _).alloc (Nat.le_refl _) _)
        have HZ1 := Lib.hid (show W1.heap.size = w.heap.size + 1 from by rw [← hW1]; simp)
        have HK1 := Lib.hid (show ∀ p : BelowOf W1, p.w'.cell? ⟨w.heap.size, 0, none⟩ = some (.int .u8 0) ∧ p.w'.cell? ⟨w.heap.size, 1, none⟩ = some (.slice none 0 0) ∧ p.w'.frozen? ⟨w.heap.size, 0, none⟩ = false ∧ p.w'.frozen? ⟨w.heap.size, 1, none⟩ = false from fun p => by
          have hlt : w.heap.size < W1.heap.size := by rw [HZ1.out]; omega
          rw [p.h.cell (p := ⟨w.heap.size, 0, none⟩) hlt, p.h.cell (p := ⟨w.heap.size, 1, none⟩) hlt, p.h.frozen (p := ⟨w.heap.size, 0, none⟩) hlt, p.h.frozen (p := ⟨w.heap.size, 1, none⟩) hlt, ← hW1]
          refine ⟨?_, ?_, ?_, ?_⟩ <;> simp [go_sem])
        have hbs := fun p : BelowOf W1 => HB1.out.trans (p.h.mono HB1.out.size)
        have CS1 := Lib.hid (show cap = 7 → ∀ p : BelowOf W1, Calls Try.prog 64 #[.slice (some ⟨b, o, none⟩) 3 7, .slice (some ⟨b, o, none⟩) m 0] p.w' fun e w' => e = .returned (.int .u32 (S : Nat)) ∧ ∃ q : BelowOf W1, w' = q.w' from fun h p => Calls.below_of p (CS.out 7 o 0 _ (by omega) (Or.inr (by have := hnat.out; omega)) (by have := hnat.out; omega) (hbs p)))
        have CS2 := Lib.hid (show ¬ cap = 7 → ∀ p : BelowOf W1, Calls Try.prog 64 #[.slice (some ⟨b, o, none⟩) 3 cap, .slice (some ⟨b, o + 7, none⟩) m (cap - 7)] p.w' fun e w' => e = .returned (.int .u32 (S : Nat)) ∧ ∃ q : BelowOf W1, w' = q.w' from fun h p => Calls.below_of p (CS.out cap (o + 7) (cap - 7) _ (by have := hnat.out; omega) (Or.inl rfl) (by have := hnat.out; omega) (hbs p)))
        have CM1 := Lib.hid (show cap = 7 → ∀ p : BelowOf W1, Calls Try.prog 82 #[.slice (some ⟨b, o + 3, none⟩) 4 4] p.w' fun e w' => e = .returned (.int .u32 (N : Nat)) ∧ ∃ q : BelowOf W1, w' = q.w' from fun _ p => Calls.below_of p (CM.out 4 _ (hbs p)))
        have CM2 := Lib.hid (show ¬ cap = 7 → ∀ p : BelowOf W1, Calls Try.prog 82 #[.slice (some ⟨b, o + 3, none⟩) 4 (cap - 3)] p.w' fun e w' => e = .returned (.int .u32 (N : Nat)) ∧ ∃ q : BelowOf W1, w' = q.w' from fun _ p => Calls.below_of p (CM.out (cap - 3) _ (hbs p)))
        clear hbs CS CM
        go_enter Try.func77, Try.ntmps77
        go_wp2_with fail
        refine (CN.out _ HB1.out).mono ?_
        rintro e w1 ⟨rfl, rfl⟩
        by_cases hSN : S = N
        · subst hSN
          go_wp2_with fail
          all_goals
            refine wp_region_quiet_below mixedSl (by kernel_rfl) ?_
            repeat (go_big_quiet_step (first | (go_at_call 64; with_reducible exact CS1.out (by assumption) _) | (go_at_call 64; with_reducible exact CS2.out (by assumption) _) | (go_at_call 82; with_reducible exact CM1.out (by assumption) _) | (go_at_call 82; with_reducible exact CM2.out (by assumption) _)))
            refine wpQuiet_nil ?_
            intro wq hw'
            obtain ⟨⟨wz, hbq⟩, hw''⟩ := hw'
            obtain rfl : wq = wz := hw''
            obtain ⟨k0, k1, f0, f1⟩ : wq.cell? ⟨w.heap.size, 0, none⟩ = some (.int .u8 0) ∧ wq.cell? ⟨w.heap.size, 1, none⟩ = some (.slice none 0 0) ∧ wq.frozen? ⟨w.heap.size, 0, none⟩ = false ∧ wq.frozen? ⟨w.heap.size, 1, none⟩ = false := HK1.out ⟨wq, hbq⟩
            have HBq := Lib.hid (HB1.out.trans (hbq.mono HB1.out.size))
            have c2 := HC.out wq HBq.out
            have hzq : w.heap.size < wq.heap.size := by have := hbq.size; have := HZ1.out; omega
            clear hbq
            go_wp2_with fail
            first
              | (refine bodyPost_ret (v := .tuple #[.agg #[.int .u8 K.toNat, .slice (some ⟨b, o, none⟩) m 0], .int .i64 0]) (by simp [results, Try.results77, go_sem, k0, k1]) rfl (hFok.out (by trivial) _ _ _ (Or.inr (by have := hnat.out; omega)) (by have := hnat.out; omega) ?_))
              | (refine bodyPost_ret (v := .tuple #[.agg #[.int .u8 K.toNat, .slice (some ⟨b, o + 7, none⟩) m (cap - 7)], .int .i64 0]) (by simp [results, Try.results77, go_sem, k0, k1]) rfl (hFok.out (by trivial) _ _ _ (Or.inl rfl) (by have := hnat.out; omega) ?_))
            exact (HBq.out.setCell (Nat.le_refl _) _).setCell (Nat.le_refl _) _
        · have hne : ((S : Int) != (N : Int)) = true := by simp; omega
          go_wp2_with fail
          all_goals
            refine wp_region_quiet_below mixedSl (by kernel_rfl) ?_
            repeat (go_big_quiet_step (first | (go_at_call 64; with_reducible exact CS1.out (by assumption) _) | (go_at_call 64; with_reducible exact CS2.out (by assumption) _) | (go_at_call 82; with_reducible exact CM1.out (by assumption) _) | (go_at_call 82; with_reducible exact CM2.out (by assumption) _)))
            refine wpQuiet_nil ?_
            intro wq hw'
            obtain ⟨⟨wz, hbq⟩, hw''⟩ := hw'
            obtain rfl : wq = wz := hw''
            obtain ⟨k0, k1, f0, f1⟩ : wq.cell? ⟨w.heap.size, 0, none⟩ = some (.int .u8 0) ∧ wq.cell? ⟨w.heap.size, 1, none⟩ = some (.slice none 0 0) ∧ wq.frozen? ⟨w.heap.size, 0, none⟩ = false ∧ wq.frozen? ⟨w.heap.size, 1, none⟩ = false := HK1.out ⟨wq, hbq⟩
            have HBq := Lib.hid (HB1.out.trans (hbq.mono HB1.out.size))
            have c2 := HC.out wq HBq.out
            have hzq : w.heap.size < wq.heap.size := by have := hbq.size; have := HZ1.out; omega
            clear hbq
            go_wp2_with fail
            refine bodyPost_ret (v := .tuple #[.agg #[.int .u8 0, .slice none 0 0], .int .i64 6]) (by simp [results, Try.results77, go_sem, k0, k1]) rfl (hFbad.out hSN _ ?_)
            exact (HBq.out.setCell (Nat.le_refl _) _).setCell (Nat.le_refl _) _
end Go.Proofs.Ytkidahlhnhglfaa
