/-
  Layer parcel: a text, a truth is read; what a reader says at the end.
-/
import Derived.Test.YtkidahlhnhglfaaPcNumb
namespace Go.Proofs.Ytkidahlhnhglfaa
open Go.RowKit

theorem decN_lt {b r : List UInt8} {n : Nat} (h : decN b = .ok (n, r)) : n ≤ 268435455 := by
  unfold decN at h
  by_cases h1 : b.length < 4
  · rw [if_pos h1] at h; cases h
  · rw [if_neg h1] at h
    by_cases h2 : 268435456 ≤ numL (b.take 4)
    · rw [if_pos h2] at h; cases h
    · rw [if_neg h2] at h
      injection h with h
      injection h with h _
      omega
theorem rdV_num_le (st : St) : rdV numC 0 st ≤ 268435455 := by
  cases st with
  | error e => exact Nat.zero_le _
  | ok b =>
    cases hd : numC.dec b with
    | error e => rw [rdV_no hd]; exact Nat.zero_le _
    | ok x => rw [rdV_ok (x := x.1) (r := x.2) hd]; exact decN_lt (b := b) (r := x.2) hd
theorem rd_text (st : St) : takeV (rdR numC st) (rdV numC 0 st) = rdV textC [] st ∧ takeR (rdR numC st) (rdV numC 0 st) = rdR textC st := by
  cases st with
  | error e => exact ⟨rfl, rfl⟩
  | ok b =>
    cases hd : decN b with
    | error e =>
      have ht : textC.dec b = .error e := by
        show decT b = _
        unfold decT; rw [hd]
      rw [rdV_no (C := textC) ht, rdR_no (C := textC) ht, rdR_no (C := numC) hd]
      exact ⟨rfl, rfl⟩
    | ok x =>
      obtain ⟨n, r⟩ := x
      rw [rdV_ok (C := numC) hd, rdR_ok (C := numC) hd]
      by_cases hn : n ≤ r.length
      · have ht : textC.dec b = .ok (r.take n, r.drop n) := by
          show decT b = _
          unfold decT; rw [hd]
          exact if_neg (by omega)
        rw [rdV_ok ht, rdR_ok ht]
        exact ⟨if_pos hn, if_pos hn⟩
      · have ht : textC.dec b = .error 7 := by
          show decT b = _
          unfold decT; rw [hd]
          exact if_pos (by omega)
        rw [rdV_no ht, rdR_no ht]
        exact ⟨if_neg hn, if_neg hn⟩

set_option maxHeartbeats 400000 in
theorem text_any (w : World) (g : Nat) (st : St) (h : RdAt w g st) :
    Calls Try.prog 45 #[.pointer (some ⟨g, 0, none⟩)] w fun e w' => e = .returned (.string (strB (rdV textC [] st))) ∧ RdAt w' g (rdR textC st) ∧ Chg g w w' := by
  have CN := Lib.hid (pcNumber_any w g st h)
  have CT := Lib.hid (fun w1 h1 => take_any w1 g (rdR numC st) (rdV numC 0 st) (Nat.le_trans (rdV_num_le st) (by omega)) h1)
  have HQ := Lib.hid (rd_text st)
  obtain ⟨V, hV⟩ : ∃ V, rdV numC 0 st = V := ⟨_, rfl⟩
  rw [hV] at CN CT HQ
  rw [HQ.out.1, HQ.out.2] at CT
  clear h hV
  go_enter Try.func45, Try.ntmps45
  go_wp2_with fail
  refine CN.out.mono ?_
  rintro e w1 ⟨rfl, hr1, hc1⟩
  have HC1 := Lib.hid hc1
  have C2 := Lib.hid (CT.out w1 hr1)
  clear hr1 hc1
  go_wp2_with fail
  refine C2.out.mono ?_
  rintro e w2 ⟨rfl, hr2, hc2⟩
  have H2 := Lib.hid (And.intro hr2 (HC1.out.trans hc2))
  clear hr2 hc2
  go_wp2_with fail
  go_ret
  exact ⟨rfl, H2.out⟩

theorem strB_toList (l : List UInt8) : (strB l).toList = l := by rw [ByteArray.toList_eq]; rfl
theorem less_one {x : UInt8} (h0 : x ≠ 0) : Op.bytesLess [x] [1] = false := by
  have h1 : ¬ x < 1 := fun h => h0 (by
    have h2 : x.toNat < 1 := h
    exact UInt8.toNat_inj.1 (by show x.toNat = 0; omega))
  simp [Op.bytesLess, h1]
/-- a byte read as a truth. -/
theorem rd_truth (st : St) : (takeV st 1 = [] ∧ rdV truthC false st = false ∧ rdR truthC st = takeR st 1) ∨ (takeV st 1 = [0] ∧ rdV truthC false st = false ∧ rdR truthC st = takeR st 1) ∨ (takeV st 1 = [1] ∧ rdV truthC false st = true ∧ rdR truthC st = takeR st 1) ∨
    (∃ x : UInt8, x ≠ 0 ∧ x ≠ 1 ∧ takeV st 1 = [x] ∧ rdV truthC false st = false ∧ rdR truthC st = .error 5) := by
  cases st with
  | error e => exact Or.inl ⟨rfl, rfl, rfl⟩
  | ok b =>
    cases b with
    | nil => exact Or.inl ⟨rfl, rfl, rfl⟩
    | cons x r =>
      by_cases h0 : x = 0
      · subst h0; exact Or.inr (Or.inl ⟨rfl, rfl, rfl⟩)
      · by_cases h1 : x = 1
        · subst h1; exact Or.inr (Or.inr (Or.inl ⟨rfl, rfl, rfl⟩))
        · have hd : truthC.dec (x :: r) = .error 5 := by
            show decB (x :: r) = _
            unfold decB
            simp [h0, h1]
          exact Or.inr (Or.inr (Or.inr ⟨x, h0, h1, rfl, rdV_no hd, rdR_no hd⟩))

set_option maxHeartbeats 1000000 in
theorem rtruth_any (w : World) (g : Nat) (st : St) (h : RdAt w g st) :
    Calls Try.prog 46 #[.pointer (some ⟨g, 0, none⟩)] w fun e w' => e = .returned (.bool (rdV truthC false st)) ∧ RdAt w' g (rdR truthC st) ∧ Chg g w w' := by
  have CT := Lib.hid (show Calls Try.prog 62 #[.pointer (some ⟨g, 0, none⟩), .int .i64 1] w _ from take_any w g st 1 (by omega) h)
  have CF := Lib.hid (show ∀ w1 s, RdAt w1 g s → Calls Try.prog 61 #[.pointer (some ⟨g, 0, none⟩), .int .i64 5] w1 _ from fun w1 s h1 => fail_any w1 g s 5 (by omega) h1)
  have HQ := rd_truth st
  clear h
  rcases HQ with ⟨h1, h2, h3⟩ | ⟨h1, h2, h3⟩ | ⟨h1, h2, h3⟩ | ⟨x, hx0, hx1, h1, h2, h3⟩
  · rw [h2, h3]
    rw [h1] at CT
    have hl : Op.bytesLess (strB []).toList [1] = true := by rw [strB_toList]; rfl
    have he : ((strB []).toList == [1]) = false := by rw [strB_toList]; rfl
    generalize strB [] = V at CT hl he
    clear h1 h2 h3
    go_enter Try.func46, Try.ntmps46
    go_wp2_with fail
    refine CT.out.mono ?_
    rintro e w1 ⟨rfl, hr1, hc1⟩
    have H1 := Lib.hid (And.intro hr1 hc1)
    clear hr1 hc1
    go_wp2_with fail
    go_ret
    exact ⟨rfl, H1.out⟩
  · rw [h2, h3]
    rw [h1] at CT
    have hl : Op.bytesLess (strB [0]).toList [1] = true := by rw [strB_toList]; rfl
    have he : ((strB [0]).toList == [1]) = false := by rw [strB_toList]; rfl
    generalize strB [0] = V at CT hl he
    clear h1 h2 h3
    go_enter Try.func46, Try.ntmps46
    go_wp2_with fail
    refine CT.out.mono ?_
    rintro e w1 ⟨rfl, hr1, hc1⟩
    have H1 := Lib.hid (And.intro hr1 hc1)
    clear hr1 hc1
    go_wp2_with fail
    go_ret
    exact ⟨rfl, H1.out⟩
  · rw [h2, h3]
    rw [h1] at CT
    have hl : Op.bytesLess (strB [1]).toList [1] = false := by rw [strB_toList]; rfl
    have he : ((strB [1]).toList == [1]) = true := by rw [strB_toList]; rfl
    generalize strB [1] = V at CT hl he
    clear h1 h2 h3
    go_enter Try.func46, Try.ntmps46
    go_wp2_with fail
    refine CT.out.mono ?_
    rintro e w1 ⟨rfl, hr1, hc1⟩
    have H1 := Lib.hid (And.intro hr1 hc1)
    clear hr1 hc1
    go_wp2_with fail
    go_ret
    exact ⟨rfl, H1.out⟩
  · rw [h2, h3]
    rw [h1] at CT
    have hl : Op.bytesLess (strB [x]).toList [1] = false := by rw [strB_toList]; exact less_one hx0
    have he : ((strB [x]).toList == [1]) = false := by rw [strB_toList]; simp [hx1]
    generalize strB [x] = V at CT hl he
    clear h1 h2 h3
    go_enter Try.func46, Try.ntmps46
    go_wp2_with fail
    refine CT.out.mono ?_
    rintro e w1 ⟨rfl, hr1, hc1⟩
    have H1 := Lib.hid (And.intro hr1 hc1)
    clear hr1 hc1
    go_wp2_with fail
    refine (CF.out _ _ H1.out.1).mono ?_
    rintro e w2 ⟨rfl, hr2, hc2⟩
    have H2 := Lib.hid (And.intro hr2 (H1.out.2.trans hc2))
    clear hr2 hc2
    go_wp2_with fail
    go_ret
    exact ⟨rfl, H2.out⟩

set_option maxHeartbeats 400000 in
theorem rnew_any (w : World) (l : List UInt8) (p : Option Addr) (c : Nat) (hp : Row w .u8 p (nums l)) :
    Calls Try.prog 35 #[.slice p l.length c] w fun e w' => e = .returned (.pointer (some ⟨w.heap.size, 0, none⟩)) ∧ RdAt w' w.heap.size (.ok l) ∧ Below w.heap.size w w' := by
  have hcv := run_string w l p c hp
  have hcv2 : (convert 25 9 (.slice p l.length c)).run Try.prog w = .ok (.string (strB l)) w := hcv
  obtain ⟨n, hn⟩ : ∃ n, l.length = n := ⟨_, rfl⟩
  rw [hn] at hcv2 ⊢
  have HR := Lib.hid (show RdAt (w.alloc (.cells #[.string (strB l), .int .i64 0] 110)) w.heap.size (.ok l) from ⟨(fun e he => by cases he), new_block _ _ _⟩)
  clear hcv hp hn
  go_enter Try.func35, Try.ntmps35
  go_wp2_with fail
  go_ret
  exact ⟨rfl, HR.out, (Below.refl _ _).alloc (Nat.le_refl _) _⟩

def endE (st : St) : Nat :=
  match st with
  | .error e => e
  | .ok [] => 0
  | .ok (_ :: _) => 5
set_option maxHeartbeats 1000000 in
theorem end_any (w : World) (g : Nat) (st : St) (h : RdAt w g st) :
    Calls Try.prog 39 #[.pointer (some ⟨g, 0, none⟩)] w fun e w' => e = .returned (.int .i64 (endE st)) ∧ w = w' := by
  have h1 := h.at_
  have c0 := cell_at h1 0
  have c1 := cell_at h1 1
  cases st with
  | error e0 =>
    have h0 := h.bd e0 rfl
    have h0z : ((e0 : Int) == 0) = false := by simp; omega
    simp only [errS, restS] at c1 c0
    clear h h1 h0
    go_enter Try.func39, Try.ntmps39
    go_wp2_with fail
    go_ret
    exact ⟨rfl, rfl⟩
  | ok s =>
    simp only [errS, restS] at c1 c0
    clear h h1
    cases s with
    | nil =>
      have hs : (strB [] : ByteArray) = ⟨#[]⟩ := rfl
      rw [hs] at c0
      clear hs
      go_enter Try.func39, Try.ntmps39
      go_wp2_with fail
      go_ret
      exact ⟨rfl, rfl⟩
    | cons x r =>
      have hs : ((strB (x :: r)).toList == []) = false := by rw [strB_toList]; rfl
      obtain ⟨S, hS⟩ : ∃ S, strB (x :: r) = S := ⟨_, rfl⟩
      rw [hS] at hs c0
      clear hS
      go_enter Try.func39, Try.ntmps39
      go_wp2_with fail
      go_ret
      exact ⟨rfl, rfl⟩
end Go.Proofs.Ytkidahlhnhglfaa
