/-
  slices.SortStableFunc at lore's pairs, whole: blocks sorted by insertion, then merged; lore's sortClasses.
-/
import Derived.Test.YticjgmhgpeihjaaGreatDoorStabSym
namespace Go.Proofs.YticjgmhgpeihjaaGreatDoor
open Go.RowKit Go.Gz Go.Sort Go.Lib

/-- sorted in blocks of bs: of the blocks lo to hi. -/
theorem blk_one {cls : Int → Int} {d : Array Int} {bs n k : Nat} (h : ∀ q, Srt cls d (q * bs) (min (q * bs + bs) n)) : Srt cls d (k * bs) (min (k * bs + bs) n) := h k

structure Pass (cls : Int → Int) (bs n q : Nat) (d e : Array Int) : Prop where
  chg : Chg 0 n d e
  stb : Stb cls d e
  done : ∀ k, k < q → Srt cls e (k * (2 * bs)) (min (k * (2 * bs) + 2 * bs) n)
  left : ∀ k, 2 * q ≤ k → Srt cls e (k * bs) (min (k * bs + bs) n)

theorem mul_two (q bs : Nat) : 2 * q * bs = q * (2 * bs) := by rw [Nat.mul_comm 2 q, Nat.mul_assoc]
theorem mul_two1 (q bs : Nat) : (2 * q + 1) * bs = q * (2 * bs) + bs := by rw [Nat.add_mul, mul_two, Nat.one_mul]
theorem mul_le_of {k q x : Nat} (h : k < q) : k * x + x ≤ q * x := by
  have := Nat.mul_le_mul_right x (show k + 1 ≤ q from h)
  rwa [Nat.add_mul, Nat.one_mul] at this

/-- one pair of blocks merged. -/
theorem Pass.step {cls : Int → Int} {bs n q : Nat} {d e f : Array Int} (h : Pass cls bs n q d e) (hd : Done cls (q * (2 * bs)) (min (q * (2 * bs) + 2 * bs) n) e f) : Pass cls bs n (q + 1) d f := by
  refine ⟨h.chg.trans (hd.1.wider (Nat.zero_le _) (by omega)), h.stb.trans hd.2.1, fun k hk => ?_, fun k hk => ?_⟩
  · by_cases c : k = q
    · rw [c]; exact hd.2.2
    · have h1 := mul_le_of (x := 2 * bs) (show k < q by omega)
      exact hd.srt_out (h.done k (by omega)) (Or.inl (by omega))
  · have h1 : q * (2 * bs) + 2 * bs ≤ k * bs := by
      have := Nat.mul_le_mul_right bs (show 2 * q + 2 ≤ k by omega)
      rw [Nat.add_mul, mul_two] at this
      exact this
    refine hd.srt_out (h.left k (by omega)) ?_
    by_cases c : q * (2 * bs) + 2 * bs ≤ n
    · right; omega
    · right; omega
theorem Pass.srt {cls : Int → Int} {bs n q : Nat} {d e : Array Int} (h : Pass cls bs n q d e) (hn : n ≤ q * (2 * bs) + bs) : ∀ k, Srt cls e (k * (2 * bs)) (min (k * (2 * bs) + 2 * bs) n) := by
  intro k
  by_cases c : k < q
  · exact h.done k c
  · intro x y h1 h2 h3
    have hk : q * (2 * bs) ≤ k * (2 * bs) := Nat.mul_le_mul_right _ (by omega)
    have hl := h.left (2 * q) (Nat.le_refl _)
    rw [mul_two] at hl
    exact hl x y (by omega) h2 (by omega)

theorem insertion_calls (cls : Int → Int) (B blk off cap a b : Nat) (d0 d : Array Int) (w0 w : World) (R : RowK (encC cls) 2 w0 blk off d0) (C : CmpOK w0 blk B) (hs : d0.size = d.size) (n : Nat) (hn : d.size = n)
    (S : SWK (encC cls) 2 w0 blk off d w) (hab : a ≤ b) (hb : b ≤ d.size) (hsz : d.size < 1000000) :
    Calls Tryz.prog 111 #[.slice (some ⟨blk, off, none⟩) n cap, .int .i64 a, .int .i64 b, cmpV B] w fun e w' => e = .returned (.tuple #[]) ∧ ∃ d', Hid (Done cls a b d d') ∧ Hid (SWK (encC cls) 2 w0 blk off d' w') := by
  subst hn
  exact (insertion cls B blk off cap a b d0 d w0 w R C hs S hab hb hsz).mono fun _ _ ⟨h1, d', h2, h3⟩ => ⟨h1, d', Lib.hid h2, Lib.hid h3⟩
theorem merge_calls (cls : Int → Int) (B blk off cap a m b : Nat) (d0 d : Array Int) (w0 w : World) (R : RowK (encC cls) 2 w0 blk off d0) (C : CmpOK w0 blk B) (hs : d0.size = d.size) (n : Nat) (hn : d.size = n)
    (S : SWK (encC cls) 2 w0 blk off d w) (ham : a < m) (hmb : m < b) (hb : b ≤ d.size) (hsz : d.size < 1000000) (h1 : Srt cls d a m) (h2 : Srt cls d m b) :
    Calls Tryz.prog 112 #[.slice (some ⟨blk, off, none⟩) n cap, .int .i64 a, .int .i64 m, .int .i64 b, cmpV B] w fun e w' => e = .returned (.tuple #[]) ∧ ∃ d', Hid (Done cls a b d d') ∧ Hid (SWK (encC cls) 2 w0 blk off d' w') := by
  subst hn
  exact (symMerge cls B blk off cap d0 w0 R C (by omega) (b - a) a m b (Nat.le_refl _) ham hmb (by omega) d w hs.symm S h1 h2).mono fun _ _ ⟨h1, d', h2, h3⟩ => ⟨h1, d', Lib.hid h2, Lib.hid h3⟩

set_option maxHeartbeats 4000000 in
set_option maxRecDepth 1000000 in
theorem stable (cls : Int → Int) (B blk off cap : Nat) (d : Array Int) (w0 : World) (R : RowK (encC cls) 2 w0 blk off d) (C : CmpOK w0 blk B) (hsz : d.size < 1000000) :
    Calls Tryz.prog 105 #[.slice (some ⟨blk, off, none⟩) d.size cap, .int .i64 d.size, cmpV B] w0 fun e w' => e = .returned (.tuple #[]) ∧ ∃ d', Done cls 0 d.size d d' ∧ SWK (encC cls) 2 w0 blk off d' w' := by
  obtain ⟨n, hn⟩ : ∃ n, d.size = n := ⟨_, rfl⟩
  rw [hn] at hsz ⊢
  have HN := Lib.hid hn; clear hn
  have S0 := Lib.hid (SWK.start R.hH)
  go_enter Tryz.func105, Tryz.ntmps105
  go_wp2_with fail
  go_loopg [7, 8] n (fun g va vb wr => ∃ (k A E : Nat) (dk : Array Int), va = .int .i64 A ∧ vb = .int .i64 E ∧ A + 20 ≤ E ∧ E ≤ A + 20 ∧ A ≤ n ∧ n - A ≤ g ∧ Hid (A = k * 20) ∧ Hid (SWK (encC cls) 2 w0 blk off dk wr) ∧ Hid (Chg 0 n d dk) ∧ Hid (Stb cls d dk) ∧ Hid (∀ q, q < k → Srt cls dk (q * 20) (q * 20 + 20)))
  case atStart => exact ⟨0, 0, 20, d, rfl, rfl, Nat.le_refl _, Nat.le_refl _, Nat.zero_le _, by omega, Lib.hid rfl, S0, Lib.hid (Chg.refl _ _ _), Lib.hid (Stb.refl _), Lib.hid fun q hq => by omega⟩
  case round =>
    clear S0
    obtain ⟨k, A, E, dk, rfl, rfl, hE1, hE2, hAn, hg, HA, S1, HC, HT, HD⟩ := hrel
    have hdk := Lib.hid (HC.out.1.trans HN.out)
    by_cases hlt : E ≤ n
    · have hltz : (E : Int) ≤ (n : Int) := by omega
      have hc := Lib.hid (insertion_calls cls B blk off cap A E d dk w0 wr R C (by rw [hdk.out, HN.out]) n hdk.out S1.out (by omega) (by rw [hdk.out]; exact hlt) (by rw [hdk.out]; exact hsz))
      go_wp2_with fail
      refine hc.out.mono ?_
      rintro e w' ⟨rfl, d', D2, S2⟩
      clear hc
      go_wp2
      go_roundg (n - E)
      case measure => omega
      case rel =>
        exact ⟨k + 1, E, E + 20, d', rfl, by go_num, by omega, by omega, hlt, by omega, Lib.hid (by have := HA.out; omega), S2, Lib.hid (HC.out.trans (D2.out.1.wider (Nat.zero_le _) hlt)), Lib.hid (HT.out.trans D2.out.2.1), Lib.hid fun q hq => by
          by_cases c : q = k
          · have hA := HA.out; rw [c, ← HA.out, show A + 20 = E by omega]; exact D2.out.2.2
          · exact D2.out.srt_out (HD.out q (by omega)) (Or.inl (by have := HA.out; omega))⟩
    · have hltz : ¬ (E : Int) ≤ (n : Int) := by omega
      have hc := Lib.hid (insertion_calls cls B blk off cap A n d dk w0 wr R C (by rw [hdk.out, HN.out]) n hdk.out S1.out hAn (by rw [hdk.out]; omega) (by rw [hdk.out]; exact hsz))
      go_wp2_with fail
      refine hc.out.mono ?_
      rintro e w2 ⟨rfl, d2, D2, S2⟩
      clear hc
      have HC2 := Lib.hid (HC.out.trans (D2.out.1.wider (Nat.zero_le _) (Nat.le_refl _)))
      have HT2 := Lib.hid (HT.out.trans D2.out.2.1)
      have HB2 := Lib.hid (show ∀ q, Srt cls d2 (q * 20) (min (q * 20 + 20) n) from fun q => by
        have hA := HA.out
        by_cases c : q < k
        · exact D2.out.srt_out (fun x y h1 h2 h3 => HD.out q c x y h1 h2 (by omega)) (Or.inl (by omega))
        · exact fun x y h1 h2 h3 => D2.out.2.2 x y (by omega) h2 (by omega))
      clear HC HT HD D2 S1 hdk HA
      go_wp2_with fail
      go_loopg [6] n (fun g vs wr => ∃ (bs : Nat) (dk : Array Int), vs = .int .i64 bs ∧ 1 ≤ bs ∧ bs < 2000020 ∧ n - bs ≤ g ∧ Hid (SWK (encC cls) 2 w0 blk off dk wr) ∧ Hid (Chg 0 n d dk) ∧ Hid (Stb cls d dk) ∧ Hid (∀ q, Srt cls dk (q * bs) (min (q * bs + bs) n)))
      case atStart => exact ⟨20, d2, rfl, by omega, by omega, by omega, S2, HC2, HT2, HB2⟩
      case round =>
        clear HC2 HT2 HB2 S2
        obtain ⟨bs, dk2, rfl, hbs, hbs2, hg2, S3, HC3, HT3, HB3⟩ := hrel
        by_cases hlt2 : bs < n
        · have hltz2 : (bs : Int) < (n : Int) := by omega
          have P0 : Hid (Pass cls bs n 0 d dk2) := Lib.hid ⟨HC3.out, HT3.out, fun q hq => by omega, fun q _ => HB3.out q⟩
          go_wp2_with fail
          go_loopg [7, 8] n (fun g3 va vb wr => ∃ (q A E : Nat) (dk : Array Int), va = .int .i64 A ∧ vb = .int .i64 E ∧ A + 2 * bs ≤ E ∧ E ≤ A + 2 * bs ∧ A ≤ n ∧ n - A ≤ g3 ∧ Hid (A = q * (2 * bs)) ∧ Hid (SWK (encC cls) 2 w0 blk off dk wr) ∧ Hid (Pass cls bs n q d dk))
          case atStart => exact ⟨0, 0, 2 * bs, dk2, rfl, by go_num, by omega, by omega, Nat.zero_le _, by omega, Lib.hid (by simp), S3, P0⟩
          case round =>
            clear S3 HC3 HT3 HB3 P0
            obtain ⟨q, A, E, dk, rfl, rfl, hE1, hE2, hAn, hg3, HA, S4, HP⟩ := hrel
            have hdk := Lib.hid (HP.out.chg.1.trans HN.out)
            obtain ⟨M, hM1, hM2, eM⟩ : ∃ M : Nat, A + bs ≤ M ∧ M ≤ A + bs ∧ (A : Int) + (bs : Int) = (M : Int) := ⟨A + bs, by omega, by omega, by omega⟩
            by_cases hin : E ≤ n
            · have hinz : (E : Int) ≤ (n : Int) := by omega
              have hl1 := HP.out.left (2 * q) (Nat.le_refl _)
              have hl2 := HP.out.left (2 * q + 1) (by omega)
              rw [mul_two, ← HA.out] at hl1
              rw [mul_two1, ← HA.out] at hl2
              have hc := Lib.hid (merge_calls cls B blk off cap A M E d dk w0 wr R C (by rw [hdk.out, HN.out]) n hdk.out S4.out (by omega) (by omega) (by rw [hdk.out]; exact hin) (by rw [hdk.out]; exact hsz)
                (fun x y h1 h2 h3 => hl1 x y h1 h2 (by omega)) (fun x y h1 h2 h3 => hl2 x y (by omega) h2 (by omega)))
              clear hl1 hl2
              go_wp2_with fail
              refine hc.out.mono ?_
              rintro e w' ⟨rfl, d', D2, S5⟩
              clear hc
              go_wp2
              go_roundg (n - E)
              case measure => omega
              case rel =>
                refine ⟨q + 1, E, E + 2 * bs, d', rfl, by go_num, by omega, by omega, hin, by omega, Lib.hid (by rw [Nat.add_mul, Nat.one_mul, ← HA.out]; omega), S5, Lib.hid (HP.out.step ?_)⟩
                rw [← HA.out, show A + 2 * bs = E by omega, Nat.min_eq_left hin]
                exact D2.out
            · have hinz : ¬ (E : Int) ≤ (n : Int) := by omega
              by_cases hm : M < n
              · have hmz : (M : Int) < (n : Int) := by omega
                have hl1 := HP.out.left (2 * q) (Nat.le_refl _)
                have hl2 := HP.out.left (2 * q + 1) (by omega)
                rw [mul_two, ← HA.out] at hl1
                rw [mul_two1, ← HA.out] at hl2
                have hc := Lib.hid (merge_calls cls B blk off cap A M n d dk w0 wr R C (by rw [hdk.out, HN.out]) n hdk.out S4.out (by omega) (by omega) (by rw [hdk.out]; omega) (by rw [hdk.out]; exact hsz)
                  (fun x y h1 h2 h3 => hl1 x y h1 h2 (by omega)) (fun x y h1 h2 h3 => hl2 x y (by omega) h2 (by omega)))
                clear hl1 hl2
                go_wp2_with fail
                refine hc.out.mono ?_
                rintro e w' ⟨rfl, d', D2, S5⟩
                clear hc
                have HP2 := Lib.hid (HP.out.step (f := d') (by rw [← HA.out, Nat.min_eq_right (by omega)]; exact D2.out))
                go_wp2
                go_roundg (n - bs * 2)
                case measure => omega
                case rel =>
                  have hsrt := HP2.out.srt (by rw [Nat.add_mul, Nat.one_mul, ← HA.out]; omega)
                  exact ⟨bs * 2, d', by go_num, by omega, by omega, Nat.le_refl _, S5, Lib.hid HP2.out.chg, Lib.hid HP2.out.stb, Lib.hid (by rw [Nat.mul_comm bs 2]; exact hsrt)⟩
              · have hmz : ¬ (M : Int) < (n : Int) := by omega
                go_wp2_with fail
                go_roundg (n - bs * 2)
                case measure => omega
                case rel =>
                  have hsrt := HP.out.srt (by rw [← HA.out]; omega)
                  exact ⟨bs * 2, dk, by go_num, by omega, by omega, Nat.le_refl _, S4, Lib.hid HP.out.chg, Lib.hid HP.out.stb, Lib.hid (by rw [Nat.mul_comm bs 2]; exact hsrt)⟩
        · have hltz2 : ¬ (bs : Int) < (n : Int) := by omega
          go_wp2_with fail
          go_end0
          refine ⟨rfl, dk2, ⟨HC3.out, HT3.out, fun x y h1 h2 h3 => ?_⟩, S3.out⟩
          have := HB3.out 0
          rw [Nat.zero_mul, Nat.zero_add] at this
          exact this x y h1 h2 (by omega)

theorem by_makes (w : World) : Calls Tryz.prog 98 #[.func (.func 99) #[] #[]] w fun e w' => e = .returned (cmpV w.heap.size) ∧ w' = w.alloc (.cells #[.func (.func 99) #[] #[]] 138) := by
  go_enter Tryz.func98, Tryz.ntmps98
  go_wp2
  go_ret
  exact ⟨rfl, rfl⟩

theorem sortStable (cls : Int → Int) (B blk off cap : Nat) (d : Array Int) (w0 : World) (R : RowK (encC cls) 2 w0 blk off d) (C : CmpOK w0 blk B) (hsz : d.size < 1000000) :
    Calls Tryz.prog 97 #[.slice (some ⟨blk, off, none⟩) d.size cap, cmpV B] w0 fun e w' => e = .returned (.tuple #[]) ∧ ∃ d', Done cls 0 d.size d d' ∧ SWK (encC cls) 2 w0 blk off d' w' := by
  have hc := Lib.hid (stable cls B blk off cap d w0 R C hsz)
  go_enter Tryz.func97, Tryz.ntmps97
  go_wp2_with fail
  refine hc.out.mono ?_
  rintro e w1 ⟨rfl, d', h1, h2⟩
  go_wp2
  go_end0
  exact ⟨rfl, d', h1, h2⟩

/-- lore's sortClasses: the row of pairs holds the same elements, sorted by class, stably. -/
theorem sortClasses_any (cls : Int → Int) (blk off cap : Nat) (d : Array Int) (w : World) (hH : HoldsK (encC cls) 2 w blk off d) (hblk : blk < w.heap.size) (hsz : d.size < 1000000) :
    Calls Tryz.prog 78 #[.slice (some ⟨blk, off, none⟩) d.size cap] w fun e w' => e = .returned (.tuple #[]) ∧ ∃ d', Done cls 0 d.size d d' ∧ SWK (encC cls) 2 w blk off d' w' := by
  have hk : ∀ x, (encC cls x).length = 2 := fun _ => rfl
  have h1 : ∀ x, ∀ v ∈ encC cls x, v.oneCell' = true := fun x v hv => by simp [encC] at hv; rcases hv with rfl | rfl <;> rfl
  obtain ⟨wb, hwb⟩ : ∃ wb, wb = w.alloc (.cells #[.func (.func 99) #[] #[]] 138) := ⟨_, rfl⟩
  have SW := Lib.hid (show SWK (encC cls) 2 w blk off d wb from hwb ▸ (SWK.start hH).alloc _)
  have R : RowK (encC cls) 2 wb blk off d := ⟨hk, h1, by rw [hwb, alloc_eq_grow]; exact holdsK_grow (encC cls) 2 w _ blk off d hblk hH, by rw [hwb]; simp; omega⟩
  have C : CmpOK wb blk w.heap.size := ⟨by rw [hwb]; simp, by omega, by rw [hwb]; simp⟩
  have hc := Lib.hid (sortStable cls w.heap.size blk off cap d wb R C hsz)
  have hb := Lib.hid (by_makes w)
  rw [← hwb] at hb
  clear hk h1 hwb hH
  go_enter Tryz.func78, Tryz.ntmps78
  go_wp2_with fail
  refine hb.out.mono ?_
  rintro e w1 ⟨rfl, rfl⟩
  go_wp2_with fail
  refine hc.out.mono ?_
  rintro e w2 ⟨rfl, d', h1, n, os, rfl⟩
  have H1 := Lib.hid h1; clear h1
  go_wp2
  go_end0
  exact ⟨rfl, d', H1.out, SW.out.on hblk n d' os H1.out.1.1⟩
end Go.Proofs.YticjgmhgpeihjaaGreatDoor
