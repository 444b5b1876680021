/-
  Layer parcel: a number is read.
-/
import Derived.Test.YtkidahlhnhglfaaPcRead
import Derived.Laws.BitsLemmas
import Derived.Lib.EndianBits
import Derived.Laws.IdiomStrings
namespace Go.Proofs.Ytkidahlhnhglfaa
open Go.RowKit

/-- what a codec reads of a reader's state, and what it leaves. -/
def rdV {α : Type} (C : Codec α) (d : α) (st : St) : α :=
  match st with
  | .error _ => d
  | .ok b => match C.dec b with
    | .ok (x, _) => x
    | .error _ => d
def rdR {α : Type} (C : Codec α) (st : St) : St :=
  match st with
  | .error e => .error e
  | .ok b => match C.dec b with
    | .ok (_, r) => .ok r
    | .error e => .error e

theorem pcNumL_lt3 : ∀ (l : List UInt8), l.length ≤ 3 → numL l < 16777216
  | [], _ => by decide
  | [a], _ => by have := u8_lt a; simp only [numL, List.foldl]; omega
  | [a, b], _ => by have := u8_lt a; have := u8_lt b; simp only [numL, List.foldl]; omega
  | [a, b, c], _ => by have := u8_lt a; have := u8_lt b; have := u8_lt c; simp only [numL, List.foldl]; omega
  | _ :: _ :: _ :: _ :: _, h => by simp at h
theorem pcOr8 (x y : Nat) (hx : x < 16777216) (hy : y ≤ 255) : bits .or .u32 ((x : Int) * 256) y = ((x * 256 + y : Nat) : Int) := by
  rw [bits_join .u32 32 (by decide) Go.wraps_u32 8 ((x : Int) * 256) y (by omega) (by omega) (by omega) (by omega) (by omega) (by omega)]
  omega

theorem rdV_ok {α : Type} {C : Codec α} {d x : α} {b r : List UInt8} (h : C.dec b = .ok (x, r)) : rdV C d (.ok b) = x := by simp only [rdV, h]
theorem rdV_no {α : Type} {C : Codec α} {d : α} {b : List UInt8} {e : Nat} (h : C.dec b = .error e) : rdV C d (.ok b) = d := by simp only [rdV, h]
theorem rdR_ok {α : Type} {C : Codec α} {x : α} {b r : List UInt8} (h : C.dec b = .ok (x, r)) : rdR C (.ok b) = .ok r := by simp only [rdR, h]
theorem rdR_no {α : Type} {C : Codec α} {b : List UInt8} {e : Nat} (h : C.dec b = .error e) : rdR C (.ok b) = .error e := by simp only [rdR, h]

/-- how a number comes out of the four bytes taken. -/
theorem rd_num (st : St) : (numL (takeV st 4) ≤ 268435455 ∧ rdV numC 0 st = numL (takeV st 4) ∧ rdR numC st = takeR st 4) ∨ (268435455 < numL (takeV st 4) ∧ rdV numC 0 st = 0 ∧ rdR numC st = .error 5) := by
  cases st with
  | error e => exact Or.inl ⟨by show numL [] ≤ _; decide, rfl, rfl⟩
  | ok s =>
    by_cases h : 4 ≤ s.length
    · rw [show takeV (.ok s) 4 = s.take 4 from if_pos h, show takeR (.ok s) 4 = .ok (s.drop 4) from if_pos h]
      by_cases hb : 268435456 ≤ numL (s.take 4)
      · have hd : numC.dec s = .error 5 := by
          show decN s = _
          unfold decN
          rw [if_neg (by omega), if_pos hb]
        exact Or.inr ⟨by omega, rdV_no hd, rdR_no hd⟩
      · have hd : numC.dec s = .ok (numL (s.take 4), s.drop 4) := by
          show decN s = _
          unfold decN
          rw [if_neg (by omega), if_neg hb]
        exact Or.inl ⟨by omega, rdV_ok hd, rdR_ok hd⟩
    · rw [show takeV (.ok s) 4 = [] from if_neg h, show takeR (.ok s) 4 = .error 7 from if_neg h]
      have hd : numC.dec s = .error 7 := by
        show decN s = _
        unfold decN
        rw [if_pos (by omega)]
      exact Or.inl ⟨by decide, rdV_no hd, rdR_no hd⟩

/-- '[]byte(s)'. -/
theorem conv_bytes (w : World) (l : List UInt8) : ∃ cap w2, (convert 9 25 (.string (strB l))).run Try.prog w = .ok (.slice (some ⟨w.heap.size, 0, none⟩) (strB l).size cap) w2 ∧ (strB l).size ≤ cap ∧ Row w2 .u8 (some ⟨w.heap.size, 0, none⟩) (nums l) ∧ Below w.heap.size w w2 := by
  have h := run_bytes_of_string (P := Try.prog) w 9 25 5 (strB l) Try.underlying9 Try.underlying25 Try.underlying5
  refine ⟨_, _, h, grownCap_ge _ _ _ _, ?_, ((below_drewN (Below.refl _ w) 1).alloc (Nat.le_refl _) _)⟩
  refine Or.inr ⟨_, 0, rfl, by show _ < (w.heap.push _).size; simp, fun j hj => ?_⟩
  rw [nums_length] at hj
  have hb : (w.drew.alloc (.cells (bytesRow (strB l) (grownCap w (strB l).size 0 5)) 5 ((bytesRow (strB l) (grownCap w (strB l).size 0 5)).size, (bytesRow (strB l) (grownCap w (strB l).size 0 5)).size + 1))).heap[w.heap.size]? = some (.cells (bytesRow (strB l) (grownCap w (strB l).size 0 5)) 5 ((bytesRow (strB l) (grownCap w (strB l).size 0 5)).size, (bytesRow (strB l) (grownCap w (strB l).size 0 5)).size + 1)) := by
    show (w.heap.push _)[w.heap.size]? = _
    simp
  simp only [World.cell?, hb, Nat.zero_add]
  rw [nums_getD _ _ hj]
  have h2 : j < l.toArray.size := by simpa using hj
  simp [bytesRow, strB, Array.getElem?_append, List.getD, hj]

set_option maxHeartbeats 1000000 in
theorem pcNumber_any (w : World) (g : Nat) (st : St) (h : RdAt w g st) :
    Calls Try.prog 44 #[.pointer (some ⟨g, 0, none⟩)] w fun e w' => e = .returned (.int .i64 (rdV numC 0 st : Nat)) ∧ RdAt w' g (rdR numC st) ∧ Chg g w w' := by
  have CT := Lib.hid (show Calls Try.prog 62 #[.pointer (some ⟨g, 0, none⟩), .int .i64 4] w _ from take_any w g st 4 (by omega) h)
  have CF := Lib.hid (show ∀ w1 s, RdAt w1 g s → Calls Try.prog 61 #[.pointer (some ⟨g, 0, none⟩), .int .i64 5] w1 _ from fun w1 s h1 => fail_any w1 g s 5 (by omega) h1)
  have HQ := Lib.hid (rd_num st)
  have HL := Lib.hid (takeV_le st 4)
  obtain ⟨V, hV⟩ : ∃ V, rdV numC 0 st = V := ⟨_, rfl⟩
  obtain ⟨R, hR⟩ : ∃ R, rdR numC st = R := ⟨_, rfl⟩
  obtain ⟨l, hl⟩ : ∃ l, takeV st 4 = l := ⟨_, rfl⟩
  obtain ⟨R1, hR1⟩ : ∃ R1, takeR st 4 = R1 := ⟨_, rfl⟩
  rw [hV, hR, hl, hR1] at HQ
  rw [hl] at HL
  rw [hl, hR1] at CT
  rw [hV, hR]
  clear h hV hR hl hR1
  go_enter Try.func44, Try.ntmps44
  go_wp2_with fail
  refine CT.out.mono ?_
  rintro e w1 ⟨rfl, hr1, hc1⟩
  have HR1 := Lib.hid hr1
  have HC1 := Lib.hid hc1
  clear hr1 hc1
  obtain ⟨cap, w2, hcv, hcap, hrow, hbw⟩ := conv_bytes w1 l
  obtain ⟨n, hn⟩ : ∃ n, (strB l).size = n := ⟨_, rfl⟩
  rw [hn] at hcv hcap
  have hnl : l.length = n := by rw [← hn, strB_size]
  have hn4 : (n : Int) ≤ 4 := by have := HL.out; omega
  have HN := Lib.hid hnl
  have HROW := Lib.hid hrow
  have HR2 := Lib.hid (HR1.out.below hbw)
  have HC2 := Lib.hid (HC1.out.trans (Chg.of_below hbw))
  clear hrow hbw hn hnl
  go_wp2_with fail
  go_loop [3, 10] (fun x i => ∃ k : Nat, k ≤ n ∧ i = .int .i64 k ∧ x = .int .u32 (numL (l.take k) : Nat)) (fun _ i => n - (intOf i).toNat)
  case atStart => exact ⟨0, Nat.zero_le _, rfl, rfl⟩
  case round =>
    obtain ⟨k, hk, rfl, rfl⟩ := hrel
    obtain ⟨A, hA⟩ : ∃ A, numL (l.take k) = A := ⟨_, rfl⟩
    rw [hA]
    have HA := Lib.hid hA
    clear hA
    by_cases hlt : k < n
    · have hA3 : A < 16777216 := by rw [← HA.out]; exact pcNumL_lt3 _ (by rw [List.length_take]; omega)
      obtain ⟨b, o, hbe, hbl, hcell⟩ := byte_cell HROW.out (Below.refl _ _) (show k < l.length by rw [HN.out]; exact hlt)
      injection hbe with hbe
      injection hbe with hb1 hb2 _
      subst hb1 hb2
      obtain ⟨x, hx⟩ : ∃ x, l.getD k 0 = x := ⟨_, rfl⟩
      rw [hx, Nat.zero_add] at hcell
      have HX := Lib.hid hx
      clear hx
      have hx8 : (x.toNat : Int) ≤ 255 := by have := u8_lt x; omega
      have ho := pcOr8 A x.toNat hA3 (u8_lt x)
      have hA1 : (A : Int) < 16777216 := by omega
      have hltz : (k : Int) < (n : Int) := by omega
      clear hA3
      go_wp2_with fail
      go_round
      case rel =>
        have hs : numL (l.take (k + 1)) = A * 256 + x.toNat := by
          rw [take_snoc8 l k (by rw [HN.out]; exact hlt), numL_snoc, HX.out, HA.out]
        exact ⟨k + 1, by omega, by go_num, by rw [hs]; simp⟩
      case measure => simp [intOf]; omega
    · obtain rfl : k = n := by omega
      have hltz : ¬ (k : Int) < (k : Int) := by omega
      have hAl : numL l = A := by rw [← HA.out, ← HN.out, List.take_length]
      rcases HQ.out with ⟨h1, h2, h3⟩ | ⟨h1, h2, h3⟩
      · rw [hAl] at h1 h2
        have hgt : decide ((A : Int) > 268435455) = false := by simp; omega
        have hA1 : (A : Int) ≤ 268435455 := by omega
        have HE := Lib.hid (And.intro h2 h3)
        clear h1 h2 h3 hAl
        go_wp2_with fail
        go_ret
        exact ⟨by rw [HE.out.1]; rfl, by rw [HE.out.2]; exact HR2.out, HC2.out⟩
      · rw [hAl] at h1
        have hgt : decide ((A : Int) > 268435455) = true := by simp; omega
        have HE := Lib.hid (And.intro h2 h3)
        clear h1 h2 h3 hAl
        go_wp2_with fail
        refine (CF.out _ _ HR2.out).mono ?_
        rintro e w3 ⟨rfl, hr3, hc3⟩
        have H3 := Lib.hid (And.intro hr3 (HC2.out.trans hc3))
        clear hr3 hc3
        go_wp2_with fail
        go_ret
        exact ⟨by rw [HE.out.1]; rfl, by rw [HE.out.2]; exact H3.out.1, H3.out.2⟩
end Go.Proofs.Ytkidahlhnhglfaa
