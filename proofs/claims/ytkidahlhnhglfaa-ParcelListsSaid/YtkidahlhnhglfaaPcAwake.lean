/-
  Layer parcel, the law's parts: awake, and whether asks and replies are short.
-/
import Derived.Test.YtkidahlhnhglfaaPcEnc
namespace Go.Proofs.Ytkidahlhnhglfaa
open Go.RowKit

set_option maxHeartbeats 2000000 in
theorem awake_yes (w : World) : Calls Try.prog 7 #[] w fun e w' => e = .returned (.bool true) ∧ Below w.heap.size w w' := by
  have C1 := Lib.hid (show Calls Try.prog 14 #[.agg #[.int .i64 0, .int .i64 0, .int .i64 0, .string ⟨#[]⟩, .string ⟨#[]⟩, .string ⟨#[]⟩, .string ⟨#[]⟩, .int .i64 0]] w (RetPk w.heap.size (askS askZ) w) from ask_any askZ w)
  rw [askZ_packed] at C1
  have C2 := Lib.hid (fun p cap w1 hp => readAsk_any (List.replicate 32 0) p cap w1 hp)
  rw [List.length_replicate] at C2
  go_enter Try.func7, Try.ntmps7
  go_wp2_with fail
  refine C1.out.mono ?_
  rintro e w1 ⟨v, rfl, hown, hb1⟩
  obtain ⟨q, d, rfl, -, -, hrow⟩ := own_row hown
  rw [nums_length] at hown ⊢
  have h32 : ((some (List.replicate 32 (0 : UInt8))).getD []).length = 32 := by decide
  rw [h32] at hown ⊢
  have hE : errP (some (List.replicate 32 (0 : UInt8))) = 0 := rfl
  rw [hE]
  have HB1 := Lib.hid hb1
  have C3 := Lib.hid (C2.out q d w1 hrow)
  clear hown hrow hb1 h32 hE
  go_wp2_with fail
  refine C3.out.mono ?_
  rintro e w2 ⟨a, rfl, ha, hb2⟩
  have ha2 : a = askZ := by
    rw [ha _ (by decide) askZ_read.2]
    obtain ⟨_, _, _, h4⟩ := ask_packed askZ_packed
    exact h4
  rw [askZ_read.1, ha2]
  have HB2 := Lib.hid (HB1.out.trans (hb2.mono HB1.out.size))
  clear ha ha2 hb2
  have hsE : strB [] = ⟨#[]⟩ := rfl
  unfold askV askZ
  simp only [hsE]
  clear hsE
  go_wp2_with fail
  go_ret
  exact ⟨rfl, HB2.out.alloc HB2.out.size _⟩

set_option maxHeartbeats 1000000 in
theorem smallAsk_any (a : AskL) (w : World) : Calls Try.prog 12 #[askV a] w fun e w' => ∃ b, e = .returned (.bool b) ∧ Below w.heap.size w w' := by
  obtain ⟨d, c, s, t, v, f, u, m⟩ := a
  unfold askV
  have HB := Lib.hid (show Below w.heap.size w (w.alloc (.cells #[.int .i64 d, .int .i64 c, .int .i64 s, .string (strB t), .string (strB v), .string (strB f), .string (strB u), .int .i64 m] 34)) from (Below.refl _ _).alloc (Nat.le_refl _) _)
  generalize strB t = t at HB ⊢
  generalize strB v = v at HB ⊢
  generalize strB f = f at HB ⊢
  generalize strB u = u at HB ⊢
  go_enter Try.func12, Try.ntmps12
  go_wp2_with fail
  go_ret
  exact ⟨_, rfl, HB.out⟩

/-- a truth is answered, and where it is yes there are few records. -/
def RetSm (n : Nat) (w : World) (e : Ending) (w' : World) : Prop := ∃ b, e = .returned (.bool b) ∧ (b = true → n ≤ 300) ∧ Below w.heap.size w w'
set_option maxHeartbeats 2000000 in
theorem smallReply_any (r : RepL) (p : Option Addr) (cap : Nat) (w : World) (hl : r.ls.length ≤ 9223372036854775807) (hp : Recs w p r.ls) :
    Calls Try.prog 13 #[repV r p cap] w (RetSm r.ls.length w) := by
  obtain ⟨c, s, er, fd, v, ls, nx, mr⟩ := r
  unfold repV
  simp only at hl hp ⊢
  have HP := Lib.hid hp
  obtain ⟨n, hN⟩ : ∃ n, ls.length = n := ⟨_, rfl⟩
  rw [hN] at hl ⊢
  have HN := Lib.hid hN
  have hnz : (n : Int) ≤ 9223372036854775807 := by omega
  have HB := Lib.hid (show Below w.heap.size w (w.alloc (.cells #[.int .i64 c, .int .i64 s, .int .i64 er, .bool fd, .string (strB v), .slice p n cap, .string (strB nx), .bool mr] 37)) from (Below.refl _ _).alloc (Nat.le_refl _) _)
  have HC := Lib.hid (fun i => box_cells (Below.refl (w.heap.size + 1) (w.alloc (.cells #[.int .i64 c, .int .i64 s, .int .i64 er, .bool fd, .string (strB v), .slice p n cap, .string (strB nx), .bool mr] 37))) i)
  generalize strB v = v at HB HC ⊢
  generalize strB nx = nx at HB HC ⊢
  clear hp hN hl
  go_enter Try.func13, Try.ntmps13
  go_wp2_with fail
  obtain ⟨W, hW⟩ : ∃ W, w.alloc (.cells #[.int .i64 c, .int .i64 s, .int .i64 er, .bool fd, .string v, .slice p n cap, .string nx, .bool mr] 37) = W := ⟨_, rfl⟩
  rw [hW] at HB HC ⊢
  clear hW
  go_loopw [3, 4] (fun x i wr => ∃ (k : Nat) (z : Int), k ≤ n ∧ i = .int .i64 k ∧ x = .int .i64 z ∧ Hid (∃ m, wr = W.drewN m)) (fun _ i _ => n - (intOf i).toNat)
  case atStart => exact ⟨0, _, Nat.zero_le _, rfl, rfl, Lib.hid ⟨0, rfl⟩⟩
  case round =>
    obtain ⟨k, z, hk, rfl, rfl, HM⟩ := hrel
    obtain ⟨m, rfl⟩ := HM.out
    have c5 := HC.out 5
    by_cases hlt : k < n
    · have hltz : (k : Int) < (n : Int) := by omega
      obtain ⟨b, o, hpe, hbl, r1, r2⟩ := rec_cell HP.out HB.out (show k < ls.length by rw [HN.out]; exact hlt)
      subst hpe
      generalize strB (ls.getD k ([], [])).1 = s1 at r1
      generalize strB (ls.getD k ([], [])).2 = s2 at r2
      go_wp2_with fail
      go_quiet (fail)
      go_wp2_with fail
      go_roundw
      case rel => exact ⟨k + 1, _, by omega, by go_num, rfl, Lib.hid ⟨_, rfl⟩⟩
      case measure => simp [intOf]; omega
    · obtain rfl : k = n := by omega
      have hltz : ¬ (k : Int) < (k : Int) := by omega
      have HB2 := Lib.hid (below_drewN HB.out m)
      by_cases h3 : k ≤ 300
      · have h3z : decide ((k : Int) ≤ 300) = true := by simp; omega
        go_wp2_with fail
        go_ret
        exact ⟨_, rfl, fun _ => h3, HB2.out⟩
      · have h3z : decide ((k : Int) ≤ 300) = false := by simp; omega
        go_wp2_with fail
        go_ret
        exact ⟨_, rfl, (fun h => by cases h), HB2.out⟩
end Go.Proofs.Ytkidahlhnhglfaa
