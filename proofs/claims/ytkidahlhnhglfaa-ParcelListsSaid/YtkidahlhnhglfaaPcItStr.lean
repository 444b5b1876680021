/-
  Layer parcel: Items at texts.
-/
import Derived.Test.YtkidahlhnhglfaaPcStrs
import Derived.Test.YtkidahlhnhglfaaPcItRec
namespace Go.Proofs.Ytkidahlhnhglfaa
open Go.RowKit Go.Gz

set_option maxHeartbeats 2000000 in
theorem itemsStr_any {g : FuncId} {lb : Array Value} (eg : ∀ args w, (callFunc g args).run Try.prog w = .ok (.enter g args) w) (f : Option (List UInt8) → List UInt8 → Option (List UInt8))
    (w0 w : World) (B gp M : Nat) (st : Option (List UInt8)) (ls : List (List UInt8)) (p : Option Addr) (cap : Nat) (hp : Strs w0 p (ls.map strB)) (hb0 : Below w0.heap.size w0 w) (hB0 : w0.heap.size ≤ B) (hB : B ≤ w.heap.size) (hpk : PkAt w B gp M st) (hM : M ≤ 9223372036854775807)
    (hr : M ≤ 1000000000000 ∨ (st.getD []).length + 4 ≤ 1000000000000) (hn : ls.length ≤ 1048576)
    (hone : ∀ k, k < ls.length → ∀ w1, B ≤ w1.heap.size → Below B w w1 → PkAt w1 B gp M ((ls.take k).foldl f (numsS M st [(ls.length : Int)])) →
      Calls Try.prog g (#[.pointer (some ⟨gp, 0, none⟩), .string (strB (ls.getD k []))] ++ lb) w1 fun e w' => e = .returned (.tuple #[]) ∧ Laid w1 B gp M (f ((ls.take k).foldl f (numsS M st [(ls.length : Int)])) (ls.getD k [])) w') :
    Calls Try.prog 30 #[.pointer (some ⟨gp, 0, none⟩), .slice p ls.length cap, .func (.func g) #[] lb] w fun e w' => e = .returned (.tuple #[]) ∧ Laid w B gp M (itemsS M f st ls) w' := by
  have hfn : ∀ w : World, (binOp .eql 74 (.func (.func g) #[] lb) .nilFunc).run Try.prog w = .ok (.bool false) w := fun _ => by kernel_rfl
  have HF := Lib.hid (show ∀ w', Laid w B gp M (ls.foldl f (numsS M st [(ls.length : Int)])) w' → Laid w B gp M (itemsS M f st ls) w' from fun _ h => h)
  generalize itemsS M f st ls = R at HF ⊢
  have hgt : decide ((1048576 : Int) < (ls.length : Int)) = false := by simp; omega
  have hnn : ls.length ≤ 1048576 := hn
  have HL1 := Lib.hid ((Laid.refl hpk).alloc hB (.cells #[.int .i64 (ls.length : Int)] 3))
  have CN := Lib.hid (numbers_any _ B gp M w.heap.size st [(ls.length : Int)] (by have := HL1.out.bl.size; omega) HL1.out.pk hM (by simpa using hr) (new_block w _ _) (by simp))
  obtain ⟨S0, hS0⟩ : ∃ S0, numsS M st [(ls.length : Int)] = S0 := ⟨_, rfl⟩
  rw [hS0] at HF CN hone
  have HP := Lib.hid hp
  have HB0 := Lib.hid hb0
  have HO := Lib.hid hone
  obtain ⟨n, hN⟩ : ∃ n, ls.length = n := ⟨_, rfl⟩
  rw [hN] at hgt hnn HL1 CN ⊢
  have HN := Lib.hid hN
  clear hp hb0 hone hN hS0 hpk hr hn
  go_enter Try.func30, Try.ntmps30
  go_wp2_with fail
  refine CN.out.mono ?_
  rintro e w1 ⟨rfl, hl1⟩
  have HL2 := Lib.hid (HL1.out.trans hl1)
  clear hl1
  go_wp2_with fail
  go_loopw [24] (fun i wr => ∃ k : Nat, k ≤ n ∧ i = .int .i64 k ∧ Hid (Laid w B gp M ((ls.take k).foldl f S0) wr)) (fun i _ => n - (intOf i).toNat)
  case atStart => exact ⟨0, Nat.zero_le _, rfl, HL2⟩
  case round =>
    obtain ⟨k, hk, rfl, HLk⟩ := hrel
    by_cases hlt : k < n
    · have hltz : (k : Int) < (n : Int) := by omega
      obtain ⟨b, o, hpe, hbl, hcell⟩ := str_cell HP.out (HB0.out.trans (HLk.out.bl.mono hB0)) (show k < (ls.map strB).length by rw [List.length_map, HN.out]; exact hlt)
      subst hpe
      have HC := Lib.hid (HO.out k (by rw [HN.out]; exact hlt))
      have HS := Lib.hid (foldl_snoc f S0 ls k [] (by rw [HN.out]; exact hlt))
      have hgx : (ls.map strB).getD k ByteArray.empty = strB (ls.getD k []) := by
        simp [List.getD, show k < ls.length by rw [HN.out]; exact hlt]
      rw [hgx] at hcell
      obtain ⟨x, hx⟩ : ∃ x, ls.getD k [] = x := ⟨_, rfl⟩
      rw [hx] at hcell HC HS
      clear hx hbl hgx
      obtain ⟨s1, hs1⟩ : ∃ s, strB x = s := ⟨_, rfl⟩
      rw [hs1] at hcell HC
      clear hs1
      have HC1 := Lib.hid (HC.out _ (Nat.le_trans hB HLk.out.bl.size) HLk.out.bl HLk.out.pk)
      clear HC
      go_wp2_with fail
      refine HC1.out.mono ?_
      rintro e w3 ⟨rfl, hl3⟩
      have HL3 := Lib.hid (HLk.out.trans hl3)
      rw [← HS.out] at HL3
      clear hl3
      go_wp2_with fail
      go_roundw
      case rel => exact ⟨k + 1, by omega, by go_num, HL3⟩
      case measure => simp [intOf]; omega
    · obtain rfl : k = n := by omega
      have hltz : ¬ (k : Int) < (k : Int) := by omega
      have HL4 := Lib.hid (HF.out wr (by
        have := HLk.out
        rwa [← HN.out, List.take_length] at this))
      go_wp2_with fail
      exact bodyPost_end (v := .tuple #[]) (by simp [results, Try.results30]) rfl ⟨rfl, HL4.out⟩
end Go.Proofs.Ytkidahlhnhglfaa
