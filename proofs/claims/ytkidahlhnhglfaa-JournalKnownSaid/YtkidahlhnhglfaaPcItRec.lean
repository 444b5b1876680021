/-
  Layer parcel: Record and Part of a packer; Items at records.
-/
import Derived.Test.YtkidahlhnhglfaaPcRepB
import Derived.Laws.EntriesVeiled
import Derived.WalkSpells
namespace Go.Proofs.Ytkidahlhnhglfaa
open Go.RowKit

set_option maxHeartbeats 1000000 in
theorem record_any (w : World) (B g M : Nat) (st : Option (List UInt8)) (x y : List UInt8) (hB : B ≤ w.heap.size) (h : PkAt w B g M st) (hM : M ≤ 9223372036854775807) (hr : M ≤ 1000000000000 ∨ (st.getD []).length + sizeU [x, y] ≤ 1000000000000) :
    Calls Try.prog 43 #[.pointer (some ⟨g, 0, none⟩), .agg #[.string (strB x), .string (strB y)]] w fun e w' => e = .returned (.tuple #[]) ∧ Laid w B g M (textsS M st [x, y]) w' := by
  have HL1 := Lib.hid (((Laid.refl h).alloc hB (.cells #[.string (strB x), .string (strB y)] 57)).alloc hB (.cells #[.string (strB x), .string (strB y)] 9))
  have HC := Lib.hid (texts_anyU _ B g M (w.heap.size + 1) st [x, y] (by have := HL1.out.bl.size; omega) HL1.out.pk hM hr (by
    have := new_block (w.alloc (.cells #[.string (strB x), .string (strB y)] 57)) #[.string (strB x), .string (strB y)] 9
    rw [World.size_alloc] at this
    exact this) (by simp))
  clear h hr hM hB
  generalize strB x = xs at HL1 HC ⊢
  generalize strB y = ys at HL1 HC ⊢
  go_enter Try.func43, Try.ntmps43
  go_wp2_with fail
  refine HC.out.mono ?_
  rintro e w2 ⟨rfl, hl⟩
  have HL2 := Lib.hid (HL1.out.trans hl)
  clear hl
  go_wp2_with fail
  exact bodyPost_end (v := .tuple #[]) (by simp [results, Try.results43]) rfl ⟨rfl, HL2.out⟩

/-- Items at records. -/
def itemsS {α : Type} (M : Nat) (f : Option (List UInt8) → α → Option (List UInt8)) (st : Option (List UInt8)) (xs : List α) : Option (List UInt8) := xs.foldl f (numsS M st [(xs.length : Int)])
theorem foldl_snoc {α β : Type} (f : β → α → β) (s : β) (xs : List α) (k : Nat) (d : α) (h : k < xs.length) : (xs.take (k + 1)).foldl f s = f ((xs.take k).foldl f s) (xs.getD k d) := by
  rw [List.take_succ_eq_append_getElem h, List.foldl_append]
  simp [List.getD, h]

set_option maxHeartbeats 2000000 in
theorem itemsRec_any {g : FuncId} {lb : Array Value} (eg : ∀ args w, (callFunc g args).run Try.prog w = .ok (.enter g args) w) (f : Option (List UInt8) → RecL → Option (List UInt8))
    (w0 w : World) (B gp M : Nat) (st : Option (List UInt8)) (ls : List RecL) (p : Option Addr) (cap : Nat) (hp : Recs w0 p ls) (hb0 : Below w0.heap.size w0 w) (hB0 : w0.heap.size ≤ B) (hB : B ≤ w.heap.size) (hpk : PkAt w B gp M st) (hM : M ≤ 9223372036854775807)
    (hr : M ≤ 1000000000000 ∨ (st.getD []).length + 4 ≤ 1000000000000) (hn : ls.length ≤ 1048576)
    (hone : ∀ k, k < ls.length → ∀ w1, B ≤ w1.heap.size → Below B w w1 → PkAt w1 B gp M ((ls.take k).foldl f (numsS M st [(ls.length : Int)])) →
      Calls Try.prog g (#[.pointer (some ⟨gp, 0, none⟩), .agg #[.string (strB (ls.getD k ([], [])).1), .string (strB (ls.getD k ([], [])).2)]] ++ lb) w1 fun e w' => e = .returned (.tuple #[]) ∧ Laid w1 B gp M (f ((ls.take k).foldl f (numsS M st [(ls.length : Int)])) (ls.getD k ([], []))) w') :
    Calls Try.prog 42 #[.pointer (some ⟨gp, 0, none⟩), .slice p ls.length cap, .func (.func g) #[] lb] w fun e w' => e = .returned (.tuple #[]) ∧ Laid w B gp M (itemsS M f st ls) w' := by
  have hfn : ∀ w : World, (binOp .eql 85 (.func (.func g) #[] lb) .nilFunc).run Try.prog w = .ok (.bool false) w := fun _ => by kernel_rfl
  have HF := Lib.hid (show ∀ w', Laid w B gp M (ls.foldl f (numsS M st [(ls.length : Int)])) w' → Laid w B gp M (itemsS M f st ls) w' from fun _ h => h)
  generalize itemsS M f st ls = R at HF ⊢
  have hgt : decide ((1048576 : Int) < (ls.length : Int)) = false := by simp; omega
  have hnn : ls.length ≤ 1048576 := hn
  have HL1 := Lib.hid ((Laid.refl hpk).alloc hB (.cells #[.int .i64 (ls.length : Int)] 3))
  have CN := Lib.hid (numbers_any _ B gp M w.heap.size st [(ls.length : Int)] (by have := HL1.out.bl.size; omega) HL1.out.pk hM (by simpa using hr) (new_block w _ _) (by simp))
  obtain ⟨S0, hS0⟩ : ∃ S0, numsS M st [(ls.length : Int)] = S0 := ⟨_, rfl⟩
  rw [hS0] at HF CN hone
  have HP := Lib.hid hp
  have HB0 := Lib.hid hb0
  have HO := Lib.hid hone
  obtain ⟨n, hN⟩ : ∃ n, ls.length = n := ⟨_, rfl⟩
  rw [hN] at hgt hnn HL1 CN ⊢
  have HN := Lib.hid hN
  clear hp hb0 hone hN hS0 hpk hr hn
  go_enter Try.func42, Try.ntmps42
  go_wp2_with fail
  refine CN.out.mono ?_
  rintro e w1 ⟨rfl, hl1⟩
  have HL2 := Lib.hid (HL1.out.trans hl1)
  clear hl1
  go_wp2_with fail
  go_loopw [24] (fun i wr => ∃ k : Nat, k ≤ n ∧ i = .int .i64 k ∧ Hid (Laid w B gp M ((ls.take k).foldl f S0) wr)) (fun i _ => n - (intOf i).toNat)
  case atStart => exact ⟨0, Nat.zero_le _, rfl, HL2⟩
  case round =>
    obtain ⟨k, hk, rfl, HLk⟩ := hrel
    by_cases hlt : k < n
    · have hltz : (k : Int) < (n : Int) := by omega
      obtain ⟨b, o, hpe, hbl, r1, r2⟩ := rec_cell HP.out (HB0.out.trans (HLk.out.bl.mono hB0)) (show k < ls.length by rw [HN.out]; exact hlt)
      subst hpe
      have HC := Lib.hid (HO.out k (by rw [HN.out]; exact hlt))
      have HS := Lib.hid (foldl_snoc f S0 ls k ([], []) (by rw [HN.out]; exact hlt))
      obtain ⟨x, hx⟩ : ∃ x, ls.getD k ([], []) = x := ⟨_, rfl⟩
      rw [hx] at r1 r2 HC HS
      obtain ⟨x1, x2⟩ := x
      simp only at r1 r2 HC
      clear hx hbl
      obtain ⟨s1, hs1⟩ : ∃ s, strB x1 = s := ⟨_, rfl⟩
      obtain ⟨s2, hs2⟩ : ∃ s, strB x2 = s := ⟨_, rfl⟩
      rw [hs1] at r1 HC
      rw [hs2] at r2 HC
      clear hs1 hs2
      have HLa := Lib.hid (HLk.out.alloc hB (.cells #[.string s1, .string s2] 57))
      have HC1 := Lib.hid (HC.out _ (Nat.le_trans hB HLa.out.bl.size) HLa.out.bl HLa.out.pk)
      clear HC
      go_wp2_with fail
      refine HC1.out.mono ?_
      rintro e w3 ⟨rfl, hl3⟩
      have HL3 := Lib.hid (HLa.out.trans hl3)
      rw [← HS.out] at HL3
      clear hl3
      go_wp2_with fail
      go_roundw
      case rel => exact ⟨k + 1, by omega, by go_num, HL3⟩
      case measure => simp [intOf]; omega
    · obtain rfl : k = n := by omega
      have hltz : ¬ (k : Int) < (k : Int) := by omega
      have HL4 := Lib.hid (HF.out wr (by
        have := HLk.out
        rwa [← HN.out, List.take_length] at this))
      go_wp2_with fail
      exact bodyPost_end (v := .tuple #[]) (by simp [results, Try.results42]) rfl ⟨rfl, HL4.out⟩
end Go.Proofs.Ytkidahlhnhglfaa
