/-
  Layer parcel: List at texts, with the law's 'one'.
-/
import Derived.Test.YtiohhnmhkllgdaaPcStrs
import Derived.Test.YtiohhnmhkllgdaaPcLstM
import Derived.Tactics2
import Derived.Recover
import Derived.Laws.EntriesVeiled
namespace Go.Proofs.Ytiohhnmhkllgdaa
open Go.RowKit Go.Gz

theorem one_any (l : List UInt8) (w : World) : Calls Try.prog 8 #[.string (strB l)] w fun e w' => ∃ b c, e = .returned (.slice (some ⟨b, 0, none⟩) l.length c) ∧ Row w' .u8 (some ⟨b, 0, none⟩) (nums l) ∧ Below w.heap.size w w' := by
  obtain ⟨cap, w2, h1, _, h2, h3⟩ := conv_bytes w l
  rw [strB_size] at h1
  have H2 := Lib.hid (And.intro h2 h3)
  clear h2 h3
  obtain ⟨s, hs⟩ : ∃ s, strB l = s := ⟨_, rfl⟩
  rw [hs] at h1 ⊢
  obtain ⟨n, hn⟩ : ∃ n, l.length = n := ⟨_, rfl⟩
  rw [hn] at h1 ⊢
  clear hs hn
  go_enter Try.func8, Try.ntmps8
  go_wp2_with fail
  go_ret
  exact ⟨_, _, rfl, H2.out⟩
theorem catch_list (w : World) :
    CallsD Try.prog 18 #[] .returning w fun e u' w' => e = .returned (.tuple #[]) ∧ u' = .returning ∧ w' = w := by
  refine callsD_of_wpS Try.func18 rfl fun c₀ cs hu => ?_
  apply wpS_region
  simp [wpOpsS, go_sem, recoverD, hu, Try.ntmps18]
  cases c₀
  simp_all [bodyPostS, results, Try.results18]

theorem list_nil (p : Option Addr) (n cap : Nat) (w : World) : Calls Try.prog 7 #[.slice p n cap, .nilFunc] w fun e w' => e = .returned (.slice none 0 0) ∧ w = w' := by
  have hfn : ∀ w : World, (binOp .eql 27 .nilFunc .nilFunc).run Try.prog w = .ok (.bool true) w := fun _ => by kernel_rfl
  go_enter_defers Try.func7, Try.ntmps7
  go_wp2_with fail
  exact ⟨.slice none 0 0, by simp [results, Try.results7, go_sem], rfl, rfl⟩

theorem Laid.below {w w1 w2 : World} {B g M : Nat} {st : Option (List UInt8)} (h : Laid w B g M st w1) (hB : B ≤ w.heap.size) (hb : Below w1.heap.size w1 w2) : Laid w B g M st w2 :=
  ⟨h.pk.below hb, h.bl.trans (hb.mono (Nat.le_trans hB h.bl.size)), h.fr.trans (Fr.of_below hb)⟩

set_option maxHeartbeats 2000000 in
theorem list_any (ls : List (List UInt8)) (p : Option Addr) (cap : Nat) (w : World) (hp : Strs w p (ls.map strB)) (hn : ls.length ≤ 1000) (hs : sumL3 ls ≤ 100000) :
    Calls Try.prog 7 #[.slice p ls.length cap, .func (.func 8) #[] #[]] w fun e w' => ∃ v, e = .returned v ∧ Own w' w.heap.size 5 .u8 v (nums ((Codec.list textC).enc ls)) ∧ Below w.heap.size w w' := by
  have hfn : ∀ w : World, (binOp .eql 27 (.func (.func 8) #[] #[]) .nilFunc).run Try.prog w = .ok (.bool false) w := fun _ => by kernel_rfl
  have hn1 : decide ((1048576 : Int) < (ls.length : Int)) = false := by simp; omega
  have CN := Lib.hid (new_any w 9223372036854775807)
  have HP := Lib.hid hp
  have HN := Lib.hid hn
  have HS := Lib.hid hs
  have HE := Lib.hid (show textsS 9223372036854775807 (numsS 9223372036854775807 (some []) [(ls.length : Int)]) ls = some ((Codec.list textC).enc ls) from listS_room ls hn hs)
  clear hp hn hs
  obtain ⟨n, hln⟩ : ∃ n, ls.length = n := ⟨_, rfl⟩
  have HL := Lib.hid hln
  rw [hln] at hn1 HE ⊢
  have hnn : n ≤ 1000 := by rw [← hln]; exact HN.out
  clear hln
  obtain ⟨st1, hst⟩ : ∃ s, numsS 9223372036854775807 (some []) [(n : Int)] = s := ⟨_, rfl⟩
  have HST := Lib.hid (show (st1.getD []).length ≤ 4 from by
    rw [← hst]
    exact numS_len 9223372036854775807 (some []) (n : Int))
  rw [hst] at HE
  go_enter_defers Try.func7, Try.ntmps7
  go_wp2_with fail
  refine CN.out.mono ?_
  rintro e w1 ⟨rfl, hpk1, hb1⟩
  have HB1 := Lib.hid hb1
  have HNB := Lib.hid (new_block w1 #[.int .i64 n] 3)
  have HB1a := Lib.hid (show Below w1.heap.size w1 (w1.alloc (.cells #[.int .i64 n] 3)) from (Below.refl _ _).alloc (Nat.le_refl _) _)
  have CNum := Lib.hid (numbers_any (w1.alloc (.cells #[.int .i64 n] 3)) w.heap.size w.heap.size 9223372036854775807 w1.heap.size (some []) [(n : Int)] (Nat.le_trans hb1.size HB1a.out.size) (hpk1.below HB1a.out) (by omega) (Or.inr (by simp)) HNB.out (by simp))
  rw [hst] at CNum
  clear hb1 hpk1 hst
  go_wp2_with fail
  refine CNum.out.mono ?_
  rintro e w2 ⟨rfl, hl2⟩
  have HL2 := Lib.hid hl2.pk
  have HB2 := Lib.hid (HB1.out.trans ((HB1a.out.mono HB1.out.size).trans hl2.bl))
  clear hl2
  go_wp2_with fail
  go_loopw [7, 25] (fun _ i wr => ∃ k : Nat, k ≤ n ∧ i = .int .i64 k ∧ Hid (Laid w2 w.heap.size w.heap.size 9223372036854775807 (textsS 9223372036854775807 st1 (ls.take k)) wr)) (fun _ i _ => n - (intOf i).toNat)
  case atStart => exact ⟨0, Nat.zero_le _, rfl, Lib.hid (Laid.refl HL2.out)⟩
  case round =>
    obtain ⟨k, hk, rfl, HLr⟩ := hrel
    by_cases hlt : k < n
    · have hltz : (k : Int) < (n : Int) := by omega
      have HBr := Lib.hid (HB2.out.trans HLr.out.bl)
      obtain ⟨b, o, rfl, hbl, hcell⟩ := str_cell HP.out HBr.out (show k < (ls.map strB).length by rw [List.length_map, HL.out]; exact hlt)
      obtain ⟨x, hx⟩ : ∃ x, ls.getD k [] = x := ⟨_, rfl⟩
      have hgx : (ls.map strB).getD k ByteArray.empty = strB x := by
        rw [← hx]; simp [List.getD, show k < ls.length by rw [HL.out]; exact hlt]
      rw [hgx] at hcell
      have C1 := Lib.hid (one_any x wr)
      have HX := Lib.hid (show textsS 9223372036854775807 (textsS 9223372036854775807 st1 (ls.take k)) [x] = textsS 9223372036854775807 st1 (ls.take (k + 1)) by
        rw [textsS_snoc _ _ _ _ (by rw [HL.out]; exact hlt), hx]; rfl)
      have HR := Lib.hid (show ((textsS 9223372036854775807 st1 (ls.take k)).getD []).length + sizeT [x] ≤ 1000000 by
        have h1 := textsS_len 9223372036854775807 (ls.take k) st1
        have h2 := sizeT_take ls k (by rw [HL.out]; exact hlt)
        rw [hx] at h2
        have h3 := sizeT_eq ls
        have h4 := HN.out
        have h5 := HS.out
        have h6 : sizeT [x] = 4 + x.length + 0 := rfl
        have h7 := HST.out
        omega)
      clear hx hgx hbl
      obtain ⟨s, hs⟩ : ∃ s, strB x = s := ⟨_, rfl⟩
      rw [hs] at C1 hcell
      obtain ⟨m, hm⟩ : ∃ m, x.length = m := ⟨_, rfl⟩
      rw [hm] at C1
      have HM := Lib.hid (And.intro hm hs)
      clear hm hs
      go_wp2_with fail
      refine C1.out.mono ?_
      rintro e w3 ⟨b3, c3, rfl, hr3, hb3⟩
      have hcv : (convert 25 9 (.slice (some ⟨b3, 0, none⟩) m c3)).run Try.prog w3 = .ok (.string s) w3 := by
        have := run_string w3 x (some ⟨b3, 0, none⟩) c3 hr3
        rw [HM.out.1] at this
        rw [← HM.out.2]
        exact this
      have HB3 := Lib.hid (hb3.trans (show Below wr.heap.size w3 (w3.alloc (.cells #[.string s] 9)) from (Below.refl _ _).alloc hb3.size _))
      have HL3 := Lib.hid (HLr.out.below HB2.out.size HB3.out)
      have HNB3 := Lib.hid (new_block w3 #[.string s] 9)
      have CT := Lib.hid (texts_any (w3.alloc (.cells #[.string s] 9)) w.heap.size w.heap.size 9223372036854775807 w3.heap.size _ [x] (Nat.le_trans HB2.out.size HL3.out.bl.size) HL3.out.pk (by omega) (Or.inr HR.out) (by rw [HNB3.out, ← HM.out.2]; rfl) (by simp))
      rw [HX.out] at CT
      clear hr3 hb3
      go_wp2_with fail
      refine CT.out.mono ?_
      rintro e w4 ⟨rfl, hl4⟩
      have HL4 := Lib.hid (HL3.out.trans hl4)
      clear hl4
      go_wp2_with fail
      go_roundw
      case rel => exact ⟨k + 1, by omega, by go_num, HL4⟩
      case measure => simp [intOf]; omega
    · obtain rfl : k = n := by omega
      have hltz : ¬ (k : Int) < (k : Int) := by omega
      have HLk := Lib.hid (show Laid w2 w.heap.size w.heap.size 9223372036854775807 (some ((Codec.list textC).enc ls)) wr by
        have := HLr.out
        rwa [← HL.out, List.take_length, HE.out] at this)
      have CP := Lib.hid (packed_any wr w.heap.size w.heap.size 9223372036854775807 _ HLk.out.pk)
      go_wp2_with fail
      refine CP.out.mono ?_
      rintro e w5 ⟨v, rfl, hown, hb5⟩
      have H5 := Lib.hid (And.intro hown (HB2.out.trans (HLk.out.bl.trans hb5)))
      clear hown hb5
      go_wp2_with fail
      refine leaves_cons (f := 18) (args := #[]) (by simp) (by simp [go_sem]) ?_
      refine (catch_list _).mono ?_
      rintro e u' w'' ⟨rfl, rfl, rfl⟩
      simp [Leaves, settle, results, Try.results7, go_sem]
      exact H5.out
end Go.Proofs.Ytiohhnmhkllgdaa
