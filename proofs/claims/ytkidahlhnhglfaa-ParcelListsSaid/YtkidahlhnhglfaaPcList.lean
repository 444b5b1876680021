/-
  Layer parcel: List at texts, with the law's 'one'.
-/
import Derived.Test.YtkidahlhnhglfaaPcItStr
import Derived.Test.YtkidahlhnhglfaaPcLstM
import Derived.Tactics2
import Derived.Recover
import Derived.Laws.EntriesVeiled
namespace Go.Proofs.Ytkidahlhnhglfaa
open Go.RowKit Go.Gz

theorem one_any (l : List UInt8) (w : World) : Calls Try.prog 9 #[.string (strB l)] w fun e w' => ∃ b c, e = .returned (.slice (some ⟨b, 0, none⟩) l.length c) ∧ Row w' .u8 (some ⟨b, 0, none⟩) (nums l) ∧ Below w.heap.size w w' := by
  obtain ⟨cap, w2, h1, _, h2, h3⟩ := conv_bytes w l
  rw [strB_size] at h1
  have H2 := Lib.hid (And.intro h2 h3)
  clear h2 h3
  obtain ⟨s, hs⟩ : ∃ s, strB l = s := ⟨_, rfl⟩
  rw [hs] at h1 ⊢
  obtain ⟨n, hn⟩ : ∃ n, l.length = n := ⟨_, rfl⟩
  rw [hn] at h1 ⊢
  clear hs hn
  go_enter Try.func9, Try.ntmps9
  go_wp2_with fail
  go_ret
  exact ⟨_, _, rfl, H2.out⟩
theorem catch_list (w : World) :
    CallsD Try.prog 28 #[] .returning w fun e u' w' => e = .returned (.tuple #[]) ∧ u' = .returning ∧ w' = w := by
  refine callsD_of_wpS Try.func28 rfl fun c₀ cs hu => ?_
  apply wpS_region
  simp [wpOpsS, go_sem, recoverD, hu, Try.ntmps28]
  cases c₀
  simp_all [bodyPostS, results, Try.results28]

theorem list_nil (p : Option Addr) (n cap : Nat) (w : World) : Calls Try.prog 8 #[.slice p n cap, .nilFunc] w fun e w' => e = .returned (.slice none 0 0) ∧ Below w.heap.size w w' := by
  have hfn : ∀ w : World, (binOp .eql 27 .nilFunc .nilFunc).run Try.prog w = .ok (.bool true) w := fun _ => by kernel_rfl
  go_enter_defers Try.func8, Try.ntmps8
  go_wp2_with fail
  exact ⟨.slice none 0 0, by simp [results, Try.results8, go_sem], rfl, (Below.refl _ _).alloc (Nat.le_refl _) _⟩

theorem Laid.below {w w1 w2 : World} {B g M : Nat} {st : Option (List UInt8)} (h : Laid w B g M st w1) (hB : B ≤ w.heap.size) (hb : Below w1.heap.size w1 w2) : Laid w B g M st w2 :=
  ⟨h.pk.below hb, h.bl.trans (hb.mono (Nat.le_trans hB h.bl.size)), h.fr.trans (Fr.of_below hb)⟩

set_option maxHeartbeats 1000000 in
/-- List's closure: what one answers, laid as a text. -/
theorem layOne_any (x : List UInt8) (w : World) (B gp M bx : Nat) (st : Option (List UInt8)) (hbx : w.cell? ⟨bx, 0, none⟩ = some (.func (.func 9) #[] #[])) (hB : B ≤ w.heap.size) (hpk : PkAt w B gp M st) (hM : M ≤ 9223372036854775807) (hr : M ≤ 1000000000000 ∨ (st.getD []).length + sizeT [x] ≤ 1000000000000) :
    Calls Try.prog 31 #[.pointer (some ⟨gp, 0, none⟩), .string (strB x), .pointer (some ⟨bx, 0, none⟩)] w fun e w' => e = .returned (.tuple #[]) ∧ Laid w B gp M (textsS M st [x]) w' := by
  have C1 := Lib.hid (one_any x w)
  have HL0 := Lib.hid (Laid.refl hpk)
  have HH := Lib.hid (And.intro hB (And.intro hM hr))
  clear hpk hB hM hr
  obtain ⟨s, hs⟩ : ∃ s, strB x = s := ⟨_, rfl⟩
  rw [hs] at C1 ⊢
  obtain ⟨m, hm⟩ : ∃ m, x.length = m := ⟨_, rfl⟩
  rw [hm] at C1
  have HM := Lib.hid (And.intro hm hs)
  clear hm hs
  go_enter Try.func31, Try.ntmps31
  go_wp2_with fail
  refine C1.out.mono ?_
  rintro e w3 ⟨b3, c3, rfl, hr3, hb3⟩
  have hcv : (convert 25 9 (.slice (some ⟨b3, 0, none⟩) m c3)).run Try.prog w3 = .ok (.string s) w3 := by
    have := run_string w3 x (some ⟨b3, 0, none⟩) c3 hr3
    rw [HM.out.1] at this
    rw [← HM.out.2]
    exact this
  have HB3 := Lib.hid (hb3.trans (show Below w.heap.size w3 (w3.alloc (.cells #[.string s] 9)) from (Below.refl _ _).alloc hb3.size _))
  have HL3 := Lib.hid (HL0.out.below HH.out.1 HB3.out)
  have HNB3 := Lib.hid (new_block w3 #[.string s] 9)
  have CT := Lib.hid (texts_any (w3.alloc (.cells #[.string s] 9)) B gp M w3.heap.size _ [x] (Nat.le_trans HH.out.1 (Nat.le_trans hb3.size (by simp))) HL3.out.pk HH.out.2.1 HH.out.2.2 (by rw [HNB3.out, ← HM.out.2]; rfl) (by simp))
  clear hr3 hb3
  go_wp2_with fail
  refine CT.out.mono ?_
  rintro e w4 ⟨rfl, hl4⟩
  have HL4 := Lib.hid (HL3.out.trans hl4)
  clear hl4
  go_wp2_with fail
  exact bodyPost_end (v := .tuple #[]) (by simp [results, Try.results31]) rfl ⟨rfl, HL4.out⟩

set_option maxHeartbeats 2000000 in
theorem list_any (ls : List (List UInt8)) (p : Option Addr) (cap : Nat) (w : World) (hp : Strs w p (ls.map strB)) (hn : ls.length ≤ 1000) (hs : sumL3 ls ≤ 100000) :
    Calls Try.prog 8 #[.slice p ls.length cap, .func (.func 9) #[] #[]] w fun e w' => ∃ v, e = .returned v ∧ Own w' w.heap.size 5 .u8 v (nums ((Codec.list textC).enc ls)) ∧ Below w.heap.size w w' := by
  have hfn : ∀ w : World, (binOp .eql 27 (.func (.func 9) #[] #[]) .nilFunc).run Try.prog w = .ok (.bool false) w := fun _ => by kernel_rfl
  have hmf : ∀ (fn : Fn) (first cap : Array Value) (w : World), (Instr.makeFunc fn first cap).run Try.prog w = .ok (.func fn first cap) w := fun _ _ _ _ => rfl
  obtain ⟨W0, hW0⟩ : ∃ W0, w.alloc (.cells #[.func (.func 9) #[] #[]] 27) = W0 := ⟨_, rfl⟩
  have hz0 : W0.heap.size = w.heap.size + 1 := by rw [← hW0]; simp
  have hbl0 : W0.heap[w.heap.size]? = some (.cells #[.func (.func 9) #[] #[]] 27 (0, 0)) := hW0 ▸ new_block _ _ _
  have hc0 := cell_at hbl0 0
  have HC := Lib.hid (show ∀ wr, Below (w.heap.size + 1) W0 wr → wr.cell? ⟨w.heap.size, 0, none⟩ = some (.func (.func 9) #[] #[]) from fun wr hb => cell_at (show wr.heap[w.heap.size]? = _ by rw [hb.block _ (by omega)]; exact hbl0) 0)
  have HBW := Lib.hid (show Below w.heap.size w W0 by rw [← hW0]; exact (Below.refl _ _).alloc (Nat.le_refl _) _)
  have CN := Lib.hid (pcNew_any W0 9223372036854775807)
  rw [hz0] at CN
  have HP := Lib.hid hp
  have HZ0 := Lib.hid hz0
  have HST := Lib.hid (show ((numsS 9223372036854775807 (some []) [(ls.length : Int)]).getD []).length ≤ 4 from numS_len 9223372036854775807 (some []) (ls.length : Int))
  have HSX := Lib.hid (show ∀ k, k < ls.length → (((ls.take k).foldl (textS 9223372036854775807) (numsS 9223372036854775807 (some []) [(ls.length : Int)])).getD []).length + sizeT [ls.getD k []] ≤ 1000000000000 from fun k hk => by
    have h1 := textsS_len 9223372036854775807 (ls.take k) (numsS 9223372036854775807 (some []) [(ls.length : Int)])
    unfold textsS at h1
    have h2 := sizeT_take ls k hk
    have h3 := sizeT_eq ls
    have h6 : sizeT [ls.getD k []] = 4 + (ls.getD k []).length + 0 := rfl
    have h7 := HST.out
    omega)
  have HE := Lib.hid (show itemsS 9223372036854775807 (textS 9223372036854775807) (some []) ls = some ((Codec.list textC).enc ls) from listS_room ls hn hs)
  have HN := Lib.hid hn
  obtain ⟨n, hln⟩ : ∃ n, ls.length = n := ⟨_, rfl⟩
  have HL := Lib.hid hln
  rw [hln]
  clear hp hln hn hs hz0 hbl0
  go_enter_defers Try.func8, Try.ntmps8
  go_wp2_with fail
  refine CN.out.mono ?_
  rintro e w1 ⟨rfl, hpk1, hb1⟩
  have HB1 := Lib.hid hb1
  have CI := Lib.hid (itemsStr_any (g := 31) (lb := #[.pointer (some ⟨w.heap.size, 0, none⟩)]) (fun _ _ => rfl) (textS 9223372036854775807) w w1 (w.heap.size + 1) (w.heap.size + 1) 9223372036854775807 (some []) ls p cap HP.out (HBW.out.trans (HB1.out.mono (by omega))) (by omega) (by have := HB1.out.size; have := HZ0.out; omega) hpk1 (by omega) (Or.inr (by simp)) (by have := HN.out; omega)
    (fun k hk w2 h1 h2 h3 => layOne_any _ w2 _ _ _ _ _ (HC.out w2 (HB1.out.trans h2)) h1 h3 (by omega) (Or.inr (HSX.out k hk))))
  rw [HE.out, HL.out] at CI
  clear hb1 hpk1 hW0 hc0
  go_wp2_with fail
  refine CI.out.mono ?_
  rintro e w2 ⟨rfl, hl2⟩
  have CP := Lib.hid (packed_any w2 (w.heap.size + 1) (w.heap.size + 1) 9223372036854775807 _ hl2.pk)
  have HB2 := Lib.hid (HB1.out.trans hl2.bl)
  clear hl2
  go_wp2_with fail
  refine CP.out.mono ?_
  intro e w5 h9
  have HR := Lib.hid (h9.of (B' := w.heap.size) (w0 := w) (by omega) (HBW.out.trans (HB2.out.mono (by omega))))
  obtain ⟨v, he, hown, hb⟩ := HR.out
  subst he
  have H5 := Lib.hid (And.intro hown hb)
  clear hown hb h9
  go_wp2_with fail
  refine leaves_cons (f := 28) (args := #[]) (by simp) (by simp [go_sem]) ?_
  refine (catch_list _).mono ?_
  rintro e u' w'' ⟨rfl, rfl, rfl⟩
  simp [Leaves, settle, results, Try.results8, go_sem]
  exact H5.out
end Go.Proofs.Ytkidahlhnhglfaa
