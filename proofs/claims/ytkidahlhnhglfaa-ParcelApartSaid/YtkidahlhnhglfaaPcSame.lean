/-
  Layer parcel, the reference: two replies are the same.
-/
import Derived.Test.YtkidahlhnhglfaaPcReply
import Derived.Deep.CutRange
namespace Go.Proofs.Ytkidahlhnhglfaa
open Go.RowKit

theorem eq_rec (n : Nat) (a b a' b' : ByteArray) (w : World) : (Op.equalIn (n + 2) 57 (.agg #[.string a, .string b]) (.agg #[.string a', .string b'])).run Try.prog w = .ok (decide (a.toList = a'.toList) && decide (b.toList = b'.toList)) w := by
  by_cases h1 : a.toList = a'.toList
  · by_cases h2 : b.toList = b'.toList
    · simp [go_sem, h1, h2]
    · simp [go_sem, h1, h2]
  · simp [go_sem, h1]
theorem toList_strB (l : List UInt8) : (strB l).toList = l := by rw [ByteArray.toList_eq]; rfl
theorem toList_inj {a b : ByteArray} (h : a.toList = b.toList) : a = b := by
  rw [ByteArray.toList_eq, ByteArray.toList_eq] at h
  cases a; cases b
  simp only [ByteArray.mk.injEq]
  exact Array.toList_inj.1 h
theorem list_same {α : Type} {d : α} {n : Nat} {l l' : List α} (h : l.length = n) (h' : l'.length = n) (ha : ∀ j, j < n → l.getD j d = l'.getD j d) : l = l' := by
  refine List.ext_getElem (by omega) fun j h1 h2 => ?_
  have := ha j (by omega)
  simpa [List.getD, h1, h2] using this
theorem two_boxes {w wr : World} {c1 c2 : Array Value} {t1 t2 : TypeId} (hb : Below (w.heap.size + 2) ((w.alloc (.cells c1 t1)).alloc (.cells c2 t2)) wr) : (∀ i, wr.cell? ⟨w.heap.size, i, none⟩ = c1[i]?) ∧ (∀ i, wr.cell? ⟨w.heap.size + 1, i, none⟩ = c2[i]?) := by
  have z : (w.alloc (.cells c1 t1)).heap.size = w.heap.size + 1 := by simp
  have h2 : ((w.alloc (.cells c1 t1)).alloc (.cells c2 t2)).heap[w.heap.size + 1]? = some (.cells c2 t2 (0, 0)) := by
    have := new_block (w.alloc (.cells c1 t1)) c2 t2
    rwa [z] at this
  have h1 : ((w.alloc (.cells c1 t1)).alloc (.cells c2 t2)).heap[w.heap.size]? = some (.cells c1 t1 (0, 0)) := by
    have hb1 : Below (w.alloc (.cells c1 t1)).heap.size (w.alloc (.cells c1 t1)) ((w.alloc (.cells c1 t1)).alloc (.cells c2 t2)) := (Below.refl _ _).alloc (Nat.le_refl _) _
    rw [hb1.block w.heap.size (by rw [z]; omega)]
    exact new_block _ _ _
  exact ⟨fun i => by rw [hb.cell (p := ⟨w.heap.size, i, none⟩) (by show w.heap.size < _; omega)]; exact cell_at h1 i,
    fun i => by rw [hb.cell (p := ⟨w.heap.size + 1, i, none⟩) (by show w.heap.size + 1 < _; omega)]; exact cell_at h2 i⟩
set_option maxHeartbeats 4000000 in
theorem same_any (r r' : RepL) (p p' : Option Addr) (k k' : Nat) (w : World) (hp : Recs w p r.ls) (hp' : Recs w p' r'.ls) (hl : r.ls.length ≤ 9223372036854775807) (hl' : r'.ls.length ≤ 9223372036854775807) :
    Calls Try.prog 18 #[repV r p k, repV r' p' k'] w fun e w' => ∃ b : Bool, e = .returned (.bool b) ∧ (b = true ↔ r = r') ∧ Below w.heap.size w w' := by
  obtain ⟨c, s, er, fd, v, ls, nx, mr⟩ := r
  obtain ⟨c', s', er', fd', v', ls', nx', mr'⟩ := r'
  unfold repV
  simp only at hl hl' hp hp' ⊢
  have HP := Lib.hid hp
  have HP' := Lib.hid hp'
  obtain ⟨n, hN⟩ : ∃ n, ls.length = n := ⟨_, rfl⟩
  obtain ⟨n', hN'⟩ : ∃ n, ls'.length = n := ⟨_, rfl⟩
  rw [hN] at hl ⊢
  rw [hN'] at hl' ⊢
  have HN := Lib.hid hN
  have HN' := Lib.hid hN'
  obtain ⟨B, hB⟩ : ∃ B : Bool, (B = true ↔ (⟨c, s, er, fd, v, ls, nx, mr⟩ : RepL) = ⟨c', s', er', fd', v', ls', nx', mr'⟩) := by
    by_cases h : (⟨c, s, er, fd, v, ls, nx, mr⟩ : RepL) = ⟨c', s', er', fd', v', ls', nx', mr'⟩
    · exact ⟨true, by simp [h]⟩
    · exact ⟨false, by simp [h]⟩
  have HEq : (⟨c, s, er, fd, v, ls, nx, mr⟩ : RepL) = ⟨c', s', er', fd', v', ls', nx', mr'⟩ ↔ (c = c' ∧ s = s' ∧ er = er' ∧ fd = fd' ∧ (strB v).toList = (strB v').toList ∧ ls = ls' ∧ (strB nx).toList = (strB nx').toList ∧ mr = mr') := by
    constructor
    · intro h
      injection h with h1 h2 h3 h4 h5 h6 h7 h8
      exact ⟨h1, h2, h3, h4, by rw [h5], h6, by rw [h7], h8⟩
    · rintro ⟨rfl, rfl, rfl, rfl, h5, rfl, h7, rfl⟩
      rw [toList_strB, toList_strB] at h5 h7
      rw [h5, h7]
  have HQ := Lib.hid (hB.trans HEq)
  suffices hs : Calls Try.prog 18 #[.agg #[.int .i64 c, .int .i64 s, .int .i64 er, .bool fd, .string (strB v), .slice p n k, .string (strB nx), .bool mr], .agg #[.int .i64 c', .int .i64 s', .int .i64 er', .bool fd', .string (strB v'), .slice p' n' k', .string (strB nx'), .bool mr']] w (fun e w' => e = .returned (.bool B) ∧ Below w.heap.size w w') from hs.mono fun e w' h => ⟨B, h.1, hB, h.2⟩
  clear HEq hB
  generalize strB v = v at HQ ⊢
  generalize strB v' = v' at HQ ⊢
  generalize strB nx = nx at HQ ⊢
  generalize strB nx' = nx' at HQ ⊢
  clear hp hp' hN hN'
  go_enter Try.func18, Try.ntmps18
  go_upto_region 1 with fail
  obtain ⟨W, hW⟩ : ∃ W, (w.alloc (.cells #[.int .i64 c, .int .i64 s, .int .i64 er, .bool fd, .string v, .slice p n k, .string nx, .bool mr] 37)).alloc (.cells #[.int .i64 c', .int .i64 s', .int .i64 er', .bool fd', .string v', .slice p' n' k', .string nx', .bool mr'] 37) = W := ⟨_, rfl⟩
  have HZ := Lib.hid (show W.heap.size = w.heap.size + 2 by rw [← hW]; simp)
  have HC := Lib.hid (show ∀ wr, Below W.heap.size W wr → (∀ i, wr.cell? ⟨w.heap.size, i, none⟩ = _) ∧ (∀ i, wr.cell? ⟨w.heap.size + 1, i, none⟩ = _) from fun wr hb => two_boxes (w := w) (wr := wr) (by rw [hW, ← HZ.out]; exact hb))
  have HBW := Lib.hid (show Below w.heap.size w W by rw [← hW]; exact ((Below.refl _ _).alloc (Nat.le_refl _) _).alloc (by simp) _)
  rw [hW]
  clear hW
  have c0 := (HC.out W (Below.refl _ _)).1 0
  have d0 := (HC.out W (Below.refl _ _)).2 0
  have c1 := (HC.out W (Below.refl _ _)).1 1
  have d1 := (HC.out W (Below.refl _ _)).2 1
  have c2 := (HC.out W (Below.refl _ _)).1 2
  have d2 := (HC.out W (Below.refl _ _)).2 2
  have c3 := (HC.out W (Below.refl _ _)).1 3
  have d3 := (HC.out W (Below.refl _ _)).2 3
  have c4 := (HC.out W (Below.refl _ _)).1 4
  have d4 := (HC.out W (Below.refl _ _)).2 4
  have c5 := (HC.out W (Below.refl _ _)).1 5
  have d5 := (HC.out W (Below.refl _ _)).2 5
  have c6 := (HC.out W (Below.refl _ _)).1 6
  have d6 := (HC.out W (Below.refl _ _)).2 6
  have c7 := (HC.out W (Below.refl _ _)).1 7
  have d7 := (HC.out W (Below.refl _ _)).2 7
  by_cases hne : c = c'
  case neg =>
    obtain rfl : B = false := by
      cases B
      · rfl
      · exact absurd ((HQ.out.1 rfl).1) hne
    go_wp2_with fail
    go_ret
    exact ⟨rfl, HBW.out⟩
  subst hne
  by_cases hne : s = s'
  case neg =>
    obtain rfl : B = false := by
      cases B
      · rfl
      · exact absurd ((HQ.out.1 rfl).2.1) hne
    go_wp2_with fail
    go_ret
    exact ⟨rfl, HBW.out⟩
  subst hne
  by_cases hne : er = er'
  case neg =>
    obtain rfl : B = false := by
      cases B
      · rfl
      · exact absurd ((HQ.out.1 rfl).2.2.1) hne
    go_wp2_with fail
    go_ret
    exact ⟨rfl, HBW.out⟩
  subst hne
  by_cases hne : fd = fd'
  case neg =>
    obtain rfl : B = false := by
      cases B
      · rfl
      · exact absurd ((HQ.out.1 rfl).2.2.2.1) hne
    go_wp2_with fail
    go_ret
    exact ⟨rfl, HBW.out⟩
  subst hne
  by_cases hne : v.toList = v'.toList
  case neg =>
    obtain rfl : B = false := by
      cases B
      · rfl
      · exact absurd ((HQ.out.1 rfl).2.2.2.2.1) hne
    go_wp2_with fail
    go_ret
    exact ⟨rfl, HBW.out⟩
  have hne := toList_inj hne
  subst hne
  by_cases hne : nx.toList = nx'.toList
  case neg =>
    obtain rfl : B = false := by
      cases B
      · rfl
      · exact absurd ((HQ.out.1 rfl).2.2.2.2.2.2.1) hne
    go_wp2_with fail
    go_ret
    exact ⟨rfl, HBW.out⟩
  have hne := toList_inj hne
  subst hne
  by_cases hne : mr = mr'
  case neg =>
    obtain rfl : B = false := by
      cases B
      · rfl
      · exact absurd ((HQ.out.1 rfl).2.2.2.2.2.2.2) hne
    go_wp2_with fail
    go_ret
    exact ⟨rfl, HBW.out⟩
  subst hne
  by_cases hne : (n : Int) = (n' : Int)
  case neg =>
    obtain rfl : B = false := by
      cases B
      · rfl
      · exact absurd (by rw [← HN.out, ← HN'.out, (HQ.out.1 rfl).2.2.2.2.2.1]) hne
    go_wp2_with fail
    go_ret
    exact ⟨rfl, HBW.out⟩
  obtain rfl : n = n' := by omega
  have HQ2 := Lib.hid (show B = true ↔ ls = ls' from ⟨fun h => (HQ.out.1 h).2.2.2.2.2.1, fun h => HQ.out.2 ⟨rfl, rfl, rfl, rfl, rfl, h, rfl, rfl⟩⟩)
  clear hne HQ
  go_wp2_with fail
  have hnz : (n : Int) ≤ 9223372036854775807 := by omega
  have hq : ∀ a b a' b' w, (Op.equalIn 10000 57 (.agg #[.string a, .string b]) (.agg #[.string a', .string b'])).run Try.prog w = .ok (decide (a.toList = a'.toList) && decide (b.toList = b'.toList)) w := fun a b a' b' w => eq_rec 9998 a b a' b' w
  clear c0 c1 c2 c3 c4 c5 c6 c7 d0 d1 d2 d3 d4 d5 d6 d7 hl hl'
  go_loopw [5] (fun i wr => ∃ k : Nat, k ≤ n ∧ i = .int .i64 k ∧ Hid (∀ j, j < k → ls.getD j ([], []) = ls'.getD j ([], [])) ∧ Hid (∃ m, wr = W.drewN m)) (fun i _ => n - (intOf i).toNat)
  case atStart => exact ⟨0, Nat.zero_le _, rfl, Lib.hid (fun j hj => by omega), Lib.hid ⟨0, rfl⟩⟩
  case round =>
    obtain ⟨k, hk, rfl, HA, HM⟩ := hrel
    obtain ⟨m, rfl⟩ := HM.out
    have HBm := Lib.hid (Below.refl W.heap.size W)
    have c5 := (HC.out _ HBm.out).1 5
    have d5 := (HC.out _ HBm.out).2 5
    by_cases hlt : k < n
    · have hltz : (k : Int) < (n : Int) := by omega
      have HR := Lib.hid (HP.out.below HBW.out)
      have HR' := Lib.hid (HP'.out.below HBW.out)
      obtain ⟨b, o, hpe, hbl, r1, r2⟩ := rec_cell HR.out HBm.out (show k < ls.length by rw [HN.out]; exact hlt)
      obtain ⟨b', o', hpe', hbl', r1', r2'⟩ := rec_cell HR'.out HBm.out (show k < ls'.length by rw [HN'.out]; exact hlt)
      subst hpe
      subst hpe'
      obtain ⟨q, hqq⟩ : ∃ q, (decide ((strB (ls.getD k ([], [])).1).toList = (strB (ls'.getD k ([], [])).1).toList) && decide ((strB (ls.getD k ([], [])).2).toList = (strB (ls'.getD k ([], [])).2).toList)) = q := ⟨_, rfl⟩
      have HG := Lib.hid hqq
      generalize strB (ls.getD k ([], [])).1 = s1 at r1 hqq
      generalize strB (ls.getD k ([], [])).2 = s2 at r2 hqq
      generalize strB (ls'.getD k ([], [])).1 = s1' at r1' hqq
      generalize strB (ls'.getD k ([], [])).2 = s2' at r2' hqq
      have hqs := hq s1 s2 s1' s2'
      rw [hqq] at hqs
      clear hqq hbl hbl' hq
      cases q with
      | true =>
        go_wp2_with fail
        go_quiet (fail)
        go_wp2_with fail
        go_roundw
        case rel => exact ⟨k + 1, by omega, by go_num, Lib.hid (fun j hj => by
          rcases Nat.lt_or_ge j k with h | h
          · exact HA.out j h
          · obtain rfl : j = k := by omega
            have h2 := HG.out
            simp only [Bool.and_eq_true, decide_eq_true_eq, toList_strB] at h2
            exact Prod.ext h2.1 h2.2), Lib.hid ⟨_, rfl⟩⟩
        case measure => simp [intOf]; omega
      | false =>
        obtain rfl : B = false := by
          cases B
          · rfl
          · have h2 := HG.out
            rw [HQ2.out.1 rfl] at h2
            simp at h2
        go_wp2_with fail
        go_quiet (fail)
        go_wp2_with fail
        go_ret
        exact ⟨rfl, by first | exact below_drewN HBW.out _ | exact below_drewN (below_drewN HBW.out _) _⟩
    · obtain rfl : k = n := by omega
      have hltz : ¬ (k : Int) < (k : Int) := by omega
      obtain rfl : B = true := HQ2.out.2 (list_same HN.out HN'.out HA.out)
      go_wp2_with fail
      go_ret
      exact ⟨rfl, by first | exact below_drewN HBW.out _ | exact below_drewN (below_drewN HBW.out _) _⟩
end Go.Proofs.Ytkidahlhnhglfaa
