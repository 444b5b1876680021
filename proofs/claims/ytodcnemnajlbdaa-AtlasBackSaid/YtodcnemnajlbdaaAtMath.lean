/-
  Layer atlas, pure: what is whole is all keys cut at places that rise; a place more, a place less; each key has one owner.
-/
import Derived.Test.YtodcnemnajlbdaaSpCutM
namespace Go.Gz

theorem parts_get (ss : List ByteArray) (i : Nat) (h : i < (partsL ss).length) : (partsL ss)[i] = spAt ss i := by
  simp [partsL]
theorem parts_get? (ss : List ByteArray) (i : Nat) : (partsL ss)[i]? = if i ≤ ss.length then some (spAt ss i) else none := by
  by_cases h : i ≤ ss.length
  · rw [if_pos h, List.getElem?_eq_getElem (by rw [partsL_len]; omega), parts_get]
  · rw [if_neg h, List.getElem?_eq_none (by rw [partsL_len]; omega)]
theorem parts_ext {l : List SP} {ss : List ByteArray} (h : ∀ i, l[i]? = if i ≤ ss.length then some (spAt ss i) else none) : l = partsL ss :=
  List.ext_getElem? fun i => by rw [h i, parts_get?]
theorem spAt_succ (ss : List ByteArray) (j : Nat) : spAt ss (j + 1) = ⟨ss.getD j sE, ss.getD (j + 1) sE⟩ := by unfold spAt; rw [getD_succ]
theorem spAt_zero (ss : List ByteArray) : spAt ss 0 = ⟨sE, ss.getD 0 sE⟩ := rfl
/-- a list with a piece of it put anew. -/
theorem put_get? {α : Type} (P M : List α) (i d : Nat) (hi : i ≤ P.length) (j : Nat) : (P.take i ++ M ++ P.drop (i + d))[j]? = if j < i then P[j]? else if j < i + M.length then M[j - i]? else P[j + d - M.length]? := by
  rw [List.append_assoc, List.getElem?_append, List.length_take, Nat.min_eq_left hi]
  by_cases h1 : j < i
  · rw [if_pos h1, if_pos h1, List.getElem?_take, if_pos h1]
  · rw [if_neg h1, if_neg h1, List.getElem?_append]
    by_cases h2 : j < i + M.length
    · rw [if_pos h2, if_pos (by omega)]
    · rw [if_neg h2, if_neg (by omega), List.getElem?_drop]
      congr 1
      omega

/-- what is whole is cut somewhere. -/
theorem whole_parts {l : List SP} (h : wholeB l = true) : ∃ ss, AscL ss ∧ l = partsL ss := by
  unfold wholeB at h
  split at h
  · cases h
  · rename_i hn
    rw [Bool.and_eq_true, Bool.and_eq_true, Bool.and_eq_true] at h
    obtain ⟨h1, ⟨h2, h3⟩, h4⟩ := h
    have h1 : ∀ x ∈ l, emptyB x = false := fun x hx => by
      have : l.any emptyB = false := by simpa using h1
      exact List.any_eq_false.1 this x hx |> fun h => by simpa using h
    have h3 : FollowP l := by
      unfold followB at h3
      simpa using h3
    have g : ∀ i, (hi : i < l.length) → l[i]! = l[i] := fun i hi => getElem!_pos l i hi
    refine ⟨(l.take (l.length - 1)).map (·.t), ?_, ?_⟩
    · intro i hi
      rw [List.length_map, List.length_take] at hi
      have hi' : i < l.length := by omega
      have e1 : ((l.take (l.length - 1)).map (·.t)).getD i sE = l[i].t := by
        rw [List.getD, List.getElem?_eq_getElem (by simp; omega)]
        simp
      have e2 : (sE :: (l.take (l.length - 1)).map (·.t)).getD i sE = l[i].f := by
        cases i with
        | zero =>
          have := h2
          rw [g 0 hi'] at this
          rw [(sem_iff _).1 this]
          rfl
        | succ i =>
          have h5 := (h3 (i + 1) (by omega) hi').2
          rw [g (i + 1) hi', Nat.add_sub_cancel, g i (by omega)] at h5
          rw [← h5, getD_succ, List.getD, List.getElem?_eq_getElem (by simp; omega)]
          simp
      have h6 := (h3 (i + 1) (by omega) (by omega)).1
      rw [Nat.add_sub_cancel, g i hi'] at h6
      have h7 := h1 _ (List.getElem_mem hi')
      unfold emptyB at h7
      rw [h6] at h7
      rw [e1, e2]
      simpa using h7
    · refine parts_ext fun i => ?_
      rw [List.length_map, List.length_take, Nat.min_eq_left (by omega)]
      by_cases hi : i < l.length
      · rw [if_pos (by omega), List.getElem?_eq_getElem hi]
        unfold spAt
        have e2 : (sE :: (l.take (l.length - 1)).map (·.t)).getD i sE = l[i].f := by
          cases i with
          | zero =>
            have := h2
            rw [g 0 hi] at this
            rw [(sem_iff _).1 this]
            rfl
          | succ i =>
            have h5 := (h3 (i + 1) (by omega) hi).2
            rw [g (i + 1) hi, Nat.add_sub_cancel, g i (by omega)] at h5
            rw [← h5, getD_succ, List.getD, List.getElem?_eq_getElem (by simp; omega)]
            simp
        rw [e2]
        by_cases hl : i = l.length - 1
        · have h5 : l[i].t = sE := by
            have := h4
            rw [g _ (by omega)] at this
            have := (sem_iff _).1 this
            subst hl
            exact this
          rw [show ((l.take (l.length - 1)).map (·.t)).getD i sE = sE by rw [List.getD, List.getElem?_eq_none (by simp; omega)]; rfl, ← h5]
        · rw [List.getD, List.getElem?_eq_getElem (by simp; omega)]
          simp
      · rw [if_neg (by omega), List.getElem?_eq_none (by omega)]

/-- a part's ends. -/
theorem has_part {ss : List ByteArray} {i : Nat} {k : ByteArray} (h : hasB (spAt ss i) k = true) (hk : k ≠ (spAt ss i).f) : slt (spAt ss i).f k = true ∧ (i < ss.length → AscL ss → slt k (ss.getD i sE) = true) := by
  unfold hasB at h
  rw [Bool.and_eq_true, Bool.or_eq_true] at h
  obtain ⟨h1, h2⟩ := h
  have h1 : slt k (spAt ss i).f = false := by simpa using h1
  refine ⟨?_, fun hi ha => ?_⟩
  · cases h3 : slt (spAt ss i).f k with
    | true => rfl
    | false => exact absurd (slt_total h1 h3) hk
  · rcases h2 with h2 | h2
    · have := ha.ne hi
      rw [show (spAt ss i).t = ss.getD i sE from rfl, this] at h2
      cases h2
    · exact h2
theorem parts_split {ss : List ByteArray} (ha : AscL ss) {i : Nat} (hi : i ≤ ss.length) {k : ByteArray} (h : hasB (spAt ss i) k = true) (hk : k ≠ (spAt ss i).f) :
    AscL (insL ss k i) ∧ partsL (insL ss k i) = (partsL ss).take i ++ [⟨(spAt ss i).f, k⟩, ⟨k, (spAt ss i).t⟩] ++ (partsL ss).drop (i + 1) := by
  obtain ⟨h1, h2⟩ := has_part h hk
  refine ⟨ha.ins hi (slt_not_empty h1) (fun h0 => ?_) (fun h0 => h2 h0 ha), ?_⟩
  · obtain ⟨j, rfl⟩ : ∃ j, i = j + 1 := ⟨i - 1, by omega⟩
    rw [Nat.add_sub_cancel]
    have : (spAt ss (j + 1)).f = ss.getD j sE := getD_succ ss j
    rw [← this]
    exact h1
  · refine (parts_ext fun j => ?_).symm
    rw [put_get? _ _ i 1 (by rw [partsL_len]; omega), insL_len ss k i hi, parts_get?, parts_get?]
    simp only [List.length_cons, List.length_nil]
    have e : ∀ j, (insL ss k i).getD j sE = if j < i then ss.getD j sE else if j = i then k else ss.getD (j - 1) sE := insL_at ss k i hi
    rcases Nat.lt_trichotomy j i with hji | hji | hji
    · rw [if_pos hji, if_pos (by omega), if_pos (by omega)]
      cases j with
      | zero => rw [spAt_zero, spAt_zero, e, if_pos (by omega)]
      | succ j => rw [spAt_succ, spAt_succ, e, e, if_pos (by omega), if_pos (by omega)]
    · subst hji
      rw [if_neg (by omega), if_pos (by omega), if_pos (by omega), Nat.sub_self]
      cases j with
      | zero => rw [spAt_zero, spAt_zero, e, if_neg (by omega), if_pos rfl]; rfl
      | succ j => rw [spAt_succ, spAt_succ, e, e, if_pos (by omega), if_neg (by omega), if_pos rfl]; rfl
    · obtain ⟨m, rfl⟩ : ∃ m, j = m + 1 := ⟨j - 1, by omega⟩
      rw [if_neg (show ¬ m + 1 < i by omega), spAt_succ, e, e, if_neg (show ¬ m < i by omega), if_neg (show ¬ m + 1 < i by omega), if_neg (show ¬ m + 1 = i by omega), Nat.add_sub_cancel]
      by_cases hm : m = i
      · subst hm
        rw [if_pos (show m + 1 < m + (0 + 1 + 1) by omega), if_pos rfl, if_pos (show m + 1 ≤ ss.length + 1 by omega), show m + 1 - m = 1 by omega]
        rfl
      · rw [if_neg (show ¬ m + 1 < i + (0 + 1 + 1) by omega), if_neg hm, show m + 1 + 1 - (0 + 1 + 1) = m by omega]
        obtain ⟨q, rfl⟩ : ∃ q, m = q + 1 := ⟨m - 1, by omega⟩
        by_cases hq : q + 1 ≤ ss.length
        · rw [if_pos hq, if_pos (show q + 1 + 1 ≤ ss.length + 1 by omega), spAt_succ, Nat.add_sub_cancel]
        · rw [if_neg hq, if_neg (show ¬ q + 1 + 1 ≤ ss.length + 1 by omega)]
theorem AscL.less {ss : List ByteArray} (ha : AscL ss) {i : Nat} (hi : i < ss.length) : AscL (ss.eraseIdx i) := by
  intro j hj
  rw [List.length_eraseIdx, if_pos hi] at hj
  have e : ∀ j, (ss.eraseIdx i).getD j sE = if j < i then ss.getD j sE else ss.getD (j + 1) sE := fun j => by
    simp only [List.getD, List.getElem?_eraseIdx]
    split <;> rfl
  have e2 : (sE :: ss.eraseIdx i).getD j sE = if j ≤ i then (sE :: ss).getD j sE else (sE :: ss).getD (j + 1) sE := by
    cases j with
    | zero => rfl
    | succ j =>
      rw [getD_succ, e, getD_succ, getD_succ]
      by_cases h : j < i
      · rw [if_pos h, if_pos (by omega)]
      · rw [if_neg h, if_neg (by omega)]
  rw [e2, e]
  rcases Nat.lt_trichotomy j i with h | h | h
  · rw [if_pos (by omega), if_pos h]
    exact ha j (by omega)
  · subst h
    rw [if_pos (Nat.le_refl _), if_neg (by omega)]
    exact ha.lt 1 j (by omega)
  · rw [if_neg (by omega), if_neg (by omega)]
    exact ha (j + 1) (by omega)
theorem parts_merge {ss : List ByteArray} {i : Nat} (hi : i < ss.length) : partsL (ss.eraseIdx i) = (partsL ss).take i ++ [⟨(spAt ss i).f, (spAt ss (i + 1)).t⟩] ++ (partsL ss).drop (i + 2) := by
  refine (parts_ext fun j => ?_).symm
  rw [put_get? _ _ i 2 (by rw [partsL_len]; omega), List.length_eraseIdx, if_pos hi, parts_get?, parts_get?]
  simp only [List.length_cons, List.length_nil]
  have e : ∀ j, (ss.eraseIdx i).getD j sE = if j < i then ss.getD j sE else ss.getD (j + 1) sE := fun j => by
    simp only [List.getD, List.getElem?_eraseIdx]
    split <;> rfl
  rcases Nat.lt_trichotomy j i with hji | hji | hji
  · rw [if_pos hji, if_pos (by omega), if_pos (by omega)]
    cases j with
    | zero => rw [spAt_zero, spAt_zero, e, if_pos (by omega)]
    | succ j => rw [spAt_succ, spAt_succ, e, e, if_pos (by omega), if_pos (by omega)]
  · subst hji
    rw [if_neg (by omega), if_pos (by omega), if_pos (by omega), Nat.sub_self, spAt_succ]
    cases j with
    | zero => rw [spAt_zero, spAt_zero, e, if_neg (by omega)]; rfl
    | succ j => rw [spAt_succ, spAt_succ, e, e, if_pos (by omega), if_neg (by omega)]; rfl
  · obtain ⟨m, rfl⟩ : ∃ m, j = m + 1 := ⟨j - 1, by omega⟩
    rw [if_neg (show ¬ m + 1 < i by omega), if_neg (show ¬ m + 1 < i + (0 + 1) by omega), spAt_succ, e, e, if_neg (show ¬ m < i by omega), if_neg (show ¬ m + 1 < i by omega), show m + 1 + 2 - (0 + 1) = m + 1 + 1 by omega, spAt_succ]
    by_cases hq : m + 1 + 1 ≤ ss.length
    · rw [if_pos hq, if_pos (show m + 1 ≤ ss.length - 1 by omega)]
    · rw [if_neg hq, if_neg (show ¬ m + 1 ≤ ss.length - 1 by omega)]

/-- so many of the first n parts have the key. -/
theorem parts_count {ss : List ByteArray} (ha : AscL ss) (k : ByteArray) : ∀ n, n ≤ ss.length → ((partsL ss).take n).countP (hasB · k) = cntAt ss k n
  | 0, _ => by rw [cnt_zero]; rfl
  | n + 1, h => by
    rw [cnt_step ha k (by omega), ← parts_count ha k n (by omega), List.take_succ_eq_append_getElem (by rw [partsL_len]; omega), List.countP_append, parts_get]
    simp [List.countP_cons]
theorem one_has {ss : List ByteArray} (ha : AscL ss) (k : ByteArray) : (partsL ss).countP (hasB · k) = 1 := by
  have h := cnt_last ss k
  rw [← parts_count ha k ss.length (Nat.le_refl _)] at h
  have e : partsL ss = (partsL ss).take ss.length ++ [spAt ss ss.length] := by
    have h2 : (partsL ss).take (ss.length + 1) = partsL ss := List.take_of_length_le (by rw [partsL_len]; exact Nat.le_refl _)
    rw [← h2, List.take_succ_eq_append_getElem (by rw [partsL_len]; omega), parts_get, List.take_append_of_le_length (by simp [partsL_len]), List.take_take, Nat.min_self]
  rw [e, List.countP_append]
  rw [← h]
  simp [List.countP_cons]
end Go.Gz
