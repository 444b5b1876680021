/-
  Several texts in one: SpCutM, AtMath, AtMay, SpWhole.
-/
import Derived.Test.YtfadpiipigkocaaMg11
namespace Go.Gz

abbrev sE : ByteArray := ByteArray.empty
/-- the part at place i of all keys cut at ss. -/
def spAt (ss : List ByteArray) (i : Nat) : SP := ⟨(sE :: ss).getD i sE, ss.getD i sE⟩
def partsL (ss : List ByteArray) : List SP := (List.range (ss.length + 1)).map (spAt ss)
theorem partsL_len (ss : List ByteArray) : (partsL ss).length = ss.length + 1 := by simp [partsL]
theorem partsL_at (ss : List ByteArray) (i : Nat) (h : i ≤ ss.length) : (partsL ss)[i]! = spAt ss i := by
  rw [getElem!_pos _ i (by rw [partsL_len]; omega)]
  simp [partsL]
/-- places that rise, none of them the least. -/
def AscL (ss : List ByteArray) : Prop := ∀ i, i < ss.length → slt ((sE :: ss).getD i sE) (ss.getD i sE) = true
theorem getD_succ (ss : List ByteArray) (i : Nat) : (sE :: ss).getD (i + 1) sE = ss.getD i sE := by simp [List.getD]
theorem AscL.lt {ss : List ByteArray} (h : AscL ss) : ∀ (d i : Nat), i + d < ss.length → slt ((sE :: ss).getD i sE) (ss.getD (i + d) sE) = true
  | 0, i, hi => h i hi
  | d + 1, i, hi => by
    have h1 := AscL.lt h d i (by omega)
    have h2 := h (i + d + 1) (by omega)
    rw [getD_succ] at h2
    exact slt_trans h1 h2
theorem slt_not_empty {a b : ByteArray} (h : slt a b = true) : sem b = false := by
  cases hb : sem b with
  | false => rfl
  | true =>
    rw [(sem_iff b).1 hb] at h
    have := slt_empty a
    unfold sE at *
    rw [this] at h; cases h
theorem slt_of_not_empty {b : ByteArray} (h : sem b = false) : slt sE b = true := by
  cases hb : slt sE b with
  | true => rfl
  | false =>
    have := slt_total hb (slt_empty b)
    rw [← this] at h
    rw [(sem_iff sE).2 rfl] at h
    cases h
theorem AscL.ne {ss : List ByteArray} (h : AscL ss) {i : Nat} (hi : i < ss.length) : sem (ss.getD i sE) = false := slt_not_empty (h i hi)
theorem AscL.tail {a : ByteArray} {ss : List ByteArray} (h : AscL (a :: ss)) : AscL ss := by
  intro i hi
  cases i with
  | zero =>
    have := h.ne (i := 1) (by simp; omega)
    exact slt_of_not_empty (by simpa [List.getD] using this)
  | succ i =>
    have := h (i + 2) (by simp; omega)
    simpa [List.getD] using this
theorem getD_end (ss : List ByteArray) : ss.getD ss.length sE = sE := by simp [List.getD]
theorem sem_e : sem sE = true := (sem_iff _).2 rfl

theorem AscL.whole {ss : List ByteArray} (h : AscL ss) : wholeB (partsL ss) = true := by
  unfold wholeB
  rw [if_neg (by rw [partsL_len]; omega)]
  have h1 : (partsL ss).any emptyB = false := by
    rw [List.any_eq_false]
    intro x hx
    obtain ⟨i, hi, rfl⟩ := List.getElem_of_mem hx
    rw [partsL_len] at hi
    have e := partsL_at ss i (by omega)
    rw [getElem!_pos _ i (by rw [partsL_len]; omega)] at e
    rw [e]
    unfold emptyB spAt
    by_cases hl : i < ss.length
    · rw [h i hl]; simp
    · have : i = ss.length := by omega
      subst this
      simp [sem_e]
  have h2 : (partsL ss)[0]! = spAt ss 0 := partsL_at ss 0 (Nat.zero_le _)
  have h3 : followB (partsL ss) = true := by
    have hp : FollowP (partsL ss) := fun j h0 hj => by
      rw [partsL_len] at hj
      rw [partsL_at ss j (by omega), partsL_at ss (j - 1) (by omega)]
      obtain ⟨k, rfl⟩ : ∃ k, j = k + 1 := ⟨j - 1, by omega⟩
      exact ⟨h.ne (by omega), (getD_succ ss k).symm⟩
    unfold followB
    exact @decide_eq_true _ (Classical.propDecidable _) hp
  have h4 : (partsL ss)[(partsL ss).length - 1]! = spAt ss ss.length := by rw [partsL_len]; exact partsL_at ss ss.length (Nat.le_refl _)
  rw [h1, h2, h3, h4]
  show (!false && (sem sE && true && sem (ss.getD ss.length sE))) = true
  rw [getD_end, sem_e]
  rfl
/-- cut twice at one place. -/
theorem twice_not {a : ByteArray} {ss : List ByteArray} (h : sem a = false) : wholeB (partsL (a :: a :: ss)) = false := by
  unfold wholeB
  rw [if_neg (by rw [partsL_len]; omega)]
  have h1 : (partsL (a :: a :: ss)).any emptyB = true := by
    rw [List.any_eq_true]
    have e := partsL_at (a :: a :: ss) 1 (by simp)
    rw [getElem!_pos _ 1 (by rw [partsL_len]; simp)] at e
    refine ⟨_, List.getElem_mem (n := 1) (by rw [partsL_len]; simp), ?_⟩
    rw [e]
    show (!sem a && !slt a a) = true
    rw [h, slt_irrefl]
    rfl
  rw [h1]
  rfl
theorem drop_not {ss : List ByteArray} (h : AscL ss) (h0 : 0 < ss.length) : wholeB ((partsL ss).drop 1) = false := by
  unfold wholeB
  have hl : ((partsL ss).drop 1).length = ss.length := by rw [List.length_drop, partsL_len]; omega
  rw [if_neg (by rw [hl]; omega)]
  have h2 : ((partsL ss).drop 1)[0]! = spAt ss 1 := by
    rw [getElem!_pos _ 0 (by rw [hl]; exact h0), List.getElem_drop]
    have := partsL_at ss 1 h0
    rw [getElem!_pos _ 1 (by rw [partsL_len]; omega)] at this
    exact this
  rw [h2]
  have : sem (spAt ss 1).f = false := by
    show sem ((sE :: ss).getD (0 + 1) sE) = false
    rw [getD_succ]
    exact h.ne h0
  rw [this]
  simp
theorem none_not : wholeB [] = false := by unfold wholeB; exact if_pos rfl

/-- how many of the parts ahead of place i have the key. -/
def cntAt (ss : List ByteArray) (k : ByteArray) (i : Nat) : Nat := if slt k ((sE :: ss).getD i sE) = true then 1 else 0
theorem cnt_zero (ss : List ByteArray) (k : ByteArray) : cntAt ss k 0 = 0 := by
  unfold cntAt
  rw [if_neg]
  show ¬ slt k sE = true
  rw [slt_empty]; simp
theorem cnt_step {ss : List ByteArray} (h : AscL ss) (k : ByteArray) {i : Nat} (hi : i < ss.length) : cntAt ss k (i + 1) = cntAt ss k i + if hasB (spAt ss i) k = true then 1 else 0 := by
  unfold cntAt hasB spAt
  rw [getD_succ]
  have h1 := h i hi
  have h2 := h.ne hi
  generalize (sE :: ss).getD i sE = a at h1 ⊢
  generalize ss.getD i sE = b at h1 h2 ⊢
  simp only [h2]
  cases ha : slt k a with
  | true => simp [slt_trans ha h1]
  | false => cases hb : slt k b <;> simp
theorem cnt_last (ss : List ByteArray) (k : ByteArray) : cntAt ss k ss.length + (if hasB (spAt ss ss.length) k = true then 1 else 0) = 1 := by
  unfold cntAt hasB spAt
  simp only [getD_end, sem_e]
  cases slt k ((sE :: ss).getD ss.length sE) <;> simp

/-- a place more. -/
def insL (ss : List ByteArray) (c : ByteArray) (k : Nat) : List ByteArray := ss.take k ++ [c] ++ ss.drop k
theorem insL_at (ss : List ByteArray) (c : ByteArray) (k : Nat) (hk : k ≤ ss.length) (i : Nat) : (insL ss c k).getD i sE = if i < k then ss.getD i sE else if i = k then c else ss.getD (i - 1) sE := by
  unfold insL
  by_cases h1 : i < k
  · rw [if_pos h1]
    rw [List.append_assoc]
    simp only [List.getD]
    rw [List.getElem?_append_left (by simp; omega), List.getElem?_take, if_pos h1]
  · rw [if_neg h1]
    by_cases h2 : i = k
    · rw [if_pos h2]
      subst h2
      simp [List.getD, Nat.min_eq_left hk]
    · rw [if_neg h2]
      simp only [List.getD, List.append_assoc]
      rw [List.getElem?_append_right (by simp; omega), List.getElem?_append_right (by simp; omega), List.getElem?_drop]
      congr 2
      simp [Nat.min_eq_left hk]
      omega
theorem insL_len (ss : List ByteArray) (c : ByteArray) (k : Nat) (hk : k ≤ ss.length) : (insL ss c k).length = ss.length + 1 := by
  simp [insL]; omega
theorem AscL.ins {ss : List ByteArray} (h : AscL ss) {c : ByteArray} {k : Nat} (hk : k ≤ ss.length) (hc : sem c = false) (h1 : 0 < k → slt (ss.getD (k - 1) sE) c = true) (h2 : k < ss.length → slt c (ss.getD k sE) = true) : AscL (insL ss c k) := by
  intro i hi
  rw [insL_len ss c k hk] at hi
  have hcons : (sE :: insL ss c k).getD i sE = if i = 0 then sE else (insL ss c k).getD (i - 1) sE := by
    cases i with
    | zero => rfl
    | succ i => rw [getD_succ]; simp
  have hs : ∀ j, (sE :: ss).getD j sE = if j = 0 then sE else ss.getD (j - 1) sE := fun j => by
    cases j with
    | zero => rfl
    | succ i => rw [getD_succ]; simp
  rw [hcons, insL_at ss c k hk i, insL_at ss c k hk (i - 1)]
  by_cases a1 : i < k
  · have := h i (by omega)
    rw [hs] at this
    rw [if_pos a1]
    by_cases a0 : i = 0
    · rw [if_pos a0]; rw [if_pos a0] at this; exact this
    · rw [if_neg a0]; rw [if_neg a0] at this; rw [if_pos (by omega)]; exact this
  · rw [if_neg a1]
    by_cases a2 : i = k
    · rw [if_pos a2]
      by_cases a0 : i = 0
      · rw [if_pos a0]; exact slt_of_not_empty hc
      · rw [if_neg a0, if_pos (by omega)]
        have := h1 (by omega)
        rw [← a2] at this
        exact this
    · rw [if_neg a2, if_neg (show ¬ i = 0 by omega)]
      by_cases a3 : i = k + 1
      · subst a3
        rw [if_neg (by omega), if_pos (by omega)]
        exact h2 (by omega)
      · rw [if_neg (by omega), if_neg (by omega)]
        have := h (i - 1) (by omega)
        rw [hs, if_neg (show ¬ i - 1 = 0 by omega)] at this
        exact this
end Go.Gz
namespace Go.Gz

theorem parts_get (ss : List ByteArray) (i : Nat) (h : i < (partsL ss).length) : (partsL ss)[i] = spAt ss i := by
  simp [partsL]
theorem parts_get? (ss : List ByteArray) (i : Nat) : (partsL ss)[i]? = if i ≤ ss.length then some (spAt ss i) else none := by
  by_cases h : i ≤ ss.length
  · rw [if_pos h, List.getElem?_eq_getElem (by rw [partsL_len]; omega), parts_get]
  · rw [if_neg h, List.getElem?_eq_none (by rw [partsL_len]; omega)]
theorem parts_ext {l : List SP} {ss : List ByteArray} (h : ∀ i, l[i]? = if i ≤ ss.length then some (spAt ss i) else none) : l = partsL ss :=
  List.ext_getElem? fun i => by rw [h i, parts_get?]
theorem spAt_succ (ss : List ByteArray) (j : Nat) : spAt ss (j + 1) = ⟨ss.getD j sE, ss.getD (j + 1) sE⟩ := by unfold spAt; rw [getD_succ]
theorem spAt_zero (ss : List ByteArray) : spAt ss 0 = ⟨sE, ss.getD 0 sE⟩ := rfl
/-- a list with a piece of it put anew. -/
theorem put_get? {α : Type} (P M : List α) (i d : Nat) (hi : i ≤ P.length) (j : Nat) : (P.take i ++ M ++ P.drop (i + d))[j]? = if j < i then P[j]? else if j < i + M.length then M[j - i]? else P[j + d - M.length]? := by
  rw [List.append_assoc, List.getElem?_append, List.length_take, Nat.min_eq_left hi]
  by_cases h1 : j < i
  · rw [if_pos h1, if_pos h1, List.getElem?_take, if_pos h1]
  · rw [if_neg h1, if_neg h1, List.getElem?_append]
    by_cases h2 : j < i + M.length
    · rw [if_pos h2, if_pos (by omega)]
    · rw [if_neg h2, if_neg (by omega), List.getElem?_drop]
      congr 1
      omega

/-- what is whole is cut somewhere. -/
theorem whole_parts {l : List SP} (h : wholeB l = true) : ∃ ss, AscL ss ∧ l = partsL ss := by
  unfold wholeB at h
  split at h
  · cases h
  · rename_i hn
    rw [Bool.and_eq_true, Bool.and_eq_true, Bool.and_eq_true] at h
    obtain ⟨h1, ⟨h2, h3⟩, h4⟩ := h
    have h1 : ∀ x ∈ l, emptyB x = false := fun x hx => by
      have : l.any emptyB = false := by simpa using h1
      exact List.any_eq_false.1 this x hx |> fun h => by simpa using h
    have h3 : FollowP l := by
      unfold followB at h3
      simpa using h3
    have g : ∀ i, (hi : i < l.length) → l[i]! = l[i] := fun i hi => getElem!_pos l i hi
    refine ⟨(l.take (l.length - 1)).map (·.t), ?_, ?_⟩
    · intro i hi
      rw [List.length_map, List.length_take] at hi
      have hi' : i < l.length := by omega
      have e1 : ((l.take (l.length - 1)).map (·.t)).getD i sE = l[i].t := by
        rw [List.getD, List.getElem?_eq_getElem (by simp; omega)]
        simp
      have e2 : (sE :: (l.take (l.length - 1)).map (·.t)).getD i sE = l[i].f := by
        cases i with
        | zero =>
          have := h2
          rw [g 0 hi'] at this
          rw [(sem_iff _).1 this]
          rfl
        | succ i =>
          have h5 := (h3 (i + 1) (by omega) hi').2
          rw [g (i + 1) hi', Nat.add_sub_cancel, g i (by omega)] at h5
          rw [← h5, getD_succ, List.getD, List.getElem?_eq_getElem (by simp; omega)]
          simp
      have h6 := (h3 (i + 1) (by omega) (by omega)).1
      rw [Nat.add_sub_cancel, g i hi'] at h6
      have h7 := h1 _ (List.getElem_mem hi')
      unfold emptyB at h7
      rw [h6] at h7
      rw [e1, e2]
      simpa using h7
    · refine parts_ext fun i => ?_
      rw [List.length_map, List.length_take, Nat.min_eq_left (by omega)]
      by_cases hi : i < l.length
      · rw [if_pos (by omega), List.getElem?_eq_getElem hi]
        unfold spAt
        have e2 : (sE :: (l.take (l.length - 1)).map (·.t)).getD i sE = l[i].f := by
          cases i with
          | zero =>
            have := h2
            rw [g 0 hi] at this
            rw [(sem_iff _).1 this]
            rfl
          | succ i =>
            have h5 := (h3 (i + 1) (by omega) hi).2
            rw [g (i + 1) hi, Nat.add_sub_cancel, g i (by omega)] at h5
            rw [← h5, getD_succ, List.getD, List.getElem?_eq_getElem (by simp; omega)]
            simp
        rw [e2]
        by_cases hl : i = l.length - 1
        · have h5 : l[i].t = sE := by
            have := h4
            rw [g _ (by omega)] at this
            have := (sem_iff _).1 this
            subst hl
            exact this
          rw [show ((l.take (l.length - 1)).map (·.t)).getD i sE = sE by rw [List.getD, List.getElem?_eq_none (by simp; omega)]; rfl, ← h5]
        · rw [List.getD, List.getElem?_eq_getElem (by simp; omega)]
          simp
      · rw [if_neg (by omega), List.getElem?_eq_none (by omega)]

/-- a part's ends. -/
theorem has_part {ss : List ByteArray} {i : Nat} {k : ByteArray} (h : hasB (spAt ss i) k = true) (hk : k ≠ (spAt ss i).f) : slt (spAt ss i).f k = true ∧ (i < ss.length → AscL ss → slt k (ss.getD i sE) = true) := by
  unfold hasB at h
  rw [Bool.and_eq_true, Bool.or_eq_true] at h
  obtain ⟨h1, h2⟩ := h
  have h1 : slt k (spAt ss i).f = false := by simpa using h1
  refine ⟨?_, fun hi ha => ?_⟩
  · cases h3 : slt (spAt ss i).f k with
    | true => rfl
    | false => exact absurd (slt_total h1 h3) hk
  · rcases h2 with h2 | h2
    · have := ha.ne hi
      rw [show (spAt ss i).t = ss.getD i sE from rfl, this] at h2
      cases h2
    · exact h2
theorem parts_split {ss : List ByteArray} (ha : AscL ss) {i : Nat} (hi : i ≤ ss.length) {k : ByteArray} (h : hasB (spAt ss i) k = true) (hk : k ≠ (spAt ss i).f) :
    AscL (insL ss k i) ∧ partsL (insL ss k i) = (partsL ss).take i ++ [⟨(spAt ss i).f, k⟩, ⟨k, (spAt ss i).t⟩] ++ (partsL ss).drop (i + 1) := by
  obtain ⟨h1, h2⟩ := has_part h hk
  refine ⟨ha.ins hi (slt_not_empty h1) (fun h0 => ?_) (fun h0 => h2 h0 ha), ?_⟩
  · obtain ⟨j, rfl⟩ : ∃ j, i = j + 1 := ⟨i - 1, by omega⟩
    rw [Nat.add_sub_cancel]
    have : (spAt ss (j + 1)).f = ss.getD j sE := getD_succ ss j
    rw [← this]
    exact h1
  · refine (parts_ext fun j => ?_).symm
    rw [put_get? _ _ i 1 (by rw [partsL_len]; omega), insL_len ss k i hi, parts_get?, parts_get?]
    simp only [List.length_cons, List.length_nil]
    have e : ∀ j, (insL ss k i).getD j sE = if j < i then ss.getD j sE else if j = i then k else ss.getD (j - 1) sE := insL_at ss k i hi
    rcases Nat.lt_trichotomy j i with hji | hji | hji
    · rw [if_pos hji, if_pos (by omega), if_pos (by omega)]
      cases j with
      | zero => rw [spAt_zero, spAt_zero, e, if_pos (by omega)]
      | succ j => rw [spAt_succ, spAt_succ, e, e, if_pos (by omega), if_pos (by omega)]
    · subst hji
      rw [if_neg (by omega), if_pos (by omega), if_pos (by omega), Nat.sub_self]
      cases j with
      | zero => rw [spAt_zero, spAt_zero, e, if_neg (by omega), if_pos rfl]; rfl
      | succ j => rw [spAt_succ, spAt_succ, e, e, if_pos (by omega), if_neg (by omega), if_pos rfl]; rfl
    · obtain ⟨m, rfl⟩ : ∃ m, j = m + 1 := ⟨j - 1, by omega⟩
      rw [if_neg (show ¬ m + 1 < i by omega), spAt_succ, e, e, if_neg (show ¬ m < i by omega), if_neg (show ¬ m + 1 < i by omega), if_neg (show ¬ m + 1 = i by omega), Nat.add_sub_cancel]
      by_cases hm : m = i
      · subst hm
        rw [if_pos (show m + 1 < m + (0 + 1 + 1) by omega), if_pos rfl, if_pos (show m + 1 ≤ ss.length + 1 by omega), show m + 1 - m = 1 by omega]
        rfl
      · rw [if_neg (show ¬ m + 1 < i + (0 + 1 + 1) by omega), if_neg hm, show m + 1 + 1 - (0 + 1 + 1) = m by omega]
        obtain ⟨q, rfl⟩ : ∃ q, m = q + 1 := ⟨m - 1, by omega⟩
        by_cases hq : q + 1 ≤ ss.length
        · rw [if_pos hq, if_pos (show q + 1 + 1 ≤ ss.length + 1 by omega), spAt_succ, Nat.add_sub_cancel]
        · rw [if_neg hq, if_neg (show ¬ q + 1 + 1 ≤ ss.length + 1 by omega)]
theorem AscL.less {ss : List ByteArray} (ha : AscL ss) {i : Nat} (hi : i < ss.length) : AscL (ss.eraseIdx i) := by
  intro j hj
  rw [List.length_eraseIdx, if_pos hi] at hj
  have e : ∀ j, (ss.eraseIdx i).getD j sE = if j < i then ss.getD j sE else ss.getD (j + 1) sE := fun j => by
    simp only [List.getD, List.getElem?_eraseIdx]
    split <;> rfl
  have e2 : (sE :: ss.eraseIdx i).getD j sE = if j ≤ i then (sE :: ss).getD j sE else (sE :: ss).getD (j + 1) sE := by
    cases j with
    | zero => rfl
    | succ j =>
      rw [getD_succ, e, getD_succ, getD_succ]
      by_cases h : j < i
      · rw [if_pos h, if_pos (by omega)]
      · rw [if_neg h, if_neg (by omega)]
  rw [e2, e]
  rcases Nat.lt_trichotomy j i with h | h | h
  · rw [if_pos (by omega), if_pos h]
    exact ha j (by omega)
  · subst h
    rw [if_pos (Nat.le_refl _), if_neg (by omega)]
    exact ha.lt 1 j (by omega)
  · rw [if_neg (by omega), if_neg (by omega)]
    exact ha (j + 1) (by omega)
theorem parts_merge {ss : List ByteArray} {i : Nat} (hi : i < ss.length) : partsL (ss.eraseIdx i) = (partsL ss).take i ++ [⟨(spAt ss i).f, (spAt ss (i + 1)).t⟩] ++ (partsL ss).drop (i + 2) := by
  refine (parts_ext fun j => ?_).symm
  rw [put_get? _ _ i 2 (by rw [partsL_len]; omega), List.length_eraseIdx, if_pos hi, parts_get?, parts_get?]
  simp only [List.length_cons, List.length_nil]
  have e : ∀ j, (ss.eraseIdx i).getD j sE = if j < i then ss.getD j sE else ss.getD (j + 1) sE := fun j => by
    simp only [List.getD, List.getElem?_eraseIdx]
    split <;> rfl
  rcases Nat.lt_trichotomy j i with hji | hji | hji
  · rw [if_pos hji, if_pos (by omega), if_pos (by omega)]
    cases j with
    | zero => rw [spAt_zero, spAt_zero, e, if_pos (by omega)]
    | succ j => rw [spAt_succ, spAt_succ, e, e, if_pos (by omega), if_pos (by omega)]
  · subst hji
    rw [if_neg (by omega), if_pos (by omega), if_pos (by omega), Nat.sub_self, spAt_succ]
    cases j with
    | zero => rw [spAt_zero, spAt_zero, e, if_neg (by omega)]; rfl
    | succ j => rw [spAt_succ, spAt_succ, e, e, if_pos (by omega), if_neg (by omega)]; rfl
  · obtain ⟨m, rfl⟩ : ∃ m, j = m + 1 := ⟨j - 1, by omega⟩
    rw [if_neg (show ¬ m + 1 < i by omega), if_neg (show ¬ m + 1 < i + (0 + 1) by omega), spAt_succ, e, e, if_neg (show ¬ m < i by omega), if_neg (show ¬ m + 1 < i by omega), show m + 1 + 2 - (0 + 1) = m + 1 + 1 by omega, spAt_succ]
    by_cases hq : m + 1 + 1 ≤ ss.length
    · rw [if_pos hq, if_pos (show m + 1 ≤ ss.length - 1 by omega)]
    · rw [if_neg hq, if_neg (show ¬ m + 1 ≤ ss.length - 1 by omega)]

/-- so many of the first n parts have the key. -/
theorem parts_count {ss : List ByteArray} (ha : AscL ss) (k : ByteArray) : ∀ n, n ≤ ss.length → ((partsL ss).take n).countP (hasB · k) = cntAt ss k n
  | 0, _ => by rw [cnt_zero]; rfl
  | n + 1, h => by
    rw [cnt_step ha k (by omega), ← parts_count ha k n (by omega), List.take_succ_eq_append_getElem (by rw [partsL_len]; omega), List.countP_append, parts_get]
    simp [List.countP_cons]
theorem one_has {ss : List ByteArray} (ha : AscL ss) (k : ByteArray) : (partsL ss).countP (hasB · k) = 1 := by
  have h := cnt_last ss k
  rw [← parts_count ha k ss.length (Nat.le_refl _)] at h
  have e : partsL ss = (partsL ss).take ss.length ++ [spAt ss ss.length] := by
    have h2 : (partsL ss).take (ss.length + 1) = partsL ss := List.take_of_length_le (by rw [partsL_len]; exact Nat.le_refl _)
    rw [← h2, List.take_succ_eq_append_getElem (by rw [partsL_len]; omega), parts_get, List.take_append_of_le_length (by simp [partsL_len]), List.take_take, Nat.min_self]
  rw [e, List.countP_append]
  rw [← h]
  simp [List.countP_cons]
end Go.Gz
namespace Go.Gz

/-- a shard. -/
structure Sd where
  sp : SP
  n : Int
  e : Int
deriving Inhabited, DecidableEq
structure MayA (nodes ep : Int) (L : List Sd) : Prop where
  nd : 1 ≤ nodes ∧ nodes ≤ 5
  ln : 1 ≤ L.length ∧ L.length ≤ 12
  ep1 : 1 ≤ ep
  sh : ∀ x ∈ L, 1 ≤ x.n ∧ x.n ≤ nodes ∧ 1 ≤ x.e ∧ x.e ≤ ep
  wh : wholeB (L.map Sd.sp) = true
/-- the new list: d shards from i on are put as others. -/
def withL (L M : List Sd) (i d : Nat) : List Sd := L.take i ++ M ++ L.drop (i + d)
theorem withL_len (L M : List Sd) {i d : Nat} (h : i + d ≤ L.length) : (withL L M i d).length = L.length + M.length - d := by
  unfold withL
  simp only [List.length_append, List.length_take, List.length_drop]
  omega
theorem withL_get (L M : List Sd) {i : Nat} (d : Nat) (h : i ≤ L.length) (j : Nat) : (withL L M i d)[j]? = if j < i then L[j]? else if j < i + M.length then M[j - i]? else L[j + d - M.length]? := put_get? L M i d h j
theorem withL_mem {L M : List Sd} {i d : Nat} {x : Sd} (h : x ∈ withL L M i d) : x ∈ L ∨ x ∈ M := by
  unfold withL at h
  rcases List.mem_append.1 h with h | h
  · rcases List.mem_append.1 h with h | h
    · exact Or.inl (List.mem_of_mem_take h)
    · exact Or.inr h
  · exact Or.inl (List.mem_of_mem_drop h)
theorem withL_map (L M : List Sd) (i d : Nat) : (withL L M i d).map Sd.sp = (L.map Sd.sp).take i ++ M.map Sd.sp ++ (L.map Sd.sp).drop (i + d) := by
  unfold withL
  simp [List.map_take, List.map_drop]

section
variable {nodes ep : Int} {L : List Sd}
theorem MayA.cut (h : MayA nodes ep L) : ∃ ss, AscL ss ∧ L.map Sd.sp = partsL ss ∧ L.length = ss.length + 1 := by
  obtain ⟨ss, h1, h2⟩ := whole_parts h.wh
  exact ⟨ss, h1, h2, by rw [← List.length_map (f := Sd.sp), h2, partsL_len]⟩
theorem at_part {ss : List ByteArray} (h2 : L.map Sd.sp = partsL ss) {i : Nat} (hi : i < L.length) : (L.getD i default).sp = spAt ss i := by
  have h3 : (L.map Sd.sp)[i]? = (partsL ss)[i]? := by rw [h2]
  have h4 : i ≤ ss.length := by
    have : (L.map Sd.sp).length = ss.length + 1 := by rw [h2, partsL_len]
    rw [List.length_map] at this
    omega
  rw [List.getElem?_map, List.getElem?_eq_getElem hi, parts_get?, if_pos h4] at h3
  rw [List.getD, List.getElem?_eq_getElem hi]
  simpa using h3
theorem MayA.all {M : List Sd} {i d : Nat} (h : MayA nodes ep L) (hn : ∀ x ∈ M, 1 ≤ x.n ∧ x.n ≤ nodes ∧ x.e = ep + 1) : ∀ x ∈ withL L M i d, 1 ≤ x.n ∧ x.n ≤ nodes ∧ 1 ≤ x.e ∧ x.e ≤ ep + 1 := fun x hx => by
  have := h.ep1
  rcases withL_mem hx with hx | hx
  · have := h.sh x hx
    omega
  · have := hn x hx
    omega
theorem get_mem {i : Nat} (hi : i < L.length) : L.getD i default ∈ L := by
  rw [List.getD, List.getElem?_eq_getElem hi]
  exact List.getElem_mem hi
/-- a shard is split. -/
theorem MayA.split (h : MayA nodes ep L) {i : Nat} (hi : i < L.length) (hl : L.length < 12) {k : ByteArray} (hk : hasB (L.getD i default).sp k = true) (hne : k ≠ (L.getD i default).sp.f) :
    MayA nodes (ep + 1) (withL L [⟨⟨(L.getD i default).sp.f, k⟩, (L.getD i default).n, ep + 1⟩, ⟨⟨k, (L.getD i default).sp.t⟩, (L.getD i default).n, ep + 1⟩] i 1) := by
  obtain ⟨ss, h1, h2, h3⟩ := h.cut
  have hx := at_part h2 hi
  have hs := h.sh _ (get_mem hi)
  refine ⟨h.nd, ?_, by have := h.ep1; omega, h.all fun x hx => ?_, ?_⟩
  · rw [withL_len _ _ (by omega)]
    simp only [List.length_cons, List.length_nil]
    omega
  · simp only [List.mem_cons, List.not_mem_nil, or_false] at hx
    rcases hx with rfl | rfl <;> exact ⟨hs.1, hs.2.1, rfl⟩
  · rw [hx] at hk hne ⊢
    obtain ⟨h4, h5⟩ := parts_split h1 (by omega) hk hne
    rw [withL_map, h2]
    exact (congrArg wholeB h5).symm.trans h4.whole
/-- a shard and the next one are merged. -/
theorem MayA.merge (h : MayA nodes ep L) {i : Nat} (hi : i + 1 < L.length) :
    MayA nodes (ep + 1) (withL L [⟨⟨(L.getD i default).sp.f, (L.getD (i + 1) default).sp.t⟩, (L.getD i default).n, ep + 1⟩] i 2) := by
  obtain ⟨ss, h1, h2, h3⟩ := h.cut
  have hx := at_part h2 (show i < L.length by omega)
  have hy := at_part h2 hi
  have hs := h.sh _ (get_mem (show i < L.length by omega))
  refine ⟨h.nd, ?_, by have := h.ep1; omega, h.all fun x hx => ?_, ?_⟩
  · rw [withL_len _ _ (by omega)]
    have := h.ln
    simp only [List.length_cons, List.length_nil]
    omega
  · simp only [List.mem_cons, List.not_mem_nil, or_false] at hx
    subst hx
    exact ⟨hs.1, hs.2.1, rfl⟩
  · rw [hx, hy, withL_map, h2]
    have h5 := parts_merge (ss := ss) (i := i) (by omega)
    exact (congrArg wholeB h5).symm.trans (h1.less (by omega)).whole
/-- a shard is moved. -/
theorem MayA.move (h : MayA nodes ep L) {i : Nat} (hi : i < L.length) {m : Int} (hm : 1 ≤ m ∧ m ≤ nodes) : MayA nodes (ep + 1) (withL L [⟨(L.getD i default).sp, m, ep + 1⟩] i 1) := by
  refine ⟨h.nd, ?_, by have := h.ep1; omega, h.all fun x hx => ?_, ?_⟩
  · rw [withL_len _ _ (by omega)]
    have := h.ln
    simp only [List.length_cons, List.length_nil]
    omega
  · simp only [List.mem_cons, List.not_mem_nil, or_false] at hx
    subst hx
    exact ⟨hm.1, hm.2, rfl⟩
  · have e : (withL L [⟨(L.getD i default).sp, m, ep + 1⟩] i 1).map Sd.sp = L.map Sd.sp := by
      refine List.ext_getElem? fun j => ?_
      rw [List.getElem?_map, List.getElem?_map, withL_get _ _ _ (by omega)]
      simp only [List.length_cons, List.length_nil]
      rcases Nat.lt_trichotomy j i with hj | hj | hj
      · rw [if_pos hj]
      · subst hj
        rw [if_neg (by omega), if_pos (by omega), Nat.sub_self, List.getElem?_eq_getElem hi, List.getD, List.getElem?_eq_getElem hi]
        rfl
      · rw [if_neg (by omega), if_neg (by omega)]
        rfl
    rw [e]
    exact h.wh
/-- each key has one owner. -/
theorem MayA.one (h : MayA nodes ep L) (k : ByteArray) : L.countP (fun x => hasB x.sp k) = 1 := by
  obtain ⟨ss, h1, h2, -⟩ := h.cut
  have := one_has h1 k
  rw [← h2, List.countP_map] at this
  exact this
theorem MayA.owner (h : MayA nodes ep L) (k : ByteArray) : ∃ i, i < L.length ∧ hasB (L.getD i default).sp k = true ∧ ∀ j, j < i → hasB (L.getD j default).sp k = false := by
  have h1 := h.one k
  have hex : ∃ x ∈ L, hasB x.sp k = true := List.countP_pos_iff.1 (by omega)
  obtain ⟨x, hx, hk⟩ := hex
  obtain ⟨j, hj, rfl⟩ := List.getElem_of_mem hx
  have hP : ∃ i, i < L.length ∧ hasB (L.getD i default).sp k = true := ⟨j, hj, by rw [List.getD, List.getElem?_eq_getElem hj]; exact hk⟩
  classical
  have key : ∀ n, (∃ i, i < n ∧ i < L.length ∧ hasB (L.getD i default).sp k = true) → ∃ i, i < L.length ∧ hasB (L.getD i default).sp k = true ∧ ∀ j, j < i → hasB (L.getD j default).sp k = false := by
    intro n
    induction n with
    | zero => rintro ⟨i, h, _⟩; omega
    | succ n ih =>
      rintro ⟨i, hin, hil, hik⟩
      by_cases hc : ∃ i, i < n ∧ i < L.length ∧ hasB (L.getD i default).sp k = true
      · exact ih hc
      · obtain rfl : i = n := by
          refine Nat.le_antisymm (by omega) (Nat.le_of_not_lt fun hlt => hc ⟨i, hlt, hil, hik⟩)
        refine ⟨i, hil, hik, fun j hj => ?_⟩
        cases hb : hasB (L.getD j default).sp k with
        | false => rfl
        | true => exact absurd ⟨j, hj, by omega, hb⟩ hc
  obtain ⟨i, h2, h3⟩ := hP
  exact key (i + 1) ⟨i, by omega, h2, h3⟩
/-- .. alone. -/
theorem MayA.apart (h : MayA nodes ep L) {k : ByteArray} {i j : Nat} (hi : i < L.length) (hj : j < L.length) (h1 : hasB (L.getD i default).sp k = true) (h2 : hasB (L.getD j default).sp k = true) : i = j := by
  have hc := h.one k
  have key : ∀ (L : List Sd) (i j : Nat), i < j → j < L.length → hasB (L.getD i default).sp k = true → hasB (L.getD j default).sp k = true → 2 ≤ L.countP (fun x => hasB x.sp k) := by
    intro L
    induction L with
    | nil => intro i j _ hj; simp at hj
    | cons x t ih =>
      intro i j hij hj h1 h2
      obtain ⟨j, rfl⟩ : ∃ q, j = q + 1 := ⟨j - 1, by omega⟩
      rw [List.getD_cons_succ] at h2
      rw [List.countP_cons]
      have hj' : j < t.length := by simpa using hj
      cases i with
      | zero =>
        rw [List.getD_cons_zero] at h1
        rw [if_pos h1]
        have : 0 < t.countP (fun x => hasB x.sp k) := List.countP_pos_iff.2 ⟨_, get_mem hj', h2⟩
        omega
      | succ i =>
        rw [List.getD_cons_succ] at h1
        have := ih i j (by omega) hj' h1 h2
        omega
  rcases Nat.lt_trichotomy i j with hij | hij | hij
  · have := key L i j hij hj h1 h2; omega
  · exact hij
  · have := key L j i hij hi h2 h1; omega
end

/-- the first atlas. -/
theorem MayA.first {m : Int} (h1 : 1 ≤ m) {nodes : Int} (h2 : m ≤ nodes) (h3 : nodes ≤ 5) : MayA nodes 1 [⟨⟨sE, sE⟩, m, 1⟩] := by
  refine ⟨⟨by omega, h3⟩, by simp, by omega, fun x hx => ?_, ?_⟩
  · simp only [List.mem_cons, List.not_mem_nil, or_false] at hx
    subst hx
    exact ⟨h1, h2, Int.le_refl 1, Int.le_refl 1⟩
  · have := AscL.whole (ss := []) (fun i hi => by simp at hi)
    exact this
end Go.Gz
namespace Go.Proofs.Ytfadpiipigkocaa
open Go.RowKit Go.Gz

open Classical in
theorem follow_stop {l : List SP} {i : Nat} (h0 : 0 < i) (h : i < l.length) (hx : ¬ (sem l[i - 1]!.t = false ∧ l[i - 1]!.t = l[i]!.f)) : followB l = false := by
  unfold followB; exact decide_eq_false fun hp => hx (hp i h0 h)
open Classical in
theorem follow_end {l : List SP} (h : ∀ j, 0 < j → j < l.length → sem l[j - 1]!.t = false ∧ l[j - 1]!.t = l[j]!.f) : followB l = true := by
  unfold followB; exact decide_eq_true h

set_option maxHeartbeats 1000000 in
theorem follow_any (ls : List SP) (p : Option Addr) (c : Nat) (w : World) (hp : Spans w p ls) (hn : ls.length ≤ 9223372036854775807) :
    Calls Try.prog 80 #[.slice p ls.length c] w fun e w' => e = .returned (.bool (followB ls)) ∧ w = w' := by
  have HP := Lib.hid hp; clear hp
  obtain ⟨n, hln⟩ : ∃ n, ls.length = n := ⟨_, rfl⟩
  have HN := Lib.hid hln
  rw [hln] at hn ⊢
  clear hln
  go_enter Try.func80, Try.ntmps80
  go_wp2_with fail
  go_loopg [3] n (fun gg s3 wr => ∃ i : Nat, 1 ≤ i ∧ n - i ≤ gg ∧ (i ≤ n ∨ i = 1) ∧ s3 = .int .i64 i ∧ w = wr ∧ Hid (∀ j, 0 < j → j < i → j < n → sem ls[j - 1]!.t = false ∧ ls[j - 1]!.t = ls[j]!.f))
  case atStart => exact ⟨1, Nat.le_refl _, by omega, Or.inr rfl, rfl, rfl, Lib.hid (fun j h1 h2 => by omega)⟩
  case round =>
    obtain ⟨i, hi1, hg, hin, rfl, rfl, A⟩ := hrel
    by_cases hlt : i < n
    · have hltz : (i : Int) < (n : Int) := by omega
      obtain ⟨k, rfl⟩ : ∃ k, i = k + 1 := ⟨i - 1, by omega⟩
      obtain ⟨b, o, hpe, hbl, c1, _⟩ := span_cell HP.out (Below.refl _ w) (show k + 1 < ls.length by rw [HN.out]; exact hlt)
      obtain ⟨b', o', hpe', _, _, c2⟩ := span_cell HP.out (Below.refl _ w) (show k < ls.length by rw [HN.out]; omega)
      rw [hpe] at hpe'
      simp only [Option.some.injEq, Addr.mk.injEq, and_true] at hpe'
      obtain ⟨rfl, rfl⟩ := hpe'
      subst hpe
      obtain ⟨t, ht⟩ : ∃ t, ls[k]!.t = t := ⟨_, rfl⟩
      obtain ⟨f, hf⟩ : ∃ f, ls[k + 1]!.f = f := ⟨_, rfl⟩
      rw [ht] at c2
      rw [hf] at c1
      have HT := Lib.hid ht
      have HF := Lib.hid hf
      clear ht hf
      have ek : ((k + 1 : Nat) : Int) - 1 = (k : Int) := by omega
      by_cases h1 : t.toList = []
      · have hno := Lib.hid (show followB ls = false from follow_stop (l := ls) (i := k + 1) (by omega) (by rw [HN.out]; exact hlt) (fun hc => by
          rw [show k + 1 - 1 = k from rfl, HT.out] at hc
          have := hc.1
          unfold sem at this
          rw [h1] at this
          cases this))
        go_wp2_with fail
        go_ret
        exact ⟨by rw [hno.out]; rfl, rfl⟩
      · cases h2 : (t.toList == f.toList) with
        | false =>
          have hno := Lib.hid (show followB ls = false from follow_stop (l := ls) (i := k + 1) (by omega) (by rw [HN.out]; exact hlt) (fun hc => by
            rw [show k + 1 - 1 = k from rfl, HT.out, HF.out] at hc
            have := hc.2
            subst this
            simp at h2))
          go_wp2_with fail
          go_ret
          exact ⟨by rw [hno.out]; rfl, rfl⟩
        | true =>
          have h1b : t.toList.isEmpty = false := by simpa using h1
          have hyes := Lib.hid (show sem t = false ∧ t = f from ⟨by unfold sem; simpa using h1, data_inj (by rw [← Lib.toList_data, ← Lib.toList_data]; exact eq_of_beq h2)⟩)
          go_wp2_with fail
          go_roundg (n - (k + 1 + 1))
          case measure => omega
          case rel =>
            refine ⟨k + 1 + 1, by omega, by omega, by omega, by go_num, rfl, Lib.hid fun j h0 hj hjn => ?_⟩
            by_cases e : j = k + 1
            · subst e
              rw [show k + 1 - 1 = k from rfl, HT.out, HF.out]
              exact hyes.out
            · exact A.out j h0 (by omega) hjn
    · have hltz : ¬ (i : Int) < (n : Int) := by omega
      have hyes := Lib.hid (show followB ls = true from follow_end fun j h0 hj => A.out j h0 (by rw [HN.out] at hj; omega) (by rw [HN.out] at hj; exact hj))
      go_wp2_with fail
      go_ret
      exact ⟨by rw [hyes.out]; rfl, rfl⟩

set_option maxHeartbeats 1000000 in
theorem whole_any (ls : List SP) (p : Option Addr) (c : Nat) (w : World) (hp : Spans w p ls) (hn : ls.length ≤ 9223372036854775807) :
    Calls Try.prog 68 #[.slice p ls.length c] w fun e w' => e = .returned (.bool (wholeB ls)) ∧ Below w.heap.size w w' := by
  by_cases h0 : ls.length = 0
  · have hw : wholeB ls = false := by unfold wholeB; rw [if_pos h0]
    rw [h0, hw]
    clear hp hn h0 hw
    go_enter Try.func68, Try.ntmps68
    go_wp2_with fail
    go_ret
    exact ⟨rfl, Below.refl _ _⟩
  · have CC := Lib.hid (contains_any ls p c w hp hn)
    have CF := Lib.hid (fun w' (hb : Below w.heap.size w w') => follow_any ls p c w' (hp.below hb) hn)
    have HW := Lib.hid (show wholeB ls = (!ls.any emptyB && (sem ls[0]!.f && followB ls && sem ls[ls.length - 1]!.t)) by unfold wholeB; rw [if_neg h0])
    have HP := Lib.hid hp; clear hp
    obtain ⟨n, hln⟩ : ∃ n, ls.length = n := ⟨_, rfl⟩
    have HN := Lib.hid hln
    rw [hln] at hn CC CF HW h0 ⊢
    clear hln
    obtain ⟨m, rfl⟩ : ∃ m, n = m + 1 := ⟨n - 1, by omega⟩
    have hne : (((m + 1 : Nat) : Int) == 0) = false := by simp; omega
    obtain ⟨a, ha⟩ : ∃ a, ls.any emptyB = a := ⟨_, rfl⟩
    obtain ⟨f, hf⟩ : ∃ f, ls[0]!.f = f := ⟨_, rfl⟩
    obtain ⟨g, hg⟩ : ∃ g, followB ls = g := ⟨_, rfl⟩
    obtain ⟨t, ht⟩ : ∃ t, ls[m]!.t = t := ⟨_, rfl⟩
    rw [ha] at CC HW
    rw [hg] at CF HW
    rw [hf, show m + 1 - 1 = m from rfl, ht] at HW
    have HF := Lib.hid hf
    have HT := Lib.hid ht
    rw [HW.out]
    clear ha hf hg ht HW h0
    go_enter Try.func68, Try.ntmps68
    go_wp2_with fail
    refine CC.out.mono ?_
    rintro e w1 ⟨rfl, hb1⟩
    have HB1 := Lib.hid hb1
    have CF1 := Lib.hid (CF.out w1 hb1)
    obtain ⟨b, o, hpe, hbl, c1, _⟩ := span_cell HP.out hb1 (show 0 < ls.length by rw [HN.out]; omega)
    obtain ⟨b', o', hpe', _, _, c2⟩ := span_cell HP.out hb1 (show m < ls.length by rw [HN.out]; omega)
    rw [hpe] at hpe'
    simp only [Option.some.injEq, Addr.mk.injEq, and_true] at hpe'
    obtain ⟨rfl, rfl⟩ := hpe'
    subst hpe
    rw [HF.out, Nat.zero_mul, Nat.add_zero] at c1
    rw [HT.out] at c2
    clear hb1 CC CF
    have em : ((m + 1 : Nat) : Int) - 1 = (m : Int) := by omega
    cases a with
    | true =>
      go_wp2_with fail
      go_ret
      exact ⟨rfl, HB1.out⟩
    | false =>
      by_cases h1 : f.toList = []
      · go_wp2_with fail
        refine CF1.out.mono ?_
        rintro e w' ⟨rfl, rfl⟩
        clear CF1
        cases g with
        | false =>
          go_wp2_with fail
          go_ret
          exact ⟨by simp [sem, h1], HB1.out⟩
        | true =>
          go_wp2_with fail
          all_goals
            go_ret
            exact ⟨by simp_all [sem], HB1.out⟩
      · go_wp2_with fail
        go_ret
        exact ⟨by simp [sem, h1], HB1.out⟩
end Go.Proofs.Ytfadpiipigkocaa
