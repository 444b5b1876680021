/-
  Plain mathematics of layer span: all keys, cut at places.
-/
import Derived.Test.YtodcnemnajlbdaaSpRows
import Derived.Test.YtodcnemnajlbdaaSpMath2
namespace Go.Gz

abbrev sE : ByteArray := ByteArray.empty
/-- the part at place i of all keys cut at ss. -/
def spAt (ss : List ByteArray) (i : Nat) : SP := ⟨(sE :: ss).getD i sE, ss.getD i sE⟩
def partsL (ss : List ByteArray) : List SP := (List.range (ss.length + 1)).map (spAt ss)
theorem partsL_len (ss : List ByteArray) : (partsL ss).length = ss.length + 1 := by simp [partsL]
theorem partsL_at (ss : List ByteArray) (i : Nat) (h : i ≤ ss.length) : (partsL ss)[i]! = spAt ss i := by
  rw [getElem!_pos _ i (by rw [partsL_len]; omega)]
  simp [partsL]
/-- places that rise, none of them the least. -/
def AscL (ss : List ByteArray) : Prop := ∀ i, i < ss.length → slt ((sE :: ss).getD i sE) (ss.getD i sE) = true
theorem getD_succ (ss : List ByteArray) (i : Nat) : (sE :: ss).getD (i + 1) sE = ss.getD i sE := by simp [List.getD]
theorem AscL.lt {ss : List ByteArray} (h : AscL ss) : ∀ (d i : Nat), i + d < ss.length → slt ((sE :: ss).getD i sE) (ss.getD (i + d) sE) = true
  | 0, i, hi => h i hi
  | d + 1, i, hi => by
    have h1 := AscL.lt h d i (by omega)
    have h2 := h (i + d + 1) (by omega)
    rw [getD_succ] at h2
    exact slt_trans h1 h2
theorem slt_not_empty {a b : ByteArray} (h : slt a b = true) : sem b = false := by
  cases hb : sem b with
  | false => rfl
  | true =>
    rw [(sem_iff b).1 hb] at h
    have := slt_empty a
    unfold sE at *
    rw [this] at h; cases h
theorem slt_of_not_empty {b : ByteArray} (h : sem b = false) : slt sE b = true := by
  cases hb : slt sE b with
  | true => rfl
  | false =>
    have := slt_total hb (slt_empty b)
    rw [← this] at h
    rw [(sem_iff sE).2 rfl] at h
    cases h
theorem AscL.ne {ss : List ByteArray} (h : AscL ss) {i : Nat} (hi : i < ss.length) : sem (ss.getD i sE) = false := slt_not_empty (h i hi)
theorem AscL.tail {a : ByteArray} {ss : List ByteArray} (h : AscL (a :: ss)) : AscL ss := by
  intro i hi
  cases i with
  | zero =>
    have := h.ne (i := 1) (by simp; omega)
    exact slt_of_not_empty (by simpa [List.getD] using this)
  | succ i =>
    have := h (i + 2) (by simp; omega)
    simpa [List.getD] using this
theorem getD_end (ss : List ByteArray) : ss.getD ss.length sE = sE := by simp [List.getD]
theorem sem_e : sem sE = true := (sem_iff _).2 rfl

theorem AscL.whole {ss : List ByteArray} (h : AscL ss) : wholeB (partsL ss) = true := by
  unfold wholeB
  rw [if_neg (by rw [partsL_len]; omega)]
  have h1 : (partsL ss).any emptyB = false := by
    rw [List.any_eq_false]
    intro x hx
    obtain ⟨i, hi, rfl⟩ := List.getElem_of_mem hx
    rw [partsL_len] at hi
    have e := partsL_at ss i (by omega)
    rw [getElem!_pos _ i (by rw [partsL_len]; omega)] at e
    rw [e]
    unfold emptyB spAt
    by_cases hl : i < ss.length
    · rw [h i hl]; simp
    · have : i = ss.length := by omega
      subst this
      simp [sem_e]
  have h2 : (partsL ss)[0]! = spAt ss 0 := partsL_at ss 0 (Nat.zero_le _)
  have h3 : followB (partsL ss) = true := by
    have hp : FollowP (partsL ss) := fun j h0 hj => by
      rw [partsL_len] at hj
      rw [partsL_at ss j (by omega), partsL_at ss (j - 1) (by omega)]
      obtain ⟨k, rfl⟩ : ∃ k, j = k + 1 := ⟨j - 1, by omega⟩
      exact ⟨h.ne (by omega), (getD_succ ss k).symm⟩
    unfold followB
    exact @decide_eq_true _ (Classical.propDecidable _) hp
  have h4 : (partsL ss)[(partsL ss).length - 1]! = spAt ss ss.length := by rw [partsL_len]; exact partsL_at ss ss.length (Nat.le_refl _)
  rw [h1, h2, h3, h4]
  show (!false && (sem sE && true && sem (ss.getD ss.length sE))) = true
  rw [getD_end, sem_e]
  rfl
/-- cut twice at one place. -/
theorem twice_not {a : ByteArray} {ss : List ByteArray} (h : sem a = false) : wholeB (partsL (a :: a :: ss)) = false := by
  unfold wholeB
  rw [if_neg (by rw [partsL_len]; omega)]
  have h1 : (partsL (a :: a :: ss)).any emptyB = true := by
    rw [List.any_eq_true]
    have e := partsL_at (a :: a :: ss) 1 (by simp)
    rw [getElem!_pos _ 1 (by rw [partsL_len]; simp)] at e
    refine ⟨_, List.getElem_mem (n := 1) (by rw [partsL_len]; simp), ?_⟩
    rw [e]
    show (!sem a && !slt a a) = true
    rw [h, slt_irrefl]
    rfl
  rw [h1]
  rfl
theorem drop_not {ss : List ByteArray} (h : AscL ss) (h0 : 0 < ss.length) : wholeB ((partsL ss).drop 1) = false := by
  unfold wholeB
  have hl : ((partsL ss).drop 1).length = ss.length := by rw [List.length_drop, partsL_len]; omega
  rw [if_neg (by rw [hl]; omega)]
  have h2 : ((partsL ss).drop 1)[0]! = spAt ss 1 := by
    rw [getElem!_pos _ 0 (by rw [hl]; exact h0), List.getElem_drop]
    have := partsL_at ss 1 h0
    rw [getElem!_pos _ 1 (by rw [partsL_len]; omega)] at this
    exact this
  rw [h2]
  have : sem (spAt ss 1).f = false := by
    show sem ((sE :: ss).getD (0 + 1) sE) = false
    rw [getD_succ]
    exact h.ne h0
  rw [this]
  simp
theorem none_not : wholeB [] = false := by unfold wholeB; exact if_pos rfl

/-- how many of the parts ahead of place i have the key. -/
def cntAt (ss : List ByteArray) (k : ByteArray) (i : Nat) : Nat := if slt k ((sE :: ss).getD i sE) = true then 1 else 0
theorem cnt_zero (ss : List ByteArray) (k : ByteArray) : cntAt ss k 0 = 0 := by
  unfold cntAt
  rw [if_neg]
  show ¬ slt k sE = true
  rw [slt_empty]; simp
theorem cnt_step {ss : List ByteArray} (h : AscL ss) (k : ByteArray) {i : Nat} (hi : i < ss.length) : cntAt ss k (i + 1) = cntAt ss k i + if hasB (spAt ss i) k = true then 1 else 0 := by
  unfold cntAt hasB spAt
  rw [getD_succ]
  have h1 := h i hi
  have h2 := h.ne hi
  generalize (sE :: ss).getD i sE = a at h1 ⊢
  generalize ss.getD i sE = b at h1 h2 ⊢
  simp only [h2]
  cases ha : slt k a with
  | true => simp [slt_trans ha h1]
  | false => cases hb : slt k b <;> simp
theorem cnt_last (ss : List ByteArray) (k : ByteArray) : cntAt ss k ss.length + (if hasB (spAt ss ss.length) k = true then 1 else 0) = 1 := by
  unfold cntAt hasB spAt
  simp only [getD_end, sem_e]
  cases slt k ((sE :: ss).getD ss.length sE) <;> simp

/-- a place more. -/
def insL (ss : List ByteArray) (c : ByteArray) (k : Nat) : List ByteArray := ss.take k ++ [c] ++ ss.drop k
theorem insL_at (ss : List ByteArray) (c : ByteArray) (k : Nat) (hk : k ≤ ss.length) (i : Nat) : (insL ss c k).getD i sE = if i < k then ss.getD i sE else if i = k then c else ss.getD (i - 1) sE := by
  unfold insL
  by_cases h1 : i < k
  · rw [if_pos h1]
    rw [List.append_assoc]
    simp only [List.getD]
    rw [List.getElem?_append_left (by simp; omega), List.getElem?_take, if_pos h1]
  · rw [if_neg h1]
    by_cases h2 : i = k
    · rw [if_pos h2]
      subst h2
      simp [List.getD, Nat.min_eq_left hk]
    · rw [if_neg h2]
      simp only [List.getD, List.append_assoc]
      rw [List.getElem?_append_right (by simp; omega), List.getElem?_append_right (by simp; omega), List.getElem?_drop]
      congr 2
      simp [Nat.min_eq_left hk]
      omega
theorem insL_len (ss : List ByteArray) (c : ByteArray) (k : Nat) (hk : k ≤ ss.length) : (insL ss c k).length = ss.length + 1 := by
  simp [insL]; omega
theorem AscL.ins {ss : List ByteArray} (h : AscL ss) {c : ByteArray} {k : Nat} (hk : k ≤ ss.length) (hc : sem c = false) (h1 : 0 < k → slt (ss.getD (k - 1) sE) c = true) (h2 : k < ss.length → slt c (ss.getD k sE) = true) : AscL (insL ss c k) := by
  intro i hi
  rw [insL_len ss c k hk] at hi
  have hcons : (sE :: insL ss c k).getD i sE = if i = 0 then sE else (insL ss c k).getD (i - 1) sE := by
    cases i with
    | zero => rfl
    | succ i => rw [getD_succ]; simp
  have hs : ∀ j, (sE :: ss).getD j sE = if j = 0 then sE else ss.getD (j - 1) sE := fun j => by
    cases j with
    | zero => rfl
    | succ i => rw [getD_succ]; simp
  rw [hcons, insL_at ss c k hk i, insL_at ss c k hk (i - 1)]
  by_cases a1 : i < k
  · have := h i (by omega)
    rw [hs] at this
    rw [if_pos a1]
    by_cases a0 : i = 0
    · rw [if_pos a0]; rw [if_pos a0] at this; exact this
    · rw [if_neg a0]; rw [if_neg a0] at this; rw [if_pos (by omega)]; exact this
  · rw [if_neg a1]
    by_cases a2 : i = k
    · rw [if_pos a2]
      by_cases a0 : i = 0
      · rw [if_pos a0]; exact slt_of_not_empty hc
      · rw [if_neg a0, if_pos (by omega)]
        have := h1 (by omega)
        rw [← a2] at this
        exact this
    · rw [if_neg a2, if_neg (show ¬ i = 0 by omega)]
      by_cases a3 : i = k + 1
      · subst a3
        rw [if_neg (by omega), if_pos (by omega)]
        exact h2 (by omega)
      · rw [if_neg (by omega), if_neg (by omega)]
        have := h (i - 1) (by omega)
        rw [hs, if_neg (show ¬ i - 1 = 0 by omega)] at this
        exact this
end Go.Gz
