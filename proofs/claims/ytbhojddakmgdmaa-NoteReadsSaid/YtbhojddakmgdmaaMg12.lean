/-
  Several texts in one: SpMath2, SpCutM, AtMath.
-/
import Derived.Test.YtbhojddakmgdmaaMg10
import Derived.Test.YtbhojddakmgdmaaMg11
namespace Go.Gz

/-- the two tests by ranks. -/
theorem within_rank {L : List ByteArray} {a b : SP} (m1 : a.f ∈ L) (m2 : a.t ∈ L) (m3 : b.f ∈ L) (m4 : b.t ∈ L) (m6 : ByteArray.empty ∈ L) :
    withinB a b = true ↔ ((rank L a.t ≠ rank L ByteArray.empty ∧ rank L a.t ≤ rank L a.f) ∨ (rank L b.f ≤ rank L a.f ∧ (rank L b.t = rank L ByteArray.empty ∨ (rank L a.t ≠ rank L ByteArray.empty ∧ rank L a.t ≤ rank L b.t)))) := by
  unfold withinB emptyB
  simp only [sem_rank L m2 m6, sem_rank L m4 m6, slt_rank L m1 m2, slt_rank L m1 m3, slt_rank L m4 m2, Bool.or_eq_true, Bool.and_eq_true, Bool.not_eq_true', decide_eq_false_iff_not, decide_eq_true_eq]
  omega
theorem within_trans {a b c : SP} (h1 : withinB a b = true) (h2 : withinB b c = true) : withinB a c = true := by
  have m : ∀ x ∈ [a.f, a.t, b.f, b.t, c.f, c.t, ByteArray.empty], x ∈ [a.f, a.t, b.f, b.t, c.f, c.t, ByteArray.empty] := fun _ h => h
  simp only [List.forall_mem_cons] at m
  obtain ⟨m1, m2, m3, m4, m5, m6, m7, _⟩ := m
  generalize hL : [a.f, a.t, b.f, b.t, c.f, c.t, ByteArray.empty] = L at m1 m2 m3 m4 m5 m6 m7
  clear hL
  have e1 := empty_rank L m2 m7
  have e2 := empty_rank L m4 m7
  have e3 := empty_rank L m6 m7
  have e4 := empty_rank L m1 m7
  rw [within_rank m1 m2 m3 m4 m7] at h1
  rw [within_rank m3 m4 m5 m6 m7] at h2
  rw [within_rank m1 m2 m5 m6 m7]
  omega
theorem maxS2_mem (L : List ByteArray) {a b : ByteArray} (ha : a ∈ L) (hb : b ∈ L) : maxS2 a b ∈ L := by unfold maxS2; split <;> assumption
theorem firstEnd_mem (L : List ByteArray) {a b : ByteArray} (ha : a ∈ L) (hb : b ∈ L) : firstEndS a b ∈ L := by unfold firstEndS; split <;> assumption
theorem maxS2_rank (L : List ByteArray) {a b : ByteArray} (ha : a ∈ L) (hb : b ∈ L) : rank L (maxS2 a b) = max (rank L a) (rank L b) := by
  unfold maxS2
  rw [slt_rank L ha hb]
  by_cases h : rank L a < rank L b
  · rw [if_pos (decide_eq_true h)]; omega
  · rw [if_neg (by simpa using h)]; omega
theorem firstEnd_rank (L : List ByteArray) {a b : ByteArray} (ha : a ∈ L) (hb : b ∈ L) (he : ByteArray.empty ∈ L) :
    rank L (firstEndS a b) = if rank L a = rank L ByteArray.empty then rank L b else if rank L b = rank L ByteArray.empty then rank L a else min (rank L a) (rank L b) := by
  unfold firstEndS
  rw [sem_rank L ha he, sem_rank L hb he, slt_rank L hb ha]
  by_cases h1 : rank L a = rank L ByteArray.empty
  · simp [h1]
  · by_cases h2 : rank L b = rank L ByteArray.empty
    · simp [h1, h2]
    · by_cases h3 : rank L b < rank L a
      · simp [h1, h2, h3]; omega
      · simp [h1, h2, h3]; omega
theorem meet_within (a b : SP) : withinB (meetS a b) a = true ∧ withinB (meetS a b) b = true := by
  have m : ∀ x ∈ [a.f, a.t, b.f, b.t, ByteArray.empty], x ∈ [a.f, a.t, b.f, b.t, ByteArray.empty] := fun _ h => h
  simp only [List.forall_mem_cons] at m
  obtain ⟨m1, m2, m3, m4, m7, _⟩ := m
  generalize hL : [a.f, a.t, b.f, b.t, ByteArray.empty] = L at m1 m2 m3 m4 m7
  clear hL
  have e1 := empty_rank L m2 m7
  have e2 := empty_rank L m4 m7
  have k1 : (meetS a b).f ∈ L := maxS2_mem L m1 m3
  have k2 : (meetS a b).t ∈ L := firstEnd_mem L m2 m4
  have r1 : rank L (meetS a b).f = max (rank L a.f) (rank L b.f) := maxS2_rank L m1 m3
  have r2 : rank L (meetS a b).t = _ := firstEnd_rank L m2 m4 m7
  rw [within_rank k1 k2 m1 m2 m7, within_rank k1 k2 m3 m4 m7, r1, r2]
  by_cases h1 : rank L a.t = rank L ByteArray.empty
  · rw [if_pos h1]; omega
  · rw [if_neg h1]
    by_cases h2 : rank L b.t = rank L ByteArray.empty
    · rw [if_pos h2]; omega
    · rw [if_neg h2]; omega
theorem meet_all (a : SP) : meetS a ⟨ByteArray.empty, ByteArray.empty⟩ = a := by
  have h1 : maxS2 a.f ByteArray.empty = a.f := by unfold maxS2; rw [slt_empty]; rfl
  have he : sem ByteArray.empty = true := (sem_iff _).2 rfl
  have h2 : firstEndS a.t ByteArray.empty = a.t := by
    unfold firstEndS
    rw [he]
    cases h : sem a.t with
    | true => exact ((sem_iff _).1 h).symm
    | false => rfl
  unfold meetS
  simp only [h1, h2]
end Go.Gz
namespace Go.Gz

abbrev sE : ByteArray := ByteArray.empty
/-- the part at place i of all keys cut at ss. -/
def spAt (ss : List ByteArray) (i : Nat) : SP := ⟨(sE :: ss).getD i sE, ss.getD i sE⟩
def partsL (ss : List ByteArray) : List SP := (List.range (ss.length + 1)).map (spAt ss)
theorem partsL_len (ss : List ByteArray) : (partsL ss).length = ss.length + 1 := by simp [partsL]
theorem partsL_at (ss : List ByteArray) (i : Nat) (h : i ≤ ss.length) : (partsL ss)[i]! = spAt ss i := by
  rw [getElem!_pos _ i (by rw [partsL_len]; omega)]
  simp [partsL]
/-- places that rise, none of them the least. -/
def AscL (ss : List ByteArray) : Prop := ∀ i, i < ss.length → slt ((sE :: ss).getD i sE) (ss.getD i sE) = true
theorem getD_succ (ss : List ByteArray) (i : Nat) : (sE :: ss).getD (i + 1) sE = ss.getD i sE := by simp [List.getD]
theorem AscL.lt {ss : List ByteArray} (h : AscL ss) : ∀ (d i : Nat), i + d < ss.length → slt ((sE :: ss).getD i sE) (ss.getD (i + d) sE) = true
  | 0, i, hi => h i hi
  | d + 1, i, hi => by
    have h1 := AscL.lt h d i (by omega)
    have h2 := h (i + d + 1) (by omega)
    rw [getD_succ] at h2
    exact slt_trans h1 h2
theorem slt_not_empty {a b : ByteArray} (h : slt a b = true) : sem b = false := by
  cases hb : sem b with
  | false => rfl
  | true =>
    rw [(sem_iff b).1 hb] at h
    have := slt_empty a
    unfold sE at *
    rw [this] at h; cases h
theorem slt_of_not_empty {b : ByteArray} (h : sem b = false) : slt sE b = true := by
  cases hb : slt sE b with
  | true => rfl
  | false =>
    have := slt_total hb (slt_empty b)
    rw [← this] at h
    rw [(sem_iff sE).2 rfl] at h
    cases h
theorem AscL.ne {ss : List ByteArray} (h : AscL ss) {i : Nat} (hi : i < ss.length) : sem (ss.getD i sE) = false := slt_not_empty (h i hi)
theorem AscL.tail {a : ByteArray} {ss : List ByteArray} (h : AscL (a :: ss)) : AscL ss := by
  intro i hi
  cases i with
  | zero =>
    have := h.ne (i := 1) (by simp; omega)
    exact slt_of_not_empty (by simpa [List.getD] using this)
  | succ i =>
    have := h (i + 2) (by simp; omega)
    simpa [List.getD] using this
theorem getD_end (ss : List ByteArray) : ss.getD ss.length sE = sE := by simp [List.getD]
theorem sem_e : sem sE = true := (sem_iff _).2 rfl

theorem AscL.whole {ss : List ByteArray} (h : AscL ss) : wholeB (partsL ss) = true := by
  unfold wholeB
  rw [if_neg (by rw [partsL_len]; omega)]
  have h1 : (partsL ss).any emptyB = false := by
    rw [List.any_eq_false]
    intro x hx
    obtain ⟨i, hi, rfl⟩ := List.getElem_of_mem hx
    rw [partsL_len] at hi
    have e := partsL_at ss i (by omega)
    rw [getElem!_pos _ i (by rw [partsL_len]; omega)] at e
    rw [e]
    unfold emptyB spAt
    by_cases hl : i < ss.length
    · rw [h i hl]; simp
    · have : i = ss.length := by omega
      subst this
      simp [sem_e]
  have h2 : (partsL ss)[0]! = spAt ss 0 := partsL_at ss 0 (Nat.zero_le _)
  have h3 : followB (partsL ss) = true := by
    have hp : FollowP (partsL ss) := fun j h0 hj => by
      rw [partsL_len] at hj
      rw [partsL_at ss j (by omega), partsL_at ss (j - 1) (by omega)]
      obtain ⟨k, rfl⟩ : ∃ k, j = k + 1 := ⟨j - 1, by omega⟩
      exact ⟨h.ne (by omega), (getD_succ ss k).symm⟩
    unfold followB
    exact @decide_eq_true _ (Classical.propDecidable _) hp
  have h4 : (partsL ss)[(partsL ss).length - 1]! = spAt ss ss.length := by rw [partsL_len]; exact partsL_at ss ss.length (Nat.le_refl _)
  rw [h1, h2, h3, h4]
  show (!false && (sem sE && true && sem (ss.getD ss.length sE))) = true
  rw [getD_end, sem_e]
  rfl
/-- cut twice at one place. -/
theorem twice_not {a : ByteArray} {ss : List ByteArray} (h : sem a = false) : wholeB (partsL (a :: a :: ss)) = false := by
  unfold wholeB
  rw [if_neg (by rw [partsL_len]; omega)]
  have h1 : (partsL (a :: a :: ss)).any emptyB = true := by
    rw [List.any_eq_true]
    have e := partsL_at (a :: a :: ss) 1 (by simp)
    rw [getElem!_pos _ 1 (by rw [partsL_len]; simp)] at e
    refine ⟨_, List.getElem_mem (n := 1) (by rw [partsL_len]; simp), ?_⟩
    rw [e]
    show (!sem a && !slt a a) = true
    rw [h, slt_irrefl]
    rfl
  rw [h1]
  rfl
theorem drop_not {ss : List ByteArray} (h : AscL ss) (h0 : 0 < ss.length) : wholeB ((partsL ss).drop 1) = false := by
  unfold wholeB
  have hl : ((partsL ss).drop 1).length = ss.length := by rw [List.length_drop, partsL_len]; omega
  rw [if_neg (by rw [hl]; omega)]
  have h2 : ((partsL ss).drop 1)[0]! = spAt ss 1 := by
    rw [getElem!_pos _ 0 (by rw [hl]; exact h0), List.getElem_drop]
    have := partsL_at ss 1 h0
    rw [getElem!_pos _ 1 (by rw [partsL_len]; omega)] at this
    exact this
  rw [h2]
  have : sem (spAt ss 1).f = false := by
    show sem ((sE :: ss).getD (0 + 1) sE) = false
    rw [getD_succ]
    exact h.ne h0
  rw [this]
  simp
theorem none_not : wholeB [] = false := by unfold wholeB; exact if_pos rfl

/-- how many of the parts ahead of place i have the key. -/
def cntAt (ss : List ByteArray) (k : ByteArray) (i : Nat) : Nat := if slt k ((sE :: ss).getD i sE) = true then 1 else 0
theorem cnt_zero (ss : List ByteArray) (k : ByteArray) : cntAt ss k 0 = 0 := by
  unfold cntAt
  rw [if_neg]
  show ¬ slt k sE = true
  rw [slt_empty]; simp
theorem cnt_step {ss : List ByteArray} (h : AscL ss) (k : ByteArray) {i : Nat} (hi : i < ss.length) : cntAt ss k (i + 1) = cntAt ss k i + if hasB (spAt ss i) k = true then 1 else 0 := by
  unfold cntAt hasB spAt
  rw [getD_succ]
  have h1 := h i hi
  have h2 := h.ne hi
  generalize (sE :: ss).getD i sE = a at h1 ⊢
  generalize ss.getD i sE = b at h1 h2 ⊢
  simp only [h2]
  cases ha : slt k a with
  | true => simp [slt_trans ha h1]
  | false => cases hb : slt k b <;> simp
theorem cnt_last (ss : List ByteArray) (k : ByteArray) : cntAt ss k ss.length + (if hasB (spAt ss ss.length) k = true then 1 else 0) = 1 := by
  unfold cntAt hasB spAt
  simp only [getD_end, sem_e]
  cases slt k ((sE :: ss).getD ss.length sE) <;> simp

/-- a place more. -/
def insL (ss : List ByteArray) (c : ByteArray) (k : Nat) : List ByteArray := ss.take k ++ [c] ++ ss.drop k
theorem insL_at (ss : List ByteArray) (c : ByteArray) (k : Nat) (hk : k ≤ ss.length) (i : Nat) : (insL ss c k).getD i sE = if i < k then ss.getD i sE else if i = k then c else ss.getD (i - 1) sE := by
  unfold insL
  by_cases h1 : i < k
  · rw [if_pos h1]
    rw [List.append_assoc]
    simp only [List.getD]
    rw [List.getElem?_append_left (by simp; omega), List.getElem?_take, if_pos h1]
  · rw [if_neg h1]
    by_cases h2 : i = k
    · rw [if_pos h2]
      subst h2
      simp [List.getD, Nat.min_eq_left hk]
    · rw [if_neg h2]
      simp only [List.getD, List.append_assoc]
      rw [List.getElem?_append_right (by simp; omega), List.getElem?_append_right (by simp; omega), List.getElem?_drop]
      congr 2
      simp [Nat.min_eq_left hk]
      omega
theorem insL_len (ss : List ByteArray) (c : ByteArray) (k : Nat) (hk : k ≤ ss.length) : (insL ss c k).length = ss.length + 1 := by
  simp [insL]; omega
theorem AscL.ins {ss : List ByteArray} (h : AscL ss) {c : ByteArray} {k : Nat} (hk : k ≤ ss.length) (hc : sem c = false) (h1 : 0 < k → slt (ss.getD (k - 1) sE) c = true) (h2 : k < ss.length → slt c (ss.getD k sE) = true) : AscL (insL ss c k) := by
  intro i hi
  rw [insL_len ss c k hk] at hi
  have hcons : (sE :: insL ss c k).getD i sE = if i = 0 then sE else (insL ss c k).getD (i - 1) sE := by
    cases i with
    | zero => rfl
    | succ i => rw [getD_succ]; simp
  have hs : ∀ j, (sE :: ss).getD j sE = if j = 0 then sE else ss.getD (j - 1) sE := fun j => by
    cases j with
    | zero => rfl
    | succ i => rw [getD_succ]; simp
  rw [hcons, insL_at ss c k hk i, insL_at ss c k hk (i - 1)]
  by_cases a1 : i < k
  · have := h i (by omega)
    rw [hs] at this
    rw [if_pos a1]
    by_cases a0 : i = 0
    · rw [if_pos a0]; rw [if_pos a0] at this; exact this
    · rw [if_neg a0]; rw [if_neg a0] at this; rw [if_pos (by omega)]; exact this
  · rw [if_neg a1]
    by_cases a2 : i = k
    · rw [if_pos a2]
      by_cases a0 : i = 0
      · rw [if_pos a0]; exact slt_of_not_empty hc
      · rw [if_neg a0, if_pos (by omega)]
        have := h1 (by omega)
        rw [← a2] at this
        exact this
    · rw [if_neg a2, if_neg (show ¬ i = 0 by omega)]
      by_cases a3 : i = k + 1
      · subst a3
        rw [if_neg (by omega), if_pos (by omega)]
        exact h2 (by omega)
      · rw [if_neg (by omega), if_neg (by omega)]
        have := h (i - 1) (by omega)
        rw [hs, if_neg (show ¬ i - 1 = 0 by omega)] at this
        exact this
end Go.Gz
namespace Go.Gz

theorem parts_get (ss : List ByteArray) (i : Nat) (h : i < (partsL ss).length) : (partsL ss)[i] = spAt ss i := by
  simp [partsL]
theorem parts_get? (ss : List ByteArray) (i : Nat) : (partsL ss)[i]? = if i ≤ ss.length then some (spAt ss i) else none := by
  by_cases h : i ≤ ss.length
  · rw [if_pos h, List.getElem?_eq_getElem (by rw [partsL_len]; omega), parts_get]
  · rw [if_neg h, List.getElem?_eq_none (by rw [partsL_len]; omega)]
theorem parts_ext {l : List SP} {ss : List ByteArray} (h : ∀ i, l[i]? = if i ≤ ss.length then some (spAt ss i) else none) : l = partsL ss :=
  List.ext_getElem? fun i => by rw [h i, parts_get?]
theorem spAt_succ (ss : List ByteArray) (j : Nat) : spAt ss (j + 1) = ⟨ss.getD j sE, ss.getD (j + 1) sE⟩ := by unfold spAt; rw [getD_succ]
theorem spAt_zero (ss : List ByteArray) : spAt ss 0 = ⟨sE, ss.getD 0 sE⟩ := rfl
/-- a list with a piece of it put anew. -/
theorem put_get? {α : Type} (P M : List α) (i d : Nat) (hi : i ≤ P.length) (j : Nat) : (P.take i ++ M ++ P.drop (i + d))[j]? = if j < i then P[j]? else if j < i + M.length then M[j - i]? else P[j + d - M.length]? := by
  rw [List.append_assoc, List.getElem?_append, List.length_take, Nat.min_eq_left hi]
  by_cases h1 : j < i
  · rw [if_pos h1, if_pos h1, List.getElem?_take, if_pos h1]
  · rw [if_neg h1, if_neg h1, List.getElem?_append]
    by_cases h2 : j < i + M.length
    · rw [if_pos h2, if_pos (by omega)]
    · rw [if_neg h2, if_neg (by omega), List.getElem?_drop]
      congr 1
      omega

/-- what is whole is cut somewhere. -/
theorem whole_parts {l : List SP} (h : wholeB l = true) : ∃ ss, AscL ss ∧ l = partsL ss := by
  unfold wholeB at h
  split at h
  · cases h
  · rename_i hn
    rw [Bool.and_eq_true, Bool.and_eq_true, Bool.and_eq_true] at h
    obtain ⟨h1, ⟨h2, h3⟩, h4⟩ := h
    have h1 : ∀ x ∈ l, emptyB x = false := fun x hx => by
      have : l.any emptyB = false := by simpa using h1
      exact List.any_eq_false.1 this x hx |> fun h => by simpa using h
    have h3 : FollowP l := by
      unfold followB at h3
      simpa using h3
    have g : ∀ i, (hi : i < l.length) → l[i]! = l[i] := fun i hi => getElem!_pos l i hi
    refine ⟨(l.take (l.length - 1)).map (·.t), ?_, ?_⟩
    · intro i hi
      rw [List.length_map, List.length_take] at hi
      have hi' : i < l.length := by omega
      have e1 : ((l.take (l.length - 1)).map (·.t)).getD i sE = l[i].t := by
        rw [List.getD, List.getElem?_eq_getElem (by simp; omega)]
        simp
      have e2 : (sE :: (l.take (l.length - 1)).map (·.t)).getD i sE = l[i].f := by
        cases i with
        | zero =>
          have := h2
          rw [g 0 hi'] at this
          rw [(sem_iff _).1 this]
          rfl
        | succ i =>
          have h5 := (h3 (i + 1) (by omega) hi').2
          rw [g (i + 1) hi', Nat.add_sub_cancel, g i (by omega)] at h5
          rw [← h5, getD_succ, List.getD, List.getElem?_eq_getElem (by simp; omega)]
          simp
      have h6 := (h3 (i + 1) (by omega) (by omega)).1
      rw [Nat.add_sub_cancel, g i hi'] at h6
      have h7 := h1 _ (List.getElem_mem hi')
      unfold emptyB at h7
      rw [h6] at h7
      rw [e1, e2]
      simpa using h7
    · refine parts_ext fun i => ?_
      rw [List.length_map, List.length_take, Nat.min_eq_left (by omega)]
      by_cases hi : i < l.length
      · rw [if_pos (by omega), List.getElem?_eq_getElem hi]
        unfold spAt
        have e2 : (sE :: (l.take (l.length - 1)).map (·.t)).getD i sE = l[i].f := by
          cases i with
          | zero =>
            have := h2
            rw [g 0 hi] at this
            rw [(sem_iff _).1 this]
            rfl
          | succ i =>
            have h5 := (h3 (i + 1) (by omega) hi).2
            rw [g (i + 1) hi, Nat.add_sub_cancel, g i (by omega)] at h5
            rw [← h5, getD_succ, List.getD, List.getElem?_eq_getElem (by simp; omega)]
            simp
        rw [e2]
        by_cases hl : i = l.length - 1
        · have h5 : l[i].t = sE := by
            have := h4
            rw [g _ (by omega)] at this
            have := (sem_iff _).1 this
            subst hl
            exact this
          rw [show ((l.take (l.length - 1)).map (·.t)).getD i sE = sE by rw [List.getD, List.getElem?_eq_none (by simp; omega)]; rfl, ← h5]
        · rw [List.getD, List.getElem?_eq_getElem (by simp; omega)]
          simp
      · rw [if_neg (by omega), List.getElem?_eq_none (by omega)]

/-- a part's ends. -/
theorem has_part {ss : List ByteArray} {i : Nat} {k : ByteArray} (h : hasB (spAt ss i) k = true) (hk : k ≠ (spAt ss i).f) : slt (spAt ss i).f k = true ∧ (i < ss.length → AscL ss → slt k (ss.getD i sE) = true) := by
  unfold hasB at h
  rw [Bool.and_eq_true, Bool.or_eq_true] at h
  obtain ⟨h1, h2⟩ := h
  have h1 : slt k (spAt ss i).f = false := by simpa using h1
  refine ⟨?_, fun hi ha => ?_⟩
  · cases h3 : slt (spAt ss i).f k with
    | true => rfl
    | false => exact absurd (slt_total h1 h3) hk
  · rcases h2 with h2 | h2
    · have := ha.ne hi
      rw [show (spAt ss i).t = ss.getD i sE from rfl, this] at h2
      cases h2
    · exact h2
theorem parts_split {ss : List ByteArray} (ha : AscL ss) {i : Nat} (hi : i ≤ ss.length) {k : ByteArray} (h : hasB (spAt ss i) k = true) (hk : k ≠ (spAt ss i).f) :
    AscL (insL ss k i) ∧ partsL (insL ss k i) = (partsL ss).take i ++ [⟨(spAt ss i).f, k⟩, ⟨k, (spAt ss i).t⟩] ++ (partsL ss).drop (i + 1) := by
  obtain ⟨h1, h2⟩ := has_part h hk
  refine ⟨ha.ins hi (slt_not_empty h1) (fun h0 => ?_) (fun h0 => h2 h0 ha), ?_⟩
  · obtain ⟨j, rfl⟩ : ∃ j, i = j + 1 := ⟨i - 1, by omega⟩
    rw [Nat.add_sub_cancel]
    have : (spAt ss (j + 1)).f = ss.getD j sE := getD_succ ss j
    rw [← this]
    exact h1
  · refine (parts_ext fun j => ?_).symm
    rw [put_get? _ _ i 1 (by rw [partsL_len]; omega), insL_len ss k i hi, parts_get?, parts_get?]
    simp only [List.length_cons, List.length_nil]
    have e : ∀ j, (insL ss k i).getD j sE = if j < i then ss.getD j sE else if j = i then k else ss.getD (j - 1) sE := insL_at ss k i hi
    rcases Nat.lt_trichotomy j i with hji | hji | hji
    · rw [if_pos hji, if_pos (by omega), if_pos (by omega)]
      cases j with
      | zero => rw [spAt_zero, spAt_zero, e, if_pos (by omega)]
      | succ j => rw [spAt_succ, spAt_succ, e, e, if_pos (by omega), if_pos (by omega)]
    · subst hji
      rw [if_neg (by omega), if_pos (by omega), if_pos (by omega), Nat.sub_self]
      cases j with
      | zero => rw [spAt_zero, spAt_zero, e, if_neg (by omega), if_pos rfl]; rfl
      | succ j => rw [spAt_succ, spAt_succ, e, e, if_pos (by omega), if_neg (by omega), if_pos rfl]; rfl
    · obtain ⟨m, rfl⟩ : ∃ m, j = m + 1 := ⟨j - 1, by omega⟩
      rw [if_neg (show ¬ m + 1 < i by omega), spAt_succ, e, e, if_neg (show ¬ m < i by omega), if_neg (show ¬ m + 1 < i by omega), if_neg (show ¬ m + 1 = i by omega), Nat.add_sub_cancel]
      by_cases hm : m = i
      · subst hm
        rw [if_pos (show m + 1 < m + (0 + 1 + 1) by omega), if_pos rfl, if_pos (show m + 1 ≤ ss.length + 1 by omega), show m + 1 - m = 1 by omega]
        rfl
      · rw [if_neg (show ¬ m + 1 < i + (0 + 1 + 1) by omega), if_neg hm, show m + 1 + 1 - (0 + 1 + 1) = m by omega]
        obtain ⟨q, rfl⟩ : ∃ q, m = q + 1 := ⟨m - 1, by omega⟩
        by_cases hq : q + 1 ≤ ss.length
        · rw [if_pos hq, if_pos (show q + 1 + 1 ≤ ss.length + 1 by omega), spAt_succ, Nat.add_sub_cancel]
        · rw [if_neg hq, if_neg (show ¬ q + 1 + 1 ≤ ss.length + 1 by omega)]
theorem AscL.less {ss : List ByteArray} (ha : AscL ss) {i : Nat} (hi : i < ss.length) : AscL (ss.eraseIdx i) := by
  intro j hj
  rw [List.length_eraseIdx, if_pos hi] at hj
  have e : ∀ j, (ss.eraseIdx i).getD j sE = if j < i then ss.getD j sE else ss.getD (j + 1) sE := fun j => by
    simp only [List.getD, List.getElem?_eraseIdx]
    split <;> rfl
  have e2 : (sE :: ss.eraseIdx i).getD j sE = if j ≤ i then (sE :: ss).getD j sE else (sE :: ss).getD (j + 1) sE := by
    cases j with
    | zero => rfl
    | succ j =>
      rw [getD_succ, e, getD_succ, getD_succ]
      by_cases h : j < i
      · rw [if_pos h, if_pos (by omega)]
      · rw [if_neg h, if_neg (by omega)]
  rw [e2, e]
  rcases Nat.lt_trichotomy j i with h | h | h
  · rw [if_pos (by omega), if_pos h]
    exact ha j (by omega)
  · subst h
    rw [if_pos (Nat.le_refl _), if_neg (by omega)]
    exact ha.lt 1 j (by omega)
  · rw [if_neg (by omega), if_neg (by omega)]
    exact ha (j + 1) (by omega)
theorem parts_merge {ss : List ByteArray} {i : Nat} (hi : i < ss.length) : partsL (ss.eraseIdx i) = (partsL ss).take i ++ [⟨(spAt ss i).f, (spAt ss (i + 1)).t⟩] ++ (partsL ss).drop (i + 2) := by
  refine (parts_ext fun j => ?_).symm
  rw [put_get? _ _ i 2 (by rw [partsL_len]; omega), List.length_eraseIdx, if_pos hi, parts_get?, parts_get?]
  simp only [List.length_cons, List.length_nil]
  have e : ∀ j, (ss.eraseIdx i).getD j sE = if j < i then ss.getD j sE else ss.getD (j + 1) sE := fun j => by
    simp only [List.getD, List.getElem?_eraseIdx]
    split <;> rfl
  rcases Nat.lt_trichotomy j i with hji | hji | hji
  · rw [if_pos hji, if_pos (by omega), if_pos (by omega)]
    cases j with
    | zero => rw [spAt_zero, spAt_zero, e, if_pos (by omega)]
    | succ j => rw [spAt_succ, spAt_succ, e, e, if_pos (by omega), if_pos (by omega)]
  · subst hji
    rw [if_neg (by omega), if_pos (by omega), if_pos (by omega), Nat.sub_self, spAt_succ]
    cases j with
    | zero => rw [spAt_zero, spAt_zero, e, if_neg (by omega)]; rfl
    | succ j => rw [spAt_succ, spAt_succ, e, e, if_pos (by omega), if_neg (by omega)]; rfl
  · obtain ⟨m, rfl⟩ : ∃ m, j = m + 1 := ⟨j - 1, by omega⟩
    rw [if_neg (show ¬ m + 1 < i by omega), if_neg (show ¬ m + 1 < i + (0 + 1) by omega), spAt_succ, e, e, if_neg (show ¬ m < i by omega), if_neg (show ¬ m + 1 < i by omega), show m + 1 + 2 - (0 + 1) = m + 1 + 1 by omega, spAt_succ]
    by_cases hq : m + 1 + 1 ≤ ss.length
    · rw [if_pos hq, if_pos (show m + 1 ≤ ss.length - 1 by omega)]
    · rw [if_neg hq, if_neg (show ¬ m + 1 ≤ ss.length - 1 by omega)]

/-- so many of the first n parts have the key. -/
theorem parts_count {ss : List ByteArray} (ha : AscL ss) (k : ByteArray) : ∀ n, n ≤ ss.length → ((partsL ss).take n).countP (hasB · k) = cntAt ss k n
  | 0, _ => by rw [cnt_zero]; rfl
  | n + 1, h => by
    rw [cnt_step ha k (by omega), ← parts_count ha k n (by omega), List.take_succ_eq_append_getElem (by rw [partsL_len]; omega), List.countP_append, parts_get]
    simp [List.countP_cons]
theorem one_has {ss : List ByteArray} (ha : AscL ss) (k : ByteArray) : (partsL ss).countP (hasB · k) = 1 := by
  have h := cnt_last ss k
  rw [← parts_count ha k ss.length (Nat.le_refl _)] at h
  have e : partsL ss = (partsL ss).take ss.length ++ [spAt ss ss.length] := by
    have h2 : (partsL ss).take (ss.length + 1) = partsL ss := List.take_of_length_le (by rw [partsL_len]; exact Nat.le_refl _)
    rw [← h2, List.take_succ_eq_append_getElem (by rw [partsL_len]; omega), parts_get, List.take_append_of_le_length (by simp [partsL_len]), List.take_take, Nat.min_self]
  rw [e, List.countP_append]
  rw [← h]
  simp [List.countP_cons]
end Go.Gz
