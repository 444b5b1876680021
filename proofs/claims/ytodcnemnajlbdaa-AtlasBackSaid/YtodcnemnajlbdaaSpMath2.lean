/-
  Plain mathematics of layer span: within is an order; what is in both is within each.
-/
import Derived.Test.YtodcnemnajlbdaaSpMath
namespace Go.Gz

/-- the two tests by ranks. -/
theorem within_rank {L : List ByteArray} {a b : SP} (m1 : a.f ∈ L) (m2 : a.t ∈ L) (m3 : b.f ∈ L) (m4 : b.t ∈ L) (m6 : ByteArray.empty ∈ L) :
    withinB a b = true ↔ ((rank L a.t ≠ rank L ByteArray.empty ∧ rank L a.t ≤ rank L a.f) ∨ (rank L b.f ≤ rank L a.f ∧ (rank L b.t = rank L ByteArray.empty ∨ (rank L a.t ≠ rank L ByteArray.empty ∧ rank L a.t ≤ rank L b.t)))) := by
  unfold withinB emptyB
  simp only [sem_rank L m2 m6, sem_rank L m4 m6, slt_rank L m1 m2, slt_rank L m1 m3, slt_rank L m4 m2, Bool.or_eq_true, Bool.and_eq_true, Bool.not_eq_true', decide_eq_false_iff_not, decide_eq_true_eq]
  omega
theorem within_trans {a b c : SP} (h1 : withinB a b = true) (h2 : withinB b c = true) : withinB a c = true := by
  have m : ∀ x ∈ [a.f, a.t, b.f, b.t, c.f, c.t, ByteArray.empty], x ∈ [a.f, a.t, b.f, b.t, c.f, c.t, ByteArray.empty] := fun _ h => h
  simp only [List.forall_mem_cons] at m
  obtain ⟨m1, m2, m3, m4, m5, m6, m7, _⟩ := m
  generalize hL : [a.f, a.t, b.f, b.t, c.f, c.t, ByteArray.empty] = L at m1 m2 m3 m4 m5 m6 m7
  clear hL
  have e1 := empty_rank L m2 m7
  have e2 := empty_rank L m4 m7
  have e3 := empty_rank L m6 m7
  have e4 := empty_rank L m1 m7
  rw [within_rank m1 m2 m3 m4 m7] at h1
  rw [within_rank m3 m4 m5 m6 m7] at h2
  rw [within_rank m1 m2 m5 m6 m7]
  omega
theorem maxS2_mem (L : List ByteArray) {a b : ByteArray} (ha : a ∈ L) (hb : b ∈ L) : maxS2 a b ∈ L := by unfold maxS2; split <;> assumption
theorem firstEnd_mem (L : List ByteArray) {a b : ByteArray} (ha : a ∈ L) (hb : b ∈ L) : firstEndS a b ∈ L := by unfold firstEndS; split <;> assumption
theorem maxS2_rank (L : List ByteArray) {a b : ByteArray} (ha : a ∈ L) (hb : b ∈ L) : rank L (maxS2 a b) = max (rank L a) (rank L b) := by
  unfold maxS2
  rw [slt_rank L ha hb]
  by_cases h : rank L a < rank L b
  · rw [if_pos (decide_eq_true h)]; omega
  · rw [if_neg (by simpa using h)]; omega
theorem firstEnd_rank (L : List ByteArray) {a b : ByteArray} (ha : a ∈ L) (hb : b ∈ L) (he : ByteArray.empty ∈ L) :
    rank L (firstEndS a b) = if rank L a = rank L ByteArray.empty then rank L b else if rank L b = rank L ByteArray.empty then rank L a else min (rank L a) (rank L b) := by
  unfold firstEndS
  rw [sem_rank L ha he, sem_rank L hb he, slt_rank L hb ha]
  by_cases h1 : rank L a = rank L ByteArray.empty
  · simp [h1]
  · by_cases h2 : rank L b = rank L ByteArray.empty
    · simp [h1, h2]
    · by_cases h3 : rank L b < rank L a
      · simp [h1, h2, h3]; omega
      · simp [h1, h2, h3]; omega
theorem meet_within (a b : SP) : withinB (meetS a b) a = true ∧ withinB (meetS a b) b = true := by
  have m : ∀ x ∈ [a.f, a.t, b.f, b.t, ByteArray.empty], x ∈ [a.f, a.t, b.f, b.t, ByteArray.empty] := fun _ h => h
  simp only [List.forall_mem_cons] at m
  obtain ⟨m1, m2, m3, m4, m7, _⟩ := m
  generalize hL : [a.f, a.t, b.f, b.t, ByteArray.empty] = L at m1 m2 m3 m4 m7
  clear hL
  have e1 := empty_rank L m2 m7
  have e2 := empty_rank L m4 m7
  have k1 : (meetS a b).f ∈ L := maxS2_mem L m1 m3
  have k2 : (meetS a b).t ∈ L := firstEnd_mem L m2 m4
  have r1 : rank L (meetS a b).f = max (rank L a.f) (rank L b.f) := maxS2_rank L m1 m3
  have r2 : rank L (meetS a b).t = _ := firstEnd_rank L m2 m4 m7
  rw [within_rank k1 k2 m1 m2 m7, within_rank k1 k2 m3 m4 m7, r1, r2]
  by_cases h1 : rank L a.t = rank L ByteArray.empty
  · rw [if_pos h1]; omega
  · rw [if_neg h1]
    by_cases h2 : rank L b.t = rank L ByteArray.empty
    · rw [if_pos h2]; omega
    · rw [if_neg h2]; omega
theorem meet_all (a : SP) : meetS a ⟨ByteArray.empty, ByteArray.empty⟩ = a := by
  have h1 : maxS2 a.f ByteArray.empty = a.f := by unfold maxS2; rw [slt_empty]; rfl
  have he : sem ByteArray.empty = true := (sem_iff _).2 rfl
  have h2 : firstEndS a.t ByteArray.empty = a.t := by
    unfold firstEndS
    rw [he]
    cases h : sem a.t with
    | true => exact ((sem_iff _).1 h).symm
    | false => rfl
  unfold meetS
  simp only [h1, h2]
end Go.Gz
