/-
  Layer atlas: the atlases that AtlasKnown makes by hand, and what is answered of them.
-/
import Derived.Test.YtodcnemnajlbdaaAtSpec
namespace Go.Proofs.Ytodcnemnajlbdaa
open Go.RowKit Go.Gz

/-- the key of the i-th split. -/
def chK (i : Nat) : ByteArray := ⟨#[UInt8.ofNat (97 + i)]⟩
def knS (i j : Nat) : Sd := ⟨⟨if j = 0 then ByteArray.empty else chK j, if j = i then ByteArray.empty else chK (j + 1)⟩, 2, if j < i then (j : Int) + 2 else (i : Int) + 1⟩
/-- behind i splits. -/
def knL (i : Nat) : List Sd := (List.range (i + 1)).map (knS i)
theorem knL_len (i : Nat) : (knL i).length = i + 1 := by simp [knL]
theorem knL_at (i j : Nat) (h : j ≤ i) : (knL i).getD j default = knS i j := by
  unfold knL
  simp [List.getD, show j < i + 1 by omega]
theorem kn_has : ((List.range 11).all fun i => hasB (knS i i).sp (chK (i + 1)) && (List.range i).all fun j => !hasB (knS i j).sp (chK (i + 1))) = true := by kernel_rfl
theorem kn_place {i : Nat} (hi : i < 11) : placeA (knL i) (chK (i + 1)) = some i := by
  have h := List.all_eq_true.1 kn_has i (List.mem_range.2 hi)
  rw [Bool.and_eq_true] at h
  refine place_some (by rw [knL_len]; omega) (by rw [knL_at _ _ (Nat.le_refl _)]; exact h.1) fun j hj => ?_
  have := List.all_eq_true.1 h.2 j (List.mem_range.2 hj)
  rw [knL_at _ _ (by omega)]
  simpa using this
theorem kn_ne : ((List.range 11).all fun i => decide (chK (i + 1) ≠ (knS i i).sp.f)) = true := by decide
theorem kn_eqs : ((List.range 11).all fun i => decide (withL (knL i) [⟨⟨(knS i i).sp.f, chK (i + 1)⟩, (knS i i).n, (i : Int) + 1 + 1⟩, ⟨⟨chK (i + 1), (knS i i).sp.t⟩, (knS i i).n, (i : Int) + 1 + 1⟩] i 1 = knL (i + 1))) = true := by decide
theorem kn_next {i : Nat} (hi : i < 11) : splitM ((i : Int) + 1) (knL i) (chK (i + 1)) i = knL (i + 1) := by
  unfold splitM
  rw [knL_at _ _ (Nat.le_refl _)]
  exact of_decide_eq_true (List.all_eq_true.1 kn_eqs i (List.mem_range.2 hi))
theorem kn_may {m : Int} (hm : 2 ≤ m ∧ m ≤ 5) : ∀ i : Nat, i ≤ 11 → MayA m ((i : Int) + 1) (knL i)
  | 0, _ => MayA.first (m := 2) (nodes := m) (by omega) (by omega) (by omega)
  | i + 1, h => by
    have h0 := kn_may hm i (by omega)
    have hh := List.all_eq_true.1 kn_has i (List.mem_range.2 (by omega))
    rw [Bool.and_eq_true] at hh
    have h1 := h0.split (i := i) (by rw [knL_len]; omega) (by rw [knL_len]; omega) (k := chK (i + 1)) (by rw [knL_at _ _ (Nat.le_refl _)]; exact hh.1) (by rw [knL_at _ _ (Nat.le_refl _)]; exact of_decide_eq_true (List.all_eq_true.1 kn_ne i (List.mem_range.2 (by omega))))
    have h2 := kn_next (i := i) (by omega)
    unfold splitM at h2
    rw [h2] at h1
    rw [show (((i + 1 : Nat) : Int) + 1) = (i : Int) + 1 + 1 by omega]
    exact h1
theorem kn_split {i : Nat} (hi : i < 11) : splitA ((i : Int) + 1) (knL i) (chK (i + 1)) = ⟨(i : Int) + 1 + 1, knL (i + 1), [(i : Int)], 0⟩ := by
  unfold splitA
  rw [if_pos ((fresh_iff _ _ _).2 ⟨kn_may (by omega) i (by omega), by omega⟩), kn_place hi]
  simp only
  rw [knL_at _ _ (Nat.le_refl _), if_neg (of_decide_eq_true (List.all_eq_true.1 kn_ne i (List.mem_range.2 hi))), if_neg (by rw [knL_len]; omega), kn_next hi]
def sx (n : Nat) : ByteArray := ⟨#[UInt8.ofNat n]⟩
theorem knM : MayA 5 12 (knL 11) := kn_may (by omega) 11 (by omega)
theorem kn_fresh : freshB 5 12 (knL 11) = true := (fresh_iff _ _ _).2 ⟨knM, by omega⟩
/-- as many as may be: none more. -/
theorem kn_full : splitA 12 (knL 11) (sx 122) = errA 8 := by
  unfold splitA
  have hp : placeA (knL 11) (sx 122) = some 11 := by
    have hc : (hasB (knS 11 11).sp (sx 122) && (List.range 11).all fun j => !hasB (knS 11 j).sp (sx 122)) = true := by kernel_rfl
    rw [Bool.and_eq_true] at hc
    refine place_some (by rw [knL_len]; omega) (by rw [knL_at _ _ (Nat.le_refl _)]; exact hc.1) fun j hj => ?_
    have := List.all_eq_true.1 hc.2 j (List.mem_range.2 hj)
    rw [knL_at _ _ (by omega)]
    simpa using this
  rw [if_pos kn_fresh, hp]
  simp only
  rw [knL_at _ _ (Nat.le_refl _), if_neg (by decide), if_pos (by rw [knL_len]; omega)]
/-- a key at which a shard begins. -/
theorem kn_dup : splitA 12 (knL 11) (sx 99) = errA 1 := by
  unfold splitA
  have hp : placeA (knL 11) (sx 99) = some 2 := by
    have hc : (hasB (knS 11 2).sp (sx 99) && (List.range 2).all fun j => !hasB (knS 11 j).sp (sx 99)) = true := by kernel_rfl
    rw [Bool.and_eq_true] at hc
    refine place_some (by rw [knL_len]; omega) (by rw [knL_at _ _ (by omega)]; exact hc.1) fun j hj => ?_
    have := List.all_eq_true.1 hc.2 j (List.mem_range.2 hj)
    rw [knL_at _ _ (by omega)]
    simpa using this
  rw [if_pos kn_fresh, hp]
  simp only
  rw [knL_at _ _ (by omega), if_pos (by decide)]
theorem kn_merge0 : mergeA 12 (knL 11) 11 = errA 1 := by
  unfold mergeA
  rw [if_neg (by rw [knL_len]; omega)]
theorem kn_merge1 : mergeA 12 (knL 11) 10 = ⟨13, mergeM 12 (knL 11) 10, [10, 11], 0⟩ := by
  unfold mergeA
  rw [if_pos ⟨kn_fresh, by omega, by rw [knL_len]; omega⟩]
  rfl
theorem kn_merge_len : (mergeM 12 (knL 11) 10).length = 11 := by
  unfold mergeM
  rw [withL_len _ _ (by rw [knL_len]; omega), knL_len]
  rfl
theorem kn_move0 : moveA 12 (knL 11) 0 2 5 = errA 1 := by
  unfold moveA
  rw [if_neg]
  rintro ⟨-, -, -, -, -, h⟩
  rw [show (0 : Int).toNat = 0 from rfl, knL_at _ _ (by omega)] at h
  exact h rfl
theorem kn_move1 : moveA 12 (knL 11) 3 1 5 = ⟨13, moveM 12 (knL 11) 3 1, [3], 0⟩ := by
  unfold moveA
  rw [if_pos ⟨kn_fresh, by omega, by rw [knL_len]; omega, by omega, by omega, by
    rw [show (3 : Int).toNat = 3 from rfl, knL_at _ _ (by omega)]
    decide⟩]
  rfl
theorem kn_may1 : mayAB 1 12 (knL 11) = false := by
  cases h : mayAB 1 12 (knL 11) with
  | false => rfl
  | true =>
    have h1 := ((mayAB_iff _ _ _).1 h).sh _ (get_mem (L := knL 11) (i := 0) (by rw [knL_len]; omega))
    rw [knL_at _ _ (by omega)] at h1
    have h2 : (knS 11 0).n = 2 := rfl
    omega
theorem kn_may2 : mayAB 2 12 (knL 11) = true := (mayAB_iff _ _ _).2 (kn_may (by omega) 11 (by omega))
theorem kn_move2 : moveA 12 (knL 11) 3 1 1 = errA 1 := by
  unfold moveA
  rw [if_neg]
  rintro ⟨h, -⟩
  unfold freshB at h
  rw [kn_may1] at h
  cases h
theorem kn_none (k : ByteArray) : splitA 0 [] k = errA 1 := by
  unfold splitA
  rw [if_neg]
  intro h
  have := ((fresh_iff _ _ _).1 h).1.ln
  simp at this
theorem kn_moved : moveM 12 (knL 11) 3 1 = (knL 11).take 3 ++ [⟨(knS 11 3).sp, 1, 13⟩] ++ (knL 11).drop 4 := by
  unfold moveM withL
  rw [knL_at _ _ (by omega)]
  rfl
theorem kn_owner : ownerA (moveM 12 (knL 11) 3 1) ⟨#[100, 100]⟩ = (⟨(knS 11 3).sp, 1, 13⟩, true) := by
  have hc : (hasB (((moveM 12 (knL 11) 3 1)).getD 3 default).sp ⟨#[100, 100]⟩ && (List.range 3).all fun j => !hasB ((moveM 12 (knL 11) 3 1).getD j default).sp ⟨#[100, 100]⟩) = true := by kernel_rfl
  rw [Bool.and_eq_true] at hc
  unfold ownerA
  rw [place_some (L := moveM 12 (knL 11) 3 1) (i := 3) (by decide) hc.1 fun j hj => by
    have := List.all_eq_true.1 hc.2 j (List.mem_range.2 hj)
    simpa using this]
  simp only
  rw [kn_moved]
  rfl
end Go.Proofs.Ytodcnemnajlbdaa
