/-
  Layer atlas: a shard split and merged again; moved there and back.
-/
import Derived.Test.YtodcnemnajlbdaaAtSpec
namespace Go.Proofs.Ytodcnemnajlbdaa
open Go.RowKit Go.Gz

theorem withL_back {L : List Sd} {x y z : Sd} {i : Nat} (hi : i < L.length) : withL (withL L [x, y] i 1) [z] i 2 = withL L [z] i 1 := by
  refine List.ext_getElem? fun j => ?_
  have hw : (withL L [x, y] i 1).length = L.length + 1 := by rw [withL_len _ _ (by omega)]; simp
  rw [withL_get (withL L [x, y] i 1) [z] 2 (by omega) j, withL_get L [z] 1 (by omega) j]
  by_cases h : j < i
  · rw [if_pos h, if_pos h, withL_get L [x, y] 1 (by omega) j, if_pos h]
  · rw [if_neg h, if_neg h]
    by_cases h2 : j < i + [z].length
    · rw [if_pos h2, if_pos h2]
    · rw [if_neg h2, if_neg h2]
      simp only [List.length_cons, List.length_nil] at h2 ⊢
      rw [withL_get L [x, y] 1 (by omega) _, if_neg (by omega), if_neg (by simp only [List.length_cons, List.length_nil]; omega)]
      simp only [List.length_cons, List.length_nil]
      congr 1
theorem back_merge {ep : Int} {L : List Sd} {k : ByteArray} (hm : MayA 5 ep L) (hE : ep ≤ 134217728) (h : (splitA ep L k).err = 0) :
    ∃ i, i < L.length ∧ splitA ep L k = ⟨ep + 1, splitM ep L k i, [(i : Int)], 0⟩ ∧ mergeA (ep + 1) (splitM ep L k i) (i : Int) = ⟨ep + 1 + 1, withL L [⟨(L.getD i default).sp, (L.getD i default).n, ep + 1 + 1⟩] i 1, [(i : Int), (i : Int) + 1], 0⟩ := by
  have hd := split_done hm h
  unfold splitA at h hd
  by_cases hf : freshB 5 ep L = true
  · rw [if_pos hf] at h hd
    cases hp : placeA L k with
    | none => rw [hp] at h; cases h
    | some i =>
      obtain ⟨h1, h2, -⟩ := place_of hp
      rw [hp] at h hd
      simp only at h hd
      by_cases hk : k = (L.getD i default).sp.f
      · rw [if_pos hk] at h; cases h
      · rw [if_neg hk] at h hd
        by_cases hl : 12 ≤ L.length
        · rw [if_pos hl] at h; cases h
        · rw [if_neg hl] at hd
          have hM := hd.may
          simp only at hM
          have hw : (splitM ep L k i).length = L.length + 1 := by unfold splitM; rw [withL_len _ _ (by omega)]; simp
          have g0 : (splitM ep L k i).getD i default = ⟨⟨(L.getD i default).sp.f, k⟩, (L.getD i default).n, ep + 1⟩ := by
            unfold splitM
            rw [List.getD, withL_get L _ 1 (by omega) i, if_neg (by omega), if_pos (by simp)]
            simp
          have g1 : (splitM ep L k i).getD (i + 1) default = ⟨⟨k, (L.getD i default).sp.t⟩, (L.getD i default).n, ep + 1⟩ := by
            unfold splitM
            rw [List.getD, withL_get L _ 1 (by omega) (i + 1), if_neg (by omega), if_pos (by simp)]
            simp
          refine ⟨i, h1, ?_, ?_⟩
          · unfold splitA
            rw [if_pos hf, hp]
            simp only
            rw [if_neg hk, if_neg hl]
          · unfold mergeA
            rw [if_pos ⟨(fresh_iff _ _ _).2 ⟨hM, by omega⟩, by omega, by rw [hw]; omega⟩]
            unfold mergeM
            rw [Int.toNat_natCast, g0, g1]
            have hb := withL_back (L := L) (x := ⟨⟨(L.getD i default).sp.f, k⟩, (L.getD i default).n, ep + 1⟩) (y := ⟨⟨k, (L.getD i default).sp.t⟩, (L.getD i default).n, ep + 1⟩) (z := ⟨(L.getD i default).sp, (L.getD i default).n, ep + 1 + 1⟩) h1
            rw [← hb]
            rfl
  · rw [if_neg hf] at h; cases h
theorem withL_self {L : List Sd} {x : Sd} {i j : Nat} (hi : i < L.length) (_ : j < L.length) : (withL L [x] i 1).getD j default = if j = i then x else L.getD j default := by
  unfold List.getD
  rw [withL_get L [x] 1 (by omega) j]
  by_cases h : j < i
  · rw [if_pos h, if_neg (by omega)]
  · rw [if_neg h]
    by_cases h2 : j = i
    · subst h2
      rw [if_pos (by simp), if_pos rfl]
      simp
    · rw [if_neg (by simp; omega), if_neg h2]
      simp
theorem back_node {n : Int} (h : 1 ≤ n ∧ n ≤ 5) : 1 ≤ 1 + n.tmod 5 ∧ 1 + n.tmod 5 ≤ 5 ∧ 1 + n.tmod 5 ≠ n := by
  rw [Int.tmod_eq_emod_of_nonneg (by omega)]
  omega
theorem back_move {ep : Int} {L : List Sd} {i : Nat} {m : Int} (hm : MayA 5 ep L) (hE : ep ≤ 134217728) (hi : i < L.length) (h1 : 1 ≤ m ∧ m ≤ 5) (h2 : m ≠ (L.getD i default).n) :
    moveA ep L i m 5 = ⟨ep + 1, moveM ep L i m, [(i : Int)], 0⟩ ∧ moveA (ep + 1) (moveM ep L i m) i (L.getD i default).n 5 = ⟨ep + 1 + 1, withL L [⟨(L.getD i default).sp, (L.getD i default).n, ep + 1 + 1⟩] i 1, [(i : Int)], 0⟩ := by
  have hs := hm.sh _ (get_mem hi)
  have hM : MayA 5 (ep + 1) (moveM ep L i m) := hm.move hi h1
  have hw : (moveM ep L i m).length = L.length := by unfold moveM; rw [withL_len _ _ (by omega)]; simp
  have hg : (moveM ep L i m).getD i default = ⟨(L.getD i default).sp, m, ep + 1⟩ := by unfold moveM; rw [withL_self hi hi, if_pos rfl]
  constructor
  · unfold moveA
    rw [Int.toNat_natCast, if_pos ⟨(fresh_iff _ _ _).2 ⟨hm, by omega⟩, by omega, by omega, h1.1, h1.2, h2⟩]
  · unfold moveA
    rw [Int.toNat_natCast, hg, if_pos ⟨(fresh_iff _ _ _).2 ⟨hM, by omega⟩, by omega, by rw [hw]; omega, hs.1, hs.2.1, fun e => h2 e.symm⟩]
    have e : moveM (ep + 1) (moveM ep L i m) i (L.getD i default).n = withL L [⟨(L.getD i default).sp, (L.getD i default).n, ep + 1 + 1⟩] i 1 := by
      refine List.ext_getElem? fun j => ?_
      have hl : i < (moveM ep L i m).length := by omega
      show (withL (moveM ep L i m) _ i 1)[j]? = _
      rw [hg, withL_get _ _ 1 (by omega) j, withL_get L _ 1 (by omega) j]
      by_cases h : j < i
      · rw [if_pos h, if_pos h]
        unfold moveM
        rw [withL_get L _ 1 (by omega) j, if_pos h]
      · rw [if_neg h, if_neg h]
        simp only [List.length_cons, List.length_nil]
        by_cases h3 : j < i + (0 + 1)
        · rw [if_pos h3, if_pos h3]
        · rw [if_neg h3, if_neg h3]
          unfold moveM
          rw [withL_get L _ 1 (by omega) _, if_neg (by omega), if_neg (by simp only [List.length_cons, List.length_nil]; omega)]
          simp only [List.length_cons, List.length_nil]
          congr 1
    rw [e]
end Go.Proofs.Ytodcnemnajlbdaa
