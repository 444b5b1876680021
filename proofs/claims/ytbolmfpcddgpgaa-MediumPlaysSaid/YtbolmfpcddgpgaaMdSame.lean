/-
  Layer medium: the law's 'same'; rows of bytes that a call lays, in a world that grows.
-/
import Derived.Test.YtbolmfpcddgpgaaMdDo
import Derived.Test.YtbolmfpcddgpgaaMdOps2
namespace Go.Proofs.Ytbolmfpcddgpgaa
open Go.RowKit Go.Gz

/-- what 'string(v)' reads of a row of one's own. -/
theorem own_string {w w' : World} {B : Nat} {v : Value} {X : List UInt8} (h : Own w B 5 .u8 v (nums X)) (hb : Below w.heap.size w w') : ∃ q d, v = .slice q X.length d ∧ (convert 28 9 v).run Try.prog w' = .ok (.string ⟨X.toArray⟩) w' := by
  obtain ⟨q, d, rfl, _, _, hr⟩ := own_row h
  rw [nums_length]
  exact ⟨q, d, rfl, run_string w' X q d (hr.below hb)⟩

set_option maxHeartbeats 4000000 in
set_option maxRecDepth 1000000 in
theorem same_any {w : World} {B M R n : Nat} (h : Pair w B M R n) (hn : n ≤ 100000) :
    Calls Try.prog 11 #[.pointer (some ⟨M, 0, none⟩), .pointer (some ⟨R, 0, none⟩)] w fun e w' => e = .returned (.bool true) ∧ Below w.heap.size w w' := by
  have mx := mixedMd
  obtain ⟨vs, vl, p, c, S, L, hH, hlen⟩ := h
  have HH := Lib.hid hH
  have CB := Lib.hid (fun w' (hb : Below w.heap.size w w') => bytes_any (hH.below hb).m (by omega) (by omega))
  obtain ⟨l, hl⟩ : ∃ l, L.length = l := ⟨_, rfl⟩
  obtain ⟨X, hX⟩ : ∃ X, S ++ L = X := ⟨_, rfl⟩
  have CL := Lib.hid (fun w' (hb : Below w.heap.size w w') => loose_any (hH.below hb).m l hl)
  obtain ⟨z, hz⟩ : ∃ z, X.length = z := ⟨_, rfl⟩
  have HC := Lib.hid (show w.cell? ⟨R, 0, none⟩ = some (.slice p z c) ∧ w.cell? ⟨R, 1, none⟩ = some (.int .i64 ((l : Nat) : Int)) ∧ R < w.heap.size from ⟨by rw [← hz, ← hX]; exact hH.r.c0, by rw [← hl]; exact hH.r.c1, hH.r.lt⟩)
  have HS := Lib.hid (fun w' (hb : Below w.heap.size w w') => show (convert 28 9 (.slice p z c)).run Try.prog w' = .ok (.string ⟨X.toArray⟩) w' from by
    rw [← hz, ← hX]
    exact run_string w' (S ++ L) p c (hH.r.row.below hb))
  rw [hX] at CB
  clear hH hlen hn hl hX hz
  go_enter Try.func11, Try.ntmps11
  go_wp2_with fail
  refine wp_region_mono mx (by kernel_rfl) [VP.eq (.pointer (some ⟨M, 0, none⟩)), ownVP w.heap.size X, VP.eq (.string ⟨X.toArray⟩), VP.eq (.pointer (some ⟨R, 0, none⟩)), VP.eq (.pointer (some ⟨R, 0, none⟩)), VP.eq (.pointer (some ⟨R, 0, none⟩)), VP.eq (.slice p z c), VP.eq (.string ⟨X.toArray⟩), VP.eq (.bool true), VP.eq (.bool true), VP.eq (.pointer (some ⟨M, 0, none⟩)), VP.eq (.int .i64 ((l : Nat) : Int)), VP.eq (.pointer (some ⟨R, 0, none⟩)), VP.eq (.pointer (some ⟨R, 0, none⟩)), VP.eq (.pointer (some ⟨R, 1, none⟩)), VP.eq (.int .i64 ((l : Nat) : Int)), VP.eq (.bool true), VP.eq (.bool true), VP.eq (.bool true)] ?_ ?_
  · intro i o L vals w' hi hL hdep hC hJ hV
    have hlt : i < 19 := by have := (List.getElem?_eq_some_iff.1 hi).1; simpa using this
    generalize hA : frA _ _ L vals = a'
    have hT0 : a'.tmps.getD 0 undef = .pointer (some ⟨M, 0, none⟩) := by rw [← hA, frA_base (by kernel_rfl)]; rfl
    have hT1 : a'.tmps.getD 1 undef = .pointer (some ⟨R, 0, none⟩) := by rw [← hA, frA_base (by kernel_rfl)]; rfl
    have hD := Lib.hid (fun k t (hk : L k = true) (ht : dstOf _ k = some t) => hA ▸ frA_done (by kernel_rfl) (vals := vals) hk ht)
    clear hA
    have c0 : w'.cell? ⟨R, 0, none⟩ = some (.slice p z c) := by rw [hJ.cell (p := ⟨R, 0, none⟩) HC.out.2.2]; exact HC.out.1
    have c1 : w'.cell? ⟨R, 1, none⟩ = some (.int .i64 ((l : Nat) : Int)) := by rw [hJ.cell (p := ⟨R, 1, none⟩) HC.out.2.2]; exact HC.out.2.1
    obtain rfl | rfl | rfl | rfl | rfl | rfl | rfl | rfl | rfl | rfl | rfl | rfl | rfl | rfl | rfl | rfl | rfl | rfl | rfl : i = 0 ∨ i = 1 ∨ i = 2 ∨ i = 3 ∨ i = 4 ∨ i = 5 ∨ i = 6 ∨ i = 7 ∨ i = 8 ∨ i = 9 ∨ i = 10 ∨ i = 11 ∨ i = 12 ∨ i = 13 ∨ i = 14 ∨ i = 15 ∨ i = 16 ∨ i = 17 ∨ i = 18 := by omega
    all_goals
      injection hi with hi
      subst hi
      try simp [Region.binds] at hdep
    · exact step_run rfl (v := .pointer (some ⟨M, 0, none⟩)) (w' := w') (by go_simp) ⟨rfl, Below.refl _ _⟩
    · have d5 := hD.out 0 5 (by simp [hdep]) rfl
      rw [show vals 0 = .pointer (some ⟨M, 0, none⟩) from hV 0 (by simp [hdep])] at d5
      refine step_enter rfl (w' := w') (by go_simp) ((CB.out w' hJ).mono ?_)
      rintro e x ⟨v, rfl, ho, hb⟩
      exact ⟨v, rfl, own_mono ho hJ.size, hb⟩
    · have d6 := hD.out 1 6 (by simp [hdep]) rfl
      obtain ⟨q, d, e, hs⟩ := own_string (hV 1 (by simp [hdep])) (Below.refl _ w')
      rw [e] at d6 hs
      exact step_run rfl (v := .string ⟨X.toArray⟩) (w' := w') (by go_simp) ⟨rfl, Below.refl _ _⟩
    · exact step_run rfl (v := .pointer (some ⟨R, 0, none⟩)) (w' := w') (by go_simp) ⟨rfl, Below.refl _ _⟩
    · have d8 := hD.out 3 8 (by simp [hdep]) rfl
      rw [show vals 3 = .pointer (some ⟨R, 0, none⟩) from hV 3 (by simp [hdep])] at d8
      exact step_run rfl (v := .pointer (some ⟨R, 0, none⟩)) (w' := w') (by go_simp) ⟨rfl, Below.refl _ _⟩
    · have d9 := hD.out 4 9 (by simp [hdep]) rfl
      rw [show vals 4 = .pointer (some ⟨R, 0, none⟩) from hV 4 (by simp [hdep])] at d9
      exact step_run rfl (v := .pointer (some ⟨R, 0, none⟩)) (w' := w') (by go_simp) ⟨rfl, Below.refl _ _⟩
    · have d10 := hD.out 5 10 (by simp [hdep]) rfl
      rw [show vals 5 = .pointer (some ⟨R, 0, none⟩) from hV 5 (by simp [hdep])] at d10
      exact step_run rfl (v := .slice p z c) (w' := w') (by go_simp) ⟨rfl, Below.refl _ _⟩
    · have d11 := hD.out 6 11 (by simp [hdep]) rfl
      rw [show vals 6 = .slice p z c from hV 6 (by simp [hdep])] at d11
      have hs := HS.out w' hJ
      exact step_run rfl (v := .string ⟨X.toArray⟩) (w' := w') (by go_simp) ⟨rfl, Below.refl _ _⟩
    · have d7 := hD.out 2 7 (by simp [hdep]) rfl
      rw [show vals 2 = .string ⟨X.toArray⟩ from hV 2 (by simp [hdep])] at d7
      have d12 := hD.out 7 12 (by simp [hdep]) rfl
      rw [show vals 7 = .string ⟨X.toArray⟩ from hV 7 (by simp [hdep])] at d12
      exact step_run rfl (v := .bool true) (w' := w') (by go_simp) ⟨rfl, Below.refl _ _⟩
    · have d13 := hD.out 8 13 (by simp [hdep]) rfl
      rw [show vals 8 = .bool true from hV 8 (by simp [hdep])] at d13
      exact step_run rfl (v := .bool true) (w' := w') (by go_simp) ⟨rfl, Below.refl _ _⟩
    · have d14 := hD.out 9 14 (by simp [hdep]) rfl
      rw [show vals 9 = .bool true from hV 9 (by simp [hdep])] at d14
      exact step_run' (wanted_open rfl rfl d14) (v := .pointer (some ⟨M, 0, none⟩)) (w' := w') (by go_simp) ⟨rfl, Below.refl _ _⟩
    · have d15 := hD.out 10 15 (by simp [hdep]) rfl
      rw [show vals 10 = .pointer (some ⟨M, 0, none⟩) from hV 10 (by simp [hdep])] at d15
      have d14 := hD.out 9 14 (by simp [hdep]) rfl
      rw [show vals 9 = .bool true from hV 9 (by simp [hdep])] at d14
      refine step_enter' (wanted_open rfl rfl d14) (w' := w') (by go_simp) ((CL.out w' hJ).mono ?_)
      rintro e x ⟨rfl, rfl⟩
      exact ⟨_, rfl, rfl, Below.refl _ _⟩
    · have d14 := hD.out 9 14 (by simp [hdep]) rfl
      rw [show vals 9 = .bool true from hV 9 (by simp [hdep])] at d14
      exact step_run' (wanted_open rfl rfl d14) (v := .pointer (some ⟨R, 0, none⟩)) (w' := w') (by go_simp) ⟨rfl, Below.refl _ _⟩
    · have d17 := hD.out 12 17 (by simp [hdep]) rfl
      rw [show vals 12 = .pointer (some ⟨R, 0, none⟩) from hV 12 (by simp [hdep])] at d17
      have d14 := hD.out 9 14 (by simp [hdep]) rfl
      rw [show vals 9 = .bool true from hV 9 (by simp [hdep])] at d14
      exact step_run' (wanted_open rfl rfl d14) (v := .pointer (some ⟨R, 0, none⟩)) (w' := w') (by go_simp) ⟨rfl, Below.refl _ _⟩
    · have d18 := hD.out 13 18 (by simp [hdep]) rfl
      rw [show vals 13 = .pointer (some ⟨R, 0, none⟩) from hV 13 (by simp [hdep])] at d18
      have d14 := hD.out 9 14 (by simp [hdep]) rfl
      rw [show vals 9 = .bool true from hV 9 (by simp [hdep])] at d14
      exact step_run' (wanted_open rfl rfl d14) (v := .pointer (some ⟨R, 1, none⟩)) (w' := w') (by go_simp) ⟨rfl, Below.refl _ _⟩
    · have d19 := hD.out 14 19 (by simp [hdep]) rfl
      rw [show vals 14 = .pointer (some ⟨R, 1, none⟩) from hV 14 (by simp [hdep])] at d19
      have d14 := hD.out 9 14 (by simp [hdep]) rfl
      rw [show vals 9 = .bool true from hV 9 (by simp [hdep])] at d14
      exact step_run' (wanted_open rfl rfl d14) (v := .int .i64 ((l : Nat) : Int)) (w' := w') (by go_simp) ⟨rfl, Below.refl _ _⟩
    · have d16 := hD.out 11 16 (by simp [hdep]) rfl
      rw [show vals 11 = .int .i64 ((l : Nat) : Int) from hV 11 (by simp [hdep])] at d16
      have d20 := hD.out 15 20 (by simp [hdep]) rfl
      rw [show vals 15 = .int .i64 ((l : Nat) : Int) from hV 15 (by simp [hdep])] at d20
      have d14 := hD.out 9 14 (by simp [hdep]) rfl
      rw [show vals 9 = .bool true from hV 9 (by simp [hdep])] at d14
      exact step_run' (wanted_open rfl rfl d14) (v := .bool true) (w' := w') (by go_simp) ⟨rfl, Below.refl _ _⟩
    · have d14 := hD.out 9 14 (by simp [hdep]) rfl
      rw [show vals 9 = .bool true from hV 9 (by simp [hdep])] at d14
      have d21 := hD.out 16 21 (by simp [hdep]) rfl
      rw [show vals 16 = .bool true from hV 16 (by simp [hdep])] at d21
      exact step_run rfl (v := .bool true) (w' := w') (by go_simp) ⟨rfl, Below.refl _ _⟩
    · have d22 := hD.out 17 22 (by simp [hdep]) rfl
      rw [show vals 17 = .bool true from hV 17 (by simp [hdep])] at d22
      exact step_run rfl (v := .bool true) (w' := w') (by go_simp) ⟨rfl, Below.refl _ _⟩
  · intro vals w' hJ hV
    have e0 : vals 0 = .pointer (some ⟨M, 0, none⟩) := hV 0 (by decide)
    have q1 := hV 1 (by decide)
    have e2 : vals 2 = .string ⟨X.toArray⟩ := hV 2 (by decide)
    have e3 : vals 3 = .pointer (some ⟨R, 0, none⟩) := hV 3 (by decide)
    have e4 : vals 4 = .pointer (some ⟨R, 0, none⟩) := hV 4 (by decide)
    have e5 : vals 5 = .pointer (some ⟨R, 0, none⟩) := hV 5 (by decide)
    have e6 : vals 6 = .slice p z c := hV 6 (by decide)
    have e7 : vals 7 = .string ⟨X.toArray⟩ := hV 7 (by decide)
    have e8 : vals 8 = .bool true := hV 8 (by decide)
    have e9 : vals 9 = .bool true := hV 9 (by decide)
    have e10 : vals 10 = .pointer (some ⟨M, 0, none⟩) := hV 10 (by decide)
    have e11 : vals 11 = .int .i64 ((l : Nat) : Int) := hV 11 (by decide)
    have e12 : vals 12 = .pointer (some ⟨R, 0, none⟩) := hV 12 (by decide)
    have e13 : vals 13 = .pointer (some ⟨R, 0, none⟩) := hV 13 (by decide)
    have e14 : vals 14 = .pointer (some ⟨R, 1, none⟩) := hV 14 (by decide)
    have e15 : vals 15 = .int .i64 ((l : Nat) : Int) := hV 15 (by decide)
    have e16 : vals 16 = .bool true := hV 16 (by decide)
    have e17 : vals 17 = .bool true := hV 17 (by decide)
    have e18 : vals 18 = .bool true := hV 18 (by decide)
    simp only [putsL, Act.put, List.setIfInBounds_toArray, List.set_cons_zero, List.set_cons_succ, e0, e2, e3, e4, e5, e6, e7, e8, e9, e10, e11, e12, e13, e14, e15, e16, e17, e18]
    clear e0 e2 e3 e4 e5 e6 e7 e8 e9 e10 e11 e12 e13 e14 e15 e16 e17 e18
    have HJ := Lib.hid hJ
    clear hJ hV
    generalize vals 1 = v1 at *
    go_wp2_with fail
    go_ret
    exact ⟨rfl, HJ.out⟩
end Go.Proofs.Ytbolmfpcddgpgaa
