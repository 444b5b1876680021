/-
  Layer medium: the reference's medium in memory, its Crash.
-/
import Derived.Test.YtbolmfpcddgpgaaMdKit
namespace Go.Proofs.Ytbolmfpcddgpgaa
open Go.RowKit Go.Gz

/-- the reference's medium at block R: its bytes, how many are loose. -/
structure RefAt (w : World) (R : Nat) (p : Option Addr) (c : Nat) (X : List UInt8) (l : Nat) : Prop where
  h0 : w.heap[R]? = some (.cells #[.slice p X.length c, .int .i64 (l : Nat)] 30 (0, 0))
  row : Row w .u8 p (nums X)
  le : X.length ≤ c
  pc : p = none → c = 0
namespace RefAt
variable {w : World} {R : Nat} {p : Option Addr} {c : Nat} {X : List UInt8} {l : Nat}
theorem lt (h : RefAt w R p c X l) : R < w.heap.size := (Array.getElem?_eq_some_iff.1 h.h0).1
theorem c0 (h : RefAt w R p c X l) : w.cell? ⟨R, 0, none⟩ = some (.slice p X.length c) := by simp [World.cell?, h.h0]
theorem c1 (h : RefAt w R p c X l) : w.cell? ⟨R, 1, none⟩ = some (.int .i64 (l : Nat)) := by simp [World.cell?, h.h0]
theorem f0 (h : RefAt w R p c X l) : w.frozen? ⟨R, 0, none⟩ = false := by simp [World.frozen?, h.h0]
theorem f1 (h : RefAt w R p c X l) : w.frozen? ⟨R, 1, none⟩ = false := by simp [World.frozen?, h.h0]
theorem kept {F : Nat → Prop} {w' : World} (h : RefAt w R p c X l) (hk : Kept F w w') (hR : ¬ F R) (hF : ∀ b, (p.map (·.block)) = some b → ¬ F b) : RefAt w' R p c X l :=
  ⟨(hk.block R h.lt hR).trans h.h0, h.row.kept hk hF, h.le, h.pc⟩
theorem drew (h : RefAt w R p c X l) : RefAt w.drew R p c X l := ⟨h.h0, h.row.drew, h.le, h.pc⟩
/-- both fields are set. -/
theorem set (h : RefAt w R p c X l) {w1 : World} (hk : Kept (fun k => k ≠ R) w w1) {p' : Option Addr} {c' : Nat} {X' : List UInt8} {l' n' : Nat} (hn : X'.length = n') (hr : Row w1 .u8 p' (nums X')) (hne : X' = [] ∨ (p'.map (·.block)) ≠ some R) (hle : n' ≤ c') (hpc : p' = none → c' = 0) :
    RefAt ((w1.setCell ⟨R, 0, none⟩ (.slice p' n' c')).setCell ⟨R, 1, none⟩ (.int .i64 (l' : Nat))) R p' c' X' l' := by
  subst hn
  have hM : w1.heap[R]? = _ := (hk.block R h.lt fun e => e rfl).trans h.h0
  have hk2 : Kept (fun k => k = R) w1 (w1.setCell ⟨R, 0, none⟩ (.slice p' X'.length c')) := Kept.set _ rfl
  have hk3 : Kept (fun k => k = R) (w1.setCell ⟨R, 0, none⟩ (.slice p' X'.length c')) ((w1.setCell ⟨R, 0, none⟩ (.slice p' X'.length c')).setCell ⟨R, 1, none⟩ (.int .i64 (l' : Nat))) := Kept.set _ rfl
  refine ⟨?_, ?_, hle, hpc⟩
  · simp only [World.setCell, Array.getElem?_modify, if_true, hM, Option.map_some]
    rfl
  · rcases hne with rfl | hne
    · exact Or.inl rfl
    · exact (hr.kept hk2 fun b hb e => hne (e ▸ hb)).kept hk3 fun b hb e => hne (e ▸ hb)
theorem zero (h : RefAt w R p c X l) (hR : (p.map (·.block)) ≠ some R) : RefAt (w.setCell ⟨R, 1, none⟩ (.int .i64 0)) R p c X 0 := by
  refine ⟨?_, h.row.kept (F := fun k => k = R) (Kept.set _ rfl) fun b hb e => hR (by rw [hb, e]), h.le, h.pc⟩
  simp only [World.setCell, Array.getElem?_modify, if_true, h.h0, Option.map_some]
  rfl
end RefAt

theorem row_take' {w : World} {p : Option Addr} {l : List UInt8} (h : Row w .u8 p (nums l)) (k : Nat) : Row w .u8 p (nums (l.take k)) := row_take h k

set_option maxHeartbeats 2000000 in
theorem refCrash_any {w : World} {R : Nat} {p : Option Addr} {c : Nat} {X : List UInt8} {l : Nat} (h : RefAt w R p c X l) (hl : l ≤ X.length) (hX : X.length ≤ 1000000) (hR : (p.map (·.block)) ≠ some R) (keep : Int) (k : Nat) (hk : min (max keep 0) (l : Int) = (k : Int)) :
    Calls Try.prog 19 #[.pointer (some ⟨R, 0, none⟩), .int .i64 keep] w fun e w' => e = .returned (.tuple #[]) ∧ RefAt w' R p c (X.take (X.length - l + k)) 0 ∧ Kept (fun b => b = R) w w' := by
  have c0 := h.c0
  have c1 := h.c1
  have f0 := h.f0
  have f1 := h.f1
  obtain ⟨n, hn⟩ : ∃ n, X.length = n := ⟨_, rfl⟩
  obtain ⟨z, hz⟩ : ∃ z : Nat, n - l + k = z := ⟨_, rfl⟩
  have hzl : (X.take z).length = z := by rw [List.length_take]; omega
  have hnl : (n : Int) - (l : Int) + (k : Int) = (z : Int) := by omega
  have hzn : (z : Int) ≤ (n : Int) := by omega
  have hnc : n ≤ c := by have := h.le; omega
  have HF := Lib.hid (show RefAt (((w.drew.setCell ⟨R, 0, none⟩ (.slice p z c))).setCell ⟨R, 1, none⟩ (.int .i64 ((0 : Nat) : Int))) R p c (X.take z) 0 ∧ Kept (fun b => b = R) w (((w.drew.setCell ⟨R, 0, none⟩ (.slice p z c))).setCell ⟨R, 1, none⟩ (.int .i64 ((0 : Nat) : Int))) from
    ⟨h.set (Kept.refl _ w).drew hzl (row_take h.row z).drew (Or.inr hR) (by omega) h.pc, ((Kept.refl _ w).drew.trans (Kept.set (F := fun k => k = R) (a := ⟨R, 0, none⟩) _ rfl) fun _ _ e => e).trans (Kept.set (F := fun k => k = R) (a := ⟨R, 1, none⟩) _ rfl) fun _ _ e => e⟩)
  have hnb : (n : Int) ≤ 1000000 := by omega
  rw [hn] at c0 hl ⊢
  rw [hz]
  have HH := Lib.hid (And.intro hzl (And.intro hn hz))
  clear h hX hzl hn hz hR
  go_enter Try.func19, Try.ntmps19
  go_wp2_with fail
  go_region
  go_wp2_with fail
  exact bodyPost_end (v := .tuple #[]) (by simp [results, Try.results19]) rfl ⟨rfl, HF.out⟩
end Go.Proofs.Ytbolmfpcddgpgaa
