/-
  Layer weigh: rowOf, with, within, which elements may not be.
-/
import Derived.Test.YticjgmhgpeihjaaGreatDoorWeFind
import Derived.Test.YticjgmhgpeihjaaGreatDoorLoApart
import Derived.Laws.MakeOwn
namespace Go.Proofs.YticjgmhgpeihjaaGreatDoor
open Go.RowKit Go.Gz Go.Sort

set_option maxHeartbeats 1000000 in
theorem rowOf_any (rs : List WR) (hr : RisingW rs) (p : Option Addr) (cap : Nat) (k : List Int) (q : Option Addr) (d : Nat) (W : World) (hl : Wrs W p rs) (hk : Row W .i32 q k) (hsz : rs.length < 1000000) (hkz : k.length < 1000000) (hof : ∀ x ∈ rs, x.of.length ≤ 9223372036854775807) :
    Calls Tryz.prog 67 #[.slice p rs.length cap, .slice q k.length d] W (RetRow W (fndL rs k) (isL rs k)) := by
  obtain ⟨W1, hW1⟩ : ∃ W1, W1 = W.alloc (.cells #[.slice none 0 0, .slice none 0 0] 47) := ⟨_, rfl⟩
  have hb0 := Lib.hid (show Below W.heap.size W W1 from hW1 ▸ (Below.refl _ _).alloc (Nat.le_refl _) _)
  have hc := Lib.hid (findW_any rs hr p cap k q d W1 (hl.below hb0.out) (hk.below hb0.out) hsz hkz hof)
  have hs0 : W.heap.size < W1.heap.size := by rw [hW1]; simp
  have f0 : W1.cell? ⟨W.heap.size, 0, none⟩ = some (.slice none 0 0) := by rw [hW1]; simp
  have f1 : W1.cell? ⟨W.heap.size, 1, none⟩ = some (.slice none 0 0) := by rw [hW1]; simp
  have g0 : W1.frozen? ⟨W.heap.size, 0, none⟩ = false := by rw [hW1]; simp
  have g1 : W1.frozen? ⟨W.heap.size, 1, none⟩ = false := by rw [hW1]; simp
  have hat := Lib.hid (fnd_at hl k)
  clear hl hk hr hof
  obtain ⟨x, hx⟩ : ∃ x, fndL rs k = x := ⟨_, rfl⟩
  obtain ⟨b, hb⟩ : ∃ b, isL rs k = b := ⟨_, rfl⟩
  rw [hx] at hat
  rw [hx, hb] at hc ⊢
  clear hx hb
  have HW := Lib.hid hW1; clear hW1
  go_enter Tryz.func67, Tryz.ntmps67
  go_wp2_with fail
  rw [← HW.out]
  refine hc.out.mono ?_
  rintro e w1 ⟨rfl, hb1, _⟩
  have f0' : w1.cell? ⟨W.heap.size, 0, none⟩ = some (.slice none 0 0) := by rw [hb1.cell (p := ⟨W.heap.size, 0, none⟩) hs0]; exact f0
  have f1' : w1.cell? ⟨W.heap.size, 1, none⟩ = some (.slice none 0 0) := by rw [hb1.cell (p := ⟨W.heap.size, 1, none⟩) hs0]; exact f1
  have g0' : w1.frozen? ⟨W.heap.size, 0, none⟩ = false := by rw [hb1.frozen (p := ⟨W.heap.size, 0, none⟩) hs0]; exact g0
  have g1' : w1.frozen? ⟨W.heap.size, 1, none⟩ = false := by rw [hb1.frozen (p := ⟨W.heap.size, 1, none⟩) hs0]; exact g1
  have HB1 := Lib.hid (hb0.out.trans (hb1.mono hb0.out.size))
  clear f0 f1 g0 g1 hb1
  go_wp2_with fail
  obtain ⟨w2, hw2⟩ : ∃ w2, (w1.setCell ⟨W.heap.size, 0, none⟩ (.slice x.op x.of.length x.oc)).setCell ⟨W.heap.size, 1, none⟩ (.slice x.tp x.to.length x.tc) = w2 := ⟨_, rfl⟩
  have p0 : w2.cell? ⟨W.heap.size, 0, none⟩ = some (.slice x.op x.of.length x.oc) := by rw [← hw2]; simp [go_sem, f0']
  have p1 : w2.cell? ⟨W.heap.size, 1, none⟩ = some (.slice x.tp x.to.length x.tc) := by rw [← hw2]; simp [go_sem, f1']
  have hb2 : Below W.heap.size W w2 := by rw [← hw2]; exact (HB1.out.setCell (p := ⟨W.heap.size, 0, none⟩) (Nat.le_refl _) _).setCell (p := ⟨W.heap.size, 1, none⟩) (Nat.le_refl _) _
  rw [hw2]
  refine bodyPost_ret (v := .tuple #[.agg #[.slice x.op x.of.length x.oc, .slice x.tp x.to.length x.tc], .bool b]) (by simp [results, Tryz.results67, go_sem, p0, p1]) rfl ?_
  exact ⟨rfl, hb2, hat.out⟩

theorem within_any (n m : Int) (w : World) : Calls Tryz.prog 48 #[.int .i64 n, .int .i64 m] w fun e w' => e = .returned (.bool (decide (0 ≤ n) && decide (n ≤ m))) ∧ w = w' := by
  by_cases h1 : 0 ≤ n
  · by_cases h2 : n ≤ m
    · rw [decide_eq_true h1, decide_eq_true h2]
      go_enter Tryz.func48, Tryz.ntmps48
      go_wp2
      go_ret
      exact ⟨rfl, rfl⟩
    · rw [decide_eq_true h1, decide_eq_false h2]
      go_enter Tryz.func48, Tryz.ntmps48
      go_wp2
      go_ret
      exact ⟨rfl, rfl⟩
  · rw [decide_eq_false h1]
    go_enter Tryz.func48, Tryz.ntmps48
    go_wp2
    go_ret
    exact ⟨rfl, rfl⟩
end Go.Proofs.YticjgmhgpeihjaaGreatDoor
