/-
  ParcelApart: the walk.
-/
import Derived.Test.YtbhojddakmgdmaaMg26
import Derived.Test.YtbhojddakmgdmaaMg25
import Derived.Test.YtbhojddakmgdmaaMg10
namespace Go.Proofs.Ytbhojddakmgdmaa
open Go.RowKit Go.Gz

theorem mixedPc : Try.prog.follows .mixedOrders = true := by kernel_rfl
theorem eq_ask (n : Nat) (a0 b0 a1 b1 a2 b2 a7 b7 : Int) (a3 b3 a4 b4 a5 b5 a6 b6 : ByteArray) (w : World) :
    (Op.equalIn (n + 2) 24 (.agg #[.int .i64 a0, .int .i64 a1, .int .i64 a2, .string a3, .string a4, .string a5, .string a6, .int .i64 a7]) (.agg #[.int .i64 b0, .int .i64 b1, .int .i64 b2, .string b3, .string b4, .string b5, .string b6, .int .i64 b7])).run Try.prog w = .ok (decide (a0 = b0) && (decide (a1 = b1) && (decide (a2 = b2) && (decide (a3.toList = b3.toList) && (decide (a4.toList = b4.toList) && (decide (a5.toList = b5.toList) && (decide (a6.toList = b6.toList) && (decide (a7 = b7))))))))) w := by
  by_cases h0 : a0 = b0
  · by_cases h1 : a1 = b1
    · by_cases h2 : a2 = b2
      · by_cases h3 : a3.toList = b3.toList
        · by_cases h4 : a4.toList = b4.toList
          · by_cases h5 : a5.toList = b5.toList
            · by_cases h6 : a6.toList = b6.toList
              · by_cases h7 : a7 = b7
                · simp [go_sem, h0, h1, h2, h3, h4, h5, h6, h7]
                · simp [go_sem, h0, h1, h2, h3, h4, h5, h6, h7]
              · simp [go_sem, h0, h1, h2, h3, h4, h5, h6]
            · simp [go_sem, h0, h1, h2, h3, h4, h5]
          · simp [go_sem, h0, h1, h2, h3, h4]
        · simp [go_sem, h0, h1, h2, h3]
      · simp [go_sem, h0, h1, h2]
    · simp [go_sem, h0, h1]
  · simp [go_sem, h0]
theorem box_at {w wr : World} {B g : Nat} {c : Array Value} {t : TypeId} (h : w.heap[g]? = some (.cells c t (0, 0))) (hg : g < B) (hb : Below B w wr) (i : Nat) : wr.cell? ⟨g, i, none⟩ = c[i]? := by
  rw [hb.cell (p := ⟨g, i, none⟩) hg]; exact cell_at h i
theorem three_boxes {w wr : World} {c1 c2 c3 : Array Value} {t1 t2 t3 : TypeId} (hb : Below (w.heap.size + 3) (((w.alloc (.cells c1 t1)).alloc (.cells c2 t2)).alloc (.cells c3 t3)) wr) : (∀ i, wr.cell? ⟨w.heap.size, i, none⟩ = c1[i]?) ∧ (∀ i, wr.cell? ⟨w.heap.size + 1, i, none⟩ = c2[i]?) ∧ (∀ i, wr.cell? ⟨w.heap.size + 2, i, none⟩ = c3[i]?) := by
  have z1 : (w.alloc (.cells c1 t1)).heap.size = w.heap.size + 1 := by simp
  have z2 : ((w.alloc (.cells c1 t1)).alloc (.cells c2 t2)).heap.size = w.heap.size + 2 := by simp
  have h3 : (((w.alloc (.cells c1 t1)).alloc (.cells c2 t2)).alloc (.cells c3 t3)).heap[w.heap.size + 2]? = some (.cells c3 t3 (0, 0)) := by
    have := new_block ((w.alloc (.cells c1 t1)).alloc (.cells c2 t2)) c3 t3
    rwa [z2] at this
  have hb2 : Below ((w.alloc (.cells c1 t1)).alloc (.cells c2 t2)).heap.size ((w.alloc (.cells c1 t1)).alloc (.cells c2 t2)) (((w.alloc (.cells c1 t1)).alloc (.cells c2 t2)).alloc (.cells c3 t3)) := (Below.refl _ _).alloc (Nat.le_refl _) _
  have hb1 : Below (w.alloc (.cells c1 t1)).heap.size (w.alloc (.cells c1 t1)) ((w.alloc (.cells c1 t1)).alloc (.cells c2 t2)) := (Below.refl _ _).alloc (Nat.le_refl _) _
  have h2 : (((w.alloc (.cells c1 t1)).alloc (.cells c2 t2)).alloc (.cells c3 t3)).heap[w.heap.size + 1]? = some (.cells c2 t2 (0, 0)) := by
    rw [hb2.block (w.heap.size + 1) (by rw [z2]; omega)]
    have := new_block (w.alloc (.cells c1 t1)) c2 t2
    rwa [z1] at this
  have h1 : (((w.alloc (.cells c1 t1)).alloc (.cells c2 t2)).alloc (.cells c3 t3)).heap[w.heap.size]? = some (.cells c1 t1 (0, 0)) := by
    rw [hb2.block w.heap.size (by rw [z2]; omega), hb1.block w.heap.size (by rw [z1]; omega)]
    exact new_block _ _ _
  exact ⟨fun i => box_at h1 (by omega) hb i, fun i => box_at h2 (by omega) hb i, fun i => box_at h3 (by omega) hb i⟩
theorem own_low {w : World} {B B' : Nat} {e : TypeId} {k : IntKind} {v : Value} {xs : List Int} (h : Own w B e k v xs) (hB : B' ≤ B) : Own w B' e k v xs := by
  obtain ⟨h4, h5 | ⟨g, cap, cur, e, hg, r⟩⟩ := h
  · exact ⟨h4, Or.inl h5⟩
  · exact ⟨h4, Or.inr ⟨g, cap, cur, e, by omega, r⟩⟩
/-- what an own row reads. -/
theorem own_in {w : World} {B : Nat} {e : TypeId} {k : IntKind} {q : Option Addr} {N d : Nat} {xs : List Int} (h : Own w B e k (.slice q N d) xs) : Row w k q xs := by
  obtain ⟨_, _, he, _, _, h2⟩ := own_row h
  injection he with h3 _ h4
  subst h3 h4
  exact h2

end Go.Proofs.Ytbhojddakmgdmaa
