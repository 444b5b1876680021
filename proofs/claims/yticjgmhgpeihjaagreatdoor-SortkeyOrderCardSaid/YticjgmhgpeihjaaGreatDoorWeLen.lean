/-
  Layer weigh: what is taken with a row from further on.
-/
import Derived.Test.YticjgmhgpeihjaaGreatDoorWeLong
import Derived.Deep.CutRange
namespace Go.Proofs.YticjgmhgpeihjaaGreatDoor
open Go.RowKit Go.Gz Go.Sort

/-! ### one block alone may turn -/
theorem but_trans {w w1 w2 : World} {b : Nat} (h : w.grownBy w1 (some b)) (k : w1.grownBy w2 (some b)) : w.grownBy w2 (some b) :=
  ⟨k.os.trans h.os, k.tape.trans h.tape, k.output.trans h.output, Nat.le_trans h.size k.size, fun j hj hne => (k.block j (Nat.lt_of_lt_of_le hj h.size) hne).trans (h.block j hj hne)⟩
theorem but_of {w w' : World} (h : Below w.heap.size w w') (b : Nat) : w.grownBy w' (some b) := ⟨h.os, h.tape, h.output, h.size, fun j hj _ => h.block j hj⟩
theorem but_set {w w1 : World} {b : Nat} (h : w.grownBy w1 (some b)) (a : Addr) (v : Value) (ha : a.block = b ∨ w.heap.size ≤ a.block) : w.grownBy (w1.setCell a v) (some b) := by
  refine ⟨h.os, h.tape, h.output, by simpa using h.size, fun j hj hne => ?_⟩
  rw [Below.heap_setCell _ _ _ _ (by rcases ha with rfl | ha; exact fun e => hne (by rw [e]); omega)]
  exact h.block j hj hne
theorem but_below {w w' : World} {b B : Nat} (h : w.grownBy w' (some b)) (hB : B ≤ b) (hs : B ≤ w.heap.size) : Below B w w' :=
  ⟨h.os, h.tape, h.output, h.size, fun k hk => h.block k (by omega) (by intro e; injection e with e; omega)⟩
theorem OwnE.but {w w' : World} {B b : Nat} {v : Value} {xs : List EL} (h : OwnE w B v xs) (hb : w.grownBy w' (some b)) (hB : b < B) : OwnE w' B v xs := by
  obtain ⟨h1, h2 | ⟨g, cap, cur, hv, hg, hh, hr⟩⟩ := h
  · exact ⟨h1, Or.inl h2⟩
  · exact ⟨h1, Or.inr ⟨g, cap, cur, hv, hg, (hb.block g (Array.getElem?_eq_some_iff.1 hh).1 (by intro e; injection e with e; omega)).trans hh, hr⟩⟩
theorem TX.kept {w w' : World} {b n B : Nat} {f : Nat → Int} {cls : Int → Int} {nx la : Nat → Nat} (h : TX w b n f cls nx la) (hb : Below B w w') (hB : b < B) : TX w' b n f cls nx la :=
  ⟨Nat.lt_of_lt_of_le h.lt hb.size, fun i hi => by rw [hb.cell (p := ⟨b, i * 4, none⟩) hB]; exact h.cr i hi, fun i hi => by rw [hb.cell (p := ⟨b, i * 4 + 1, none⟩) hB]; exact h.cc i hi, fun i hi => by rw [hb.cell (p := ⟨b, i * 4 + 2, none⟩) hB]; exact h.cn i hi, fun i hi => by rw [hb.cell (p := ⟨b, i * 4 + 3, none⟩) hB]; exact h.cl i hi, fun i hi => by rw [hb.frozen (p := ⟨b, i * 4 + 2, none⟩) hB]; exact h.wr i hi⟩

/-- two boxes of rows, at o and behind it. -/
structure LnW (W wr : World) (x : WR) : Prop where
  sz : W.heap.size + 2 ≤ wr.heap.size
  c0 : wr.cell? ⟨W.heap.size, 0, none⟩ = some (.slice x.op x.of.length x.oc)
  c1 : wr.cell? ⟨W.heap.size, 1, none⟩ = some (.slice x.tp x.to.length x.tc)
  g0 : wr.frozen? ⟨W.heap.size, 0, none⟩ = false
  g1 : wr.frozen? ⟨W.heap.size, 1, none⟩ = false
  r0 : ∃ v, wr.cell? ⟨W.heap.size + 1, 0, none⟩ = some v
  r1 : ∃ v, wr.cell? ⟨W.heap.size + 1, 1, none⟩ = some v
  s0 : wr.frozen? ⟨W.heap.size + 1, 0, none⟩ = false
  s1 : wr.frozen? ⟨W.heap.size + 1, 1, none⟩ = false
theorem LnW.below {W wr w' : World} {x : WR} (h : LnW W wr x) (hb : Below wr.heap.size wr w') : LnW W w' x := by
  have h0 : W.heap.size < wr.heap.size := by have := h.sz; omega
  have h1 : W.heap.size + 1 < wr.heap.size := by have := h.sz; omega
  exact ⟨Nat.le_trans h.sz hb.size, cell_below hb h.c0 h0, cell_below hb h.c1 h0, froz_below hb h.g0 h0, froz_below hb h.g1 h0, by obtain ⟨v, hv⟩ := h.r0; exact ⟨v, cell_below hb hv h1⟩, by obtain ⟨v, hv⟩ := h.r1; exact ⟨v, cell_below hb hv h1⟩, froz_below hb h.s0 h1, froz_below hb h.s1 h1⟩
theorem LnW.row {W wr : World} {x : WR} (y : WR) (h : LnW W wr x) : LnW W ((wr.setCell ⟨W.heap.size, 0, none⟩ (.slice y.op y.of.length y.oc)).setCell ⟨W.heap.size, 1, none⟩ (.slice y.tp y.to.length y.tc)) y := by
  have ot : ∀ j, ((wr.setCell ⟨W.heap.size, 0, none⟩ (.slice y.op y.of.length y.oc)).setCell ⟨W.heap.size, 1, none⟩ (.slice y.tp y.to.length y.tc)).cell? ⟨W.heap.size + 1, j, none⟩ = wr.cell? ⟨W.heap.size + 1, j, none⟩ := fun j => by
    rw [World.cell?_setCell_other _ _ _ _ (by intro e; injection e with e1 _; omega), World.cell?_setCell_other _ _ _ _ (by intro e; injection e with e1 _; omega)]
  have fz : ∀ a, ((wr.setCell ⟨W.heap.size, 0, none⟩ (.slice y.op y.of.length y.oc)).setCell ⟨W.heap.size, 1, none⟩ (.slice y.tp y.to.length y.tc)).frozen? a = wr.frozen? a := fun a => by rw [World.frozen?_setCell, World.frozen?_setCell]
  refine ⟨by simpa using h.sz, ?_, ?_, by rw [fz]; exact h.g0, by rw [fz]; exact h.g1, by rw [ot]; exact h.r0, by rw [ot]; exact h.r1, by rw [fz]; exact h.s0, by rw [fz]; exact h.s1⟩
  · rw [World.cell?_setCell_other _ _ _ _ (by intro e; injection e with _ e2; omega)]
    exact World.cell?_setCell_same' _ _ _ (by rw [h.c0]; rfl)
  · exact World.cell?_setCell_same' _ _ _ (by rw [World.cell?_setCell_other _ _ _ _ (by intro e; injection e with _ e2; omega), h.c1]; rfl)
theorem LnW.put {W wr : World} {x : WR} (h : LnW W wr x) (b o : Nat) (v : Value) (hb : b < W.heap.size) : LnW W (wr.setCell ⟨b, o, none⟩ v) x := by
  have ot : ∀ k j, b < k → (wr.setCell ⟨b, o, none⟩ v).cell? ⟨k, j, none⟩ = wr.cell? ⟨k, j, none⟩ := fun k j hk => World.cell?_setCell_other _ _ _ _ (by intro e; injection e with e1 _; omega)
  refine ⟨by simpa using h.sz, by rw [ot _ _ hb]; exact h.c0, by rw [ot _ _ hb]; exact h.c1, by rw [World.frozen?_setCell]; exact h.g0, by rw [World.frozen?_setCell]; exact h.g1, by rw [ot _ _ (by omega)]; exact h.r0, by rw [ot _ _ (by omega)]; exact h.r1, by rw [World.frozen?_setCell]; exact h.s0, by rw [World.frozen?_setCell]; exact h.s1⟩
/-- a row in a box of its own, g. -/
structure AtRow (wr wx : World) (g : Nat) (x : WR) : Prop where
  hb : Below wr.heap.size wr wx
  lt : wr.heap.size ≤ g
  c0 : wx.cell? ⟨g, 0, none⟩ = some (.slice x.op x.of.length x.oc)
  c1 : wx.cell? ⟨g, 1, none⟩ = some (.slice x.tp x.to.length x.tc)
theorem AtRow.new {wr w2 : World} (x : WR) (t : TypeId) (h : Below wr.heap.size wr w2) : AtRow wr (w2.alloc (.cells #[.slice x.op x.of.length x.oc, .slice x.tp x.to.length x.tc] t)) w2.heap.size x :=
  ⟨h.alloc h.size _, h.size, by rw [World.cell?_alloc_new]; rfl, by rw [World.cell?_alloc_new]; rfl⟩
theorem AtRow.old {wr w2 : World} {g : Nat} (x : WR) {v0 v1 : Value} (h : Below wr.heap.size wr w2) (hg : wr.heap.size ≤ g) (c0 : w2.cell? ⟨g, 0, none⟩ = some v0) (c1 : w2.cell? ⟨g, 1, none⟩ = some v1) : AtRow wr ((w2.setCell ⟨g, 0, none⟩ (.slice x.op x.of.length x.oc)).setCell ⟨g, 1, none⟩ (.slice x.tp x.to.length x.tc)) g x := by
  refine ⟨(h.setCell (p := ⟨g, 0, none⟩) hg _).setCell (p := ⟨g, 1, none⟩) hg _, hg, ?_, ?_⟩
  · rw [World.cell?_setCell_other _ _ _ _ (by intro e; injection e with _ e2; omega)]
    exact World.cell?_setCell_same' _ _ _ (by rw [c0]; rfl)
  · exact World.cell?_setCell_same' _ _ _ (by rw [World.cell?_setCell_other _ _ _ _ (by intro e; injection e with _ e2; omega), c1]; rfl)
end Go.Proofs.YticjgmhgpeihjaaGreatDoor
