/-
  Layer grove: a tree as it lies in memory: its nodes are not changed once they are made.
-/
import Derived.Test.YtaghflionakhhaaRows2
import Derived.Test.YtaghflionakhhaaGvOrd
namespace Go.Proofs.Ytaghflionakhhaa
open Go.RowKit

section
variable {κ ν : Type} (eK : κ → Value) (eV : ν → Value)

/-- a tree in memory, its nodes in blocks of S: the key, the value, what is at its left and right, its levels, its items. -/
def TrS (S : Nat → Prop) (w : World) : Option Addr → GT κ ν → Prop
  | p, .nil => p = none
  | p, .node k v l r => ∃ b pl pr, p = some ⟨b, 0, none⟩ ∧ S b ∧ b < w.heap.size ∧ w.cell? ⟨b, 0, none⟩ = some (eK k) ∧ w.cell? ⟨b, 1, none⟩ = some (eV v) ∧
      w.cell? ⟨b, 2, none⟩ = some (.pointer pl) ∧ w.cell? ⟨b, 3, none⟩ = some (.pointer pr) ∧
      w.cell? ⟨b, 4, none⟩ = some (.int .i64 ((GT.node k v l r).deep : Nat)) ∧ w.cell? ⟨b, 5, none⟩ = some (.int .i64 ((GT.node k v l r).many : Nat)) ∧
      TrS S w pl l ∧ TrS S w pr r
end

variable {κ ν : Type} {eK : κ → Value} {eV : ν → Value}

theorem TrS.keep {S : Nat → Prop} {w W : World} (hs : w.heap.size ≤ W.heap.size) (hk : ∀ k, S k → k < w.heap.size → W.heap[k]? = w.heap[k]?) :
    ∀ {t : GT κ ν} {p : Option Addr}, TrS eK eV S w p t → TrS eK eV S W p t
  | .nil, _, h => h
  | .node _ _ _ _, _, ⟨b, pl, pr, e, hS, hb, c0, c1, c2, c3, c4, c5, hl, hr⟩ => by
    have hc : ∀ i, W.cell? ⟨b, i, none⟩ = w.cell? ⟨b, i, none⟩ := fun i => World.cell?_of_block (w := w) (hk b hS hb)
    exact ⟨b, pl, pr, e, hS, by omega, by rw [hc]; exact c0, by rw [hc]; exact c1, by rw [hc]; exact c2, by rw [hc]; exact c3, by rw [hc]; exact c4, by rw [hc]; exact c5, hl.keep hs hk, hr.keep hs hk⟩

theorem TrS.below {S : Nat → Prop} {w W : World} {t : GT κ ν} {p : Option Addr} (h : TrS eK eV S w p t) (hb : Below w.heap.size w W) : TrS eK eV S W p t :=
  h.keep hb.size fun k _ hk => hb.block k hk

theorem TrS.mono {S S' : Nat → Prop} {w : World} (hS : ∀ k, S k → k < w.heap.size → S' k) : ∀ {t : GT κ ν} {p : Option Addr}, TrS eK eV S w p t → TrS eK eV S' w p t
  | .nil, _, h => h
  | .node _ _ _ _, _, ⟨b, pl, pr, e, hb, hlt, c0, c1, c2, c3, c4, c5, hl, hr⟩ => ⟨b, pl, pr, e, hS b hb hlt, hlt, c0, c1, c2, c3, c4, c5, hl.mono hS, hr.mono hS⟩

/-- a node at block g. -/
structure NodeAt (eK : κ → Value) (eV : ν → Value) (S : Nat → Prop) (w : World) (g : Nat) (k : κ) (v : ν) (pl pr : Option Addr) (l r : GT κ ν) : Prop where
  hS : S g
  lt : g < w.heap.size
  c0 : w.cell? ⟨g, 0, none⟩ = some (eK k)
  c1 : w.cell? ⟨g, 1, none⟩ = some (eV v)
  c2 : w.cell? ⟨g, 2, none⟩ = some (.pointer pl)
  c3 : w.cell? ⟨g, 3, none⟩ = some (.pointer pr)
  c4 : w.cell? ⟨g, 4, none⟩ = some (.int .i64 ((GT.node k v l r).deep : Nat))
  c5 : w.cell? ⟨g, 5, none⟩ = some (.int .i64 ((GT.node k v l r).many : Nat))
  hl : TrS eK eV S w pl l
  hr : TrS eK eV S w pr r
theorem TrS.node {S : Nat → Prop} {w : World} {k : κ} {v : ν} {l r : GT κ ν} {p : Option Addr} (h : TrS eK eV S w p (.node k v l r)) : ∃ g pl pr, p = some ⟨g, 0, none⟩ ∧ NodeAt eK eV S w g k v pl pr l r := by
  obtain ⟨b, pl, pr, e, hb, hlt, c0, c1, c2, c3, c4, c5, hl, hr⟩ := h
  exact ⟨b, pl, pr, e, hb, hlt, c0, c1, c2, c3, c4, c5, hl, hr⟩
theorem NodeAt.tr {S : Nat → Prop} {w : World} {g : Nat} {k : κ} {v : ν} {pl pr : Option Addr} {l r : GT κ ν} (h : NodeAt eK eV S w g k v pl pr l r) : TrS eK eV S w (some ⟨g, 0, none⟩) (.node k v l r) :=
  ⟨g, pl, pr, rfl, h.hS, h.lt, h.c0, h.c1, h.c2, h.c3, h.c4, h.c5, h.hl, h.hr⟩
theorem NodeAt.keep {S : Nat → Prop} {w W : World} {g : Nat} {k : κ} {v : ν} {pl pr : Option Addr} {l r : GT κ ν} (h : NodeAt eK eV S w g k v pl pr l r) (hs : w.heap.size ≤ W.heap.size) (hk : ∀ k, S k → k < w.heap.size → W.heap[k]? = w.heap[k]?) : NodeAt eK eV S W g k v pl pr l r := by
  have hc : ∀ i, W.cell? ⟨g, i, none⟩ = w.cell? ⟨g, i, none⟩ := fun i => World.cell?_of_block (w := w) (hk g h.hS h.lt)
  exact ⟨h.hS, by have := h.lt; omega, by rw [hc]; exact h.c0, by rw [hc]; exact h.c1, by rw [hc]; exact h.c2, by rw [hc]; exact h.c3, by rw [hc]; exact h.c4, by rw [hc]; exact h.c5, h.hl.keep hs hk, h.hr.keep hs hk⟩
theorem NodeAt.below {S : Nat → Prop} {w W : World} {g : Nat} {k : κ} {v : ν} {pl pr : Option Addr} {l r : GT κ ν} (h : NodeAt eK eV S w g k v pl pr l r) (hb : Below w.heap.size w W) : NodeAt eK eV S W g k v pl pr l r :=
  h.keep hb.size fun k _ hk => hb.block k hk

/-- the levels and the items of a tree, as the program reads them. -/
theorem TrS.nil {S : Nat → Prop} {w : World} : TrS eK eV S w none (.nil : GT κ ν) := rfl
theorem TrS.none_iff {S : Nat → Prop} {w : World} {t : GT κ ν} {p : Option Addr} (h : TrS eK eV S w p t) : p = none ↔ t = .nil := by
  cases t with
  | nil => exact ⟨fun _ => rfl, fun _ => h⟩
  | node k v l r => obtain ⟨b, pl, pr, e, _⟩ := h; exact ⟨fun f => by (rw [e] at f; cases f), fun f => by cases f⟩

/-- all is as it was but for block g. -/
structure Chg (g : Nat) (w w' : World) : Prop where
  os : w'.os = w.os
  tape : w'.tape = w.tape
  output : w'.output = w.output
  size : w.heap.size ≤ w'.heap.size
  block : ∀ k, k < w.heap.size → k ≠ g → w'.heap[k]? = w.heap[k]?

theorem Chg.of_below {g : Nat} {w w' : World} (h : Below w.heap.size w w') : Chg g w w' := ⟨h.os, h.tape, h.output, h.size, fun k hk _ => h.block k hk⟩
theorem Chg.trans {g : Nat} {a b c : World} (h : Chg g a b) (k : Chg g b c) : Chg g a c :=
  ⟨k.os.trans h.os, k.tape.trans h.tape, k.output.trans h.output, Nat.le_trans h.size k.size, fun i hi hg => (k.block i (by have := h.size; omega) hg).trans (h.block i hi hg)⟩
theorem Chg.set {g : Nat} {w : World} (o : Nat) (u : Value) : Chg g w (w.setCell ⟨g, o, none⟩ u) :=
  ⟨rfl, rfl, rfl, by simp [World.setCell], fun k _ hg => Below.heap_setCell _ _ _ _ hg⟩
theorem Chg.cell {g : Nat} {w w' : World} (h : Chg g w w') {b o : Nat} (hb : b < w.heap.size) (hg : b ≠ g) : w'.cell? ⟨b, o, none⟩ = w.cell? ⟨b, o, none⟩ := World.cell?_of_block (w := w) (h.block b hb hg)
theorem Chg.frozen {g : Nat} {w w' : World} (h : Chg g w w') {b o : Nat} (hb : b < w.heap.size) (hg : b ≠ g) : w'.frozen? ⟨b, o, none⟩ = w.frozen? ⟨b, o, none⟩ := World.frozen?_of_block (w := w) (h.block b hb hg)
theorem Chg.below {g B : Nat} {w w' : World} (h : Chg g w w') (hg : B ≤ g) (hB : B ≤ w.heap.size) : Below B w w' :=
  ⟨h.os, h.tape, h.output, h.size, fun k hk => h.block k (by omega) (by omega)⟩
theorem TrS.chg {S : Nat → Prop} {g : Nat} {w W : World} {t : GT κ ν} {p : Option Addr} (h : TrS eK eV S w p t) (hb : Chg g w W) (hg : ¬ S g) : TrS eK eV S W p t :=
  h.keep hb.size fun k hS hk => hb.block k hk fun e => hg (e ▸ hS)
/-- all is as it was but for two blocks. -/
structure Chg2 (g h : Nat) (w w' : World) : Prop where
  os : w'.os = w.os
  tape : w'.tape = w.tape
  output : w'.output = w.output
  size : w.heap.size ≤ w'.heap.size
  block : ∀ k, k < w.heap.size → k ≠ g → k ≠ h → w'.heap[k]? = w.heap[k]?
theorem Chg2.refl (g h : Nat) (w : World) : Chg2 g h w w := ⟨rfl, rfl, rfl, Nat.le_refl _, fun _ _ _ _ => rfl⟩
theorem Chg2.set1 {g h : Nat} {w x : World} (c : Chg2 g h w x) (u : Value) : Chg2 g h w (x.setCell ⟨g, 0, none⟩ u) :=
  ⟨c.os, c.tape, c.output, by have := c.size; simpa [World.setCell] using this, fun k hk h1 h2 => (Below.heap_setCell _ _ _ _ h1).trans (c.block k hk h1 h2)⟩
theorem Chg2.set2 {g h : Nat} {w x : World} (c : Chg2 g h w x) (u : Value) : Chg2 g h w (x.setCell ⟨h, 0, none⟩ u) :=
  ⟨c.os, c.tape, c.output, by have := c.size; simpa [World.setCell] using this, fun k hk h1 h2 => (Below.heap_setCell _ _ _ _ h2).trans (c.block k hk h1 h2)⟩
theorem TrS.chg2 {S : Nat → Prop} {g h : Nat} {w W : World} {t : GT κ ν} {p : Option Addr} (ht : TrS eK eV S w p t) (hb : Chg2 g h w W) (hg : ¬ S g) (hh : ¬ S h) : TrS eK eV S W p t :=
  ht.keep hb.size fun k hS hk => hb.block k hk (fun e => hg (e ▸ hS)) (fun e => hh (e ▸ hS))
theorem set_at {w : World} {b : Nat} {cs : Array Value} {t : TypeId} (h : w.heap[b]? = some (.cells cs t (0, 0))) (i : Nat) (u : Value) : (w.setCell ⟨b, i, none⟩ u).heap[b]? = some (.cells (cs.setIfInBounds i u) t (0, 0)) := by
  simp only [World.setCell, Array.getElem?_modify, if_true, h, Option.map_some]
  rfl
theorem cell_at {w : World} {b : Nat} {cs : Array Value} {t : TypeId} (h : w.heap[b]? = some (.cells cs t (0, 0))) (i : Nat) : w.cell? ⟨b, i, none⟩ = cs[i]? := by
  simp only [World.cell?, h]
  rfl
theorem frozen_at {w : World} {b : Nat} {cs : Array Value} {t : TypeId} (h : w.heap[b]? = some (.cells cs t (0, 0))) (i : Nat) : w.frozen? ⟨b, i, none⟩ = false := by
  simp [World.frozen?, h]
end Go.Proofs.Ytaghflionakhhaa
