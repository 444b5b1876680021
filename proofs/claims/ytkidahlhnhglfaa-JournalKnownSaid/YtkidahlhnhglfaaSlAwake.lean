/-
  Layer seal: Open of a frame; the laws' awake.
-/
import Derived.Test.YtkidahlhnhglfaaSlOpen
namespace Go.Proofs.Ytkidahlhnhglfaa
open Go.RowKit Go.Gz

theorem open_frame (kind : UInt8) (l r : List UInt8) (hl : l.length ≤ 32768) (hr : r.length ≤ 900000) (n : Nat) (hn : n = 7 + l.length + r.length) (p : Option Addr) (cap : Nat) (w : World) (hp : Row w .u8 p (nums (frameL kind l ++ r))) (hcap : n ≤ cap) :
    Calls Try.prog 66 #[.slice p n cap] w fun e w' => ∃ v, e = .returned (.tuple #[.int .u8 kind.toNat, v, .int .i64 ((7 + l.length : Nat) : Int), .int .i64 0]) ∧ Own w' w.heap.size 5 .u8 v (nums l) ∧ Below w.heap.size w w' := by
  have e : (frameL kind l ++ r).length = n := by rw [List.length_append, frameL_length, hn]
  have := open_any (frameL kind l ++ r) (by omega) p cap w hp (by omega)
  rw [e] at this
  refine this.mono fun e w' ⟨hb, h⟩ => ?_
  rcases h with ⟨h, _⟩ | ⟨_, v, rfl, ho⟩
  · exact absurd (err_frame kind l r hl) h
  · rw [data_frame kind l r hl] at ho
    rw [many_frame kind l r hl, kind_frame kind l r]
    exact ⟨v, rfl, ho, hb⟩
theorem open_bad (b : List UInt8) (E : Nat) (he : errL b = E) (hE : E ≠ 0) (hb : b.length ≤ 1000000) (n : Nat) (hn : b.length = n) (p : Option Addr) (cap : Nat) (w : World) (hp : Row w .u8 p (nums b)) (hcap : n ≤ cap) :
    Calls Try.prog 66 #[.slice p n cap] w fun e w' => e = .returned (.tuple #[.int .u8 0, .slice none 0 0, .int .i64 0, .int .i64 E]) ∧ Below w.heap.size w w' := by
  subst hn
  have := open_any b hb p cap w hp hcap
  refine this.mono fun e w' ⟨hb, h⟩ => ?_
  rw [he] at h
  rcases h with ⟨_, h⟩ | ⟨h, _⟩
  · exact ⟨h, hb⟩
  · exact absurd h hE

/-- a cell of a row that the call owns. -/
theorem own_at {w : World} {B : Nat} {q : Option Addr} {n d : Nat} {l : List UInt8} (h : Own w B 5 .u8 (.slice q n d) (nums l)) {j : Nat} (hj : j < l.length) :
    ∃ g, q = some ⟨g, 0, none⟩ ∧ B ≤ g ∧ g < w.heap.size ∧ w.cell? ⟨g, j, none⟩ = some (.int .u8 ((l.getD j 0).toNat : Int)) ∧ w.frozen? ⟨g, j, none⟩ = false := by
  obtain ⟨q', d', he, _, _, hrow⟩ := own_row h
  injection he with h1 h2 h3
  subst h1 h2 h3
  obtain ⟨_, ⟨h2, h0⟩ | ⟨g, cap, cur, h2, hg, hh, _⟩⟩ := h
  · rw [nums_length] at h0; omega
  · injection h2 with h2 _ _
    subst h2
    obtain ⟨b, o, e, _, hc⟩ := byte_cell hrow (Below.refl _ _) hj
    injection e with e; injection e with e1 e2; subst e1; subst e2
    rw [Nat.zero_add] at hc
    refine ⟨g, rfl, hg, (Array.getElem?_eq_some_iff.1 hh).1, hc, ?_⟩
    simp [World.frozen?, hh]
theorem row_set {w : World} {g : Nat} {l : List UInt8} (h : Row w .u8 (some ⟨g, 0, none⟩) (nums l)) {j : Nat} (hj : j < l.length) (y : UInt8) : Row (w.setCell ⟨g, j, none⟩ (.int .u8 (y.toNat : Int))) .u8 (some ⟨g, 0, none⟩) (nums (l.set j y)) := by
  obtain ⟨b, o, e, hlt, hcj⟩ := byte_cell h (Below.refl _ _) hj
  injection e with e; injection e with e1 e2; subst e1; subst e2
  rw [Nat.zero_add] at hcj
  refine Or.inr ⟨g, 0, rfl, by simpa using hlt, fun i hi => ?_⟩
  rw [nums_length, List.length_set] at hi
  rw [nums_getD _ _ (by rw [List.length_set]; exact hi), Nat.zero_add]
  by_cases hij : i = j
  · subst hij
    have : (l.set i y).getD i 0 = y := by simp [List.getD, hi]
    rw [this]
    simp [go_sem, hcj]
  · rw [World.cell?_setCell_other _ _ _ _ (by intro e; injection e with _ e _; exact hij e.symm)]
    have : (l.set j y).getD i 0 = l.getD i 0 := by simp [List.getD, List.getElem?_set_ne (Ne.symm hij)]
    rw [this]
    obtain ⟨b, o, e, _, hc⟩ := byte_cell h (Below.refl _ _) hi
    injection e with e; injection e with e1 e2; subst e1; subst e2
    rw [Nat.zero_add] at hc
    exact hc

theorem u8_one : (((1 : UInt8).toNat : Nat) : Int) = 1 := by decide

end Go.Proofs.Ytkidahlhnhglfaa
