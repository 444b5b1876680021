/-
  Layer medium: the law's 'do' of any deed.
-/
import Derived.Test.YtbolmfpcddgpgaaMdDeed
namespace Go.Proofs.Ytbolmfpcddgpgaa
open Go.RowKit Go.Gz

theorem Pair.mono {w : World} {B M R n n' : Nat} (h : Pair w B M R n) (hn : n ≤ n') : Pair w B M R n' := by
  obtain ⟨a, b, c, d, e, f, h1, h2⟩ := h
  exact ⟨a, b, c, d, e, f, h1, Nat.le_trans h2 hn⟩
theorem Pair.below {w w' : World} {B M R n : Nat} (h : Pair w B M R n) (hb : Below w.heap.size w w') : Pair w' B M R n := by
  obtain ⟨a, b, c, d, e, f, h1, h2⟩ := h
  exact ⟨a, b, c, d, e, f, h1.below hb, h2⟩
theorem Pair.hB {w : World} {B M R n : Nat} (h : Pair w B M R n) : B ≤ w.heap.size := by
  obtain ⟨_, _, _, _, _, _, h1, _⟩ := h
  exact h1.m.hB
theorem RetDo.mono {w : World} {B M R n n' : Nat} {e : Ending} {w' : World} (h : RetDo w B M R n e w') (hn : n ≤ n') : RetDo w B M R n' e w' := ⟨h.1, h.2.1.mono hn, h.2.2⟩

set_option maxHeartbeats 4000000 in
set_option maxRecDepth 100000 in
theorem do_none {w : World} {B M R n : Nat} (h : Pair w B M R n) (D N : Int) (z0 : (D == 0) = false) (z1 : (D == 1) = false) (z2 : (D == 2) = false) (z3 : (D == 3) = false) (z4 : (D == 4) = false) (z5 : (D == 5) = false) (z6 : (D == 6) = false) (z7 : (D == 7) = false) (m : Nat) (p : Option Addr) (c : Nat) :
    Calls Try.prog 10 #[.pointer (some ⟨M, 0, none⟩), .pointer (some ⟨R, 0, none⟩), deedV D N p m c] w (RetDo w B M R n) := by
  have hb0 : Below w.heap.size w (w.alloc (.cells #[.int .i64 D, .int .i64 N, .slice p m c] 33)) := (Below.refl _ _).alloc (Nat.le_refl _) _
  have HE := Lib.hid (show RetDo w B M R n (.returned (.tuple #[])) (w.alloc (.cells #[.int .i64 D, .int .i64 N, .slice p m c] 33)) from ⟨rfl, h.below hb0, hb0.mono h.hB⟩)
  clear h hb0
  unfold deedV
  go_enter Try.func10, Try.ntmps10
  go_wp2_with fail
  exact bodyPost_end (v := .tuple #[]) (by simp [results, Try.results10]) rfl HE.out

theorem do_any {w : World} {B M R n : Nat} (h : Pair w B M R n) (hn : n ≤ 100000) (D N : Int) (b : List UInt8) (m : Nat) (hm : b.length = m) (hbl : m ≤ 100000) (p : Option Addr) (c : Nat) (hp : ∀ w', Below B w w' → Row w' .u8 p (nums b)) (hpc : p = none → c = 0) :
    Calls Try.prog 10 #[.pointer (some ⟨M, 0, none⟩), .pointer (some ⟨R, 0, none⟩), deedV D N p m c] w (RetDo w B M R (n + m)) := by
  by_cases h0 : D = 0 ∨ D = 1 ∨ D = 2 ∨ D = 3
  · exact do_app h hn D N h0 b m hm hbl p c hp hpc
  · by_cases h4 : D = 4 ∨ D = 5
    · exact (do_sync h hn D N h4 m p c).mono fun _ _ h => h.mono (Nat.le_add_right _ _)
    · by_cases h6 : D = 6
      · subst h6
        exact (do_crash h hn N m p c).mono fun _ _ h => h.mono (Nat.le_add_right _ _)
      · by_cases h7 : D = 7
        · subst h7
          exact do_swap h hn N b m hm hbl p c hp hpc
        · have q : ∀ k : Int, D ≠ k → (D == k) = false := fun k hk => by simp [hk]
          exact (do_none h D N (q 0 (by omega)) (q 1 (by omega)) (q 2 (by omega)) (q 3 (by omega)) (q 4 (by omega)) (q 5 (by omega)) (q 6 (by omega)) (q 7 (by omega)) m p c).mono fun _ _ h => h.mono (Nat.le_add_right _ _)
end Go.Proofs.Ytbolmfpcddgpgaa
