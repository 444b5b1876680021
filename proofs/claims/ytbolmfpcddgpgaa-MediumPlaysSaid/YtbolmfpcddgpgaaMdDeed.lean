/-
  Layer medium: rows of deeds as they stand in memory; the laws' Small; 'do' whole.
-/
import Derived.Test.YtbolmfpcddgpgaaMdApp
import Derived.Test.YtbolmfpcddgpgaaMdAwake
namespace Go.Gz
/-- a deed: what is done, a number, bytes and where they stand. -/
structure DE where
  d : Int
  n : Int
  p : Option Addr
  b : List UInt8
  cap : Nat
deriving Inhabited
/-- how many bytes the first j deeds have. -/
def totD (ls : List DE) : Nat → Nat
  | 0 => 0
  | j + 1 => totD ls j + (ls[j]!).b.length
theorem totD_le (K : Nat) (ls : List DE) (h : ∀ x ∈ ls, x.b.length ≤ K) : ∀ j, j ≤ ls.length → totD ls j ≤ j * K
  | 0, _ => by simp [totD]
  | j + 1, hj => by
    have h1 := totD_le K ls h j (by omega)
    have h2 := h ls[j]! (by rw [getElem!_pos ls j hj]; exact List.getElem_mem hj)
    unfold totD
    rw [Nat.succ_mul]
    omega
theorem totD_mono (ls : List DE) : ∀ {j k : Nat}, j ≤ k → totD ls j ≤ totD ls k
  | j, 0, h => by obtain rfl : j = 0 := by omega
                  exact Nat.le_refl _
  | j, k + 1, h => by
    rcases Nat.lt_or_ge j (k + 1) with h1 | h1
    · have := totD_mono ls (j := j) (k := k) (by omega)
      unfold totD
      cases j with
      | zero => simp [totD]
      | succ j => simp only [totD] at this ⊢; omega
    · obtain rfl : j = k + 1 := by omega
      exact Nat.le_refl _
end Go.Gz
namespace Go.Proofs.Ytbolmfpcddgpgaa
open Go.RowKit Go.Gz

/-- a deed's bytes stand in w. -/
def BAt (w : World) (x : DE) : Prop := Row w .u8 x.p (nums x.b) ∧ x.b.length ≤ x.cap ∧ (x.p = none → x.cap = 0)
/-- slice pointer p reads in w as the deeds ls. -/
def Deeds (w : World) (p : Option Addr) (ls : List DE) : Prop :=
  ls = [] ∨ ∃ b off, p = some ⟨b, off, none⟩ ∧ b < w.heap.size ∧ ∀ j, j < ls.length →
    w.cell? ⟨b, off + j * 3, none⟩ = some (.int .i64 ls[j]!.d) ∧ w.cell? ⟨b, off + j * 3 + 1, none⟩ = some (.int .i64 ls[j]!.n) ∧ w.cell? ⟨b, off + j * 3 + 2, none⟩ = some (.slice ls[j]!.p ls[j]!.b.length ls[j]!.cap) ∧ BAt w ls[j]!
theorem Deeds.below {w w' : World} {p : Option Addr} {ls : List DE} (h : Deeds w p ls) (hb : Below w.heap.size w w') : Deeds w' p ls := by
  rcases h with h | ⟨b, off, hp, hlt, hc⟩
  · exact Or.inl h
  · refine Or.inr ⟨b, off, hp, Nat.lt_of_lt_of_le hlt hb.size, fun j hj => ?_⟩
    obtain ⟨h1, h2, h3, h4⟩ := hc j hj
    exact ⟨by rw [hb.cell (p := ⟨b, off + j * 3, none⟩) hlt]; exact h1, by rw [hb.cell (p := ⟨b, off + j * 3 + 1, none⟩) hlt]; exact h2, by rw [hb.cell (p := ⟨b, off + j * 3 + 2, none⟩) hlt]; exact h3, h4.1.below hb, h4.2⟩
theorem Deeds.at_ {w : World} {p : Option Addr} {ls : List DE} (h : Deeds w p ls) {j : Nat} (hj : j < ls.length) :
    ∃ b off, p = some ⟨b, off, none⟩ ∧ w.cell? ⟨b, off + j * 3, none⟩ = some (.int .i64 ls[j]!.d) ∧ w.cell? ⟨b, off + j * 3 + 1, none⟩ = some (.int .i64 ls[j]!.n) ∧ w.cell? ⟨b, off + j * 3 + 2, none⟩ = some (.slice ls[j]!.p ls[j]!.b.length ls[j]!.cap) ∧ BAt w ls[j]! := by
  rcases h with h' | ⟨b, off, hp, _, hc⟩
  · rw [h'] at hj; simp at hj
  · obtain ⟨h1, h2, h3, h4⟩ := hc j hj
    exact ⟨b, off, hp, h1, h2, h3, h4⟩

def RetSm (ls : List DE) (n : Nat) (w : World) (e : Ending) (w' : World) : Prop := ∃ r, e = .returned (.bool r) ∧ (r = true → n ≤ 200 ∧ totD ls n ≤ 5000) ∧ w = w'

set_option maxHeartbeats 4000000 in
set_option maxRecDepth 100000 in
theorem small_any (ls : List DE) (p : Option Addr) (c n : Nat) (hn : ls.length = n) (w : World) (h : Deeds w p ls) (K : Nat) (hK : K ≤ 140737488351232) (hx : ∀ x ∈ ls, x.b.length ≤ K) (hl : n ≤ 9223372036854775807) :
    Calls Try.prog 8 #[.slice p n c] w (RetSm ls n w) := by
  have HD := Lib.hid (And.intro h (And.intro hx hn))
  have HT := Lib.hid (fun j hj => totD_le K ls hx j hj)
  have HK := Lib.hid hK
  have HLn := Lib.hid hl
  clear h hx hn hK hl
  go_enter Try.func8, Try.ntmps8
  go_wp2_with fail
  go_loop [3, 4] (fun s i => ∃ (j : Nat) (z : Int), i = .int .i64 j ∧ s = .int .i64 z ∧ j ≤ n ∧ (j ≤ 200 → z = ((totD ls j : Nat) : Int))) (fun _ i => n - (intOf i).toNat)
  case atStart => exact ⟨0, 0, rfl, rfl, Nat.zero_le _, fun _ => rfl⟩
  case round =>
    obtain ⟨j, z, rfl, rfl, hj, hz⟩ := hrel
    by_cases hlt : j < n
    · obtain ⟨b, off, rfl, c0, c1, c2, -⟩ := HD.out.1.at_ (j := j) (by rw [HD.out.2.2]; exact hlt)
      have hjz : (j : Int) < (n : Int) := by omega
      have hstep : totD ls (j + 1) = totD ls j + ls[j]!.b.length := rfl
      have hl2 := HD.out.2.1 ls[j]! (by rw [getElem!_pos ls j (by rw [HD.out.2.2]; exact hlt)]; exact List.getElem_mem _)
      have hT := HT.out j (by rw [HD.out.2.2]; omega)
      obtain ⟨x, hx⟩ : ∃ x, ls[j]!.b.length = x := ⟨_, rfl⟩
      rw [hx] at c2 hstep hl2
      by_cases hj2 : j < 200
      · obtain rfl := hz (by omega)
        have HTz := Lib.hid (show totD ls j ≤ 200 * K from Nat.le_trans hT (Nat.mul_le_mul_right K (by omega)))
        obtain ⟨t, ht⟩ : ∃ t, totD ls j = t := ⟨_, rfl⟩
        have HS := Lib.hid hstep
        rw [ht] at HTz HS ⊢
        have hwr : IntKind.i64.wrap ((t : Int) + (x : Int)) = (t : Int) + (x : Int) := IntWalk.i64_in _ (by have := HTz.out; have := HK.out; omega)
        have hw1 : IntKind.i64.wrap ((j : Int) + 1) = (j : Int) + 1 := IntWalk.i64_in _ (by have := HLn.out; omega)
        clear hz hT hstep hl2 ht hx HTz
        go_wp2_with fail
        go_round
        case rel => exact ⟨j + 1, ((t + x : Nat) : Int), by go_num, rfl, by omega, fun _ => by rw [HS.out]⟩
        case measure => simp [intOf]; omega
      · have hw1 : IntKind.i64.wrap ((j : Int) + 1) = (j : Int) + 1 := IntWalk.i64_in _ (by have := HLn.out; omega)
        obtain ⟨y, hy⟩ : ∃ y, IntKind.i64.wrap (z + (x : Int)) = y := ⟨_, rfl⟩
        have HJ := Lib.hid hj2
        clear hz hT hstep hl2 hx hj2
        go_wp2_with fail
        go_round
        case rel => exact ⟨j + 1, y, by go_num, rfl, by omega, fun h => absurd h (by have := HJ.out; omega)⟩
        case measure => simp [intOf]; omega
    · have hjz : ¬ (j : Int) < (n : Int) := by omega
      obtain rfl : j = n := by omega
      by_cases h2 : j ≤ 200
      · have hz2 := hz h2
        subst hz2
        obtain ⟨t, ht⟩ : ∃ t, totD ls j = t := ⟨_, rfl⟩
        have HH := Lib.hid (And.intro h2 ht)
        rw [ht]
        have hz3 : (j : Int) ≤ 200 := by omega
        clear hz ht HT
        by_cases h5 : t ≤ 5000
        · have h5z : decide ((t : Int) ≤ 5000) = true := decide_eq_true (by omega)
          go_wp2_with fail
          go_ret
          exact ⟨true, rfl, fun _ => ⟨HH.out.1, by rw [HH.out.2]; exact h5⟩, rfl⟩
        · have h5z : decide ((t : Int) ≤ 5000) = false := decide_eq_false (by omega)
          go_wp2_with fail
          go_ret
          exact ⟨false, rfl, fun h => (by simp at h), rfl⟩
      · have hz3 : decide ((j : Int) ≤ 200) = false := decide_eq_false (by omega)
        clear hz HT
        go_wp2_with fail
        go_ret
        exact ⟨false, rfl, fun h => (by simp at h), rfl⟩
end Go.Proofs.Ytbolmfpcddgpgaa
