/-
  Plain mathematics of the merges of a stable sort in place: the insertion of one element, the step of a merge by rotation, blocks.
-/
import Derived.Test.YticjgmhgpeihjaaGreatDoorStabMath
namespace Go.Gz
open Go.Sort
variable {α : Type} [Inhabited α] {key : α → Int}

/-- the element at a has been moved to k, those between one place down. -/
def Up (a k : Nat) (d e : Array α) : Prop := e.size = d.size ∧ e[k]! = d[a]! ∧ (∀ x, a ≤ x → x < k → e[x]! = d[x + 1]!) ∧ ∀ x, x < a ∨ k < x → e[x]! = d[x]!
/-- the element at m has been moved to k, those between one place up. -/
def Dn (m k : Nat) (d e : Array α) : Prop := e.size = d.size ∧ e[k]! = d[m]! ∧ (∀ x, k < x → x ≤ m → e[x]! = d[x - 1]!) ∧ ∀ x, x < k ∨ m < x → e[x]! = d[x]!

theorem Up.refl (a : Nat) (d : Array α) : Up a a d d := ⟨rfl, rfl, fun x h1 h2 => by omega, fun _ _ => rfl⟩
theorem Dn.refl (m : Nat) (d : Array α) : Dn m m d d := ⟨rfl, rfl, fun x h1 h2 => by omega, fun _ _ => rfl⟩
theorem Up.step {a k : Nat} {d e : Array α} (h : Up a k d e) (hk : k + 1 < d.size) (hak : a ≤ k) : Up a (k + 1) d (swp e k (k + 1)) := by
  have g : ∀ z, (swp e k (k + 1))[z]! = if z = k + 1 then e[k]! else if z = k then e[k + 1]! else e[z]! := fun z => by rw [swp_get e (by rw [h.1]; omega) (by rw [h.1]; omega)]
  refine ⟨by rw [size_swp, h.1], by rw [g, if_pos rfl, h.2.1], fun x h1 h2 => ?_, fun x hx => ?_⟩
  · rw [g, if_neg (by omega)]
    by_cases e1 : x = k
    · rw [if_pos e1, h.2.2.2 (k + 1) (by omega), e1]
    · rw [if_neg e1, h.2.2.1 x h1 (by omega)]
  · rw [g, if_neg (by omega), if_neg (by omega), h.2.2.2 x (by omega)]
theorem Dn.step {m k : Nat} {d e : Array α} (h : Dn m (k + 1) d e) (hk : k + 1 < d.size) (hak : k + 1 ≤ m) : Dn m k d (swp e (k + 1) k) := by
  have g : ∀ z, (swp e (k + 1) k)[z]! = if z = k then e[k + 1]! else if z = k + 1 then e[k]! else e[z]! := fun z => by rw [swp_get e (by rw [h.1]; omega) (by rw [h.1]; omega)]
  refine ⟨by rw [size_swp, h.1], by rw [g, if_pos rfl, h.2.1], fun x h1 h2 => ?_, fun x hx => ?_⟩
  · rw [g, if_neg (by omega)]
    by_cases e1 : x = k + 1
    · rw [if_pos e1, h.2.2.2 k (by omega), e1]; rfl
    · rw [if_neg e1, h.2.2.1 x (by omega) h2]
  · rw [g, if_neg (by omega), if_neg (by omega), h.2.2.2 x (by omega)]

/-- one element ahead of a sorted row, put in where it belongs. -/
theorem up_done {a i b : Nat} {d e : Array α} (hai : a < i) (hib : i ≤ b) (hS : Srt key d (a + 1) b) (hlo : ∀ x, a + 1 ≤ x → x < i → key d[x]! < key d[a]!) (hhi : ∀ x, i ≤ x → x < b → key d[a]! ≤ key d[x]!)
    (hu : Up a (i - 1) d e) (hst : Stb key d e) : Done key a b d e := by
  obtain ⟨h1, h2, h3, h4⟩ := hu
  refine ⟨⟨h1, fun x hx => h4 x (by omega), fun x hx hx' => ?_⟩, hst, fun x y hx hxy hy => ?_⟩
  · by_cases c1 : x < i - 1
    · exact ⟨x + 1, by omega, by omega, h3 x hx c1⟩
    · by_cases c2 : x = i - 1
      · exact ⟨a, by omega, by omega, by rw [c2, h2]⟩
      · exact ⟨x, hx, hx', h4 x (by omega)⟩
  · by_cases c1 : x < i - 1
    · rw [h3 x hx c1]
      by_cases c2 : y < i - 1
      · rw [h3 y (by omega) c2]; exact hS _ _ (by omega) (by omega) (by omega)
      · have := hlo (x + 1) (by omega) (by omega)
        by_cases c3 : y = i - 1
        · rw [c3, h2]; omega
        · rw [h4 y (by omega)]; have := hhi y (by omega) hy; omega
    · by_cases c2 : x = i - 1
      · rw [c2, h2, h4 y (by omega)]; exact hhi y (by omega) hy
      · rw [h4 x (by omega), h4 y (by omega)]; exact hS x y (by omega) hxy hy

/-- one element behind a sorted row, put in where it belongs. -/
theorem dn_done {a i m : Nat} {d e : Array α} (hai : a ≤ i) (him : i ≤ m) (hS : Srt key d a m) (hlo : ∀ x, a ≤ x → x < i → key d[x]! ≤ key d[m]!) (hhi : ∀ x, i ≤ x → x < m → key d[m]! < key d[x]!)
    (hu : Dn m i d e) (hst : Stb key d e) : Done key a (m + 1) d e := by
  obtain ⟨h1, h2, h3, h4⟩ := hu
  refine ⟨⟨h1, fun x hx => h4 x (by omega), fun x hx hx' => ?_⟩, hst, fun x y hx hxy hy => ?_⟩
  · by_cases c1 : i < x
    · exact ⟨x - 1, by omega, by omega, h3 x c1 (by omega)⟩
    · by_cases c2 : x = i
      · exact ⟨m, by omega, by omega, by rw [c2, h2]⟩
      · exact ⟨x, hx, hx', h4 x (by omega)⟩
  · by_cases c1 : i < x
    · rw [h3 x c1 (by omega), h3 y (by omega) (by omega)]; exact hS _ _ (by omega) (by omega) (by omega)
    · by_cases c2 : x = i
      · rw [c2, h2, h3 y (by omega) (by omega)]; have := hhi (y - 1) (by omega) (by omega); omega
      · rw [h4 x (by omega)]
        by_cases c3 : y = i
        · rw [c3, h2]; exact hlo x hx (by omega)
        · by_cases c4 : i < y
          · rw [h3 y c4 (by omega)]; exact hS _ _ hx (by omega) (by omega)
          · rw [h4 y (by omega)]; exact hS _ _ hx hxy (by omega)

/-- a merge's step: what the search found, what the rotation laid. mid: where the two halves meet; s, t: the first place of the left row, of the right one, that goes to the second half. -/
structure Step (key : α → Int) (a s mid t b : Nat) (e : Array α) : Prop where
  left : Srt key e a s
  left' : Srt key e s mid
  right : Srt key e mid t
  right' : Srt key e t b
  low : ∀ x y, a ≤ x → x < mid → mid ≤ y → y < b → key e[x]! ≤ key e[y]!

/-- the search's end: the first s of the left row go to the left half; of each place x of the left row the place p - x of the right row. -/
structure Found (key : α → Int) (d : Array α) (a m b mid s : Nat) : Prop where
  ge : a ≤ s
  le : s ≤ m
  mid1 : s ≤ mid
  eb : mid + m ≤ b + s
  lo : ∀ x, a ≤ x → x < s → mid + m ≤ b + x → key d[x]! ≤ key d[mid + m - 1 - x]!
  hi : ∀ x, s ≤ x → x < m → x < mid → key d[mid + m - 1 - x]! < key d[x]!

theorem Found.step {a m b mid s : Nat} {d e : Array α} (f : Found key d a m b mid s) (hb : b ≤ d.size) (hm : m ≤ b) (h1 : Srt key d a m) (h2 : Srt key d m b) (hr : Rot s m (mid + m - s) d e) :
    Stb key d e ∧ Chg a b d e ∧ Step key a s mid (mid + m - s) b e := by
  obtain ⟨ge, le, mid1, eb, lo, hi⟩ := f
  have hs : s + (mid + m - s - m) = mid := by omega
  -- what of the right row comes ahead is below what of the left row stays behind
  have hlt : ∀ i j, s ≤ i → i < m → m ≤ j → j < mid + m - s → key d[j]! < key d[i]! := fun i j i1 i2 j1 j2 => by
    have k1 : key d[mid + m - 1 - s]! < key d[s]! := hi s (by omega) (by omega) (by omega)
    have k2 : key d[j]! ≤ key d[mid + m - 1 - s]! := by
      by_cases c : j = mid + m - 1 - s
      · rw [c]; omega
      · exact h2 _ _ j1 (by omega) (by omega)
    have k3 : key d[s]! ≤ key d[i]! := by
      by_cases c : i = s
      · rw [c]; omega
      · exact h1 _ _ ge (by omega) i2
    omega
  obtain ⟨q1, q2⟩ := hr
  have A1 : ∀ x, x < s → e[x]! = d[x]! := fun x hx => (q2 x).1 (Or.inl hx)
  have B2 : ∀ x, mid + m - s ≤ x → e[x]! = d[x]! := fun x hx => (q2 x).1 (Or.inr hx)
  have B1 : ∀ x, s ≤ x → x < mid → e[x]! = d[x + (m - s)]! := fun x h1 h2 => (q2 x).2.1 h1 (by omega)
  have A2 : ∀ x, mid ≤ x → x < mid + m - s → e[x]! = d[x - (mid - s)]! := fun x h1 h2 => by
    rw [(q2 x).2.2 (by omega) h2]; congr 1; omega
  refine ⟨Rot.stb ⟨q1, q2⟩ (by omega) (by omega) (by omega) hlt, (Rot.chg ⟨q1, q2⟩ (by omega) (by omega)).wider ge (by omega), ?_⟩
  refine ⟨fun x y i1 i2 i3 => ?_, fun x y i1 i2 i3 => ?_, fun x y i1 i2 i3 => ?_, fun x y i1 i2 i3 => ?_, fun x y i1 i2 i3 i4 => ?_⟩
  · rw [A1 x (by omega), A1 y i3]; exact h1 x y i1 i2 (by omega)
  · rw [B1 x i1 (by omega), B1 y (by omega) i3]; exact h2 _ _ (by omega) (by omega) (by omega)
  · rw [A2 x i1 (by omega), A2 y (by omega) i3]; exact h1 _ _ (by omega) (by omega) (by omega)
  · rw [B2 x i1, B2 y (by omega)]; exact h2 _ _ (by omega) i2 i3
  · by_cases c1 : x < s
    · rw [A1 x c1]
      by_cases c2 : y < mid + m - s
      · rw [A2 y i3 c2]; exact h1 _ _ i1 (by omega) (by omega)
      · rw [B2 y (by omega)]
        have k1 : key d[s - 1]! ≤ key d[mid + m - 1 - (s - 1)]! := lo (s - 1) (by omega) (by omega) (by omega)
        have k2 : key d[x]! ≤ key d[s - 1]! := by
          by_cases c : x = s - 1
          · rw [c]; omega
          · exact h1 _ _ i1 (by omega) (by omega)
        have k3 : key d[mid + m - 1 - (s - 1)]! ≤ key d[y]! := by
          by_cases c : y = mid + m - 1 - (s - 1)
          · rw [← c]; omega
          · exact h2 _ _ (by omega) (by omega) i4
        omega
    · rw [B1 x (by omega) i2]
      by_cases c2 : y < mid + m - s
      · rw [A2 y i3 c2]
        have := hlt (y - (mid - s)) (x + (m - s)) (by omega) (by omega) (by omega) (by omega)
        omega
      · rw [B2 y (by omega)]; exact h2 _ _ (by omega) (by omega) i4

/-- the two halves merged each by itself: all is merged. -/
theorem Step.done {a s mid t b : Nat} {d e f g : Array α} (st : Step key a s mid t b e) (hs : Stb key d e) (hc : Chg a b d e) (h1 : Done key a mid e f) (h2 : Done key mid b f g) (ham : a ≤ mid) (hmb : mid ≤ b) : Done key a b d g := by
  obtain ⟨c1, s1, r1⟩ := h1
  obtain ⟨c2, s2, r2⟩ := h2
  refine ⟨(hc.trans (c1.wider (Nat.le_refl _) hmb)).trans (c2.wider ham (Nat.le_refl _)), (hs.trans s1).trans s2, fun x y i1 i2 i3 => ?_⟩
  by_cases k1 : y < mid
  · rw [c2.2.1 x (by omega), c2.2.1 y (by omega)]; exact r1 x y i1 i2 k1
  · by_cases k2 : mid ≤ x
    · exact r2 x y k2 i2 i3
    · rw [c2.2.1 x (by omega)]
      obtain ⟨x', x1, x2, ex⟩ := c1.2.2 x i1 (by omega)
      obtain ⟨y', y1, y2, ey⟩ := c2.2.2 y (by omega) i3
      rw [ex, ey, c1.2.1 y' (by omega)]
      exact st.low x' y' x1 x2 y1 y2
theorem done_of_srt {a b : Nat} {d : Array α} (h : Srt key d a b) : Done key a b d d := ⟨Chg.refl _ _ _, Stb.refl _, h⟩
theorem Done.srt_out {a b i j : Nat} {d e : Array α} (h : Done key a b d e) (hS : Srt key d i j) (ho : j ≤ a ∨ b ≤ i) : Srt key e i j := fun x y h1 h2 h3 => by
  rw [h.1.2.1 x (by omega), h.1.2.1 y (by omega)]; exact hS x y h1 h2 h3

/-! ### blocks -/
/-- sorted in blocks of bs, up to n; from the place at on. -/
def Blk (key : α → Int) (d : Array α) (bs n lo hi : Nat) : Prop := ∀ k, lo ≤ k → k < hi → Srt key d (k * bs) (min (k * bs + bs) n)

/-- a search's middle. -/
theorem half (i j : Nat) (h : i < j) : i ≤ (i + j) / 2 ∧ (i + j) / 2 < j := by omega
end Go.Gz
