/-
  Several texts in one: StabMath, StabMerge, StabSwap, StabCmp, StabIns, StabRot, StabPack, StabSym, StabAll.
-/
import Derived.Sort.LotA
import Derived.Test.YtcocmmndonlhkaaDoorChecked
import Derived.Shelf.SlSortCmp.KitK
import Derived.WalkKit
import Derived.Handy
import Derived.Below
import Derived.Lib.Hide
import Derived.BigRegion
import Derived.BigQuiet
import Derived.Deep.QuietTactic
import Derived.LoopTactic
import Derived.Deep.LoopGhost
import Derived.Sort.Grow
namespace Go.Gz
open Go.Sort
variable {α : Type} [Inhabited α] {key : α → Int}

/-- of each key the same elements in the same order. -/
def Stb (key : α → Int) (d d' : Array α) : Prop := ∀ c, d'.toList.filter (fun x => decide (key x = c)) = d.toList.filter (fun x => decide (key x = c))
def Srt (key : α → Int) (d : Array α) (a b : Nat) : Prop := ∀ i j, a ≤ i → i < j → j < b → key d[i]! ≤ key d[j]!
/-- from a up to b elements have changed places, nowhere else. -/
def Chg (a b : Nat) (d d' : Array α) : Prop :=
  d'.size = d.size ∧ (∀ i, i < a ∨ b ≤ i → d'[i]! = d[i]!) ∧ ∀ i, a ≤ i → i < b → ∃ j, a ≤ j ∧ j < b ∧ d'[i]! = d[j]!
def Done (key : α → Int) (a b : Nat) (d d' : Array α) : Prop := Chg a b d d' ∧ Stb key d d' ∧ Srt key d' a b

omit [Inhabited α] in
theorem Stb.refl (d : Array α) : Stb key d d := fun _ => rfl
omit [Inhabited α] in
theorem Stb.trans {d e f : Array α} (h : Stb key d e) (k : Stb key e f) : Stb key d f := fun c => (k c).trans (h c)
theorem Chg.refl (a b : Nat) (d : Array α) : Chg a b d d := ⟨rfl, fun _ _ => rfl, fun i h1 h2 => ⟨i, h1, h2, rfl⟩⟩
theorem Chg.trans {a b : Nat} {d e f : Array α} (h : Chg a b d e) (k : Chg a b e f) : Chg a b d f :=
  ⟨k.1.trans h.1, fun i hi => (k.2.1 i hi).trans (h.2.1 i hi), fun i h1 h2 => by
    obtain ⟨j, j1, j2, e1⟩ := k.2.2 i h1 h2
    obtain ⟨q, q1, q2, e2⟩ := h.2.2 j j1 j2
    exact ⟨q, q1, q2, e1.trans e2⟩⟩
theorem Chg.wider {a b a' b' : Nat} {d e : Array α} (h : Chg a b d e) (ha : a' ≤ a) (hb : b ≤ b') : Chg a' b' d e :=
  ⟨h.1, fun i hi => h.2.1 i (by omega), fun i h1 h2 => by
    by_cases hin : a ≤ i ∧ i < b
    · obtain ⟨j, j1, j2, e⟩ := h.2.2 i hin.1 hin.2
      exact ⟨j, by omega, by omega, e⟩
    · exact ⟨i, h1, h2, h.2.1 i (by omega)⟩⟩

theorem chg_swp {a b : Nat} (d : Array α) {i j : Nat} (hai : a ≤ i) (hib : i < b) (haj : a ≤ j) (hjb : j < b) (hb : b ≤ d.size) : Chg a b d (swp d i j) := by
  refine ⟨size_swp d i j, fun k hk => ?_, fun k h1 h2 => ?_⟩
  · rw [swp_get d (by omega) (by omega), if_neg (by omega), if_neg (by omega)]
  · rw [swp_get d (by omega) (by omega)]
    split
    · exact ⟨i, hai, hib, rfl⟩
    · split
      · exact ⟨j, haj, hjb, rfl⟩
      · exact ⟨k, h1, h2, rfl⟩

theorem toList_range (d : Array α) : d.toList = (List.range d.size).map (fun i => d[i]!) := by
  apply List.ext_getElem (by simp)
  intro i h1 h2
  simp at h1
  simp [h1]
def piece (d : Array α) (s n : Nat) : List α := (List.range' s n).map (fun i => d[i]!)
theorem piece_add (d : Array α) (s n m : Nat) : piece d s (n + m) = piece d s n ++ piece d (s + n) m := by
  unfold piece
  rw [← List.map_append, List.range'_append_1]
theorem toList_piece (d : Array α) : d.toList = piece d 0 d.size := by rw [toList_range, List.range_eq_range']; rfl
theorem piece_eq (d e : Array α) (s t n : Nat) (h : ∀ i, i < n → e[t + i]! = d[s + i]!) : piece e t n = piece d s n := by
  unfold piece
  apply List.ext_getElem (by simp)
  intro i h1 h2
  simp at h1
  simp [h i h1]
theorem mem_piece {d : Array α} {s n : Nat} {x : α} (h : x ∈ piece d s n) : ∃ i, s ≤ i ∧ i < s + n ∧ d[i]! = x := by
  obtain ⟨i, hi, e⟩ := List.mem_map.1 h
  have := List.mem_range'_1.1 hi
  exact ⟨i, this.1, this.2, e⟩

/-- the rotation of what stands from a up to m, and from m up to b. -/
def Rot (a m b : Nat) (d d' : Array α) : Prop :=
  d'.size = d.size ∧ ∀ x, (x < a ∨ b ≤ x → d'[x]! = d[x]!) ∧ (a ≤ x → x < a + (b - m) → d'[x]! = d[x + (m - a)]!) ∧ (a + (b - m) ≤ x → x < b → d'[x]! = d[x - (b - m)]!)

theorem Rot.refl_left {a b : Nat} (d : Array α) : Rot a a b d d :=
  ⟨rfl, fun x => ⟨fun _ => rfl, fun _ _ => by rw [Nat.sub_self, Nat.add_zero], fun h1 h2 => by omega⟩⟩
theorem Rot.refl_right {a b : Nat} (d : Array α) : Rot a b b d d :=
  ⟨rfl, fun x => ⟨fun _ => rfl, fun h1 h2 => by omega, fun h1 h2 => by rw [Nat.sub_self, Nat.sub_zero]⟩⟩

theorem Rot.chg {a m b : Nat} {d d' : Array α} (h : Rot a m b d d') (ham : a ≤ m) (hmb : m ≤ b) : Chg a b d d' :=
  ⟨h.1, fun i hi => (h.2 i).1 hi, fun i h1 h2 => by
    by_cases hx : i < a + (b - m)
    · exact ⟨_, by omega, by omega, (h.2 i).2.1 h1 hx⟩
    · exact ⟨_, by omega, by omega, (h.2 i).2.2 (by omega) h2⟩⟩

theorem Rot.stb {a m b : Nat} {d d' : Array α} (h : Rot a m b d d') (ham : a ≤ m) (hmb : m ≤ b) (hb : b ≤ d.size)
    (hlt : ∀ i j, a ≤ i → i < m → m ≤ j → j < b → key d[j]! < key d[i]!) : Stb key d d' := by
  intro c
  have e1 : d.toList = piece d 0 a ++ (piece d a (m - a) ++ (piece d m (b - m) ++ piece d b (d.size - b))) := by
    rw [toList_piece]
    have h1 := piece_add d 0 a (d.size - a)
    have h2 := piece_add d a (m - a) (d.size - m)
    have h3 := piece_add d m (b - m) (d.size - b)
    rw [Nat.zero_add] at h1
    rw [show a + (m - a) = m by omega] at h2
    rw [show m + (b - m) = b by omega] at h3
    rw [← h3, show b - m + (d.size - b) = d.size - m by omega, ← h2, show m - a + (d.size - m) = d.size - a by omega, ← h1, show a + (d.size - a) = d.size by omega]
  have e2 : d'.toList = piece d 0 a ++ (piece d m (b - m) ++ (piece d a (m - a) ++ piece d b (d.size - b))) := by
    rw [toList_piece, h.1]
    have h1 := piece_add d' 0 a (d.size - a)
    have h2 := piece_add d' a (b - m) (d.size - a - (b - m))
    have h3 := piece_add d' (a + (b - m)) (m - a) (d.size - b)
    rw [Nat.zero_add] at h1
    rw [show a + (b - m) + (m - a) = b by omega] at h3
    rw [show a + (d.size - a) = d.size by omega] at h1
    rw [show b - m + (d.size - a - (b - m)) = d.size - a by omega] at h2
    rw [show m - a + (d.size - b) = d.size - a - (b - m) by omega] at h3
    rw [h1, h2, h3]
    rw [piece_eq d d' 0 0 a (fun i hi => (h.2 _).1 (by omega)), piece_eq d d' m a (b - m) (fun i hi => by rw [(h.2 (a + i)).2.1 (by omega) (by omega)]; congr 1; omega),
      piece_eq d d' a (a + (b - m)) (m - a) (fun i hi => by rw [(h.2 _).2.2 (by omega) (by omega)]; congr 1; omega), piece_eq d d' b b (d.size - b) (fun i hi => (h.2 _).1 (by omega))]
  rw [e1, e2]
  simp only [List.filter_append]
  congr 1
  rw [← List.append_assoc, ← List.append_assoc]
  congr 1
  by_cases hA : (piece d a (m - a)).filter (fun x => decide (key x = c)) = []
  · rw [hA, List.append_nil, List.nil_append]
  · obtain ⟨x, hx⟩ := List.exists_mem_of_ne_nil _ hA
    obtain ⟨hx1, hx2⟩ := List.mem_filter.1 hx
    obtain ⟨i, i1, i2, rfl⟩ := mem_piece hx1
    have hc : key d[i]! = c := of_decide_eq_true hx2
    have hB : (piece d m (b - m)).filter (fun x => decide (key x = c)) = [] := by
      apply List.filter_eq_nil_iff.2
      intro y hy
      obtain ⟨j, j1, j2, rfl⟩ := mem_piece hy
      have := hlt i j i1 (by omega) j1 (by omega)
      simp
      omega
    rw [hB, List.append_nil, List.nil_append]

/-- an exchange of neighbours is a rotation. -/
theorem rot_swp (d : Array α) (k : Nat) (hk : k + 1 < d.size) : Rot k (k + 1) (k + 2) d (swp d k (k + 1)) ∧ Rot k (k + 1) (k + 2) d (swp d (k + 1) k) := by
  constructor
  · refine ⟨size_swp d _ _, fun x => ⟨fun hx => ?_, fun h1 h2 => ?_, fun h1 h2 => ?_⟩⟩
    · rw [swp_get d (by omega) (by omega), if_neg (by omega), if_neg (by omega)]
    · obtain rfl : x = k := by omega
      rw [swp_get d (by omega) (by omega), if_neg (by omega), if_pos rfl]; congr 1; omega
    · obtain rfl : x = k + 1 := by omega
      rw [swp_get d (by omega) (by omega), if_pos rfl]; congr 1; omega
  · refine ⟨size_swp d _ _, fun x => ⟨fun hx => ?_, fun h1 h2 => ?_, fun h1 h2 => ?_⟩⟩
    · rw [swp_get d (by omega) (by omega), if_neg (by omega), if_neg (by omega)]
    · obtain rfl : x = k := by omega
      rw [swp_get d (by omega) (by omega), if_pos rfl]; congr 1; omega
    · obtain rfl : x = k + 1 := by omega
      rw [swp_get d (by omega) (by omega), if_neg (by omega), if_pos rfl]; congr 1; omega

theorem stb_swp (d : Array α) (k : Nat) (hk : k + 1 < d.size) (hlt : key d[k + 1]! < key d[k]!) : Stb key d (swp d k (k + 1)) ∧ Stb key d (swp d (k + 1) k) := by
  obtain ⟨h1, h2⟩ := rot_swp d k hk
  have h : ∀ i j, k ≤ i → i < k + 1 → k + 1 ≤ j → j < k + 2 → key d[j]! < key d[i]! := fun i j a b c e => by
    obtain rfl : i = k := by omega
    obtain rfl : j = i + 1 := by omega
    exact hlt
  exact ⟨h1.stb (by omega) (by omega) (by omega) h, h2.stb (by omega) (by omega) (by omega) h⟩

/-! ### insertion -/
/-- sorted from a up to b, but for the element at j, which is no greater than those behind it. -/
def Srtx (key : α → Int) (d : Array α) (a b j : Nat) : Prop := ∀ x y, a ≤ x → x < y → y < b → y ≠ j → key d[x]! ≤ key d[y]!
theorem Srt.srtx {d : Array α} {a i : Nat} (h : Srt key d a i) : Srtx key d a (i + 1) i := fun x y h1 h2 h3 h4 => h x y h1 h2 (by omega)
theorem Srtx.start {d : Array α} {a b : Nat} (h : Srtx key d a b a) : Srt key d a b := fun x y h1 h2 h3 => h x y h1 h2 h3 (by omega)
theorem Srtx.stop {d : Array α} {a b j : Nat} (h : Srtx key d a b (j + 1)) (hj : a ≤ j) (hle : key d[j]! ≤ key d[j + 1]!) : Srt key d a b := fun x y h1 h2 h3 => by
  by_cases e : y = j + 1
  · subst e
    by_cases e2 : x = j
    · subst e2; exact hle
    · have := h x j h1 (by omega) (by omega) (by omega); omega
  · exact h x y h1 h2 h3 e
theorem Srtx.step {d : Array α} {a b j : Nat} (h : Srtx key d a b (j + 1)) (hj : a ≤ j) (hb : j + 1 < b) (hs : b ≤ d.size) (hlt : key d[j + 1]! < key d[j]!) : Srtx key (swp d (j + 1) j) a b j := fun x y h1 h2 h3 h4 => by
  have g : ∀ z, (swp d (j + 1) j)[z]! = if z = j then d[j + 1]! else if z = j + 1 then d[j]! else d[z]! := fun z => by rw [swp_get d (by omega) (by omega)]
  rw [g x, g y, if_neg h4]
  by_cases e : y = j + 1
  · rw [if_pos e]
    by_cases e2 : x = j
    · rw [if_pos e2]; omega
    · rw [if_neg e2, if_neg (by omega)]; exact h x j h1 (by omega) (by omega) (by omega)
  · rw [if_neg e]
    by_cases e2 : x = j
    · rw [if_pos e2]; exact h (j + 1) y (by omega) (by omega) h3 (by omega)
    · rw [if_neg e2]
      by_cases e3 : x = j + 1
      · rw [if_pos e3]; exact h j y (by omega) (by omega) h3 (by omega)
      · rw [if_neg e3]; exact h x y h1 h2 h3 (by omega)
end Go.Gz
namespace Go.Gz
open Go.Sort
variable {α : Type} [Inhabited α] {key : α → Int}

/-- the element at a has been moved to k, those between one place down. -/
def Up (a k : Nat) (d e : Array α) : Prop := e.size = d.size ∧ e[k]! = d[a]! ∧ (∀ x, a ≤ x → x < k → e[x]! = d[x + 1]!) ∧ ∀ x, x < a ∨ k < x → e[x]! = d[x]!
/-- the element at m has been moved to k, those between one place up. -/
def Dn (m k : Nat) (d e : Array α) : Prop := e.size = d.size ∧ e[k]! = d[m]! ∧ (∀ x, k < x → x ≤ m → e[x]! = d[x - 1]!) ∧ ∀ x, x < k ∨ m < x → e[x]! = d[x]!

theorem Up.refl (a : Nat) (d : Array α) : Up a a d d := ⟨rfl, rfl, fun x h1 h2 => by omega, fun _ _ => rfl⟩
theorem Dn.refl (m : Nat) (d : Array α) : Dn m m d d := ⟨rfl, rfl, fun x h1 h2 => by omega, fun _ _ => rfl⟩
theorem Up.step {a k : Nat} {d e : Array α} (h : Up a k d e) (hk : k + 1 < d.size) (hak : a ≤ k) : Up a (k + 1) d (swp e k (k + 1)) := by
  have g : ∀ z, (swp e k (k + 1))[z]! = if z = k + 1 then e[k]! else if z = k then e[k + 1]! else e[z]! := fun z => by rw [swp_get e (by rw [h.1]; omega) (by rw [h.1]; omega)]
  refine ⟨by rw [size_swp, h.1], by rw [g, if_pos rfl, h.2.1], fun x h1 h2 => ?_, fun x hx => ?_⟩
  · rw [g, if_neg (by omega)]
    by_cases e1 : x = k
    · rw [if_pos e1, h.2.2.2 (k + 1) (by omega), e1]
    · rw [if_neg e1, h.2.2.1 x h1 (by omega)]
  · rw [g, if_neg (by omega), if_neg (by omega), h.2.2.2 x (by omega)]
theorem Dn.step {m k : Nat} {d e : Array α} (h : Dn m (k + 1) d e) (hk : k + 1 < d.size) (hak : k + 1 ≤ m) : Dn m k d (swp e (k + 1) k) := by
  have g : ∀ z, (swp e (k + 1) k)[z]! = if z = k then e[k + 1]! else if z = k + 1 then e[k]! else e[z]! := fun z => by rw [swp_get e (by rw [h.1]; omega) (by rw [h.1]; omega)]
  refine ⟨by rw [size_swp, h.1], by rw [g, if_pos rfl, h.2.1], fun x h1 h2 => ?_, fun x hx => ?_⟩
  · rw [g, if_neg (by omega)]
    by_cases e1 : x = k + 1
    · rw [if_pos e1, h.2.2.2 k (by omega), e1]; rfl
    · rw [if_neg e1, h.2.2.1 x (by omega) h2]
  · rw [g, if_neg (by omega), if_neg (by omega), h.2.2.2 x (by omega)]

/-- one element ahead of a sorted row, put in where it belongs. -/
theorem up_done {a i b : Nat} {d e : Array α} (hai : a < i) (hib : i ≤ b) (hS : Srt key d (a + 1) b) (hlo : ∀ x, a + 1 ≤ x → x < i → key d[x]! < key d[a]!) (hhi : ∀ x, i ≤ x → x < b → key d[a]! ≤ key d[x]!)
    (hu : Up a (i - 1) d e) (hst : Stb key d e) : Done key a b d e := by
  obtain ⟨h1, h2, h3, h4⟩ := hu
  refine ⟨⟨h1, fun x hx => h4 x (by omega), fun x hx hx' => ?_⟩, hst, fun x y hx hxy hy => ?_⟩
  · by_cases c1 : x < i - 1
    · exact ⟨x + 1, by omega, by omega, h3 x hx c1⟩
    · by_cases c2 : x = i - 1
      · exact ⟨a, by omega, by omega, by rw [c2, h2]⟩
      · exact ⟨x, hx, hx', h4 x (by omega)⟩
  · by_cases c1 : x < i - 1
    · rw [h3 x hx c1]
      by_cases c2 : y < i - 1
      · rw [h3 y (by omega) c2]; exact hS _ _ (by omega) (by omega) (by omega)
      · have := hlo (x + 1) (by omega) (by omega)
        by_cases c3 : y = i - 1
        · rw [c3, h2]; omega
        · rw [h4 y (by omega)]; have := hhi y (by omega) hy; omega
    · by_cases c2 : x = i - 1
      · rw [c2, h2, h4 y (by omega)]; exact hhi y (by omega) hy
      · rw [h4 x (by omega), h4 y (by omega)]; exact hS x y (by omega) hxy hy

/-- one element behind a sorted row, put in where it belongs. -/
theorem dn_done {a i m : Nat} {d e : Array α} (hai : a ≤ i) (him : i ≤ m) (hS : Srt key d a m) (hlo : ∀ x, a ≤ x → x < i → key d[x]! ≤ key d[m]!) (hhi : ∀ x, i ≤ x → x < m → key d[m]! < key d[x]!)
    (hu : Dn m i d e) (hst : Stb key d e) : Done key a (m + 1) d e := by
  obtain ⟨h1, h2, h3, h4⟩ := hu
  refine ⟨⟨h1, fun x hx => h4 x (by omega), fun x hx hx' => ?_⟩, hst, fun x y hx hxy hy => ?_⟩
  · by_cases c1 : i < x
    · exact ⟨x - 1, by omega, by omega, h3 x c1 (by omega)⟩
    · by_cases c2 : x = i
      · exact ⟨m, by omega, by omega, by rw [c2, h2]⟩
      · exact ⟨x, hx, hx', h4 x (by omega)⟩
  · by_cases c1 : i < x
    · rw [h3 x c1 (by omega), h3 y (by omega) (by omega)]; exact hS _ _ (by omega) (by omega) (by omega)
    · by_cases c2 : x = i
      · rw [c2, h2, h3 y (by omega) (by omega)]; have := hhi (y - 1) (by omega) (by omega); omega
      · rw [h4 x (by omega)]
        by_cases c3 : y = i
        · rw [c3, h2]; exact hlo x hx (by omega)
        · by_cases c4 : i < y
          · rw [h3 y c4 (by omega)]; exact hS _ _ hx (by omega) (by omega)
          · rw [h4 y (by omega)]; exact hS _ _ hx hxy (by omega)

/-- a merge's step: what the search found, what the rotation laid. mid: where the two halves meet; s, t: the first place of the left row, of the right one, that goes to the second half. -/
structure Step (key : α → Int) (a s mid t b : Nat) (e : Array α) : Prop where
  left : Srt key e a s
  left' : Srt key e s mid
  right : Srt key e mid t
  right' : Srt key e t b
  low : ∀ x y, a ≤ x → x < mid → mid ≤ y → y < b → key e[x]! ≤ key e[y]!

/-- the search's end: the first s of the left row go to the left half; of each place x of the left row the place p - x of the right row. -/
structure Found (key : α → Int) (d : Array α) (a m b mid s : Nat) : Prop where
  ge : a ≤ s
  le : s ≤ m
  mid1 : s ≤ mid
  eb : mid + m ≤ b + s
  lo : ∀ x, a ≤ x → x < s → mid + m ≤ b + x → key d[x]! ≤ key d[mid + m - 1 - x]!
  hi : ∀ x, s ≤ x → x < m → x < mid → key d[mid + m - 1 - x]! < key d[x]!

theorem Found.step {a m b mid s : Nat} {d e : Array α} (f : Found key d a m b mid s) (hb : b ≤ d.size) (hm : m ≤ b) (h1 : Srt key d a m) (h2 : Srt key d m b) (hr : Rot s m (mid + m - s) d e) :
    Stb key d e ∧ Chg a b d e ∧ Step key a s mid (mid + m - s) b e := by
  obtain ⟨ge, le, mid1, eb, lo, hi⟩ := f
  have hs : s + (mid + m - s - m) = mid := by omega
  -- what of the right row comes ahead is below what of the left row stays behind
  have hlt : ∀ i j, s ≤ i → i < m → m ≤ j → j < mid + m - s → key d[j]! < key d[i]! := fun i j i1 i2 j1 j2 => by
    have k1 : key d[mid + m - 1 - s]! < key d[s]! := hi s (by omega) (by omega) (by omega)
    have k2 : key d[j]! ≤ key d[mid + m - 1 - s]! := by
      by_cases c : j = mid + m - 1 - s
      · rw [c]; omega
      · exact h2 _ _ j1 (by omega) (by omega)
    have k3 : key d[s]! ≤ key d[i]! := by
      by_cases c : i = s
      · rw [c]; omega
      · exact h1 _ _ ge (by omega) i2
    omega
  obtain ⟨q1, q2⟩ := hr
  have A1 : ∀ x, x < s → e[x]! = d[x]! := fun x hx => (q2 x).1 (Or.inl hx)
  have B2 : ∀ x, mid + m - s ≤ x → e[x]! = d[x]! := fun x hx => (q2 x).1 (Or.inr hx)
  have B1 : ∀ x, s ≤ x → x < mid → e[x]! = d[x + (m - s)]! := fun x h1 h2 => (q2 x).2.1 h1 (by omega)
  have A2 : ∀ x, mid ≤ x → x < mid + m - s → e[x]! = d[x - (mid - s)]! := fun x h1 h2 => by
    rw [(q2 x).2.2 (by omega) h2]; congr 1; omega
  refine ⟨Rot.stb ⟨q1, q2⟩ (by omega) (by omega) (by omega) hlt, (Rot.chg ⟨q1, q2⟩ (by omega) (by omega)).wider ge (by omega), ?_⟩
  refine ⟨fun x y i1 i2 i3 => ?_, fun x y i1 i2 i3 => ?_, fun x y i1 i2 i3 => ?_, fun x y i1 i2 i3 => ?_, fun x y i1 i2 i3 i4 => ?_⟩
  · rw [A1 x (by omega), A1 y i3]; exact h1 x y i1 i2 (by omega)
  · rw [B1 x i1 (by omega), B1 y (by omega) i3]; exact h2 _ _ (by omega) (by omega) (by omega)
  · rw [A2 x i1 (by omega), A2 y (by omega) i3]; exact h1 _ _ (by omega) (by omega) (by omega)
  · rw [B2 x i1, B2 y (by omega)]; exact h2 _ _ (by omega) i2 i3
  · by_cases c1 : x < s
    · rw [A1 x c1]
      by_cases c2 : y < mid + m - s
      · rw [A2 y i3 c2]; exact h1 _ _ i1 (by omega) (by omega)
      · rw [B2 y (by omega)]
        have k1 : key d[s - 1]! ≤ key d[mid + m - 1 - (s - 1)]! := lo (s - 1) (by omega) (by omega) (by omega)
        have k2 : key d[x]! ≤ key d[s - 1]! := by
          by_cases c : x = s - 1
          · rw [c]; omega
          · exact h1 _ _ i1 (by omega) (by omega)
        have k3 : key d[mid + m - 1 - (s - 1)]! ≤ key d[y]! := by
          by_cases c : y = mid + m - 1 - (s - 1)
          · rw [← c]; omega
          · exact h2 _ _ (by omega) (by omega) i4
        omega
    · rw [B1 x (by omega) i2]
      by_cases c2 : y < mid + m - s
      · rw [A2 y i3 c2]
        have := hlt (y - (mid - s)) (x + (m - s)) (by omega) (by omega) (by omega) (by omega)
        omega
      · rw [B2 y (by omega)]; exact h2 _ _ (by omega) (by omega) i4

/-- the two halves merged each by itself: all is merged. -/
theorem Step.done {a s mid t b : Nat} {d e f g : Array α} (st : Step key a s mid t b e) (hs : Stb key d e) (hc : Chg a b d e) (h1 : Done key a mid e f) (h2 : Done key mid b f g) (ham : a ≤ mid) (hmb : mid ≤ b) : Done key a b d g := by
  obtain ⟨c1, s1, r1⟩ := h1
  obtain ⟨c2, s2, r2⟩ := h2
  refine ⟨(hc.trans (c1.wider (Nat.le_refl _) hmb)).trans (c2.wider ham (Nat.le_refl _)), (hs.trans s1).trans s2, fun x y i1 i2 i3 => ?_⟩
  by_cases k1 : y < mid
  · rw [c2.2.1 x (by omega), c2.2.1 y (by omega)]; exact r1 x y i1 i2 k1
  · by_cases k2 : mid ≤ x
    · exact r2 x y k2 i2 i3
    · rw [c2.2.1 x (by omega)]
      obtain ⟨x', x1, x2, ex⟩ := c1.2.2 x i1 (by omega)
      obtain ⟨y', y1, y2, ey⟩ := c2.2.2 y (by omega) i3
      rw [ex, ey, c1.2.1 y' (by omega)]
      exact st.low x' y' x1 x2 y1 y2
theorem done_of_srt {a b : Nat} {d : Array α} (h : Srt key d a b) : Done key a b d d := ⟨Chg.refl _ _ _, Stb.refl _, h⟩
theorem Done.srt_out {a b i j : Nat} {d e : Array α} (h : Done key a b d e) (hS : Srt key d i j) (ho : j ≤ a ∨ b ≤ i) : Srt key e i j := fun x y h1 h2 h3 => by
  rw [h.1.2.1 x (by omega), h.1.2.1 y (by omega)]; exact hS x y h1 h2 h3

/-! ### blocks -/
/-- sorted in blocks of bs, up to n; from the place at on. -/
def Blk (key : α → Int) (d : Array α) (bs n lo hi : Nat) : Prop := ∀ k, lo ≤ k → k < hi → Srt key d (k * bs) (min (k * bs + bs) n)

/-- a search's middle. -/
theorem half (i j : Nat) (h : i < j) : i ≤ (i + j) / 2 ∧ (i + j) / 2 < j := by omega
end Go.Gz
namespace Go.Proofs.YtcocmmndonlhkaaDoor
open Go.RowKit Go.Gz Go.Sort Go.Lib

/-- a rune with its class. -/
def encC (cls : Int → Int) (r : Int) : List Value := [.int .i32 r, .int .i64 (cls r)]

/-- n places from a on, n places from b on have changed places. -/
def Swd (a b n : Nat) (d d' : Array Int) : Prop :=
  d'.size = d.size ∧ ∀ x, (a ≤ x → x < a + n → d'[x]! = d[x + (b - a)]!) ∧ (b ≤ x → x < b + n → d'[x]! = d[x - (b - a)]!) ∧ (x < a ∨ (a + n ≤ x ∧ x < b) ∨ b + n ≤ x → d'[x]! = d[x]!)

theorem Swd.step {a b n : Nat} {d d' : Array Int} (h : Swd a b n d d') (hab : a + n < b) (hb : b + n < d.size) : Swd a b (n + 1) d (swp d' (a + n) (b + n)) := by
  obtain ⟨h1, h2⟩ := h
  have g : ∀ z, (swp d' (a + n) (b + n))[z]! = if z = b + n then d'[a + n]! else if z = a + n then d'[b + n]! else d'[z]! := fun z => by rw [swp_get d' (by omega) (by omega)]
  refine ⟨by rw [size_swp, h1], fun x => ⟨fun i1 i2 => ?_, fun i1 i2 => ?_, fun i => ?_⟩⟩
  · rw [g, if_neg (by omega)]
    by_cases c : x = a + n
    · rw [if_pos c, (h2 (b + n)).2.2 (by omega)]; congr 1; omega
    · rw [if_neg c]; exact (h2 x).1 i1 (by omega)
  · rw [g]
    by_cases c : x = b + n
    · rw [if_pos c, (h2 (a + n)).2.2 (by omega)]; congr 1; omega
    · rw [if_neg c, if_neg (by omega)]; exact (h2 x).2.1 i1 (by omega)
  · rw [g, if_neg (by omega), if_neg (by omega)]; exact (h2 x).2.2 (by omega)
theorem Swd.zero (a b : Nat) (d : Array Int) : Swd a b 0 d d := ⟨rfl, fun x => ⟨fun _ _ => by omega, fun _ _ => by omega, fun _ => rfl⟩⟩

/-- the two cells of the element at i. -/
theorem cells2 {cls : Int → Int} {w0 w : World} {blk off : Nat} {d0 dk : Array Int} (S : SWK (encC cls) 2 w0 blk off dk w) (R : RowK (encC cls) 2 w0 blk off d0) (hs : dk.size = d0.size) (i : Nat) (hi : i < dk.size) :
    (w.cell? ⟨blk, off + i * 2, none⟩ = some (.int .i32 dk[i]!) ∧ w.frozen? ⟨blk, off + i * 2, none⟩ = false) ∧ (w.cell? ⟨blk, off + i * 2 + 1, none⟩ = some (.int .i64 (cls dk[i]!)) ∧ w.frozen? ⟨blk, off + i * 2 + 1, none⟩ = false) := by
  have h := S.holds R.hblk R.hH hs
  have h0 := h.cell hi (show 0 < 2 by omega)
  have h1 := h.cell hi (show 1 < 2 by omega)
  rw [Nat.add_zero] at h0
  exact ⟨h0, h1⟩

/-- the exchange of two elements, as the walk leaves it. -/
theorem swapC {cls : Int → Int} {w0 w : World} {blk off : Nat} {d0 dk : Array Int} (S : SWK (encC cls) 2 w0 blk off dk w) (R : RowK (encC cls) 2 w0 blk off d0) (i j : Nat) (hi : i < dk.size) (hj : j < dk.size) :
    SWK (encC cls) 2 w0 blk off (swp dk i j) ((((w.setCell ⟨blk, off + i * 2, none⟩ (.int .i32 dk[j]!)).setCell ⟨blk, off + i * 2 + 1, none⟩ (.int .i64 (cls dk[j]!))).setCell ⟨blk, off + j * 2, none⟩ (.int .i32 dk[i]!)).setCell ⟨blk, off + j * 2 + 1, none⟩ (.int .i64 (cls dk[i]!))).drew :=
  S.swapped R i j hi hj

set_option maxHeartbeats 4000000 in
set_option maxRecDepth 1000000 in
theorem swapRange (cls : Int → Int) (fv : Value) (blk off cap a b n : Nat) (d0 d : Array Int) (w0 w : World)
    (R : RowK (encC cls) 2 w0 blk off d0) (hs : d0.size = d.size) (S : SWK (encC cls) 2 w0 blk off d w) (hab : a + n ≤ b) (hb : b + n ≤ d.size) (hsz : d.size < 1000000) :
    Calls Tryd.prog 103 #[.slice (some ⟨blk, off, none⟩) d.size cap, .int .i64 a, .int .i64 b, .int .i64 n, fv] w fun e w' => e = .returned (.tuple #[]) ∧ ∃ d', Swd a b n d d' ∧ SWK (encC cls) 2 w0 blk off d' w' := by
  have S0 := Lib.hid S; clear S
  go_enter Tryd.func103, Tryd.ntmps103
  go_wp2_with fail
  go_loopw [10] (fun i wr => ∃ (k : Nat) (dk : Array Int), k ≤ n ∧ i = .int .i64 k ∧ Swd a b k d dk ∧ Hid (SWK (encC cls) 2 w0 blk off dk wr)) (fun i _ => n - (intOf i).toNat)
  case atStart => exact ⟨0, d, Nat.zero_le _, rfl, Swd.zero _ _ _, S0⟩
  case round =>
    clear S0
    obtain ⟨k, dk, hk, rfl, hsw, S1⟩ := hrel
    have hdk := hsw.1
    have HSW := Lib.hid hsw; clear hsw
    by_cases hlt : k < n
    · have hltz : (k : Int) < (n : Int) := by omega
      have S2 := Lib.hid (swapC S1.out R (a + k) (b + k) (by omega) (by omega))
      obtain ⟨⟨p1, p2⟩, p3, p4⟩ := cells2 S1.out R (by omega) (a + k) (by omega)
      obtain ⟨⟨q1, q2⟩, q3, q4⟩ := cells2 S1.out R (by omega) (b + k) (by omega)
      generalize dk[a + k]! = xa at S2 p1 p3
      generalize dk[b + k]! = xb at S2 q1 q3
      generalize cls xa = ca at S2 p3
      generalize cls xb = cb at S2 q3
      have ea : ((a : Int) + (k : Int)).toNat = a + k := by omega
      have eb : ((b : Int) + (k : Int)).toNat = b + k := by omega
      have pa : (0 : Int) ≤ (a : Int) + (k : Int) := by omega
      have pb : (0 : Int) ≤ (b : Int) + (k : Int) := by omega
      have ba : (a : Int) + (k : Int) < (d.size : Int) := by omega
      have bb : (b : Int) + (k : Int) < (d.size : Int) := by omega
      have ra : IntKind.i64.wrap ((a : Int) + (k : Int)) = (a : Int) + (k : Int) := by rw [IntKind.wrap_i64]; omega
      have rb : IntKind.i64.wrap ((b : Int) + (k : Int)) = (b : Int) + (k : Int) := by rw [IntKind.wrap_i64]; omega
      clear S1
      go_wp2_with fail
      go_big_region
      go_wp2
      go_roundw
      case rel => exact ⟨k + 1, _, by omega, by go_num, HSW.out.step (by omega) (by omega), S2⟩
      case measure => simp [intOf]; omega
    · obtain rfl : k = n := by omega
      go_wp2
      go_end0
      exact ⟨rfl, dk, HSW.out, S1.out⟩
end Go.Proofs.YtcocmmndonlhkaaDoor
namespace Go.Proofs.YtcocmmndonlhkaaDoor
open Go.RowKit Go.Gz Go.Sort Go.Lib

def cmpI (x y : Int) : Int := if x < y then -1 else if y < x then 1 else 0

theorem isNaN_int (x : Int) (w : World) : Calls Tryd.prog 99 #[.int .i64 x] w fun e w' => e = .returned (.bool false) ∧ w = w' := by
  have hx : ((x : Int) != x) = false := by simp
  go_enter Tryd.func99, Tryd.ntmps99
  go_wp2
  go_ret
  exact ⟨rfl, rfl⟩

theorem compare_int (x y : Int) (w : World) : Calls Tryd.prog 93 #[.int .i64 x, .int .i64 y] w fun e w' => e = .returned (.int .i64 (cmpI x y)) ∧ w = w' := by
  unfold cmpI
  by_cases h1 : x < y
  · rw [if_pos h1]
    go_enter Tryd.func93, Tryd.ntmps93
    go_wp2_with (go_at_call 99; refine (isNaN_int _ _).mono ?_; rintro e w' ⟨rfl, rfl⟩)
    go_ret
    exact ⟨rfl, rfl⟩
  · rw [if_neg h1]
    by_cases h2 : y < x
    · rw [if_pos h2]
      go_enter Tryd.func93, Tryd.ntmps93
      go_wp2_with (go_at_call 99; refine (isNaN_int _ _).mono ?_; rintro e w' ⟨rfl, rfl⟩)
      go_ret
      exact ⟨rfl, rfl⟩
    · rw [if_neg h2]
      go_enter Tryd.func93, Tryd.ntmps93
      go_wp2_with (go_at_call 99; refine (isNaN_int _ _).mono ?_; rintro e w' ⟨rfl, rfl⟩)
      go_ret
      exact ⟨rfl, rfl⟩

theorem classOf_any (r c : Int) (w : World) : Calls Tryd.prog 85 #[.agg #[.int .i32 r, .int .i64 c]] w fun e w' => e = .returned (.int .i64 c) ∧ ∃ q os', w' = grow (w.drewN q) os' := by
  go_enter Tryd.func85, Tryd.ntmps85
  go_wp2
  go_ret
  exact ⟨rfl, 0, _, by rw [alloc_eq_grow]; rfl⟩

theorem mixed : Tryd.prog.follows .mixedOrders = true := by kernel_rfl

set_option maxHeartbeats 1000000 in
/-- the closure: cmp.Compare(of(a), of(b)), of captured in block B. -/
theorem by_any (x cx y cy : Int) (B : Nat) (w : World) (hB : B < w.heap.size) (hc : w.cell? ⟨B, 0, none⟩ = some (.func (.func 85) #[] #[])) :
    Calls Tryd.prog 92 #[.agg #[.int .i32 x, .int .i64 cx], .agg #[.int .i32 y, .int .i64 cy], .pointer (some ⟨B, 0, none⟩)] w fun e w' => e = .returned (.int .i64 (cmpI cx cy)) ∧ ∃ q os', w' = grow (w.drewN q) os' := by
  go_enter Tryd.func92, Tryd.ntmps92
  have mx := mixed
  go_wp2_with fail
  have hH := Lib.hid (show ∃ os, (w.alloc (.cells #[.int .i32 x, .int .i64 cx] 111)).alloc (.cells #[.int .i32 y, .int .i64 cy] 111) = grow (w.drewN 0) os from ⟨_, by rw [alloc_eq_grow, alloc_eq_grow, grow_grow]; rfl⟩)
  have b0 : B < ((w.alloc (.cells #[.int .i32 x, .int .i64 cx] 111)).alloc (.cells #[.int .i32 y, .int .i64 cy] 111)).heap.size := by simp; omega
  have b1 : w.heap.size < ((w.alloc (.cells #[.int .i32 x, .int .i64 cx] 111)).alloc (.cells #[.int .i32 y, .int .i64 cy] 111)).heap.size := by simp; try omega
  have b2 : w.heap.size + 1 < ((w.alloc (.cells #[.int .i32 x, .int .i64 cx] 111)).alloc (.cells #[.int .i32 y, .int .i64 cy] 111)).heap.size := by simp; try omega
  have c0 : ((w.alloc (.cells #[.int .i32 x, .int .i64 cx] 111)).alloc (.cells #[.int .i32 y, .int .i64 cy] 111)).cell? ⟨B, 0, none⟩ = some (.func (.func 85) #[] #[]) := by
    rw [World.cell?_alloc_lt _ _ ⟨B, 0, none⟩ (by simp; omega), World.cell?_alloc_lt _ _ ⟨B, 0, none⟩ hB]; exact hc
  have c1 : ((w.alloc (.cells #[.int .i32 x, .int .i64 cx] 111)).alloc (.cells #[.int .i32 y, .int .i64 cy] 111)).cell? ⟨w.heap.size, 0, none⟩ = some (.int .i32 x) := by simp
  have c2 : ((w.alloc (.cells #[.int .i32 x, .int .i64 cx] 111)).alloc (.cells #[.int .i32 y, .int .i64 cy] 111)).cell? ⟨w.heap.size, 1, none⟩ = some (.int .i64 cx) := by simp
  have c3 : ((w.alloc (.cells #[.int .i32 x, .int .i64 cx] 111)).alloc (.cells #[.int .i32 y, .int .i64 cy] 111)).cell? ⟨w.heap.size + 1, 0, none⟩ = some (.int .i32 y) := by simp
  have c4 : ((w.alloc (.cells #[.int .i32 x, .int .i64 cx] 111)).alloc (.cells #[.int .i32 y, .int .i64 cy] 111)).cell? ⟨w.heap.size + 1, 1, none⟩ = some (.int .i64 cy) := by simp
  generalize (w.alloc (.cells #[.int .i32 x, .int .i64 cx] 111)).alloc (.cells #[.int .i32 y, .int .i64 cy] 111) = wq at hH b0 b1 b2 c0 c1 c2 c3 c4 ⊢
  generalize w.heap.size = s at b1 b2 c1 c2 c3 c4 ⊢
  have f0 := cell_grown b0 c0
  have f1 := cell_grown b1 c1
  have f2 := cell_grown (a := ⟨s, 1, none⟩) b1 c2
  have f3 := cell_grown b2 c3
  have f4 := cell_grown (a := ⟨s + 1, 1, none⟩) b2 c4
  clear b0 b1 b2 c0 c1 c2 c3 c4 hc
  go_quiet_grown (first | (go_at_call 85; refine Calls.grown_of (classOf_any _ _ _)) | (go_at_call 93; refine Calls.grown_of ((compare_int _ _ _).mono fun _ _ h => ⟨h.1, 0, #[], by rw [grow_empty]; exact h.2.symm⟩)))
  go_wp2
  go_ret
  obtain ⟨os, hos⟩ := hH.out
  exact ⟨rfl, nq, os ++ osq, by rw [hos]; show grow (grow (w.drewN nq) os) osq = _; rw [grow_grow]⟩
end Go.Proofs.YtcocmmndonlhkaaDoor
namespace Go.Proofs.YtcocmmndonlhkaaDoor
open Go.RowKit Go.Gz Go.Sort Go.Lib

theorem cmpI_neg (x y : Int) : cmpI x y < 0 ↔ x < y := by
  unfold cmpI
  split
  · simp_all
  · split <;> simp_all

/-- the comparison's function value: the closure, of captured in block B. -/
abbrev cmpV (B : Nat) : Value := .func (.func 92) #[] #[.pointer (some ⟨B, 0, none⟩)]
structure CmpOK (w0 : World) (blk B : Nat) : Prop where
  lt : B < w0.heap.size
  ne : B ≠ blk
  cell : w0.cell? ⟨B, 0, none⟩ = some (.func (.func 85) #[] #[])

theorem swk_other {enc : Int → List Value} {k : Nat} {w0 W : World} {blk off : Nat} {dk : Array Int} (S : SWK enc k w0 blk off dk W) (a : Addr) (hne : a.block ≠ blk) (hlt : a.block < w0.heap.size) : W.cell? a = w0.cell? a := by
  obtain ⟨n, os, rfl⟩ := S
  unfold sortWorldK
  rw [cell?_grow _ _ _ (by rw [size_putRowK]; exact hlt), cell?_putRowK_other _ _ _ _ _ _ _ hne]
  rfl

/-- the comparison, in every world of the region's class. -/
theorem cmpK {cls : Int → Int} {w0 W : World} {blk off B : Nat} {dk : Array Int} (S : SWK (encC cls) 2 w0 blk off dk W) (C : CmpOK w0 blk B) (x y : Int) (n : Nat) (os : Array Obj) :
    Calls Tryd.prog 92 #[.agg #[.int .i32 x, .int .i64 (cls x)], .agg #[.int .i32 y, .int .i64 (cls y)], .pointer (some ⟨B, 0, none⟩)] (grow (W.drewN n) os) fun e w'' => e = .returned (.int .i64 (cmpI (cls x) (cls y))) ∧ ∃ p : GrownBy, w'' = grow (W.drewN p.n) p.os := by
  have h1 : W.cell? ⟨B, 0, none⟩ = some (.func (.func 85) #[] #[]) := (swk_other S ⟨B, 0, none⟩ C.ne C.lt).trans C.cell
  have h2 : B < W.heap.size := Nat.lt_of_lt_of_le C.lt S.le
  refine Calls.grown_of (by_any x (cls x) y (cls y) B _ ?_ (cell_grown h2 h1 n os))
  rw [size_grow]
  show B < W.heap.size + os.size
  omega

set_option maxHeartbeats 4000000 in
set_option maxRecDepth 1000000 in
theorem insertion (cls : Int → Int) (B blk off cap a b : Nat) (d0 d : Array Int) (w0 w : World) (R : RowK (encC cls) 2 w0 blk off d0) (C : CmpOK w0 blk B) (hs : d0.size = d.size)
    (S : SWK (encC cls) 2 w0 blk off d w) (hab : a ≤ b) (hb : b ≤ d.size) (hsz : d.size < 1000000) :
    Calls Tryd.prog 97 #[.slice (some ⟨blk, off, none⟩) d.size cap, .int .i64 a, .int .i64 b, cmpV B] w fun e w' => e = .returned (.tuple #[]) ∧ ∃ d', Done cls a b d d' ∧ SWK (encC cls) 2 w0 blk off d' w' := by
  have S0 := Lib.hid S; clear S
  have mx := mixed
  go_enter Tryd.func97, Tryd.ntmps97
  go_wp2_with fail
  go_loopg [8] (b - a) (fun g1 vi wr => ∃ (i : Nat) (dk : Array Int), vi = .int .i64 i ∧ a < i ∧ (i ≤ b ∨ i = a + 1) ∧ b + 1 - i ≤ g1 + 1 ∧ Hid (SWK (encC cls) 2 w0 blk off dk wr) ∧ Hid (Chg a b d dk) ∧ Hid (Stb cls d dk) ∧ Hid (Srt cls dk a i))
  case atStart => exact ⟨a + 1, d, by go_num, by omega, Or.inr rfl, by omega, S0, Lib.hid (Chg.refl _ _ _), Lib.hid (Stb.refl _), Lib.hid fun x y h1 h2 h3 => by omega⟩
  case round =>
    clear S0
    obtain ⟨i, dk, rfl, hai, hib, hg1, S1, HC, HT, HS⟩ := hrel
    by_cases hlt : i < b
    · have hltz : (i : Int) < (b : Int) := by omega
      go_wp2_with fail
      go_loopg [9] i (fun g2 vj wr2 => ∃ (j : Nat) (dj : Array Int), vj = .int .i64 j ∧ a ≤ j ∧ j ≤ i ∧ j ≤ g2 ∧ Hid (SWK (encC cls) 2 w0 blk off dj wr2) ∧ Hid (Chg a b d dj) ∧ Hid (Stb cls d dj) ∧ Hid (Srtx cls dj a (i + 1) j))
      case atStart => exact ⟨i, dk, rfl, by omega, Nat.le_refl _, Nat.le_refl _, S1, HC, HT, Lib.hid HS.out.srtx⟩
      case round =>
        clear S1 HC HT HS dk
        obtain ⟨j, dj, rfl, haj, hji, hg2, S2, HC, HT, HX⟩ := hrel
        have hsj := HC.out.1
        by_cases hja : a < j
        · obtain ⟨jp, rfl⟩ : ∃ jp, j = jp + 1 := ⟨j - 1, by omega⟩
          have hjaz : (a : Int) < (jp : Int) + 1 := by omega
          obtain ⟨⟨p1, p2⟩, p3, p4⟩ := cells2 S2.out R (by omega) (jp + 1) (by omega)
          obtain ⟨⟨q1, q2⟩, q3, q4⟩ := cells2 S2.out R (by omega) jp (by omega)
          have hblk := S2.out.lt R.hblk
          have f1 := cell_grown hblk p1
          have f2 := cell_grown (a := ⟨blk, off + (jp + 1) * 2 + 1, none⟩) hblk p3
          have f3 := cell_grown (a := ⟨blk, off + jp * 2, none⟩) hblk q1
          have f4 := cell_grown (a := ⟨blk, off + jp * 2 + 1, none⟩) hblk q3
          have hcmp := Lib.hid (cmpK S2.out C dj[jp + 1]! dj[jp]!)
          have jz : (jp : Int) + 1 < (d.size : Int) := by omega
          have jz1 : (jp : Int) < (d.size : Int) := by omega
          have p0 : (0 : Int) ≤ (jp : Int) + 1 := by omega
          have e0 : ((jp : Int) + 1).toNat = jp + 1 := by omega
          have hwp : IntKind.i64.wrap (jp : Int) = (jp : Int) := by rw [IntKind.wrap_i64]; omega
          clear p1 p2 p3 p4 q1 q2 q3 q4
          obtain ⟨xj, hxj⟩ : ∃ x, dj[jp + 1]! = x := ⟨_, rfl⟩
          obtain ⟨xp, hxp⟩ : ∃ x, dj[jp]! = x := ⟨_, rfl⟩
          rw [hxj] at f1 f2 hcmp
          rw [hxp] at f3 f4 hcmp
          have XJ := Lib.hid hxj; clear hxj
          have XP := Lib.hid hxp; clear hxp
          obtain ⟨cj, hcj⟩ : ∃ x, cls xj = x := ⟨_, rfl⟩
          obtain ⟨cp, hcp⟩ : ∃ x, cls xp = x := ⟨_, rfl⟩
          rw [hcj] at f2 hcmp
          rw [hcp] at f4 hcmp
          have CJ := Lib.hid hcj; clear hcj
          have CP := Lib.hid hcp; clear hcp
          by_cases hlv : cmpI cj cp < 0
          · go_wp2_with fail
            go_quiet_grown (first | (go_at_call 92; exact hcmp.out _ _))
            clear f1 f2 f3 f4
            go_wp2_with fail
            have S3 := Lib.hid (S2.out.grown nq osq)
            clear hcmp
            generalize grow (wr.drewN nq) osq = wq2 at S3 ⊢
            obtain ⟨⟨p1, p2⟩, p3, p4⟩ := cells2 S3.out R (by omega) (jp + 1) (by omega)
            obtain ⟨⟨q1, q2⟩, q3, q4⟩ := cells2 S3.out R (by omega) jp (by omega)
            have S4 := Lib.hid (swapC S3.out R (jp + 1) jp (by omega) (by omega))
            rw [XJ.out, CJ.out] at p3
            rw [XJ.out] at p1
            rw [XP.out, CP.out] at q3
            rw [XP.out] at q1
            rw [XJ.out, XP.out, CJ.out, CP.out] at S4
            go_big_region
            go_wp2
            go_roundg jp
            case measure => omega
            case rel =>
              have hk : cls dj[jp + 1]! < cls dj[jp]! := by rw [XJ.out, XP.out, CJ.out, CP.out]; exact (cmpI_neg _ _).1 hlv
              exact ⟨jp, swp dj (jp + 1) jp, by first | rfl | go_num, by omega, by omega, by omega, S4, Lib.hid (HC.out.trans (chg_swp dj (by omega) (by omega) (by omega) (by omega) (by omega))), Lib.hid (HT.out.trans (stb_swp dj jp (by omega) hk).2), Lib.hid (HX.out.step (by omega) (by omega) (by omega) hk)⟩
          · go_wp2_with fail
            go_quiet_grown (first | (go_at_call 92; exact hcmp.out _ _))
            have S3 := Lib.hid (S2.out.grown nq osq)
            clear hcmp f1 f2 f3 f4
            go_wp2
            go_roundg (b - (i + 1))
            case measure => omega
            case rel =>
              have hk : cls dj[jp]! ≤ cls dj[jp + 1]! := by rw [XJ.out, XP.out, CJ.out, CP.out]; have := mt (cmpI_neg cj cp).2 (by omega); omega
              exact ⟨i + 1, dj, by go_num, by omega, by omega, by omega, S3, HC, HT, Lib.hid (HX.out.stop (by omega) hk)⟩
        · obtain rfl : j = a := by omega
          have hjaz : decide ((j : Int) > (j : Int)) = false := decide_eq_false (by omega)
          have hjaz' : ¬ (j : Int) < (j : Int) := by omega
          have S3 := Lib.hid S2.out.drew
          go_wp2_with fail
          go_big_region
          all_goals go_wp2
          go_roundg (b - (i + 1))
          case measure => omega
          case rel => exact ⟨i + 1, dj, by go_num, by omega, by omega, by omega, S3, HC, HT, Lib.hid HX.out.start⟩
    · have hltz : ¬ (i : Int) < (b : Int) := by omega
      go_wp2
      go_end0
      exact ⟨rfl, dk, ⟨HC.out, HT.out, fun x y h1 h2 h3 => HS.out x y h1 h2 (by omega)⟩, S1.out⟩
end Go.Proofs.YtcocmmndonlhkaaDoor
namespace Go.Proofs.YtcocmmndonlhkaaDoor
open Go.RowKit Go.Gz Go.Sort Go.Lib

/-- what the rotation lays at x. -/
def rotT (a m b : Nat) (d : Array Int) (x : Nat) : Int := if x < a ∨ b ≤ x then d[x]! else if x < a + (b - m) then d[x + (m - a)]! else d[x - (b - m)]!
structure RotI (a m b : Nat) (d : Array Int) (i j : Nat) (e : Array Int) : Prop where
  size : e.size = d.size
  i1 : 1 ≤ i
  j1 : 1 ≤ j
  i2 : i ≤ m - a
  j2 : j ≤ b - m
  out : ∀ x, x < m - i ∨ m + j ≤ x → rotT a m b d x = e[x]!
  fst : ∀ x, m - i ≤ x → x < m - i + j → rotT a m b d x = e[x + i]!
  snd : ∀ x, m - i + j ≤ x → x < m + j → rotT a m b d x = e[x - j]!

theorem RotI.start (a m b : Nat) (d : Array Int) (h1 : a < m) (h2 : m < b) : RotI a m b d (m - a) (b - m) d :=
  ⟨rfl, by omega, by omega, Nat.le_refl _, Nat.le_refl _, fun x hx => by unfold rotT; rw [if_pos (by omega)], fun x i1 i2 => by unfold rotT; rw [if_neg (by omega), if_pos (by omega)],
    fun x i1 i2 => by unfold rotT; rw [if_neg (by omega), if_neg (by omega)]⟩

theorem RotI.gt {a m b i j : Nat} {d e f : Array Int} (h : RotI a m b d i j e) (hij : j < i) (ham : a ≤ m) (hs : Swd (m - i) m j e f) : RotI a m b d (i - j) j f := by
  obtain ⟨h1, i1, j1, i2, j2, out, fst, snd⟩ := h
  obtain ⟨s1, s2⟩ := hs
  refine ⟨s1.trans h1, by omega, j1, by omega, j2, fun x hx => ?_, fun x x1 x2 => ?_, fun x x1 x2 => ?_⟩
  · by_cases c : m - i ≤ x ∧ x < m - i + j
    · rw [fst x c.1 c.2, (s2 x).1 c.1 c.2]; congr 1; omega
    · rw [out x (by omega), (s2 x).2.2 (by omega)]
  · rw [snd x (by omega) (by omega)]
    by_cases c : x + (i - j) < m
    · omega
    · rw [(s2 (x + (i - j))).2.1 (by omega) (by omega)]; congr 1; omega
  · rw [snd x (by omega) (by omega)]
    rw [(s2 (x - j)).2.2 (by omega)]

theorem RotI.lt {a m b i j : Nat} {d e f : Array Int} (h : RotI a m b d i j e) (hij : i < j) (ham : a ≤ m) (hs : Swd (m - i) (m + j - i) i e f) : RotI a m b d i (j - i) f := by
  obtain ⟨h1, i1, j1, i2, j2, out, fst, snd⟩ := h
  obtain ⟨s1, s2⟩ := hs
  refine ⟨s1.trans h1, i1, by omega, i2, by omega, fun x hx => ?_, fun x x1 x2 => ?_, fun x x1 x2 => ?_⟩
  · by_cases c : m + j - i ≤ x ∧ x < m + j
    · rw [snd x (by omega) c.2, (s2 x).2.1 c.1 (by omega)]; congr 1; omega
    · rw [out x (by omega), (s2 x).2.2 (by omega)]
  · rw [fst x x1 (by omega), (s2 (x + i)).2.2 (by omega)]
  · rw [fst x (by omega) (by omega)]
    rw [(s2 (x - (j - i))).1 (by omega) (by omega)]; congr 1; omega

theorem RotI.done {a m b i : Nat} {d e f : Array Int} (h : RotI a m b d i i e) (ham : a ≤ m) (hs : Swd (m - i) m i e f) : Rot a m b d f := by
  obtain ⟨h1, i1, j1, i2, j2, out, fst, snd⟩ := h
  obtain ⟨s1, s2⟩ := hs
  have key : ∀ x, f[x]! = rotT a m b d x := fun x => by
    by_cases c1 : m - i ≤ x ∧ x < m
    · rw [fst x c1.1 (by omega), (s2 x).1 c1.1 (by omega)]; congr 1; omega
    · by_cases c2 : m ≤ x ∧ x < m + i
      · rw [snd x (by omega) c2.2, (s2 x).2.1 c2.1 c2.2]; congr 1; omega
      · rw [out x (by omega), (s2 x).2.2 (by omega)]
  refine ⟨s1.trans h1, fun x => ⟨fun hx => ?_, fun x1 x2 => ?_, fun x1 x2 => ?_⟩⟩
  · rw [key]; unfold rotT; rw [if_pos hx]
  · rw [key]; unfold rotT
    by_cases c : b ≤ x
    · omega
    · rw [if_neg (by omega), if_pos x2]
  · rw [key]; unfold rotT; rw [if_neg (by omega), if_neg (by omega)]

set_option maxHeartbeats 4000000 in
set_option maxRecDepth 1000000 in
theorem rotate (cls : Int → Int) (fv : Value) (blk off cap a m b : Nat) (d0 d : Array Int) (w0 w : World) (R : RowK (encC cls) 2 w0 blk off d0) (hs : d0.size = d.size)
    (S : SWK (encC cls) 2 w0 blk off d w) (ham : a < m) (hmb : m < b) (hb : b ≤ d.size) (hsz : d.size < 1000000) :
    Calls Tryd.prog 101 #[.slice (some ⟨blk, off, none⟩) d.size cap, .int .i64 a, .int .i64 m, .int .i64 b, fv] w fun e w' => e = .returned (.tuple #[]) ∧ ∃ d', Rot a m b d d' ∧ SWK (encC cls) 2 w0 blk off d' w' := by
  have S0 := Lib.hid S; clear S
  have ea : (m : Int) - (a : Int) = ((m - a : Nat) : Int) := by omega
  have eb : (b : Int) - (m : Int) = ((b - m : Nat) : Int) := by omega
  have I0 := Lib.hid (RotI.start a m b d ham hmb)
  have wa : IntKind.i64.wrap ((m - a : Nat) : Int) = ((m - a : Nat) : Int) := by rw [IntKind.wrap_i64]; omega
  have wb : IntKind.i64.wrap ((b - m : Nat) : Int) = ((b - m : Nat) : Int) := by rw [IntKind.wrap_i64]; omega
  go_enter Tryd.func101, Tryd.ntmps101
  go_wp2_with fail
  go_loopg [10, 11] (b - a) (fun g vi vj wr => ∃ (i j : Nat) (dk : Array Int), vi = .int .i64 i ∧ vj = .int .i64 j ∧ i + j ≤ g ∧ Hid (RotI a m b d i j dk) ∧ Hid (SWK (encC cls) 2 w0 blk off dk wr))
  case atStart => exact ⟨m - a, b - m, d, by go_num, by go_num, by omega, I0, S0⟩
  case round =>
    clear S0 I0 ea eb wa wb
    obtain ⟨i, j, dk, rfl, rfl, hg, HI, S1⟩ := hrel
    have hdk := HI.out.size
    have i1 := HI.out.i1
    have j1 := HI.out.j1
    have i2 := HI.out.i2
    have j2 := HI.out.j2
    have hsub : (m : Int) - (i : Int) = ((m - i : Nat) : Int) := by omega
    by_cases hij : i = j
    · subst hij
      have hne : ((i : Int) != (i : Int)) = false := by simp
      have hc := Lib.hid (swapRange cls fv blk off cap (m - i) m i d0 dk w0 wr R (by omega) S1.out (by omega) (by omega) (by omega))
      rw [hdk] at hc
      go_wp2_with fail
      refine hc.out.mono ?_
      rintro e w' ⟨rfl, d', hd', S2⟩
      go_wp2
      go_end0
      exact ⟨rfl, d', HI.out.done (by omega) hd', S2⟩
    · have hne : ((i : Int) != (j : Int)) = true := by simp; omega
      have hne' : (i != j) = true := by simp; omega
      by_cases hlt : j < i
      · have hc := Lib.hid (swapRange cls fv blk off cap (m - i) m j d0 dk w0 wr R (by omega) S1.out (by omega) (by omega) (by omega))
        rw [hdk] at hc
        go_wp2_with fail
        refine hc.out.mono ?_
        rintro e w' ⟨rfl, d', hd', S2⟩
        have D2 := Lib.hid hd'; clear hd'
        have S3 := Lib.hid S2; clear S2
        go_wp2
        go_roundg (i - j + j)
        case measure => omega
        case rel => exact ⟨i - j, j, d', by congr 1; omega, rfl, by omega, Lib.hid (HI.out.gt hlt (by omega) D2.out), S3⟩
      · have hlt' : i < j := by omega
        have hc := Lib.hid (swapRange cls fv blk off cap (m - i) (m + j - i) i d0 dk w0 wr R (by omega) S1.out (by omega) (by omega) (by omega))
        rw [hdk] at hc
        have hsub2 : (m : Int) + (j : Int) - (i : Int) = ((m + j - i : Nat) : Int) := by omega
        go_wp2_with fail
        refine hc.out.mono ?_
        rintro e w' ⟨rfl, d', hd', S2⟩
        have D2 := Lib.hid hd'; clear hd'
        have S3 := Lib.hid S2; clear S2
        go_wp2
        go_roundg (i + (j - i))
        case measure => omega
        case rel => exact ⟨i, j - i, d', rfl, by congr 1; omega, by omega, Lib.hid (HI.out.lt hlt' (by omega) D2.out), S3⟩
end Go.Proofs.YtcocmmndonlhkaaDoor
namespace Go.Proofs.YtcocmmndonlhkaaDoor
open Go.RowKit Go.Gz Go.Sort Go.Lib

theorem cmp_pack {cls : Int → Int} {w0 W : World} {blk off B : Nat} {d0 dk : Array Int} (S : SWK (encC cls) 2 w0 blk off dk W) (R : RowK (encC cls) 2 w0 blk off d0) (C : CmpOK w0 blk B) (hs : dk.size = d0.size) (i j : Nat) (hi : i < dk.size) (hj : j < dk.size) :
    ∃ x y cx cy : Int, Hid (dk[i]! = x ∧ cls dk[i]! = cx ∧ dk[j]! = y ∧ cls dk[j]! = cy) ∧
      (∀ n os, (grow (W.drewN n) os).cell? ⟨blk, off + i * 2, none⟩ = some (.int .i32 x)) ∧ (∀ n os, (grow (W.drewN n) os).cell? ⟨blk, off + i * 2 + 1, none⟩ = some (.int .i64 cx)) ∧
      (∀ n os, (grow (W.drewN n) os).cell? ⟨blk, off + j * 2, none⟩ = some (.int .i32 y)) ∧ (∀ n os, (grow (W.drewN n) os).cell? ⟨blk, off + j * 2 + 1, none⟩ = some (.int .i64 cy)) ∧
      Hid (∀ n os, Calls Tryd.prog 92 #[.agg #[.int .i32 x, .int .i64 cx], .agg #[.int .i32 y, .int .i64 cy], .pointer (some ⟨B, 0, none⟩)] (grow (W.drewN n) os) fun e w'' => e = .returned (.int .i64 (cmpI cx cy)) ∧ ∃ p : GrownBy, w'' = grow (W.drewN p.n) p.os) := by
  obtain ⟨⟨p1, _⟩, p3, _⟩ := cells2 S R hs i hi
  obtain ⟨⟨q1, _⟩, q3, _⟩ := cells2 S R hs j hj
  have hblk := S.lt R.hblk
  exact ⟨_, _, _, _, Lib.hid ⟨rfl, rfl, rfl, rfl⟩, cell_grown hblk p1, cell_grown (a := ⟨blk, off + i * 2 + 1, none⟩) hblk p3, cell_grown (a := ⟨blk, off + j * 2, none⟩) hblk q1, cell_grown (a := ⟨blk, off + j * 2 + 1, none⟩) hblk q3, Lib.hid (cmpK S C _ _)⟩

theorem swap_pack {cls : Int → Int} {w0 W : World} {blk off : Nat} {d0 dk : Array Int} (S : SWK (encC cls) 2 w0 blk off dk W) (R : RowK (encC cls) 2 w0 blk off d0) (hs : dk.size = d0.size) (i j : Nat) (hi : i < dk.size) (hj : j < dk.size) :
    ∃ x y cx cy : Int, (W.cell? ⟨blk, off + i * 2, none⟩ = some (.int .i32 x) ∧ W.frozen? ⟨blk, off + i * 2, none⟩ = false) ∧ (W.cell? ⟨blk, off + i * 2 + 1, none⟩ = some (.int .i64 cx) ∧ W.frozen? ⟨blk, off + i * 2 + 1, none⟩ = false) ∧
      (W.cell? ⟨blk, off + j * 2, none⟩ = some (.int .i32 y) ∧ W.frozen? ⟨blk, off + j * 2, none⟩ = false) ∧ (W.cell? ⟨blk, off + j * 2 + 1, none⟩ = some (.int .i64 cy) ∧ W.frozen? ⟨blk, off + j * 2 + 1, none⟩ = false) ∧
      Hid (SWK (encC cls) 2 w0 blk off (swp dk i j) ((((W.setCell ⟨blk, off + i * 2, none⟩ (.int .i32 y)).setCell ⟨blk, off + i * 2 + 1, none⟩ (.int .i64 cy)).setCell ⟨blk, off + j * 2, none⟩ (.int .i32 x)).setCell ⟨blk, off + j * 2 + 1, none⟩ (.int .i64 cx)).drew) := by
  obtain ⟨p1, p3⟩ := cells2 S R hs i hi
  obtain ⟨q1, q3⟩ := cells2 S R hs j hj
  exact ⟨_, _, _, _, p1, p3, q1, q3, Lib.hid (swapC S R i j hi hj)⟩

/-- a merge's contract. -/
def SymPost (cls : Int → Int) (blk off a b : Nat) (d : Array Int) (w0 : World) (e : Ending) (w' : World) : Prop := e = .returned (.tuple #[]) ∧ ∃ d', Done cls a b d d' ∧ SWK (encC cls) 2 w0 blk off d' w'
def SymOK (cls : Int → Int) (B blk off cap a m b : Nat) (d0 : Array Int) (w0 : World) : Prop :=
  ∀ (d : Array Int) (w : World), d.size = d0.size → SWK (encC cls) 2 w0 blk off d w → Srt cls d a m → Srt cls d m b →
    Calls Tryd.prog 98 #[.slice (some ⟨blk, off, none⟩) d.size cap, .int .i64 a, .int .i64 m, .int .i64 b, cmpV B] w (SymPost cls blk off a b d w0)

set_option maxHeartbeats 4000000 in
set_option maxRecDepth 1000000 in
/-- one element ahead. -/
theorem symA (cls : Int → Int) (B blk off cap a b : Nat) (d0 : Array Int) (w0 : World) (R : RowK (encC cls) 2 w0 blk off d0) (C : CmpOK w0 blk B) (hab : a + 1 < b) (hb : b ≤ d0.size) (hsz : d0.size < 1000000) : SymOK cls B blk off cap a (a + 1) b d0 w0 := by
  intro d w hs0 S hS1 hS2
  have hs := hs0.symm; clear hs0
  have S0 := Lib.hid S; clear S
  have HS := Lib.hid hS2; clear hS1 hS2
  have mx := mixed
  obtain ⟨m, hm⟩ : ∃ m, a + 1 = m := ⟨_, rfl⟩
  have e1 : ((m : Int) - (a : Int)) = 1 := by omega
  have ham : a < m := by omega
  have hmb : m < b := by omega
  rw [hm] at HS ⊢
  have HM := Lib.hid hm; clear hm
  go_enter Tryd.func98, Tryd.ntmps98
  go_wp2_with fail
  go_loopg [10, 11] (b - a) (fun g vi vj wr => ∃ (i j : Nat), vi = .int .i64 i ∧ vj = .int .i64 j ∧ m ≤ i ∧ i ≤ j ∧ j ≤ b ∧ j - i ≤ g ∧ Hid (SWK (encC cls) 2 w0 blk off d wr) ∧ Hid (∀ x, m ≤ x → x < i → cls d[x]! < cls d[a]!) ∧ Hid (∀ x, j ≤ x → x < b → cls d[a]! ≤ cls d[x]!))
  case atStart => exact ⟨m, b, rfl, rfl, Nat.le_refl _, by omega, Nat.le_refl _, by omega, S0, Lib.hid fun x h1 h2 => by omega, Lib.hid fun x h1 h2 => by omega⟩
  case round =>
    clear S0
    obtain ⟨i, j, rfl, rfl, hmi, hij, hjb, hg, S1, HL, HH⟩ := hrel
    by_cases hlt : i < j
    · have hltz : (i : Int) < (j : Int) := by omega
      obtain ⟨h, hih, hhj, ez⟩ : ∃ h : Nat, i ≤ h ∧ h < j ∧ ((i : Int) + (j : Int)) / 2 = (h : Int) := ⟨(i + j) / 2, (half i j hlt).1, (half i j hlt).2, by omega⟩
      obtain ⟨x, y, cx, cy, HE, f1, f2, f3, f4, hcmp⟩ := cmp_pack S1.out R C hs.symm h a (by omega) (by omega)
      have bz1 : (h : Int) < (d.size : Int) := by omega
      have bz2 : (a : Int) < (d.size : Int) := by omega
      by_cases hlv : cmpI cx cy < 0
      · go_wp2_with fail
        go_quiet_grown (first | (go_at_call 92; exact hcmp.out _ _))
        have S3 := Lib.hid (S1.out.grown nq osq)
        clear hcmp f1 f2 f3 f4
        go_wp2_with fail
        go_roundg (j - (h + 1))
        case measure => omega
        case rel =>
          have hk : cls d[h]! < cls d[a]! := by obtain ⟨_, h2, _, h4⟩ := HE.out; rw [h2, h4]; exact (cmpI_neg _ _).1 hlv
          exact ⟨h + 1, j, by go_num, rfl, by omega, by omega, hjb, by omega, S3, Lib.hid fun z z1 z2 => by
            by_cases c : z = h
            · rw [c]; exact hk
            · have := HS.out z h z1 (by omega) (by omega); omega, HH⟩
      · go_wp2_with fail
        go_quiet_grown (first | (go_at_call 92; exact hcmp.out _ _))
        have S3 := Lib.hid (S1.out.grown nq osq)
        clear hcmp f1 f2 f3 f4
        go_wp2_with fail
        go_roundg (h - i)
        case measure => omega
        case rel =>
          have hk : cls d[a]! ≤ cls d[h]! := by obtain ⟨_, h2, _, h4⟩ := HE.out; rw [h2, h4]; have := mt (cmpI_neg cx cy).2 (by omega); omega
          exact ⟨i, h, rfl, rfl, hmi, by omega, by omega, by omega, S3, HL, Lib.hid fun z z1 z2 => by
            by_cases c : z = h
            · rw [c]; exact hk
            · have := HS.out h z (by omega) (by omega) z2; omega⟩
    · obtain rfl : i = j := by omega
      have ei : (i : Int) - 1 = ((i - 1 : Nat) : Int) := by omega
      go_wp2_with fail
      go_loopg [13] (i - a) (fun g vk wr => ∃ (k : Nat) (dk : Array Int), vk = .int .i64 k ∧ a ≤ k ∧ k ≤ i - 1 ∧ i - 1 - k ≤ g ∧ Hid (SWK (encC cls) 2 w0 blk off dk wr) ∧ Hid (Up a k d dk) ∧ Hid (Stb cls d dk))
      case atStart => exact ⟨a, d, rfl, Nat.le_refl _, by omega, by omega, S1, Lib.hid (Up.refl a d), Lib.hid (Stb.refl d)⟩
      case round =>
        clear S1
        obtain ⟨k, dk, rfl, hak, hki, hg2, S2, HU, HT⟩ := hrel
        have hsk := HU.out.1
        by_cases hlt2 : k < i - 1
        · have hltz : (k : Int) < ((i - 1 : Nat) : Int) := by omega
          obtain ⟨x, y, cx, cy, ⟨p1, p2⟩, ⟨p3, p4⟩, ⟨q1, q2⟩, ⟨q3, q4⟩, S3⟩ := swap_pack S2.out R (by omega) k (k + 1) (by omega) (by omega)
          have jz : (k : Int) + 1 < (d.size : Int) := by omega
          have jz1 : (k : Int) < (d.size : Int) := by omega
          have p0 : (0 : Int) ≤ (k : Int) + 1 := by omega
          have e0 : ((k : Int) + 1).toNat = k + 1 := by omega
          go_wp2_with fail
          go_big_region
          go_wp2_with fail
          go_roundg (i - 1 - (k + 1))
          case measure => omega
          case rel =>
            have hk : cls dk[k + 1]! < cls dk[k]! := by rw [HU.out.2.1, HU.out.2.2.2 (k + 1) (by omega)]; exact HL.out (k + 1) (by omega) (by omega)
            exact ⟨k + 1, swp dk k (k + 1), by go_num, by omega, by omega, by omega, S3, Lib.hid (HU.out.step (by omega) hak), Lib.hid (HT.out.trans (stb_swp dk k (by omega) hk).1)⟩
        · obtain rfl : k = i - 1 := by omega
          go_wp2_with fail
          go_end0
          exact ⟨rfl, dk, up_done (by omega) hjb (by rw [HM.out]; exact HS.out) (fun z z1 z2 => HL.out z (by rw [← HM.out]; exact z1) z2) HH.out HU.out HT.out, S2.out⟩

set_option maxHeartbeats 4000000 in
set_option maxRecDepth 1000000 in
/-- one element behind. -/
theorem symB (cls : Int → Int) (B blk off cap a m : Nat) (d0 : Array Int) (w0 : World) (R : RowK (encC cls) 2 w0 blk off d0) (C : CmpOK w0 blk B) (ham : a + 1 < m) (hb : m + 1 ≤ d0.size) (hsz : d0.size < 1000000) : SymOK cls B blk off cap a m (m + 1) d0 w0 := by
  intro d w hs0 S hS1 hS2
  have hs := hs0.symm; clear hs0
  have S0 := Lib.hid S; clear S
  have HS := Lib.hid hS1; clear hS1 hS2
  have mx := mixed
  obtain ⟨b, hm⟩ : ∃ b, m + 1 = b := ⟨_, rfl⟩
  have e1 : ((b : Int) - (m : Int)) = 1 := by omega
  have e2 : IntKind.i64.wrap ((m : Int) - (a : Int)) = (m : Int) - (a : Int) := by rw [IntKind.wrap_i64]; omega
  have e3 : ((m : Int) - (a : Int) == 1) = false := by simp; omega
  have hmb : m < b := by omega
  have hb2 : b ≤ d0.size := by omega
  rw [hm]
  have HM := Lib.hid hm; clear hm
  go_enter Tryd.func98, Tryd.ntmps98
  go_wp2_with fail
  go_loopg [14, 15] (b - a) (fun g vi vj wr => ∃ (i j : Nat), vi = .int .i64 i ∧ vj = .int .i64 j ∧ a ≤ i ∧ i ≤ j ∧ j ≤ m ∧ j - i ≤ g ∧ Hid (SWK (encC cls) 2 w0 blk off d wr) ∧ Hid (∀ x, a ≤ x → x < i → cls d[x]! ≤ cls d[m]!) ∧ Hid (∀ x, j ≤ x → x < m → cls d[m]! < cls d[x]!))
  case atStart => exact ⟨a, m, rfl, rfl, Nat.le_refl _, by omega, Nat.le_refl _, by omega, S0, Lib.hid fun x h1 h2 => by omega, Lib.hid fun x h1 h2 => by omega⟩
  case round =>
    clear S0
    obtain ⟨i, j, rfl, rfl, hmi, hij, hjb, hg, S1, HL, HH⟩ := hrel
    by_cases hlt : i < j
    · have hltz : (i : Int) < (j : Int) := by omega
      obtain ⟨h, hih, hhj, ez⟩ : ∃ h : Nat, i ≤ h ∧ h < j ∧ ((i : Int) + (j : Int)) / 2 = (h : Int) := ⟨(i + j) / 2, (half i j hlt).1, (half i j hlt).2, by omega⟩
      obtain ⟨x, y, cx, cy, HE, f1, f2, f3, f4, hcmp⟩ := cmp_pack S1.out R C hs.symm m h (by omega) (by omega)
      have bz1 : (h : Int) < (d.size : Int) := by omega
      have bz2 : (m : Int) < (d.size : Int) := by omega
      by_cases hlv : cmpI cx cy < 0
      · go_wp2_with fail
        go_quiet_grown (first | (go_at_call 92; exact hcmp.out _ _))
        have S3 := Lib.hid (S1.out.grown nq osq)
        clear hcmp f1 f2 f3 f4
        go_wp2_with fail
        go_roundg (h - i)
        case measure => omega
        case rel =>
          have hk : cls d[m]! < cls d[h]! := by obtain ⟨_, h2, _, h4⟩ := HE.out; rw [h2, h4]; exact (cmpI_neg _ _).1 hlv
          exact ⟨i, h, rfl, rfl, hmi, by omega, by omega, by omega, S3, HL, Lib.hid fun z z1 z2 => by
            by_cases c : z = h
            · rw [c]; exact hk
            · have := HS.out h z (by omega) (by omega) z2; omega⟩
      · have hld : decide (cmpI cx cy < 0) = false := decide_eq_false hlv
        go_wp2_with fail
        go_quiet_grown (first | (go_at_call 92; exact hcmp.out _ _))
        have S3 := Lib.hid (S1.out.grown nq osq)
        clear hcmp f1 f2 f3 f4
        go_wp2_with fail
        go_roundg (j - (h + 1))
        case measure => omega
        case rel =>
          have hk : cls d[h]! ≤ cls d[m]! := by obtain ⟨_, h2, _, h4⟩ := HE.out; rw [h2, h4]; have := mt (cmpI_neg cx cy).2 (by omega); omega
          exact ⟨h + 1, j, by go_num, rfl, by omega, by omega, hjb, by omega, S3, Lib.hid fun z z1 z2 => by
            by_cases c : z = h
            · rw [c]; exact hk
            · have := HS.out z h z1 (by omega) (by omega); omega, HH⟩
    · obtain rfl : i = j := by omega
      go_wp2_with fail
      go_loopg [17] (m - i) (fun g vk wr => ∃ (k : Nat) (dk : Array Int), vk = .int .i64 k ∧ i ≤ k ∧ k ≤ m ∧ k - i ≤ g ∧ Hid (SWK (encC cls) 2 w0 blk off dk wr) ∧ Hid (Dn m k d dk) ∧ Hid (Stb cls d dk))
      case atStart => exact ⟨m, d, rfl, by omega, by omega, by omega, S1, Lib.hid (Dn.refl m d), Lib.hid (Stb.refl d)⟩
      case round =>
        clear S1
        obtain ⟨k, dk, rfl, hak, hki, hg2, S2, HU, HT⟩ := hrel
        have hsk := HU.out.1
        by_cases hlt2 : i < k
        · obtain ⟨kp, rfl⟩ : ∃ kp, k = kp + 1 := ⟨k - 1, by omega⟩
          have hltz : (i : Int) < (kp : Int) + 1 := by omega
          obtain ⟨x, y, cx, cy, ⟨p1, p2⟩, ⟨p3, p4⟩, ⟨q1, q2⟩, ⟨q3, q4⟩, S3⟩ := swap_pack S2.out R (by omega) (kp + 1) kp (by omega) (by omega)
          have jz : (kp : Int) + 1 < (d.size : Int) := by omega
          have jz1 : (kp : Int) < (d.size : Int) := by omega
          have p0 : (0 : Int) ≤ (kp : Int) + 1 := by omega
          have e0 : ((kp : Int) + 1).toNat = kp + 1 := by omega
          go_wp2_with fail
          go_big_region
          go_wp2_with fail
          go_roundg (kp - i)
          case measure => omega
          case rel =>
            have hk : cls dk[kp + 1]! < cls dk[kp]! := by rw [HU.out.2.1, HU.out.2.2.2 kp (by omega)]; exact HH.out kp (by omega) (by omega)
            exact ⟨kp, swp dk (kp + 1) kp, by first | rfl | go_num, by omega, by omega, by omega, S3, Lib.hid (HU.out.step (by omega) (by omega)), Lib.hid (HT.out.trans (stb_swp dk kp (by omega) hk).2)⟩
        · obtain rfl : k = i := by omega
          go_wp2_with fail
          go_end0
          exact ⟨rfl, dk, by rw [← HM.out]; exact dn_done (by omega) hjb HS.out HL.out HH.out HU.out HT.out, S2.out⟩
end Go.Proofs.YtcocmmndonlhkaaDoor
namespace Go.Proofs.YtcocmmndonlhkaaDoor
open Go.RowKit Go.Gz Go.Sort Go.Lib

theorem rot_same {s m t : Nat} (d : Array Int) (h : s = m ∨ m = t) : Rot s m t d d := by
  rcases h with rfl | rfl
  · exact Rot.refl_left d
  · exact Rot.refl_right d
theorem found_at {cls : Int → Int} {d e : Array Int} {a m b mid s t : Nat} (f : Go.Gz.Found cls d a m b mid s) (hb : b ≤ d.size) (hm : m ≤ b) (h1 : Srt cls d a m) (h2 : Srt cls d m b) (ht : mid + m - s = t) (hr : Rot s m t d e) :
    Stb cls d e ∧ Chg a b d e ∧ Step cls a s mid t b e := by
  subst ht
  exact f.step hb hm h1 h2 hr
theorem step_first {cls : Int → Int} {e : Array Int} {a s mid t b : Nat} (h : Step cls a s mid t b e) (hc : s = a ∨ s = mid) : Done cls a mid e e := by
  rcases hc with rfl | rfl
  · exact done_of_srt h.left'
  · exact done_of_srt h.left
theorem step_second {cls : Int → Int} {e f : Array Int} {a s mid t b : Nat} (h : Step cls a s mid t b e) (hd : Done cls a mid e f) (hc : t = mid ∨ t = b) : Done cls mid b f f := by
  rcases hc with rfl | rfl
  · exact done_of_srt (hd.srt_out h.right' (Or.inr (Nat.le_refl _)))
  · exact done_of_srt (hd.srt_out h.right (Or.inr (Nat.le_refl _)))

set_option maxHeartbeats 4000000 in
set_option maxRecDepth 1000000 in
theorem symC1 (cls : Int → Int) (B blk off cap a m b mid : Nat) (d0 : Array Int) (w0 : World) (R : RowK (encC cls) 2 w0 blk off d0) (C : CmpOK w0 blk B) (ham : a + 1 < m) (hmb : m + 1 < b) (hb : b ≤ d0.size) (hsz : d0.size < 1000000)
    (hm1 : 2 * mid ≤ a + b) (hm2 : a + b ≤ 2 * mid + 1) (hmm : mid < m) (ih : ∀ a' m' b', b' - a' < b - a → a' < m' → m' < b' → b' ≤ d0.size → SymOK cls B blk off cap a' m' b' d0 w0) : SymOK cls B blk off cap a m b d0 w0 := by
  intro d w hs0 S hS1 hS2
  have hs := hs0.symm; clear hs0
  have S0 := Lib.hid S; clear S
  have HS1 := Lib.hid hS1; clear hS1
  have HS2 := Lib.hid hS2; clear hS2
  have mx := mixed
  obtain ⟨n, hn1, hn2, en⟩ : ∃ n : Nat, n ≤ mid + m ∧ mid + m ≤ n ∧ (mid : Int) + (m : Int) = (n : Int) := ⟨mid + m, by omega, by omega, by omega⟩
  obtain ⟨p, hp1, hp2, ep⟩ : ∃ p : Nat, p + 1 ≤ n ∧ n ≤ p + 1 ∧ (n : Int) - 1 = (p : Int) := ⟨n - 1, by omega, by omega, by omega⟩
  have emid : ((a : Int) + (b : Int)) / 2 = (mid : Int) := by omega
  have e2 : IntKind.i64.wrap ((m : Int) - (a : Int)) = (m : Int) - (a : Int) := by rw [IntKind.wrap_i64]; omega
  have e3 : ((m : Int) - (a : Int) == 1) = false := by simp; omega
  have e4 : IntKind.i64.wrap ((b : Int) - (m : Int)) = (b : Int) - (m : Int) := by rw [IntKind.wrap_i64]; omega
  have e5 : ((b : Int) - (m : Int) == 1) = false := by simp; omega
  obtain ⟨s0, hs1, hs2, es⟩ : ∃ s0 : Nat, s0 + b ≤ n ∧ n ≤ s0 + b ∧ (n : Int) - (b : Int) = (s0 : Int) := ⟨n - b, by omega, by omega, by omega⟩
  have hmmz : (mid : Int) < (m : Int) := by omega
  have IH := Lib.hid ih; clear ih
  go_enter Tryd.func98, Tryd.ntmps98
  go_wp2_with fail
  go_loopg [20, 21] (b - a) (fun g vi vj wr => ∃ (i j : Nat), vi = .int .i64 i ∧ vj = .int .i64 j ∧ s0 ≤ i ∧ i ≤ j ∧ j ≤ mid ∧ j - i ≤ g ∧ Hid (SWK (encC cls) 2 w0 blk off d wr) ∧ Hid (∀ x, s0 ≤ x → x < i → cls d[x]! ≤ cls d[p - x]!) ∧ Hid (∀ x, j ≤ x → x < mid → cls d[p - x]! < cls d[x]!))
  case atStart => exact ⟨s0, mid, rfl, rfl, Nat.le_refl _, by omega, Nat.le_refl _, by omega, S0, Lib.hid fun x h1 h2 => by omega, Lib.hid fun x h1 h2 => by omega⟩
  case round =>
    clear S0
    obtain ⟨i, j, rfl, rfl, hmi, hij, hjb, hg, S1, HL, HH⟩ := hrel
    by_cases hlt : i < j
    · have hltz : (i : Int) < (j : Int) := by omega
      obtain ⟨h, hih, hhj, ez⟩ : ∃ h : Nat, i ≤ h ∧ h < j ∧ ((i : Int) + (j : Int)) / 2 = (h : Int) := ⟨(i + j) / 2, (half i j hlt).1, (half i j hlt).2, by omega⟩
      obtain ⟨q, hq1, hq2, eq⟩ : ∃ q : Nat, q + h ≤ p ∧ p ≤ q + h ∧ (p : Int) - (h : Int) = (q : Int) := ⟨p - h, by omega, by omega, by omega⟩
      obtain ⟨x, y, cx, cy, HE, f1, f2, f3, f4, hcmp⟩ := cmp_pack S1.out R C hs.symm q h (by omega) (by omega)
      have bz1 : (h : Int) < (d.size : Int) := by omega
      have bz2 : (q : Int) < (d.size : Int) := by omega
      have ew : IntKind.i64.wrap (q : Int) = (q : Int) := by rw [IntKind.wrap_i64]; omega
      have hq : p - h = q := by omega
      have HQ := Lib.hid hq; clear hq
      by_cases hlv : cmpI cx cy < 0
      · go_wp2_with fail
        go_quiet_grown (first | (go_at_call 92; exact hcmp.out _ _))
        have S3 := Lib.hid (S1.out.grown nq osq)
        clear hcmp f1 f2 f3 f4
        go_wp2_with fail
        go_roundg (h - i)
        case measure => omega
        case rel =>
          have hk : cls d[p - h]! < cls d[h]! := by rw [HQ.out]; obtain ⟨_, h2, _, h4⟩ := HE.out; rw [h2, h4]; exact (cmpI_neg _ _).1 hlv
          exact ⟨i, h, rfl, rfl, hmi, by omega, by omega, by omega, S3, HL, Lib.hid fun z z1 z2 => by
            by_cases c : z = h
            · rw [c]; exact hk
            · have k1 := HS1.out h z (by omega) (by omega) (by omega)
              have k2 := HS2.out (p - z) (p - h) (by omega) (by omega) (by omega)
              omega⟩
      · have hld : decide (cmpI cx cy < 0) = false := decide_eq_false hlv
        go_wp2_with fail
        go_quiet_grown (first | (go_at_call 92; exact hcmp.out _ _))
        have S3 := Lib.hid (S1.out.grown nq osq)
        clear hcmp f1 f2 f3 f4
        go_wp2_with fail
        go_roundg (j - (h + 1))
        case measure => omega
        case rel =>
          have hk : cls d[h]! ≤ cls d[p - h]! := by rw [HQ.out]; obtain ⟨_, h2, _, h4⟩ := HE.out; rw [h2, h4]; have := mt (cmpI_neg cx cy).2 (by omega); omega
          exact ⟨h + 1, j, by go_num, rfl, by omega, by omega, hjb, by omega, S3, Lib.hid fun z z1 z2 => by
            by_cases c : z = h
            · rw [c]; exact hk
            · have k1 := HS1.out z h (by omega) (by omega) (by omega)
              have k2 := HS2.out (p - h) (p - z) (by omega) (by omega) (by omega)
              omega, HH⟩
    · obtain rfl : j = i := by omega
      obtain ⟨s, rfl⟩ : ∃ s, s = j := ⟨j, rfl⟩
      have HFd : Hid (Go.Gz.Found cls d a m b mid s) := Lib.hid ⟨by omega, by omega, by omega, by omega, fun x x1 x2 x3 => by
          have := HL.out x (by omega) x2
          rw [show p - x = mid + m - 1 - x by omega] at this; exact this, fun x x1 x2 x3 => by
          have := HH.out x x1 (by omega)
          rw [show p - x = mid + m - 1 - x by omega] at this; exact this⟩
      clear HL HH
      obtain ⟨t, ht1, ht2, et⟩ : ∃ t : Nat, t + s ≤ n ∧ n ≤ t + s ∧ (n : Int) - (s : Int) = (t : Int) := ⟨n - s, by omega, by omega, by omega⟩
      have hlz : ¬ (s : Int) < (s : Int) := by omega
      by_cases hA : s < mid
      · by_cases hB : a < s
        · by_cases hC : t < b
          · have z0 : (s : Int) < (m : Int) := by omega
            have z1 : (m : Int) < (t : Int) := by omega
            have z2 : (a : Int) < (s : Int) := by omega
            have z3 : (s : Int) < (mid : Int) := by omega
            have z4 : (mid : Int) < (t : Int) := by omega
            have z5 : (t : Int) < (b : Int) := by omega
            have fr := Lib.hid (rotate cls (cmpV B) blk off cap s m t d0 d w0 wr R hs S1.out (by omega) (by omega) (by omega) (by omega))
            go_wp2_with fail
            refine fr.out.mono ?_
            rintro e w1 ⟨rfl, d1, hr1, S2⟩
            have HR := Lib.hid hr1; clear hr1 fr
            have S3 := Lib.hid S2; clear S2
            have hd1 := Lib.hid HR.out.1
            have HF := Lib.hid (found_at HFd.out (by omega) (by omega) HS1.out HS2.out (by omega) HR.out)
            have c1 := IH.out a s mid (by omega) (by omega) (by omega) (by omega) d1 w1 (by rw [hd1.out]; exact hs.symm) S3.out HF.out.2.2.left HF.out.2.2.left'
            rw [hd1.out] at c1
            have C1 := Lib.hid c1; clear c1
            go_wp2_with fail
            refine C1.out.mono ?_
            rintro e w2 ⟨rfl, d2, hd2, S4⟩
            have HD := Lib.hid hd2; clear hd2 C1
            have S5 := Lib.hid S4; clear S4
            have hz2 := Lib.hid (HD.out.1.1.trans hd1.out)
            have c2 := IH.out mid t b (by omega) (by omega) (by omega) (by omega) d2 w2 (by rw [hz2.out]; exact hs.symm) S5.out (HD.out.srt_out HF.out.2.2.right (Or.inr (Nat.le_refl _))) (HD.out.srt_out HF.out.2.2.right' (Or.inr (by omega)))
            rw [hz2.out] at c2
            have C2 := Lib.hid c2; clear c2
            go_wp2_with fail
            refine C2.out.mono ?_
            rintro e w3 ⟨rfl, d3, hd3, S6⟩
            go_wp2_with fail
            go_end0
            exact ⟨rfl, d3, HF.out.2.2.done HF.out.1 HF.out.2.1 HD.out hd3 (by omega) (by omega), S6⟩
          · have z0 : (s : Int) < (m : Int) := by omega
            have z1 : (m : Int) < (t : Int) := by omega
            have z2 : (a : Int) < (s : Int) := by omega
            have z3 : (s : Int) < (mid : Int) := by omega
            have z4 : (mid : Int) < (t : Int) := by omega
            have z5 : ¬ (t : Int) < (b : Int) := by omega
            have fr := Lib.hid (rotate cls (cmpV B) blk off cap s m t d0 d w0 wr R hs S1.out (by omega) (by omega) (by omega) (by omega))
            go_wp2_with fail
            refine fr.out.mono ?_
            rintro e w1 ⟨rfl, d1, hr1, S2⟩
            have HR := Lib.hid hr1; clear hr1 fr
            have S3 := Lib.hid S2; clear S2
            have hd1 := Lib.hid HR.out.1
            have HF := Lib.hid (found_at HFd.out (by omega) (by omega) HS1.out HS2.out (by omega) HR.out)
            have c1 := IH.out a s mid (by omega) (by omega) (by omega) (by omega) d1 w1 (by rw [hd1.out]; exact hs.symm) S3.out HF.out.2.2.left HF.out.2.2.left'
            rw [hd1.out] at c1
            have C1 := Lib.hid c1; clear c1
            go_wp2_with fail
            refine C1.out.mono ?_
            rintro e w2 ⟨rfl, d2, hd2, S4⟩
            have HD := Lib.hid hd2; clear hd2 C1
            have S5 := Lib.hid S4; clear S4
            have hz2 := Lib.hid (HD.out.1.1.trans hd1.out)
            have HD3 := Lib.hid (step_second HF.out.2.2 HD.out (by omega))
            go_wp2_with fail
            go_end0
            exact ⟨rfl, d2, HF.out.2.2.done HF.out.1 HF.out.2.1 HD.out HD3.out (by omega) (by omega), S5.out⟩
        · by_cases hC : t < b
          · have z0 : (s : Int) < (m : Int) := by omega
            have z1 : (m : Int) < (t : Int) := by omega
            have z2 : ¬ (a : Int) < (s : Int) := by omega
            have z3 : (mid : Int) < (t : Int) := by omega
            have z4 : (t : Int) < (b : Int) := by omega
            have fr := Lib.hid (rotate cls (cmpV B) blk off cap s m t d0 d w0 wr R hs S1.out (by omega) (by omega) (by omega) (by omega))
            go_wp2_with fail
            refine fr.out.mono ?_
            rintro e w1 ⟨rfl, d1, hr1, S2⟩
            have HR := Lib.hid hr1; clear hr1 fr
            have S3 := Lib.hid S2; clear S2
            have hd1 := Lib.hid HR.out.1
            have HF := Lib.hid (found_at HFd.out (by omega) (by omega) HS1.out HS2.out (by omega) HR.out)
            obtain ⟨d2, HD, hz2⟩ : ∃ d2 : Array Int, Hid (d2 = d1 ∧ Done cls a mid d1 d2) ∧ Hid (d2.size = d.size) := ⟨d1, Lib.hid ⟨rfl, step_first HF.out.2.2 (by omega)⟩, hd1⟩
            obtain ⟨w2, S5, HW2⟩ : ∃ w2 : World, Hid (SWK (encC cls) 2 w0 blk off d2 w2) ∧ w2 = w1 := ⟨w1, Lib.hid (by rw [HD.out.1]; exact S3.out), rfl⟩
            subst HW2
            have HD := Lib.hid HD.out.2
            have c2 := IH.out mid t b (by omega) (by omega) (by omega) (by omega) d2 w2 (by rw [hz2.out]; exact hs.symm) S5.out (HD.out.srt_out HF.out.2.2.right (Or.inr (Nat.le_refl _))) (HD.out.srt_out HF.out.2.2.right' (Or.inr (by omega)))
            rw [hz2.out] at c2
            have C2 := Lib.hid c2; clear c2
            go_wp2_with fail
            refine C2.out.mono ?_
            rintro e w3 ⟨rfl, d3, hd3, S6⟩
            go_wp2_with fail
            go_end0
            exact ⟨rfl, d3, HF.out.2.2.done HF.out.1 HF.out.2.1 HD.out hd3 (by omega) (by omega), S6⟩
          · have z0 : (s : Int) < (m : Int) := by omega
            have z1 : (m : Int) < (t : Int) := by omega
            have z2 : ¬ (a : Int) < (s : Int) := by omega
            have z3 : (mid : Int) < (t : Int) := by omega
            have z4 : ¬ (t : Int) < (b : Int) := by omega
            have fr := Lib.hid (rotate cls (cmpV B) blk off cap s m t d0 d w0 wr R hs S1.out (by omega) (by omega) (by omega) (by omega))
            go_wp2_with fail
            refine fr.out.mono ?_
            rintro e w1 ⟨rfl, d1, hr1, S2⟩
            have HR := Lib.hid hr1; clear hr1 fr
            have S3 := Lib.hid S2; clear S2
            have hd1 := Lib.hid HR.out.1
            have HF := Lib.hid (found_at HFd.out (by omega) (by omega) HS1.out HS2.out (by omega) HR.out)
            obtain ⟨d2, HD, hz2⟩ : ∃ d2 : Array Int, Hid (d2 = d1 ∧ Done cls a mid d1 d2) ∧ Hid (d2.size = d.size) := ⟨d1, Lib.hid ⟨rfl, step_first HF.out.2.2 (by omega)⟩, hd1⟩
            obtain ⟨w2, S5, HW2⟩ : ∃ w2 : World, Hid (SWK (encC cls) 2 w0 blk off d2 w2) ∧ w2 = w1 := ⟨w1, Lib.hid (by rw [HD.out.1]; exact S3.out), rfl⟩
            subst HW2
            have HD := Lib.hid HD.out.2
            have HD3 := Lib.hid (step_second HF.out.2.2 HD.out (by omega))
            go_wp2_with fail
            go_end0
            exact ⟨rfl, d2, HF.out.2.2.done HF.out.1 HF.out.2.1 HD.out HD3.out (by omega) (by omega), S5.out⟩
      · by_cases hC : t < b
        · have z0 : (s : Int) < (m : Int) := by omega
          have z1 : ¬ (m : Int) < (t : Int) := by omega
          have z2 : (a : Int) < (s : Int) := by omega
          have z3 : ¬ (s : Int) < (mid : Int) := by omega
          have z4 : (mid : Int) < (t : Int) := by omega
          have z5 : (t : Int) < (b : Int) := by omega
          obtain ⟨d1, HR, hd1⟩ : ∃ d1 : Array Int, Hid (d1 = d ∧ Rot s m t d d1) ∧ Hid (d1.size = d.size) := ⟨d, Lib.hid ⟨rfl, rot_same d (by omega)⟩, Lib.hid rfl⟩
          obtain ⟨w1, S3, HW⟩ : ∃ w1 : World, Hid (SWK (encC cls) 2 w0 blk off d1 w1) ∧ w1 = wr := ⟨wr, Lib.hid (by rw [HR.out.1]; exact S1.out), rfl⟩
          subst HW
          have HR := Lib.hid HR.out.2
          have HF := Lib.hid (found_at HFd.out (by omega) (by omega) HS1.out HS2.out (by omega) HR.out)
          obtain ⟨d2, HD, hz2⟩ : ∃ d2 : Array Int, Hid (d2 = d1 ∧ Done cls a mid d1 d2) ∧ Hid (d2.size = d.size) := ⟨d1, Lib.hid ⟨rfl, step_first HF.out.2.2 (by omega)⟩, hd1⟩
          obtain ⟨w2, S5, HW2⟩ : ∃ w2 : World, Hid (SWK (encC cls) 2 w0 blk off d2 w2) ∧ w2 = w1 := ⟨w1, Lib.hid (by rw [HD.out.1]; exact S3.out), rfl⟩
          subst HW2
          have HD := Lib.hid HD.out.2
          have c2 := IH.out mid t b (by omega) (by omega) (by omega) (by omega) d2 w2 (by rw [hz2.out]; exact hs.symm) S5.out (HD.out.srt_out HF.out.2.2.right (Or.inr (Nat.le_refl _))) (HD.out.srt_out HF.out.2.2.right' (Or.inr (by omega)))
          rw [hz2.out] at c2
          have C2 := Lib.hid c2; clear c2
          go_wp2_with fail
          refine C2.out.mono ?_
          rintro e w3 ⟨rfl, d3, hd3, S6⟩
          go_wp2_with fail
          go_end0
          exact ⟨rfl, d3, HF.out.2.2.done HF.out.1 HF.out.2.1 HD.out hd3 (by omega) (by omega), S6⟩
        · have z0 : (s : Int) < (m : Int) := by omega
          have z1 : ¬ (m : Int) < (t : Int) := by omega
          have z2 : (a : Int) < (s : Int) := by omega
          have z3 : ¬ (s : Int) < (mid : Int) := by omega
          have z4 : (mid : Int) < (t : Int) := by omega
          have z5 : ¬ (t : Int) < (b : Int) := by omega
          obtain ⟨d1, HR, hd1⟩ : ∃ d1 : Array Int, Hid (d1 = d ∧ Rot s m t d d1) ∧ Hid (d1.size = d.size) := ⟨d, Lib.hid ⟨rfl, rot_same d (by omega)⟩, Lib.hid rfl⟩
          obtain ⟨w1, S3, HW⟩ : ∃ w1 : World, Hid (SWK (encC cls) 2 w0 blk off d1 w1) ∧ w1 = wr := ⟨wr, Lib.hid (by rw [HR.out.1]; exact S1.out), rfl⟩
          subst HW
          have HR := Lib.hid HR.out.2
          have HF := Lib.hid (found_at HFd.out (by omega) (by omega) HS1.out HS2.out (by omega) HR.out)
          obtain ⟨d2, HD, hz2⟩ : ∃ d2 : Array Int, Hid (d2 = d1 ∧ Done cls a mid d1 d2) ∧ Hid (d2.size = d.size) := ⟨d1, Lib.hid ⟨rfl, step_first HF.out.2.2 (by omega)⟩, hd1⟩
          obtain ⟨w2, S5, HW2⟩ : ∃ w2 : World, Hid (SWK (encC cls) 2 w0 blk off d2 w2) ∧ w2 = w1 := ⟨w1, Lib.hid (by rw [HD.out.1]; exact S3.out), rfl⟩
          subst HW2
          have HD := Lib.hid HD.out.2
          have HD3 := Lib.hid (step_second HF.out.2.2 HD.out (by omega))
          go_wp2_with fail
          go_end0
          exact ⟨rfl, d2, HF.out.2.2.done HF.out.1 HF.out.2.1 HD.out HD3.out (by omega) (by omega), S5.out⟩

set_option maxHeartbeats 4000000 in
set_option maxRecDepth 1000000 in
theorem symC2 (cls : Int → Int) (B blk off cap a m b mid : Nat) (d0 : Array Int) (w0 : World) (R : RowK (encC cls) 2 w0 blk off d0) (C : CmpOK w0 blk B) (ham : a + 1 < m) (hmb : m + 1 < b) (hb : b ≤ d0.size) (hsz : d0.size < 1000000)
    (hm1 : 2 * mid ≤ a + b) (hm2 : a + b ≤ 2 * mid + 1) (hmm : m ≤ mid) (ih : ∀ a' m' b', b' - a' < b - a → a' < m' → m' < b' → b' ≤ d0.size → SymOK cls B blk off cap a' m' b' d0 w0) : SymOK cls B blk off cap a m b d0 w0 := by
  intro d w hs0 S hS1 hS2
  have hs := hs0.symm; clear hs0
  have S0 := Lib.hid S; clear S
  have HS1 := Lib.hid hS1; clear hS1
  have HS2 := Lib.hid hS2; clear hS2
  have mx := mixed
  obtain ⟨n, hn1, hn2, en⟩ : ∃ n : Nat, n ≤ mid + m ∧ mid + m ≤ n ∧ (mid : Int) + (m : Int) = (n : Int) := ⟨mid + m, by omega, by omega, by omega⟩
  obtain ⟨p, hp1, hp2, ep⟩ : ∃ p : Nat, p + 1 ≤ n ∧ n ≤ p + 1 ∧ (n : Int) - 1 = (p : Int) := ⟨n - 1, by omega, by omega, by omega⟩
  have emid : ((a : Int) + (b : Int)) / 2 = (mid : Int) := by omega
  have e2 : IntKind.i64.wrap ((m : Int) - (a : Int)) = (m : Int) - (a : Int) := by rw [IntKind.wrap_i64]; omega
  have e3 : ((m : Int) - (a : Int) == 1) = false := by simp; omega
  have e4 : IntKind.i64.wrap ((b : Int) - (m : Int)) = (b : Int) - (m : Int) := by rw [IntKind.wrap_i64]; omega
  have e5 : ((b : Int) - (m : Int) == 1) = false := by simp; omega
  have hmmz : ¬ (mid : Int) < (m : Int) := by omega
  have IH := Lib.hid ih; clear ih
  go_enter Tryd.func98, Tryd.ntmps98
  go_wp2_with fail
  go_loopg [20, 21] (b - a) (fun g vi vj wr => ∃ (i j : Nat), vi = .int .i64 i ∧ vj = .int .i64 j ∧ a ≤ i ∧ i ≤ j ∧ j ≤ m ∧ j - i ≤ g ∧ Hid (SWK (encC cls) 2 w0 blk off d wr) ∧ Hid (∀ x, a ≤ x → x < i → cls d[x]! ≤ cls d[p - x]!) ∧ Hid (∀ x, j ≤ x → x < m → cls d[p - x]! < cls d[x]!))
  case atStart => exact ⟨a, m, rfl, rfl, Nat.le_refl _, by omega, Nat.le_refl _, by omega, S0, Lib.hid fun x h1 h2 => by omega, Lib.hid fun x h1 h2 => by omega⟩
  case round =>
    clear S0
    obtain ⟨i, j, rfl, rfl, hmi, hij, hjb, hg, S1, HL, HH⟩ := hrel
    by_cases hlt : i < j
    · have hltz : (i : Int) < (j : Int) := by omega
      obtain ⟨h, hih, hhj, ez⟩ : ∃ h : Nat, i ≤ h ∧ h < j ∧ ((i : Int) + (j : Int)) / 2 = (h : Int) := ⟨(i + j) / 2, (half i j hlt).1, (half i j hlt).2, by omega⟩
      obtain ⟨q, hq1, hq2, eq⟩ : ∃ q : Nat, q + h ≤ p ∧ p ≤ q + h ∧ (p : Int) - (h : Int) = (q : Int) := ⟨p - h, by omega, by omega, by omega⟩
      obtain ⟨x, y, cx, cy, HE, f1, f2, f3, f4, hcmp⟩ := cmp_pack S1.out R C hs.symm q h (by omega) (by omega)
      have bz1 : (h : Int) < (d.size : Int) := by omega
      have bz2 : (q : Int) < (d.size : Int) := by omega
      have ew : IntKind.i64.wrap (q : Int) = (q : Int) := by rw [IntKind.wrap_i64]; omega
      have hq : p - h = q := by omega
      have HQ := Lib.hid hq; clear hq
      by_cases hlv : cmpI cx cy < 0
      · go_wp2_with fail
        go_quiet_grown (first | (go_at_call 92; exact hcmp.out _ _))
        have S3 := Lib.hid (S1.out.grown nq osq)
        clear hcmp f1 f2 f3 f4
        go_wp2_with fail
        go_roundg (h - i)
        case measure => omega
        case rel =>
          have hk : cls d[p - h]! < cls d[h]! := by rw [HQ.out]; obtain ⟨_, h2, _, h4⟩ := HE.out; rw [h2, h4]; exact (cmpI_neg _ _).1 hlv
          exact ⟨i, h, rfl, rfl, hmi, by omega, by omega, by omega, S3, HL, Lib.hid fun z z1 z2 => by
            by_cases c : z = h
            · rw [c]; exact hk
            · have k1 := HS1.out h z (by omega) (by omega) (by omega)
              have k2 := HS2.out (p - z) (p - h) (by omega) (by omega) (by omega)
              omega⟩
      · have hld : decide (cmpI cx cy < 0) = false := decide_eq_false hlv
        go_wp2_with fail
        go_quiet_grown (first | (go_at_call 92; exact hcmp.out _ _))
        have S3 := Lib.hid (S1.out.grown nq osq)
        clear hcmp f1 f2 f3 f4
        go_wp2_with fail
        go_roundg (j - (h + 1))
        case measure => omega
        case rel =>
          have hk : cls d[h]! ≤ cls d[p - h]! := by rw [HQ.out]; obtain ⟨_, h2, _, h4⟩ := HE.out; rw [h2, h4]; have := mt (cmpI_neg cx cy).2 (by omega); omega
          exact ⟨h + 1, j, by go_num, rfl, by omega, by omega, hjb, by omega, S3, Lib.hid fun z z1 z2 => by
            by_cases c : z = h
            · rw [c]; exact hk
            · have k1 := HS1.out z h (by omega) (by omega) (by omega)
              have k2 := HS2.out (p - h) (p - z) (by omega) (by omega) (by omega)
              omega, HH⟩
    · obtain rfl : j = i := by omega
      obtain ⟨s, rfl⟩ : ∃ s, s = j := ⟨j, rfl⟩
      have HFd : Hid (Go.Gz.Found cls d a m b mid s) := Lib.hid ⟨by omega, by omega, by omega, by omega, fun x x1 x2 x3 => by
          have := HL.out x (by omega) x2
          rw [show p - x = mid + m - 1 - x by omega] at this; exact this, fun x x1 x2 x3 => by
          have := HH.out x x1 (by omega)
          rw [show p - x = mid + m - 1 - x by omega] at this; exact this⟩
      clear HL HH
      obtain ⟨t, ht1, ht2, et⟩ : ∃ t : Nat, t + s ≤ n ∧ n ≤ t + s ∧ (n : Int) - (s : Int) = (t : Int) := ⟨n - s, by omega, by omega, by omega⟩
      have hlz : ¬ (s : Int) < (s : Int) := by omega
      by_cases hA : s < m
      · by_cases hB : a < s
        · by_cases hC : t < b
          · have z0 : (s : Int) < (m : Int) := by omega
            have z1 : (m : Int) < (t : Int) := by omega
            have z2 : (a : Int) < (s : Int) := by omega
            have z3 : (s : Int) < (mid : Int) := by omega
            have z4 : (mid : Int) < (t : Int) := by omega
            have z5 : (t : Int) < (b : Int) := by omega
            have fr := Lib.hid (rotate cls (cmpV B) blk off cap s m t d0 d w0 wr R hs S1.out (by omega) (by omega) (by omega) (by omega))
            go_wp2_with fail
            refine fr.out.mono ?_
            rintro e w1 ⟨rfl, d1, hr1, S2⟩
            have HR := Lib.hid hr1; clear hr1 fr
            have S3 := Lib.hid S2; clear S2
            have hd1 := Lib.hid HR.out.1
            have HF := Lib.hid (found_at HFd.out (by omega) (by omega) HS1.out HS2.out (by omega) HR.out)
            have c1 := IH.out a s mid (by omega) (by omega) (by omega) (by omega) d1 w1 (by rw [hd1.out]; exact hs.symm) S3.out HF.out.2.2.left HF.out.2.2.left'
            rw [hd1.out] at c1
            have C1 := Lib.hid c1; clear c1
            go_wp2_with fail
            refine C1.out.mono ?_
            rintro e w2 ⟨rfl, d2, hd2, S4⟩
            have HD := Lib.hid hd2; clear hd2 C1
            have S5 := Lib.hid S4; clear S4
            have hz2 := Lib.hid (HD.out.1.1.trans hd1.out)
            have c2 := IH.out mid t b (by omega) (by omega) (by omega) (by omega) d2 w2 (by rw [hz2.out]; exact hs.symm) S5.out (HD.out.srt_out HF.out.2.2.right (Or.inr (Nat.le_refl _))) (HD.out.srt_out HF.out.2.2.right' (Or.inr (by omega)))
            rw [hz2.out] at c2
            have C2 := Lib.hid c2; clear c2
            go_wp2_with fail
            refine C2.out.mono ?_
            rintro e w3 ⟨rfl, d3, hd3, S6⟩
            go_wp2_with fail
            go_end0
            exact ⟨rfl, d3, HF.out.2.2.done HF.out.1 HF.out.2.1 HD.out hd3 (by omega) (by omega), S6⟩
          · have z0 : (s : Int) < (m : Int) := by omega
            have z1 : (m : Int) < (t : Int) := by omega
            have z2 : (a : Int) < (s : Int) := by omega
            have z3 : (s : Int) < (mid : Int) := by omega
            have z4 : (mid : Int) < (t : Int) := by omega
            have z5 : ¬ (t : Int) < (b : Int) := by omega
            have fr := Lib.hid (rotate cls (cmpV B) blk off cap s m t d0 d w0 wr R hs S1.out (by omega) (by omega) (by omega) (by omega))
            go_wp2_with fail
            refine fr.out.mono ?_
            rintro e w1 ⟨rfl, d1, hr1, S2⟩
            have HR := Lib.hid hr1; clear hr1 fr
            have S3 := Lib.hid S2; clear S2
            have hd1 := Lib.hid HR.out.1
            have HF := Lib.hid (found_at HFd.out (by omega) (by omega) HS1.out HS2.out (by omega) HR.out)
            have c1 := IH.out a s mid (by omega) (by omega) (by omega) (by omega) d1 w1 (by rw [hd1.out]; exact hs.symm) S3.out HF.out.2.2.left HF.out.2.2.left'
            rw [hd1.out] at c1
            have C1 := Lib.hid c1; clear c1
            go_wp2_with fail
            refine C1.out.mono ?_
            rintro e w2 ⟨rfl, d2, hd2, S4⟩
            have HD := Lib.hid hd2; clear hd2 C1
            have S5 := Lib.hid S4; clear S4
            have hz2 := Lib.hid (HD.out.1.1.trans hd1.out)
            have HD3 := Lib.hid (step_second HF.out.2.2 HD.out (by omega))
            go_wp2_with fail
            go_end0
            exact ⟨rfl, d2, HF.out.2.2.done HF.out.1 HF.out.2.1 HD.out HD3.out (by omega) (by omega), S5.out⟩
        · by_cases hC : t < b
          · have z0 : (s : Int) < (m : Int) := by omega
            have z1 : (m : Int) < (t : Int) := by omega
            have z2 : ¬ (a : Int) < (s : Int) := by omega
            have z3 : (mid : Int) < (t : Int) := by omega
            have z4 : (t : Int) < (b : Int) := by omega
            have fr := Lib.hid (rotate cls (cmpV B) blk off cap s m t d0 d w0 wr R hs S1.out (by omega) (by omega) (by omega) (by omega))
            go_wp2_with fail
            refine fr.out.mono ?_
            rintro e w1 ⟨rfl, d1, hr1, S2⟩
            have HR := Lib.hid hr1; clear hr1 fr
            have S3 := Lib.hid S2; clear S2
            have hd1 := Lib.hid HR.out.1
            have HF := Lib.hid (found_at HFd.out (by omega) (by omega) HS1.out HS2.out (by omega) HR.out)
            obtain ⟨d2, HD, hz2⟩ : ∃ d2 : Array Int, Hid (d2 = d1 ∧ Done cls a mid d1 d2) ∧ Hid (d2.size = d.size) := ⟨d1, Lib.hid ⟨rfl, step_first HF.out.2.2 (by omega)⟩, hd1⟩
            obtain ⟨w2, S5, HW2⟩ : ∃ w2 : World, Hid (SWK (encC cls) 2 w0 blk off d2 w2) ∧ w2 = w1 := ⟨w1, Lib.hid (by rw [HD.out.1]; exact S3.out), rfl⟩
            subst HW2
            have HD := Lib.hid HD.out.2
            have c2 := IH.out mid t b (by omega) (by omega) (by omega) (by omega) d2 w2 (by rw [hz2.out]; exact hs.symm) S5.out (HD.out.srt_out HF.out.2.2.right (Or.inr (Nat.le_refl _))) (HD.out.srt_out HF.out.2.2.right' (Or.inr (by omega)))
            rw [hz2.out] at c2
            have C2 := Lib.hid c2; clear c2
            go_wp2_with fail
            refine C2.out.mono ?_
            rintro e w3 ⟨rfl, d3, hd3, S6⟩
            go_wp2_with fail
            go_end0
            exact ⟨rfl, d3, HF.out.2.2.done HF.out.1 HF.out.2.1 HD.out hd3 (by omega) (by omega), S6⟩
          · have z0 : (s : Int) < (m : Int) := by omega
            have z1 : (m : Int) < (t : Int) := by omega
            have z2 : ¬ (a : Int) < (s : Int) := by omega
            have z3 : (mid : Int) < (t : Int) := by omega
            have z4 : ¬ (t : Int) < (b : Int) := by omega
            have fr := Lib.hid (rotate cls (cmpV B) blk off cap s m t d0 d w0 wr R hs S1.out (by omega) (by omega) (by omega) (by omega))
            go_wp2_with fail
            refine fr.out.mono ?_
            rintro e w1 ⟨rfl, d1, hr1, S2⟩
            have HR := Lib.hid hr1; clear hr1 fr
            have S3 := Lib.hid S2; clear S2
            have hd1 := Lib.hid HR.out.1
            have HF := Lib.hid (found_at HFd.out (by omega) (by omega) HS1.out HS2.out (by omega) HR.out)
            obtain ⟨d2, HD, hz2⟩ : ∃ d2 : Array Int, Hid (d2 = d1 ∧ Done cls a mid d1 d2) ∧ Hid (d2.size = d.size) := ⟨d1, Lib.hid ⟨rfl, step_first HF.out.2.2 (by omega)⟩, hd1⟩
            obtain ⟨w2, S5, HW2⟩ : ∃ w2 : World, Hid (SWK (encC cls) 2 w0 blk off d2 w2) ∧ w2 = w1 := ⟨w1, Lib.hid (by rw [HD.out.1]; exact S3.out), rfl⟩
            subst HW2
            have HD := Lib.hid HD.out.2
            have HD3 := Lib.hid (step_second HF.out.2.2 HD.out (by omega))
            go_wp2_with fail
            go_end0
            exact ⟨rfl, d2, HF.out.2.2.done HF.out.1 HF.out.2.1 HD.out HD3.out (by omega) (by omega), S5.out⟩
      · by_cases hB : s < mid
        · have z0 : ¬ (s : Int) < (m : Int) := by omega
          have z1 : (a : Int) < (s : Int) := by omega
          have z2 : (s : Int) < (mid : Int) := by omega
          have z3 : ¬ (mid : Int) < (t : Int) := by omega
          obtain ⟨d1, HR, hd1⟩ : ∃ d1 : Array Int, Hid (d1 = d ∧ Rot s m t d d1) ∧ Hid (d1.size = d.size) := ⟨d, Lib.hid ⟨rfl, rot_same d (by omega)⟩, Lib.hid rfl⟩
          obtain ⟨w1, S3, HW⟩ : ∃ w1 : World, Hid (SWK (encC cls) 2 w0 blk off d1 w1) ∧ w1 = wr := ⟨wr, Lib.hid (by rw [HR.out.1]; exact S1.out), rfl⟩
          subst HW
          have HR := Lib.hid HR.out.2
          have HF := Lib.hid (found_at HFd.out (by omega) (by omega) HS1.out HS2.out (by omega) HR.out)
          have c1 := IH.out a s mid (by omega) (by omega) (by omega) (by omega) d1 w1 (by rw [hd1.out]; exact hs.symm) S3.out HF.out.2.2.left HF.out.2.2.left'
          rw [hd1.out] at c1
          have C1 := Lib.hid c1; clear c1
          go_wp2_with fail
          refine C1.out.mono ?_
          rintro e w2 ⟨rfl, d2, hd2, S4⟩
          have HD := Lib.hid hd2; clear hd2 C1
          have S5 := Lib.hid S4; clear S4
          have hz2 := Lib.hid (HD.out.1.1.trans hd1.out)
          have HD3 := Lib.hid (step_second HF.out.2.2 HD.out (by omega))
          go_wp2_with fail
          go_end0
          exact ⟨rfl, d2, HF.out.2.2.done HF.out.1 HF.out.2.1 HD.out HD3.out (by omega) (by omega), S5.out⟩
        · have z0 : ¬ (s : Int) < (m : Int) := by omega
          have z1 : (a : Int) < (s : Int) := by omega
          have z2 : ¬ (s : Int) < (mid : Int) := by omega
          have z3 : ¬ (mid : Int) < (t : Int) := by omega
          obtain ⟨d1, HR, hd1⟩ : ∃ d1 : Array Int, Hid (d1 = d ∧ Rot s m t d d1) ∧ Hid (d1.size = d.size) := ⟨d, Lib.hid ⟨rfl, rot_same d (by omega)⟩, Lib.hid rfl⟩
          obtain ⟨w1, S3, HW⟩ : ∃ w1 : World, Hid (SWK (encC cls) 2 w0 blk off d1 w1) ∧ w1 = wr := ⟨wr, Lib.hid (by rw [HR.out.1]; exact S1.out), rfl⟩
          subst HW
          have HR := Lib.hid HR.out.2
          have HF := Lib.hid (found_at HFd.out (by omega) (by omega) HS1.out HS2.out (by omega) HR.out)
          obtain ⟨d2, HD, hz2⟩ : ∃ d2 : Array Int, Hid (d2 = d1 ∧ Done cls a mid d1 d2) ∧ Hid (d2.size = d.size) := ⟨d1, Lib.hid ⟨rfl, step_first HF.out.2.2 (by omega)⟩, hd1⟩
          obtain ⟨w2, S5, HW2⟩ : ∃ w2 : World, Hid (SWK (encC cls) 2 w0 blk off d2 w2) ∧ w2 = w1 := ⟨w1, Lib.hid (by rw [HD.out.1]; exact S3.out), rfl⟩
          subst HW2
          have HD := Lib.hid HD.out.2
          have HD3 := Lib.hid (step_second HF.out.2.2 HD.out (by omega))
          go_wp2_with fail
          go_end0
          exact ⟨rfl, d2, HF.out.2.2.done HF.out.1 HF.out.2.1 HD.out HD3.out (by omega) (by omega), S5.out⟩

/-- a merge, of whatever rows. -/
theorem symMerge (cls : Int → Int) (B blk off cap : Nat) (d0 : Array Int) (w0 : World) (R : RowK (encC cls) 2 w0 blk off d0) (C : CmpOK w0 blk B) (hsz : d0.size < 1000000) :
    ∀ (N a m b : Nat), b - a ≤ N → a < m → m < b → b ≤ d0.size → SymOK cls B blk off cap a m b d0 w0
  | 0, a, m, b, hN, h1, h2, _ => by omega
  | N + 1, a, m, b, hN, h1, h2, hb => by
    by_cases c1 : m = a + 1
    · subst c1; exact symA cls B blk off cap a b d0 w0 R C h2 hb hsz
    · by_cases c2 : b = m + 1
      · subst c2; exact symB cls B blk off cap a m d0 w0 R C (by omega) hb hsz
      · have ih : ∀ a' m' b', b' - a' < b - a → a' < m' → m' < b' → b' ≤ d0.size → SymOK cls B blk off cap a' m' b' d0 w0 := fun a' m' b' k1 k2 k3 k4 => symMerge cls B blk off cap d0 w0 R C hsz N a' m' b' (by omega) k2 k3 k4
        by_cases c3 : (a + b) / 2 < m
        · exact symC1 cls B blk off cap a m b ((a + b) / 2) d0 w0 R C (by omega) (by omega) hb hsz (by omega) (by omega) c3 ih
        · exact symC2 cls B blk off cap a m b ((a + b) / 2) d0 w0 R C (by omega) (by omega) hb hsz (by omega) (by omega) (by omega) ih
end Go.Proofs.YtcocmmndonlhkaaDoor
namespace Go.Proofs.YtcocmmndonlhkaaDoor
open Go.RowKit Go.Gz Go.Sort Go.Lib

/-- sorted in blocks of bs: of the blocks lo to hi. -/
theorem blk_one {cls : Int → Int} {d : Array Int} {bs n k : Nat} (h : ∀ q, Srt cls d (q * bs) (min (q * bs + bs) n)) : Srt cls d (k * bs) (min (k * bs + bs) n) := h k

structure Pass (cls : Int → Int) (bs n q : Nat) (d e : Array Int) : Prop where
  chg : Chg 0 n d e
  stb : Stb cls d e
  done : ∀ k, k < q → Srt cls e (k * (2 * bs)) (min (k * (2 * bs) + 2 * bs) n)
  left : ∀ k, 2 * q ≤ k → Srt cls e (k * bs) (min (k * bs + bs) n)

theorem mul_two (q bs : Nat) : 2 * q * bs = q * (2 * bs) := by rw [Nat.mul_comm 2 q, Nat.mul_assoc]
theorem mul_two1 (q bs : Nat) : (2 * q + 1) * bs = q * (2 * bs) + bs := by rw [Nat.add_mul, mul_two, Nat.one_mul]
theorem mul_le_of {k q x : Nat} (h : k < q) : k * x + x ≤ q * x := by
  have := Nat.mul_le_mul_right x (show k + 1 ≤ q from h)
  rwa [Nat.add_mul, Nat.one_mul] at this

/-- one pair of blocks merged. -/
theorem Pass.step {cls : Int → Int} {bs n q : Nat} {d e f : Array Int} (h : Pass cls bs n q d e) (hd : Done cls (q * (2 * bs)) (min (q * (2 * bs) + 2 * bs) n) e f) : Pass cls bs n (q + 1) d f := by
  refine ⟨h.chg.trans (hd.1.wider (Nat.zero_le _) (by omega)), h.stb.trans hd.2.1, fun k hk => ?_, fun k hk => ?_⟩
  · by_cases c : k = q
    · rw [c]; exact hd.2.2
    · have h1 := mul_le_of (x := 2 * bs) (show k < q by omega)
      exact hd.srt_out (h.done k (by omega)) (Or.inl (by omega))
  · have h1 : q * (2 * bs) + 2 * bs ≤ k * bs := by
      have := Nat.mul_le_mul_right bs (show 2 * q + 2 ≤ k by omega)
      rw [Nat.add_mul, mul_two] at this
      exact this
    refine hd.srt_out (h.left k (by omega)) ?_
    by_cases c : q * (2 * bs) + 2 * bs ≤ n
    · right; omega
    · right; omega
theorem Pass.srt {cls : Int → Int} {bs n q : Nat} {d e : Array Int} (h : Pass cls bs n q d e) (hn : n ≤ q * (2 * bs) + bs) : ∀ k, Srt cls e (k * (2 * bs)) (min (k * (2 * bs) + 2 * bs) n) := by
  intro k
  by_cases c : k < q
  · exact h.done k c
  · intro x y h1 h2 h3
    have hk : q * (2 * bs) ≤ k * (2 * bs) := Nat.mul_le_mul_right _ (by omega)
    have hl := h.left (2 * q) (Nat.le_refl _)
    rw [mul_two] at hl
    exact hl x y (by omega) h2 (by omega)

theorem insertion_calls (cls : Int → Int) (B blk off cap a b : Nat) (d0 d : Array Int) (w0 w : World) (R : RowK (encC cls) 2 w0 blk off d0) (C : CmpOK w0 blk B) (hs : d0.size = d.size) (n : Nat) (hn : d.size = n)
    (S : SWK (encC cls) 2 w0 blk off d w) (hab : a ≤ b) (hb : b ≤ d.size) (hsz : d.size < 1000000) :
    Calls Tryd.prog 97 #[.slice (some ⟨blk, off, none⟩) n cap, .int .i64 a, .int .i64 b, cmpV B] w fun e w' => e = .returned (.tuple #[]) ∧ ∃ d', Hid (Done cls a b d d') ∧ Hid (SWK (encC cls) 2 w0 blk off d' w') := by
  subst hn
  exact (insertion cls B blk off cap a b d0 d w0 w R C hs S hab hb hsz).mono fun _ _ ⟨h1, d', h2, h3⟩ => ⟨h1, d', Lib.hid h2, Lib.hid h3⟩
theorem merge_calls (cls : Int → Int) (B blk off cap a m b : Nat) (d0 d : Array Int) (w0 w : World) (R : RowK (encC cls) 2 w0 blk off d0) (C : CmpOK w0 blk B) (hs : d0.size = d.size) (n : Nat) (hn : d.size = n)
    (S : SWK (encC cls) 2 w0 blk off d w) (ham : a < m) (hmb : m < b) (hb : b ≤ d.size) (hsz : d.size < 1000000) (h1 : Srt cls d a m) (h2 : Srt cls d m b) :
    Calls Tryd.prog 98 #[.slice (some ⟨blk, off, none⟩) n cap, .int .i64 a, .int .i64 m, .int .i64 b, cmpV B] w fun e w' => e = .returned (.tuple #[]) ∧ ∃ d', Hid (Done cls a b d d') ∧ Hid (SWK (encC cls) 2 w0 blk off d' w') := by
  subst hn
  exact (symMerge cls B blk off cap d0 w0 R C (by omega) (b - a) a m b (Nat.le_refl _) ham hmb (by omega) d w hs.symm S h1 h2).mono fun _ _ ⟨h1, d', h2, h3⟩ => ⟨h1, d', Lib.hid h2, Lib.hid h3⟩

set_option maxHeartbeats 4000000 in
set_option maxRecDepth 1000000 in
theorem stable (cls : Int → Int) (B blk off cap : Nat) (d : Array Int) (w0 : World) (R : RowK (encC cls) 2 w0 blk off d) (C : CmpOK w0 blk B) (hsz : d.size < 1000000) :
    Calls Tryd.prog 91 #[.slice (some ⟨blk, off, none⟩) d.size cap, .int .i64 d.size, cmpV B] w0 fun e w' => e = .returned (.tuple #[]) ∧ ∃ d', Done cls 0 d.size d d' ∧ SWK (encC cls) 2 w0 blk off d' w' := by
  obtain ⟨n, hn⟩ : ∃ n, d.size = n := ⟨_, rfl⟩
  rw [hn] at hsz ⊢
  have HN := Lib.hid hn; clear hn
  have S0 := Lib.hid (SWK.start R.hH)
  go_enter Tryd.func91, Tryd.ntmps91
  go_wp2_with fail
  go_loopg [7, 8] n (fun g va vb wr => ∃ (k A E : Nat) (dk : Array Int), va = .int .i64 A ∧ vb = .int .i64 E ∧ A + 20 ≤ E ∧ E ≤ A + 20 ∧ A ≤ n ∧ n - A ≤ g ∧ Hid (A = k * 20) ∧ Hid (SWK (encC cls) 2 w0 blk off dk wr) ∧ Hid (Chg 0 n d dk) ∧ Hid (Stb cls d dk) ∧ Hid (∀ q, q < k → Srt cls dk (q * 20) (q * 20 + 20)))
  case atStart => exact ⟨0, 0, 20, d, rfl, rfl, Nat.le_refl _, Nat.le_refl _, Nat.zero_le _, by omega, Lib.hid rfl, S0, Lib.hid (Chg.refl _ _ _), Lib.hid (Stb.refl _), Lib.hid fun q hq => by omega⟩
  case round =>
    clear S0
    obtain ⟨k, A, E, dk, rfl, rfl, hE1, hE2, hAn, hg, HA, S1, HC, HT, HD⟩ := hrel
    have hdk := Lib.hid (HC.out.1.trans HN.out)
    by_cases hlt : E ≤ n
    · have hltz : (E : Int) ≤ (n : Int) := by omega
      have hc := Lib.hid (insertion_calls cls B blk off cap A E d dk w0 wr R C (by rw [hdk.out, HN.out]) n hdk.out S1.out (by omega) (by rw [hdk.out]; exact hlt) (by rw [hdk.out]; exact hsz))
      go_wp2_with fail
      refine hc.out.mono ?_
      rintro e w' ⟨rfl, d', D2, S2⟩
      clear hc
      go_wp2
      go_roundg (n - E)
      case measure => omega
      case rel =>
        exact ⟨k + 1, E, E + 20, d', rfl, by go_num, by omega, by omega, hlt, by omega, Lib.hid (by have := HA.out; omega), S2, Lib.hid (HC.out.trans (D2.out.1.wider (Nat.zero_le _) hlt)), Lib.hid (HT.out.trans D2.out.2.1), Lib.hid fun q hq => by
          by_cases c : q = k
          · have hA := HA.out; rw [c, ← HA.out, show A + 20 = E by omega]; exact D2.out.2.2
          · exact D2.out.srt_out (HD.out q (by omega)) (Or.inl (by have := HA.out; omega))⟩
    · have hltz : ¬ (E : Int) ≤ (n : Int) := by omega
      have hc := Lib.hid (insertion_calls cls B blk off cap A n d dk w0 wr R C (by rw [hdk.out, HN.out]) n hdk.out S1.out hAn (by rw [hdk.out]; omega) (by rw [hdk.out]; exact hsz))
      go_wp2_with fail
      refine hc.out.mono ?_
      rintro e w2 ⟨rfl, d2, D2, S2⟩
      clear hc
      have HC2 := Lib.hid (HC.out.trans (D2.out.1.wider (Nat.zero_le _) (Nat.le_refl _)))
      have HT2 := Lib.hid (HT.out.trans D2.out.2.1)
      have HB2 := Lib.hid (show ∀ q, Srt cls d2 (q * 20) (min (q * 20 + 20) n) from fun q => by
        have hA := HA.out
        by_cases c : q < k
        · exact D2.out.srt_out (fun x y h1 h2 h3 => HD.out q c x y h1 h2 (by omega)) (Or.inl (by omega))
        · exact fun x y h1 h2 h3 => D2.out.2.2 x y (by omega) h2 (by omega))
      clear HC HT HD D2 S1 hdk HA
      go_wp2_with fail
      go_loopg [6] n (fun g vs wr => ∃ (bs : Nat) (dk : Array Int), vs = .int .i64 bs ∧ 1 ≤ bs ∧ bs < 2000020 ∧ n - bs ≤ g ∧ Hid (SWK (encC cls) 2 w0 blk off dk wr) ∧ Hid (Chg 0 n d dk) ∧ Hid (Stb cls d dk) ∧ Hid (∀ q, Srt cls dk (q * bs) (min (q * bs + bs) n)))
      case atStart => exact ⟨20, d2, rfl, by omega, by omega, by omega, S2, HC2, HT2, HB2⟩
      case round =>
        clear HC2 HT2 HB2 S2
        obtain ⟨bs, dk2, rfl, hbs, hbs2, hg2, S3, HC3, HT3, HB3⟩ := hrel
        by_cases hlt2 : bs < n
        · have hltz2 : (bs : Int) < (n : Int) := by omega
          have P0 : Hid (Pass cls bs n 0 d dk2) := Lib.hid ⟨HC3.out, HT3.out, fun q hq => by omega, fun q _ => HB3.out q⟩
          go_wp2_with fail
          go_loopg [7, 8] n (fun g3 va vb wr => ∃ (q A E : Nat) (dk : Array Int), va = .int .i64 A ∧ vb = .int .i64 E ∧ A + 2 * bs ≤ E ∧ E ≤ A + 2 * bs ∧ A ≤ n ∧ n - A ≤ g3 ∧ Hid (A = q * (2 * bs)) ∧ Hid (SWK (encC cls) 2 w0 blk off dk wr) ∧ Hid (Pass cls bs n q d dk))
          case atStart => exact ⟨0, 0, 2 * bs, dk2, rfl, by go_num, by omega, by omega, Nat.zero_le _, by omega, Lib.hid (by simp), S3, P0⟩
          case round =>
            clear S3 HC3 HT3 HB3 P0
            obtain ⟨q, A, E, dk, rfl, rfl, hE1, hE2, hAn, hg3, HA, S4, HP⟩ := hrel
            have hdk := Lib.hid (HP.out.chg.1.trans HN.out)
            obtain ⟨M, hM1, hM2, eM⟩ : ∃ M : Nat, A + bs ≤ M ∧ M ≤ A + bs ∧ (A : Int) + (bs : Int) = (M : Int) := ⟨A + bs, by omega, by omega, by omega⟩
            by_cases hin : E ≤ n
            · have hinz : (E : Int) ≤ (n : Int) := by omega
              have hl1 := HP.out.left (2 * q) (Nat.le_refl _)
              have hl2 := HP.out.left (2 * q + 1) (by omega)
              rw [mul_two, ← HA.out] at hl1
              rw [mul_two1, ← HA.out] at hl2
              have hc := Lib.hid (merge_calls cls B blk off cap A M E d dk w0 wr R C (by rw [hdk.out, HN.out]) n hdk.out S4.out (by omega) (by omega) (by rw [hdk.out]; exact hin) (by rw [hdk.out]; exact hsz)
                (fun x y h1 h2 h3 => hl1 x y h1 h2 (by omega)) (fun x y h1 h2 h3 => hl2 x y (by omega) h2 (by omega)))
              clear hl1 hl2
              go_wp2_with fail
              refine hc.out.mono ?_
              rintro e w' ⟨rfl, d', D2, S5⟩
              clear hc
              go_wp2
              go_roundg (n - E)
              case measure => omega
              case rel =>
                refine ⟨q + 1, E, E + 2 * bs, d', rfl, by go_num, by omega, by omega, hin, by omega, Lib.hid (by rw [Nat.add_mul, Nat.one_mul, ← HA.out]; omega), S5, Lib.hid (HP.out.step ?_)⟩
                rw [← HA.out, show A + 2 * bs = E by omega, Nat.min_eq_left hin]
                exact D2.out
            · have hinz : ¬ (E : Int) ≤ (n : Int) := by omega
              by_cases hm : M < n
              · have hmz : (M : Int) < (n : Int) := by omega
                have hl1 := HP.out.left (2 * q) (Nat.le_refl _)
                have hl2 := HP.out.left (2 * q + 1) (by omega)
                rw [mul_two, ← HA.out] at hl1
                rw [mul_two1, ← HA.out] at hl2
                have hc := Lib.hid (merge_calls cls B blk off cap A M n d dk w0 wr R C (by rw [hdk.out, HN.out]) n hdk.out S4.out (by omega) (by omega) (by rw [hdk.out]; omega) (by rw [hdk.out]; exact hsz)
                  (fun x y h1 h2 h3 => hl1 x y h1 h2 (by omega)) (fun x y h1 h2 h3 => hl2 x y (by omega) h2 (by omega)))
                clear hl1 hl2
                go_wp2_with fail
                refine hc.out.mono ?_
                rintro e w' ⟨rfl, d', D2, S5⟩
                clear hc
                have HP2 := Lib.hid (HP.out.step (f := d') (by rw [← HA.out, Nat.min_eq_right (by omega)]; exact D2.out))
                go_wp2
                go_roundg (n - bs * 2)
                case measure => omega
                case rel =>
                  have hsrt := HP2.out.srt (by rw [Nat.add_mul, Nat.one_mul, ← HA.out]; omega)
                  exact ⟨bs * 2, d', by go_num, by omega, by omega, Nat.le_refl _, S5, Lib.hid HP2.out.chg, Lib.hid HP2.out.stb, Lib.hid (by rw [Nat.mul_comm bs 2]; exact hsrt)⟩
              · have hmz : ¬ (M : Int) < (n : Int) := by omega
                go_wp2_with fail
                go_roundg (n - bs * 2)
                case measure => omega
                case rel =>
                  have hsrt := HP.out.srt (by rw [← HA.out]; omega)
                  exact ⟨bs * 2, dk, by go_num, by omega, by omega, Nat.le_refl _, S4, Lib.hid HP.out.chg, Lib.hid HP.out.stb, Lib.hid (by rw [Nat.mul_comm bs 2]; exact hsrt)⟩
        · have hltz2 : ¬ (bs : Int) < (n : Int) := by omega
          go_wp2_with fail
          go_end0
          refine ⟨rfl, dk2, ⟨HC3.out, HT3.out, fun x y h1 h2 h3 => ?_⟩, S3.out⟩
          have := HB3.out 0
          rw [Nat.zero_mul, Nat.zero_add] at this
          exact this x y h1 h2 (by omega)

theorem by_makes (w : World) : Calls Tryd.prog 84 #[.func (.func 85) #[] #[]] w fun e w' => e = .returned (cmpV w.heap.size) ∧ w' = w.alloc (.cells #[.func (.func 85) #[] #[]] 132) := by
  go_enter Tryd.func84, Tryd.ntmps84
  go_wp2
  go_ret
  exact ⟨rfl, rfl⟩

theorem sortStable (cls : Int → Int) (B blk off cap : Nat) (d : Array Int) (w0 : World) (R : RowK (encC cls) 2 w0 blk off d) (C : CmpOK w0 blk B) (hsz : d.size < 1000000) :
    Calls Tryd.prog 83 #[.slice (some ⟨blk, off, none⟩) d.size cap, cmpV B] w0 fun e w' => e = .returned (.tuple #[]) ∧ ∃ d', Done cls 0 d.size d d' ∧ SWK (encC cls) 2 w0 blk off d' w' := by
  have hc := Lib.hid (stable cls B blk off cap d w0 R C hsz)
  go_enter Tryd.func83, Tryd.ntmps83
  go_wp2_with fail
  refine hc.out.mono ?_
  rintro e w1 ⟨rfl, d', h1, h2⟩
  go_wp2
  go_end0
  exact ⟨rfl, d', h1, h2⟩

/-- lore's sortClasses: the row of pairs holds the same elements, sorted by class, stably. -/
theorem sortClasses_any (cls : Int → Int) (blk off cap : Nat) (d : Array Int) (w : World) (hH : HoldsK (encC cls) 2 w blk off d) (hblk : blk < w.heap.size) (hsz : d.size < 1000000) :
    Calls Tryd.prog 64 #[.slice (some ⟨blk, off, none⟩) d.size cap] w fun e w' => e = .returned (.tuple #[]) ∧ ∃ d', Done cls 0 d.size d d' ∧ SWK (encC cls) 2 w blk off d' w' := by
  have hk : ∀ x, (encC cls x).length = 2 := fun _ => rfl
  have h1 : ∀ x, ∀ v ∈ encC cls x, v.oneCell' = true := fun x v hv => by simp [encC] at hv; rcases hv with rfl | rfl <;> rfl
  obtain ⟨wb, hwb⟩ : ∃ wb, wb = w.alloc (.cells #[.func (.func 85) #[] #[]] 132) := ⟨_, rfl⟩
  have SW := Lib.hid (show SWK (encC cls) 2 w blk off d wb from hwb ▸ (SWK.start hH).alloc _)
  have R : RowK (encC cls) 2 wb blk off d := ⟨hk, h1, by rw [hwb, alloc_eq_grow]; exact holdsK_grow (encC cls) 2 w _ blk off d hblk hH, by rw [hwb]; simp; omega⟩
  have C : CmpOK wb blk w.heap.size := ⟨by rw [hwb]; simp, by omega, by rw [hwb]; simp⟩
  have hc := Lib.hid (sortStable cls w.heap.size blk off cap d wb R C hsz)
  have hb := Lib.hid (by_makes w)
  rw [← hwb] at hb
  clear hk h1 hwb hH
  go_enter Tryd.func64, Tryd.ntmps64
  go_wp2_with fail
  refine hb.out.mono ?_
  rintro e w1 ⟨rfl, rfl⟩
  go_wp2_with fail
  refine hc.out.mono ?_
  rintro e w2 ⟨rfl, d', h1, n, os, rfl⟩
  have H1 := Lib.hid h1; clear h1
  go_wp2
  go_end0
  exact ⟨rfl, d', H1.out, SW.out.on hblk n d' os H1.out.1.1⟩
end Go.Proofs.YtcocmmndonlhkaaDoor
