/-
  Plain mathematics of a stable sort in place: exchanges, rotations, merges, by keys.
-/
import Derived.Sort.LotA
namespace Go.Gz
open Go.Sort
variable {α : Type} [Inhabited α] {key : α → Int}

/-- of each key the same elements in the same order. -/
def Stb (key : α → Int) (d d' : Array α) : Prop := ∀ c, d'.toList.filter (fun x => decide (key x = c)) = d.toList.filter (fun x => decide (key x = c))
def Srt (key : α → Int) (d : Array α) (a b : Nat) : Prop := ∀ i j, a ≤ i → i < j → j < b → key d[i]! ≤ key d[j]!
/-- from a up to b elements have changed places, nowhere else. -/
def Chg (a b : Nat) (d d' : Array α) : Prop :=
  d'.size = d.size ∧ (∀ i, i < a ∨ b ≤ i → d'[i]! = d[i]!) ∧ ∀ i, a ≤ i → i < b → ∃ j, a ≤ j ∧ j < b ∧ d'[i]! = d[j]!
def Done (key : α → Int) (a b : Nat) (d d' : Array α) : Prop := Chg a b d d' ∧ Stb key d d' ∧ Srt key d' a b

omit [Inhabited α] in
theorem Stb.refl (d : Array α) : Stb key d d := fun _ => rfl
omit [Inhabited α] in
theorem Stb.trans {d e f : Array α} (h : Stb key d e) (k : Stb key e f) : Stb key d f := fun c => (k c).trans (h c)
theorem Chg.refl (a b : Nat) (d : Array α) : Chg a b d d := ⟨rfl, fun _ _ => rfl, fun i h1 h2 => ⟨i, h1, h2, rfl⟩⟩
theorem Chg.trans {a b : Nat} {d e f : Array α} (h : Chg a b d e) (k : Chg a b e f) : Chg a b d f :=
  ⟨k.1.trans h.1, fun i hi => (k.2.1 i hi).trans (h.2.1 i hi), fun i h1 h2 => by
    obtain ⟨j, j1, j2, e1⟩ := k.2.2 i h1 h2
    obtain ⟨q, q1, q2, e2⟩ := h.2.2 j j1 j2
    exact ⟨q, q1, q2, e1.trans e2⟩⟩
theorem Chg.wider {a b a' b' : Nat} {d e : Array α} (h : Chg a b d e) (ha : a' ≤ a) (hb : b ≤ b') : Chg a' b' d e :=
  ⟨h.1, fun i hi => h.2.1 i (by omega), fun i h1 h2 => by
    by_cases hin : a ≤ i ∧ i < b
    · obtain ⟨j, j1, j2, e⟩ := h.2.2 i hin.1 hin.2
      exact ⟨j, by omega, by omega, e⟩
    · exact ⟨i, h1, h2, h.2.1 i (by omega)⟩⟩

theorem chg_swp {a b : Nat} (d : Array α) {i j : Nat} (hai : a ≤ i) (hib : i < b) (haj : a ≤ j) (hjb : j < b) (hb : b ≤ d.size) : Chg a b d (swp d i j) := by
  refine ⟨size_swp d i j, fun k hk => ?_, fun k h1 h2 => ?_⟩
  · rw [swp_get d (by omega) (by omega), if_neg (by omega), if_neg (by omega)]
  · rw [swp_get d (by omega) (by omega)]
    split
    · exact ⟨i, hai, hib, rfl⟩
    · split
      · exact ⟨j, haj, hjb, rfl⟩
      · exact ⟨k, h1, h2, rfl⟩

theorem toList_range (d : Array α) : d.toList = (List.range d.size).map (fun i => d[i]!) := by
  apply List.ext_getElem (by simp)
  intro i h1 h2
  simp at h1
  simp [h1]
def piece (d : Array α) (s n : Nat) : List α := (List.range' s n).map (fun i => d[i]!)
theorem piece_add (d : Array α) (s n m : Nat) : piece d s (n + m) = piece d s n ++ piece d (s + n) m := by
  unfold piece
  rw [← List.map_append, List.range'_append_1]
theorem toList_piece (d : Array α) : d.toList = piece d 0 d.size := by rw [toList_range, List.range_eq_range']; rfl
theorem piece_eq (d e : Array α) (s t n : Nat) (h : ∀ i, i < n → e[t + i]! = d[s + i]!) : piece e t n = piece d s n := by
  unfold piece
  apply List.ext_getElem (by simp)
  intro i h1 h2
  simp at h1
  simp [h i h1]
theorem mem_piece {d : Array α} {s n : Nat} {x : α} (h : x ∈ piece d s n) : ∃ i, s ≤ i ∧ i < s + n ∧ d[i]! = x := by
  obtain ⟨i, hi, e⟩ := List.mem_map.1 h
  have := List.mem_range'_1.1 hi
  exact ⟨i, this.1, this.2, e⟩

/-- the rotation of what stands from a up to m, and from m up to b. -/
def Rot (a m b : Nat) (d d' : Array α) : Prop :=
  d'.size = d.size ∧ ∀ x, (x < a ∨ b ≤ x → d'[x]! = d[x]!) ∧ (a ≤ x → x < a + (b - m) → d'[x]! = d[x + (m - a)]!) ∧ (a + (b - m) ≤ x → x < b → d'[x]! = d[x - (b - m)]!)

theorem Rot.refl_left {a b : Nat} (d : Array α) : Rot a a b d d :=
  ⟨rfl, fun x => ⟨fun _ => rfl, fun _ _ => by rw [Nat.sub_self, Nat.add_zero], fun h1 h2 => by omega⟩⟩
theorem Rot.refl_right {a b : Nat} (d : Array α) : Rot a b b d d :=
  ⟨rfl, fun x => ⟨fun _ => rfl, fun h1 h2 => by omega, fun h1 h2 => by rw [Nat.sub_self, Nat.sub_zero]⟩⟩

theorem Rot.chg {a m b : Nat} {d d' : Array α} (h : Rot a m b d d') (ham : a ≤ m) (hmb : m ≤ b) : Chg a b d d' :=
  ⟨h.1, fun i hi => (h.2 i).1 hi, fun i h1 h2 => by
    by_cases hx : i < a + (b - m)
    · exact ⟨_, by omega, by omega, (h.2 i).2.1 h1 hx⟩
    · exact ⟨_, by omega, by omega, (h.2 i).2.2 (by omega) h2⟩⟩

theorem Rot.stb {a m b : Nat} {d d' : Array α} (h : Rot a m b d d') (ham : a ≤ m) (hmb : m ≤ b) (hb : b ≤ d.size)
    (hlt : ∀ i j, a ≤ i → i < m → m ≤ j → j < b → key d[j]! < key d[i]!) : Stb key d d' := by
  intro c
  have e1 : d.toList = piece d 0 a ++ (piece d a (m - a) ++ (piece d m (b - m) ++ piece d b (d.size - b))) := by
    rw [toList_piece]
    have h1 := piece_add d 0 a (d.size - a)
    have h2 := piece_add d a (m - a) (d.size - m)
    have h3 := piece_add d m (b - m) (d.size - b)
    rw [Nat.zero_add] at h1
    rw [show a + (m - a) = m by omega] at h2
    rw [show m + (b - m) = b by omega] at h3
    rw [← h3, show b - m + (d.size - b) = d.size - m by omega, ← h2, show m - a + (d.size - m) = d.size - a by omega, ← h1, show a + (d.size - a) = d.size by omega]
  have e2 : d'.toList = piece d 0 a ++ (piece d m (b - m) ++ (piece d a (m - a) ++ piece d b (d.size - b))) := by
    rw [toList_piece, h.1]
    have h1 := piece_add d' 0 a (d.size - a)
    have h2 := piece_add d' a (b - m) (d.size - a - (b - m))
    have h3 := piece_add d' (a + (b - m)) (m - a) (d.size - b)
    rw [Nat.zero_add] at h1
    rw [show a + (b - m) + (m - a) = b by omega] at h3
    rw [show a + (d.size - a) = d.size by omega] at h1
    rw [show b - m + (d.size - a - (b - m)) = d.size - a by omega] at h2
    rw [show m - a + (d.size - b) = d.size - a - (b - m) by omega] at h3
    rw [h1, h2, h3]
    rw [piece_eq d d' 0 0 a (fun i hi => (h.2 _).1 (by omega)), piece_eq d d' m a (b - m) (fun i hi => by rw [(h.2 (a + i)).2.1 (by omega) (by omega)]; congr 1; omega),
      piece_eq d d' a (a + (b - m)) (m - a) (fun i hi => by rw [(h.2 _).2.2 (by omega) (by omega)]; congr 1; omega), piece_eq d d' b b (d.size - b) (fun i hi => (h.2 _).1 (by omega))]
  rw [e1, e2]
  simp only [List.filter_append]
  congr 1
  rw [← List.append_assoc, ← List.append_assoc]
  congr 1
  by_cases hA : (piece d a (m - a)).filter (fun x => decide (key x = c)) = []
  · rw [hA, List.append_nil, List.nil_append]
  · obtain ⟨x, hx⟩ := List.exists_mem_of_ne_nil _ hA
    obtain ⟨hx1, hx2⟩ := List.mem_filter.1 hx
    obtain ⟨i, i1, i2, rfl⟩ := mem_piece hx1
    have hc : key d[i]! = c := of_decide_eq_true hx2
    have hB : (piece d m (b - m)).filter (fun x => decide (key x = c)) = [] := by
      apply List.filter_eq_nil_iff.2
      intro y hy
      obtain ⟨j, j1, j2, rfl⟩ := mem_piece hy
      have := hlt i j i1 (by omega) j1 (by omega)
      simp
      omega
    rw [hB, List.append_nil, List.nil_append]

/-- an exchange of neighbours is a rotation. -/
theorem rot_swp (d : Array α) (k : Nat) (hk : k + 1 < d.size) : Rot k (k + 1) (k + 2) d (swp d k (k + 1)) ∧ Rot k (k + 1) (k + 2) d (swp d (k + 1) k) := by
  constructor
  · refine ⟨size_swp d _ _, fun x => ⟨fun hx => ?_, fun h1 h2 => ?_, fun h1 h2 => ?_⟩⟩
    · rw [swp_get d (by omega) (by omega), if_neg (by omega), if_neg (by omega)]
    · obtain rfl : x = k := by omega
      rw [swp_get d (by omega) (by omega), if_neg (by omega), if_pos rfl]; congr 1; omega
    · obtain rfl : x = k + 1 := by omega
      rw [swp_get d (by omega) (by omega), if_pos rfl]; congr 1; omega
  · refine ⟨size_swp d _ _, fun x => ⟨fun hx => ?_, fun h1 h2 => ?_, fun h1 h2 => ?_⟩⟩
    · rw [swp_get d (by omega) (by omega), if_neg (by omega), if_neg (by omega)]
    · obtain rfl : x = k := by omega
      rw [swp_get d (by omega) (by omega), if_pos rfl]; congr 1; omega
    · obtain rfl : x = k + 1 := by omega
      rw [swp_get d (by omega) (by omega), if_neg (by omega), if_pos rfl]; congr 1; omega

theorem stb_swp (d : Array α) (k : Nat) (hk : k + 1 < d.size) (hlt : key d[k + 1]! < key d[k]!) : Stb key d (swp d k (k + 1)) ∧ Stb key d (swp d (k + 1) k) := by
  obtain ⟨h1, h2⟩ := rot_swp d k hk
  have h : ∀ i j, k ≤ i → i < k + 1 → k + 1 ≤ j → j < k + 2 → key d[j]! < key d[i]! := fun i j a b c e => by
    obtain rfl : i = k := by omega
    obtain rfl : j = i + 1 := by omega
    exact hlt
  exact ⟨h1.stb (by omega) (by omega) (by omega) h, h2.stb (by omega) (by omega) (by omega) h⟩

/-! ### insertion -/
/-- sorted from a up to b, but for the element at j, which is no greater than those behind it. -/
def Srtx (key : α → Int) (d : Array α) (a b j : Nat) : Prop := ∀ x y, a ≤ x → x < y → y < b → y ≠ j → key d[x]! ≤ key d[y]!
theorem Srt.srtx {d : Array α} {a i : Nat} (h : Srt key d a i) : Srtx key d a (i + 1) i := fun x y h1 h2 h3 h4 => h x y h1 h2 (by omega)
theorem Srtx.start {d : Array α} {a b : Nat} (h : Srtx key d a b a) : Srt key d a b := fun x y h1 h2 h3 => h x y h1 h2 h3 (by omega)
theorem Srtx.stop {d : Array α} {a b j : Nat} (h : Srtx key d a b (j + 1)) (hj : a ≤ j) (hle : key d[j]! ≤ key d[j + 1]!) : Srt key d a b := fun x y h1 h2 h3 => by
  by_cases e : y = j + 1
  · subst e
    by_cases e2 : x = j
    · subst e2; exact hle
    · have := h x j h1 (by omega) (by omega) (by omega); omega
  · exact h x y h1 h2 h3 e
theorem Srtx.step {d : Array α} {a b j : Nat} (h : Srtx key d a b (j + 1)) (hj : a ≤ j) (hb : j + 1 < b) (hs : b ≤ d.size) (hlt : key d[j + 1]! < key d[j]!) : Srtx key (swp d (j + 1) j) a b j := fun x y h1 h2 h3 h4 => by
  have g : ∀ z, (swp d (j + 1) j)[z]! = if z = j then d[j + 1]! else if z = j + 1 then d[j]! else d[z]! := fun z => by rw [swp_get d (by omega) (by omega)]
  rw [g x, g y, if_neg h4]
  by_cases e : y = j + 1
  · rw [if_pos e]
    by_cases e2 : x = j
    · rw [if_pos e2]; omega
    · rw [if_neg e2, if_neg (by omega)]; exact h x j h1 (by omega) (by omega) (by omega)
  · rw [if_neg e]
    by_cases e2 : x = j
    · rw [if_pos e2]; exact h (j + 1) y (by omega) (by omega) h3 (by omega)
    · rw [if_neg e2]
      by_cases e3 : x = j + 1
      · rw [if_pos e3]; exact h j y (by omega) (by omega) h3 (by omega)
      · rw [if_neg e3]; exact h x y h1 h2 h3 (by omega)
end Go.Gz
