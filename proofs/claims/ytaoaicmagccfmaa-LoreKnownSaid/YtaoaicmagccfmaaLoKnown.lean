/-
  LoreKnown: the walk.
-/
import Derived.Test.YtaoaicmagccfmaaLoAwake
namespace Go.Proofs.Ytaoaicmagccfmaa
open Go.RowKit Go.Gz Go.Sort

theorem row_heap (w : World) (k : IntKind) (b : Nat) (t : TypeId) (fr : Nat × Nat) (xs : List Int) (h : w.heap[b]? = some (.cells (xs.map (Value.int k)).toArray t fr)) : Row w k (some ⟨b, 0, none⟩) xs := by
  refine Or.inr ⟨b, 0, rfl, (Array.getElem?_eq_some_iff.1 h).1, fun j hj => ?_⟩
  simp only [World.cell?, h, Nat.zero_add]
  simp [List.getD, hj]
/-- the lore of the known ones. -/
def knL (h : Nat) : List LR := [⟨233, 0, some ⟨h, 0, none⟩, [101, 769], 2⟩, ⟨769, 230, none, [], 0⟩, ⟨803, 220, none, [], 0⟩]
theorem kn_may (h : Nat) : mayB (knL h) = true := by kernel_rfl
theorem kn_1 (h : Nat) : normalL (knL h) [233, 803] = [101, 803, 769] := by kernel_rfl
theorem kn_2 (h : Nat) : normalL (knL h) [101, 803, 769] = [101, 803, 769] := by kernel_rfl
theorem kn_3 (h : Nat) : normalL (knL h) [769, 803, 97, 769, 769] = [803, 769, 97, 769, 769] := by kernel_rfl

def bad1 : List LR := [⟨97, 0, none, [], 0⟩]
def bad2 : List LR := [⟨98, 1, none, [], 0⟩, ⟨97, 1, none, [], 0⟩]
def bad3 : List LR := [⟨97, 255, none, [], 0⟩]
def bad4 (h : Nat) : List LR := [⟨97, 0, some ⟨h, 0, none⟩, [1, 2, 3, 4], 4⟩]
def bad5 : List LR := [⟨55296, 1, none, [], 0⟩]
def bad6 (h h' : Nat) : List LR := [⟨97, 0, some ⟨h, 0, none⟩, [98], 1⟩, ⟨98, 0, some ⟨h', 0, none⟩, [99], 1⟩]
def bad7 (h : Nat) : List LR := [⟨97, -1, some ⟨h, 0, none⟩, [98], 1⟩]
theorem no1 : mayB bad1 = false := by kernel_rfl
theorem no2 : mayB bad2 = false := by kernel_rfl
theorem no3 : mayB bad3 = false := by kernel_rfl
theorem no4 (h : Nat) : mayB (bad4 h) = false := by kernel_rfl
theorem no5 : mayB bad5 = false := by kernel_rfl
theorem no6 (h h' : Nat) : mayB (bad6 h h') = false := by kernel_rfl
theorem no7 (h : Nat) : mayB (bad7 h) = false := by kernel_rfl

/-- a row of lores none of which may be. -/
def BadsAt (w : World) (b : Nat) : Prop := b < w.heap.size ∧ ∀ k, k < 7 → ∃ p ls c, w.cell? ⟨b, k, none⟩ = some (.slice p ls.length c) ∧ Lores w p ls ∧ mayB ls = false ∧ ls.length < 1000000
theorem BadsAt.below {w w' : World} {b : Nat} (h : BadsAt w b) (hb : Below w.heap.size w w') : BadsAt w' b :=
  ⟨Nat.lt_of_lt_of_le h.1 hb.size, fun k hk => by
    obtain ⟨p, ls, c, h1, h2, h3⟩ := h.2 k hk
    exact ⟨p, ls, c, by rw [hb.cell (p := ⟨b, k, none⟩) h.1]; exact h1, h2.below hb, h3⟩⟩

/-- the lores by hand. -/
def knO (w : World) : Array Obj := #[.cells #[.int .i32 101, .int .i32 769] 21, .cells #[.int .i32 233, .int .i64 0, .slice (some ⟨w.heap.size, 0, none⟩) 2 2, .int .i32 769, .int .i64 230, .slice none 0 0, .int .i32 803, .int .i64 220, .slice none 0 0] 33, .cells #[.int .i32 97, .int .i64 0, .slice none 0 0] 33, .cells #[.int .i32 98, .int .i64 1, .slice none 0 0, .int .i32 97, .int .i64 1, .slice none 0 0] 33, .cells #[.int .i32 97, .int .i64 255, .slice none 0 0] 33, .cells #[.int .i32 1, .int .i32 2, .int .i32 3, .int .i32 4] 21, .cells #[.int .i32 97, .int .i64 0, .slice (some ⟨w.heap.size + 1 + 1 + 1 + 1 + 1, 0, none⟩) 4 4] 33, .cells #[.int .i32 55296, .int .i64 1, .slice none 0 0] 33, .cells #[.int .i32 98] 21, .cells #[.int .i32 99] 21, .cells #[.int .i32 97, .int .i64 0, .slice (some ⟨w.heap.size + 1 + 1 + 1 + 1 + 1 + 1 + 1 + 1, 0, none⟩) 1 1, .int .i32 98, .int .i64 0, .slice (some ⟨w.heap.size + 1 + 1 + 1 + 1 + 1 + 1 + 1 + 1 + 1, 0, none⟩) 1 1] 33, .cells #[.int .i32 98] 21, .cells #[.int .i32 97, .int .i64 (-1), .slice (some ⟨w.heap.size + 1 + 1 + 1 + 1 + 1 + 1 + 1 + 1 + 1 + 1 + 1, 0, none⟩) 1 1] 33, .cells #[.slice (some ⟨w.heap.size + 1 + 1, 0, none⟩) 1 1, .slice (some ⟨w.heap.size + 1 + 1 + 1, 0, none⟩) 2 2, .slice (some ⟨w.heap.size + 1 + 1 + 1 + 1, 0, none⟩) 1 1, .slice (some ⟨w.heap.size + 1 + 1 + 1 + 1 + 1 + 1, 0, none⟩) 1 1, .slice (some ⟨w.heap.size + 1 + 1 + 1 + 1 + 1 + 1 + 1, 0, none⟩) 1 1, .slice (some ⟨w.heap.size + 1 + 1 + 1 + 1 + 1 + 1 + 1 + 1 + 1 + 1, 0, none⟩) 2 2, .slice (some ⟨w.heap.size + 1 + 1 + 1 + 1 + 1 + 1 + 1 + 1 + 1 + 1 + 1 + 1, 0, none⟩) 1 1] 22]
def knW (w : World) : World := grow w (knO w)
theorem knW_eq (w : World) : ((((((((((((((w.alloc (.cells #[.int .i32 101, .int .i32 769] 21)).alloc (.cells #[.int .i32 233, .int .i64 0, .slice (some ⟨w.heap.size, 0, none⟩) 2 2, .int .i32 769, .int .i64 230, .slice none 0 0, .int .i32 803, .int .i64 220, .slice none 0 0] 33)).alloc (.cells #[.int .i32 97, .int .i64 0, .slice none 0 0] 33)).alloc (.cells #[.int .i32 98, .int .i64 1, .slice none 0 0, .int .i32 97, .int .i64 1, .slice none 0 0] 33)).alloc (.cells #[.int .i32 97, .int .i64 255, .slice none 0 0] 33)).alloc (.cells #[.int .i32 1, .int .i32 2, .int .i32 3, .int .i32 4] 21)).alloc (.cells #[.int .i32 97, .int .i64 0, .slice (some ⟨w.heap.size + 1 + 1 + 1 + 1 + 1, 0, none⟩) 4 4] 33)).alloc (.cells #[.int .i32 55296, .int .i64 1, .slice none 0 0] 33)).alloc (.cells #[.int .i32 98] 21)).alloc (.cells #[.int .i32 99] 21)).alloc (.cells #[.int .i32 97, .int .i64 0, .slice (some ⟨w.heap.size + 1 + 1 + 1 + 1 + 1 + 1 + 1 + 1, 0, none⟩) 1 1, .int .i32 98, .int .i64 0, .slice (some ⟨w.heap.size + 1 + 1 + 1 + 1 + 1 + 1 + 1 + 1 + 1, 0, none⟩) 1 1] 33)).alloc (.cells #[.int .i32 98] 21)).alloc (.cells #[.int .i32 97, .int .i64 (-1), .slice (some ⟨w.heap.size + 1 + 1 + 1 + 1 + 1 + 1 + 1 + 1 + 1 + 1 + 1, 0, none⟩) 1 1] 33)).alloc (.cells #[.slice (some ⟨w.heap.size + 1 + 1, 0, none⟩) 1 1, .slice (some ⟨w.heap.size + 1 + 1 + 1, 0, none⟩) 2 2, .slice (some ⟨w.heap.size + 1 + 1 + 1 + 1, 0, none⟩) 1 1, .slice (some ⟨w.heap.size + 1 + 1 + 1 + 1 + 1 + 1, 0, none⟩) 1 1, .slice (some ⟨w.heap.size + 1 + 1 + 1 + 1 + 1 + 1 + 1, 0, none⟩) 1 1, .slice (some ⟨w.heap.size + 1 + 1 + 1 + 1 + 1 + 1 + 1 + 1 + 1 + 1, 0, none⟩) 2 2, .slice (some ⟨w.heap.size + 1 + 1 + 1 + 1 + 1 + 1 + 1 + 1 + 1 + 1 + 1 + 1, 0, none⟩) 1 1] 22)) = knW w := by
  simp only [alloc_eq_grow, grow_grow]
  rfl
theorem knW_below (w : World) : Below w.heap.size w (knW w) := grow_below w 0 _
theorem knW_at (w : World) (k : Nat) : (knW w).heap[w.heap.size + k]? = (knO w)[k]? := by
  unfold knW grow
  rw [Array.getElem?_append_right (by omega), Nat.add_sub_cancel_left]
theorem kn_lores (w : World) (j : Nat) (ls : List LR) (h : (knW w).heap[j]? = some (.cells (flatL ls).toArray 33)) (hto : ∀ x ∈ ls, x.to ≠ [] → ∃ b, x.p = some ⟨b, 0, none⟩ ∧ (knW w).heap[b]? = some (.cells (x.to.map (Value.int .i32)).toArray 21) ∧ x.to.length ≤ x.cap) (hno : ∀ x ∈ ls, x.to = [] → x.p = none ∧ x.cap = 0) : Lores (knW w) (some ⟨j, 0, none⟩) ls := by
  refine lores_lit _ _ 33 (0, 0) _ h fun x hx => ?_
  by_cases hn : x.to = []
  · obtain ⟨h1, h2⟩ := hno x hx hn
    exact ⟨Or.inl hn, by rw [hn]; exact Nat.zero_le _, fun _ => h2⟩
  · obtain ⟨b, hp, hh, hc⟩ := hto x hx hn
    exact ⟨by rw [hp]; exact row_heap _ _ _ 21 (0, 0) _ hh, hc, fun h => by rw [hp] at h; cases h⟩
theorem flat_plain (w : World) (j : Nat) (ls : List LR) (h : (knW w).heap[j]? = some (.cells (flatL ls).toArray 33)) (hz : ∀ x ∈ ls, x.to = [] ∧ x.p = none ∧ x.cap = 0) : Lores (knW w) (some ⟨j, 0, none⟩) ls :=
  kn_lores w j ls h (fun x hx hn => absurd (hz x hx).1 hn) fun x hx _ => (hz x hx).2
theorem kn_l (w : World) : Lores (knW w) (some ⟨w.heap.size + 1, 0, none⟩) (knL w.heap.size) := by
  refine kn_lores w _ _ (knW_at w 1) (fun x hx hn => ?_) (fun x hx hn => ?_)
  · simp only [knL, List.mem_cons, List.not_mem_nil, or_false] at hx
    rcases hx with rfl | rfl | rfl
    · exact ⟨w.heap.size, rfl, knW_at w 0, Nat.le_refl 2⟩
    · exact absurd rfl hn
    · exact absurd rfl hn
  · simp only [knL, List.mem_cons, List.not_mem_nil, or_false] at hx
    rcases hx with rfl | rfl | rfl
    · cases hn
    · exact ⟨rfl, rfl⟩
    · exact ⟨rfl, rfl⟩
theorem bad6_to (w : World) (x : LR) (hx : x ∈ bad6 (w.heap.size + 1 + 1 + 1 + 1 + 1 + 1 + 1 + 1) (w.heap.size + 1 + 1 + 1 + 1 + 1 + 1 + 1 + 1 + 1)) : ∃ b, x.p = some ⟨b, 0, none⟩ ∧ (knW w).heap[b]? = some (.cells (x.to.map (Value.int .i32)).toArray 21) ∧ x.to.length ≤ x.cap := by
  simp only [bad6, List.mem_cons, List.not_mem_nil, or_false] at hx
  rcases hx with rfl | rfl
  · exact ⟨_, rfl, knW_at w 8, Nat.le_refl 1⟩
  · exact ⟨_, rfl, knW_at w 9, Nat.le_refl 1⟩
theorem kn_bads (w : World) : BadsAt (knW w) (w.heap.size + 1 + 1 + 1 + 1 + 1 + 1 + 1 + 1 + 1 + 1 + 1 + 1 + 1) := by
  have hout := knW_at w 13
  refine ⟨(Array.getElem?_eq_some_iff.1 hout).1, fun k hk => ?_⟩
  have hc : ∀ v, (#[.slice (some ⟨w.heap.size + 1 + 1, 0, none⟩) 1 1, .slice (some ⟨w.heap.size + 1 + 1 + 1, 0, none⟩) 2 2, .slice (some ⟨w.heap.size + 1 + 1 + 1 + 1, 0, none⟩) 1 1, .slice (some ⟨w.heap.size + 1 + 1 + 1 + 1 + 1 + 1, 0, none⟩) 1 1, .slice (some ⟨w.heap.size + 1 + 1 + 1 + 1 + 1 + 1 + 1, 0, none⟩) 1 1, .slice (some ⟨w.heap.size + 1 + 1 + 1 + 1 + 1 + 1 + 1 + 1 + 1 + 1, 0, none⟩) 2 2, .slice (some ⟨w.heap.size + 1 + 1 + 1 + 1 + 1 + 1 + 1 + 1 + 1 + 1 + 1 + 1, 0, none⟩) 1 1] : Array Value)[k]? = some v → (knW w).cell? ⟨w.heap.size + 1 + 1 + 1 + 1 + 1 + 1 + 1 + 1 + 1 + 1 + 1 + 1 + 1, k, none⟩ = some v := fun v hv => by
    have hout' : (knW w).heap[w.heap.size + 1 + 1 + 1 + 1 + 1 + 1 + 1 + 1 + 1 + 1 + 1 + 1 + 1]? = _ := hout
    simp only [World.cell?, hout']
    exact hv
  match k, hk with
  | 0, _ => exact ⟨some ⟨w.heap.size + 1 + 1, 0, none⟩, bad1, 1, hc _ rfl, flat_plain w _ bad1 (knW_at w 2) (fun x hx => by simp only [bad1, List.mem_cons, List.not_mem_nil, or_false] at hx; subst hx; exact ⟨rfl, rfl, rfl⟩), no1, by decide⟩
  | 1, _ => exact ⟨some ⟨w.heap.size + 1 + 1 + 1, 0, none⟩, bad2, 2, hc _ rfl, flat_plain w _ bad2 (knW_at w 3) (fun x hx => by simp only [bad2, List.mem_cons, List.not_mem_nil, or_false] at hx; rcases hx with rfl | rfl <;> exact ⟨rfl, rfl, rfl⟩), no2, by decide⟩
  | 2, _ => exact ⟨some ⟨w.heap.size + 1 + 1 + 1 + 1, 0, none⟩, bad3, 1, hc _ rfl, flat_plain w _ bad3 (knW_at w 4) (fun x hx => by simp only [bad3, List.mem_cons, List.not_mem_nil, or_false] at hx; subst hx; exact ⟨rfl, rfl, rfl⟩), no3, by decide⟩
  | 3, _ => exact ⟨some ⟨w.heap.size + 1 + 1 + 1 + 1 + 1 + 1, 0, none⟩, bad4 (w.heap.size + 1 + 1 + 1 + 1 + 1), 1, hc _ rfl, kn_lores w _ _ (knW_at w 6) (fun x hx _ => by simp only [bad4, List.mem_cons, List.not_mem_nil, or_false] at hx; subst hx; exact ⟨_, rfl, knW_at w 5, Nat.le_refl 4⟩) (fun x hx hn => by simp only [bad4, List.mem_cons, List.not_mem_nil, or_false] at hx; subst hx; cases hn), no4 _, by show 1 < 1000000; omega⟩
  | 4, _ => exact ⟨some ⟨w.heap.size + 1 + 1 + 1 + 1 + 1 + 1 + 1, 0, none⟩, bad5, 1, hc _ rfl, flat_plain w _ bad5 (knW_at w 7) (fun x hx => by simp only [bad5, List.mem_cons, List.not_mem_nil, or_false] at hx; subst hx; exact ⟨rfl, rfl, rfl⟩), no5, by decide⟩
  | 5, _ => exact ⟨some ⟨w.heap.size + 1 + 1 + 1 + 1 + 1 + 1 + 1 + 1 + 1 + 1, 0, none⟩, bad6 (w.heap.size + 1 + 1 + 1 + 1 + 1 + 1 + 1 + 1) (w.heap.size + 1 + 1 + 1 + 1 + 1 + 1 + 1 + 1 + 1), 2, hc _ rfl, kn_lores w _ _ (knW_at w 10) (fun x hx _ => bad6_to w x hx) (fun x hx hn => by simp only [bad6, List.mem_cons, List.not_mem_nil, or_false] at hx; rcases hx with rfl | rfl <;> cases hn), no6 _ _, by show 2 < 1000000; omega⟩
  | 6, _ => exact ⟨some ⟨w.heap.size + 1 + 1 + 1 + 1 + 1 + 1 + 1 + 1 + 1 + 1 + 1 + 1, 0, none⟩, bad7 (w.heap.size + 1 + 1 + 1 + 1 + 1 + 1 + 1 + 1 + 1 + 1 + 1), 1, hc _ rfl, kn_lores w _ _ (knW_at w 12) (fun x hx _ => by simp only [bad7, List.mem_cons, List.not_mem_nil, or_false] at hx; subst hx; exact ⟨_, rfl, knW_at w 11, Nat.le_refl 1⟩) (fun x hx hn => by simp only [bad7, List.mem_cons, List.not_mem_nil, or_false] at hx; subst hx; cases hn), no7 _, by show 1 < 1000000; omega⟩

set_option maxHeartbeats 2000000 in
set_option maxRecDepth 100000 in
theorem known_walk (W : World) : Calls Try.prog 4 #[] W fun e w' => e = .returned (.bool true) ∧ Below W.heap.size W w' := by
  have C0 := Lib.hid (awake_true W)
  have b1 := fun (h : Nat) (w : World) => build_lore02 233 (some ⟨h, 0, none⟩) 2 2 w
  have b2 := fun (x y : Int) (w : World) => build_lore01 x y w
  have b3 := fun (x : Int) (w : World) => build_lore0 x w
  have b4 := fun (x : Int) (h n : Nat) (w : World) => build_lore02 x (some ⟨h, 0, none⟩) n n w
  have b5 := fun (x y : Int) (h n : Nat) (w : World) => build_lore x y (some ⟨h, 0, none⟩) n n w
  go_enter Try.func4, Try.ntmps4
  go_wp2_with fail
  refine C0.out.mono ?_
  rintro e w1 ⟨rfl, hb1⟩
  have HB1 := Lib.hid hb1; clear hb1 C0
  have hkb := kn_bads w1
  have hkl := kn_l w1
  have hkw := HB1.out.trans ((knW_below w1).mono HB1.out.size)
  have hsz0 : w1.heap.size ≤ (knW w1).heap.size := (knW_below w1).size
  have HKB := Lib.hid hkb; clear hkb
  have HKL := Lib.hid hkl; clear hkl
  have HKW := Lib.hid hkw; clear hkw
  go_wp2_with fail
  rw [knW_eq w1]
  generalize knW w1 = w2 at HKB HKL HKW hsz0 ⊢
  generalize w1.heap.size + 1 + 1 + 1 + 1 + 1 + 1 + 1 + 1 + 1 + 1 + 1 + 1 + 1 = bk at HKB ⊢
  generalize w1.heap.size + 1 = bl at HKL ⊢
  generalize w1.heap.size = hl at HKL ⊢
  go_loopg [3] 7 (fun g vi wr => ∃ k : Nat, vi = .int .i64 k ∧ k ≤ 7 ∧ 7 - k ≤ g ∧ Hid (BadsAt wr bk) ∧ Hid (Below w2.heap.size w2 wr))
  case atStart => exact ⟨0, rfl, by omega, by omega, HKB, Lib.hid (Below.refl _ _)⟩
  case round =>
    clear HKB
    obtain ⟨k, rfl, hk, hg, HBd, HB⟩ := hrel
    by_cases hlt : k < 7
    · have hltz : (k : Int) < 7 := by omega
      obtain ⟨p, ls, c, hcell, hl0, hno, hlen⟩ := HBd.out.2 k hlt
      have hbk := HBd.out.1
      have C1 := Lib.hid (normal_table ls hno p c (.slice none 0 0) wr hl0 hlen)
      have C2 := Lib.hid (fun w hb => by have := may_any ls p c w (hl0.below hb) hlen; rw [hno] at this; exact this)
      clear hl0 hno
      go_wp2_with fail
      refine C1.out.mono ?_
      rintro e w3 ⟨rfl, hb3⟩
      have hcell3 : w3.cell? ⟨bk, k, none⟩ = some (.slice p ls.length c) := by rw [hb3.cell (p := ⟨bk, k, none⟩) hbk]; exact hcell
      have HB3 := Lib.hid hb3
      clear hb3 hcell
      go_wp2_with fail
      refine (C2.out w3 HB3.out).mono ?_
      rintro e w4 ⟨rfl, hb4⟩
      have hb34 := HB3.out.trans (hb4.mono HB3.out.size)
      have HBd4 := Lib.hid (HBd.out.below hb34)
      have HB4 := Lib.hid (HB.out.trans (hb34.mono HB.out.size))
      clear hb4 hb34 hcell3
      go_wp2_with fail
      go_roundg (7 - (k + 1))
      case measure => omega
      case rel => exact ⟨k + 1, by go_num, by omega, by omega, HBd4, HB4⟩
    · obtain rfl : k = 7 := by omega
      have HKW2 := Lib.hid (HKW.out.trans (HB.out.mono HKW.out.size))
      have HL := Lib.hid (HKL.out.below HB.out)
      clear HKL HKW HB HBd hsz0
      have hN := Lib.hid (fun (s : List Int) (hv : s.any mayNotB = false) (q : Option Addr) (c : Nat) w (hb : Below wr.heap.size wr w) (hs : Row w .i32 q s) (hz : s.length ≤ 100000) => normal_ok (knL hl) (kn_may hl) (some ⟨bl, 0, none⟩) 3 s hv q c w (HL.out.below hb) hs (by show 3 < 1000000; omega) hz)
      have hT := Lib.hid (fun (s : List Int) (hv : s.any mayNotB = true) (q : Option Addr) (c : Nat) w (hb : Below wr.heap.size wr w) (hs : Row w .i32 q s) (hz : s.length ≤ 100000) => normal_text (knL hl) (kn_may hl) (some ⟨bl, 0, none⟩) 3 s hv q c w (HL.out.below hb) hs (by show 3 < 1000000; omega) hz)
      have N5 := hN.out [233, 803] (by kernel_rfl) (some ⟨wr.heap.size, 0, none⟩) 2 (wr.alloc (.cells #[.int .i32 233, .int .i32 803] 21)) ((Below.refl wr.heap.size wr).alloc (Below.refl wr.heap.size wr).size _) (row_lit wr .i32 21 [233, 803]) (by decide)
      rw [kn_1] at N5
      have NN5 := Lib.hid N5; clear N5
      go_wp2_with fail
      refine NN5.out.mono ?_
      rintro e w5 ⟨v5, rfl, hb5, hown5⟩
      obtain ⟨q5, c5, rfl, _, hrow5⟩ := Own.row hown5
      have hz5 := hb5.size
      simp only [World.size_alloc] at hz5
      have HB5 := Lib.hid (((Below.refl wr.heap.size wr).alloc (Below.refl wr.heap.size wr).size (.cells #[.int .i32 233, .int .i32 803] 21)).trans (hb5.mono (by simp)))
      have HR5 := Lib.hid hrow5
      have HU5 := Lib.hid (show Below wr.heap.size wr w5 from ((Below.refl _ _).alloc (Nat.le_refl _) _).trans (hb5.mono (by simp)))
      clear hb5 hown5 hrow5 NN5
      have N6 := hN.out [101, 803, 769] (by kernel_rfl) (some ⟨w5.heap.size, 0, none⟩) 3 (w5.alloc (.cells #[.int .i32 101, .int .i32 803, .int .i32 769] 21)) (HB5.out.alloc HB5.out.size _) (row_lit w5 .i32 21 [101, 803, 769]) (by decide)
      rw [kn_2] at N6
      have NN6 := Lib.hid N6; clear N6
      go_wp2_with fail
      refine NN6.out.mono ?_
      rintro e w6 ⟨v6, rfl, hb6, hown6⟩
      obtain ⟨q6, c6, rfl, _, hrow6⟩ := Own.row hown6
      have hz6 := hb6.size
      simp only [World.size_alloc] at hz6
      have HB6 := Lib.hid ((HB5.out.alloc HB5.out.size (.cells #[.int .i32 101, .int .i32 803, .int .i32 769] 21)).trans (hb6.mono (by have := HB5.out.size; simp; omega)))
      have HR6 := Lib.hid hrow6
      have HU6 := Lib.hid (show Below w5.heap.size w5 w6 from ((Below.refl _ _).alloc (Nat.le_refl _) _).trans (hb6.mono (by simp)))
      clear hb6 hown6 hrow6 NN6
      have N7 := hN.out [769, 803, 97, 769, 769] (by kernel_rfl) (some ⟨w6.heap.size, 0, none⟩) 5 (w6.alloc (.cells #[.int .i32 769, .int .i32 803, .int .i32 97, .int .i32 769, .int .i32 769] 21)) (HB6.out.alloc HB6.out.size _) (row_lit w6 .i32 21 [769, 803, 97, 769, 769]) (by decide)
      rw [kn_3] at N7
      have NN7 := Lib.hid N7; clear N7
      go_wp2_with fail
      refine NN7.out.mono ?_
      rintro e w7 ⟨v7, rfl, hb7, hown7⟩
      obtain ⟨q7, c7, rfl, _, hrow7⟩ := Own.row hown7
      have hz7 := hb7.size
      simp only [World.size_alloc] at hz7
      have HB7 := Lib.hid ((HB6.out.alloc HB6.out.size (.cells #[.int .i32 769, .int .i32 803, .int .i32 97, .int .i32 769, .int .i32 769] 21)).trans (hb7.mono (by have := HB6.out.size; simp; omega)))
      have HR7 := Lib.hid hrow7
      have HU7 := Lib.hid (show Below w6.heap.size w6 w7 from ((Below.refl _ _).alloc (Nat.le_refl _) _).trans (hb7.mono (by simp)))
      clear hb7 hown7 hrow7 NN7
      have T8 := Lib.hid (hT.out [1114112] (by kernel_rfl) (some ⟨w7.heap.size, 0, none⟩) 1 (w7.alloc (.cells #[.int .i32 1114112] 21)) (HB7.out.alloc HB7.out.size _) (row_lit w7 .i32 21 [1114112]) (by decide))
      go_wp2_with fail
      refine T8.out.mono ?_
      rintro e w8 ⟨rfl, hb8⟩
      have hz8 := hb8.size
      simp only [World.size_alloc] at hz8
      have HB8 := Lib.hid ((HB7.out.alloc HB7.out.size (.cells #[.int .i32 1114112] 21)).trans (hb8.mono (by have := HB7.out.size; simp; omega)))
      have HU8 := Lib.hid (show Below w7.heap.size w7 w8 from ((Below.refl _ _).alloc (Nat.le_refl _) _).trans (hb8.mono (by simp)))
      clear hb8 T8 hN hT
      have HA := Lib.hid (((HR5.out.below HU6.out).below HU7.out).below HU8.out)
      have HBr := Lib.hid ((HR6.out.below HU7.out).below HU8.out)
      have HCr := Lib.hid (HR7.out.below HU8.out)
      have S9 := Lib.hid (same_yes [101, 803, 769] q5 q6 c5 c6 w8 (by decide) HA.out HBr.out)
      clear HA HBr HU5 HU6 HU7 HU8 HR5 HR6 HR7
      go_wp2_with fail
      refine S9.out.mono ?_
      rintro e w9 ⟨rfl, hb9⟩
      have hz9 := hb9.size
      have HB9 := Lib.hid (HB8.out.trans (hb9.mono HB8.out.size))
      have HC9 := Lib.hid (HCr.out.below hb9)
      clear hb9 S9 HCr
      have S10 := Lib.hid (same_yes [803, 769, 97, 769, 769] q7 (some ⟨w9.heap.size, 0, none⟩) c7 5 (w9.alloc (.cells #[.int .i32 803, .int .i32 769, .int .i32 97, .int .i32 769, .int .i32 769] 21)) (by decide) (HC9.out.below ((Below.refl _ _).alloc (Nat.le_refl _) _)) (row_lit w9 .i32 21 [803, 769, 97, 769, 769]))
      go_wp2_with fail
      refine S10.out.mono ?_
      rintro e w10 ⟨rfl, hb10⟩
      have HB10 := Lib.hid ((HB9.out.alloc HB9.out.size (.cells #[.int .i32 803, .int .i32 769, .int .i32 97, .int .i32 769, .int .i32 769] 21)).trans (hb10.mono (by have := HB9.out.size; simp; omega)))
      clear hb10 S10
      have M11 := Lib.hid (show Calls Try.prog 13 #[.slice none 0 0] w10 fun e w' => e = .returned (.bool true) ∧ Below w10.heap.size w10 w' from may_any [] none 0 w10 (Or.inl rfl) (by decide))
      go_wp2_with fail
      refine M11.out.mono ?_
      rintro e w11 ⟨rfl, hb11⟩
      have HB11 := Lib.hid (HB10.out.trans (hb11.mono HB10.out.size))
      clear hb11
      go_wp2_with fail
      go_ret
      exact ⟨rfl, HKW2.out.trans (HB11.out.mono HKW2.out.size)⟩
end Go.Proofs.Ytaoaicmagccfmaa
