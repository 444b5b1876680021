/-
  Layer weigh: the places of a text, linked.
-/
import Derived.Test.YticjgmhgpeihjaaGreatDoorWeMayD
import Derived.Test.YticjgmhgpeihjaaGreatDoorWeImpl
import Derived.Deep.RegionWith
import Derived.Sort.Row
namespace Go.Proofs.YticjgmhgpeihjaaGreatDoor
open Go.RowKit Go.Gz Go.Sort

theorem info_place : (Tryz.prog.info? 98).map (fun i => (i.zero, i.size, i.bytes)) = some (some (.agg #[.int .i32 0, .int .i64 0, .int .i64 0, .int .i64 0]), 4, 32) := by kernel_rfl
theorem make_places (n : Nat) (hn : n ≤ 1000000) (w : World) : (Instr.makeSlice 71 (.int .i64 (n : Int)) (.int .i64 (n : Int))).run Tryz.prog w = .ok (.slice (some ⟨w.heap.size, 0, none⟩) n n) (w.alloc (.cells (madeCells #[.int .i32 0, .int .i64 0, .int .i64 0, .int .i64 0] (n * 4)) 98)) := by
  obtain ⟨i0, hi, hz0, hz1, hz2⟩ := info_parts info_place
  have := run_make_n 71 98 i0 _ Tryz.underlying71 hi hz0 n (by rw [hz2]; omega) (by omega) w
  rw [hz1] at this
  exact this

/-- the places of a text: its runes, their classes, where the next one stands, where the last one of a class. -/
structure TX (w : World) (b n : Nat) (f : Nat → Int) (cls : Int → Int) (nx la : Nat → Nat) : Prop where
  lt : b < w.heap.size
  cr : ∀ i, i < n → w.cell? ⟨b, i * 4, none⟩ = some (.int .i32 (f i))
  cc : ∀ i, i < n → w.cell? ⟨b, i * 4 + 1, none⟩ = some (.int .i64 (cls (f i)))
  cn : ∀ i, i < n → w.cell? ⟨b, i * 4 + 2, none⟩ = some (.int .i64 (nx i))
  cl : ∀ i, i < n → w.cell? ⟨b, i * 4 + 3, none⟩ = some (.int .i64 (la i))
  wr : ∀ i, i < n → w.frozen? ⟨b, i * 4 + 2, none⟩ = false
theorem TX.below {w w' : World} {b n : Nat} {f : Nat → Int} {cls : Int → Int} {nx la : Nat → Nat} (h : TX w b n f cls nx la) (hb : Below w.heap.size w w') : TX w' b n f cls nx la :=
  ⟨Nat.lt_of_lt_of_le h.lt hb.size, fun i hi => by rw [hb.cell (p := ⟨b, i * 4, none⟩) h.lt]; exact h.cr i hi, fun i hi => by rw [hb.cell (p := ⟨b, i * 4 + 1, none⟩) h.lt]; exact h.cc i hi, fun i hi => by rw [hb.cell (p := ⟨b, i * 4 + 2, none⟩) h.lt]; exact h.cn i hi, fun i hi => by rw [hb.cell (p := ⟨b, i * 4 + 3, none⟩) h.lt]; exact h.cl i hi, fun i hi => by rw [hb.frozen (p := ⟨b, i * 4 + 2, none⟩) h.lt]; exact h.wr i hi⟩
theorem TX.put {w : World} {b n : Nat} {f : Nat → Int} {cls : Int → Int} {nx la : Nat → Nat} (h : TX w b n f cls nx la) (a v : Nat) (ha : a < n) : TX (w.setCell ⟨b, a * 4 + 2, none⟩ (.int .i64 (v : Int))) b n f cls (updN nx a v) la := by
  have other : ∀ j, j ≠ a * 4 + 2 → (w.setCell ⟨b, a * 4 + 2, none⟩ (.int .i64 (v : Int))).cell? ⟨b, j, none⟩ = w.cell? ⟨b, j, none⟩ := fun j hj => World.cell?_setCell_other _ _ _ _ (by intro e; injection e with _ e2; exact hj e2.symm)
  refine ⟨by simpa using h.lt, fun i hi => by rw [other _ (by omega)]; exact h.cr i hi, fun i hi => by rw [other _ (by omega)]; exact h.cc i hi, fun i hi => ?_, fun i hi => by rw [other _ (by omega)]; exact h.cl i hi, fun i hi => by rw [World.frozen?_setCell]; exact h.wr i hi⟩
  unfold updN
  by_cases e : i = a
  · subst e
    rw [if_pos rfl]
    exact World.cell?_setCell_same' _ _ _ (by rw [h.cn i hi]; rfl)
  · rw [if_neg e, other _ (by omega)]; exact h.cn i hi

/-- the places from k on, made. -/
structure LB (w : World) (b n : Nat) (f : Nat → Int) (cls : Int → Int) (la : Nat → Nat) (k : Nat) : Prop where
  lt : b < w.heap.size
  room : ∀ j, j < n * 4 → (w.cell? ⟨b, j, none⟩).isSome = true ∧ w.frozen? ⟨b, j, none⟩ = false
  cr : ∀ i, k ≤ i → i < n → w.cell? ⟨b, i * 4, none⟩ = some (.int .i32 (f i))
  cc : ∀ i, k ≤ i → i < n → w.cell? ⟨b, i * 4 + 1, none⟩ = some (.int .i64 (cls (f i)))
  cn : ∀ i, k ≤ i → i < n → w.cell? ⟨b, i * 4 + 2, none⟩ = some (.int .i64 ((i : Int) + 1))
  cl : ∀ i, k ≤ i → i < n → w.cell? ⟨b, i * 4 + 3, none⟩ = some (.int .i64 (la i))
  le : ∀ i, k ≤ i → i < n → i ≤ la i ∧ la i < n
  same : ∀ i, k ≤ i → i < n → ∀ j, i ≤ j → j ≤ la i → cls (f j) = cls (f i)
  next : ∀ i, k ≤ i → i < n → la i + 1 < n → cls (f (la i + 1)) ≠ cls (f i)
theorem LB.below {w w' : World} {b n : Nat} {f : Nat → Int} {cls : Int → Int} {la : Nat → Nat} {k : Nat} (h : LB w b n f cls la k) (hb : Below w.heap.size w w') : LB w' b n f cls la k :=
  ⟨Nat.lt_of_lt_of_le h.lt hb.size, fun j hj => by rw [hb.cell (p := ⟨b, j, none⟩) h.lt, hb.frozen (p := ⟨b, j, none⟩) h.lt]; exact h.room j hj, fun i hk hi => by rw [hb.cell (p := ⟨b, i * 4, none⟩) h.lt]; exact h.cr i hk hi, fun i hk hi => by rw [hb.cell (p := ⟨b, i * 4 + 1, none⟩) h.lt]; exact h.cc i hk hi, fun i hk hi => by rw [hb.cell (p := ⟨b, i * 4 + 2, none⟩) h.lt]; exact h.cn i hk hi, fun i hk hi => by rw [hb.cell (p := ⟨b, i * 4 + 3, none⟩) h.lt]; exact h.cl i hk hi, h.le, h.same, h.next⟩
theorem LB.start (w : World) (n : Nat) (f : Nat → Int) (cls : Int → Int) (t : TypeId) : LB (w.alloc (.cells (madeCells #[.int .i32 0, .int .i64 0, .int .i64 0, .int .i64 0] (n * 4)) t)) w.heap.size n f cls (fun i => i) n := by
  refine ⟨by simp, fun j hj => ?_, fun i hk hi => by omega, fun i hk hi => by omega, fun i hk hi => by omega, fun i hk hi => by omega, fun i hk hi => by omega, fun i hk hi => by omega, fun i hk hi => by omega⟩
  have hh : (w.alloc (.cells (madeCells #[.int .i32 0, .int .i64 0, .int .i64 0, .int .i64 0] (n * 4)) t)).heap[w.heap.size]? = some (.cells (madeCells #[.int .i32 0, .int .i64 0, .int .i64 0, .int .i64 0] (n * 4)) t) := by
    show (w.heap.push _)[w.heap.size]? = _
    simp
  have hsz : j < (madeCells #[.int .i32 0, .int .i64 0, .int .i64 0, .int .i64 0] (n * 4)).size := by rw [size_madeCells]; exact hj
  constructor
  · simp only [World.cell?, hh]
    rw [Array.getElem?_eq_getElem hsz]; rfl
  · simp only [World.frozen?, hh]
    simp
/-- a place laid. -/
abbrev laid4 (w : World) (b i : Nat) (r c : Int) (x y : Int) : World := (((w.setCell ⟨b, i * 4, none⟩ (.int .i32 r)).setCell ⟨b, i * 4 + 1, none⟩ (.int .i64 c)).setCell ⟨b, i * 4 + 2, none⟩ (.int .i64 x)).setCell ⟨b, i * 4 + 3, none⟩ (.int .i64 y)
theorem laid4_other (w : World) (b i : Nat) (r c x y : Int) (j : Nat) (hj : j < i * 4 ∨ i * 4 + 4 ≤ j) : (laid4 w b i r c x y).cell? ⟨b, j, none⟩ = w.cell? ⟨b, j, none⟩ := by
  unfold laid4
  rw [World.cell?_setCell_other _ _ _ _ (by intro e; injection e with _ e2; omega), World.cell?_setCell_other _ _ _ _ (by intro e; injection e with _ e2; omega), World.cell?_setCell_other _ _ _ _ (by intro e; injection e with _ e2; omega), World.cell?_setCell_other _ _ _ _ (by intro e; injection e with _ e2; omega)]
theorem laid4_frozen (w : World) (b i : Nat) (r c x y : Int) (a : Addr) : (laid4 w b i r c x y).frozen? a = w.frozen? a := by
  unfold laid4
  rw [World.frozen?_setCell, World.frozen?_setCell, World.frozen?_setCell, World.frozen?_setCell]
theorem laid4_at (w : World) (b i : Nat) (r c x y : Int) (h : ∀ z, z < 4 → (w.cell? ⟨b, i * 4 + z, none⟩).isSome = true) :
    (laid4 w b i r c x y).cell? ⟨b, i * 4, none⟩ = some (.int .i32 r) ∧ (laid4 w b i r c x y).cell? ⟨b, i * 4 + 1, none⟩ = some (.int .i64 c) ∧ (laid4 w b i r c x y).cell? ⟨b, i * 4 + 2, none⟩ = some (.int .i64 x) ∧ (laid4 w b i r c x y).cell? ⟨b, i * 4 + 3, none⟩ = some (.int .i64 y) := by
  have h0 := h 0 (by omega)
  have h1 := h 1 (by omega)
  have h2 := h 2 (by omega)
  have h3 := h 3 (by omega)
  rw [Nat.add_zero] at h0
  have ne : ∀ a b' : Nat, a ≠ b' → (⟨b, a, none⟩ : Addr) ≠ ⟨b, b', none⟩ := fun a b' hn e => by injection e with _ e2; exact hn e2
  unfold laid4
  refine ⟨?_, ?_, ?_, ?_⟩
  · rw [World.cell?_setCell_other _ _ _ _ (ne _ _ (by omega)), World.cell?_setCell_other _ _ _ _ (ne _ _ (by omega)), World.cell?_setCell_other _ _ _ _ (ne _ _ (by omega))]
    exact World.cell?_setCell_same' _ _ _ h0
  · rw [World.cell?_setCell_other _ _ _ _ (ne _ _ (by omega)), World.cell?_setCell_other _ _ _ _ (ne _ _ (by omega))]
    exact World.cell?_setCell_same' _ _ _ (by rw [World.cell?_setCell_other _ _ _ _ (ne _ _ (by omega))]; exact h1)
  · rw [World.cell?_setCell_other _ _ _ _ (ne _ _ (by omega))]
    exact World.cell?_setCell_same' _ _ _ (by rw [World.cell?_setCell_other _ _ _ _ (ne _ _ (by omega)), World.cell?_setCell_other _ _ _ _ (ne _ _ (by omega))]; exact h2)
  · exact World.cell?_setCell_same' _ _ _ (by rw [World.cell?_setCell_other _ _ _ _ (ne _ _ (by omega)), World.cell?_setCell_other _ _ _ _ (ne _ _ (by omega)), World.cell?_setCell_other _ _ _ _ (ne _ _ (by omega))]; exact h3)
theorem laid4_last (w : World) (b i : Nat) (r c x y y' : Int) : (laid4 w b i r c x y).setCell ⟨b, i * 4 + 3, none⟩ (.int .i64 y') = laid4 w b i r c x y' := by
  unfold laid4
  rw [setCell_eq, setCell_eq _ _ _ (.int .i64 y), mapBlock_mapBlock, setCell_eq]
  congr 1
  funext a
  simp
theorem LB.lay {w : World} {b n : Nat} {f : Nat → Int} {cls : Int → Int} {la : Nat → Nat} {i : Nat} (h : LB w b n f cls la (i + 1)) (hi : i < n) (l : Nat) (hl : (l = i ∧ (i + 1 < n → cls (f (i + 1)) ≠ cls (f i))) ∨ (l = la (i + 1) ∧ i + 1 < n ∧ cls (f (i + 1)) = cls (f i))) :
    LB (laid4 w b i (f i) (cls (f i)) ((i : Int) + 1) (l : Int)) b n f cls (fun j => if j = i then l else la j) i := by
  obtain ⟨a0, a1, a2, a3⟩ := laid4_at w b i (f i) (cls (f i)) ((i : Int) + 1) (l : Int) fun z hz => (h.room (i * 4 + z) (by omega)).1
  refine ⟨by simpa using h.lt, fun j hj => ?_, fun j hk hj => ?_, fun j hk hj => ?_, fun j hk hj => ?_, fun j hk hj => ?_, fun j hk hj => ?_, fun j hk hj => ?_, fun j hk hj => ?_⟩
  · rw [laid4_frozen]
    refine ⟨?_, (h.room j hj).2⟩
    by_cases c : j < i * 4 ∨ i * 4 + 4 ≤ j
    · rw [laid4_other _ _ _ _ _ _ _ _ c]; exact (h.room j hj).1
    · rcases (show j = i * 4 ∨ j = i * 4 + 1 ∨ j = i * 4 + 2 ∨ j = i * 4 + 3 by omega) with rfl | rfl | rfl | rfl
      · rw [a0]; rfl
      · rw [a1]; rfl
      · rw [a2]; rfl
      · rw [a3]; rfl
  · by_cases e : j = i
    · subst e; exact a0
    · rw [laid4_other _ _ _ _ _ _ _ _ (by omega)]; exact h.cr j (by omega) hj
  · by_cases e : j = i
    · subst e; exact a1
    · rw [laid4_other _ _ _ _ _ _ _ _ (by omega)]; exact h.cc j (by omega) hj
  · by_cases e : j = i
    · subst e; exact a2
    · rw [laid4_other _ _ _ _ _ _ _ _ (by omega)]; exact h.cn j (by omega) hj
  · by_cases e : j = i
    · subst e; rw [if_pos rfl]; exact a3
    · rw [if_neg e, laid4_other _ _ _ _ _ _ _ _ (by omega)]; exact h.cl j (by omega) hj
  · by_cases e : j = i
    · subst e
      rw [if_pos rfl]
      rcases hl with ⟨rfl, _⟩ | ⟨rfl, h1, _⟩
      · omega
      · have := h.le (j + 1) (Nat.le_refl _) h1; omega
    · rw [if_neg e]; exact h.le j (by omega) hj
  · by_cases e : j = i
    · subst e
      rw [if_pos rfl]
      rcases hl with ⟨rfl, _⟩ | ⟨rfl, h1, h2⟩
      · intro t h3 h4; rw [show t = l by omega]
      · intro t h3 h4
        by_cases e2 : t = j
        · rw [e2]
        · rw [h.same (j + 1) (Nat.le_refl _) h1 t (by omega) h4, h2]
    · rw [if_neg e]; exact h.same j (by omega) hj
  · by_cases e : j = i
    · subst e
      rw [if_pos rfl]
      rcases hl with ⟨rfl, h3⟩ | ⟨rfl, h1, h2⟩
      · exact h3
      · intro h3; rw [← h2]; exact h.next (j + 1) (Nat.le_refl _) h1 h3
    · rw [if_neg e]; exact h.next j (by omega) hj
def LkRel (W : World) (cls : Int → Int) (s : List Int) (g : Nat) (i : Value) (wr : World) : Prop :=
  ∃ (k : Nat) (la : Nat → Nat), i = .int .i64 ((k : Int) - 1) ∧ k ≤ s.length ∧ k ≤ g ∧ Below W.heap.size W wr ∧ LB wr W.heap.size s.length (fun j => s.getD j 0) cls la k
/-- the places of a text that a call returned. -/
def RetTX (W : World) (cls : Int → Int) (s : List Int) (e : Ending) (w' : World) : Prop :=
  ∃ (b : Nat) (la : Nat → Nat), e = .returned (.slice (some ⟨b, 0, none⟩) s.length s.length) ∧ W.heap.size ≤ b ∧ Below W.heap.size W w' ∧ TX w' b s.length (fun j => s.getD j 0) cls (fun i => i + 1) la ∧ Lasts (fun i => cls (s.getD i 0)) la s.length

set_option maxHeartbeats 4000000 in
set_option maxRecDepth 100000 in
theorem link_any (ls : List LR) (hr : Rising ls) (p : Option Addr) (cap : Nat) (s : List Int) (q : Option Addr) (c : Nat) (W : World) (hl : Lores W p ls) (hs : Row W .i32 q s) (hsz : ls.length < 1000000) (hz : s.length ≤ 900000) :
    Calls Tryz.prog 32 #[.slice p ls.length cap, .slice q s.length c] W (RetTX W (clsL ls) s) := by
  have HL := Lib.hid hl; clear hl
  have HS := Lib.hid hs; clear hs
  have HR := Lib.hid hr; clear hr
  have hmk := make_places s.length (by omega)
  have hcl := Lib.hid (fun r w hb => class_any ls HR.out p cap r w (HL.out.below hb) hsz)
  obtain ⟨cls, hcls⟩ : ∃ cls, clsL ls = cls := ⟨_, rfl⟩
  rw [hcls] at hcl ⊢
  clear hcls
  have mx := mixedL
  go_enter Tryz.func32, Tryz.ntmps32
  go_wp2_with fail
  clear hmk
  obtain ⟨n, hn⟩ : ∃ n, s.length = n := ⟨_, rfl⟩
  have HN := Lib.hid hn
  go_loopg [6] s.length (fun g i wr => Hid (LkRel W cls s g i wr))
  case atStart => exact Lib.hid ⟨s.length, _, rfl, Nat.le_refl _, Nat.le_refl _, (Below.refl _ _).alloc (Nat.le_refl _) _, LB.start _ _ _ _ _⟩
  case round =>
    have hrel' := hrel.out
    clear hrel
    obtain ⟨k, la, rfl, hk, hg, hb, hlb⟩ := hrel'
    have HB := Lib.hid hb; clear hb
    have HLB := Lib.hid hlb; clear hlb
    have hsz2 := HB.out.size
    by_cases hpos : 0 < k
    · obtain ⟨i, rfl⟩ : ∃ i, k = i + 1 := ⟨k - 1, by omega⟩
      have hin : i < s.length := by omega
      have hltz : (i : Int) < (s.length : Int) := by omega
      have ei : ((i + 1 : Nat) : Int) - 1 = (i : Int) := by omega
      rw [ei]
      obtain ⟨b, o, rfl, hbW, hcell⟩ := row_cell HS.out HB.out hin
      obtain ⟨r, hrr⟩ : ∃ r, s.getD i 0 = r := ⟨_, rfl⟩
      rw [hrr] at hcell
      have HRR := Lib.hid hrr; clear hrr
      have hc := Lib.hid (hcl.out r)
      have HB1 := Lib.hid HB.out.drew
      have hbwr : b < wr.heap.size := by omega
      have hlt0 := HLB.out.lt
      have hwp : IntKind.i64.wrap ((i : Int) + 1) = (i : Int) + 1 := by rw [IntKind.wrap_i64]; omega
      clear hn
      go_wp2_with fail
      go_region_with (go_at_call 58; refine (hc.out _ HB1.out).mono ?_; rintro e w3 ⟨rfl, hb3⟩; have q0 : w3.cell? ⟨b, o + i, none⟩ = some (.int .i32 r) := by {rw [hb3.cell (p := ⟨b, o + i, none⟩) hbwr]; exact hcell}; have HL3 := Lib.hid (HLB.out.below ((Below.refl _ _).drew.trans (hb3.mono (Nat.le_refl _)))); obtain ⟨⟨x0, hx0⟩, g0⟩ : (∃ x, w3.cell? ⟨W.heap.size, i * 4, none⟩ = some x) ∧ w3.frozen? ⟨W.heap.size, i * 4, none⟩ = false := ⟨Option.isSome_iff_exists.1 (HL3.out.room (i * 4) (by omega)).1, (HL3.out.room (i * 4) (by omega)).2⟩; obtain ⟨⟨x1, hx1⟩, g1⟩ : (∃ x, w3.cell? ⟨W.heap.size, i * 4 + 1, none⟩ = some x) ∧ w3.frozen? ⟨W.heap.size, i * 4 + 1, none⟩ = false := ⟨Option.isSome_iff_exists.1 (HL3.out.room (i * 4 + 1) (by omega)).1, (HL3.out.room (i * 4 + 1) (by omega)).2⟩; obtain ⟨⟨x2, hx2⟩, g2⟩ : (∃ x, w3.cell? ⟨W.heap.size, i * 4 + 2, none⟩ = some x) ∧ w3.frozen? ⟨W.heap.size, i * 4 + 2, none⟩ = false := ⟨Option.isSome_iff_exists.1 (HL3.out.room (i * 4 + 2) (by omega)).1, (HL3.out.room (i * 4 + 2) (by omega)).2⟩; obtain ⟨⟨x3, hx3⟩, g3⟩ : (∃ x, w3.cell? ⟨W.heap.size, i * 4 + 3, none⟩ = some x) ∧ w3.frozen? ⟨W.heap.size, i * 4 + 3, none⟩ = false := ⟨Option.isSome_iff_exists.1 (HL3.out.room (i * 4 + 3) (by omega)).1, (HL3.out.room (i * 4 + 3) (by omega)).2⟩)
      all_goals
        clear hcell hx0 hx1 hx2 hx3 g0 g1 g2 g3 q0
        have HB3 := Lib.hid (HB1.out.trans (hb3.mono HB1.out.size))
        clear hb3
        obtain ⟨w4, hw4⟩ : ∃ w4, (((w3.setCell ⟨W.heap.size, i * 4, none⟩ (.int .i32 r)).setCell ⟨W.heap.size, i * 4 + 1, none⟩ (.int .i64 (cls r))).setCell ⟨W.heap.size, i * 4 + 2, none⟩ (.int .i64 ((i : Int) + 1))).setCell ⟨W.heap.size, i * 4 + 3, none⟩ (.int .i64 (i : Int)) = w4 := ⟨_, rfl⟩
        rw [hw4]
        have HW4 := Lib.hid (show laid4 w3 W.heap.size i r (cls r) ((i : Int) + 1) (i : Int) = w4 from hw4)
        clear hw4
        have HB4 := Lib.hid (show Below W.heap.size W w4 by rw [← HW4.out]; exact (((HB3.out.setCell (p := ⟨W.heap.size, i * 4, none⟩) (Nat.le_refl _) _).setCell (p := ⟨W.heap.size, i * 4 + 1, none⟩) (Nat.le_refl _) _).setCell (p := ⟨W.heap.size, i * 4 + 2, none⟩) (Nat.le_refl _) _).setCell (p := ⟨W.heap.size, i * 4 + 3, none⟩) (Nat.le_refl _) _)
        have hat := Lib.hid (laid4_at w3 W.heap.size i r (cls r) ((i : Int) + 1) (i : Int) fun z hz => (HL3.out.room (i * 4 + z) (by omega)).1)
        rw [HW4.out] at hat
        have d1 := hat.out.2.1
        have d3 := hat.out.2.2.2
        have e3 : w4.frozen? ⟨W.heap.size, i * 4 + 3, none⟩ = false := by rw [← HW4.out, laid4_frozen]; exact (HL3.out.room (i * 4 + 3) (by omega)).2
        by_cases hi1 : i + 1 < s.length
        · have hi1z : (i : Int) + 1 < (s.length : Int) := by omega
          have p0 : (0 : Int) ≤ (i : Int) + 1 := by omega
          have e0 : ((i : Int) + 1).toNat = i + 1 := by omega
          have d5 : w4.cell? ⟨W.heap.size, (i + 1) * 4 + 1, none⟩ = some (.int .i64 (cls (s.getD (i + 1) 0))) := by rw [← HW4.out, laid4_other _ _ _ _ _ _ _ _ (by omega)]; exact HL3.out.cc (i + 1) (Nat.le_refl _) hi1
          have d7 : w4.cell? ⟨W.heap.size, (i + 1) * 4 + 3, none⟩ = some (.int .i64 (la (i + 1))) := by rw [← HW4.out, laid4_other _ _ _ _ _ _ _ _ (by omega)]; exact HL3.out.cl (i + 1) (Nat.le_refl _) hi1
          obtain ⟨c1, hc1⟩ : ∃ c1, cls (s.getD (i + 1) 0) = c1 := ⟨_, rfl⟩
          rw [hc1] at d5
          have HC1 := Lib.hid hc1; clear hc1
          obtain ⟨c0, hc0⟩ : ∃ c0, cls r = c0 := ⟨_, rfl⟩
          rw [hc0] at d1
          have HC0 := Lib.hid hc0
          rw [hc0]
          clear hc0
          by_cases he : c1 = c0
          · have heb : ((c1 : Int) == c0) = true := by simp [he]
            have HE := Lib.hid he; clear he
            go_wp2_with fail
            go_quiet (fail)
            go_wp2_with fail
            go_roundg i
            case measure => omega
            case rel => exact Lib.hid ⟨i, fun j => if j = i then la (i + 1) else la j, by go_num, by omega, by omega, below_drewN (HB4.out.setCell (p := ⟨W.heap.size, i * 4 + 3, none⟩) (Nat.le_refl _) _) _, by
              have := HL3.out.lay (f := fun j => s.getD j 0) hin (la (i + 1)) (Or.inr ⟨rfl, hi1, by show cls (s.getD (i + 1) 0) = cls (s.getD i 0); rw [HC1.out, HRR.out, HC0.out, HE.out]⟩)
              simp only [HRR.out] at this
              rw [← laid4_last w3 W.heap.size i r (cls r) ((i : Int) + 1) (i : Int), HW4.out] at this
              exact this.below (below_drewN (Below.refl _ _) _)⟩
          · have heb : ((c1 : Int) == c0) = false := by simp [he]
            have HE := Lib.hid he; clear he
            go_wp2_with fail
            go_quiet (fail)
            go_wp2_with fail
            go_roundg i
            case measure => omega
            case rel => exact Lib.hid ⟨i, fun j => if j = i then i else la j, by go_num, by omega, by omega, below_drewN HB4.out _, by
              have := HL3.out.lay (f := fun j => s.getD j 0) hin i (Or.inl ⟨rfl, fun _ => by show cls (s.getD (i + 1) 0) ≠ cls (s.getD i 0); rw [HC1.out, HRR.out, HC0.out]; exact HE.out⟩)
              simp only [HRR.out] at this
              rw [HW4.out] at this
              exact this.below (below_drewN (Below.refl _ _) _)⟩
        · have hi1z : decide ((i : Int) + 1 < (s.length : Int)) = false := decide_eq_false (by omega)
          go_wp2_with fail
          go_quiet (fail)
          go_wp2_with fail
          go_roundg i
          case measure => omega
          case rel => exact Lib.hid ⟨i, fun j => if j = i then i else la j, by go_num, by omega, by omega, below_drewN HB4.out _, by
            have := HL3.out.lay (f := fun j => s.getD j 0) hin i (Or.inl ⟨rfl, fun h => absurd h hi1⟩)
            simp only [HRR.out] at this
            rw [HW4.out] at this
            exact this.below (below_drewN (Below.refl _ _) _)⟩
    · obtain rfl : k = 0 := by omega
      go_wp2_with fail
      go_ret
      exact ⟨W.heap.size, la, rfl, Nat.le_refl _, HB.out, ⟨HLB.out.lt, fun i hi => HLB.out.cr i (Nat.zero_le _) hi, fun i hi => HLB.out.cc i (Nat.zero_le _) hi, fun i hi => HLB.out.cn i (Nat.zero_le _) hi, fun i hi => HLB.out.cl i (Nat.zero_le _) hi, fun i hi => (HLB.out.room (i * 4 + 2) (by omega)).2⟩, ⟨fun i hi => HLB.out.le i (Nat.zero_le _) hi, fun i hi => HLB.out.same i (Nat.zero_le _) hi, fun i hi => HLB.out.next i (Nat.zero_le _) hi⟩⟩
end Go.Proofs.YticjgmhgpeihjaaGreatDoor
