/-
  Layer lore: classify, runes, Order.
-/
import Derived.Test.YticjgmhgpeihjaaGreatDoorLoPairs
namespace Go.Proofs.YticjgmhgpeihjaaGreatDoor
open Go.RowKit Go.Gz Go.Sort

theorem run_make_n {P : Program} (t e : TypeId) (i : TypeInfo) (z : Value) (ht : P.underlying t = some (.slice e)) (hi : P.info? e = some i) (hz : i.zero = some z) (n : Nat) (hbytes : i.bytes * n ≤ 281474976710656) (h63 : n ≤ 9223372036854775807) (w : World) :
    (Instr.makeSlice t (.int .i64 (n : Int)) (.int .i64 (n : Int))).run P w = .ok (.slice (some ⟨w.heap.size, 0, none⟩) n n) (w.alloc (.cells (madeCells z.cells (n * i.size)) e)) := by
  have hb : (i.bytes : Int) * (n : Int) ≤ 281474976710656 := by
    have h : ((i.bytes * n : Nat) : Int) ≤ 281474976710656 := by omega
    rwa [Int.natCast_mul] at h
  have hr := run_make (P := P) w t e i z ht hi hz .i64 .i64 n n (by omega) (by omega) hb (by omega)
  simp only [Int.toNat_natCast] at hr
  exact hr
theorem info_pair : (Tryz.prog.info? 119).map (fun i => (i.zero, i.size, i.bytes)) = some (some (.agg #[.int .i32 0, .int .i64 0]), 2, 16) := by kernel_rfl
theorem make_pairs (n : Nat) (hn : n ≤ 1000000) (w : World) : (Instr.makeSlice 115 (.int .i64 (n : Int)) (.int .i64 (n : Int))).run Tryz.prog w = .ok (.slice (some ⟨w.heap.size, 0, none⟩) n n) (w.alloc (.cells (madeCells #[.int .i32 0, .int .i64 0] (n * 2)) 119)) := by
  obtain ⟨i0, hi, hz0, hz1, hz2⟩ := info_parts info_pair
  have := run_make_n 115 119 i0 _ Tryz.underlying115 hi hz0 n (by rw [hz2]; omega) (by omega) w
  rw [hz1] at this
  exact this
theorem make_runes (n : Nat) (hn : n ≤ 1000000) (w : World) : (Instr.makeSlice 36 (.int .i64 (n : Int)) (.int .i64 (n : Int))).run Tryz.prog w = .ok (.slice (some ⟨w.heap.size, 0, none⟩) n n) (w.alloc (.cells (madeCells #[.int .i32 0] n) 21)) := by
  obtain ⟨i0, hi, hz0, hz1, hz2⟩ := info_parts info_rune
  have := run_make_n 36 21 i0 _ Tryz.underlying36 hi hz0 n (by rw [hz2]; omega) (by omega) w
  rw [hz1, Nat.mul_one] at this
  exact this

/-- a row of n pairs in the making. -/
structure CB (cls : Int → Int) (w : World) (b n : Nat) (xs : List Int) : Prop where
  lt : b < w.heap.size
  room : ∀ j, j < n * 2 → (w.cell? ⟨b, j, none⟩).isSome = true ∧ w.frozen? ⟨b, j, none⟩ = false
  row : PRow cls w b 0 xs
theorem CB.below {cls : Int → Int} {w w' : World} {b n : Nat} {xs : List Int} (h : CB cls w b n xs) (hb : Below w.heap.size w w') : CB cls w' b n xs :=
  ⟨Nat.lt_of_lt_of_le h.lt hb.size, fun j hj => by rw [hb.cell (p := ⟨b, j, none⟩) h.lt, hb.frozen (p := ⟨b, j, none⟩) h.lt]; exact h.room j hj, h.row.below hb h.lt⟩
theorem CB.start (cls : Int → Int) (w : World) (n : Nat) (t : TypeId) : CB cls (w.alloc (.cells (madeCells #[.int .i32 0, .int .i64 0] (n * 2)) t)) w.heap.size n [] := by
  refine ⟨by simp, fun j hj => ?_, fun i hi => by simp at hi⟩
  have hh : (w.alloc (.cells (madeCells #[.int .i32 0, .int .i64 0] (n * 2)) t)).heap[w.heap.size]? = some (.cells (madeCells #[.int .i32 0, .int .i64 0] (n * 2)) t) := by
    show (w.heap.push _)[w.heap.size]? = _
    simp
  have hsz : j < (madeCells #[.int .i32 0, .int .i64 0] (n * 2)).size := by rw [size_madeCells]; exact hj
  constructor
  · simp only [World.cell?, hh]
    rw [Array.getElem?_eq_getElem hsz]; rfl
  · simp only [World.frozen?, hh]
    simp
theorem CB.push {cls : Int → Int} {w : World} {b n : Nat} {xs : List Int} (h : CB cls w b n xs) (r : Int) (k : Nat) (hk : xs.length = k) (hn : k < n) :
    CB cls ((w.setCell ⟨b, k * 2, none⟩ (.int .i32 r)).setCell ⟨b, k * 2 + 1, none⟩ (.int .i64 (cls r))) b n (xs ++ [r]) := by
  subst hk
  have s0 := (h.room (xs.length * 2) (by omega)).1
  have s1 := (h.room (xs.length * 2 + 1) (by omega)).1
  have fz : ∀ a, ((w.setCell ⟨b, xs.length * 2, none⟩ (.int .i32 r)).setCell ⟨b, xs.length * 2 + 1, none⟩ (.int .i64 (cls r))).frozen? a = w.frozen? a := fun a => by rw [World.frozen?_setCell, World.frozen?_setCell]
  have c0 : ((w.setCell ⟨b, xs.length * 2, none⟩ (.int .i32 r)).setCell ⟨b, xs.length * 2 + 1, none⟩ (.int .i64 (cls r))).cell? ⟨b, xs.length * 2, none⟩ = some (.int .i32 r) := by
    rw [World.cell?_setCell_other _ _ _ _ (by intro e; injection e with _ e2; omega)]
    exact World.cell?_setCell_same' _ _ _ s0
  have c1 : ((w.setCell ⟨b, xs.length * 2, none⟩ (.int .i32 r)).setCell ⟨b, xs.length * 2 + 1, none⟩ (.int .i64 (cls r))).cell? ⟨b, xs.length * 2 + 1, none⟩ = some (.int .i64 (cls r)) :=
    World.cell?_setCell_same' _ _ _ (by rw [World.cell?_setCell_other _ _ _ _ (by intro e; injection e with _ e2; omega)]; exact s1)
  have co : ∀ j, j ≠ xs.length * 2 → j ≠ xs.length * 2 + 1 → ((w.setCell ⟨b, xs.length * 2, none⟩ (.int .i32 r)).setCell ⟨b, xs.length * 2 + 1, none⟩ (.int .i64 (cls r))).cell? ⟨b, j, none⟩ = w.cell? ⟨b, j, none⟩ := fun j h1 h2 => by
    rw [World.cell?_setCell_other _ _ _ _ (by intro e; injection e with _ e2; exact h2 e2.symm), World.cell?_setCell_other _ _ _ _ (by intro e; injection e with _ e2; exact h1 e2.symm)]
  refine ⟨by simpa using h.lt, fun j hj => ?_, fun i hi => ?_⟩
  · rw [fz]
    refine ⟨?_, (h.room j hj).2⟩
    by_cases e0 : j = xs.length * 2
    · rw [e0, c0]; rfl
    · by_cases e1 : j = xs.length * 2 + 1
      · rw [e1, c1]; rfl
      · rw [co j e0 e1]; exact (h.room j hj).1
  · rw [fz, fz]
    simp only [List.length_append, List.length_cons, List.length_nil] at hi
    by_cases e : i = xs.length
    · subst e
      have hg : (xs ++ [r]).getD xs.length 0 = r := by simp [List.getD]
      rw [hg]
      simp only [Nat.zero_add]
      exact ⟨⟨c0, (h.room _ (by omega)).2⟩, c1, (h.room _ (by omega)).2⟩
    · have hg : (xs ++ [r]).getD i 0 = xs.getD i 0 := by simp [List.getD, List.getElem?_append_left (show i < xs.length by omega)]
      rw [hg, co _ (by omega) (by omega), co _ (by omega) (by omega)]
      exact h.row i (by omega)

/-- a row of pairs that a call returned. -/
def RetPairs (cls : Int → Int) (W : World) (xs : List Int) (e : Ending) (w' : World) : Prop :=
  ∃ b, e = .returned (.slice (some ⟨b, 0, none⟩) xs.length xs.length) ∧ W.heap.size ≤ b ∧ b < w'.heap.size ∧ Below W.heap.size W w' ∧ PRow cls w' b 0 xs
def ClRel (W : World) (cls : Int → Int) (s : List Int) (i : Value) (wr : World) (g : Nat) : Prop := ∃ k : Nat, i = .int .i64 k ∧ k ≤ s.length ∧ s.length - k ≤ g ∧ Below W.heap.size W wr ∧ CB cls wr W.heap.size s.length (s.take k)

set_option maxHeartbeats 1000000 in
set_option maxRecDepth 100000 in
theorem classify_any (ls : List LR) (hr : Rising ls) (p : Option Addr) (cap : Nat) (s : List Int) (q : Option Addr) (c : Nat) (W : World) (hl : Lores W p ls) (hs : Row W .i32 q s) (hsz : ls.length < 1000000) (hz : s.length ≤ 900000) :
    Calls Tryz.prog 76 #[.slice p ls.length cap, .slice q s.length c] W (RetPairs (clsL ls) W s) := by
  have HL := Lib.hid hl; clear hl
  have HS := Lib.hid hs; clear hs
  have HR := Lib.hid hr; clear hr
  have hmk := make_pairs s.length (by omega)
  go_enter Tryz.func76, Tryz.ntmps76
  go_wp2_with fail
  clear hmk
  go_loopg [13] s.length (fun g i wr => Hid (ClRel W (clsL ls) s i wr g))
  case atStart => exact Lib.hid ⟨0, rfl, Nat.zero_le _, by omega, (Below.refl _ _).alloc (Nat.le_refl _) _, CB.start _ _ _ _⟩
  case round =>
    have hrel' := hrel.out
    clear hrel
    obtain ⟨k, rfl, hk, hg, hb, hcb⟩ := hrel'
    have HB := Lib.hid hb; clear hb
    have HC := Lib.hid hcb; clear hcb
    have hsz2 := HB.out.size
    by_cases hlt : k < s.length
    · have hltz : (k : Int) < (s.length : Int) := by omega
      obtain ⟨b, o, rfl, hbW, hcell⟩ := row_cell HS.out HB.out hlt
      have hts := Lib.hid (take_snoc_getD s k hlt)
      obtain ⟨r, hrr⟩ : ∃ r, s.getD k 0 = r := ⟨_, rfl⟩
      rw [hrr] at hcell hts
      clear hrr
      have hf := Lib.hid (find_any ls HR.out p cap r wr (HL.out.below HB.out) hsz)
      go_wp2_with fail
      refine hf.out.mono ?_
      rintro e w3 ⟨rfl, hb3, _⟩
      have HB3 := Lib.hid (HB.out.trans (hb3.mono hsz2))
      have HC3 := Lib.hid (HC.out.below hb3)
      clear hb3 hf
      have hfd := fun w : World => field1 (findL ls r).r (findL ls r).c (findL ls r).p (findL ls r).to.length (findL ls r).cap w
      have hbd := fun w : World => (show (Instr.build 119 #[(0, .int .i32 r), (1, .int .i64 (findL ls r).c)]).run Tryz.prog w = .ok (.agg #[.int .i32 r, .int .i64 (findL ls r).c]) w by kernel_rfl)
      obtain ⟨⟨x0, hx0⟩, g0⟩ := (show (∃ x, w3.cell? ⟨W.heap.size, k * 2, none⟩ = some x) ∧ w3.frozen? ⟨W.heap.size, k * 2, none⟩ = false from ⟨Option.isSome_iff_exists.1 (HC3.out.room (k * 2) (by omega)).1, (HC3.out.room (k * 2) (by omega)).2⟩)
      obtain ⟨⟨x1, hx1⟩, g1⟩ := (show (∃ x, w3.cell? ⟨W.heap.size, k * 2 + 1, none⟩ = some x) ∧ w3.frozen? ⟨W.heap.size, k * 2 + 1, none⟩ = false from ⟨Option.isSome_iff_exists.1 (HC3.out.room (k * 2 + 1) (by omega)).1, (HC3.out.room (k * 2 + 1) (by omega)).2⟩)
      go_wp2_with fail
      go_roundg (s.length - (k + 1))
      case measure => omega
      case rel => exact Lib.hid ⟨k + 1, by go_num, by omega, by omega, (HB3.out.setCell (p := ⟨W.heap.size, k * 2, none⟩) (Nat.le_refl _) _).setCell (p := ⟨W.heap.size, k * 2 + 1, none⟩) (Nat.le_refl _) _, by
        rw [hts.out]
        exact HC3.out.push r k (by rw [List.length_take]; omega) hlt⟩
    · obtain rfl : k = s.length := by omega
      have hltz : ¬ (s.length : Int) < (s.length : Int) := by omega
      go_wp2_with fail
      go_ret
      exact ⟨W.heap.size, rfl, Nat.le_refl _, HC.out.lt, HB.out, by have := HC.out.row; rw [List.take_length] at this; exact this⟩

/-- a row of runes in the making. -/
def RB (W wr : World) (n k : Nat) (xs : List Int) : Prop := ∃ cur : Array Value, wr.heap[W.heap.size]? = some (.cells cur 21 (0, 0)) ∧ cur.size = n ∧ cur.toList.take k = (xs.take k).map (Value.int .i32)
theorem RB.below {W wr w' : World} {n k : Nat} {xs : List Int} (h : RB W wr n k xs) (hb : Below wr.heap.size wr w') : RB W w' n k xs := by
  obtain ⟨cur, h1, h2⟩ := h
  exact ⟨cur, (hb.block _ (Array.getElem?_eq_some_iff.1 h1).1).trans h1, h2⟩
theorem RB.push {W wr : World} {n k : Nat} {xs : List Int} (h : RB W wr n k xs) (hk : k < n) (hx : k < xs.length) :
    RB W (wr.setCell ⟨W.heap.size, k, none⟩ (.int .i32 (xs.getD k 0))) n (k + 1) xs := by
  obtain ⟨cur, h1, h2, h3⟩ := h
  refine ⟨cur.setIfInBounds k (.int .i32 (xs.getD k 0)), by simp [World.setCell, Array.getElem?_modify, h1], by simpa using h2, ?_⟩
  have hkc : k < cur.toList.length := by simpa [h2] using hk
  rw [Array.toList_setIfInBounds]
  have e1 : (cur.toList.set k (.int .i32 (xs.getD k 0))).take (k + 1) = cur.toList.take k ++ [.int .i32 (xs.getD k 0)] := by
    rw [List.take_succ_eq_append_getElem (by simpa using hkc)]
    simp [List.take_set_of_le]
  rw [e1, h3, take_snoc_getD xs k hx]
  simp
theorem RB.own {W wr : World} {n : Nat} {xs : List Int} (h : RB W wr n n xs) (hx : xs.length = n) (hn : n ≤ 1000000) : Own wr W.heap.size 21 .i32 (.slice (some ⟨W.heap.size, 0, none⟩) n n) xs := by
  obtain ⟨cur, h1, h2, h3⟩ := h
  subst hx
  rw [List.take_length] at h3
  exact ⟨by simp, Or.inr ⟨W.heap.size, xs.length, cur, rfl, Nat.le_refl _, h1, Nat.le_refl _, by unfold maxLen; omega, by rw [h2, Nat.mul_one], by rw [Nat.mul_one]; exact h3⟩⟩
theorem RB.start (W : World) (n : Nat) (xs : List Int) : RB W (W.alloc (.cells (madeCells #[.int .i32 0] n) 21)) n 0 xs := by
  refine ⟨madeCells #[.int .i32 0] n, ?_, size_madeCells _ _, by simp⟩
  show (W.heap.push _)[W.heap.size]? = _
  simp

def RnRel (W : World) (xs : List Int) (i : Value) (wr : World) (g : Nat) : Prop := ∃ k : Nat, i = .int .i64 k ∧ k ≤ xs.length ∧ xs.length - k ≤ g ∧ Below W.heap.size W wr ∧ RB W wr xs.length k xs

set_option maxHeartbeats 1000000 in
set_option maxRecDepth 100000 in
theorem runes_any (cls : Int → Int) (xs : List Int) (blk : Nat) (W : World) (hp : PRow cls W blk 0 xs) (hblk : blk < W.heap.size) (hz : xs.length ≤ 900000) :
    Calls Tryz.prog 79 #[.slice (some ⟨blk, 0, none⟩) xs.length xs.length] W (RetOwn W xs) := by
  have HP := Lib.hid hp; clear hp
  have hmk := make_runes xs.length (by omega)
  go_enter Tryz.func79, Tryz.ntmps79
  go_wp2_with fail
  clear hmk
  go_loopg [11] xs.length (fun g i wr => Hid (RnRel W xs i wr g))
  case atStart => exact Lib.hid ⟨0, rfl, Nat.zero_le _, by omega, (Below.refl _ _).alloc (Nat.le_refl _) _, RB.start _ _ _⟩
  case round =>
    have hrel' := hrel.out
    clear hrel
    obtain ⟨k, rfl, hk, hg, hb, hrb⟩ := hrel'
    have HB := Lib.hid hb; clear hb
    have HR := Lib.hid hrb; clear hrb
    have hsz2 := HB.out.size
    by_cases hlt : k < xs.length
    · have hltz : (k : Int) < (xs.length : Int) := by omega
      obtain ⟨⟨c0, _⟩, c1, _⟩ := (HP.out.below HB.out hblk) k hlt
      rw [Nat.zero_add] at c0 c1
      obtain ⟨r, hrr⟩ : ∃ r, xs.getD k 0 = r := ⟨_, rfl⟩
      rw [hrr] at c0 c1
      have HRR := Lib.hid hrr; clear hrr
      obtain ⟨cv, hcv⟩ : ∃ cv, cls r = cv := ⟨_, rfl⟩
      rw [hcv] at c1
      clear hcv
      have hlt0 : W.heap.size < wr.heap.size := by obtain ⟨cur, h1, _⟩ := HR.out; exact (Array.getElem?_eq_some_iff.1 h1).1
      have hne : W.heap.size ≠ wr.heap.size := by omega
      obtain ⟨⟨v0, hv0⟩, g0⟩ : (∃ v, wr.cell? ⟨W.heap.size, k, none⟩ = some v) ∧ wr.frozen? ⟨W.heap.size, k, none⟩ = false := by
        obtain ⟨cur, h1, h2, _⟩ := HR.out
        constructor
        · exact ⟨cur[k]'(by omega), by simp [World.cell?, h1, show k < cur.size by omega]⟩
        · simp [World.frozen?, h1]
      go_wp2_with fail
      go_roundg (xs.length - (k + 1))
      case measure => omega
      case rel => exact Lib.hid ⟨k + 1, by go_num, by omega, by omega, (HB.out.setCell (p := ⟨W.heap.size, k, none⟩) (Nat.le_refl _) _).alloc (by simpa using hsz2) _, by
        have := HR.out.push hlt hlt
        rw [HRR.out] at this
        exact this.below ((Below.refl _ _).alloc (Nat.le_refl _) _)⟩
    · obtain rfl : k = xs.length := by omega
      have hltz : ¬ (xs.length : Int) < (xs.length : Int) := by omega
      go_wp2_with fail
      go_ret
      exact ⟨_, rfl, HB.out, HR.out.own rfl (by omega)⟩
end Go.Proofs.YticjgmhgpeihjaaGreatDoor
