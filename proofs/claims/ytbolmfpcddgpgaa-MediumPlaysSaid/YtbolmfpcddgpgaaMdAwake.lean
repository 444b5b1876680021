/-
  Layer medium: the laws' awake; what a call leaves of a medium.
-/
import Derived.Test.YtbolmfpcddgpgaaMdSame
import Derived.Lib.SlBytesConst
namespace Go.Proofs.Ytbolmfpcddgpgaa
open Go.RowKit Go.Gz

section
variable {w w1 : World} {B M : Nat} {vs vl : Value} {S L : List UInt8}
theorem MedAt.below (h : MedAt w B M vs vl S L) (hb : Below w.heap.size w w1) : MedAt w1 B M vs vl S L := h.kept (Kept.of_below (F := fun _ => False) hb) fun _ _ h => h
theorem Turned.next (h : MedAt w B M vs vl S L) {S' L' : List UInt8} (ht : Turned w B M vs vl S' L' w1) : ∃ vs' vl', MedAt w1 B M vs' vl' S' L' ∧ Below B w w1 := by
  obtain ⟨vs', vl', h1, h2, -⟩ := ht
  exact ⟨vs', vl', h1, h2.below (fun k hk => (h.low k hk).1) h.hB⟩
end
/-- a medium with S and L, whatever lies where. -/
def Med (w : World) (B M : Nat) (S L : List UInt8) : Prop := ∃ vs vl, MedAt w B M vs vl S L
section
variable {w w1 : World} {B M : Nat} {S L : List UInt8}
theorem Med.hB (h : Med w B M S L) : B ≤ w.heap.size := by obtain ⟨_, _, h⟩ := h; exact h.hB
theorem Med.below (h : Med w B M S L) (hb : Below w.heap.size w w1) : Med w1 B M S L := by obtain ⟨a, b, h⟩ := h; exact ⟨a, b, h.below hb⟩
theorem Med.alloc (h : Med w B M S L) (o : Obj) : Med (w.alloc o) B M S L := h.below ((Below.refl _ _).alloc (Nat.le_refl _) o)

theorem med_new (w : World) : Calls Try.prog 9 #[] w fun e w' => e = .returned (.pointer (some ⟨w.heap.size, 0, none⟩)) ∧ Med w' w.heap.size w.heap.size [] [] ∧ Below w.heap.size w w' :=
  (new_any w).mono fun _ _ ⟨h1, h2, h3⟩ => ⟨h1, ⟨_, _, h2⟩, h3⟩
theorem med_append (h : Med w B M S L) (b : List UInt8) (hb : L.length + b.length ≤ 1000000) (n : Nat) (hn : b.length = n) (p : Option Addr) (c : Nat) (hp : Row w .u8 p (nums b)) (hpc : p = none → c = 0) :
    Calls Try.prog 13 #[.pointer (some ⟨M, 0, none⟩), .slice p n c] w fun e w' => e = .returned (.tuple #[]) ∧ Med w' B M S (L ++ b) ∧ Below B w w' := by
  obtain ⟨_, _, h⟩ := h
  exact (append_any h b hb n hn p c hp hpc).mono fun _ _ ⟨h1, h2⟩ => by obtain ⟨a, b, h3, h4⟩ := Turned.next h h2; exact ⟨h1, ⟨a, b, h3⟩, h4⟩
theorem med_sync (h : Med w B M S L) (hl : S.length + L.length ≤ 1000000) :
    Calls Try.prog 14 #[.pointer (some ⟨M, 0, none⟩)] w fun e w' => e = .returned (.tuple #[]) ∧ Med w' B M (S ++ L) [] ∧ Below B w w' := by
  obtain ⟨_, _, h⟩ := h
  exact (sync_any h hl).mono fun _ _ ⟨h1, h2⟩ => by obtain ⟨a, b, h3, h4⟩ := Turned.next h h2; exact ⟨h1, ⟨a, b, h3⟩, h4⟩
theorem med_swap (h : Med w B M S L) (b : List UInt8) (hb : b.length ≤ 900000) (n : Nat) (hn : b.length = n) (p : Option Addr) (c : Nat) (hp : Row w .u8 p (nums b)) (hpc : p = none → c = 0) :
    Calls Try.prog 18 #[.pointer (some ⟨M, 0, none⟩), .slice p n c] w fun e w' => e = .returned (.tuple #[]) ∧ Med w' B M b [] ∧ Below B w w' := by
  obtain ⟨_, _, h⟩ := h
  exact (swap_any h b hb n hn p c hp hpc).mono fun _ _ ⟨h1, h2⟩ => by obtain ⟨a, b, h3, h4⟩ := Turned.next h h2; exact ⟨h1, ⟨a, b, h3⟩, h4⟩
theorem med_crash (h : Med w B M S L) (hl : S.length + L.length ≤ 1000000) (keep : Int) (k : Nat) (hk : min (max keep 0) (L.length : Int) = (k : Int)) :
    Calls Try.prog 16 #[.pointer (some ⟨M, 0, none⟩), .int .i64 keep] w fun e w' => e = .returned (.tuple #[]) ∧ Med w' B M (S ++ L.take k) [] ∧ Below B w w' := by
  obtain ⟨_, _, h⟩ := h
  exact (crash_any h hl keep k hk).mono fun _ _ ⟨h1, h2⟩ => by obtain ⟨a, b, h3, h4⟩ := Turned.next h h2; exact ⟨h1, ⟨a, b, h3⟩, h4⟩
theorem med_loose (h : Med w B M S L) (n : Nat) (hn : L.length = n) : Calls Try.prog 15 #[.pointer (some ⟨M, 0, none⟩)] w fun e w' => e = .returned (.int .i64 n) ∧ w = w' := by
  obtain ⟨_, _, h⟩ := h
  exact loose_any h n hn
/-- its bytes, and what 'string' makes of them. -/
theorem med_bytes (h : Med w B M S L) (hS : S.length ≤ 400000) (hL : L.length ≤ 400000) (n : Nat) (hn : (S ++ L).length = n) :
    Calls Try.prog 17 #[.pointer (some ⟨M, 0, none⟩)] w fun e w' => ∃ q d, e = .returned (.slice q n d) ∧ Own w' w.heap.size 5 .u8 (.slice q n d) (nums (S ++ L)) ∧ Med w' B M S L ∧ Below w.heap.size w w' := by
  obtain ⟨_, _, h⟩ := h
  refine (bytes_any h hS hL).mono ?_
  rintro e w' ⟨v, rfl, h1, h2⟩
  obtain ⟨q, d, rfl⟩ := h1.slice ((nums_length _).trans hn)
  exact ⟨q, d, rfl, h1, ⟨_, _, h.below h2⟩, h2⟩
end

theorem row_lit8 (w : World) (l : List UInt8) (xs : List Value) (k : Nat × Nat) (h : xs = (nums l).map (Value.int .u8)) : Row (w.alloc (.cells xs.toArray 5 k)) .u8 (some ⟨w.heap.size, 0, none⟩) (nums l) := by
  subst h
  refine Or.inr ⟨w.heap.size, 0, rfl, by simp, fun j hj => ?_⟩
  have hh : (w.alloc (.cells ((nums l).map (Value.int .u8)).toArray 5 k)).heap[w.heap.size]? = some (.cells ((nums l).map (Value.int .u8)).toArray 5 k) := by
    show (w.heap.push _)[w.heap.size]? = _
    simp
  simp only [World.cell?, hh, Nat.zero_add]
  simp [List.getD, List.getElem?_eq_getElem hj]

set_option maxHeartbeats 4000000 in
set_option maxRecDepth 100000 in
theorem awake_yes (w : World) : Calls Try.prog 7 #[] w fun e w' => e = .returned (.bool true) ∧ Below w.heap.size w w' := by
  have C0 := Lib.hid (med_new w)
  go_enter Try.func7, Try.ntmps7
  go_wp2_with fail
  refine C0.out.mono ?_
  rintro e w1 ⟨rfl, hm, hb⟩
  have C1 := Lib.hid (med_append (hm.alloc (.cells #[.int .u8 97, .int .u8 98, .int .u8 99] 5 (3, 4))) [97, 98, 99] (by decide) 3 rfl (some ⟨w1.heap.size, 0, none⟩) 3 (row_lit8 w1 [97, 98, 99] [.int .u8 97, .int .u8 98, .int .u8 99] (3, 4) rfl) (by intro h; cases h))
  have HB := Lib.hid (hb.alloc hm.hB (.cells #[.int .u8 97, .int .u8 98, .int .u8 99] 5 (3, 4)))
  have hcv := Lib.run_convert_bytes_const (P := Try.prog) w1 28 5 #[.int .u8 97, .int .u8 98, .int .u8 99] 3 3 Try.underlying28 Try.underlying5
  simp only [List.size_toArray, List.length_cons, List.length_nil] at hcv
  clear hm hb
  go_wp2_with fail
  refine C1.out.mono ?_
  rintro e w2 ⟨rfl, hm, hb⟩
  have C2 := Lib.hid (med_sync hm (by decide))
  have HB2 := Lib.hid (HB.out.trans hb)
  clear hm hb
  go_wp2_with fail
  refine C2.out.mono ?_
  rintro e w3 ⟨rfl, hm, hb⟩
  have C3 := Lib.hid (med_append (hm.alloc (.cells #[.int .u8 100, .int .u8 101] 5 (2, 3))) [100, 101] (by decide) 2 rfl (some ⟨w3.heap.size, 0, none⟩) 2 (row_lit8 w3 [100, 101] [.int .u8 100, .int .u8 101] (2, 3) rfl) (by intro h; cases h))
  have HB3 := Lib.hid ((HB2.out.trans hb).alloc hm.hB (.cells #[.int .u8 100, .int .u8 101] 5 (2, 3)))
  have hcv3 := Lib.run_convert_bytes_const (P := Try.prog) w3 28 5 #[.int .u8 100, .int .u8 101] 2 2 Try.underlying28 Try.underlying5
  simp only [List.size_toArray, List.length_cons, List.length_nil] at hcv3
  clear hm hb
  go_wp2_with fail
  refine C3.out.mono ?_
  rintro e w4 ⟨rfl, hm, hb⟩
  have C4 := Lib.hid (med_crash hm (by decide) 1 1 (by decide))
  have HB4 := Lib.hid (HB3.out.trans hb)
  clear hm hb
  go_wp2_with fail
  refine C4.out.mono ?_
  rintro e w5 ⟨rfl, hm, hb⟩
  have C5 := Lib.hid (med_bytes hm (by decide) (by decide) 4 rfl)
  have HB5 := Lib.hid (HB4.out.trans hb)
  have HZ := Lib.hid hm.hB
  clear hm hb
  go_wp2_with fail
  refine C5.out.mono ?_
  rintro e w6 ⟨q, d, rfl, ho, hm, hb⟩
  obtain ⟨q', d', e, hs⟩ := own_string (X := [97, 98, 99, 100]) ho (Below.refl _ _)
  have C6 := Lib.hid (med_loose hm 0 rfl)
  have HB6 := Lib.hid (HB5.out.trans (hb.mono HZ.out))
  clear hm hb ho e
  go_wp2_with fail
  refine C6.out.mono ?_
  rintro e w7 ⟨rfl, rfl⟩
  go_wp2_with fail
  go_ret
  exact ⟨rfl, HB6.out⟩
end Go.Proofs.Ytbolmfpcddgpgaa
