/-
  ScalarKnown: the walk.
-/
import Derived.Test.YtligebpjeolpmaaDoorScAwake
namespace Go.Proofs.YtligebpjeolpmaaDoor
open Go.RowKit Go.Gz

def okB (l : List UInt8) : Bool := !(decide ((stepU l).1 = 65533) && decide ((stepU l).2 < 2))
theorem okB_iff (l : List UInt8) : okB l = true ↔ okS l := by
  unfold okB okS
  by_cases a : (stepU l).1 = 65533 <;> by_cases b : (stepU l).2 < 2 <;> simp [a, b]
/-- may bytes be a text: asked step by step. -/
def txtB : Nat → List UInt8 → Bool
  | 0, l => l.isEmpty
  | n + 1, l => l.isEmpty || (okB l && txtB n (l.drop (stepU l).2))
theorem txtB_of : ∀ (n : Nat) (l : List UInt8), l.length ≤ n → Txt l → txtB n l = true
  | 0, l, hl, _ => by
    have : l = [] := List.eq_nil_of_length_eq_zero (by omega)
    simp [txtB, this]
  | n + 1, l, hl, h => by
    by_cases h0 : l = []
    · simp [txtB, h0]
    · obtain ⟨ok, h2⟩ := txt_step h0 h
      obtain ⟨r, _, _, hs⟩ := step_ok l h0 ok
      have hpos : 0 < l.length := List.length_pos_iff.2 h0
      have := txtB_of n (l.drop (stepU l).2) (by rw [List.length_drop, hs]; have := (enc_length r).1; simp only; omega) h2
      simp [txtB, this, (okB_iff l).2 ok]
theorem no_txt (l : List UInt8) (h : txtB l.length l = false) : ¬ Txt l := fun ht => by
  rw [txtB_of _ l (Nat.le_refl _) ht] at h
  cases h

def bads : List ByteArray := [⟨#[128]⟩, ⟨#[193, 191]⟩, ⟨#[224, 159, 191]⟩, ⟨#[237, 160, 128]⟩, ⟨#[237, 191, 191]⟩, ⟨#[240, 143, 191, 191]⟩, ⟨#[244, 144, 128, 128]⟩, ⟨#[245, 128, 128, 128]⟩, ⟨#[195]⟩, ⟨#[226, 130]⟩, ⟨#[97, 255]⟩]
theorem bads_none : ∀ s ∈ bads, ¬ Txt s.data.toList ∧ s.size ≤ 1000000 := by
  intro s hs
  have h : bads.all (fun s => !txtB s.data.toList.length s.data.toList && decide (s.size ≤ 1000000)) = true := by decide +kernel
  have := List.all_eq_true.1 h s hs
  simp only [Bool.and_eq_true, Bool.not_eq_true', decide_eq_true_eq] at this
  exact ⟨no_txt _ this.1, this.2⟩

def knownRunes : List Int := [127, 128, 2047, 2048, 65535, 65536, 1114111]
def knownText : ByteArray := ⟨#[127, 194, 128, 223, 191, 224, 160, 128, 239, 191, 191, 240, 144, 128, 128, 244, 143, 191, 191]⟩
theorem known_V : ∀ r ∈ knownRunes, V r := by
  intro r hr
  simp only [knownRunes, List.mem_cons, List.not_mem_nil, or_false] at hr
  unfold V
  omega
theorem known_enc : knownText.data.toList = encAll knownRunes := by
  simp only [knownRunes, encAll_cons, encAll_nil]
  rw [enc_one (by omega) (by omega), enc_two (by omega) (by omega), enc_two (by omega) (by omega), enc_three (by omega), enc_three (by omega), enc_four (by omega) (by omega), enc_four (by omega) (by omega)]
  rfl

theorem row_lit (w : World) (k : IntKind) (t : TypeId) (xs : List Int) : Row (w.alloc (.cells (xs.map (Value.int k)).toArray t)) k (some ⟨w.heap.size, 0, none⟩) xs := by
  refine Or.inr ⟨w.heap.size, 0, rfl, by simp, fun j hj => ?_⟩
  have hh : (w.alloc (.cells (xs.map (Value.int k)).toArray t)).heap[w.heap.size]? = some (.cells (xs.map (Value.int k)).toArray t) := by
    show (w.heap.push _)[w.heap.size]? = _
    simp
  simp only [World.cell?, hh, Nat.zero_add]
  simp [List.getD, hj]
def BadsAt (w : World) (b : Nat) : Prop := b < w.heap.size ∧ ∀ k, k < 11 → w.cell? ⟨b, k, none⟩ = some (.string (bads.getD k ⟨#[]⟩))
theorem BadsAt.below {w w' : World} {b : Nat} (h : BadsAt w b) (hb : Below w.heap.size w w') : BadsAt w' b :=
  ⟨Nat.lt_of_lt_of_le h.1 hb.size, fun k hk => by rw [hb.cell (p := ⟨b, k, none⟩) h.1]; exact h.2 k hk⟩
theorem badsAt_lit (w : World) (t : TypeId) : BadsAt (w.alloc (.cells (bads.map Value.string).toArray t)) w.heap.size := by
  refine ⟨by simp, fun k hk => ?_⟩
  have hh : (w.alloc (.cells (bads.map Value.string).toArray t)).heap[w.heap.size]? = some (.cells (bads.map Value.string).toArray t) := by
    show (w.heap.push _)[w.heap.size]? = _
    simp
  have hk' : k < bads.length := hk
  simp only [World.cell?, hh]
  simp [List.getD, hk']
theorem bads_len : bads.length = 11 := rfl
theorem compare_lit (a b : List UInt8) (z : Int) (h : Lib.compareBytes a b = z) (w : World) : Calls Tryd.prog 14 #[.string ⟨a.toArray⟩, .string ⟨b.toArray⟩] w fun e w' => e = .returned (.int .i64 z) ∧ w' = w := by
  have := compare_any ⟨a.toArray⟩ ⟨b.toArray⟩ w
  simpa [h] using this
theorem may_lit (r : Int) (z : Bool) (h : Lib.validRune r = z) (w : World) : Calls Tryd.prog 16 #[.int .i32 r] w fun e w' => e = .returned (.bool z) ∧ w' = w := by
  have := may_any r w
  rwa [h] at this
theorem not_all {l : List Int} {r : Int} (hr : r ∈ l) (h : ¬ V r) : ¬ ∀ x ∈ l, V x := fun k => h (k r hr)

set_option maxHeartbeats 1000000 in
theorem known_walk (W : World) (hT : Lib.Utf8Tabs 1 2 W) :
    Calls Tryd.prog 5 #[] W fun e w' => e = .returned (.bool true) ∧ Below W.heap.size W w' := by
  have HT := Lib.hid hT
  have C0 := Lib.hid (awake_true W hT)
  clear hT
  go_enter Tryd.func5, Tryd.ntmps5
  go_wp2_with fail
  refine C0.out.mono ?_
  rintro e w1 ⟨rfl, hb1⟩
  have C1 := Lib.hid (read_ok knownRunes known_V knownText known_enc w1 (tabs_below HT.out hb1) (by decide))
  go_wp2_with fail
  refine C1.out.mono ?_
  rintro e w2 ⟨q, d, rfl, hd, hb2, hr⟩
  have HR := Lib.hid hr; clear hr hd
  have hsz2 := hb2.size
  have C2 := Lib.hid (same_yes knownRunes q (some ⟨w2.heap.size, 0, none⟩) d 7 (w2.alloc (.cells (knownRunes.map (Value.int .i32)).toArray 21)) (by decide) (HR.out.below ((Below.refl _ _).alloc (Nat.le_refl _) _)) (row_lit _ _ _ _))
  go_wp2_with fail
  refine C2.out.mono ?_
  rintro e w3 ⟨rfl, hb3⟩
  have hsz3 := hb3.size
  simp only [World.size_alloc] at hsz3
  have hb03 : Below W.heap.size W w3 := (hb1.trans (hb2.mono hb1.size)).trans (((Below.refl _ _).alloc (Nat.le_refl _) _).trans (hb3.mono (by simp)) |>.mono (by have := hb1.size; omega))
  clear C0 C1 C2 HR hb1 hb2 hb3 hsz2 hsz3
  have hbads := badsAt_lit w3 9
  have hbl : Below W.heap.size W (w3.alloc (.cells (bads.map Value.string).toArray 9)) := hb03.alloc (by have := hb03.size; omega) _
  have HBads := Lib.hid hbads; clear hbads
  have HT2 := Lib.hid HT.out; clear HT
  generalize hbk : w3.heap.size = bk at HBads
  go_wp2_with fail
  have hbk' := Lib.hid hbk; clear hbk
  go_loopw [4] (fun i wr => ∃ k : Nat, k ≤ 11 ∧ i = .int .i64 k ∧ BadsAt wr bk ∧ Below W.heap.size W wr) (fun i _ => 11 - (intOf i).toNat)
  case atStart => exact ⟨0, by omega, rfl, HBads.out, hbl⟩
  case round =>
    clear HBads hbl hb03
    obtain ⟨k, hk, rfl, hbads, hb⟩ := hrel
    by_cases hlt : k < 11
    · have hcell := hbads.2 k hlt
      have hbb : bk < wr.heap.size := hbads.1
      have hmem : bads.getD k ⟨#[]⟩ ∈ bads := by
        have : k < bads.length := by rw [bads_len]; exact hlt
        simp [List.getD, this]
      have hbd := bads_none _ hmem
      generalize bads.getD k ⟨#[]⟩ = sk at hcell hbd
      have C3 := Lib.hid (read_bad sk hbd.1 wr (tabs_below HT2.out hb) hbd.2)
      have HB := Lib.hid hbads; clear hbads hbd hmem
      have hsz := hb.size
      go_wp2_with fail
      refine C3.out.mono ?_
      rintro e w4 ⟨rfl, hb4⟩
      have HB4 := Lib.hid (HB.out.below hb4)
      have hb04 := hb.trans (hb4.mono hsz)
      go_wp2
      go_roundw
      case rel => exact ⟨k + 1, by omega, by go_num, HB4.out, hb04⟩
      case measure => simp [intOf]; omega
    · obtain rfl : k = 11 := by omega
      have C4 := Lib.hid (write_bad [97, 55296] (not_all (r := 55296) (by simp) (by unfold V; omega)) (some ⟨wr.heap.size, 0, none⟩) 2 (wr.alloc (.cells ([97, 55296].map (Value.int .i32)).toArray 21)) (row_lit _ _ _ _) (by decide) (by decide))
      clear hbads
      go_wp2_with fail
      refine C4.out.mono ?_
      rintro e w4 ⟨rfl, hb4⟩
      have hs4 := hb4.size
      simp only [World.size_alloc] at hs4
      have hb04 : Below W.heap.size W w4 := (hb.alloc hb.size _).trans (hb4.mono (by have := hb.size; simp; omega))
      clear hb4
      have C5 := Lib.hid (write_bad [-1] (not_all (r := -1) (by simp) (by unfold V; omega)) (some ⟨w4.heap.size, 0, none⟩) 1 (w4.alloc (.cells ([-1].map (Value.int .i32)).toArray 21)) (row_lit _ _ _ _) (by decide) (by decide))
      go_wp2_with fail
      refine C5.out.mono ?_
      rintro e w5 ⟨rfl, hb5⟩
      have hs5 := hb5.size
      simp only [World.size_alloc] at hs5
      have hb05 : Below W.heap.size W w5 := (hb04.alloc hb04.size _).trans (hb5.mono (by have := hb04.size; simp; omega))
      clear hb5
      go_wp2_with fail
      refine (compare_lit [] [] 0 (by decide) w5).mono ?_
      rintro e w6 ⟨rfl, rfl⟩
      go_wp2_with fail
      refine (compare_lit [98] [97] 1 (by decide) w6).mono ?_
      rintro e w7 ⟨rfl, rfl⟩
      go_wp2_with fail
      refine (may_lit 1114112 false (by decide) w7).mono ?_
      rintro e w8 ⟨rfl, rfl⟩
      go_wp2
      go_ret
      exact ⟨rfl, hb05⟩
end Go.Proofs.YtligebpjeolpmaaDoor
