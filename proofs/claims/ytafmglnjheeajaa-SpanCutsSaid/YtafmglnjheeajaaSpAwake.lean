/-
  Layer span: the document's example.
-/
import Derived.Test.YtafmglnjheeajaaSpFew
namespace Go.Proofs.Ytafmglnjheeajaa
open Go.RowKit Go.Gz

theorem spans_lit (w : World) (t : TypeId) (ls : List SP) : Spans (w.alloc (.cells (ls.flatMap fun s => [Value.string s.f, Value.string s.t]).toArray t)) (some ⟨w.heap.size, 0, none⟩) ls := by
  refine Or.inr ⟨w.heap.size, 0, rfl, by simp, fun j hj => ?_⟩
  have hh : (w.alloc (.cells (ls.flatMap fun s => [Value.string s.f, Value.string s.t]).toArray t)).heap[w.heap.size]? = some (.cells (ls.flatMap fun s => [Value.string s.f, Value.string s.t]).toArray t) := by
    show (w.heap.push _)[w.heap.size]? = _
    simp
  have key : ∀ (ls : List SP) (j : Nat), j < ls.length → (ls.flatMap fun s => [Value.string s.f, Value.string s.t])[j * 2]? = some (.string ls[j]!.f) ∧ (ls.flatMap fun s => [Value.string s.f, Value.string s.t])[j * 2 + 1]? = some (.string ls[j]!.t) := by
    intro ls
    induction ls with
    | nil => intro j hj; simp at hj
    | cons s r ih =>
      intro j hj
      cases j with
      | zero => exact ⟨rfl, rfl⟩
      | succ j =>
        have := ih j (by simpa using hj)
        rw [show (j + 1) * 2 = j * 2 + 2 by omega]
        simpa using this
  have := key ls j hj
  simp only [World.cell?, hh, Nat.zero_add, List.getElem?_toArray]
  exact this

def sB : ByteArray := ⟨#[98]⟩
def sC : ByteArray := ⟨#[99]⟩
def sD : ByteArray := ⟨#[100]⟩
def sA : ByteArray := ⟨#[97]⟩
def s0 : ByteArray := ⟨#[]⟩
theorem aw1 : hasB ⟨⟨#[98]⟩, ⟨#[100]⟩⟩ ⟨#[99]⟩ = true := by kernel_rfl
theorem aw2 : hasB ⟨⟨#[98]⟩, ⟨#[100]⟩⟩ ⟨#[100]⟩ = false := by kernel_rfl
theorem aw3 : emptyB ⟨⟨#[98]⟩, ⟨#[100]⟩⟩ = false := by kernel_rfl
theorem aw4 : withinB ⟨⟨#[98]⟩, ⟨#[100]⟩⟩ ⟨⟨#[97]⟩, ⟨#[]⟩⟩ = true := by kernel_rfl
theorem aw5 : wholeB [⟨⟨#[]⟩, ⟨#[98]⟩⟩, ⟨⟨#[98]⟩, ⟨#[]⟩⟩] = true := by
  have h1 : followB [⟨⟨#[]⟩, ⟨#[98]⟩⟩, ⟨⟨#[98]⟩, ⟨#[]⟩⟩] = true := follow_end fun j h0 hj => by
    obtain rfl : j = 1 := by simp at hj; omega
    exact ⟨by kernel_rfl, rfl⟩
  unfold wholeB
  rw [h1, if_neg (by simp)]
  have h2 : (!([⟨⟨#[]⟩, ⟨#[98]⟩⟩, ⟨⟨#[98]⟩, ⟨#[]⟩⟩] : List SP).any emptyB) = true := by kernel_rfl
  rw [h2]
  have h3 : sem ((([⟨⟨#[]⟩, ⟨#[98]⟩⟩, ⟨⟨#[98]⟩, ⟨#[]⟩⟩] : List SP)[0]!).f) = true := by kernel_rfl
  rw [h3]
  have h4 : sem ((([⟨⟨#[]⟩, ⟨#[98]⟩⟩, ⟨⟨#[98]⟩, ⟨#[]⟩⟩] : List SP)[([⟨⟨#[]⟩, ⟨#[98]⟩⟩, ⟨⟨#[98]⟩, ⟨#[]⟩⟩] : List SP).length - 1]!).t) = true := by kernel_rfl
  rw [h4]
  rfl
theorem build_from (x : ByteArray) (w : World) : (Instr.build 23 #[(0, .string x)]).run Try.prog w = .ok (.agg #[.string x, .string ⟨#[]⟩]) w := by kernel_rfl
theorem build_to (x : ByteArray) (w : World) : (Instr.build 23 #[(1, .string x)]).run Try.prog w = .ok (.agg #[.string ⟨#[]⟩, .string x]) w := by kernel_rfl
theorem build_both (x y : ByteArray) (w : World) : (Instr.build 23 #[(0, .string x), (1, .string y)]).run Try.prog w = .ok (.agg #[.string x, .string y]) w := by kernel_rfl
theorem build_none (w : World) : (Instr.build 23 #[]).run Try.prog w = .ok (.agg #[.string ⟨#[]⟩, .string ⟨#[]⟩]) w := by kernel_rfl

/-- the cells of a boxed span. -/
def One (W : World) (b : Nat) (f t : ByteArray) : Prop := b < W.heap.size ∧ W.cell? ⟨b, 0, none⟩ = some (.string f) ∧ W.cell? ⟨b, 1, none⟩ = some (.string t)
theorem One.below {W w : World} {b : Nat} {f t : ByteArray} (h : One W b f t) (hb : Below W.heap.size W w) : One w b f t :=
  ⟨Nat.lt_of_lt_of_le h.1 hb.size, by rw [hb.cell (p := ⟨b, 0, none⟩) h.1]; exact h.2.1, by rw [hb.cell (p := ⟨b, 1, none⟩) h.1]; exact h.2.2⟩
theorem One.new (w : World) (f t : ByteArray) : One (w.alloc (.cells #[.string f, .string t] 23)) w.heap.size f t :=
  ⟨by simp, by simp [go_sem], by simp [go_sem]⟩

set_option maxHeartbeats 1000000 in
theorem awake_true (w : World) : Calls Try.prog 7 #[] w fun e w' => e = .returned (.bool true) ∧ Below w.heap.size w w' := by
  have C1 := Lib.hid (fun w => has_any ⟨#[98]⟩ ⟨#[100]⟩ ⟨#[99]⟩ w)
  have C2 := Lib.hid (fun w => has_any ⟨#[98]⟩ ⟨#[100]⟩ ⟨#[100]⟩ w)
  have C3 := Lib.hid (fun w => empty_any ⟨#[98]⟩ ⟨#[100]⟩ w)
  have C4 := Lib.hid (fun w => within_any ⟨#[98]⟩ ⟨#[100]⟩ ⟨#[97]⟩ ⟨#[]⟩ w)
  have C5 := Lib.hid (fun w => whole_any [⟨⟨#[]⟩, ⟨#[98]⟩⟩, ⟨⟨#[98]⟩, ⟨#[]⟩⟩] (some ⟨w.heap.size, 0, none⟩) 2 _ (spans_lit w 23 _) (by simp))
  rw [aw1] at C1
  rw [aw2] at C2
  rw [aw3] at C3
  rw [aw4] at C4
  simp only [aw5] at C5
  have b1 := fun w => build_both ⟨#[98]⟩ ⟨#[100]⟩ w
  have b2 := fun w => build_to ⟨#[98]⟩ w
  have b3 := fun w => build_from ⟨#[98]⟩ w
  have b4 := fun w => build_from ⟨#[97]⟩ w
  go_enter Try.func7, Try.ntmps7
  go_wp2_with fail
  obtain ⟨w0, hw0⟩ : ∃ w0, w.alloc (.cells #[.string ⟨#[98]⟩, .string ⟨#[100]⟩] 23) = w0 := ⟨_, rfl⟩
  have HB0 := Lib.hid (show Below w.heap.size w w0 from hw0 ▸ (Below.refl _ _).alloc (Nat.le_refl _) _)
  have HX0 := Lib.hid (show One w0 w.heap.size ⟨#[98]⟩ ⟨#[100]⟩ from hw0 ▸ One.new w _ _)
  rw [hw0]
  clear hw0
  refine (C1.out w0).mono ?_
  rintro e w1 ⟨rfl, hb1⟩
  have HX1 := Lib.hid (HX0.out.below hb1)
  have HB1 := Lib.hid (HB0.out.trans (hb1.mono HB0.out.size))
  obtain ⟨_, c0, c1⟩ := HX1.out
  clear hb1 C1
  go_wp2_with fail
  refine (C2.out w1).mono ?_
  rintro e w2 ⟨rfl, hb2⟩
  have HX2 := Lib.hid (HX1.out.below hb2)
  have HB2 := Lib.hid (HB1.out.trans (hb2.mono HB1.out.size))
  clear hb2 C2 c0 c1
  obtain ⟨_, c0, c1⟩ := HX2.out
  have C5 := Lib.hid (C5.out w2)
  go_wp2_with fail
  refine C5.out.mono ?_
  rintro e w3 ⟨rfl, hb3⟩
  have hb23 : Below w2.heap.size w2 w3 := ((Below.refl _ _).alloc (Nat.le_refl _) _).trans (hb3.mono (by simp))
  have HX3 := Lib.hid (HX2.out.below hb23)
  have HB3 := Lib.hid (HB2.out.trans (hb23.mono HB2.out.size))
  clear hb3 hb23 C5 c0 c1
  obtain ⟨_, c0, c1⟩ := HX3.out
  go_wp2_with fail
  refine (C3.out w3).mono ?_
  rintro e w4 ⟨rfl, hb4⟩
  have HX4 := Lib.hid (HX3.out.below hb4)
  have HB4 := Lib.hid (HB3.out.trans (hb4.mono HB3.out.size))
  clear hb4 C3 c0 c1
  obtain ⟨_, c0, c1⟩ := HX4.out
  go_wp2_with fail
  refine (C4.out w4).mono ?_
  rintro e w5 ⟨rfl, hb5⟩
  have HB5 := Lib.hid (HB4.out.trans (hb5.mono HB4.out.size))
  clear hb5 C4 c0 c1
  go_wp2_with fail
  go_ret
  exact ⟨rfl, HB5.out⟩
end Go.Proofs.Ytafmglnjheeajaa
