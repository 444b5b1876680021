/-
  The document's example holds: the first sentence of each statement of layer scalar.
-/
import Derived.Test.YtligebpjeolpmaaDoorScWrite2
namespace Go.Proofs.YtligebpjeolpmaaDoor
open Go.RowKit Go.Gz

theorem row_lit1 (w : World) (k : IntKind) (t : TypeId) (x : Int) : Row (w.alloc (.cells #[.int k x] t)) k (some ⟨w.heap.size, 0, none⟩) [x] :=
  Or.inr ⟨w.heap.size, 0, rfl, by simp, fun j hj => by
    match j, hj with
    | 0, _ => simp⟩

def eacute : ByteArray := ⟨#[195, 169]⟩
theorem enc_e9 : encAll [233] = [195, 169] := by
  rw [encAll_cons, enc_two (by omega) (by omega)]; rfl
theorem V_e9 : ∀ r ∈ ([233] : List Int), V r := by intro r hr; simp at hr; subst hr; unfold V; omega

set_option maxHeartbeats 400000 in
theorem awake_true (W : World) (hT : Lib.Utf8Tabs 1 2 W) :
    Calls Tryd.prog 8 #[] W fun e w' => e = .returned (.bool true) ∧ Below W.heap.size W w' := by
  have C1 := Lib.hid (read_ok [233] V_e9 eacute (by rw [enc_e9]; rfl) W hT (by decide))
  clear hT
  have C2 := Lib.hid (show ∀ w1 : World, Calls Tryd.prog 12 #[.slice (some ⟨w1.heap.size, 0, none⟩) 1 1] (w1.alloc (.cells #[.int .i32 233] 21)) fun e w' => e = .returned (.tuple #[.string ⟨#[195, 169]⟩, .int .i64 0]) ∧ Below (w1.alloc (.cells #[.int .i32 233] 21)).heap.size (w1.alloc (.cells #[.int .i32 233] 21)) w' from fun w1 => by
    have := write_ok [233] V_e9 (some ⟨w1.heap.size, 0, none⟩) 1 (w1.alloc (.cells #[.int .i32 233] 21)) (row_lit1 _ _ _ _) (by decide) (by decide)
    rw [enc_e9] at this
    exact this)
  have C3 := Lib.hid (show ∀ w1 : World, Calls Tryd.prog 16 #[.int .i32 97] w1 fun e w' => e = .returned (.bool true) ∧ w' = w1 from fun w1 => by
    have := may_any 97 w1
    rw [show Lib.validRune 97 = true from by decide] at this
    exact this)
  have C4 := Lib.hid (show ∀ w1 : World, Calls Tryd.prog 14 #[.string ⟨#[97]⟩, .string ⟨#[98]⟩] w1 fun e w' => e = .returned (.int .i64 (-1)) ∧ w' = w1 from fun w1 => by
    have := compare_any ⟨#[97]⟩ ⟨#[98]⟩ w1
    rw [show Lib.compareBytes (ByteArray.mk #[97]).data.toList (ByteArray.mk #[98]).data.toList = -1 from by decide] at this
    exact this)
  have hbe : ((⟨#[195, 169]⟩ : ByteArray) == ⟨#[195, 169]⟩) = true := by decide
  go_enter Tryd.func8, Tryd.ntmps8
  go_wp2_with fail
  refine C1.out.mono ?_
  rintro e w1 ⟨q, d, rfl, hd, hb1, hr⟩
  have HR := Lib.hid hr; clear hr
  have hsz1 := hb1.size
  go_wp2_with fail
  refine (C2.out w1).mono ?_
  rintro e w2 ⟨rfl, hb2⟩
  have hsz2 := hb2.size
  simp only [World.size_alloc] at hsz2
  have hb12 : Below w1.heap.size w1 w2 := ((Below.refl _ _).alloc (Nat.le_refl _) _).trans (hb2.mono (by simp))
  have C5 := Lib.hid (same_yes [233] q (some ⟨w2.heap.size, 0, none⟩) d 1 (w2.alloc (.cells #[.int .i32 233] 21)) (by decide) ((HR.out.below hb12).below ((Below.refl _ _).alloc (Nat.le_refl _) _)) (row_lit1 _ _ _ _))
  go_wp2_with fail
  refine C5.out.mono ?_
  rintro e w3 ⟨rfl, hb3⟩
  go_wp2_with fail
  refine (C3.out w3).mono ?_
  rintro e w4 ⟨rfl, rfl⟩
  go_wp2_with fail
  refine (C4.out w4).mono ?_
  rintro e w5 ⟨rfl, rfl⟩
  go_wp2
  go_ret
  refine ⟨rfl, ?_⟩
  have := hb3.size
  simp only [World.size_alloc] at this
  exact hb1.trans ((hb12.mono hsz1).trans (((Below.refl _ _).alloc (by omega) _).trans (hb3.mono (by simp; omega))))
end Go.Proofs.YtligebpjeolpmaaDoor
