/-
  Layer once: awake.
-/
import Derived.Test.YtjlkfoaccllflaaOnSet
namespace Go.Proofs.Ytjlkfoaccllflaa
open Go.RowKit Go.Gz

def aboveS (S : List (Int × RepL)) (c s : Int) : Bool := match findK sk c S with | none => decide (0 ≤ s) | some y => decide (y.1 < s)
def seeS (S : List (Int × RepL)) (c s : Int) : Int := if aboveS S c s then 0 else match findK sk c S with | none => 2 | some y => if y.1 = s then 1 else 2
theorem see_sem (L : List Ent) (c s : Int) : seeB L c s = seeS (semL L) c s := by
  unfold seeB seeS aboveB aboveS
  rw [find_sem]
  cases findK ck c L <;> rfl
/-- what See answers, told. -/
def RetSs (w : World) (S : List (Int × RepL)) (c s : Int) (e : Ending) (w' : World) : Prop :=
  Below w.heap.size w w' ∧ ∃ r p k, e = .returned (.tuple #[repV r p k, .int .i64 (seeS S c s)]) ∧ (seeS S c s = 1 → ∃ y, findK sk c S = some y ∧ r = y.2)
theorem see_told {W w : World} {T : Nat} {S : List (Int × RepL)} {n : Nat} (h : Tab W T S n w) (c s : Int) (hc : (Lit.int .i64 c).wf = true) :
    Calls Try.prog 15 #[.pointer (some ⟨T, 0, none⟩), .int .i64 c, .int .i64 s] w (RetSs w S c s) := by
  refine (see_tab h c s hc).mono ?_
  rintro e w' ⟨L, rfl, hb, r, p, k, rfl, h1⟩
  refine ⟨hb, r, p, k, by rw [see_sem], fun e => ?_⟩
  rw [see_sem] at h1
  obtain ⟨y, hy, hr⟩ := h1 e
  exact ⟨y.sem, by rw [find_sem, hy]; rfl, hr⟩
def akR : RepL := ⟨1, 5, 0, false, [120], [], [], false⟩
theorem ak_new : newS [] akR = true := by decide
theorem ak_note : noteS [] akR = [(5, akR)] := by unfold noteS; rw [ak_new]; rfl
theorem ak_see5 : seeS [(5, akR)] 1 5 = 1 := by decide
theorem ak_see4 : seeS [(5, akR)] 1 4 = 2 := by decide
theorem ak_see6 : seeS [(5, akR)] 1 6 = 0 := by decide

set_option maxHeartbeats 4000000 in
set_option maxRecDepth 100000 in
theorem awakeOn_yes (w : World) : Calls Try.prog 6 #[] w fun e w' => e = .returned (.bool true) ∧ Below w.heap.size w w' := by
  have CN := Lib.hid (new_any w)
  go_enter Try.func6, Try.ntmps6
  go_wp2_with fail
  refine CN.out.mono ?_
  rintro e w1 ⟨rfl, hT, hb1⟩
  obtain ⟨T, hT0⟩ : ∃ T, w.heap.size = T := ⟨_, rfl⟩
  rw [hT0] at hT hb1 ⊢
  have HT0 := Lib.hid hT0
  have HB1 := Lib.hid hb1
  have HS1 := Lib.hid (Tab.start hT (Kept.refl _ _) hT.lt)
  have C1 := Lib.hid (show Calls Try.prog 14 #[.pointer (some ⟨T, 0, none⟩), .agg #[.int .i64 1, .int .i64 5, .int .i64 0, .bool false, .string ⟨#[120]⟩, .slice none 0 0, .string ⟨#[]⟩, .bool false]] w1 fun e w' => e = .returned (.bool true) ∧ Tab w1 T [(5, akR)] 1 w' ∧ Kept (fun i => i = T ∨ w1.heap.size ≤ i) w1 w' from by
    have := note_tab HS1.out (by omega) akR none 0 (Or.inl rfl) (by decide) (fun _ => rfl) (by decide)
    rw [ak_new, ak_note] at this
    exact this)
  obtain ⟨S, hS⟩ : ∃ S, [((5 : Int), akR)] = S := ⟨_, rfl⟩
  rw [hS] at C1
  have H5 := Lib.hid (show seeS S 1 5 = 1 from hS ▸ ak_see5)
  have H4 := Lib.hid (show seeS S 1 4 = 2 from hS ▸ ak_see4)
  have H6 := Lib.hid (show seeS S 1 6 = 0 from hS ▸ ak_see6)
  have HFS := Lib.hid (show ∀ y, findK sk 1 S = some y → y.2 = akR from fun y h => by
    rw [← hS] at h
    have h2 : findK sk 1 [((5 : Int), akR)] = some (5, akR) := rfl
    rw [h2] at h
    injection h with h
    rw [← h])
  have HSL := Lib.hid (show S.length = 1 by rw [← hS]; rfl)
  clear hT hT0 hb1 CN hS
  go_wp2_with fail
  refine C1.out.mono ?_
  rintro e w2 ⟨rfl, hs2, -⟩
  have HS2 := Lib.hid hs2
  have C2 := Lib.hid (see_told hs2 1 5 (by decide))
  clear hs2 C1
  go_wp2_with fail
  refine C2.out.mono ?_
  rintro e w3 ⟨hb3, r, p, k, rfl, h1⟩
  obtain ⟨y, hy, hr⟩ := h1 H5.out
  rw [HFS.out y hy] at hr
  subst hr
  rw [H5.out, show repV akR p k = .agg #[.int .i64 1, .int .i64 5, .int .i64 0, .bool false, .string ⟨#[120]⟩, .slice p 0 k, .string ⟨#[]⟩, .bool false] from rfl]
  obtain ⟨w4, hw4⟩ : ∃ w4, w3.alloc (.cells #[.int .i64 1, .int .i64 5, .int .i64 0, .bool false, .string ⟨#[120]⟩, .slice p 0 k, .string ⟨#[]⟩, .bool false] 33) = w4 := ⟨_, rfl⟩
  have hb4 : Below w3.heap.size w3 w4 := hw4 ▸ (Below.refl _ _).alloc (Nat.le_refl _) _
  have hk4 : w4.heap[w3.heap.size]? = some (.cells #[.int .i64 1, .int .i64 5, .int .i64 0, .bool false, .string ⟨#[120]⟩, .slice p 0 k, .string ⟨#[]⟩, .bool false] 33 (0, 0)) := hw4 ▸ new_block _ _ _
  have hs4 := (HS2.out.below hb3).below hb4
  have HS4 := Lib.hid hs4
  have HK4 := Lib.hid hk4
  have HW4 := Lib.hid hw4
  have HL4 := Lib.hid (show w3.heap.size < w4.heap.size from (Array.getElem?_eq_some_iff.1 hk4).1)
  have C4 := Lib.hid (see_told hs4 1 4 (by decide))
  clear h1 hy hb3 hb4 hk4 hs4 hw4 C2
  go_upto_region 6 with fail
  rw [HW4.out]
  clear HW4
  go_wp2_with fail
  refine C4.out.mono ?_
  rintro e w5 ⟨hb5, r5, p5, k5, rfl, -⟩
  rw [H4.out]
  unfold repV
  obtain ⟨w6, hw6⟩ : ∃ w6, w5.alloc (.cells #[.int .i64 r5.c, .int .i64 r5.s, .int .i64 r5.e, .bool r5.fd, .string (strB r5.v), .slice p5 r5.ls.length k5, .string (strB r5.nx), .bool r5.mr] 33) = w6 := ⟨_, rfl⟩
  have hb6 : Below w5.heap.size w5 w6 := hw6 ▸ (Below.refl _ _).alloc (Nat.le_refl _) _
  have hs6 := (HS4.out.below hb5).below hb6
  have hk6 := (hb6.block w3.heap.size (by have := hb5.size; have := HL4.out; omega)).trans ((hb5.block w3.heap.size HL4.out).trans HK4.out)
  have HS6 := Lib.hid hs6
  have HK6 := Lib.hid hk6
  have HL6 := Lib.hid (show w3.heap.size < w6.heap.size from (Array.getElem?_eq_some_iff.1 hk6).1)
  have HW6 := Lib.hid hw6
  have C6 := Lib.hid (see_told hs6 1 6 (by decide))
  clear hb5 hb6 hs6 hk6 hw6 C4
  go_upto_region 7 with fail
  rw [HW6.out]
  clear HW6
  go_wp2_with fail
  refine C6.out.mono ?_
  rintro e w7 ⟨hb7, r7, p7, k7, rfl, -⟩
  rw [H6.out]
  unfold repV
  obtain ⟨w8, hw8⟩ : ∃ w8, w7.alloc (.cells #[.int .i64 r7.c, .int .i64 r7.s, .int .i64 r7.e, .bool r7.fd, .string (strB r7.v), .slice p7 r7.ls.length k7, .string (strB r7.nx), .bool r7.mr] 33) = w8 := ⟨_, rfl⟩
  have hb8 : Below w7.heap.size w7 w8 := hw8 ▸ (Below.refl _ _).alloc (Nat.le_refl _) _
  have hs8 := (HS6.out.below hb7).below hb8
  have hk8 := (hb8.block w3.heap.size (by have := hb7.size; have := HL6.out; omega)).trans ((hb7.block w3.heap.size HL6.out).trans HK6.out)
  have HS8 := Lib.hid hs8
  have HW8 := Lib.hid hw8
  have CAll := Lib.hid (all_tab hs8 (by omega))
  have HK8 := Lib.hid hk8
  clear hb7 hb8 hs8 hk8 hw8 C6
  go_upto_region 8 with fail
  rw [HW8.out]
  clear HW8
  have x4 := cell_at HK8.out 4
  have heq : ((⟨#[120]⟩ : ByteArray) == ⟨#[120]⟩) = true := by decide
  go_wp2_with fail
  refine CAll.out.mono ?_
  rintro e w9 ⟨v9, M9, rfl, ho9, hs9, -, -, hb9⟩
  obtain ⟨p9, c9, rfl, -, -, -, -⟩ := ho9.row
  rw [show M9.length = 1 by
    have := congrArg List.length hs9
    rw [HSL.out] at this
    simpa [semL] using this]
  have HB9 := Lib.hid (show Below T w w9 from by
    have h8 := (HS8.out.kept).below (B := T) (fun k hk => by omega) (by have := HS8.out.lt; omega)
    exact HB1.out.trans (h8.trans (hb9.mono (by have := h8.size; have := HS8.out.lt; omega))))
  clear hs9 ho9 hb9 CAll x4
  go_wp2_with fail
  go_ret
  exact ⟨rfl, by rw [HT0.out]; exact HB9.out⟩
end Go.Proofs.Ytjlkfoaccllflaa
