/-
  turn and Read: bytes that are a text, and bytes that are none.
-/
import Derived.Test.YtjamkefndniljaaDoorSdTurn
namespace Go.Proofs.YtjamkefndniljaaDoor.Sc
open Go.RowKit Go.Gz

/-- a slice and the number nought, that a call returned. -/
def RetRow0 (W : World) (k : IntKind) (xs : List Int) (e : Ending) (w' : World) : Prop :=
  ∃ p c, e = .returned (.tuple #[.slice p xs.length c, .int .i64 0]) ∧ xs.length ≤ c ∧ Below W.heap.size W w' ∧ Row w' k p xs

theorem turn_ok (rs : List Int) (hv : ∀ r ∈ rs, V r) (p : Option Addr) (c : Nat) (W : World) (hT : Lib.Utf8Tabs 1 2 W) (hp : Row W .u8 p (nums (encAll rs))) (hl : (encAll rs).length ≤ 1000000) (hc : (encAll rs).length ≤ c) :
    Calls Tryd.prog 27 #[.slice p (encAll rs).length c, .func (.func 28) #[] #[]] W (RetRow0 W .i32 rs) := by
  have C1 := Lib.hid (count_ok rs hv p c W hT hp hl hc)
  have C2 := Lib.hid fun w1 (hb : Below W.heap.size W w1) => fill_ok rs hv p c w1 (tabs_below hT hb) (hp.below hb) hl hc
  clear hp hT hv
  go_enter Tryd.func27, Tryd.ntmps27
  go_wp2_with fail
  refine C1.out.mono ?_
  rintro e w1 ⟨rfl, hb1⟩
  go_wp2_with fail
  refine (C2.out w1 hb1).mono ?_
  rintro e w2 ⟨q, d, rfl, hd, hb2, hr⟩
  have HR := Lib.hid hr; clear hr
  go_wp2
  go_ret2
  exact ⟨q, d, rfl, hd, hb1.trans (hb2.mono hb1.size), HR.out⟩

theorem turn_bad (l : List UInt8) (hbad : ¬ Txt l) (p : Option Addr) (c : Nat) (W : World) (hT : Lib.Utf8Tabs 1 2 W) (hp : Row W .u8 p (nums l)) (hl : l.length ≤ 1000000) (hc : l.length ≤ c) :
    Calls Tryd.prog 27 #[.slice p l.length c, .func (.func 28) #[] #[]] W fun e w' => e = .returned (.tuple #[.slice none 0 0, .int .i64 2]) ∧ Below W.heap.size W w' := by
  have C1 := Lib.hid (count_bad l hbad p c W hT hp hl hc)
  clear hp hT hbad
  go_enter Tryd.func27, Tryd.ntmps27
  go_wp2_with fail
  refine C1.out.mono ?_
  rintro e w1 ⟨rfl, hb1⟩
  go_wp2
  go_ret2
  exact ⟨rfl, hb1⟩

/-- '[]byte(s)': a new row of s's bytes. -/
theorem run_bytes (w : World) (s : ByteArray) : ∃ (c : Nat) (w' : World), (convert 9 44 (.string s)).run Tryd.prog w = .ok (.slice (some ⟨w.heap.size, 0, none⟩) s.size c) w' ∧
    Below w.heap.size w w' ∧ Row w' .u8 (some ⟨w.heap.size, 0, none⟩) (nums s.data.toList) ∧ s.size ≤ c := by
  refine ⟨_, _, run_bytes_of_string (P := Tryd.prog) w 9 44 5 s Tryd.underlying9 Tryd.underlying44 Tryd.underlying5, ((Below.refl _ _).drew).alloc (Nat.le_refl _) _, ?_, grownCap_ge _ _ _ _⟩
  refine Or.inr ⟨_, 0, rfl, by simp, fun j hj => ?_⟩
  have hj' : j < s.data.size := by simpa using hj
  rw [Nat.zero_add, nums_getD _ _ (by simpa using hj')]
  have hh : (w.drew.alloc (.cells (bytesRow s (grownCap w s.size 0 5)) 5 ((bytesRow s (grownCap w s.size 0 5)).size, (bytesRow s (grownCap w s.size 0 5)).size + 1))).heap[w.heap.size]? = some (.cells (bytesRow s (grownCap w s.size 0 5)) 5 ((bytesRow s (grownCap w s.size 0 5)).size, (bytesRow s (grownCap w s.size 0 5)).size + 1)) := by
    show (w.heap.push _)[w.heap.size]? = _
    simp
  simp only [World.cell?, hh]
  rw [bytesRow_at _ _ _ hj']
  simp only [List.getD, Array.getElem?_toList]
  rw [Array.getElem?_eq_getElem hj']
  rfl

theorem read_ok (rs : List Int) (hv : ∀ r ∈ rs, V r) (s : ByteArray) (hs : s.data.toList = encAll rs) (W : World) (hT : Lib.Utf8Tabs 1 2 W) (hl : s.size ≤ 1000000) :
    Calls Tryd.prog 18 #[.string s] W (RetRow0 W .i32 rs) := by
  obtain ⟨c, w1, hrun, hb1, hr, hc⟩ := run_bytes W s
  have hsz : s.size = (encAll rs).length := by rw [← hs]; simp
  rw [hs] at hr
  rw [hsz] at hrun hc hl
  have CT := Lib.hid (turn_ok rs hv _ c w1 (tabs_below hT hb1) hr hl hc)
  clear hs hr hT hv hsz
  go_enter Tryd.func18, Tryd.ntmps18
  go_wp2_with fail
  refine CT.out.mono ?_
  rintro e w2 ⟨q, d, rfl, hd, hb2, hr⟩
  have HR := Lib.hid hr; clear hr
  go_wp2
  go_ret2
  exact ⟨q, d, rfl, hd, hb1.trans (hb2.mono hb1.size), HR.out⟩

theorem read_bad (s : ByteArray) (hbad : ¬ Txt s.data.toList) (W : World) (hT : Lib.Utf8Tabs 1 2 W) (hl : s.size ≤ 1000000) :
    Calls Tryd.prog 18 #[.string s] W fun e w' => e = .returned (.tuple #[.slice none 0 0, .int .i64 2]) ∧ Below W.heap.size W w' := by
  obtain ⟨c, w1, hrun, hb1, hr, hc⟩ := run_bytes W s
  have hsz : s.size = s.data.toList.length := by simp
  rw [hsz] at hrun hc hl
  have CT := Lib.hid (turn_bad s.data.toList hbad _ c w1 (tabs_below hT hb1) hr hl hc)
  clear hr hT hbad hsz
  go_enter Tryd.func18, Tryd.ntmps18
  go_wp2_with fail
  refine CT.out.mono ?_
  rintro e w2 ⟨rfl, hb2⟩
  go_wp2
  go_ret2
  exact ⟨rfl, hb1.trans (hb2.mono hb1.size)⟩
end Go.Proofs.YtjamkefndniljaaDoor.Sc
