/-
  turn at runes, and Write: runes that may be, and runes of which one may not.
-/
import Derived.Test.YtligebpjeolpmaaDoorScWrite
namespace Go.Proofs.YtligebpjeolpmaaDoor
open Go.RowKit Go.Gz

theorem wturn_ok (rs : List Int) (hv : ∀ r ∈ rs, V r) (p : Option Addr) (c : Nat) (W : World) (hp : Row W .i32 p rs) (hl : rs.length ≤ 100000) (hc : rs.length ≤ c) :
    Calls Tryd.prog 20 #[.slice p rs.length c, .func (.func 21) #[] #[]] W (RetRow0 W .u8 (nums (encAll rs))) := by
  have C1 := Lib.hid (wcount_ok rs hv p c W hp hl hc)
  have C2 := Lib.hid fun w1 (hb : Below W.heap.size W w1) => wfill_ok rs hv p c w1 (hp.below hb) hl hc
  clear hp hv
  go_enter Tryd.func20, Tryd.ntmps20
  go_wp2_with fail
  refine C1.out.mono ?_
  rintro e w1 ⟨rfl, hb1⟩
  go_wp2_with fail
  refine (C2.out w1 hb1).mono ?_
  rintro e w2 ⟨q, d, rfl, hd, hb2, hr⟩
  have HR := Lib.hid hr; clear hr
  go_wp2
  go_ret2
  exact ⟨q, d, by rw [nums_length]; rfl, hd, hb1.trans (hb2.mono hb1.size), HR.out⟩

theorem wturn_bad (l : List Int) (hbad : ¬ ∀ r ∈ l, V r) (p : Option Addr) (c : Nat) (W : World) (hp : Row W .i32 p l) (hl : l.length ≤ 100000) (hc : l.length ≤ c) :
    Calls Tryd.prog 20 #[.slice p l.length c, .func (.func 21) #[] #[]] W fun e w' => e = .returned (.tuple #[.slice none 0 0, .int .i64 2]) ∧ Below W.heap.size W w' := by
  have C1 := Lib.hid (wcount_bad l hbad p c W hp hl hc)
  clear hp hbad
  go_enter Tryd.func20, Tryd.ntmps20
  go_wp2_with fail
  refine C1.out.mono ?_
  rintro e w1 ⟨rfl, hb1⟩
  go_wp2
  go_ret2
  exact ⟨rfl, hb1⟩

/-- 'string(b)' of a row of bytes. -/
theorem run_string (w : World) (l : List UInt8) (p : Option Addr) (c : Nat) (hp : Row w .u8 p (nums l)) :
    (convert 42 9 (.slice p l.length c)).run Tryd.prog w = .ok (.string ⟨l.toArray⟩) w := by
  rcases hp with h | ⟨b, off, rfl, hlt, hc⟩
  · have : l = [] := by simpa [nums] using h
    subst this
    show (convert 42 9 (.slice p 0 c)).run Tryd.prog w = _
    rw [run_convert_bytes_string w 42 9 5 p 0 c Tryd.underlying42 Tryd.underlying5 Tryd.underlying9]
    cases p <;> simp [Conv.bytesToString, loadCells]
    all_goals rfl
  · exact run_convert_bytes_back w 42 9 5 ⟨b, off, none⟩ c l Tryd.underlying42 Tryd.underlying5 Tryd.underlying9 (fun j hj => by
      rw [Addr.add_lit, hc j (by simpa using hj), nums_getD _ _ hj]
      simp [List.getD, hj])

theorem write_ok (rs : List Int) (hv : ∀ r ∈ rs, V r) (p : Option Addr) (c : Nat) (W : World) (hp : Row W .i32 p rs) (hl : rs.length ≤ 100000) (hc : rs.length ≤ c) :
    Calls Tryd.prog 12 #[.slice p rs.length c] W fun e w' => e = .returned (.tuple #[.string ⟨(encAll rs).toArray⟩, .int .i64 0]) ∧ Below W.heap.size W w' := by
  have CT := Lib.hid (wturn_ok rs hv p c W hp hl hc)
  clear hp hv
  go_enter Tryd.func12, Tryd.ntmps12
  go_wp2_with fail
  refine CT.out.mono ?_
  rintro e w2 ⟨q, d, rfl, hd, hb2, hr⟩
  have hrun := run_string w2 (encAll rs) q d hr
  simp only [nums_length]
  clear hr hd
  go_wp2
  go_ret2
  exact ⟨rfl, hb2⟩

theorem write_bad (l : List Int) (hbad : ¬ ∀ r ∈ l, V r) (p : Option Addr) (c : Nat) (W : World) (hp : Row W .i32 p l) (hl : l.length ≤ 100000) (hc : l.length ≤ c) :
    Calls Tryd.prog 12 #[.slice p l.length c] W fun e w' => e = .returned (.tuple #[.string ⟨#[]⟩, .int .i64 2]) ∧ Below W.heap.size W w' := by
  have CT := Lib.hid (wturn_bad l hbad p c W hp hl hc)
  clear hp hbad
  go_enter Tryd.func12, Tryd.ntmps12
  go_wp2_with fail
  refine CT.out.mono ?_
  rintro e w2 ⟨rfl, hb2⟩
  have hrun := run_string w2 [] none 0 (Or.inl rfl)
  simp only [List.length_nil] at hrun
  go_wp2
  go_ret2
  exact ⟨rfl, hb2⟩
end Go.Proofs.YtligebpjeolpmaaDoor
