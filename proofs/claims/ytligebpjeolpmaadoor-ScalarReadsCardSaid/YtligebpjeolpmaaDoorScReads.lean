/-
  ScalarReads: the walk: any bytes: their runes, or that they are none; read and written they are the same.
-/
import Derived.Test.YtligebpjeolpmaaDoorScAwake
import Derived.Test.YtligebpjeolpmaaDoorScRefRead
namespace Go.Proofs.YtligebpjeolpmaaDoor
open Go.RowKit Go.Gz

theorem string_eta (s : ByteArray) (l : List UInt8) (h : s.data.toList = l) : (⟨l.toArray⟩ : ByteArray) = s := by
  subst h
  cases s
  simp

set_option maxHeartbeats 1000000 in
theorem reads_walk (s : ByteArray) (W : World) (hT : Lib.Utf8Tabs 1 2 W) (hs : s.size ≤ 9223372036854775807) :
    Calls Tryd.prog 3 #[.string s] W fun e w' => e = .returned (.bool true) ∧ Below W.heap.size W w' := by
  have HT := Lib.hid hT
  have C0 := Lib.hid (awake_true W hT)
  clear hT
  by_cases hbig : 3000 < s.size
  · have hbig' : (3000 : Int) < (s.size : Int) := by omega
    go_enter Tryd.func3, Tryd.ntmps3
    go_wp2_with fail
    refine C0.out.mono ?_
    rintro e w1 ⟨rfl, hb1⟩
    go_wp2
    go_ret
    exact ⟨rfl, hb1⟩
  · have hsm : (s.size : Int) ≤ 3000 := by omega
    have hsm' : s.size ≤ 3000 := by omega
    clear hs hbig
    by_cases ht : Txt s.data.toList
    · obtain ⟨rs, hv, he⟩ := ht
      have hrl : rs.length ≤ 3000 := by have := rs_le rs; rw [← he] at this; simp at this; omega
      have heta := string_eta s _ he
      have C1 := Lib.hid fun w1 hT1 => read_ok rs hv s he w1 hT1 (by omega)
      have C4 := Lib.hid (show ∀ (w1 : World) (p : Option Addr) (c : Nat), Row w1 .i32 p rs → rs.length ≤ c → Calls Tryd.prog 12 #[.slice p rs.length c] w1 fun e w' => e = .returned (.tuple #[.string s, .int .i64 0]) ∧ Below w1.heap.size w1 w' from fun w1 p c hp hc => by
        have := write_ok rs hv p c w1 hp (by omega) hc
        rw [heta] at this
        exact this)
      have C2 := Lib.hid fun w1 => refRead_any s w1 (by omega)
      have HV := Lib.hid hv; clear hv
      have HE := Lib.hid he; clear he heta
      go_enter Tryd.func3, Tryd.ntmps3
      go_wp2_with fail
      refine C0.out.mono ?_
      rintro e w1 ⟨rfl, hb1⟩
      go_wp2_with fail
      refine (C1.out w1 (tabs_below HT.out hb1)).mono ?_
      rintro e w2 ⟨q, d, rfl, hd, hb2, hr⟩
      have HR := Lib.hid hr; clear hr
      go_wp2_with fail
      refine (C2.out w2).mono ?_
      rintro e w3 ⟨hyes, _, _⟩
      obtain ⟨q2, d2, rfl, hd2, hb3, hr2⟩ := hyes rs HV.out HE.out
      clear hyes
      have hs1 := hb1.size
      have hs2 := hb2.size
      have C3 := Lib.hid (same_yes rs q q2 d d2 w3 (by omega) (HR.out.below hb3) hr2)
      have C4' := Lib.hid fun w4 (hb4 : Below w3.heap.size w3 w4) => C4.out w4 q d ((HR.out.below hb3).below hb4) hd
      have hb03 : Below W.heap.size W w3 := (hb1.trans (hb2.mono hs1)).trans (hb3.mono (by omega))
      clear hr2 hb1 hb2 hb3 hd hd2 hs1 hs2
      go_wp2_with fail
      refine C3.out.mono ?_
      rintro e w4 ⟨rfl, hb4⟩
      go_wp2_with fail
      refine (C4'.out w4 hb4).mono ?_
      rintro e w5 ⟨rfl, hb5⟩
      have hs3 := hb03.size
      have hs4 := hb4.size
      go_wp2
      go_ret
      exact ⟨rfl, (hb03.trans (hb4.mono hs3)).trans (hb5.mono (by omega))⟩
    · have C1 := Lib.hid fun w1 hT1 => read_bad s ht w1 hT1 (by omega)
      have C2 := Lib.hid fun w1 => refRead_any s w1 (by omega)
      have HN := Lib.hid ht; clear ht
      go_enter Tryd.func3, Tryd.ntmps3
      go_wp2_with fail
      refine C0.out.mono ?_
      rintro e w1 ⟨rfl, hb1⟩
      go_wp2_with fail
      refine (C1.out w1 (tabs_below HT.out hb1)).mono ?_
      rintro e w2 ⟨rfl, hb2⟩
      go_wp2_with fail
      refine (C2.out w2).mono ?_
      rintro e w3 ⟨_, hno, hb3⟩
      obtain rfl := hno HN.out
      clear hno
      have hs1 := hb1.size
      have hs2 := hb2.size
      have C3 := Lib.hid (same_yes [] none none 0 0 w3 (by decide) (Or.inl rfl) (Or.inl rfl))
      have hb03 : Below W.heap.size W w3 := (hb1.trans (hb2.mono hs1)).trans (hb3.mono (by omega))
      clear hb1 hb2 hb3 hs1 hs2
      go_wp2_with fail
      refine C3.out.mono ?_
      rintro e w4 ⟨rfl, hb4⟩
      go_wp2
      go_ret
      exact ⟨rfl, hb03.trans (hb4.mono hb03.size)⟩
end Go.Proofs.YtligebpjeolpmaaDoor
