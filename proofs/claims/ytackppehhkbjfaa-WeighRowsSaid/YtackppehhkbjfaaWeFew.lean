/-
  The laws' Few; what they ask upon.
-/
import Derived.Test.YtackppehhkbjfaaWeArgs
import Derived.Test.YtackppehhkbjfaaWeRef7
import Derived.Test.YtackppehhkbjfaaWeAwake
namespace Go.Proofs.Ytackppehhkbjfaa
open Go.RowKit Go.Gz Go.Sort

def FewPost (ls : List LR) (rs : List WR) (s : List Int) (W : World) (e : Ending) (w' : World) : Prop := ∃ bv : Bool, e = .returned (.bool bv) ∧ (bv = true → ls.length ≤ 100 ∧ rs.length ≤ 100 ∧ s.length ≤ 200) ∧ Below W.heap.size W w'

set_option maxHeartbeats 4000000 in
set_option maxRecDepth 100000 in
theorem few_any (lp : Option Addr) (ls : List LR) (lc : Nat) (rp : Option Addr) (rs : List WR) (rc : Nat) (top : Int) (sh : Bool) (s : List Int) (q : Option Addr) (c : Nat) (W : World) (hlo : Lores W lp ls) (hro : Wrs W rp rs) (hsz : ls.length ≤ 9223372036854775807) (hrz : rs.length ≤ 9223372036854775807) (hxs : ∀ x ∈ ls, x.to.length ≤ 9223372036854775807) (hof : ∀ x ∈ rs, x.of.length ≤ 9223372036854775807 ∧ x.to.length ≤ 9223372036854775807) (hz : s.length ≤ 9223372036854775807) :
    Calls Try.prog 10 #[.agg #[.slice lp ls.length lc, .slice rp rs.length rc, .int .i64 top, .bool sh], .slice q s.length c] W (FewPost ls rs s W) := by
  have HLO := Lib.hid hlo; clear hlo
  have HRO := Lib.hid hro; clear hro
  have HXS := Lib.hid hxs; clear hxs
  have HOF := Lib.hid hof; clear hof
  go_enter Try.func10, Try.ntmps10
  go_wp2_with fail
  obtain ⟨w0, hw0⟩ : ∃ w0, W.alloc (.cells #[.slice lp ls.length lc, .slice rp rs.length rc, .int .i64 top, .bool sh] 25) = w0 := ⟨_, rfl⟩
  rw [hw0]
  have hb0 := Lib.hid (show Below W.heap.size W w0 from hw0 ▸ (Below.refl _ _).alloc (Nat.le_refl _) _)
  have hs0 : W.heap.size < w0.heap.size := by rw [← hw0]; simp
  have T0 := Lib.hid (show w0.cell? ⟨W.heap.size, 0, none⟩ = some (.slice lp ls.length lc) by rw [← hw0]; simp)
  have T1 := Lib.hid (show w0.cell? ⟨W.heap.size, 1, none⟩ = some (.slice rp rs.length rc) by rw [← hw0]; simp)
  clear hw0
  go_loopg [5, 6] rs.length (fun g vn vi wr => ∃ (k : Nat) (z : Int), vn = .int .i64 z ∧ vi = .int .i64 k ∧ k ≤ rs.length ∧ rs.length - k ≤ g ∧ Hid (Below w0.heap.size w0 wr))
  case atStart => exact ⟨0, 0, rfl, rfl, Nat.zero_le _, by omega, Lib.hid (Below.refl _ _)⟩
  case round =>
    obtain ⟨k, z, rfl, rfl, hk, hg, HB⟩ := hrel
    have t1 := cellB HB.out T1.out hs0
    have t0 := cellB HB.out T0.out hs0
    have HW := Lib.hid (hb0.out.trans (HB.out.mono (Nat.le_of_lt hs0)))
    by_cases hlt : k < rs.length
    · have hltz : (k : Int) < (rs.length : Int) := by omega
      obtain ⟨b, off, rfl, hbW, c1, c2, _⟩ := HRO.out.at_ HW.out hlt
      obtain ⟨hf1, hf2⟩ := HOF.out _ (getW_mem hlt)
      generalize rs[k]! = x at c1 c2 hf1 hf2
      clear t0
      go_wp2_with fail
      go_quiet (fail)
      go_wp2_with fail
      go_roundg (rs.length - (k + 1))
      case measure => omega
      case rel => exact ⟨k + 1, _, rfl, by go_num, by omega, by omega, Lib.hid (below_drewN HB.out _)⟩
    · obtain rfl : k = rs.length := by omega
      have hltz : ¬ (rs.length : Int) < (rs.length : Int) := by omega
      go_wp2_with fail
      obtain ⟨w1, rfl⟩ : ∃ w1, w1 = wr := ⟨_, rfl⟩
      go_loopg [5, 7] ls.length (fun g vn vi w2 => ∃ (k : Nat) (z : Int), vn = .int .i64 z ∧ vi = .int .i64 k ∧ k ≤ ls.length ∧ ls.length - k ≤ g ∧ w2 = w1)
      case atStart => exact ⟨0, z, rfl, rfl, Nat.zero_le _, by omega, rfl⟩
      case round =>
        obtain ⟨k, z, rfl, rfl, hk, hg2, hw⟩ := hrel
        obtain rfl := hw
        by_cases hlt : k < ls.length
        · have hltz : (k : Int) < (ls.length : Int) := by omega
          obtain ⟨b, off, rfl, hbW, c1, c2, c3, _⟩ := HLO.out.at_ HW.out hlt
          have hf1 := HXS.out _ (get_mem hlt)
          generalize ls[k]! = x at c1 c2 c3 hf1
          go_wp2_with fail
          go_roundg (ls.length - (k + 1))
          case measure => omega
          case rel => exact ⟨k + 1, _, rfl, by go_num, by omega, by omega, rfl⟩
        · obtain rfl : k = ls.length := by omega
          have hltz : ¬ (ls.length : Int) < (ls.length : Int) := by omega
          by_cases h1 : rs.length ≤ 100
          · have h1z : decide ((rs.length : Int) ≤ 100) = true := decide_eq_true (by omega)
            by_cases h2 : ls.length ≤ 100
            · have h2z : decide ((ls.length : Int) ≤ 100) = true := decide_eq_true (by omega)
              by_cases h3 : z ≤ 1000
              · by_cases h4 : s.length ≤ 200
                · have h4z : (s.length : Int) ≤ 200 := by omega
                  have H := Lib.hid (show ls.length ≤ 100 ∧ rs.length ≤ 100 ∧ s.length ≤ 200 from ⟨h2, h1, h4⟩)
                  clear h1 h2 h4
                  go_wp2_with fail
                  go_ret
                  exact ⟨true, rfl, fun _ => H.out, HW.out⟩
                · have h4z : decide ((s.length : Int) ≤ 200) = false := decide_eq_false (by omega)
                  clear h4
                  go_wp2_with fail
                  go_ret
                  exact ⟨false, rfl, (fun h => by cases h), HW.out⟩
              · have h3z : decide (z ≤ 1000) = false := decide_eq_false h3
                clear h3
                go_wp2_with fail
                go_ret
                exact ⟨false, rfl, (fun h => by cases h), HW.out⟩
            · have h2z : decide ((ls.length : Int) ≤ 100) = false := decide_eq_false (by omega)
              clear h2
              go_wp2_with fail
              go_ret
              exact ⟨false, rfl, (fun h => by cases h), HW.out⟩
          · have h1z : decide ((rs.length : Int) ≤ 100) = false := decide_eq_false (by omega)
            clear h1
            go_wp2_with fail
            go_ret
            exact ⟨false, rfl, (fun h => by cases h), HW.out⟩
end Go.Proofs.Ytackppehhkbjfaa
