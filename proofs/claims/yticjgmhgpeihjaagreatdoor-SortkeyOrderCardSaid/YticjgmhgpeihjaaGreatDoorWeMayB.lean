/-
  Layer weigh: with, whole, which row may be.
-/
import Derived.Test.YticjgmhgpeihjaaGreatDoorWeMayA
import Derived.Test.YticjgmhgpeihjaaGreatDoorLoNorm2
namespace Go.Proofs.YticjgmhgpeihjaaGreatDoor
open Go.RowKit Go.Gz Go.Sort

theorem rune_cell (w : World) (x : Int) (t : TypeId) : ∀ j, j < 1 → (w.alloc (.cells #[.int .i32 x] t)).cell? ⟨w.heap.size, j, none⟩ = some (.int .i32 ([x].getD j 0)) := by
  intro j hj
  obtain rfl : j = 0 := by omega
  rw [World.cell?_alloc_new]; rfl

set_option maxHeartbeats 1000000 in
set_option maxRecDepth 100000 in
theorem with_any (s : List Int) (q : Option Addr) (c : Nat) (r : Int) (W : World) (hs : Row W .i32 q s) (hqc : q = none → c = 0) (hz : s.length ≤ 100000) :
    Calls Tryz.prog 81 #[.slice q s.length c, .int .i32 r] W (RetOwn W (s ++ [r])) := by
  have HS := Lib.hid hs; clear hs
  have HC := Lib.hid hqc; clear hqc
  obtain ⟨i0, hi, hz0, hz1, hz2⟩ := info_parts info_rune
  go_enter Tryz.func81, Tryz.ntmps81
  go_wp2_with (at_make; refine wpList_make_own _ rfl _ _ 36 rfl W.heap.size 21 i0 (.int .i32 0) 1 Tryz.underlying36 hi hz0 hz1 _ _ _ (s.length + 1) rfl rfl rfl ?by1 ?by2 (Nat.le_refl _) ?_)
  case by1 => rw [hz2]; omega
  case by2 => unfold maxLen; omega
  intro w2 hown hgrow
  have hb2 := Lib.hid ((Below.refl W.heap.size W).grown hgrow (Nat.le_refl _) (fun k hk => by cases hk))
  have HO := Lib.hid (show Own w2 W.heap.size 21 .i32 _ [] from hown)
  clear hown hgrow hi hz0 hz1 hz2
  have hs2 := hb2.out.size
  go_wp2_with (at_builtin; refine wpList_own_row rfl _ _ 36 rfl 21 .i32 4 Tryz.underlying36 info_rune (by decide) W.heap.size _ _ rfl HO.out q c s rfl (HS.out.below hb2.out) HC.out (by simp only [List.length_nil]; omega) hs2 ?_)
  intro v3 w3 hown3 hgrow3
  have HB3 := Lib.hid (hb2.out.grown hgrow3 hs2 (fun g hg => HO.out.lt g hg))
  have HO3 := Lib.hid hown3
  clear hown3 hgrow3 HO
  have hs3 := HB3.out.size
  go_wp2_with (at_builtin; refine wpList_own_push rfl _ _ 36 rfl 21 .i32 4 Tryz.underlying36 info_rune (by decide) W.heap.size _ _ rfl (HO3.out.alloc _) w3.heap.size 1 1 [r] rfl rfl ?newCells ?lenOk ?below ?_)
  case newCells => exact rune_cell _ _ _
  case lenOk => omega
  case below => simp; omega
  intro v4 w4 hown4 hgrow4
  have HB4 := Lib.hid ((HB3.out.alloc hs3 _).grown hgrow4 (by simp; omega) (fun g hg => HO3.out.lt g hg))
  have HO4 := Lib.hid hown4
  clear hown4 hgrow4 HO3
  go_wp2_with fail
  go_ret
  exact ⟨v4, rfl, HB4.out, HO4.out⟩

set_option maxHeartbeats 1000000 in
theorem equal_any (a b : List Int) (p q : Option Addr) (c d : Nat) (W : World) (hp : Row W .i32 p a) (hq : Row W .i32 q b) (ha : a.length < 4611686018427387904) (_hb : b.length < 4611686018427387904) :
    Calls Tryz.prog 84 #[.slice p a.length c, .slice q b.length d] W fun e w' => e = .returned (.bool (decide (a = b))) ∧ Below W.heap.size W w' := by
  have HP := Lib.hid hp; clear hp
  have HQ := Lib.hid hq; clear hq
  obtain ⟨bv, hbv⟩ : ∃ bv, decide (a = b) = bv := ⟨_, rfl⟩
  rw [hbv]
  have HV := Lib.hid hbv; clear hbv
  by_cases hl : a.length = b.length
  · have hne : ((a.length : Int) != (b.length : Int)) = false := by simp [hl]
    have HL := Lib.hid hl; clear hl
    go_enter Tryz.func84, Tryz.ntmps84
    go_wp2_with fail
    go_loopg [13] a.length (fun g va wr => ∃ k : Nat, va = .int .i64 k ∧ k ≤ a.length ∧ a.length - k ≤ g ∧ Hid (Below W.heap.size W wr) ∧ Hid (∀ j, j < k → a.getD j 0 = b.getD j 0))
    case atStart => exact ⟨0, rfl, Nat.zero_le _, by omega, Lib.hid (Below.refl _ _), Lib.hid fun j hj => by omega⟩
    case round =>
      obtain ⟨k, rfl, hk, hg, HB, HN⟩ := hrel
      by_cases hlt : k < a.length
      · have hltz : (k : Int) < (a.length : Int) := by omega
        have hltb : k < b.length := by have := HL.out; omega
        have hltbz : (k : Int) < (b.length : Int) := by omega
        obtain ⟨b1, o1, rfl, _, c1⟩ := row_cell HP.out HB.out hlt
        obtain ⟨b2, o2, rfl, _, c2⟩ := row_cell HQ.out HB.out hltb
        obtain ⟨x, hx⟩ : ∃ x, a.getD k 0 = x := ⟨_, rfl⟩
        obtain ⟨y, hy⟩ : ∃ x, b.getD k 0 = x := ⟨_, rfl⟩
        rw [hx] at c1
        rw [hy] at c2
        have HX := Lib.hid hx; clear hx
        have HY := Lib.hid hy; clear hy
        by_cases he : x = y
        · have heb : ((x : Int) != y) = false := by simp [he]
          have HE := Lib.hid he; clear he
          go_wp2_with fail
          go_quiet (fail)
          go_wp2_with fail
          go_roundg (a.length - (k + 1))
          case measure => omega
          case rel => exact ⟨k + 1, by go_num, by omega, by omega, Lib.hid (below_drewN HB.out _), Lib.hid fun j hj => by
            by_cases c : j = k
            · rw [c, HX.out, HY.out, HE.out]
            · exact HN.out j (by omega)⟩
        · have heb : ((x : Int) != y) = true := by simp [he]
          have HE := Lib.hid he; clear he
          go_wp2_with fail
          go_quiet (fail)
          go_wp2_with fail
          go_ret
          refine ⟨?_, below_drewN HB.out _⟩
          have : bv = false := by
            rw [← HV.out]
            refine decide_eq_false fun h => HE.out ?_
            rw [← HX.out, ← HY.out, h]
          rw [this]; rfl
      · obtain rfl : k = a.length := by omega
        have hltz : ¬ (a.length : Int) < (a.length : Int) := by omega
        go_wp2_with fail
        go_ret
        refine ⟨?_, HB.out⟩
        have : bv = true := by
          rw [← HV.out]
          refine decide_eq_true (List.ext_getElem HL.out fun i h1 h2 => ?_)
          have := HN.out i h1
          simpa [List.getD, h1, h2] using this
        rw [this]; rfl
  · have hne : ((a.length : Int) != (b.length : Int)) = true := by simp; omega
    have hf : false = bv := by rw [← HV.out]; exact (decide_eq_false fun h => hl (by rw [h])).symm
    subst hf
    clear HV hl
    go_enter Tryz.func84, Tryz.ntmps84
    go_wp2_with fail
    go_ret
    exact ⟨rfl, Below.refl _ _⟩

theorem may_nil : mayB [] = true := by kernel_rfl
/-- may each rune be, and has none a To. -/
def wholeB (ls : List LR) (s : List Int) : Bool := !s.any mayNotB && decide (apartL ls s = s)
set_option maxHeartbeats 1000000 in
theorem whole_any (ls : List LR) (hm : mayB ls = true) (p : Option Addr) (cap : Nat) (s : List Int) (q : Option Addr) (c : Nat) (W : World) (hl : Lores W p ls) (hs : Row W .i32 q s) (hsz : ls.length < 1000000) (hz : s.length ≤ 100000) :
    Calls Tryz.prog 64 #[.slice p ls.length cap, .slice q s.length c] W fun e w' => e = .returned (.bool (wholeB ls s)) ∧ Below W.heap.size W w' := by
  unfold wholeB
  cases hv : s.any mayNotB with
  | true =>
    have h1 := Lib.hid (normal_text [] may_nil none 0 s hv q c W (Or.inl rfl) hs (by decide) hz)
    clear hl hs hm hv
    go_enter Tryz.func64, Tryz.ntmps64
    go_wp2_with fail
    refine h1.out.mono ?_
    rintro e w1 ⟨rfl, hb1⟩
    have HB := Lib.hid hb1; clear hb1
    go_wp2_with fail
    go_ret
    exact ⟨rfl, HB.out⟩
  | false =>
    have h1 := Lib.hid (normal_ok [] may_nil none 0 s hv q c W (Or.inl rfl) hs (by decide) hz)
    have h2 := Lib.hid (fun w hb => apart_any ls (may_rising hm) (le3_of (may_wrong hm)) p cap s q c w (hl.below hb) (hs.below hb) hsz hz)
    have hlen := apart_le (le3_of (may_wrong hm)) s
    have HS := Lib.hid hs
    clear hl hs hm hv
    generalize apartL ls s = ys at h2 hlen ⊢
    go_enter Tryz.func64, Tryz.ntmps64
    go_wp2_with fail
    refine h1.out.mono ?_
    rintro e w1 ⟨v1, rfl, hb1, _⟩
    have HB1 := Lib.hid hb1; clear hb1
    go_wp2_with fail
    refine (h2.out w1 HB1.out).mono ?_
    rintro e w2 ⟨v2, rfl, hb2, hown2⟩
    have HB2 := Lib.hid (HB1.out.trans (hb2.mono HB1.out.size))
    obtain ⟨q', c', rfl, _, hrow⟩ := Own.row hown2
    have h3 := Lib.hid (equal_any ys s q' q c' c w2 hrow (HS.out.below HB2.out) (by omega) (by omega))
    clear hb2 hown2 hrow
    go_wp2_with fail
    refine h3.out.mono ?_
    rintro e w3 ⟨rfl, hb3⟩
    have HB3 := Lib.hid (HB2.out.trans (hb3.mono HB2.out.size))
    clear hb3
    go_wp2_with fail
    go_ret
    exact ⟨rfl, HB3.out⟩

/-- may this row be, in a table with these rows. -/
def mayRowB (ls : List LR) (rs : List WR) (x : WR) : Bool := (decide (1 ≤ x.of.length) && (decide (x.of.length ≤ 3) && wholeB ls x.of)) && ((decide (x.to.length ≤ 4) && !x.to.any elNotB) && isL rs (x.of.take 1))
end Go.Proofs.YticjgmhgpeihjaaGreatDoor
