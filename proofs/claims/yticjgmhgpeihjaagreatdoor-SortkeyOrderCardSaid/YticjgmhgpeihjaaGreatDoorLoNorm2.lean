/-
  Layer lore: Normal.
-/
import Derived.Test.YticjgmhgpeihjaaGreatDoorLoNormal
namespace Go.Proofs.YticjgmhgpeihjaaGreatDoor
open Go.RowKit Go.Gz Go.Sort

theorem noTo_apart {ls : List LR} (h : mayB ls = true) (s : List Int) : ∀ z ∈ apartL ls s, hasTo ls z = false := by
  intro z hz
  obtain ⟨r, hr, hz⟩ := List.mem_flatMap.1 hz
  unfold ap1 at hz
  split at hz
  · rename_i hpos
    unfold toL at hz hpos
    rcases find_mem (ls := ls) (r := r) with ⟨hm, _⟩ | h0
    · exact may_flat h _ hm z hz
    · rw [h0] at hpos; exact absurd hpos (by decide)
  · rename_i hpos
    simp at hz
    subst hz
    unfold hasTo
    exact decide_eq_false hpos
theorem apart_same {ls : List LR} : ∀ {l : List Int}, (∀ z ∈ l, hasTo ls z = false) → apartL ls l = l
  | [], _ => rfl
  | r :: t, h => by
    have h1 : ap1 ls r = [r] := by
      unfold ap1
      rw [if_neg (of_decide_eq_false (h r (by simp)))]
    have h2 := apart_same (l := t) fun z hz => h z (by simp [hz])
    have e : apartL ls (r :: t) = ap1 ls r ++ apartL ls t := by simp [apartL]
    rw [e, h1, h2]; rfl
theorem valid_apart {ls : List LR} (h : mayB ls = true) {s : List Int} (hs : s.any mayNotB = false) : (apartL ls s).any mayNotB = false := by
  rw [List.any_eq_false] at hs ⊢
  intro z hz
  obtain ⟨r, hr, hz⟩ := List.mem_flatMap.1 hz
  unfold ap1 at hz
  split at hz
  · rename_i hpos
    unfold toL at hz hpos
    rcases find_mem (ls := ls) (r := r) with ⟨hm, _⟩ | h0
    · simpa using valid_of (may_wrong h) _ hm z hz
    · rw [h0] at hpos; exact absurd hpos (by decide)
  · simp at hz
    subst hz
    exact hs _ hr

/-- what Normal answers. -/
def normalL (ls : List LR) (s : List Int) : List Int := orderL (clsL ls) (apartL ls s)
theorem normal_twice {ls : List LR} (h : mayB ls = true) (s : List Int) : normalL ls (normalL ls s) = normalL ls s := by
  unfold normalL
  rw [apart_same (l := orderL (clsL ls) (apartL ls s)) fun z hz => noTo_apart h s z (mem_order.1 hz)]
  exact order_twice _ _
theorem valid_normal {ls : List LR} (h : mayB ls = true) {s : List Int} (hs : s.any mayNotB = false) : (normalL ls s).any mayNotB = false := by
  have h1 := valid_apart h hs
  rw [List.any_eq_false] at h1 ⊢
  exact fun z hz => h1 z (mem_order.1 hz)
theorem normal_length (ls : List LR) (s : List Int) : (normalL ls s).length = (apartL ls s).length := order_length _ _

/-- a row and an error's number, that a call returned. -/
def RetNorm (W : World) (xs : List Int) (e : Ending) (w' : World) : Prop := ∃ v, e = .returned (.tuple #[v, .int .i64 0]) ∧ Below W.heap.size W w' ∧ Own w' W.heap.size 21 .i32 v xs

set_option maxHeartbeats 1000000 in
theorem normal_ok (ls : List LR) (hm : mayB ls = true) (p : Option Addr) (cap : Nat) (s : List Int) (hv : s.any mayNotB = false) (q : Option Addr) (c : Nat) (W : World) (hl : Lores W p ls) (hs : Row W .i32 q s) (hsz : ls.length < 1000000) (hz : s.length ≤ 100000) :
    Calls Tryz.prog 30 #[.slice p ls.length cap, .slice q s.length c] W (RetNorm W (normalL ls s)) := by
  have h1 := may_any ls p cap W hl hsz
  rw [hm] at h1
  have H1 := Lib.hid h1; clear h1
  have H2 := Lib.hid (fun w hb => by have := anyMayNot q c s w (hs.below hb) (by omega); rw [hv] at this; exact this)
  have H3 := Lib.hid (fun w hb => apart_any ls (may_rising hm) (le3_of (may_wrong hm)) p cap s q c w (hl.below hb) (hs.below hb) hsz hz)
  have hlen := apart_le (le3_of (may_wrong hm)) s
  have H4 := Lib.hid (fun w hb q' c' hs' => order_any ls (may_rising hm) p cap (apartL ls s) q' c' w (hl.below hb) hs' hsz (by omega))
  unfold normalL
  generalize orderL (clsL ls) (apartL ls s) = xs at H4 ⊢
  generalize apartL ls s = ys at H3 H4 hlen ⊢
  clear hm hv hl hs
  go_enter Tryz.func30, Tryz.ntmps30
  go_wp2_with fail
  refine H1.out.mono ?_
  rintro e w1 ⟨rfl, hb1⟩
  have hs1 := hb1.size
  go_wp2_with fail
  refine (H2.out w1 hb1).mono ?_
  rintro e w2 ⟨rfl, hb2⟩
  have HB2 := Lib.hid (hb1.trans (hb2.mono hs1))
  clear hb1 hb2
  go_wp2_with fail
  refine (H3.out w2 HB2.out).mono ?_
  rintro e w3 ⟨v, rfl, hb3, hown⟩
  have HB3 := Lib.hid (HB2.out.trans (hb3.mono HB2.out.size))
  obtain ⟨q', c', rfl, _, hrow⟩ := Own.row hown
  have H5 := Lib.hid (H4.out w3 HB3.out q' c' hrow)
  clear hb3 hown hrow H1 H2 H3 H4
  go_wp2_with fail
  refine H5.out.mono ?_
  rintro e w4 ⟨v, rfl, hb4, hown⟩
  have HB4 := Lib.hid (HB3.out.trans (hb4.mono HB3.out.size))
  have HO4 := Lib.hid (own_lower hown HB3.out.size)
  clear hb4 hown
  go_wp2_with fail
  go_ret2
  exact ⟨v, rfl, HB4.out, HO4.out⟩

/-- where the table may not be, or a rune. -/
theorem normal_table (ls : List LR) (hm : mayB ls = false) (p : Option Addr) (cap : Nat) (v : Value) (W : World) (hl : Lores W p ls) (hsz : ls.length < 1000000) :
    Calls Tryz.prog 30 #[.slice p ls.length cap, v] W fun e w' => e = .returned (.tuple #[.slice none 0 0, .int .i64 4]) ∧ Below W.heap.size W w' := by
  have h1 := may_any ls p cap W hl hsz
  rw [hm] at h1
  have H1 := Lib.hid h1; clear h1 hl hm
  go_enter Tryz.func30, Tryz.ntmps30
  go_wp2_with fail
  refine H1.out.mono ?_
  rintro e w1 ⟨rfl, hb1⟩
  have HB := Lib.hid hb1; clear hb1
  go_wp2_with fail
  go_ret2
  exact ⟨rfl, HB.out⟩
theorem normal_text (ls : List LR) (hm : mayB ls = true) (p : Option Addr) (cap : Nat) (s : List Int) (hv : s.any mayNotB = true) (q : Option Addr) (c : Nat) (W : World) (hl : Lores W p ls) (hs : Row W .i32 q s) (hsz : ls.length < 1000000) (hz : s.length ≤ 100000) :
    Calls Tryz.prog 30 #[.slice p ls.length cap, .slice q s.length c] W fun e w' => e = .returned (.tuple #[.slice none 0 0, .int .i64 2]) ∧ Below W.heap.size W w' := by
  have h1 := may_any ls p cap W hl hsz
  rw [hm] at h1
  have H1 := Lib.hid h1; clear h1
  have H2 := Lib.hid (fun w hb => by have := anyMayNot q c s w (hs.below hb) (by omega); rw [hv] at this; exact this)
  clear hm hv hl hs
  go_enter Tryz.func30, Tryz.ntmps30
  go_wp2_with fail
  refine H1.out.mono ?_
  rintro e w1 ⟨rfl, hb1⟩
  have hs1 := hb1.size
  go_wp2_with fail
  refine (H2.out w1 hb1).mono ?_
  rintro e w2 ⟨rfl, hb2⟩
  have HB2 := Lib.hid (hb1.trans (hb2.mono hs1))
  clear hb1 hb2
  go_wp2_with fail
  go_ret2
  exact ⟨rfl, HB2.out⟩
end Go.Proofs.YticjgmhgpeihjaaGreatDoor
