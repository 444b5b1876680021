/-
  Layer weigh: the search of a row.
-/
import Derived.Test.YticjgmhgpeihjaaGreatDoorWeRows
import Derived.BigRegion
namespace Go.Proofs.YticjgmhgpeihjaaGreatDoor
open Go.RowKit Go.Gz Go.Sort

/-- the row found, and whether there is one. -/
def fndL (rs : List WR) (k : List Int) : WR := (rowL rs k).getD WR.zero
def isL (rs : List WR) (k : List Int) : Bool := (rowL rs k).isSome
/-- a row and a bool that a call returned. -/
def RetRow (W : World) (x : WR) (b : Bool) (e : Ending) (w' : World) : Prop :=
  e = .returned (.tuple #[.agg #[.slice x.op x.of.length x.oc, .slice x.tp x.to.length x.tc], .bool b]) ∧ Below W.heap.size W w' ∧ RowAt W x

theorem fnd_at {w : World} {p : Option Addr} {rs : List WR} (h : Wrs w p rs) (k : List Int) : RowAt w (fndL rs k) := by
  unfold fndL
  cases hr : rowL rs k with
  | none => exact RowAt.zero _
  | some x => exact h.mem (row_some hr).1
def FdRel (rs : List WR) (k : List Int) (W : World) (g : Nat) (va vb : Value) (wr : World) : Prop :=
  ∃ lo hi : Nat, va = .int .i64 lo ∧ vb = .int .i64 hi ∧ lo ≤ hi ∧ hi ≤ rs.length ∧ hi - lo ≤ g ∧ Hid (Below (W.heap.size + 1) (W.alloc (.cells #[.slice none 0 0, .slice none 0 0] 47)) wr) ∧ Hid (∀ t, t < lo → cmpL rs[t]!.of k < 0) ∧ Hid (∀ t, hi ≤ t → t < rs.length → 0 < cmpL rs[t]!.of k)

set_option maxHeartbeats 2000000 in
set_option maxRecDepth 100000 in
theorem findW_any (rs : List WR) (hr : RisingW rs) (p : Option Addr) (cap : Nat) (k : List Int) (q : Option Addr) (d : Nat) (W : World) (hl : Wrs W p rs) (hk : Row W .i32 q k) (hsz : rs.length < 1000000) (_hkz : k.length < 1000000) (hof : ∀ x ∈ rs, x.of.length ≤ 9223372036854775807) :
    Calls Tryz.prog 86 #[.slice p rs.length cap, .slice q k.length d, .func (.func 72) #[] #[]] W (RetRow W (fndL rs k) (isL rs k)) := by
  have HL := Lib.hid hl; clear hl
  have HK := Lib.hid hk; clear hk
  have HR := Lib.hid hr; clear hr
  have HF := Lib.hid hof; clear hof
  go_enter Tryz.func86, Tryz.ntmps86
  go_wp2_with fail
  go_loopg [8, 9] rs.length (fun g va vb wr => FdRel rs k W g va vb wr)
  case atStart => exact ⟨0, rs.length, rfl, rfl, Nat.zero_le _, Nat.le_refl _, by omega, Lib.hid (by have := Below.refl (W.heap.size + 1) (W.alloc (.cells #[.slice none 0 0, .slice none 0 0] 47)); exact this), Lib.hid fun t ht => by omega, Lib.hid fun t h1 h2 => by omega⟩
  case round =>
    obtain ⟨lo, hi, rfl, rfl, hlh, hin, hg, HB, HA, HZ⟩ := hrel
    have hbW := Lib.hid (((Below.refl W.heap.size W).alloc (Nat.le_refl _) (.cells #[.slice none 0 0, .slice none 0 0] 47)).trans (HB.out.mono (Nat.le_succ _)))
    have hswr := HB.out.size
    simp only [World.size_alloc] at hswr
    have f0 : wr.cell? ⟨W.heap.size, 0, none⟩ = some (.slice none 0 0) := by rw [HB.out.cell (p := ⟨W.heap.size, 0, none⟩) (by simp)]; simp
    have f1 : wr.cell? ⟨W.heap.size, 1, none⟩ = some (.slice none 0 0) := by rw [HB.out.cell (p := ⟨W.heap.size, 1, none⟩) (by simp)]; simp
    have g0 : wr.frozen? ⟨W.heap.size, 0, none⟩ = false := by rw [HB.out.frozen (p := ⟨W.heap.size, 0, none⟩) (by simp)]; simp
    have g1 : wr.frozen? ⟨W.heap.size, 1, none⟩ = false := by rw [HB.out.frozen (p := ⟨W.heap.size, 1, none⟩) (by simp)]; simp
    by_cases hlt : lo < hi
    · obtain ⟨h, h1, h2, ez⟩ : ∃ h : Nat, lo ≤ h ∧ h < hi ∧ (lo : Int) + ((hi : Int) - (lo : Int)) / 2 = (h : Int) := ⟨lo + (hi - lo) / 2, by omega, by omega, by omega⟩
      have hltz : (lo : Int) < (hi : Int) := by omega
      have hhz : (h : Int) < (rs.length : Int) := by omega
      have hhn : h < rs.length := by omega
      obtain ⟨b, off, rfl, hb0, c1, c2, hrow⟩ := HL.out.at_ hbW.out hhn
      have hfz := HF.out _ (getW_mem hhn)
      obtain ⟨x, hx⟩ : ∃ x, rs[h]! = x := ⟨_, rfl⟩
      rw [hx] at c1 c2 hrow hfz
      have HX := Lib.hid hx; clear hx
      have hc := Lib.hid (compareRow_any x k q d wr hrow (HK.out.below hbW.out) (by omega))
      have HRW := Lib.hid hrow; clear hrow
      obtain ⟨z, hz⟩ : ∃ z, cmpL x.of k = z := ⟨_, rfl⟩
      rw [hz] at hc
      have HZZ := Lib.hid hz; clear hz
      by_cases hz0 : z = 0
      · have hlb : ((z : Int) == 0) = true := by simp [hz0]
        have HV := Lib.hid hz0; clear hz0
        have hres := Lib.hid (show rowL rs k = some x by
          have := row_at HR.out hhn
          rw [HX.out, cmpL_eq.1 (HZZ.out.trans HV.out)] at this
          exact this)
        go_wp2_with fail
        refine hc.out.mono ?_
        rintro e w1 ⟨rfl, hb1⟩
        have hs1 := hb1.size
        have f0' : w1.cell? ⟨W.heap.size, 0, none⟩ = some (.slice none 0 0) := by rw [hb1.cell (p := ⟨W.heap.size, 0, none⟩) (by show W.heap.size < _; omega)]; exact f0
        have f1' : w1.cell? ⟨W.heap.size, 1, none⟩ = some (.slice none 0 0) := by rw [hb1.cell (p := ⟨W.heap.size, 1, none⟩) (by show W.heap.size < _; omega)]; exact f1
        have g0' : w1.frozen? ⟨W.heap.size, 0, none⟩ = false := by rw [hb1.frozen (p := ⟨W.heap.size, 0, none⟩) (by show W.heap.size < _; omega)]; exact g0
        have g1' : w1.frozen? ⟨W.heap.size, 1, none⟩ = false := by rw [hb1.frozen (p := ⟨W.heap.size, 1, none⟩) (by show W.heap.size < _; omega)]; exact g1
        have c1' : w1.cell? ⟨b, off + h * 2, none⟩ = some (.slice x.op x.of.length x.oc) := by rw [hb1.cell (p := ⟨b, off + h * 2, none⟩) (by show b < _; omega)]; exact c1
        have c2' : w1.cell? ⟨b, off + h * 2 + 1, none⟩ = some (.slice x.tp x.to.length x.tc) := by rw [hb1.cell (p := ⟨b, off + h * 2 + 1, none⟩) (by show b < _; omega)]; exact c2
        have HB1 := Lib.hid (hbW.out.trans (hb1.mono (by omega)))
        have HRW1 := Lib.hid (HRW.out.below hb1)
        clear f0 f1 g0 g1 c1 c2 hb1
        go_wp2_with fail
        obtain ⟨w2, hw2⟩ : ∃ w2, (w1.setCell ⟨W.heap.size, 0, none⟩ (.slice x.op x.of.length x.oc)).setCell ⟨W.heap.size, 1, none⟩ (.slice x.tp x.to.length x.tc) = w2 := ⟨_, rfl⟩
        have p0 : w2.cell? ⟨W.heap.size, 0, none⟩ = some (.slice x.op x.of.length x.oc) := by rw [← hw2]; simp [go_sem, f0']
        have p1 : w2.cell? ⟨W.heap.size, 1, none⟩ = some (.slice x.tp x.to.length x.tc) := by rw [← hw2]; simp [go_sem, f1']
        have hb2 : Below W.heap.size W w2 := by rw [← hw2]; exact (HB1.out.setCell (p := ⟨W.heap.size, 0, none⟩) (Nat.le_refl _) _).setCell (p := ⟨W.heap.size, 1, none⟩) (Nat.le_refl _) _
        rw [hw2]
        have hxm : RowAt W x := HL.out.mem (by rw [← HX.out]; exact getW_mem hhn)
        refine bodyPost_ret (v := .tuple #[.agg #[.slice x.op x.of.length x.oc, .slice x.tp x.to.length x.tc], .bool true]) (by simp [results, Tryz.results86, go_sem, p0, p1]) rfl ?_
        have e1 : fndL rs k = x := by unfold fndL; rw [hres.out]; rfl
        have e2 : isL rs k = true := by unfold isL; rw [hres.out]; rfl
        rw [e1, e2]
        exact ⟨rfl, hb2, hxm⟩
      · have hlb : ((z : Int) == 0) = false := by simp [hz0]
        have HV := Lib.hid hz0; clear hz0
        by_cases hneg : z < 0
        · go_wp2_with (go_at_call 72; refine hc.out.mono ?_; rintro e w1 ⟨rfl, hb1⟩)
          go_roundg (hi - (h + 1))
          case measure => omega
          case rel => exact ⟨h + 1, hi, by go_num, rfl, by omega, hin, by omega, Lib.hid (HB.out.trans (hb1.mono (by simpa using hswr))), Lib.hid fun t ht => by
            by_cases c : t = h
            · rw [c, HX.out, HZZ.out]; exact hneg
            · have := HR.out t h (by omega) (by omega)
              rw [HX.out] at this
              exact cmpL_trans this (by rw [HZZ.out]; exact hneg), HZ⟩
        · go_wp2_with (go_at_call 72; refine hc.out.mono ?_; rintro e w1 ⟨rfl, hb1⟩)
          go_roundg (h - lo)
          case measure => omega
          case rel => exact ⟨lo, h, rfl, rfl, by omega, by omega, by omega, Lib.hid (HB.out.trans (hb1.mono (by simpa using hswr))), HA, Lib.hid fun t ht htn => by
            have hzp : 0 < z := by have := HV.out; omega
            by_cases c : t = h
            · rw [c, HX.out, HZZ.out]; exact hzp
            · have h3 := HR.out h t (by omega) (by omega)
              rw [HX.out] at h3
              have h4 : cmpL k x.of < 0 := by rw [cmpL_swap x.of k, HZZ.out]; omega
              have h5 := cmpL_trans h4 h3
              rw [cmpL_swap] at h5
              omega⟩
    · obtain rfl : hi = lo := by omega
      have hltz : ¬ (hi : Int) < (hi : Int) := by omega
      have hres := Lib.hid (show rowL rs k = none from row_no fun i hi' e => by
        have hc0 : cmpL rs[i]!.of k = 0 := cmpL_eq.2 e
        by_cases c : i < hi
        · have := HA.out i c; omega
        · have := HZ.out i (by omega) hi'; omega)
      have a0 : (wr.alloc (.cells #[.slice none 0 0, .slice none 0 0] 47)).cell? ⟨W.heap.size, 0, none⟩ = some (.slice none 0 0) := by rw [World.cell?_alloc_lt _ _ ⟨W.heap.size, 0, none⟩ (by show W.heap.size < _; omega)]; exact f0
      have a1 : (wr.alloc (.cells #[.slice none 0 0, .slice none 0 0] 47)).cell? ⟨W.heap.size, 1, none⟩ = some (.slice none 0 0) := by rw [World.cell?_alloc_lt _ _ ⟨W.heap.size, 1, none⟩ (by show W.heap.size < _; omega)]; exact f1
      have b0 : (wr.alloc (.cells #[.slice none 0 0, .slice none 0 0] 47)).frozen? ⟨W.heap.size, 0, none⟩ = false := by rw [((Below.refl wr.heap.size wr).alloc (Nat.le_refl _) (.cells #[.slice none 0 0, .slice none 0 0] 47)).frozen (p := ⟨W.heap.size, 0, none⟩) (by show W.heap.size < _; omega)]; exact g0
      have b1 : (wr.alloc (.cells #[.slice none 0 0, .slice none 0 0] 47)).frozen? ⟨W.heap.size, 1, none⟩ = false := by rw [((Below.refl wr.heap.size wr).alloc (Nat.le_refl _) (.cells #[.slice none 0 0, .slice none 0 0] 47)).frozen (p := ⟨W.heap.size, 1, none⟩) (by show W.heap.size < _; omega)]; exact g1
      go_wp2_with fail
      obtain ⟨w2, hw2⟩ : ∃ w2, ((wr.alloc (.cells #[.slice none 0 0, .slice none 0 0] 47)).setCell ⟨W.heap.size, 0, none⟩ (.slice none 0 0)).setCell ⟨W.heap.size, 1, none⟩ (.slice none 0 0) = w2 := ⟨_, rfl⟩
      have p0 : w2.cell? ⟨W.heap.size, 0, none⟩ = some (.slice none 0 0) := by rw [← hw2]; simp [go_sem, a0]
      have p1 : w2.cell? ⟨W.heap.size, 1, none⟩ = some (.slice none 0 0) := by rw [← hw2]; simp [go_sem, a1]
      have hb2 : Below W.heap.size W w2 := by rw [← hw2]; exact ((hbW.out.alloc (by omega) _).setCell (p := ⟨W.heap.size, 0, none⟩) (Nat.le_refl _) _).setCell (p := ⟨W.heap.size, 1, none⟩) (Nat.le_refl _) _
      rw [hw2]
      refine bodyPost_ret (v := .tuple #[.agg #[.slice none 0 0, .slice none 0 0], .bool false]) (by simp [results, Tryz.results86, go_sem, p0, p1]) rfl ?_
      have e1 : fndL rs k = WR.zero := by unfold fndL; rw [hres.out]; rfl
      have e2 : isL rs k = false := by unfold isL; rw [hres.out]; rfl
      rw [e1, e2]
      exact ⟨rfl, hb2, RowAt.zero _⟩
end Go.Proofs.YticjgmhgpeihjaaGreatDoor
