/-
  Several texts in one: SkCard, SkRefLev, SkRead, SkMake, SkCmp, SkOrdM, RegInv, RegMono, SkRefMk, SkAwake, SkMk, SkOrd.
-/
import Derived.Test.YticjgmhgpeihjaaGreatDoorCards
import Derived.Test.YticjgmhgpeihjaaGreatDoorTie
import Derived.Test.YticjgmhgpeihjaaGreatDoorLaw2
import Derived.Test.YticjgmhgpeihjaaGreatDoorLoArgs
import Derived.ProofKit
import Derived.OpenShut
import Derived.Deep.DeepHandedRow
import Derived.Lib.LaidU8
import Derived.PinnedBridge
import Derived.Test.YticjgmhgpeihjaaGreatDoorMgA
import Derived.Test.YticjgmhgpeihjaaGreatDoorMgC
import Derived.Test.YticjgmhgpeihjaaGreatDoorMgB
import Derived.Test.YticjgmhgpeihjaaGreatDoorWeElem
import Derived.Test.YticjgmhgpeihjaaGreatDoorRows2
import Derived.Orders
import Derived.Deep.CutRange
namespace Go.Proofs.YticjgmhgpeihjaaGreatDoor
open Go.ChangeShapes Go.WideShapes Go.ChangeAt Go.RowKit Go.Gz Go.Lib

theorem gFirst : Tryz.prog.globalNamed "unicode/utf8.first" = some 1 := by kernel_rfl
theorem gAcc : Tryz.prog.globalNamed "unicode/utf8.acceptRanges" = some 2 := by kernel_rfl
theorem gFirstT : (Tryz.prog.globals[1]?).map (·.type) = some 142 := by kernel_rfl
theorem gAccT : (Tryz.prog.globals[2]?).map (·.type) = some 145 := by kernel_rfl
theorem cellsByte : Tryz.prog.cellsOf 5 = 1 := by kernel_rfl
theorem cellsFirst : Tryz.prog.cellsOf 142 = 256 := by kernel_rfl
theorem cellsAcc : Tryz.prog.cellsOf 144 = 2 := by kernel_rfl
theorem acc_eq : (Rows.laid_unicode_utf8_acceptRanges : DataW Unit) = acceptData := by kernel_rfl


def tabList : List (String × DataW Unit) := [("unicode/utf8.acceptRanges", Rows.laid_unicode_utf8_acceptRanges), ("unicode/utf8.first", Rows.laid_unicode_utf8_first)]

/-- what the row's list gives: the two tables of utf8. -/
theorem tabs_of_laid {w : World} (h : laidMetH Tryz.prog tabList w) : Lib.Utf8Tabs 1 2 w := by
  rw [MakeChecks.laidMetH_plain _ _ _ (by kernel_rfl)] at h
  have h4 : VarReads Tryz.prog w "unicode/utf8.acceptRanges" acceptData := by rw [← acc_eq]; exact laidMet.reads h (by simp [tabList])
  have h3 : VarReads Tryz.prog w "unicode/utf8.first" firstData := by rw [← Pinned.utf8First_eq]; exact laidMet.reads h (by simp [tabList, Rows.laid_unicode_utf8_first])
  refine ⟨fun c hc => ?_, fun i hi => ?_⟩
  · obtain ⟨g, t, cs, fuel, p, hg, hty, hvar, hd⟩ := h3
    obtain rfl := Option.some.inj (gFirst.symm.trans hg)
    obtain rfl := Option.some.inj (gFirstT.symm.trans hty)
    have hcs := cells_of_tab Tryz.underlying142 Tryz.underlying5 cellsByte cellsFirst hd
    have := World.var?_cell hg hvar c
    rw [this, ← Array.getElem?_toList, hcs]
    simp [firstTab, hc]
  · obtain ⟨g, t, cs, fuel, p, hg, hty, hvar, hd⟩ := h4
    obtain rfl := Option.some.inj (gAcc.symm.trans hg)
    obtain rfl := Option.some.inj (gAccT.symm.trans hty)
    obtain ⟨fuel', d, q, hdi, he⟩ := array_elem Tryz.underlying145 hd i hi
    simp only [List.getElem?_map, List.getElem?_range hi, Option.map_some, Option.some.injEq] at hdi
    subst hdi
    rw [cellsAcc] at he
    have hcs := ints_of_struct Tryz.underlying144 (fun j f hj => by
      match j, hj with
      | 0, hj => simp at hj; subst hj; exact ⟨Tryz.underlying5, rfl, cellsByte⟩
      | 1, hj => simp at hj; subst hj; exact ⟨Tryz.underlying5, rfl, cellsByte⟩
      | j + 2, hj => simp at hj) (by rw [cellsAcc]; rfl) he
    have e0 := congrArg (·[0]?) hcs
    have e1 := congrArg (·[1]?) hcs
    simp only [List.getElem?_take, List.getElem?_drop] at e0 e1
    constructor
    · rw [World.var?_cell hg hvar (2 * i), ← Array.getElem?_toList]
      simpa [Nat.mul_comm] using e0
    · rw [World.var?_cell hg hvar (2 * i + 1), ← Array.getElem?_toList]
      simpa [Nat.mul_comm] using e1

def layFirst : Obj → Obj
  | .cells _ t frozen => .cells ((List.range 256).map fun c => Value.int .u8 (firstT c)).toArray t frozen
  | o => o
def layAcc : Obj → Obj
  | .cells _ t frozen => .cells ((List.range 32).map fun c => Value.int .u8 (if c % 2 = 0 then accLo (c / 2) else accHi (c / 2))).toArray t frozen
  | o => o
/-- A WORLD FOR THE WITNESS: the settled one, the two tables as their initialisers lay them. -/
noncomputable def laidWorld (os : Os) : World :=
  { World.holding Tryz.prog os ⟨#[], #[], []⟩ with heap := ((World.holding Tryz.prog os ⟨#[], #[], []⟩).heap.modify 1 layFirst).modify 2 layAcc }
set_option maxRecDepth 100000 in
theorem laid_met0 (os : Os) : laidMet Tryz.prog tabList ((laidWorld os).forCall (fun _ _ => 0) ⟨#[], #[], []⟩).memory :=
  laidMet_of_run' 8 (by kernel_rfl) (by kernel_rfl)

theorem wf_u8_of {n : Int} (h : (Lit.int .u8 n).wf = true) : 0 ≤ n ∧ n ≤ 255 := by
  obtain ⟨h1, h2⟩ := wf_bounds h
  have e1 : IntKind.u8.min = 0 := by decide
  have e2 : IntKind.u8.max = 255 := by decide
  omega

end Go.Proofs.YticjgmhgpeihjaaGreatDoor
namespace Go.Gz
theorem levSt_false {top : Int} : ∀ (l : List EL), (levSt false top l).2 = false := by
  have h : ∀ (l : List EL) (st : LvSt), st.2 = false → (l.foldl (levStep false top) st).2 = false := by
    intro l
    induction l with
    | nil => intro st h; exact h
    | cons x l ih => intro st h; exact ih _ h
  exact fun l => h l _ rfl
theorem addW_last {L : List (List Int)} (h : L.length = 4) {p : Int} (hp : 0 < p) : addW L [0, 0, 0, p] = L.set 3 (L.getD 3 [] ++ [p]) := by
  match L, h with
  | [a, b, c, d], _ => simp [addW, hp]
end Go.Gz
namespace Go.Proofs.YticjgmhgpeihjaaGreatDoor
open Go.RowKit Go.Gz Go.Sort

/-- what holds in the round of the reference's Levels. -/
structure RLs (W w0 : World) (g eb : Nat) (p s t top : Int) (sb : Bool) (vs : Nat → Value) (L : List (List Int)) (w : World) : Prop where
  b0 : Below g w0 w
  rows : Rows4 w g vs L
  e0 : w.cell? ⟨eb, 0, none⟩ = some (.int .i64 p)
  e1 : w.cell? ⟨eb, 1, none⟩ = some (.int .i64 s)
  e2 : w.cell? ⟨eb, 2, none⟩ = some (.int .i64 t)
  lt : eb < w.heap.size
  ne : eb ≠ g
  far : ∀ i, i < 4 → (vs i).ownBlock ≠ some eb
  c2 : w.cell? ⟨W.heap.size, 2, none⟩ = some (.int .i64 top)
  c3 : w.cell? ⟨W.heap.size, 3, none⟩ = some (.bool sb)
theorem RLs.push {W w0 w w' : World} {g eb : Nat} {p s t top : Int} {sb : Bool} {vs : Nat → Value} {L : List (List Int)} (h : RLs W w0 g eb p s t top sb vs L w) (hW : W.heap.size < g) {i : Nat} (hi : i < 4) (x : Int) {ys : List Int} {v' : Value}
    (hown : Own w' (g + 1) 3 .i64 v' ys) (hgr : (w.alloc (.cells #[.int .i64 x] 3)).grownBy w' (vs i).ownBlock) (hat : v'.ownBlock = (vs i).ownBlock ∨ v'.ownBlock = some (w.alloc (.cells #[.int .i64 x] 3)).heap.size) :
    RLs W w0 g eb p s t top sb (fun j => if j = i then v' else vs j) (L.set i ys) (w'.setCell ⟨g, i, none⟩ v') := by
  have ha : Below w.heap.size w (w.alloc (.cells #[.int .i64 x] 3)) := (Below.refl _ _).alloc (Nat.le_refl _) _
  have hR := h.rows.below ha
  have hP := hR.push hi hown hgr hat
  have hg : g < w.heap.size := h.rows.lt
  have hs : w.heap.size + 1 ≤ w'.heap.size := by have := hgr.size; simpa using this
  have keep : ∀ b o v, b < w.heap.size → b ≠ g → (vs i).ownBlock ≠ some b → w.cell? ⟨b, o, none⟩ = some v → (w'.setCell ⟨g, i, none⟩ v').cell? ⟨b, o, none⟩ = some v := fun b o v h1 h2 h3 h4 => by
    rw [World.cell?_setCell_other _ _ _ _ (fun e => by injection e with e1 _ _; exact h2 e1.symm)]
    exact hgr.cell (by rw [ha.cell (p := ⟨b, o, none⟩) h1]; exact h4) (fun e => h3 e.symm)
  have hWo : ∀ b, b ≤ g → (vs i).ownBlock ≠ some b := fun b hb e => by
    have := (World.ownsRow.lt (h.rows.own i hi) b e).1
    omega
  have hb : Below g w0 (w'.setCell ⟨g, i, none⟩ v') := by
    have h1 := (h.b0.alloc (Nat.le_of_lt hg) (.cells #[.int .i64 x] 3)).grown hgr (by simp; omega) (fun b hb => by have := (World.ownsRow.lt (h.rows.own i hi) b hb).1; omega)
    exact h1.setCell (p := ⟨g, i, none⟩) (Nat.le_refl _) _
  refine ⟨hb, hP, keep _ _ _ h.lt h.ne (h.far i hi) h.e0, keep _ _ _ h.lt h.ne (h.far i hi) h.e1, keep _ _ _ h.lt h.ne (h.far i hi) h.e2, by simp; have := h.lt; omega, h.ne, fun j hj => ?_, keep _ _ _ (by omega) (by omega) (hWo _ (by omega)) h.c2, keep _ _ _ (by omega) (by omega) (hWo _ (by omega)) h.c3⟩
  by_cases e : j = i
  · simp only [e, if_true]
    rcases hat with hat | hat
    · rw [hat]; exact h.far i hi
    · rw [hat]; intro hc; injection hc with hc; have := h.lt; simp at hc; omega
  · simp only [e, if_false]; exact h.far j hj

set_option maxHeartbeats 16000000 in
set_option maxRecDepth 100000 in
theorem refLevels_any (T : TB) (es : List EL) (q : Option Addr) (c : Nat) (W : World) (hE : Els W q es) (hz : es.length ≤ 9000) (htop : 0 ≤ T.top) (hpos : ∀ x ∈ es, 0 ≤ x.p) :
    Calls Tryz.prog 22 #[.agg #[.slice T.lp T.ls.length T.lc, .slice T.rp T.rs.length T.rc, .int .i64 T.top, .bool T.sh], .slice q es.length c] W (RetLv W (levL T.sh T.top es)) := by
  have HE := Lib.hid hE; clear hE
  have HPS := Lib.hid hpos; clear hpos
  go_enter Tryz.func22, Tryz.ntmps22
  go_upto_region 3 with fail
  obtain ⟨w0, hw0⟩ : ∃ w0, ((W.alloc (.cells #[.slice T.lp T.ls.length T.lc, .slice T.rp T.rs.length T.rc, .int .i64 T.top, .bool T.sh] 25)).alloc (.cells #[.slice none 0 0, .slice none 0 0, .slice none 0 0, .slice none 0 0] 56)).alloc (.cells #[.slice none 0 0, .slice none 0 0, .slice none 0 0, .slice none 0 0] 56) = w0 := ⟨_, rfl⟩
  rw [hw0]
  have hw0s : w0.heap.size = W.heap.size + 1 + 1 + 1 := by rw [← hw0]; simp
  have HB0 := Lib.hid (show Below W.heap.size W w0 from hw0 ▸ ((((Below.refl W.heap.size W).alloc (Nat.le_refl _) _).alloc (by simp) _).alloc (by simp; omega) _))
  have HR0 := Lib.hid (show Rows4 w0 (W.heap.size + 1 + 1) (fun _ => .slice none 0 0) [[], [], [], []] from by
    refine Rows4.start w0 _ 56 ?_
    have := heap_alloc_new ((W.alloc (.cells #[.slice T.lp T.ls.length T.lc, .slice T.rp T.rs.length T.rc, .int .i64 T.top, .bool T.sh] 25)).alloc (.cells #[.slice none 0 0, .slice none 0 0, .slice none 0 0, .slice none 0 0] 56)) (.cells #[.slice none 0 0, .slice none 0 0, .slice none 0 0, .slice none 0 0] 56)
    rw [← hw0]
    simpa using this)
  have c2 : w0.cell? ⟨W.heap.size, 2, none⟩ = some (.int .i64 T.top) := by rw [← hw0]; simp [go_sem]
  have c3 : w0.cell? ⟨W.heap.size, 3, none⟩ = some (.bool T.sh) := by rw [← hw0]; simp [go_sem]
  have hr : ∀ j, j < 4 → w0.cell? ⟨W.heap.size + 1, j, none⟩ = some (.slice none 0 0) ∧ w0.frozen? ⟨W.heap.size + 1, j, none⟩ = false := by
    intro j hj
    rw [← hw0]
    rcases (show j = 0 ∨ j = 1 ∨ j = 2 ∨ j = 3 by omega) with rfl | rfl | rfl | rfl <;> exact ⟨by simp [go_sem], by simp [go_sem]⟩
  have HC2 := Lib.hid c2
  have HC3 := Lib.hid c3
  have HRS := Lib.hid hr
  clear hw0 c2 c3 hr
  obtain ⟨g, hg⟩ : ∃ g, W.heap.size + 1 + 1 = g := ⟨_, rfl⟩
  rw [hg] at HR0 hw0s ⊢
  have hg1 : W.heap.size + 1 < g := by omega
  have HGE := Lib.hid hg
  clear hg
  go_wp2_with fail
  go_loopg [6, 7] es.length (fun gk vb vi wr => Hid (LvOut w0 g T.sh T.top es vb vi wr gk))
  case atStart =>
    refine Lib.hid ⟨0, fun _ => .slice none 0 0, rfl, Nat.zero_le _, by omega, rfl, Below.refl _ _, ?_⟩
    rw [List.take_zero]
    exact HR0.out
  case round =>
    have hrel' := hrel.out
    clear hrel
    obtain ⟨k, vs, rfl, hk, hgk, rfl, hb, hrow⟩ := hrel'
    have HB := Lib.hid hb
    have HR := Lib.hid hrow
    have hszr := hb.size
    clear hb hrow
    by_cases hlt : k < es.length
    · have hltz : (k : Int) < (es.length : Int) := by omega
      obtain ⟨b, o, rfl, hbW, e0, e1, e2⟩ := HE.out.at_ (HB0.out.trans (HB.out.mono (by omega))) hlt
      have HTS := Lib.hid (show levSt T.sh T.top (es.take (k + 1)) = levStep T.sh T.top (levSt T.sh T.top (es.take k)) es[k]! by
        rw [List.take_succ_eq_append_getElem hlt, levSt_snoc, getElem!_pos es k hlt])
      have hpx := HPS.out es[k]! (getE_mem hlt)
      obtain ⟨⟨p, s, t⟩, hx⟩ : ∃ x, es[k]! = x := ⟨_, rfl⟩
      rw [hx] at e0 e1 e2 HTS hpx
      clear hx
      dsimp only at e0 e1 e2
      have hp0 : 0 ≤ p := hpx
      obtain ⟨L, bh, hst⟩ : ∃ L bh, levSt T.sh T.top (es.take k) = (L, bh) := ⟨_, _, rfl⟩
      rw [hst] at HR HTS ⊢
      dsimp only at HR HTS ⊢
      have HST := Lib.hid hst
      clear hst
      have hL4 : L.length = 4 := HR.out.len
      have hLn : ∀ z ∈ L, z.length ≤ 9000 := by
        have h1 := levL_few T.sh T.top (es.take k)
        unfold levL at h1
        rw [HST.out] at h1
        intro z hz'
        have := h1 z hz'
        rw [List.length_take] at this
        omega
      have HLN := Lib.hid hLn
      clear hLn
      have c2 : wr.cell? ⟨W.heap.size, 2, none⟩ = some (.int .i64 T.top) := by rw [HB.out.cell (p := ⟨W.heap.size, 2, none⟩) (by show W.heap.size < g; omega)]; exact HC2.out
      obtain ⟨sb, hsb⟩ : ∃ sb, T.sh = sb := ⟨_, rfl⟩
      have HSB := Lib.hid hsb
      have c3 : wr.cell? ⟨W.heap.size, 3, none⟩ = some (.bool sb) := by rw [← hsb, HB.out.cell (p := ⟨W.heap.size, 3, none⟩) (by show W.heap.size < g; omega)]; exact HC3.out
      clear hsb
      have hWr : W.heap.size < wr.heap.size := by omega
      have hbr : b < wr.heap.size := by omega
      have hfl : sb = false → bh = false := fun h => by
        have h1 := levSt_false (top := T.top) (es.take k)
        have h2 := HST.out
        rw [HSB.out.trans h] at h2
        rw [h2] at h1
        exact h1
      have HRS2 := Lib.hid (show refStep T.sh T.top (L, bh) ⟨p, s, t⟩ = levStep T.sh T.top (L, bh) ⟨p, s, t⟩ from refStep_is hL4 htop hp0 (fun h => hfl (HSB.out.symm.trans h)))
      obtain ⟨vr, hvr⟩ : ∃ vr, (sb && (decide (1 ≤ p) && decide (p ≤ T.top))) = vr := ⟨_, rfl⟩
      obtain ⟨lf, hlf⟩ : ∃ lf, (sb && (decide (p = 0) && bh)) = lf := ⟨_, rfl⟩
      have HVR := Lib.hid hvr
      have HLF := Lib.hid hlf
      clear hvr hlf
      go_upto_region 7 with fail
      have HFL := Lib.hid hfl
      clear hfl
      have hWg : W.heap.size < g := by omega
      have hgw : g < wr.heap.size := by omega
      have HS := Lib.hid (show ∃ vs', RLs W w0 g wr.heap.size p s t T.top sb vs' L (wr.alloc (.cells #[.int .i64 p, .int .i64 s, .int .i64 t] 44)) from ⟨vs, by
        have hb := (Below.refl wr.heap.size wr).alloc (Nat.le_refl _) (.cells #[.int .i64 p, .int .i64 s, .int .i64 t] 44)
        exact ⟨HB.out.alloc (by omega) _, HR.out.below hb, by rw [World.cell?_alloc_new]; rfl, by rw [World.cell?_alloc_new]; rfl, by rw [World.cell?_alloc_new]; rfl, by simp, by omega, fun i hi e => by
          have := (World.ownsRow.lt (HR.out.own i hi) _ e).2
          omega, by rw [hb.cell (p := ⟨W.heap.size, 2, none⟩) hWr]; exact c2, by rw [hb.cell (p := ⟨W.heap.size, 3, none⟩) hWr]; exact c3⟩⟩)
      generalize hwv : wr.alloc (.cells #[.int .i64 p, .int .i64 s, .int .i64 t] 44) = wv at HS ⊢
      generalize heb : wr.heap.size = eb at HS ⊢
      clear hwv heb c2 c3 e0 e1 e2 HR HB
      obtain ⟨vs0, HS0⟩ := HS.out
      have HS := Lib.hid HS0
      clear HS0
      have k0 := HS.out.e0
      have k1 := HS.out.e1
      have k2 := HS.out.e2
      have k3 := HS.out.c2
      have k4 := HS.out.c3
      have kl := HS.out.lt
      go_cut [9] from 11 to 104 (fun v wx => v = .bool vr ∧ wv = wx)
      case first =>
        cases sb with
        | false =>
          go_wp2_with fail
          go_meet
          exact ⟨by rw [← HVR.out]; rfl, rfl⟩
        | true =>
          by_cases h1 : 1 ≤ p
          · by_cases h2 : p ≤ T.top
            · go_wp2_with fail
              go_meet
              exact ⟨by rw [← HVR.out, decide_eq_true h1, decide_eq_true h2]; rfl, rfl⟩
            · have h2d : decide (p ≤ T.top) = false := decide_eq_false h2
              go_wp2_with fail
              go_meet
              exact ⟨by rw [← HVR.out, h2d, Bool.and_false]; rfl, rfl⟩
          · have h1d : decide (1 ≤ p) = false := decide_eq_false h1
            go_wp2_with fail
            go_meet
            exact ⟨by rw [← HVR.out, h1d]; rfl, rfl⟩
      case rest =>
        obtain ⟨rfl, rfl⟩ := hcut
        go_upto_region 8 with fail
        go_cut [10] from 11 to 104 (fun v wx => v = .bool lf ∧ wv = wx)
        case first =>
          cases sb with
          | false =>
            go_wp2_with fail
            go_meet
            exact ⟨by rw [← HLF.out]; rfl, rfl⟩
          | true =>
            by_cases h1 : p = 0
            · subst h1
              go_wp2_with fail
              go_meet
              exact ⟨by rw [← HLF.out]; simp, rfl⟩
            · have h1b : ((p : Int) == 0) = false := by simp [h1]
              have H1 := Lib.hid h1
              clear h1
              go_wp2_with fail
              go_meet
              exact ⟨by rw [← HLF.out]; simp [H1.out], rfl⟩
        case rest =>
          obtain ⟨rfl, rfl⟩ := hcut
          go_upto_if 47 with fail
          obtain ⟨bn, hbn⟩ : ∃ bn, (if 0 < p then vr else bh) = bn := ⟨_, rfl⟩
          have HBN := Lib.hid hbn
          clear hbn
          go_cut [6] from 11 to 104 (fun v wx => v = .bool bn ∧ wv = wx)
          case first =>
            by_cases h1 : 0 < p
            · have hx := HBN.out
              rw [if_pos h1] at hx
              have HX := Lib.hid hx
              clear hx
              go_wp2_with fail
              go_meet
              exact ⟨by rw [HX.out], rfl⟩
            · have h1d : decide (0 < p) = false := decide_eq_false h1
              have hx := HBN.out
              rw [if_neg h1] at hx
              have HX := Lib.hid hx
              clear hx
              go_wp2_with fail
              go_meet
              exact ⟨by rw [HX.out], rfl⟩
          case rest =>
            obtain ⟨rfl, rfl⟩ := hcut
            cases lf with
            | true =>
              go_wp2_with fail
              go_roundg (es.length - (k + 1))
              case measure => omega
              case rel =>
                have hts : levSt T.sh T.top (es.take (k + 1)) = (L, bn) := by
                  rw [HTS.out, ← HRS2.out]
                  unfold refStep
                  dsimp only
                  rw [HSB.out, HLF.out, HVR.out, HBN.out]
                  rfl
                exact Lib.hid ⟨k + 1, _, by go_num, by omega, by omega, by rw [hts], HS.out.b0, by rw [hts]; exact HS.out.rows⟩
            | false =>
              cases vr with
              | true =>
                have hp1 : 0 < p := by
                  have h1 := HVR.out
                  simp only [Bool.and_eq_true, decide_eq_true_eq] at h1
                  omega
                have hts := Lib.hid (show levSt T.sh T.top (es.take (k + 1)) = (addW L [0, 0, 0, p], bn) by
                  rw [HTS.out, ← HRS2.out]
                  unfold refStep
                  dsimp only
                  rw [HSB.out, HLF.out, HVR.out, HBN.out]
                  rfl)
                have HK := Lib.hid (show addW L [0, 0, 0, p] = L.set 3 (L.getD 3 [] ++ [p]) from addW_last hL4 hp1)
                clear hp1
                have hlen : (L.getD 3 []).length ≤ 100000 := by
                  have h9 := HLN.out (L.getD 3 []) (by simp [List.getD, show 3 < L.length by omega])
                  omega
                have zc := HS.out.rows.cell 3 (by omega)
                have zf := HS.out.rows.froz 3 (by omega)
                have zg := HS.out.rows.lt
                have ho := HS.out.rows.own 3 (by omega)
                obtain ⟨sv, dv, hv, _, _⟩ := Own.row ho
                rw [hv] at zc ho
                have HV := Lib.hid hv
                have HO := Lib.hid ho
                have HLE := Lib.hid (show ((L).getD 3 []).length ≤ 100000 from hlen)
                clear hv ho hlen
                obtain ⟨cur, hcur⟩ : ∃ cur, (L).getD 3 [] = cur := ⟨_, rfl⟩
                rw [hcur] at zc HO HLE HV HK
                clear hcur
                go_wp2_with (at_builtin; refine wpList_push_at rfl _ _ 55 rfl 3 .i64 8 Tryz.underlying55 info_int4 (by decide) (g + 1) _ cur rfl (Own.alloc HO.out _) wv.heap.size 1 p rfl (by rw [World.cell?_alloc_new]; rfl) (by have := HLE.out; omega) (by simp only [World.size_alloc]; omega) ?_)
                intro v6 w6 hown6 hgr6 hat6
                have HN := Lib.hid (HS.out.push hWg (i := 3) (by omega) p hown6 (by rw [HV.out]; exact hgr6) (by rw [HV.out, World.size_alloc]; exact hat6))
                have hba := (Below.refl wv.heap.size wv).alloc (Nat.le_refl _) (.cells #[.int .i64 p] 3)
                have hne : some g ≠ (Value.slice sv cur.length dv).ownBlock := fun e => by
                  have := (World.ownsRow.lt HO.out g e.symm).1
                  omega
                have hc6 : w6.cell? ⟨g, 3, none⟩ = some (.slice sv cur.length dv) := by
                  rw [hgr6.cell_far _ (Nat.lt_of_lt_of_le zg hba.size) hne, hba.cell (p := ⟨g, 3, none⟩) zg]
                  exact zc
                have hf6 : w6.frozen? ⟨g, 3, none⟩ = false := by
                  rw [hgr6.frozen_far _ (Nat.lt_of_lt_of_le zg hba.size) hne, hba.frozen (p := ⟨g, 3, none⟩) zg]
                  exact zf
                obtain ⟨s6, d6, rfl, _, _⟩ := Own.row hown6
                obtain ⟨n6, hn6⟩ : ∃ n, (cur ++ [p]).length = n := ⟨_, rfl⟩
                rw [hn6] at HN ⊢
                clear hown6 hgr6 hat6 hn6 zc hba hne
                go_wp2_with fail
                go_roundg (es.length - (k + 1))
                case measure => omega
                case rel =>
                  exact Lib.hid ⟨k + 1, _, by go_num, by omega, by omega, by rw [hts.out], HN.out.b0, by rw [hts.out, HK.out]; exact HN.out.rows⟩
              | false =>
                obtain ⟨q, hq⟩ : ∃ q, (sb && (decide (0 < p) || decide (0 < t))) = q := ⟨_, rfl⟩
                obtain ⟨f, hf⟩ : ∃ f : Int, (if q = true then (65535 : Int) else 0) = f := ⟨_, rfl⟩
                have HQ := Lib.hid hq
                have HF := Lib.hid hf
                clear hq hf
                have hts := Lib.hid (show levSt T.sh T.top (es.take (k + 1)) = (addW L [p, s, t, f], bn) by
                  rw [HTS.out, ← HRS2.out]
                  unfold refStep
                  dsimp only
                  rw [HSB.out, HLF.out, HVR.out, HBN.out, HQ.out, HF.out]
                  rfl)
                have HS1 := Lib.hid (show ∃ vs', RLs W w0 g eb p s t T.top sb vs' (addK L [p, s, t, f] 0) wv from ⟨_, by rw [addK_zero]; exact HS.out⟩)
                clear HS
                obtain ⟨vsz, HS0⟩ := HS1.out
                have HS := Lib.hid HS0
                clear HS0 HS1
                go_upto_if 60 with fail
                go_cut [] from 11 to 104 (fun wx => Hid (∃ vs', RLs W w0 g eb p s t T.top sb vs' (addK L [p, s, t, f] 1) wx))
                case first =>
                  have hst := addK_step (L := L) (ws := [p, s, t, f]) hL4 rfl (show 0 < 4 by omega)
                  by_cases hx : 0 < p
                  · have HK := Lib.hid (show addK L [p, s, t, f] 1 = (addK L [p, s, t, f] 0).set 0 ((addK L [p, s, t, f] 0).getD 0 [] ++ [p]) from hst.trans (if_pos hx))
                    clear hst
                    have hlen : ((addK L [p, s, t, f] 0).getD 0 []).length ≤ 100000 := by
                      rw [addK_get (L := L) (ws := [p, s, t, f]) hL4 rfl (by omega)]
                      have h9 := HLN.out (L.getD 0 []) (by simp [List.getD, show 0 < L.length by omega])
                      omega
                    have zc := HS.out.rows.cell 0 (by omega)
                    have zf := HS.out.rows.froz 0 (by omega)
                    have zg := HS.out.rows.lt
                    have ho := HS.out.rows.own 0 (by omega)
                    obtain ⟨sv, dv, hv, _, _⟩ := Own.row ho
                    rw [hv] at zc ho
                    have HV := Lib.hid hv
                    have HO := Lib.hid ho
                    have HLE := Lib.hid (show ((addK L [p, s, t, f] 0).getD 0 []).length ≤ 100000 from hlen)
                    clear hv ho hlen
                    obtain ⟨cur, hcur⟩ : ∃ cur, (addK L [p, s, t, f] 0).getD 0 [] = cur := ⟨_, rfl⟩
                    rw [hcur] at zc HO HLE HV HK
                    clear hcur
                    go_wp2_with (at_builtin; refine wpList_push_at rfl _ _ 55 rfl 3 .i64 8 Tryz.underlying55 info_int4 (by decide) (g + 1) _ cur rfl (Own.alloc HO.out _) wv.heap.size 1 p rfl (by rw [World.cell?_alloc_new]; rfl) (by have := HLE.out; omega) (by simp only [World.size_alloc]; omega) ?_)
                    intro v6 w6 hown6 hgr6 hat6
                    have HN := Lib.hid (HS.out.push hWg (i := 0) (by omega) p hown6 (by rw [HV.out]; exact hgr6) (by rw [HV.out, World.size_alloc]; exact hat6))
                    have hba := (Below.refl wv.heap.size wv).alloc (Nat.le_refl _) (.cells #[.int .i64 p] 3)
                    have hne : some g ≠ (Value.slice sv cur.length dv).ownBlock := fun e => by
                      have := (World.ownsRow.lt HO.out g e.symm).1
                      omega
                    have hc6 : w6.cell? ⟨g, 0, none⟩ = some (.slice sv cur.length dv) := by
                      rw [hgr6.cell_far _ (Nat.lt_of_lt_of_le zg hba.size) hne, hba.cell (p := ⟨g, 0, none⟩) zg]
                      exact zc
                    have hf6 : w6.frozen? ⟨g, 0, none⟩ = false := by
                      rw [hgr6.frozen_far _ (Nat.lt_of_lt_of_le zg hba.size) hne, hba.frozen (p := ⟨g, 0, none⟩) zg]
                      exact zf
                    obtain ⟨s6, d6, rfl, _, _⟩ := Own.row hown6
                    obtain ⟨n6, hn6⟩ : ∃ n, (cur ++ [p]).length = n := ⟨_, rfl⟩
                    rw [hn6] at HN ⊢
                    clear hown6 hgr6 hat6 hn6 zc hba hne
                    go_wp2_with fail
                    go_meet
                    exact Lib.hid ⟨_, by rw [HK.out]; exact HN.out⟩
                  · have HK := Lib.hid (show addK L [p, s, t, f] 1 = addK L [p, s, t, f] 0 from hst.trans (if_neg hx))
                    have hxd : decide (0 < p) = false := decide_eq_false hx
                    clear hst
                    go_wp2_with fail
                    go_meet
                    exact Lib.hid ⟨_, by rw [HK.out]; exact HS.out⟩
                case rest =>
                  clear k0 k1 k2 k3 k4 kl
                  clear HS
                  obtain ⟨vs0, HS0⟩ := hcut.out
                  have HS := Lib.hid HS0
                  clear HS0 hcut
                  obtain ⟨wv, hwvl⟩ : ∃ x, x = wc := ⟨_, rfl⟩
                  subst hwvl
                  have k0 := HS.out.e0
                  have k1 := HS.out.e1
                  have k2 := HS.out.e2
                  have k3 := HS.out.c2
                  have k4 := HS.out.c3
                  have kl := HS.out.lt
                  go_upto_if 70 with fail
                  go_cut [] from 11 to 104 (fun wx => Hid (∃ vs', RLs W w0 g eb p s t T.top sb vs' (addK L [p, s, t, f] 2) wx))
                  case first =>
                    have hst := addK_step (L := L) (ws := [p, s, t, f]) hL4 rfl (show 1 < 4 by omega)
                    by_cases hx : 0 < s
                    · have HK := Lib.hid (show addK L [p, s, t, f] 2 = (addK L [p, s, t, f] 1).set 1 ((addK L [p, s, t, f] 1).getD 1 [] ++ [s]) from hst.trans (if_pos hx))
                      clear hst
                      have hlen : ((addK L [p, s, t, f] 1).getD 1 []).length ≤ 100000 := by
                        rw [addK_get (L := L) (ws := [p, s, t, f]) hL4 rfl (by omega)]
                        have h9 := HLN.out (L.getD 1 []) (by simp [List.getD, show 1 < L.length by omega])
                        omega
                      have zc := HS.out.rows.cell 1 (by omega)
                      have zf := HS.out.rows.froz 1 (by omega)
                      have zg := HS.out.rows.lt
                      have ho := HS.out.rows.own 1 (by omega)
                      obtain ⟨sv, dv, hv, _, _⟩ := Own.row ho
                      rw [hv] at zc ho
                      have HV := Lib.hid hv
                      have HO := Lib.hid ho
                      have HLE := Lib.hid (show ((addK L [p, s, t, f] 1).getD 1 []).length ≤ 100000 from hlen)
                      clear hv ho hlen
                      obtain ⟨cur, hcur⟩ : ∃ cur, (addK L [p, s, t, f] 1).getD 1 [] = cur := ⟨_, rfl⟩
                      rw [hcur] at zc HO HLE HV HK
                      clear hcur
                      go_wp2_with (at_builtin; refine wpList_push_at rfl _ _ 55 rfl 3 .i64 8 Tryz.underlying55 info_int4 (by decide) (g + 1) _ cur rfl (Own.alloc HO.out _) wv.heap.size 1 s rfl (by rw [World.cell?_alloc_new]; rfl) (by have := HLE.out; omega) (by simp only [World.size_alloc]; omega) ?_)
                      intro v6 w6 hown6 hgr6 hat6
                      have HN := Lib.hid (HS.out.push hWg (i := 1) (by omega) s hown6 (by rw [HV.out]; exact hgr6) (by rw [HV.out, World.size_alloc]; exact hat6))
                      have hba := (Below.refl wv.heap.size wv).alloc (Nat.le_refl _) (.cells #[.int .i64 s] 3)
                      have hne : some g ≠ (Value.slice sv cur.length dv).ownBlock := fun e => by
                        have := (World.ownsRow.lt HO.out g e.symm).1
                        omega
                      have hc6 : w6.cell? ⟨g, 1, none⟩ = some (.slice sv cur.length dv) := by
                        rw [hgr6.cell_far _ (Nat.lt_of_lt_of_le zg hba.size) hne, hba.cell (p := ⟨g, 1, none⟩) zg]
                        exact zc
                      have hf6 : w6.frozen? ⟨g, 1, none⟩ = false := by
                        rw [hgr6.frozen_far _ (Nat.lt_of_lt_of_le zg hba.size) hne, hba.frozen (p := ⟨g, 1, none⟩) zg]
                        exact zf
                      obtain ⟨s6, d6, rfl, _, _⟩ := Own.row hown6
                      obtain ⟨n6, hn6⟩ : ∃ n, (cur ++ [s]).length = n := ⟨_, rfl⟩
                      rw [hn6] at HN ⊢
                      clear hown6 hgr6 hat6 hn6 zc hba hne
                      go_wp2_with fail
                      go_meet
                      exact Lib.hid ⟨_, by rw [HK.out]; exact HN.out⟩
                    · have HK := Lib.hid (show addK L [p, s, t, f] 2 = addK L [p, s, t, f] 1 from hst.trans (if_neg hx))
                      have hxd : decide (0 < s) = false := decide_eq_false hx
                      clear hst
                      go_wp2_with fail
                      go_meet
                      exact Lib.hid ⟨_, by rw [HK.out]; exact HS.out⟩
                  case rest =>
                    clear k0 k1 k2 k3 k4 kl
                    clear HS
                    obtain ⟨vs1, HS0⟩ := hcut.out
                    have HS := Lib.hid HS0
                    clear HS0 hcut
                    obtain ⟨wv, hwvl⟩ : ∃ x, x = wc := ⟨_, rfl⟩
                    subst hwvl
                    have k0 := HS.out.e0
                    have k1 := HS.out.e1
                    have k2 := HS.out.e2
                    have k3 := HS.out.c2
                    have k4 := HS.out.c3
                    have kl := HS.out.lt
                    go_upto_if 80 with fail
                    go_cut [] from 11 to 104 (fun wx => Hid (∃ vs', RLs W w0 g eb p s t T.top sb vs' (addK L [p, s, t, f] 3) wx))
                    case first =>
                      have hst := addK_step (L := L) (ws := [p, s, t, f]) hL4 rfl (show 2 < 4 by omega)
                      by_cases hx : 0 < t
                      · have HK := Lib.hid (show addK L [p, s, t, f] 3 = (addK L [p, s, t, f] 2).set 2 ((addK L [p, s, t, f] 2).getD 2 [] ++ [t]) from hst.trans (if_pos hx))
                        clear hst
                        have hlen : ((addK L [p, s, t, f] 2).getD 2 []).length ≤ 100000 := by
                          rw [addK_get (L := L) (ws := [p, s, t, f]) hL4 rfl (by omega)]
                          have h9 := HLN.out (L.getD 2 []) (by simp [List.getD, show 2 < L.length by omega])
                          omega
                        have zc := HS.out.rows.cell 2 (by omega)
                        have zf := HS.out.rows.froz 2 (by omega)
                        have zg := HS.out.rows.lt
                        have ho := HS.out.rows.own 2 (by omega)
                        obtain ⟨sv, dv, hv, _, _⟩ := Own.row ho
                        rw [hv] at zc ho
                        have HV := Lib.hid hv
                        have HO := Lib.hid ho
                        have HLE := Lib.hid (show ((addK L [p, s, t, f] 2).getD 2 []).length ≤ 100000 from hlen)
                        clear hv ho hlen
                        obtain ⟨cur, hcur⟩ : ∃ cur, (addK L [p, s, t, f] 2).getD 2 [] = cur := ⟨_, rfl⟩
                        rw [hcur] at zc HO HLE HV HK
                        clear hcur
                        go_wp2_with (at_builtin; refine wpList_push_at rfl _ _ 55 rfl 3 .i64 8 Tryz.underlying55 info_int4 (by decide) (g + 1) _ cur rfl (Own.alloc HO.out _) wv.heap.size 1 t rfl (by rw [World.cell?_alloc_new]; rfl) (by have := HLE.out; omega) (by simp only [World.size_alloc]; omega) ?_)
                        intro v6 w6 hown6 hgr6 hat6
                        have HN := Lib.hid (HS.out.push hWg (i := 2) (by omega) t hown6 (by rw [HV.out]; exact hgr6) (by rw [HV.out, World.size_alloc]; exact hat6))
                        have hba := (Below.refl wv.heap.size wv).alloc (Nat.le_refl _) (.cells #[.int .i64 t] 3)
                        have hne : some g ≠ (Value.slice sv cur.length dv).ownBlock := fun e => by
                          have := (World.ownsRow.lt HO.out g e.symm).1
                          omega
                        have hc6 : w6.cell? ⟨g, 2, none⟩ = some (.slice sv cur.length dv) := by
                          rw [hgr6.cell_far _ (Nat.lt_of_lt_of_le zg hba.size) hne, hba.cell (p := ⟨g, 2, none⟩) zg]
                          exact zc
                        have hf6 : w6.frozen? ⟨g, 2, none⟩ = false := by
                          rw [hgr6.frozen_far _ (Nat.lt_of_lt_of_le zg hba.size) hne, hba.frozen (p := ⟨g, 2, none⟩) zg]
                          exact zf
                        obtain ⟨s6, d6, rfl, _, _⟩ := Own.row hown6
                        obtain ⟨n6, hn6⟩ : ∃ n, (cur ++ [t]).length = n := ⟨_, rfl⟩
                        rw [hn6] at HN ⊢
                        clear hown6 hgr6 hat6 hn6 zc hba hne
                        go_wp2_with fail
                        go_meet
                        exact Lib.hid ⟨_, by rw [HK.out]; exact HN.out⟩
                      · have HK := Lib.hid (show addK L [p, s, t, f] 3 = addK L [p, s, t, f] 2 from hst.trans (if_neg hx))
                        have hxd : decide (0 < t) = false := decide_eq_false hx
                        clear hst
                        go_wp2_with fail
                        go_meet
                        exact Lib.hid ⟨_, by rw [HK.out]; exact HS.out⟩
                    case rest =>
                      clear k0 k1 k2 k3 k4 kl
                      clear HS
                      obtain ⟨vs2, HS0⟩ := hcut.out
                      have HS := Lib.hid HS0
                      clear HS0 hcut
                      obtain ⟨wv, hwvl⟩ : ∃ x, x = wc := ⟨_, rfl⟩
                      subst hwvl
                      have k0 := HS.out.e0
                      have k1 := HS.out.e1
                      have k2 := HS.out.e2
                      have k3 := HS.out.c2
                      have k4 := HS.out.c3
                      have kl := HS.out.lt
                      go_upto_region 20 with fail
                      go_cut [99] from 11 to 104 (fun v wx => v = .bool q ∧ wv = wx)
                      case first =>
                        cases sb with
                        | false =>
                          go_wp2_with fail
                          go_meet
                          exact ⟨by rw [← HQ.out]; rfl, rfl⟩
                        | true =>
                          by_cases h1 : 0 < p
                          · go_wp2_with fail
                            go_meet
                            exact ⟨by rw [← HQ.out, decide_eq_true h1]; rfl, rfl⟩
                          · have h1d : decide (0 < p) = false := decide_eq_false h1
                            have H1D := Lib.hid h1d
                            clear h1
                            go_wp2_with fail
                            go_meet
                            exact ⟨by rw [← HQ.out, H1D.out]; rfl, rfl⟩
                      case rest =>
                        obtain ⟨rfl, rfl⟩ := hcut
                        cases q with
                        | true =>
                          have hf := HF.out
                          rw [if_pos rfl] at hf
                          have HF5 := Lib.hid hf
                          clear hf
                          have hst := addK_step (L := L) (ws := [p, s, t, f]) hL4 rfl (show 3 < 4 by omega)
                          have HK := Lib.hid (show addK L [p, s, t, f] 4 = (addK L [p, s, t, f] 3).set 3 ((addK L [p, s, t, f] 3).getD 3 [] ++ [65535]) from hst.trans ((if_pos (show 0 < f by rw [← HF5.out]; decide)).trans (by rw [← HF5.out]; rfl)))
                          clear hst
                          have hlen : ((addK L [p, s, t, f] 3).getD 3 []).length ≤ 100000 := by
                            rw [addK_get (L := L) (ws := [p, s, t, f]) hL4 rfl (by omega)]
                            have h9 := HLN.out (L.getD 3 []) (by simp [List.getD, show 3 < L.length by omega])
                            omega
                          have zc := HS.out.rows.cell 3 (by omega)
                          have zf := HS.out.rows.froz 3 (by omega)
                          have zg := HS.out.rows.lt
                          have ho := HS.out.rows.own 3 (by omega)
                          obtain ⟨sv, dv, hv, _, _⟩ := Own.row ho
                          rw [hv] at zc ho
                          have HV := Lib.hid hv
                          have HO := Lib.hid ho
                          have HLE := Lib.hid (show ((addK L [p, s, t, f] 3).getD 3 []).length ≤ 100000 from hlen)
                          clear hv ho hlen
                          obtain ⟨cur, hcur⟩ : ∃ cur, (addK L [p, s, t, f] 3).getD 3 [] = cur := ⟨_, rfl⟩
                          rw [hcur] at zc HO HLE HV HK
                          clear hcur
                          go_wp2_with (at_builtin; refine wpList_push_at rfl _ _ 55 rfl 3 .i64 8 Tryz.underlying55 info_int4 (by decide) (g + 1) _ cur rfl (Own.alloc HO.out _) wv.heap.size 1 65535 rfl (by rw [World.cell?_alloc_new]; rfl) (by have := HLE.out; omega) (by simp only [World.size_alloc]; omega) ?_)
                          intro v6 w6 hown6 hgr6 hat6
                          have HN := Lib.hid (HS.out.push hWg (i := 3) (by omega) 65535 hown6 (by rw [HV.out]; exact hgr6) (by rw [HV.out, World.size_alloc]; exact hat6))
                          have hba := (Below.refl wv.heap.size wv).alloc (Nat.le_refl _) (.cells #[.int .i64 65535] 3)
                          have hne : some g ≠ (Value.slice sv cur.length dv).ownBlock := fun e => by
                            have := (World.ownsRow.lt HO.out g e.symm).1
                            omega
                          have hc6 : w6.cell? ⟨g, 3, none⟩ = some (.slice sv cur.length dv) := by
                            rw [hgr6.cell_far _ (Nat.lt_of_lt_of_le zg hba.size) hne, hba.cell (p := ⟨g, 3, none⟩) zg]
                            exact zc
                          have hf6 : w6.frozen? ⟨g, 3, none⟩ = false := by
                            rw [hgr6.frozen_far _ (Nat.lt_of_lt_of_le zg hba.size) hne, hba.frozen (p := ⟨g, 3, none⟩) zg]
                            exact zf
                          obtain ⟨s6, d6, rfl, _, _⟩ := Own.row hown6
                          obtain ⟨n6, hn6⟩ : ∃ n, (cur ++ [65535]).length = n := ⟨_, rfl⟩
                          rw [hn6] at HN ⊢
                          clear hown6 hgr6 hat6 hn6 zc hba hne
                          go_wp2_with fail
                          go_roundg (es.length - (k + 1))
                          case measure => omega
                          case rel =>
                            exact Lib.hid ⟨k + 1, _, by go_num, by omega, by omega, by rw [hts.out], HN.out.b0, by rw [hts.out, ← addK_four hL4 rfl, HK.out]; exact HN.out.rows⟩
                        | false =>
                          have hf := HF.out
                          rw [if_neg (by decide)] at hf
                          have HF5 := Lib.hid hf
                          clear hf
                          have hst := addK_step (L := L) (ws := [p, s, t, f]) hL4 rfl (show 3 < 4 by omega)
                          have HK := Lib.hid (show addK L [p, s, t, f] 4 = addK L [p, s, t, f] 3 from hst.trans (if_neg (show ¬ 0 < f by rw [← HF5.out]; decide)))
                          clear hst
                          go_wp2_with fail
                          go_roundg (es.length - (k + 1))
                          case measure => omega
                          case rel =>
                            exact Lib.hid ⟨k + 1, _, by go_num, by omega, by omega, by rw [hts.out], HS.out.b0, by rw [hts.out, ← addK_four hL4 rfl, HK.out]; exact HS.out.rows⟩
    · obtain rfl : k = es.length := by omega
      have hltz : ¬ (es.length : Int) < (es.length : Int) := by omega
      have hrr := HR.out
      rw [List.take_length] at hrr
      have z0 := hrr.cell 0 (by omega)
      have z1 := hrr.cell 1 (by omega)
      have z2 := hrr.cell 2 (by omega)
      have z3 := hrr.cell 3 (by omega)
      have p0 : ∀ j, j < 4 → wr.cell? ⟨W.heap.size + 1, j, none⟩ = some (.slice none 0 0) ∧ wr.frozen? ⟨W.heap.size + 1, j, none⟩ = false := fun j hj => by
        rw [HB.out.cell (p := ⟨W.heap.size + 1, j, none⟩) hg1, HB.out.frozen (p := ⟨W.heap.size + 1, j, none⟩) hg1]
        exact HRS.out j hj
      have q0 := (p0 0 (by omega)).1
      have q1 := (p0 1 (by omega)).1
      have q2 := (p0 2 (by omega)).1
      have q3 := (p0 3 (by omega)).1
      have f0 := (p0 0 (by omega)).2
      have f1 := (p0 1 (by omega)).2
      have f2 := (p0 2 (by omega)).2
      have f3 := (p0 3 (by omega)).2
      obtain ⟨s0, d0, hv0, _, _⟩ := Own.row (hrr.own 0 (by omega))
      obtain ⟨s1, d1, hv1, _, _⟩ := Own.row (hrr.own 1 (by omega))
      obtain ⟨s2, d2, hv2, _, _⟩ := Own.row (hrr.own 2 (by omega))
      obtain ⟨s3, d3, hv3, _, _⟩ := Own.row (hrr.own 3 (by omega))
      rw [hv0] at z0
      rw [hv1] at z1
      rw [hv2] at z2
      rw [hv3] at z3
      have HV := Lib.hid (show vs 0 = _ ∧ vs 1 = _ ∧ vs 2 = _ ∧ vs 3 = _ from ⟨hv0, hv1, hv2, hv3⟩)
      have HRR := Lib.hid hrr
      clear p0 hrr HR hv0 hv1 hv2 hv3
      obtain ⟨n0, hn0⟩ : ∃ n, ((levSt T.sh T.top es).1.getD 0 []).length = n := ⟨_, rfl⟩
      obtain ⟨n1, hn1⟩ : ∃ n, ((levSt T.sh T.top es).1.getD 1 []).length = n := ⟨_, rfl⟩
      obtain ⟨n2, hn2⟩ : ∃ n, ((levSt T.sh T.top es).1.getD 2 []).length = n := ⟨_, rfl⟩
      obtain ⟨n3, hn3⟩ : ∃ n, ((levSt T.sh T.top es).1.getD 3 []).length = n := ⟨_, rfl⟩
      rw [hn0] at z0 HV
      rw [hn1] at z1 HV
      rw [hn2] at z2 HV
      rw [hn3] at z3 HV
      clear hn0 hn1 hn2 hn3
      go_wp2_with fail
      refine bodyPost_ret (v := .agg #[.slice s0 n0 d0, .slice s1 n1 d1, .slice s2 n2 d2, .slice s3 n3 d3]) (by simp [results, Tryz.results22, go_sem, q0, q1, q2, q3]) rfl ⟨vs, by rw [HV.out.1, HV.out.2.1, HV.out.2.2.1, HV.out.2.2.2], ?_, ?_⟩
      · exact lv_end HB0.out HB.out (by omega) _ _ _ _
      · intro i hi
        refine ownI_lower (B := g + 1) ?_ (by omega)
        exact ownsRow_setCell_below (ownsRow_setCell_below (ownsRow_setCell_below (ownsRow_setCell_below (HRR.out.own i hi) (show W.heap.size + 1 < g + 1 by omega) _) (show W.heap.size + 1 < g + 1 by omega) _) (show W.heap.size + 1 < g + 1 by omega) _) (show W.heap.size + 1 < g + 1 by omega) _
end Go.Proofs.YticjgmhgpeihjaaGreatDoor
namespace Go.Proofs.YticjgmhgpeihjaaGreatDoor
open Go.RowKit Go.Gz

theorem v_may {r : Int} (h : V r) : mayNotB r = false := by
  have h1 := (validRune_iff r).2 h
  first
    | (unfold mayNotB; rw [h1]; rfl)
    | (simp [mayNotB, h1])

set_option maxHeartbeats 1000000 in
theorem or_any (e f : Int) (p : Option Addr) (c : Nat) (w : World) (hp : Row w .i64 p [e, f]) :
    Calls Tryz.prog 16 #[.slice p 2 c] w fun en w' => en = .returned (.int .i64 (if e = 0 then f else e)) ∧ w = w' := by
  have HP := Lib.hid hp; clear hp
  obtain ⟨rv, hrv⟩ : ∃ rv, (if e = 0 then f else e) = rv := ⟨_, rfl⟩
  rw [hrv]
  have HRV := Lib.hid hrv; clear hrv
  go_enter Tryz.func16, Tryz.ntmps16
  go_wp2_with fail
  go_loopg [8] 2 (fun g vi wr => ∃ k : Nat, vi = .int .i64 (k : Int) ∧ k ≤ 2 ∧ 2 - k ≤ g ∧ w = wr ∧ Hid (0 < k → e = 0) ∧ Hid (1 < k → f = 0))
  case atStart => exact ⟨0, rfl, by omega, by omega, rfl, Lib.hid (fun h => by omega), Lib.hid (fun h => by omega)⟩
  case round =>
    obtain ⟨k, rfl, hk, hg, hw, H1, H2⟩ := hrel
    obtain rfl := hw
    by_cases hlt : k < 2
    · have hltz : (k : Int) < 2 := by omega
      obtain ⟨b, o, rfl, _, hcell⟩ := row_cell HP.out (Below.refl _ _) (show k < [e, f].length by simpa using hlt)
      obtain ⟨x, hx⟩ : ∃ x, [e, f].getD k 0 = x := ⟨_, rfl⟩
      rw [hx] at hcell
      have HX := Lib.hid hx
      clear hx
      by_cases h0 : x = 0
      · have h0b : ((x : Int) != 0) = false := by simp [h0]
        have HN1 := Lib.hid (show 0 < k + 1 → e = 0 from fun _ => by
          by_cases hk0 : k = 0
          · have := HX.out; subst hk0; simpa [h0] using this
          · exact H1.out (by omega))
        have HN2 := Lib.hid (show 1 < k + 1 → f = 0 from fun h => by
          have hk1 : k = 1 := by omega
          have := HX.out; subst hk1; simpa [h0] using this)
        clear h0
        go_wp2_with fail
        go_roundg (2 - (k + 1))
        case measure => omega
        case rel => exact ⟨k + 1, by go_num, by omega, by omega, rfl, HN1, HN2⟩
      · have h0b : ((x : Int) != 0) = true := by simp [h0]
        have HV := Lib.hid (show rv = x by
          rw [← HRV.out]
          by_cases hk0 : k = 0
          · have := HX.out; subst hk0
            have : e = x := by simpa using this
            rw [this, if_neg h0]
          · have hk1 : k = 1 := by omega
            have h1 := H1.out (by omega)
            have := HX.out; subst hk1
            rw [if_pos h1]; simpa using this)
        clear h0
        go_wp2_with fail
        go_ret
        exact ⟨by rw [HV.out]; rfl, rfl⟩
    · obtain rfl : k = 2 := by omega
      have hltz : ¬ (2 : Int) < 2 := by omega
      have HV := Lib.hid (show rv = 0 by rw [← HRV.out, if_pos (H1.out (by omega))]; exact H2.out (by omega))
      go_wp2_with fail
      go_ret
      exact ⟨by rw [HV.out]; rfl, rfl⟩

/-- the answer of read. -/
def RetRead (s : ByteArray) (W : World) (e : Ending) (w' : World) : Prop :=
  Below W.heap.size W w' ∧ ((64 < s.size ∧ e = .returned (.tuple #[.slice none 0 0, .int .i64 3])) ∨ (s.size ≤ 64 ∧ ¬ Txt s.data.toList ∧ e = .returned (.tuple #[.slice none 0 0, .int .i64 2])) ∨
    (s.size ≤ 64 ∧ ∃ rs, (∀ r ∈ rs, V r) ∧ s.data.toList = encAll rs ∧ ∃ p c, e = .returned (.tuple #[.slice p rs.length c, .int .i64 0]) ∧ Row w' .i32 p rs))
set_option maxHeartbeats 1000000 in
theorem skread_any (s : ByteArray) (W : World) (hT : Lib.Utf8Tabs 1 2 W) (hs : s.size ≤ 9223372036854775807) :
    Calls Tryz.prog 14 #[.string s] W (RetRead s W) := by
  by_cases h64 : 64 < s.size
  · have h64z : (64 : Int) < (s.size : Int) := by omega
    clear hT
    go_enter Tryz.func14, Tryz.ntmps14
    go_wp2_with fail
    go_ret2
    exact ⟨Below.refl _ _, Or.inl ⟨h64, rfl⟩⟩
  · have h64z : (s.size : Int) ≤ 64 := by omega
    have hle : s.size ≤ 64 := by omega
    by_cases ht : Txt s.data.toList
    · obtain ⟨rs, hv, he⟩ := ht
      have C := Lib.hid (Sc.read_ok rs hv s he W hT (by omega))
      have HV := Lib.hid hv
      have HE := Lib.hid he
      clear hT h64 hv he hs
      go_enter Tryz.func14, Tryz.ntmps14
      go_wp2_with fail
      refine C.out.mono ?_
      rintro e w1 ⟨p, c, rfl, _, hb, hr⟩
      have HB := Lib.hid hb
      have HR := Lib.hid hr
      clear hb hr C
      go_wp2_with fail
      go_ret2
      exact ⟨HB.out, Or.inr (Or.inr ⟨hle, rs, HV.out, HE.out, p, c, rfl, HR.out⟩)⟩
    · have C := Lib.hid (Sc.read_bad s ht W hT (by omega))
      have HN := Lib.hid ht
      clear hT h64 ht hs
      go_enter Tryz.func14, Tryz.ntmps14
      go_wp2_with fail
      refine C.out.mono ?_
      rintro e w1 ⟨rfl, hb⟩
      have HB := Lib.hid hb
      clear hb C
      go_wp2_with fail
      go_ret2
      exact ⟨HB.out, Or.inr (Or.inl ⟨hle, HN.out, rfl⟩)⟩
end Go.Proofs.YticjgmhgpeihjaaGreatDoor
namespace Go.Proofs.YticjgmhgpeihjaaGreatDoor
open Go.RowKit Go.Gz Go.Sort

/-- a text's runes, or why there are none. -/
def RdIs (s : ByteArray) (rs : List Int) (wr : Int) : Prop :=
  (64 < s.size ∧ rs = [] ∧ wr = 3) ∨ (s.size ≤ 64 ∧ ¬ Txt s.data.toList ∧ rs = [] ∧ wr = 2) ∨ (s.size ≤ 64 ∧ (∀ r ∈ rs, V r) ∧ s.data.toList = encAll rs ∧ wr = 0)
def keyOf (T : TB) (rs : List Int) : List UInt8 := keyB (levL T.sh T.top (outE T rs))
/-- the key of a text, and the error. -/
def MakeIs (T : TB) (s : ByteArray) (k : List UInt8) (er : Int) : Prop :=
  ∃ rs wr, RdIs s rs wr ∧ (((if errE T rs = 0 then wr else errE T rs) ≠ 0 ∧ er = (if errE T rs = 0 then wr else errE T rs) ∧ k = []) ∨
    ((if errE T rs = 0 then wr else errE T rs) = 0 ∧ ((640 < (keyOf T rs).length ∧ er = 3 ∧ k = []) ∨ ((keyOf T rs).length ≤ 640 ∧ er = 0 ∧ k = keyOf T rs))))
def RetMake (T : TB) (s : ByteArray) (W : World) (e : Ending) (w' : World) : Prop :=
  ∃ k er, e = .returned (.tuple #[.string ⟨k.toArray⟩, .int .i64 er]) ∧ Below W.heap.size W w' ∧ MakeIs T s k er
theorem rd_any (s : ByteArray) (W : World) (hT : Lib.Utf8Tabs 1 2 W) (hs : s.size ≤ 9223372036854775807) :
    Calls Tryz.prog 14 #[.string s] W fun e w' => ∃ rs wr p c, e = .returned (.tuple #[.slice p rs.length c, .int .i64 wr]) ∧ Below W.heap.size W w' ∧ Row w' .i32 p rs ∧ rs.length ≤ 64 ∧ RdIs s rs wr := by
  refine (skread_any s W hT hs).mono fun e w' h => ?_
  obtain ⟨hb, ⟨h1, rfl⟩ | ⟨h1, h2, rfl⟩ | ⟨h1, rs, h2, h3, p, c, rfl, hr⟩⟩ := h
  · exact ⟨[], 3, none, 0, rfl, hb, Or.inl rfl, by simp, Or.inl ⟨h1, rfl, rfl⟩⟩
  · exact ⟨[], 2, none, 0, rfl, hb, Or.inl rfl, by simp, Or.inr (Or.inl ⟨h1, h2, rfl, rfl⟩)⟩
  · refine ⟨rs, 0, p, c, rfl, hb, hr, ?_, Or.inr (Or.inr ⟨h1, h2, h3, rfl⟩)⟩
    have h4 := Sc.rs_le rs
    rw [← h3] at h4
    simp at h4
    omega

set_option maxHeartbeats 4000000 in
set_option maxRecDepth 100000 in
theorem make_any (T : TB) (s : ByteArray) (W : World) (hT : TabIn W T) (hl1 : T.ls.length ≤ 100) (hl2 : T.rs.length ≤ 100) (hU : Lib.Utf8Tabs 1 2 W) (hs : s.size ≤ 9223372036854775807) :
    Calls Tryz.prog 7 #[.agg #[.slice T.lp T.ls.length T.lc, .slice T.rp T.rs.length T.rc, .int .i64 T.top, .bool T.sh], .string s] W (RetMake T s W) := by
  have HT := Lib.hid hT; clear hT
  have HU := Lib.hid hU; clear hU
  have HL := Lib.hid (And.intro hl1 hl2); clear hl1 hl2
  go_enter Tryz.func7, Tryz.ntmps7
  go_wp2_with fail
  obtain ⟨w0, hw0⟩ : ∃ w0, W.alloc (.cells #[.slice T.lp T.ls.length T.lc, .slice T.rp T.rs.length T.rc, .int .i64 T.top, .bool T.sh] 25) = w0 := ⟨_, rfl⟩
  rw [hw0]
  have HB0 := Lib.hid (show Below W.heap.size W w0 from hw0 ▸ (Below.refl _ _).alloc (Nat.le_refl _) _)
  have HX0 := Lib.hid (show BoxAt w0 W.heap.size T from hw0 ▸ BoxAt.new W T _)
  clear hw0
  have CR := Lib.hid (rd_any s w0 (Sc.tabs_below HU.out HB0.out) hs)
  clear hs
  refine CR.out.mono ?_
  rintro e w1 ⟨rs, wr0, p1, c1, rfl, hb1, hr1, hrl, hrd⟩
  have HX1 := Lib.hid (HX0.out.below hb1)
  have HB1 := Lib.hid (HB0.out.trans (hb1.mono HB0.out.size))
  have HRD := Lib.hid hrd
  have CE := Lib.hid (elements_both T rs p1 c1 w1 (HT.out.at_ HB1.out HL.out.1 HL.out.2) hr1 (by omega))
  unfold RetBoth at CE
  have HRL := Lib.hid hrl
  clear hb1 hr1 hrl hrd CR
  obtain ⟨_, t0, t1, t2, t3⟩ := HX1.out
  obtain ⟨xs, hxs⟩ : ∃ xs, outE T rs = xs := ⟨_, rfl⟩
  obtain ⟨er, her⟩ : ∃ er, errE T rs = er := ⟨_, rfl⟩
  rw [hxs, her] at CE
  have hxl : xs.length ≤ 2400 := by rw [← hxs]; exact outE_few (by have := HRL.out; omega)
  have HOK := Lib.hid (show ∀ x ∈ xs, ElOk x from hxs ▸ outE_ok T rs)
  have HXS := Lib.hid hxs
  have HER := Lib.hid her
  clear hxs her
  go_wp2_with fail
  refine CE.out.mono ?_
  rintro e w2 ⟨p2, c2, rfl, hb2, he2⟩
  have HX2 := Lib.hid (HX1.out.below hb2)
  have HB2 := Lib.hid (HB1.out.trans (hb2.mono HB1.out.size))
  have HE2 := Lib.hid he2
  clear hb2 he2 CE t0 t1 t2 t3
  have hlit := Lib.hid (row_lit w2 .i64 28 [er, wr0])
  have CO := Lib.hid (or_any er wr0 _ 2 _ hlit.out)
  obtain ⟨e0, he0⟩ : ∃ e0, (if er = 0 then wr0 else er) = e0 := ⟨_, rfl⟩
  rw [he0] at CO
  have HE0 := Lib.hid he0
  clear he0
  go_wp2_with fail
  refine CO.out.mono ?_
  rintro e w3 ⟨rfl, hw3⟩
  have HB23 := Lib.hid (show Below w2.heap.size w2 w3 from hw3 ▸ (Below.refl _ _).alloc (Nat.le_refl _) _)
  have HB3 := Lib.hid (HB2.out.trans (HB23.out.mono HB2.out.size))
  have HX3 := Lib.hid (HX2.out.below HB23.out)
  have HE3 := Lib.hid (HE2.out.below HB23.out)
  clear hw3 hlit CO
  by_cases hz : e0 = 0
  · have hzb : ((e0 : Int) != 0) = false := by simp [hz]
    have HZ := Lib.hid hz
    clear hz
    have CL := Lib.hid (levels_any T xs p2 c2 w3 HE3.out (by omega))
    obtain ⟨_, t0, t1, t2, t3⟩ := HX3.out
    go_wp2_with fail
    refine CL.out.mono ?_
    rintro e w4 ⟨vs, rfl, hb4, hown4⟩
    have HB4 := Lib.hid (HB3.out.trans (hb4.mono HB3.out.size))
    have HB34 := Lib.hid hb4
    obtain ⟨L, hLL⟩ : ∃ L, levL T.sh T.top xs = L := ⟨_, rfl⟩
    have hL4 : L.length = 4 := by rw [← hLL]; exact levSt_len _ _ _
    have hLn : ∀ z ∈ L, z.length ≤ 2400 := fun z hz => by
      have := levL_few T.sh T.top xs z (hLL ▸ hz)
      omega
    have hLw : ∀ z ∈ L, ∀ w ∈ z, 0 ≤ w ∧ w ≤ 65535 := fun z hz w hw => by
      have := levL_ok (sh := T.sh) (top := T.top) HOK.out z (hLL ▸ hz) w hw
      omega
    rw [hLL] at hown4
    have HLL := Lib.hid hLL
    clear hLL hb4 CL t0 t1 t2 t3
    have HOW := Lib.hid hown4
    obtain ⟨s0, d0, hv0, _, r0⟩ := Own.row (hown4 0 (by omega))
    obtain ⟨s1, d1, hv1, _, r1⟩ := Own.row (hown4 1 (by omega))
    obtain ⟨s2, d2, hv2, _, r2⟩ := Own.row (hown4 2 (by omega))
    obtain ⟨s3, d3, hv3, _, r3⟩ := Own.row (hown4 3 (by omega))
    rw [hv0, hv1, hv2, hv3]
    have HLV := Lib.hid (show LvsAt (w4.alloc (.cells #[.slice s0 (L.getD 0 []).length d0, .slice s1 (L.getD 1 []).length d1, .slice s2 (L.getD 2 []).length d2, .slice s3 (L.getD 3 []).length d3] 56)) (w4.heap.size + 1) (some ⟨w4.heap.size, 0, none⟩) L from by
      have hb : Below w4.heap.size w4 (w4.alloc (.cells #[.slice s0 (L.getD 0 []).length d0, .slice s1 (L.getD 1 []).length d1, .slice s2 (L.getD 2 []).length d2, .slice s3 (L.getD 3 []).length d3] 56)) := (Below.refl _ _).alloc (Nat.le_refl _) _
      have hq : ∀ {q : Option Addr} {ys : List Int} {v : Value} {n d : Nat}, v = .slice q n d → Own w4 w3.heap.size 3 .i64 v ys → ∀ b' o', q = some ⟨b', o', none⟩ → b' < w4.heap.size + 1 := fun hv ho b' o' hq => by
        have := (World.ownsRow.lt ho b' (by rw [hv, hq]; rfl)).2
        omega
      intro j hj
      rw [hL4] at hj
      rcases (show j = 0 ∨ j = 1 ∨ j = 2 ∨ j = 3 by omega) with rfl | rfl | rfl | rfl
      · exact ⟨_, 0, s0, d0, rfl, Nat.lt_succ_self _, by rw [World.cell?_alloc_new]; rfl, r0.below hb, hq hv0 (hown4 0 (by omega))⟩
      · exact ⟨_, 0, s1, d1, rfl, Nat.lt_succ_self _, by rw [World.cell?_alloc_new]; rfl, r1.below hb, hq hv1 (hown4 1 (by omega))⟩
      · exact ⟨_, 0, s2, d2, rfl, Nat.lt_succ_self _, by rw [World.cell?_alloc_new]; rfl, r2.below hb, hq hv2 (hown4 2 (by omega))⟩
      · exact ⟨_, 0, s3, d3, rfl, Nat.lt_succ_self _, by rw [World.cell?_alloc_new]; rfl, r3.below hb, hq hv3 (hown4 3 (by omega))⟩)
    have CJ := joinLv_any (w4.heap.size + 1) L (some ⟨w4.heap.size, 0, none⟩) 4 2400 _ (by simp) hLn (by omega) (by omega) HLV.out hLw
    rw [hL4] at CJ
    have HCJ := Lib.hid CJ
    have HB5 := Lib.hid (HB4.out.alloc HB4.out.size (.cells #[.slice s0 (L.getD 0 []).length d0, .slice s1 (L.getD 1 []).length d1, .slice s2 (L.getD 2 []).length d2, .slice s3 (L.getD 3 []).length d3] 56))
    have hs4 := HB4.out.size
    obtain ⟨m0, hm0⟩ : ∃ n, (L.getD 0 []).length = n := ⟨_, rfl⟩
    obtain ⟨m1, hm1⟩ : ∃ n, (L.getD 1 []).length = n := ⟨_, rfl⟩
    obtain ⟨m2, hm2⟩ : ∃ n, (L.getD 2 []).length = n := ⟨_, rfl⟩
    obtain ⟨m3, hm3⟩ : ∃ n, (L.getD 3 []).length = n := ⟨_, rfl⟩
    rw [hm0, hm1, hm2, hm3] at HCJ HB5
    rw [hm0, hm1, hm2, hm3]
    have HKL := Lib.hid (show keyB L = keyOf T rs by unfold keyOf; rw [HXS.out, HLL.out])
    clear hm0 hm1 hm2 hm3 hv0 hv1 hv2 hv3 r0 r1 r2 r3 hown4 HLV CJ hLn hLw
    go_wp2_with fail
    refine HCJ.out.mono ?_
    rintro e w6 ⟨v6, rfl, hown6, hb6⟩
    have HB6 := Lib.hid (HB5.out.trans (hb6.mono (by omega)))
    obtain ⟨key, hkey⟩ : ∃ key, keyB L = key := ⟨_, rfl⟩
    rw [hkey] at hown6 HKL
    obtain ⟨p6, c6, rfl, _, hr6⟩ := Own.row hown6
    rw [numsB_length]
    have hrun := Sc.run_string w6 key p6 c6 hr6
    clear hb6 hown6 hr6 HCJ hkey
    by_cases hk : 640 < key.length
    · have hkz : (640 : Int) < (key.length : Int) := by omega
      go_wp2_with fail
      go_ret2
      exact ⟨[], 3, rfl, HB6.out, rs, wr0, HRD.out, Or.inr ⟨by rw [HER.out, HE0.out, HZ.out], Or.inl ⟨by rw [← HKL.out]; exact hk, rfl, rfl⟩⟩⟩
    · have hkz : decide ((640 : Int) < (key.length : Int)) = false := decide_eq_false (by omega)
      have hkn : decide (640 < key.length) = false := decide_eq_false hk
      have HK := Lib.hid (show key.length ≤ 640 by omega)
      clear hk
      go_wp2_with fail
      go_ret2
      exact ⟨key, 0, rfl, HB6.out, rs, wr0, HRD.out, Or.inr ⟨by rw [HER.out, HE0.out, HZ.out], Or.inr ⟨by rw [← HKL.out]; exact HK.out, rfl, HKL.out⟩⟩⟩
  · have hzb : ((e0 : Int) != 0) = true := by simp [hz]
    have HZ := Lib.hid hz
    clear hz
    go_wp2_with fail
    go_ret2
    exact ⟨[], e0, rfl, HB3.out, rs, wr0, HRD.out, Or.inl ⟨by rw [HER.out, HE0.out]; exact HZ.out, by rw [HER.out, HE0.out], rfl⟩⟩
end Go.Proofs.YticjgmhgpeihjaaGreatDoor
namespace Go.Proofs.YticjgmhgpeihjaaGreatDoor
open Go.RowKit Go.Gz Go.Sort

theorem rdIs_one {s : ByteArray} {rs rs' : List Int} {wr wr' : Int} (h : RdIs s rs wr) (h' : RdIs s rs' wr') : rs = rs' ∧ wr = wr' := by
  rcases h with ⟨a, rfl, rfl⟩ | ⟨a, b, rfl, rfl⟩ | ⟨a, b, c, rfl⟩ <;> rcases h' with ⟨a', rfl, rfl⟩ | ⟨a', b', rfl, rfl⟩ | ⟨a', b', c', rfl⟩
  · exact ⟨rfl, rfl⟩
  · omega
  · omega
  · omega
  · exact ⟨rfl, rfl⟩
  · exact absurd ⟨rs', b', c'⟩ b
  · omega
  · exact absurd ⟨rs, b, c⟩ b'
  · exact ⟨encAll_inj b b' (c.symm.trans c'), rfl⟩
theorem makeIs_one {T : TB} {s : ByteArray} {k k' : List UInt8} {er er' : Int} (h : MakeIs T s k er) (h' : MakeIs T s k' er') : k = k' ∧ er = er' := by
  obtain ⟨rs, wr, hr, h⟩ := h
  obtain ⟨rs', wr', hr', h'⟩ := h'
  obtain ⟨rfl, rfl⟩ := rdIs_one hr hr'
  rcases h with ⟨a, b, c⟩ | ⟨a, ⟨b, c, d⟩ | ⟨b, c, d⟩⟩ <;> rcases h' with ⟨a', b', c'⟩ | ⟨a', ⟨b', c', d'⟩ | ⟨b', c', d'⟩⟩
  · exact ⟨c.trans c'.symm, b.trans b'.symm⟩
  · exact absurd a' a
  · exact absurd a' a
  · exact absurd a a'
  · exact ⟨d.trans d'.symm, c.trans c'.symm⟩
  · omega
  · exact absurd a a'
  · omega
  · exact ⟨d.trans d'.symm, c.trans c'.symm⟩
/-- a text whose runes are known, by a table that may be. -/
theorem makeIs_ok {T : TB} {s : ByteArray} {k : List UInt8} {er : Int} (h : MakeIs T s k er) {rs : List Int} (hv : ∀ r ∈ rs, V r) (hs : s.data.toList = encAll rs) (h64 : s.size ≤ 64) (hm : mayWB T.ls T.rs T.top = true) :
    (640 < (keyOf T rs).length ∧ er = 3 ∧ k = []) ∨ ((keyOf T rs).length ≤ 640 ∧ er = 0 ∧ k = keyOf T rs) := by
  obtain ⟨rs', wr', hr', h'⟩ := h
  obtain ⟨rfl, rfl⟩ := rdIs_one hr' (Or.inr (Or.inr ⟨h64, hv, hs, rfl⟩))
  have he : errE T rs' = 0 := by
    unfold errE
    have hn : rs'.any mayNotB = false := List.any_eq_false.2 fun r hr => by rw [v_may (hv r hr)]; simp
    rw [if_pos hm, hn]; rfl
  rw [he] at h'
  rcases h' with ⟨a, _⟩ | ⟨_, b⟩
  · exact absurd (show (if (0 : Int) = 0 then (0 : Int) else 0) = 0 from rfl) a
  · exact b

/-- two texts held against one another. -/
def RetCmp (T : TB) (a b : ByteArray) (W : World) (e : Ending) (w' : World) : Prop :=
  ∃ ka ea kb eb er c, MakeIs T a ka ea ∧ MakeIs T b kb eb ∧ er = (if ea = 0 then eb else ea) ∧ (er ≠ 0 → c = 0) ∧ (er = 0 → c = Lib.compareBytes ka kb) ∧ e = .returned (.tuple #[.int .i64 c, .int .i64 er]) ∧ Below W.heap.size W w'

set_option maxHeartbeats 2000000 in
theorem skcompare_any (T : TB) (a b : ByteArray) (W : World) (hT : TabIn W T) (hl1 : T.ls.length ≤ 100) (hl2 : T.rs.length ≤ 100) (hU : Lib.Utf8Tabs 1 2 W) (ha : a.size ≤ 9223372036854775807) (hb : b.size ≤ 9223372036854775807) :
    Calls Tryz.prog 9 #[.agg #[.slice T.lp T.ls.length T.lc, .slice T.rp T.rs.length T.rc, .int .i64 T.top, .bool T.sh], .string a, .string b] W (RetCmp T a b W) := by
  have CM := Lib.hid (fun s w (hbw : Below W.heap.size W w) hs => make_any T s w (hT.below hbw) hl1 hl2 (Sc.tabs_below hU hbw) hs)
  clear hT hl1 hl2 hU
  go_enter Tryz.func9, Tryz.ntmps9
  go_wp2_with fail
  obtain ⟨w0, hw0⟩ : ∃ w0, W.alloc (.cells #[.slice T.lp T.ls.length T.lc, .slice T.rp T.rs.length T.rc, .int .i64 T.top, .bool T.sh] 25) = w0 := ⟨_, rfl⟩
  rw [hw0]
  have HB0 := Lib.hid (show Below W.heap.size W w0 from hw0 ▸ (Below.refl _ _).alloc (Nat.le_refl _) _)
  have HX0 := Lib.hid (show BoxAt w0 W.heap.size T from hw0 ▸ BoxAt.new W T _)
  clear hw0
  refine (CM.out a w0 HB0.out ha).mono ?_
  rintro e w1 ⟨ka, ea, rfl, hb1, hma⟩
  have HX1 := Lib.hid (HX0.out.below hb1)
  have HB1 := Lib.hid (HB0.out.trans (hb1.mono HB0.out.size))
  have HMA := Lib.hid hma
  clear hb1 hma
  obtain ⟨_, t0, t1, t2, t3⟩ := HX1.out
  go_wp2_with fail
  refine (CM.out b w1 HB1.out hb).mono ?_
  rintro e w2 ⟨kb, eb, rfl, hb2, hmb⟩
  have HB2 := Lib.hid (HB1.out.trans (hb2.mono HB1.out.size))
  have HMB := Lib.hid hmb
  clear hb2 hmb t0 t1 t2 t3 CM
  have hlit := Lib.hid (row_lit w2 .i64 28 [ea, eb])
  have CO := Lib.hid (or_any ea eb _ 2 _ hlit.out)
  obtain ⟨e0, he0⟩ : ∃ e0, (if ea = 0 then eb else ea) = e0 := ⟨_, rfl⟩
  rw [he0] at CO
  have HE0 := Lib.hid he0
  clear he0
  go_wp2_with fail
  refine CO.out.mono ?_
  rintro e w3 ⟨rfl, hw3⟩
  have HB23 := Lib.hid (show Below w2.heap.size w2 w3 from hw3 ▸ (Below.refl _ _).alloc (Nat.le_refl _) _)
  have HB3 := Lib.hid (HB2.out.trans (HB23.out.mono HB2.out.size))
  clear hw3 hlit CO
  by_cases hz : e0 = 0
  · have hzb : ((e0 : Int) != 0) = false := by simp [hz]
    have HZ := Lib.hid hz
    clear hz
    have CC := Lib.hid (fun w => Sc.compare_any ⟨ka.toArray⟩ ⟨kb.toArray⟩ w)
    obtain ⟨cv, hcv⟩ : ∃ cv, Lib.compareBytes ka kb = cv := ⟨_, rfl⟩
    have HCV := Lib.hid hcv
    simp only [hcv] at CC
    clear hcv
    go_wp2_with fail
    refine (CC.out _).mono ?_
    rintro e w4 ⟨rfl, hw4⟩
    obtain rfl : w4 = w3 := hw4
    go_wp2_with fail
    go_ret2
    exact ⟨ka, ea, kb, eb, 0, cv, HMA.out, HMB.out, by rw [HE0.out, HZ.out], fun h => absurd rfl h, fun _ => HCV.out.symm, rfl, HB3.out⟩
  · have hzb : ((e0 : Int) != 0) = true := by simp [hz]
    have HZ := Lib.hid hz
    clear hz
    go_wp2_with fail
    go_ret2
    exact ⟨ka, ea, kb, eb, e0, 0, HMA.out, HMB.out, HE0.out.symm, fun _ => rfl, fun h => absurd h HZ.out, rfl, HB3.out⟩
end Go.Proofs.YticjgmhgpeihjaaGreatDoor
namespace Go.Proofs.YticjgmhgpeihjaaGreatDoor
open Go.RowKit Go.Gz Go.Sort

theorem may_v {r : Int} (h : mayNotB r = false) : V r := by
  have := valid_range h
  unfold mayNotB Lib.validRune at h
  unfold V
  simp at h
  omega
/-- a text that has a key: its runes, and what they make. -/
theorem makeIs_zero {T : TB} {s : ByteArray} {k : List UInt8} (h : MakeIs T s k 0) : ∃ rs, s.size ≤ 64 ∧ (∀ r ∈ rs, V r) ∧ s.data.toList = encAll rs ∧ mayWB T.ls T.rs T.top = true ∧ (keyOf T rs).length ≤ 640 ∧ k = keyOf T rs := by
  obtain ⟨rs, wr, hr, ⟨h1, h2, _⟩ | ⟨h1, ⟨_, h2, _⟩ | ⟨h2, _, h3⟩⟩⟩ := h
  · exact absurd h2.symm h1
  · omega
  · by_cases he : errE T rs = 0
    · rw [if_pos he] at h1
      subst h1
      have hm : mayWB T.ls T.rs T.top = true := by
        cases hm : mayWB T.ls T.rs T.top
        · unfold errE at he; rw [hm] at he; simp at he
        · rfl
      rcases hr with ⟨_, _, h⟩ | ⟨_, _, _, h⟩ | ⟨a, b, c, _⟩
      · omega
      · omega
      · exact ⟨rs, a, b, c, hm, h2, h3⟩
    · rw [if_neg he] at h1; exact absurd h1 he
theorem normal_v {ls : List LR} (hm : mayB ls = true) {rs : List Int} (hv : ∀ r ∈ rs, V r) : ∀ r ∈ normalL ls rs, V r := fun r hr => by
  have h : rs.any mayNotB = false := List.any_eq_false.2 fun r hr => by rw [v_may (hv r hr)]; simp
  have h2 := List.any_eq_false.1 (valid_normal hm h) r hr
  exact may_v (by simpa using h2)
theorem key_normal {T : TB} (hm : mayB T.ls = true) {rs : List Int} (hv : ∀ r ∈ rs, V r) : keyOf T (normalL T.ls rs) = keyOf T rs := by
  have n : ∀ rs : List Int, (∀ r ∈ rs, V r) → rs.any mayNotB = false := fun rs hv => List.any_eq_false.2 fun r hr => by rw [v_may (hv r hr)]; simp
  unfold keyOf outE
  rw [n rs hv, n _ (normal_v hm hv)]
  show keyB (levL T.sh T.top (if _ then elemL T.ls T.rs (normalL T.ls rs) else [])) = _
  unfold elemL
  rw [normal_twice hm]
  rfl
/-- a text and its normal form: one key, or the form is too long. -/
theorem order_normal {T : TB} {a s : ByteArray} {ka ks : List UInt8} {rs : List Int} {es : Int} (hmb : mayB T.ls = true) (ha : MakeIs T a ka 0) (hra : RdIs a rs 0) (hs : s.data.toList = encAll (normalL T.ls rs)) (h : MakeIs T s ks es) :
    (s.size ≤ 64 ∧ es = 0 ∧ ks = ka) ∨ (64 < s.size ∧ es ≠ 0) := by
  obtain ⟨rs', h64, hv, he, hm, hl, rfl⟩ := makeIs_zero ha
  obtain ⟨rfl, _⟩ := rdIs_one hra (Or.inr (Or.inr ⟨h64, hv, he, rfl⟩))
  by_cases hz : s.size ≤ 64
  · rcases makeIs_ok h (normal_v hmb hv) hs hz hm with ⟨x, _⟩ | ⟨_, x, y⟩
    · rw [key_normal hmb hv] at x; omega
    · exact Or.inl ⟨hz, x, by rw [y, key_normal hmb hv]⟩
  · refine Or.inr ⟨by omega, fun e => ?_⟩
    subst e
    obtain ⟨_, h', _⟩ := makeIs_zero h
    exact hz h'
end Go.Proofs.YticjgmhgpeihjaaGreatDoor
namespace Go.Gz

def dstOf (ops : Array Oper) (i : Nat) : Option Tmp := (ops[i]?).bind (·.dst)
/-- no two operations yield into one slot; each waits for earlier ones alone; all slots are in the frame. -/
def invB (ops : Array Oper) (m : Nat) : Bool :=
  (List.range ops.size).all fun i => ((List.range ops.size).all fun j => i == j || match dstOf ops i, dstOf ops j with | some a, some b => a != b | _, _ => true) &&
    (match dstOf ops i with | some d => decide (d < m) | none => true) && ((ops[i]?).map fun o => o.after.all fun e => !(Region.binds .any e) || decide (e.on < i)).getD true
/-- the operation that has yielded into slot j. -/
def whoAt (ops : Array Oper) (L : Nat → Bool) (j : Nat) : Option Nat := (List.range ops.size).find? fun i => L i && (dstOf ops i == some j)
/-- the frame behind the operations of L, which yielded vals. -/
def frA (base : Act) (ops : Array Oper) (L : Nat → Bool) (vals : Nat → Value) : Act :=
  { base with tmps := base.tmps.mapIdx fun j x => match whoAt ops L j with | some i => vals i | none => x }
def updV (vals : Nat → Value) (i : Nat) (v : Value) : Nat → Value := fun j => if j = i then v else vals j
def updL (L : Nat → Bool) (i : Nat) : Nat → Bool := fun j => if j = i then true else L j

theorem whoAt_some {ops : Array Oper} {L : Nat → Bool} {j i : Nat} (h : whoAt ops L j = some i) : i < ops.size ∧ L i = true ∧ dstOf ops i = some j := by
  have h1 := List.find?_some h
  have h2 := List.mem_of_find?_eq_some h
  simp only [Bool.and_eq_true, beq_iff_eq] at h1
  exact ⟨List.mem_range.1 h2, h1.1, h1.2⟩
theorem dst_lt {ops : Array Oper} {i : Nat} {d : Tmp} (h : dstOf ops i = some d) : i < ops.size := by
  unfold dstOf at h
  cases h1 : ops[i]? with
  | none => rw [h1] at h; cases h
  | some o => exact (Array.getElem?_eq_some_iff.1 h1).1
theorem invB_apart {ops : Array Oper} {m : Nat} (h : invB ops m = true) {i j : Nat} {d : Tmp} (hi : dstOf ops i = some d) (hj : dstOf ops j = some d) : i = j := by
  unfold invB at h
  rw [List.all_eq_true] at h
  have h1 := h i (List.mem_range.2 (dst_lt hi))
  simp only [Bool.and_eq_true, List.all_eq_true] at h1
  have h2 := h1.1.1 j (List.mem_range.2 (dst_lt hj))
  rw [hi, hj] at h2
  simpa using h2
theorem invB_lt {ops : Array Oper} {m : Nat} (h : invB ops m = true) {i : Nat} {d : Tmp} (hi : dstOf ops i = some d) : d < m := by
  unfold invB at h
  rw [List.all_eq_true] at h
  have h1 := h i (List.mem_range.2 (dst_lt hi))
  simp only [Bool.and_eq_true] at h1
  have h2 := h1.1.2
  rw [hi] at h2
  simpa using h2
theorem invB_back {ops : Array Oper} {m : Nat} (h : invB ops m = true) {i : Nat} {o : Oper} (hi : ops[i]? = some o) : ∀ e ∈ o.after, Region.binds .any e = true → e.on < i := by
  unfold invB at h
  rw [List.all_eq_true] at h
  have h1 := h i (List.mem_range.2 (Array.getElem?_eq_some_iff.1 hi).1)
  simp only [Bool.and_eq_true] at h1
  have h2 := h1.2
  rw [hi] at h2
  simp only [Option.map_some, Option.getD_some] at h2
  intro e he hb
  have h3 := Array.all_eq_true_iff_forall_mem.1 h2 e he
  rw [hb] at h3
  exact of_decide_eq_true (by simpa using h3)
theorem whoAt_of {ops : Array Oper} {m : Nat} (h : invB ops m = true) {L : Nat → Bool} {j i : Nat} (hL : L i = true) (hd : dstOf ops i = some j) : whoAt ops L j = some i := by
  cases hw : whoAt ops L j with
  | some k =>
    obtain ⟨_, _, h3⟩ := whoAt_some hw
    rw [invB_apart h h3 hd]
  | none =>
    unfold whoAt at hw
    rw [List.find?_eq_none] at hw
    have := hw i (List.mem_range.2 (dst_lt hd))
    rw [hL, hd] at this
    simp at this
theorem whoAt_upd {ops : Array Oper} {L : Nat → Bool} {i j : Nat} (hd : dstOf ops i ≠ some j) : whoAt ops (updL L i) j = whoAt ops L j := by
  unfold whoAt
  congr 1
  funext k
  unfold updL
  by_cases hk : k = i
  · subst hk
    have : (dstOf ops k == some j) = false := by simpa using hd
    rw [this, Bool.and_false, Bool.and_false]
  · rw [if_neg hk]
theorem frA_put {base : Act} {ops : Array Oper} (h : invB ops base.tmps.size = true) {L : Nat → Bool} {vals : Nat → Value} {i : Nat} (hL : L i = false) (v : Value) :
    (frA base ops L vals).put (dstOf ops i) v = frA base ops (updL L i) (updV vals i v) := by
  have key : ∀ j, dstOf ops i ≠ some j → ∀ x : Value, (match whoAt ops L j with | some k => vals k | none => x) = (match whoAt ops (updL L i) j with | some k => updV vals i v k | none => x) := by
    intro j hj x
    rw [whoAt_upd hj]
    cases hw : whoAt ops L j with
    | none => rfl
    | some k =>
      obtain ⟨_, h2, _⟩ := whoAt_some hw
      have hk : k ≠ i := fun e => by rw [e, hL] at h2; cases h2
      show vals k = updV vals i v k
      unfold updV
      rw [if_neg hk]
  cases hd : dstOf ops i with
  | none =>
    unfold frA Act.put
    simp only
    congr 1
    apply Array.ext_getElem?
    intro j
    simp only [Array.getElem?_mapIdx]
    cases base.tmps[j]? with
    | none => rfl
    | some x => exact congrArg some (key j (by rw [hd]; simp) x)
  | some d =>
    have hlt := invB_lt h hd
    unfold frA Act.put
    simp only
    congr 1
    apply Array.ext_getElem?
    intro j
    by_cases hj : d = j
    · subst hj
      rw [Array.getElem?_setIfInBounds_self]
      simp only [Array.size_mapIdx, Array.getElem?_mapIdx]
      rw [if_pos hlt]
      have hw := whoAt_of h (L := updL L i) (by unfold updL; rw [if_pos rfl]) hd
      rw [Array.getElem?_eq_getElem hlt]
      show _ = some (match whoAt ops (updL L i) d with | some k => updV vals i v k | none => _)
      rw [hw]
      show some v = some (updV vals i v i)
      unfold updV
      rw [if_pos rfl]
    · rw [Array.getElem?_setIfInBounds_ne hj]
      simp only [Array.getElem?_mapIdx]
      cases base.tmps[j]? with
      | none => rfl
      | some x => exact congrArg some (key j (by rw [hd]; intro e; exact hj (Option.some.inj e)) x)
/-- what has been yielded is read. -/
theorem frA_done {base : Act} {ops : Array Oper} (h : invB ops base.tmps.size = true) {L : Nat → Bool} {vals : Nat → Value} {k : Nat} {t : Tmp} (hL : L k = true) (hd : dstOf ops k = some t) :
    (frA base ops L vals).tmps.getD t undef = vals k := by
  have hlt := invB_lt h hd
  unfold frA
  simp only [Array.getD_eq_getD_getElem?, Array.getElem?_mapIdx, Array.getElem?_eq_getElem hlt, Option.map_some, Option.getD_some]
  rw [whoAt_of h hL hd]
/-- what no operation yields into stays. -/
theorem frA_base {base : Act} {ops : Array Oper} {L : Nat → Bool} {vals : Nat → Value} {t : Tmp} (hn : (List.range ops.size).all (fun i => dstOf ops i != some t) = true) :
    (frA base ops L vals).tmps.getD t undef = base.tmps.getD t undef := by
  have hw : whoAt ops L t = none := by
    cases hw : whoAt ops L t with
    | none => rfl
    | some k =>
      obtain ⟨h1, _, h3⟩ := whoAt_some hw
      have := List.all_eq_true.1 hn k (List.mem_range.2 h1)
      rw [h3] at this
      simp at this
  unfold frA
  simp only [Array.getD_eq_getD_getElem?, Array.getElem?_mapIdx]
  rw [hw]
  cases base.tmps[t]? <;> rfl
/-- a slot into which only an operation yields that has not run. -/
theorem frA_wait {base : Act} {ops : Array Oper} (h : invB ops base.tmps.size = true) {L : Nat → Bool} {vals : Nat → Value} {t : Tmp} {k : Nat} (hd : dstOf ops k = some t) (hL : L k = false) :
    (frA base ops L vals).tmps.getD t undef = base.tmps.getD t undef := by
  have hw : whoAt ops L t = none := by
    cases hw : whoAt ops L t with
    | none => rfl
    | some j =>
      obtain ⟨_, h2, h3⟩ := whoAt_some hw
      rw [invB_apart h h3 hd, hL] at h2
      cases h2
  unfold frA
  simp only [Array.getD_eq_getD_getElem?, Array.getElem?_mapIdx]
  rw [hw]
  cases base.tmps[t]? <;> rfl
theorem frA_none (base : Act) (ops : Array Oper) (vals : Nat → Value) : frA base ops (fun _ => false) vals = base := by
  have hw : ∀ j, whoAt ops (fun _ => false) j = none := fun j => by
    unfold whoAt
    rw [List.find?_eq_none]
    intro x _
    simp
  unfold frA
  simp only [hw]
  cases base with
  | mk t d =>
    simp only [Act.mk.injEq, and_true]
    apply Array.ext_getElem?
    intro j
    simp only [Array.getElem?_mapIdx]
    cases t[j]? <;> rfl
def putsL (vals : Nat → Value) : List Oper → Nat → Act → Act
  | [], _, a => a
  | o :: r, i, a => putsL vals r (i + 1) (a.put o.dst (vals i))
theorem frA_all {base : Act} {l : List Oper} (h : invB l.toArray base.tmps.size = true) (vals : Nat → Value) : frA base l.toArray (fun i => decide (i < l.length)) vals = putsL vals l 0 base := by
  have go : ∀ (r : List Oper) (i : Nat), i + r.length = l.length → l.drop i = r → frA base l.toArray (fun j => decide (j < l.length)) vals = putsL vals r i (frA base l.toArray (fun j => decide (j < i)) vals) := by
    intro r
    induction r with
    | nil =>
      intro i hi _
      simp only [List.length_nil, Nat.add_zero] at hi
      rw [hi]; rfl
    | cons o r ih =>
      intro i hi hr
      simp only [List.length_cons] at hi
      have ho : dstOf l.toArray i = o.dst := by
        unfold dstOf
        rw [List.getElem?_toArray]
        have : l[i]? = some o := by
          have := congrArg (·[0]?) hr
          simpa [List.getElem?_drop] using this
        rw [this]; rfl
      have hp := frA_put h (L := fun j => decide (j < i)) (vals := vals) (i := i) (by simp) (vals i)
      have e1 : updV vals i (vals i) = vals := by funext j; unfold updV; split <;> simp_all
      have e2 : updL (fun j => decide (j < i)) i = fun j => decide (j < i + 1) := by
        funext j; unfold updL; by_cases hj : j = i
        · rw [if_pos hj, hj]; simp
        · rw [if_neg hj]; simp only [decide_eq_decide]; omega
      rw [e1, e2, ho] at hp
      rw [putsL, hp]
      exact ih (i + 1) (by omega) (by rw [← List.drop_drop, hr]; rfl)
  have := go l 0 (by omega) rfl
  rw [this]
  congr 1
  rw [show (fun j => decide (j < 0)) = fun _ => false by funext j; simp]
  exact frA_none base _ vals

/-- what is asked of one operation. -/
def StepI (P : Program) (ops : Array Oper) (Q : Exit → Act → World → Prop) (_i : Nat) (o : Oper) (a : Act) (w : World) (J : Value → World → Prop) : Prop :=
  ∀ K : Act → World → Prop, (∀ v w', J v w' → K (a.put o.dst v) w') → if Region.wanted o (yielded ops a.tmps) = true then o.wp P a w K Q else K (a.put o.dst undef) w

theorem wpAny_inv {P : Program} {base : Act} {l : List Oper} {Q : Exit → Act → World → Prop} (hB : invB l.toArray base.tmps.size = true) (I : (Nat → Bool) → (Nat → Value) → World → Prop)
    (hstep : ∀ i o L vals w, l[i]? = some o → L i = false → (∀ e ∈ o.after, Region.binds .any e = true → L e.on = true) → I L vals w →
      StepI P l.toArray Q i o (frA base l.toArray L vals) w fun v w' => I (updL L i) (updV vals i v) w')
    (hend : ∀ vals w, I (fun i => decide (i < l.length)) vals w → Q .normal (putsL vals l 0 base) w) :
    ∀ (fuel : Nat) (listed : Array Bool) (L : Nat → Bool) (vals : Nat → Value) (w : World), listed.size = l.length → (∀ j, listed.getD j false = L j) → ((List.range l.length).filter fun j => !L j).length ≤ fuel → I L vals w →
      wpAny P .any l.toArray Q fuel listed (frA base l.toArray L vals) w := by
  have hready : ∀ (listed : Array Bool) (L : Nat → Bool), listed.size = l.length → (∀ j, listed.getD j false = L j) → Region.ready .any l.toArray listed = [] → L = fun i => decide (i < l.length) := by
    intro listed L hs hL hr
    have hall : ∀ n, ∀ i, i < n → i < l.length → L i = true := by
      intro n
      induction n with
      | zero => intro i h; omega
      | succ n ih =>
        intro i hi hil
        cases hLi : L i with
        | true => rfl
        | false =>
          exfalso
          have hin : i ∈ Region.ready .any l.toArray listed := by
            unfold Region.ready
            rw [List.mem_filter]
            refine ⟨List.mem_range.2 (by simpa using hil), ?_⟩
            have h1 : listed.getD i true = false := by
              have := hL i
              rw [hLi] at this
              simp only [Array.getD_eq_getD_getElem?, Array.getElem?_eq_getElem (show i < listed.size by omega), Option.getD_some] at this ⊢
              exact this
            rw [h1]
            have ho : l.toArray[i]? = some l[i] := by simp [hil]
            rw [ho]
            simp only [Bool.not_false, Bool.true_and, Option.map_some, Option.getD_some]
            rw [Array.all_eq_true_iff_forall_mem]
            intro e he
            cases hbn : Region.binds .any e with
            | false => rfl
            | true =>
              have hb := invB_back hB ho e he hbn
              rw [hL e.on, ih e.on (by omega) (by omega), Bool.or_true]
          rw [hr] at hin
          cases hin
    funext i
    by_cases hi : i < l.length
    · rw [hall (i + 1) i (by omega) hi]; simp [hi]
    · have := hL i
      rw [← this]
      simp [Array.getElem?_eq_none (show listed.size ≤ i by omega), hi]
  intro fuel
  induction fuel with
  | zero =>
    intro listed L vals w hs hL hf hI
    have hnone : ∀ j, j < l.length → L j = true := by
      intro j hj
      cases hLj : L j with
      | true => rfl
      | false =>
        exfalso
        have : j ∈ (List.range l.length).filter fun j => !L j := List.mem_filter.2 ⟨List.mem_range.2 hj, by rw [hLj]; rfl⟩
        have := List.length_pos_of_mem this
        omega
    have hLa : L = fun i => decide (i < l.length) := by
      funext i
      by_cases hi : i < l.length
      · rw [hnone i hi]; simp [hi]
      · have := hL i
        rw [← this]
        simp [Array.getElem?_eq_none (show listed.size ≤ i by omega), hi]
    refine ⟨?_, ?_⟩
    · unfold Region.ready
      rw [List.filter_eq_nil_iff]
      intro i hi
      have hi' : i < l.length := by simpa using List.mem_range.1 hi
      have h1 : listed.getD i true = true := by
        have := hL i
        rw [hnone i hi'] at this
        simp only [Array.getD_eq_getD_getElem?, Array.getElem?_eq_getElem (show i < listed.size by omega), Option.getD_some] at this ⊢
        exact this
      rw [h1]
      simp
    · rw [hLa, frA_all hB]
      exact hend vals w (hLa ▸ hI)
  | succ fuel ih =>
    intro listed L vals w hs hL hf hI
    refine ⟨fun hr => ?_, fun i hi => ?_⟩
    · have hLa := hready listed L hs hL hr
      rw [hLa, frA_all hB]
      exact hend vals w (hLa ▸ hI)
    · unfold Region.ready at hi
      rw [List.mem_filter] at hi
      obtain ⟨hi1, hi2⟩ := hi
      have hil : i < l.length := by simpa using List.mem_range.1 hi1
      have ho : l.toArray[i]? = some l[i] := by simp [hil]
      rw [ho] at hi2
      simp only [Bool.and_eq_true, Option.map_some, Option.getD_some, Bool.not_eq_true', Array.all_eq_true_iff_forall_mem] at hi2
      have hLi : L i = false := by
        rw [← hL i]
        have := hi2.1
        simp only [Array.getD_eq_getD_getElem?, Array.getElem?_eq_getElem (show i < listed.size by omega), Option.getD_some] at this ⊢
        exact this
      have hdep : ∀ e ∈ l[i].after, Region.binds .any e = true → L e.on = true := fun e he hb => by
        have := hi2.2 e he
        rw [hb, hL e.on] at this
        simpa using this
      have hst := hstep i l[i] L vals w (by simp [hil]) hLi hdep hI
      have hd : dstOf l.toArray i = l[i].dst := by unfold dstOf; rw [ho]; rfl
      have hK : ∀ v w', I (updL L i) (updV vals i v) w' → wpAny P .any l.toArray Q fuel (listed.setIfInBounds i true) ((frA base l.toArray L vals).put l[i].dst v) w' := by
        intro v w' hI'
        rw [← hd, frA_put hB hLi v]
        refine ih _ _ _ _ (by simpa using hs) (fun j => ?_) ?_ hI'
        · unfold updL
          by_cases hj : j = i
          · rw [if_pos hj, hj]
            simp [show i < listed.size by omega]
          · rw [if_neg hj, getD_set_ne _ (fun e => hj e.symm)]
            exact hL j
        · have hsub : ((List.range l.length).filter fun j => !updL L i j).length < ((List.range l.length).filter fun j => !L j).length := by
            have e : ((List.range l.length).filter fun j => !updL L i j) = ((List.range l.length).filter fun j => !L j).filter fun j => j != i := by
              rw [List.filter_filter]
              congr 1
              funext j
              unfold updL
              by_cases hj : j = i
              · simp [hj]
              · simp [hj]
            rw [e]
            refine List.length_filter_lt_length_iff_exists.2 ⟨i, List.mem_filter.2 ⟨List.mem_range.2 hil, by rw [hLi]; rfl⟩, by simp⟩
          omega
      have hgo := hst _ hK
      unfold wpOp
      rw [ho]
      simp only
      by_cases hw : Region.wanted l[i] (yielded l.toArray (frA base l.toArray L vals).tmps) = true
      · rw [if_pos hw] at hgo ⊢
        exact Or.inl hgo
      · rw [if_neg hw] at hgo ⊢
        exact hgo

theorem wp_region_inv {P : Program} {id : Nat} {a : Act} {w : World} {l : List Oper} {Q : Exit → Act → World → Prop} (hm : P.follows .mixedOrders = true) (hB : invB l.toArray a.tmps.size = true) (I : (Nat → Bool) → (Nat → Value) → World → Prop)
    (h0 : ∀ vals, I (fun _ => false) vals w.drew)
    (hstep : ∀ i o L vals w, l[i]? = some o → L i = false → (∀ e ∈ o.after, Region.binds .any e = true → L e.on = true) → I L vals w →
      StepI P l.toArray Q i o (frA a l.toArray L vals) w fun v w' => I (updL L i) (updV vals i v) w')
    (hend : ∀ vals w, I (fun i => decide (i < l.length)) vals w → Q .normal (putsL vals l 0 a) w) : (Code.region id l.toArray true).wp P Q a w := by
  refine wp_region_any hm ?_
  have := wpAny_inv hB I hstep hend l.toArray.size (Array.replicate l.toArray.size false) (fun _ => false) (fun _ => undef) w.drew (by simp) (fun j => by
    simp only [Array.getD_eq_getD_getElem?, Array.getElem?_replicate]; split <;> rfl) (by simpa using List.length_filter_le (fun j => !(fun _ => false) j) (List.range l.length)) (h0 _)
  rw [frA_none] at this
  exact this

/-- .. where what has run has all behind it that it waited for. -/
def Closed (l : List Oper) (L : Nat → Bool) : Prop := ∀ j o, l[j]? = some o → L j = true → ∀ e ∈ o.after, Region.binds .any e = true → L e.on = true
theorem wp_region_invC {P : Program} {id : Nat} {a : Act} {w : World} {l : List Oper} {Q : Exit → Act → World → Prop} (hm : P.follows .mixedOrders = true) (hB : invB l.toArray a.tmps.size = true) (I : (Nat → Bool) → (Nat → Value) → World → Prop)
    (h0 : ∀ vals, I (fun _ => false) vals w.drew)
    (hstep : ∀ i o L vals w, l[i]? = some o → L i = false → (∀ e ∈ o.after, Region.binds .any e = true → L e.on = true) → Closed l L → I L vals w →
      StepI P l.toArray Q i o (frA a l.toArray L vals) w fun v w' => I (updL L i) (updV vals i v) w')
    (hend : ∀ vals w, I (fun i => decide (i < l.length)) vals w → Q .normal (putsL vals l 0 a) w) : (Code.region id l.toArray true).wp P Q a w := by
  refine wp_region_inv hm hB (fun L vals w => Closed l L ∧ I L vals w) (fun vals => ⟨fun j o _ h => (by cases h), h0 vals⟩) (fun i o L vals w hi hL hdep hI K hK => ?_) (fun vals w hI => hend vals w hI.2)
  refine hstep i o L vals w hi hL hdep hI.1 hI.2 K fun v w' hJ => hK v w' ⟨fun j o' hj hLj e he hb => ?_, hJ⟩
  unfold updL at hLj ⊢
  by_cases h1 : e.on = i
  · rw [if_pos h1]
  · rw [if_neg h1]
    by_cases h2 : j = i
    · subst h2
      rw [hi] at hj
      injection hj with hj
      subst hj
      exact hdep e he hb
    · rw [if_neg h2] at hLj
      exact hI.1 j o' hj hLj e he hb

/-- an operation that yields by itself. -/
theorem step_run {P : Program} {ops : Array Oper} {Q : Exit → Act → World → Prop} {i : Nat} {o : Oper} {a : Act} {w w' : World} {J : Value → World → Prop} {v : Value} (hg : o.guard = none)
    (hr : (execOp a.eval o).run P w = .ok (.value v) w') (hJ : J v w') : StepI P ops Q i o a w J := by
  intro K hK
  have hw : Region.wanted o (yielded ops a.tmps) = true := by simp [Region.wanted, hg]
  rw [if_pos hw]
  unfold Oper.wp
  rw [hr]
  exact hK v w' hJ
/-- an operation that yields nothing (a store). -/
theorem stepI_skip {P : Program} {ops : Array Oper} {Q : Exit → Act → World → Prop} {i : Nat} {o : Oper} {a : Act} {w w' : World} {J : Value → World → Prop} (hg : o.guard = none)
    (hr : (execOp a.eval o).run P w = .ok .skip w') (hJ : J undef w') : StepI P ops Q i o a w J := by
  intro K hK
  have hw : Region.wanted o (yielded ops a.tmps) = true := by simp [Region.wanted, hg]
  rw [if_pos hw]
  unfold Oper.wp
  rw [hr]
  exact hK undef w' hJ
/-- an operation that calls a Go function. -/
theorem step_enter {P : Program} {ops : Array Oper} {Q : Exit → Act → World → Prop} {i : Nat} {o : Oper} {a : Act} {w w' : World} {J : Value → World → Prop} {f : FuncId} {args : Array Value} (hg : o.guard = none)
    (hr : (execOp a.eval o).run P w = .ok (.enter f args) w') (hC : Calls P f args w' fun e w'' => ∃ v, e = .returned v ∧ J v w'') : StepI P ops Q i o a w J := by
  intro K hK
  have hw : Region.wanted o (yielded ops a.tmps) = true := by simp [Region.wanted, hg]
  rw [if_pos hw]
  unfold Oper.wp
  rw [hr]
  refine hC.mono ?_
  rintro e w'' ⟨v, rfl, hJ⟩
  exact hK v w'' hJ
#print axioms wp_region_inv
end Go.Gz
namespace Go.Gz
open Go.RowKit

theorem wp_region_gen {P : Program} {id : Nat} {a : Act} {w : World} {l : List Oper} {Q : Exit → Act → World → Prop} (hm : P.follows .mixedOrders = true) (hB : invB l.toArray a.tmps.size = true)
    (V : Nat → Value → World → Prop) (J : (Nat → Bool) → World → Prop) (h0 : J (fun _ => false) w.drew)
    (hstep : ∀ i o L vals w', l[i]? = some o → L i = false → (∀ e ∈ o.after, Region.binds .any e = true → L e.on = true) → Closed l L → J L w' → (∀ k, L k = true → V k (vals k) w') →
      StepI P l.toArray Q i o (frA a l.toArray L vals) w' fun v w'' => V i v w'' ∧ J (updL L i) w'' ∧ ∀ k u, L k = true → V k u w' → V k u w'')
    (hend : ∀ vals w', J (fun i => decide (i < l.length)) w' → (∀ k, k < l.length → V k (vals k) w') → Q .normal (putsL vals l 0 a) w') : (Code.region id l.toArray true).wp P Q a w := by
  refine wp_region_invC hm hB (fun L vals w => J L w ∧ ∀ k, L k = true → V k (vals k) w) (fun vals => ⟨h0, fun k h => by cases h⟩) (fun i o L vals w' hi hL hdep hC hI K hK => ?_)
    (fun vals w' hI => hend vals w' hI.1 fun k hk => hI.2 k (by simpa using hk))
  refine hstep i o L vals w' hi hL hdep hC hI.1 hI.2 K fun v w'' ⟨h1, h2, h3⟩ => hK v w'' ⟨h2, fun k hk => ?_⟩
  unfold updL at hk
  unfold updV
  by_cases e : k = i
  · subst e; rw [if_pos rfl]; exact h1
  · rw [if_neg e] at hk; rw [if_neg e]; exact h3 k _ hk (hI.2 k hk)

/-- what a value is, in whatever world it stays so that grows. -/
structure VP where
  f : Value → World → Prop
  hf : ∀ v w w', f v w → Below w.heap.size w w' → f v w'
def VP.eq (x : Value) : VP := ⟨fun v _ => v = x, fun _ _ _ h _ => h⟩
def VP.any : VP := ⟨fun _ _ => True, fun _ _ _ h _ => h⟩

def VP.at (vs : List VP) (i : Nat) : VP := (vs[i]?).getD VP.any

theorem wp_region_mono {P : Program} {id : Nat} {a : Act} {w : World} {l : List Oper} {Q : Exit → Act → World → Prop} (hm : P.follows .mixedOrders = true) (hB : invB l.toArray a.tmps.size = true)
    (vs : List VP)
    (hstep : ∀ i o L vals w', l[i]? = some o → L i = false → (∀ e ∈ o.after, Region.binds .any e = true → L e.on = true) → Closed l L → Below w.heap.size w w' → (∀ k, L k = true → (VP.at vs k).f (vals k) w') →
      StepI P l.toArray Q i o (frA a l.toArray L vals) w' fun v w'' => (VP.at vs i).f v w'' ∧ Below w'.heap.size w' w'')
    (hend : ∀ vals w', Below w.heap.size w w' → (∀ k, k < l.length → (VP.at vs k).f (vals k) w') → Q .normal (putsL vals l 0 a) w') : (Code.region id l.toArray true).wp P Q a w := by
  refine wp_region_gen hm hB (fun i v w => (VP.at vs i).f v w) (fun _ w' => Below w.heap.size w w') (Below.refl _ _).drew ?_ hend
  intro i o L vals w' hi hL hdep hC hJ hV K hK
  refine hstep i o L vals w' hi hL hdep hC hJ hV K fun v w'' ⟨h1, h2⟩ => hK v w'' ⟨h1, hJ.trans (h2.mono hJ.size), fun k u _ h => (VP.at vs k).hf u w' w'' h h2⟩

/-- .. of values that are known whatever the world is. -/
def EqV (vs : List (Option Value)) (i : Nat) (v : Value) : Prop := ∀ x, vs[i]? = some (some x) → v = x

theorem wp_region_state {P : Program} {id : Nat} {a : Act} {w : World} {l : List Oper} {Q : Exit → Act → World → Prop} (hm : P.follows .mixedOrders = true) (hB : invB l.toArray a.tmps.size = true)
    (vs : List (Option Value)) (J : (Nat → Bool) → World → Prop) (h0 : J (fun _ => false) w.drew)
    (hstep : ∀ i o L vals w', l[i]? = some o → L i = false → (∀ e ∈ o.after, Region.binds .any e = true → L e.on = true) → Closed l L → J L w' → (∀ k, L k = true → EqV vs k (vals k)) →
      StepI P l.toArray Q i o (frA a l.toArray L vals) w' fun v w'' => EqV vs i v ∧ J (updL L i) w'')
    (hend : ∀ vals w', J (fun i => decide (i < l.length)) w' → (∀ k, k < l.length → EqV vs k (vals k)) → Q .normal (putsL vals l 0 a) w') : (Code.region id l.toArray true).wp P Q a w := by
  refine wp_region_gen hm hB (fun i v _ => EqV vs i v) J h0 ?_ hend
  intro i o L vals w' hi hL hdep hC hJ hV K hK
  exact hstep i o L vals w' hi hL hdep hC hJ hV K fun v w'' ⟨h1, h2⟩ => hK v w'' ⟨h1, h2, fun _ _ _ h => h⟩

theorem EqV.of {vs : List (Option Value)} {i : Nat} {v x : Value} (h : EqV vs i v) (e : vs[i]? = some (some x)) : v = x := h x e
theorem EqV.self {vs : List (Option Value)} {i : Nat} {v : Value} (e : vs[i]? = some (some v)) : EqV vs i v := fun x hx => by
  rw [e] at hx
  exact Option.some.inj (Option.some.inj hx)
theorem EqV.no {vs : List (Option Value)} {i : Nat} {v : Value} (e : vs[i]? = some none) : EqV vs i v := fun x hx => by
  rw [e] at hx
  cases hx
theorem EqV.mk {vs : List (Option Value)} {i : Nat} {v : Value} (h : ∀ x, vs[i]? = some (some x) → v = x) : EqV vs i v := h

/-- a way of operations each of which waits for the next. -/
def pathB (l : List Oper) : List Nat → Bool
  | [] => true
  | [_] => true
  | a :: b :: r => ((l[a]?).map fun o => o.after.any fun e => Region.binds .any e && e.on == b).getD false && pathB l (b :: r)
theorem Closed.path {l : List Oper} {L : Nat → Bool} (hC : Closed l L) : ∀ (ps : List Nat), pathB l ps = true → ∀ a, ps.head? = some a → L a = true → ∀ b, ps.getLast? = some b → L b = true
  | [], _, a, ha, _, _, _ => by cases ha
  | [x], _, a, ha, h, b, hb => by
    simp only [List.head?_cons, Option.some.injEq] at ha
    simp only [List.getLast?_singleton, Option.some.injEq] at hb
    rw [← hb, ha]; exact h
  | x :: y :: r, hp, a, ha, h, b, hb => by
    simp only [List.head?_cons, Option.some.injEq] at ha
    unfold pathB at hp
    rw [Bool.and_eq_true] at hp
    obtain ⟨h1, h2⟩ := hp
    cases ho : l[x]? with
    | none => rw [ho] at h1; simp at h1
    | some o =>
      rw [ho] at h1
      simp only [Option.map_some, Option.getD_some, Array.any_eq_true', Bool.and_eq_true, beq_iff_eq] at h1
      obtain ⟨e, he, hb1, hb2⟩ := h1
      have hy := hC x o ho (by rw [ha]; exact h) e he hb1
      rw [hb2] at hy
      exact Closed.path hC (y :: r) h2 y rfl hy b (by rw [← hb]; simp)

theorem yielded_of {ops : Array Oper} {tmps : Array Value} {j : Nat} {t : Tmp} {b : Bool} (hd : dstOf ops j = some t) (ht : tmps.getD t undef = .bool b) : yielded ops tmps j = some b := by
  unfold yielded
  unfold dstOf at hd
  rw [hd, Option.bind_some]
  rw [Array.getD_eq_getD_getElem?] at ht
  cases h : tmps[t]? with
  | none => rw [h] at ht; cases ht
  | some v => rw [h] at ht; rw [show v = .bool b from ht]
theorem wanted_open {o : Oper} {ops : Array Oper} {tmps : Array Value} {j : Nat} {t : Tmp} {b : Bool} (hg : o.guard = some (j, b)) (hd : dstOf ops j = some t) (ht : tmps.getD t undef = .bool b) : Region.wanted o (yielded ops tmps) = true := by
  unfold Region.wanted
  rw [hg]
  simp [yielded_of hd ht]
theorem wanted_shut {o : Oper} {ops : Array Oper} {tmps : Array Value} {j : Nat} {t : Tmp} {b b' : Bool} (hg : o.guard = some (j, b)) (hd : dstOf ops j = some t) (ht : tmps.getD t undef = .bool b') (hne : b' ≠ b) : Region.wanted o (yielded ops tmps) = false := by
  unfold Region.wanted
  rw [hg]
  simp [yielded_of hd ht, hne]

theorem wanted_undef {o : Oper} {ops : Array Oper} {tmps : Array Value} {j : Nat} {t : Tmp} {b : Bool} (hg : o.guard = some (j, b)) (hd : dstOf ops j = some t) (ht : tmps.getD t undef = undef) : Region.wanted o (yielded ops tmps) = false := by
  unfold Region.wanted
  rw [hg]
  have hy : yielded ops tmps j = none := by
    unfold yielded
    unfold dstOf at hd
    rw [hd, Option.bind_some]
    rw [Array.getD_eq_getD_getElem?] at ht
    cases h : tmps[t]? with
    | none => rfl
    | some v => rw [h] at ht; rw [show v = undef from ht]; rfl
  simp [hy]

/-- an operation behind a guard that does not hold. -/
theorem step_shut {P : Program} {ops : Array Oper} {Q : Exit → Act → World → Prop} {i : Nat} {o : Oper} {a : Act} {w : World} {J : Value → World → Prop} (hg : Region.wanted o (yielded ops a.tmps) = false) (hJ : J undef w) : StepI P ops Q i o a w J := by
  intro K hK
  rw [hg]
  simpa using hK undef w hJ
/-- an operation behind a guard that holds. -/
theorem step_run' {P : Program} {ops : Array Oper} {Q : Exit → Act → World → Prop} {i : Nat} {o : Oper} {a : Act} {w w' : World} {J : Value → World → Prop} {v : Value} (hg : Region.wanted o (yielded ops a.tmps) = true)
    (hr : (execOp a.eval o).run P w = .ok (.value v) w') (hJ : J v w') : StepI P ops Q i o a w J := by
  intro K hK
  rw [if_pos hg]
  unfold Oper.wp
  rw [hr]
  exact hK v w' hJ
theorem step_enter' {P : Program} {ops : Array Oper} {Q : Exit → Act → World → Prop} {i : Nat} {o : Oper} {a : Act} {w w' : World} {J : Value → World → Prop} {f : FuncId} {args : Array Value} (hg : Region.wanted o (yielded ops a.tmps) = true)
    (hr : (execOp a.eval o).run P w = .ok (.enter f args) w') (hC : Calls P f args w' fun e w'' => ∃ v, e = .returned v ∧ J v w'') : StepI P ops Q i o a w J := by
  intro K hK
  rw [if_pos hg]
  unfold Oper.wp
  rw [hr]
  refine hC.mono ?_
  rintro e w'' ⟨v, rfl, hJ⟩
  exact hK v w'' hJ
theorem stepI_skip' {P : Program} {ops : Array Oper} {Q : Exit → Act → World → Prop} {i : Nat} {o : Oper} {a : Act} {w w' : World} {J : Value → World → Prop} (hg : Region.wanted o (yielded ops a.tmps) = true)
    (hr : (execOp a.eval o).run P w = .ok .skip w') (hJ : J undef w') : StepI P ops Q i o a w J := by
  intro K hK
  rw [if_pos hg]
  unfold Oper.wp
  rw [hr]
  exact hK undef w' hJ
end Go.Gz
namespace Go.Proofs.YticjgmhgpeihjaaGreatDoor
open Go.RowKit Go.Gz Go.Sort

theorem mayW_top {ls : List LR} {rs : List WR} {top : Int} (h : mayWB ls rs top = true) : 0 ≤ top := by
  unfold mayWB at h
  simp only [Bool.and_eq_true, decide_eq_true_eq] at h
  omega

def MkOut (wb : World) (B : Nat) (L : List (List Int)) (vb vj : Value) (wr : World) (gk : Nat) : Prop :=
  ∃ j : Nat, vj = .int .i64 (j : Int) ∧ j ≤ 4 ∧ 4 - j ≤ gk ∧ Below B wb wr ∧ OwnB wr B vb (keyB (L.take j))
def MkIn (wb : World) (B : Nat) (l0 : List UInt8) (xs : List Int) (vb vi : Value) (wr : World) (gk : Nat) : Prop :=
  ∃ i : Nat, vi = .int .i64 (i : Int) ∧ i ≤ xs.length ∧ xs.length - i ≤ gk ∧ Below B wb wr ∧ OwnB wr B vb (l0 ++ lvB (xs.take i))

/-- what the operations of the inner round yield. -/
def V21 (wr : World) (B : Nat) (l' : List UInt8) (hi lo : Int) (vs : List (Option Value)) (i : Nat) (v : Value) (w : World) : Prop :=
  EqV vs i v ∧ (16 ≤ i → (i = 16 ∧ ∃ G, v = .slice (some ⟨G, 0, none⟩) 2 2 ∧ wr.heap.size ≤ G ∧ G < w.heap.size ∧ w.cell? ⟨G, 0, none⟩ = some (.int .u8 hi) ∧ w.cell? ⟨G, 1, none⟩ = some (.int .u8 lo)) ∨ ((i = 17 ∨ i = 18) ∧ OwnB w B v l'))

set_option maxHeartbeats 16000000 in
set_option maxRecDepth 100000 in
theorem refMake_any (T : TB) (s : ByteArray) (W : World) (hT : TabIn W T) (hl1 : T.ls.length ≤ 100) (hl2 : T.rs.length ≤ 100) (hs : s.size ≤ 9223372036854775807) :
    Calls Tryz.prog 8 #[.agg #[.slice T.lp T.ls.length T.lc, .slice T.rp T.rs.length T.rc, .int .i64 T.top, .bool T.sh], .string s] W (RetMake T s W) := by
  have HT := Lib.hid hT; clear hT
  have HL := Lib.hid (And.intro hl1 hl2); clear hl1 hl2
  go_enter Tryz.func8, Tryz.ntmps8
  go_wp2_with fail
  obtain ⟨w0, hw0⟩ : ∃ w0, W.alloc (.cells #[.slice T.lp T.ls.length T.lc, .slice T.rp T.rs.length T.rc, .int .i64 T.top, .bool T.sh] 25) = w0 := ⟨_, rfl⟩
  rw [hw0]
  have HB0 := Lib.hid (show Below W.heap.size W w0 from hw0 ▸ (Below.refl _ _).alloc (Nat.le_refl _) _)
  have HX0 := Lib.hid (show BoxAt w0 W.heap.size T from hw0 ▸ BoxAt.new W T _)
  clear hw0
  have CT := Lib.hid (refTableMay_is T.lp T.ls T.lc T.rp T.rs T.rc T.top T.sh w0 (HT.out.lore.below HB0.out) (HT.out.rows.below HB0.out) (by have := HL.out.1; omega) (by have := HL.out.2; omega) HT.out.bx HT.out.by_)
  refine CT.out.mono ?_
  rintro e w1 ⟨rfl, hb1⟩
  have HX1 := Lib.hid (HX0.out.below hb1)
  have HB1 := Lib.hid (HB0.out.trans (hb1.mono HB0.out.size))
  clear hb1 CT
  cases hmw : mayWB T.ls T.rs T.top with
  | false =>
    have HMW := Lib.hid hmw
    clear hmw
    go_wp2_with fail
    go_ret2
    have he : ∀ rs, errE T rs = 4 := fun rs => by unfold errE; rw [HMW.out]; rfl
    refine ⟨[], 4, rfl, HB1.out, ?_⟩
    by_cases h64 : 64 < s.size
    · exact ⟨[], 3, Or.inl ⟨h64, rfl, rfl⟩, Or.inl ⟨by rw [he]; decide, by rw [he]; rfl, rfl⟩⟩
    · by_cases ht : Txt s.data.toList
      · obtain ⟨rs, h1, h2⟩ := ht
        exact ⟨rs, 0, Or.inr (Or.inr ⟨by omega, h1, h2, rfl⟩), Or.inl ⟨by rw [he]; decide, by rw [he]; rfl, rfl⟩⟩
      · exact ⟨[], 2, Or.inr (Or.inl ⟨by omega, ht, rfl, rfl⟩), Or.inl ⟨by rw [he]; decide, by rw [he]; rfl, rfl⟩⟩
  | true =>
    have HMW := Lib.hid hmw
    clear hmw
    have hE0 : Hid (errE T [] = 0) := Lib.hid (by unfold errE; rw [HMW.out]; rfl)
    by_cases h64 : 64 < s.size
    · have h64z : (64 : Int) < (s.size : Int) := by omega
      go_wp2_with fail
      go_ret2
      exact ⟨[], 3, rfl, HB1.out, [], 3, Or.inl ⟨h64, rfl, rfl⟩, Or.inl ⟨by rw [hE0.out]; decide, by rw [hE0.out]; rfl, rfl⟩⟩
    · have h64z : decide ((64 : Int) < (s.size : Int)) = false := decide_eq_false (by omega)
      have h64n : decide (64 < s.size) = false := decide_eq_false h64
      have H64 := Lib.hid (show s.size ≤ 64 by omega)
      clear h64
      have CR := Lib.hid (Sc.refRead_any s w1 (by have := H64.out; omega))
      by_cases ht : Txt s.data.toList
      · obtain ⟨rs, hv, hse⟩ := ht
        have HV := Lib.hid hv
        have HSE := Lib.hid hse
        have hrl : rs.length ≤ 64 := by
          have h4 := Sc.rs_le rs
          rw [← hse] at h4
          simp at h4
          have := H64.out
          omega
        clear hv hse
        go_wp2_with fail
        refine CR.out.mono ?_
        rintro e w2 ⟨h1, _, hb2⟩
        have h2 := h1 rs HV.out HSE.out
        clear h1
        obtain ⟨p2, c2, rfl, _, _, hr2⟩ := h2
        have HX2 := Lib.hid (HX1.out.below hb2)
        have HB2 := Lib.hid (HB1.out.trans (hb2.mono HB1.out.size))
        have HR2 := Lib.hid (show Row w2 .i32 p2 rs from hr2)
        clear hb2 hr2 CR
        have CE := Lib.hid (refElements_both T rs p2 c2 w2 (HT.out.below HB2.out) HL.out.1 HL.out.2 HR2.out (by omega))
        unfold RetBoth at CE
        obtain ⟨_, t0, t1, t2, t3⟩ := HX2.out
        obtain ⟨xs, hxs⟩ : ∃ xs, outE T rs = xs := ⟨_, rfl⟩
        have her : errE T rs = 0 := by
          unfold errE
          have hn : rs.any mayNotB = false := List.any_eq_false.2 fun r hr => by rw [v_may (HV.out r hr)]; simp
          rw [HMW.out, hn]; rfl
        rw [hxs, her] at CE
        have hxl : xs.length ≤ 2400 := by rw [← hxs]; exact outE_few (by omega)
        have HOK := Lib.hid (show ∀ x ∈ xs, ElOk x from hxs ▸ outE_ok T rs)
        have HXS := Lib.hid hxs
        have HER := Lib.hid her
        have HRL := Lib.hid hrl
        clear hxs her hrl
        go_wp2_with fail
        refine CE.out.mono ?_
        rintro e w3 ⟨p3, c3, rfl, hb3, he3⟩
        have HX3 := Lib.hid (HX2.out.below hb3)
        have HB3 := Lib.hid (HB2.out.trans (hb3.mono HB2.out.size))
        have HE3 := Lib.hid he3
        clear hb3 he3 CE t0 t1 t2 t3
        have CL := Lib.hid (refLevels_any T xs p3 c3 w3 HE3.out (by omega) (mayW_top HMW.out) (fun x hx => (HOK.out x hx).1))
        obtain ⟨_, t0, t1, t2, t3⟩ := HX3.out
        go_wp2_with fail
        refine CL.out.mono ?_
        rintro e w4 ⟨vs, rfl, hb4, hown4⟩
        have HB4 := Lib.hid (HB3.out.trans (hb4.mono HB3.out.size))
        obtain ⟨L, hLL⟩ : ∃ L, levL T.sh T.top xs = L := ⟨_, rfl⟩
        have hL4 : L.length = 4 := by rw [← hLL]; exact levSt_len _ _ _
        have hLn : ∀ z ∈ L, z.length ≤ 2400 := fun z hz => by
          have := levL_few T.sh T.top xs z (hLL ▸ hz)
          omega
        have hLw : ∀ z ∈ L, ∀ w ∈ z, 0 ≤ w ∧ w ≤ 65535 := fun z hz w hw => by
          have := levL_ok (sh := T.sh) (top := T.top) HOK.out z (hLL ▸ hz) w hw
          omega
        rw [hLL] at hown4
        have HLL := Lib.hid hLL
        have HLN := Lib.hid hLn
        have HLW := Lib.hid hLw
        clear hLL hb4 CL t0 t1 t2 t3 hLn hLw
        obtain ⟨s0, d0, hv0, _, r0⟩ := Own.row (hown4 0 (by omega))
        obtain ⟨s1, d1, hv1, _, r1⟩ := Own.row (hown4 1 (by omega))
        obtain ⟨s2, d2, hv2, _, r2⟩ := Own.row (hown4 2 (by omega))
        obtain ⟨s3, d3, hv3, _, r3⟩ := Own.row (hown4 3 (by omega))
        rw [hv0, hv1, hv2, hv3]
        have HLV := Lib.hid (show LvsAt (w4.alloc (.cells #[.slice s0 (L.getD 0 []).length d0, .slice s1 (L.getD 1 []).length d1, .slice s2 (L.getD 2 []).length d2, .slice s3 (L.getD 3 []).length d3] 56)) (w4.heap.size + 1) (some ⟨w4.heap.size, 0, none⟩) L from by
          have hb : Below w4.heap.size w4 (w4.alloc (.cells #[.slice s0 (L.getD 0 []).length d0, .slice s1 (L.getD 1 []).length d1, .slice s2 (L.getD 2 []).length d2, .slice s3 (L.getD 3 []).length d3] 56)) := (Below.refl _ _).alloc (Nat.le_refl _) _
          have hq : ∀ {q : Option Addr} {ys : List Int} {v : Value} {n d : Nat}, v = .slice q n d → Own w4 w3.heap.size 3 .i64 v ys → ∀ b' o', q = some ⟨b', o', none⟩ → b' < w4.heap.size + 1 := fun hv ho b' o' hq => by
            have := (World.ownsRow.lt ho b' (by rw [hv, hq]; rfl)).2
            omega
          intro j hj
          rw [hL4] at hj
          rcases (show j = 0 ∨ j = 1 ∨ j = 2 ∨ j = 3 by omega) with rfl | rfl | rfl | rfl
          · exact ⟨_, 0, s0, d0, rfl, Nat.lt_succ_self _, by rw [World.cell?_alloc_new]; rfl, r0.below hb, hq hv0 (hown4 0 (by omega))⟩
          · exact ⟨_, 0, s1, d1, rfl, Nat.lt_succ_self _, by rw [World.cell?_alloc_new]; rfl, r1.below hb, hq hv1 (hown4 1 (by omega))⟩
          · exact ⟨_, 0, s2, d2, rfl, Nat.lt_succ_self _, by rw [World.cell?_alloc_new]; rfl, r2.below hb, hq hv2 (hown4 2 (by omega))⟩
          · exact ⟨_, 0, s3, d3, rfl, Nat.lt_succ_self _, by rw [World.cell?_alloc_new]; rfl, r3.below hb, hq hv3 (hown4 3 (by omega))⟩)
        have HB5 := Lib.hid (HB4.out.alloc HB4.out.size (.cells #[.slice s0 (L.getD 0 []).length d0, .slice s1 (L.getD 1 []).length d1, .slice s2 (L.getD 2 []).length d2, .slice s3 (L.getD 3 []).length d3] 56))
        obtain ⟨m0, hm0⟩ : ∃ n, (L.getD 0 []).length = n := ⟨_, rfl⟩
        obtain ⟨m1, hm1⟩ : ∃ n, (L.getD 1 []).length = n := ⟨_, rfl⟩
        obtain ⟨m2, hm2⟩ : ∃ n, (L.getD 2 []).length = n := ⟨_, rfl⟩
        obtain ⟨m3, hm3⟩ : ∃ n, (L.getD 3 []).length = n := ⟨_, rfl⟩
        rw [hm0, hm1, hm2, hm3] at HLV HB5
        rw [hm0, hm1, hm2, hm3]
        clear hm0 hm1 hm2 hm3 hv0 hv1 hv2 hv3 r0 r1 r2 r3 hown4
        go_upto_region 13 with fail
        generalize hwb : w4.alloc _ = wb at HLV HB5 ⊢
        have hBw : w4.heap.size + 1 = wb.heap.size := by rw [← hwb]; simp
        clear hwb
        rw [hBw] at HLV
        generalize hbxe : w4.heap.size = bx at HLV hBw ⊢
        obtain ⟨B, hB⟩ : ∃ B, wb.heap.size = B := ⟨_, rfl⟩
        rw [hB] at HLV hBw
        have HBE := Lib.hid hB
        have HBX := Lib.hid hBw
        have HBW := Lib.hid hbxe
        have hbx : bx < B := by omega
        clear hB hBw hbxe
        go_wp2_with fail
        go_loopg [9, 11] 4 (fun gk vb vj wr => Hid (MkOut wb B L vb vj wr gk))
        case atStart => exact Lib.hid ⟨0, rfl, by omega, by omega, Below.refl _ _, by rw [List.take_zero]; exact Own.nil _ _ _ _⟩
        case round =>
          have hrel' := hrel.out
          clear hrel
          obtain ⟨j, rfl, hj4, hgk, hbo, howo⟩ := hrel'
          have HBO := Lib.hid hbo
          have HOO := Lib.hid howo
          have hso : B ≤ wr.heap.size := by have := hbo.size; have := HBE.out; omega
          clear hbo howo
          by_cases hlt : j < 4
          · have hjz : (j : Int) < 4 := by omega
            obtain ⟨b2, o2, q, cq, hpe, hbB, hcell, hrow, hqB⟩ := HLV.out j (by omega)
            injection hpe with hpe
            injection hpe with hp1 hp2 _
            subst hp1
            subst hp2
            rw [Nat.zero_add] at hcell
            have hmem : L.getD j [] ∈ L := by simp [List.getD, show j < L.length by omega]
            have HTS := Lib.hid (keyB_take (show j < L.length by omega))
            have hfl := keyB_few (L.take j) 2400 fun l hl => HLN.out l (List.mem_of_mem_take hl)
            have hkl : (L.take j).length ≤ 4 := by rw [List.length_take]; omega
            have hll : (keyB (L.take j)).length ≤ 40000 := Nat.le_trans hfl (Nat.le_trans (Nat.mul_le_mul hkl (show 2 * 2400 + 2 ≤ 4802 by omega)) (by decide))
            have hxn := HLN.out _ hmem
            have HXW := Lib.hid (HLW.out _ hmem)
            have HROW := Lib.hid (show ∀ w, Below B wb w → Row w .i64 q (L.getD j []) from fun w hb => row_belowB hrow hb hqB)
            have HQB := Lib.hid hqB
            have HCB := Lib.hid (show ∀ w, Below B wb w → w.cell? ⟨bx, j, none⟩ = some (.slice q (L.getD j []).length cq) from fun w hb => by rw [hb.cell (p := ⟨bx, j, none⟩) hbB]; exact hcell)
            obtain ⟨x, hxx⟩ : ∃ x, L.getD j [] = x := ⟨_, rfl⟩
            rw [hxx] at HTS HXW HROW HCB hxn
            clear hxx hcell hrow hqB hmem hfl hkl
            obtain ⟨n, hn⟩ : ∃ n, x.length = n := ⟨_, rfl⟩
            rw [hn] at hxn HCB
            have HN := Lib.hid hn
            clear hn
            obtain ⟨l0, hl0⟩ : ∃ l0 : List UInt8, (if j = 0 then [] else keyB (L.take j) ++ [0, 0]) = l0 := ⟨_, rfl⟩
            have HL0 := Lib.hid hl0
            have HK := Lib.hid (show keyB (L.take (j + 1)) = l0 ++ lvB x by
              rw [HTS.out, ← hl0]
              split <;> simp)
            have hl0n : l0.length ≤ 40002 := by
              rw [← hl0]
              split
              · simp
              · rw [List.length_append]; simp; omega
            clear hl0
            go_upto_if 44 with fail
            go_cut [9] from 39 to 73 (fun vb wx => Hid (Below B wb wx ∧ OwnB wx B vb l0))
            case first =>
              by_cases hk0 : 0 < j
              · have hk0z : (0 : Int) < (j : Int) := by omega
                have HE := Lib.hid (show l0 = keyB (L.take j) ++ [0, 0] by rw [← HL0.out, if_neg (by omega)])
                have hb1 := Lib.hid (HBO.out.alloc hso (.cells #[.int .u8 0, .int .u8 0] 5))
                have hlq : (numsB (keyB (L.take j))).length ≤ 40000 := by rw [numsB_length]; exact hll
                go_wp2_with (at_builtin; refine wpList_own_push rfl _ _ 58 rfl 5 .u8 1 Tryz.underlying58 info_u8 (by decide) B _ (numsB (keyB (L.take j))) rfl (Own.alloc HOO.out _) wr.heap.size 2 2 [0, 0] rfl rfl ?cellsW ?lenW ?belowW ?_)
                case cellsW => first | exact twoI _ _ _ _ | (intro jj hjj; rcases (show jj = 0 ∨ jj = 1 by omega) with rfl | rfl <;> rfl)
                case lenW => omega
                case belowW => first | (simp; omega) | omega
                intro v' w' hown' hgrow'
                have HBn := Lib.hid (hb1.out.grown hgrow' (by simp; omega) (fun g hg => (World.ownsRow.lt HOO.out g hg).1))
                have HOn := Lib.hid hown'
                clear hown' hgrow'
                go_wp2_with fail
                go_meet
                exact Lib.hid ⟨HBn.out, by unfold OwnB; rw [HE.out, numsB_append]; exact HOn.out⟩
              · have hk0z : decide ((0 : Int) < (j : Int)) = false := decide_eq_false (by omega)
                have hk0n : decide (0 < j) = false := decide_eq_false hk0
                have HE := Lib.hid (show l0 = keyB (L.take j) by
                  rw [← HL0.out, if_pos (by omega)]
                  have : j = 0 := by omega
                  subst this
                  simp [keyB])
                go_wp2_with fail
                go_meet
                exact Lib.hid ⟨HBO.out, by rw [HE.out]; exact HOO.out⟩
            case rest =>
              have HBC := Lib.hid hcut.out.1
              have HOC := Lib.hid hcut.out.2
              clear hcut
              go_wp2_with fail
              go_loopg [9, 12] n (fun g2 vb vi w => Hid (MkIn wb B l0 x vb vi w g2))
              case atStart => exact Lib.hid ⟨0, rfl, by omega, by have := HN.out; omega, HBC.out, by rw [List.take_zero]; simpa [lvB] using HOC.out⟩
              case round =>
                have hrel' := hrel.out
                clear hrel
                obtain ⟨i, rfl, hin, hgi, hbi, howi⟩ := hrel'
                have HBI := Lib.hid hbi
                have HOI := Lib.hid howi
                rw [HN.out] at hin hgi
                have hBr : B ≤ wr.heap.size := by have := hbi.size; have := HBE.out; omega
                have cbr := HCB.out wr hbi
                clear hbi howi
                by_cases hi : i < n
                · have hiz : (i : Int) < (n : Int) := by omega
                  have hcell : ∃ b' o', q = some ⟨b', o', none⟩ ∧ b' < B ∧ wr.cell? ⟨b', o' + i, none⟩ = some (.int .i64 (x.getD i 0)) := by
                    have hnn := HN.out
                    rcases HROW.out wr HBI.out with h | ⟨b', o', hq, h1, h2⟩
                    · rw [h] at hnn; simp at hnn; omega
                    · exact ⟨b', o', hq, HQB.out b' o' hq, h2 i (by omega)⟩
                  obtain ⟨b', o', rfl, hb', cer⟩ := hcell
                  have he := HXW.out (x.getD i 0) (by have := HN.out; simp [List.getD, show i < x.length by omega])
                  have HTI := Lib.hid (show l0 ++ lvB (x.take (i + 1)) = (l0 ++ lvB (x.take i)) ++ two (x.getD i 0) by
                    have hnn := HN.out
                    rw [List.take_succ_eq_append_getElem (by omega), lvB_snoc, List.append_assoc]; simp [List.getD, show i < x.length by omega])
                  have hlen : (l0 ++ lvB (x.take i)).length ≤ 100000 := by rw [List.length_append, lvB_length, List.length_take]; have := HN.out; omega
                  obtain ⟨e, hee⟩ : ∃ e, x.getD i 0 = e := ⟨_, rfl⟩
                  rw [hee] at cer he HTI
                  clear hee
                  obtain ⟨l, hle⟩ : ∃ l, l0 ++ lvB (x.take i) = l := ⟨_, rfl⟩
                  rw [hle] at HOI HTI hlen
                  clear hle
                  obtain ⟨he0, he1⟩ := he
                  have hOWr := HOI
                  have HTW := Lib.hid (show numsB (l ++ two e) = numsB l ++ [e / 256, e % 256] by
                    rw [numsB_append, numsB_two, show e / 256 % 256 = e / 256 by omega])
                  go_upto_region 21 with fail
                  go_wp2_with fail
                  have mx := mixedL
                  refine wp_region_gen mx (by kernel_rfl) (V21 wr B (l ++ two e) (e / 256) (e % 256) [some u9, some (.int .i64 (j : Int)), some (.pointer (some ⟨bx, j, none⟩)), some (.slice (some ⟨b', o', none⟩) n cq), some (.int .i64 (i : Int)), some (.pointer (some ⟨b', o' + i, none⟩)), some (.int .i64 e), some (.int .i64 (e / 256)), some (.int .u8 (e / 256)), some (.int .i64 (j : Int)), some (.pointer (some ⟨bx, j, none⟩)), some (.slice (some ⟨b', o', none⟩) n cq), some (.int .i64 (i : Int)), some (.pointer (some ⟨b', o' + i, none⟩)), some (.int .i64 e), some (.int .u8 (e % 256)), none, none, none]) (fun L w' => Below B wr w' ∧ (L 17 = false → OwnB w' B u9 l)) ⟨(Below.refl _ _).drew, fun _ => hOWr.out⟩ ?_ ?_
                  · intro ix ox L vals w hi hL hdep hC hJ hV
                    have hlt19 : ix < 19 := by
                      have := (List.getElem?_eq_some_iff.1 hi).1
                      simpa using this
                    generalize hA : frA _ _ L vals = a
                    have h10 : a.tmps.getD 10 undef = .pointer (some ⟨bx, 0, none⟩) := by rw [← hA, frA_base (by kernel_rfl)]; rfl
                    have h11 : a.tmps.getD 11 undef = .int .i64 (j : Int) := by rw [← hA, frA_base (by kernel_rfl)]; rfl
                    have h12 : a.tmps.getD 12 undef = .int .i64 (i : Int) := by rw [← hA, frA_base (by kernel_rfl)]; rfl
                    have H9 := Lib.hid (show L 18 = false → a.tmps.getD 9 undef = u9 from fun h18 => by rw [← hA, frA_wait (by kernel_rfl) (k := 18) rfl h18]; rfl)
                    have hD := Lib.hid (fun k t (hk : L k = true) (ht : dstOf _ k = some t) => hA ▸ frA_done (by kernel_rfl) (vals := vals) hk ht)
                    clear hA
                    have hsw : B ≤ w.heap.size := Nat.le_trans hBr hJ.1.size
                    have cb : w.cell? ⟨bx, j, none⟩ = some (.slice (some ⟨b', o', none⟩) n cq) := by rw [hJ.1.cell (p := ⟨bx, j, none⟩) hbx]; exact cbr
                    have ce : w.cell? ⟨b', o' + i, none⟩ = some (.int .i64 e) := by rw [hJ.1.cell (p := ⟨b', o' + i, none⟩) hb']; exact cer
                    obtain rfl | rfl | rfl | rfl | rfl | rfl | rfl | rfl | rfl | rfl | rfl | rfl | rfl | rfl | rfl | rfl | rfl | rfl | rfl : ix = 0 ∨ ix = 1 ∨ ix = 2 ∨ ix = 3 ∨ ix = 4 ∨ ix = 5 ∨ ix = 6 ∨ ix = 7 ∨ ix = 8 ∨ ix = 9 ∨ ix = 10 ∨ ix = 11 ∨ ix = 12 ∨ ix = 13 ∨ ix = 14 ∨ ix = 15 ∨ ix = 16 ∨ ix = 17 ∨ ix = 18 := by omega
                    all_goals
                      injection hi with hi
                      subst hi
                      try simp [Region.binds] at hdep
                    · have n17 : L 17 = false := by
                        cases h : L 17 with
                        | false => rfl
                        | true => have h2 := hC.path [17, 0] (by kernel_rfl) 17 rfl h 0 rfl; rw [hL] at h2; cases h2
                      have n18 : L 18 = false := by
                        cases h : L 18 with
                        | false => rfl
                        | true => have h2 := hC.path [18, 17] (by kernel_rfl) 18 rfl h 17 rfl; rw [n17] at h2; cases h2
                      have h9 := H9.out n18
                      refine step_run rfl (v := u9) (w' := w) (by go_simp) ⟨⟨EqV.self rfl, fun h => absurd h (by decide)⟩, ⟨hJ.1, fun h => hJ.2 h⟩, fun _ _ _ h => h⟩
                    · refine step_run rfl (v := .int .i64 (j : Int)) (w' := w) (by go_simp) ⟨⟨EqV.self rfl, fun h => absurd h (by decide)⟩, ⟨hJ.1, fun h => hJ.2 h⟩, fun _ _ _ h => h⟩
                    · have e1 := hD.out 1 57 (by simp [hdep]) rfl
                      rw [(hV 1 (by simp [hdep])).1 _ rfl] at e1
                      refine step_run rfl (v := .pointer (some ⟨bx, j, none⟩)) (w' := w) (by go_simp) ⟨⟨EqV.self rfl, fun h => absurd h (by decide)⟩, ⟨hJ.1, fun h => hJ.2 h⟩, fun _ _ _ h => h⟩
                    · have e1 := hD.out 2 58 (by simp [hdep]) rfl
                      rw [(hV 2 (by simp [hdep])).1 _ rfl] at e1
                      refine step_run rfl (v := .slice (some ⟨b', o', none⟩) n cq) (w' := w) (by go_simp) ⟨⟨EqV.self rfl, fun h => absurd h (by decide)⟩, ⟨hJ.1, fun h => hJ.2 h⟩, fun _ _ _ h => h⟩
                    · refine step_run rfl (v := .int .i64 (i : Int)) (w' := w) (by go_simp) ⟨⟨EqV.self rfl, fun h => absurd h (by decide)⟩, ⟨hJ.1, fun h => hJ.2 h⟩, fun _ _ _ h => h⟩
                    · have e1 := hD.out 3 59 (by simp [hdep]) rfl
                      rw [(hV 3 (by simp [hdep])).1 _ rfl] at e1
                      have e2 := hD.out 4 60 (by simp [hdep]) rfl
                      rw [(hV 4 (by simp [hdep])).1 _ rfl] at e2
                      refine step_run rfl (v := .pointer (some ⟨b', o' + i, none⟩)) (w' := w) (by go_simp) ⟨⟨EqV.self rfl, fun h => absurd h (by decide)⟩, ⟨hJ.1, fun h => hJ.2 h⟩, fun _ _ _ h => h⟩
                    · have e1 := hD.out 5 61 (by simp [hdep]) rfl
                      rw [(hV 5 (by simp [hdep])).1 _ rfl] at e1
                      refine step_run rfl (v := .int .i64 e) (w' := w) (by go_simp) ⟨⟨EqV.self rfl, fun h => absurd h (by decide)⟩, ⟨hJ.1, fun h => hJ.2 h⟩, fun _ _ _ h => h⟩
                    · have e1 := hD.out 6 62 (by simp [hdep]) rfl
                      rw [(hV 6 (by simp [hdep])).1 _ rfl] at e1
                      refine step_run rfl (v := .int .i64 (e / 256)) (w' := w) (by go_simp) ⟨⟨EqV.self rfl, fun h => absurd h (by decide)⟩, ⟨hJ.1, fun h => hJ.2 h⟩, fun _ _ _ h => h⟩
                    · have e1 := hD.out 7 63 (by simp [hdep]) rfl
                      rw [(hV 7 (by simp [hdep])).1 _ rfl] at e1
                      refine step_run rfl (v := .int .u8 (e / 256)) (w' := w) (by go_simp; rw [IntKind.wrap_u8]; omega) ⟨⟨EqV.self rfl, fun h => absurd h (by decide)⟩, ⟨hJ.1, fun h => hJ.2 h⟩, fun _ _ _ h => h⟩
                    · refine step_run rfl (v := .int .i64 (j : Int)) (w' := w) (by go_simp) ⟨⟨EqV.self rfl, fun h => absurd h (by decide)⟩, ⟨hJ.1, fun h => hJ.2 h⟩, fun _ _ _ h => h⟩
                    · have e1 := hD.out 9 65 (by simp [hdep]) rfl
                      rw [(hV 9 (by simp [hdep])).1 _ rfl] at e1
                      refine step_run rfl (v := .pointer (some ⟨bx, j, none⟩)) (w' := w) (by go_simp) ⟨⟨EqV.self rfl, fun h => absurd h (by decide)⟩, ⟨hJ.1, fun h => hJ.2 h⟩, fun _ _ _ h => h⟩
                    · have e1 := hD.out 10 66 (by simp [hdep]) rfl
                      rw [(hV 10 (by simp [hdep])).1 _ rfl] at e1
                      refine step_run rfl (v := .slice (some ⟨b', o', none⟩) n cq) (w' := w) (by go_simp) ⟨⟨EqV.self rfl, fun h => absurd h (by decide)⟩, ⟨hJ.1, fun h => hJ.2 h⟩, fun _ _ _ h => h⟩
                    · refine step_run rfl (v := .int .i64 (i : Int)) (w' := w) (by go_simp) ⟨⟨EqV.self rfl, fun h => absurd h (by decide)⟩, ⟨hJ.1, fun h => hJ.2 h⟩, fun _ _ _ h => h⟩
                    · have e1 := hD.out 11 67 (by simp [hdep]) rfl
                      rw [(hV 11 (by simp [hdep])).1 _ rfl] at e1
                      have e2 := hD.out 12 68 (by simp [hdep]) rfl
                      rw [(hV 12 (by simp [hdep])).1 _ rfl] at e2
                      refine step_run rfl (v := .pointer (some ⟨b', o' + i, none⟩)) (w' := w) (by go_simp) ⟨⟨EqV.self rfl, fun h => absurd h (by decide)⟩, ⟨hJ.1, fun h => hJ.2 h⟩, fun _ _ _ h => h⟩
                    · have e1 := hD.out 13 69 (by simp [hdep]) rfl
                      rw [(hV 13 (by simp [hdep])).1 _ rfl] at e1
                      refine step_run rfl (v := .int .i64 e) (w' := w) (by go_simp) ⟨⟨EqV.self rfl, fun h => absurd h (by decide)⟩, ⟨hJ.1, fun h => hJ.2 h⟩, fun _ _ _ h => h⟩
                    · have e1 := hD.out 14 70 (by simp [hdep]) rfl
                      rw [(hV 14 (by simp [hdep])).1 _ rfl] at e1
                      refine step_run rfl (v := .int .u8 (e % 256)) (w' := w) (by go_simp; rw [IntKind.wrap_u8]) ⟨⟨EqV.self rfl, fun h => absurd h (by decide)⟩, ⟨hJ.1, fun h => hJ.2 h⟩, fun _ _ _ h => h⟩
                    · have e1 := hD.out 8 64 (by simp [hdep]) rfl
                      rw [(hV 8 (by simp [hdep])).1 _ rfl] at e1
                      have e2 := hD.out 15 71 (by simp [hdep]) rfl
                      rw [(hV 15 (by simp [hdep])).1 _ rfl] at e2
                      have e1' := e1
                      rw [Array.getD_eq_getD_getElem?] at e1'
                      have e2' := e2
                      rw [Array.getD_eq_getD_getElem?] at e2'
                      have n17 : L 17 = false := by
                        cases h : L 17 with
                        | false => rfl
                        | true => have h2 := hC.path [17, 16] (by kernel_rfl) 17 rfl h 16 rfl; rw [hL] at h2; cases h2
                      have n18 : L 18 = false := by
                        cases h : L 18 with
                        | false => rfl
                        | true => have h2 := hC.path [18, 17] (by kernel_rfl) 18 rfl h 17 rfl; rw [n17] at h2; cases h2
                      refine step_run rfl (v := .slice (some ⟨w.heap.size, 0, none⟩) 2 2) (w' := w.alloc (.cells #[.int .u8 (e / 256), .int .u8 (e % 256)] 5)) (by go_simp) ⟨⟨EqV.no rfl, fun _ => ?_⟩, ⟨hJ.1.alloc hsw _, fun h => Own.alloc (hJ.2 n17) _⟩, fun k u hk hVk => ⟨hVk.1, fun h16 => ?_⟩⟩
                      · exact Or.inl ⟨rfl, w.heap.size, rfl, hJ.1.size, by simp, by rw [World.cell?_alloc_new]; rfl, by rw [World.cell?_alloc_new]; rfl⟩
                      · exfalso
                        rcases hVk.2 h16 with ⟨rfl, _⟩ | ⟨rfl | rfl, _⟩
                        · rw [hL] at hk; cases hk
                        · rw [n17] at hk; cases hk
                        · rw [n18] at hk; cases hk
                    · have e1 := hD.out 0 56 (by simp [hdep]) rfl
                      rw [(hV 0 (by simp [hdep])).1 _ rfl] at e1
                      have e2 := hD.out 16 72 (by simp [hdep]) rfl
                      have n18 : L 18 = false := by
                        cases h : L 18 with
                        | false => rfl
                        | true => have h2 := hC.path [18, 17] (by kernel_rfl) 18 rfl h 17 rfl; rw [hL] at h2; cases h2
                      rcases (hV 16 (by simp [hdep])).2 (by decide) with ⟨_, G, f1, f2, f3, f4, f5⟩ | ⟨h, _⟩
                      · rw [f1] at e2
                        have hown := hJ.2 hL
                        intro K hK
                        refine step_own_row rfl _ _ 58 rfl 5 .u8 1 Tryz.underlying58 info_u8 (by decide) B u9 (numsB l) e1 hown (some ⟨G, 0, none⟩) 2 [e / 256, e % 256] e2 (Or.inr ⟨G, 0, rfl, f3, fun jj hjj => ?_⟩) (fun h => by cases h) (by rw [numsB_length]; simp; omega) hsw fun v' w' hown' hgr _ => hK v' w' ⟨⟨EqV.no rfl, fun _ => Or.inr ⟨Or.inl rfl, ?_⟩⟩, ⟨hJ.1.grown hgr hsw (fun g hg => (World.ownsRow.lt hown g hg).1), fun h => by simp [updL] at h⟩, fun k u hk hVk => ⟨hVk.1, fun h16 => ?_⟩⟩
                        · rcases (show jj = 0 ∨ jj = 1 by simp at hjj; omega) with rfl | rfl
                          · rw [Nat.zero_add]; exact f4
                          · rw [Nat.zero_add]; exact f5
                        · unfold OwnB
                          rw [HTW.out]
                          exact hown'
                        · rcases hVk.2 h16 with ⟨rfl, G', g1, g2, g3, g4, g5⟩ | ⟨rfl | rfl, _⟩
                          · have hne : some G' ≠ u9.ownBlock := fun hc => by
                              have := (World.ownsRow.lt hOWr.out G' hc.symm).2
                              omega
                            exact Or.inl ⟨rfl, G', g1, g2, Nat.lt_of_lt_of_le g3 hgr.size, by rw [hgr.cell_far _ g3 hne]; exact g4, by rw [hgr.cell_far _ g3 hne]; exact g5⟩
                          · rw [hL] at hk; cases hk
                          · rw [n18] at hk; cases hk
                      · exact absurd h (by decide)
                    · have e1 := hD.out 17 73 (by simp [hdep]) rfl
                      rcases (hV 17 (by simp [hdep])).2 (by decide) with ⟨h, _⟩ | ⟨_, f1⟩
                      · exact absurd h (by decide)
                      · refine step_run rfl (v := vals 17) (w' := w) (by go_simp) ⟨⟨EqV.no rfl, fun _ => Or.inr ⟨Or.inr rfl, f1⟩⟩, ⟨hJ.1, fun h => hJ.2 h⟩, fun _ _ _ h => h⟩
                  · intro vals w5 hJ hV
                    have e0 := (hV 0 (by decide)).1 _ rfl
                    have e1 := (hV 1 (by decide)).1 _ rfl
                    have e2 := (hV 2 (by decide)).1 _ rfl
                    have e3 := (hV 3 (by decide)).1 _ rfl
                    have e4 := (hV 4 (by decide)).1 _ rfl
                    have e5 := (hV 5 (by decide)).1 _ rfl
                    have e6 := (hV 6 (by decide)).1 _ rfl
                    have e7 := (hV 7 (by decide)).1 _ rfl
                    have e8 := (hV 8 (by decide)).1 _ rfl
                    have e9 := (hV 9 (by decide)).1 _ rfl
                    have e10 := (hV 10 (by decide)).1 _ rfl
                    have e11 := (hV 11 (by decide)).1 _ rfl
                    have e12 := (hV 12 (by decide)).1 _ rfl
                    have e13 := (hV 13 (by decide)).1 _ rfl
                    have e14 := (hV 14 (by decide)).1 _ rfl
                    have e15 := (hV 15 (by decide)).1 _ rfl
                    rcases (hV 18 (by decide)).2 (by decide) with ⟨h, _⟩ | ⟨_, hown5⟩
                    · exact absurd h (by decide)
                    simp only [putsL, Act.put, List.setIfInBounds_toArray, List.set_cons_zero, List.set_cons_succ, e0, e1, e2, e3, e4, e5, e6, e7, e8, e9, e10, e11, e12, e13, e14, e15]
                    clear e0 e1 e2 e3 e4 e5 e6 e7 e8 e9 e10 e11 e12 e13 e14 e15
                    have HJ5 := Lib.hid hJ.1
                    have HO5 := Lib.hid hown5
                    obtain ⟨v16, hv16⟩ : ∃ v, vals 16 = v := ⟨_, rfl⟩
                    obtain ⟨v17, hv17⟩ : ∃ v, vals 17 = v := ⟨_, rfl⟩
                    obtain ⟨v18, hv18⟩ : ∃ v, vals 18 = v := ⟨_, rfl⟩
                    rw [hv18] at HO5
                    rw [hv16, hv17, hv18]
                    clear hJ hV hown5 hv16 hv17 hv18
                    go_wp2_with fail
                    go_roundg (n - (i + 1))
                    case measure => omega
                    case rel => exact Lib.hid ⟨i + 1, by go_num, by have := HN.out; omega, by have := HN.out; omega, HBI.out.trans HJ5.out, by rw [HTI.out]; exact HO5.out⟩
                · obtain rfl : i = n := by omega
                  have hiz : ¬ (i : Int) < (i : Int) := by omega
                  go_wp2_with fail
                  go_roundg (4 - (j + 1))
                  case measure => omega
                  case rel => exact Lib.hid ⟨j + 1, by go_num, by omega, by omega, HBI.out, by
                    have hh := HOI.out
                    rw [← HN.out, List.take_length] at hh
                    rw [HK.out]; exact hh⟩
          · obtain rfl : j = 4 := by omega
            have hHO := HOO.out
            rw [List.take_of_length_le (by omega)] at hHO
            have HKL := Lib.hid (show keyB L = keyOf T rs by unfold keyOf; rw [HXS.out, HLL.out])
            have HB6 := Lib.hid (HB5.out.trans (HBO.out.mono (by have := HBW.out; have := HBX.out; have := HB4.out.size; omega)))
            obtain ⟨key, hkey⟩ : ∃ key, keyB L = key := ⟨_, rfl⟩
            rw [hkey] at hHO HKL
            obtain ⟨p6, c6, rfl, _, hr6⟩ := Own.row hHO
            rw [numsB_length]
            have hrun := Sc.run_string wr key p6 c6 hr6
            have HRD := Lib.hid (show RdIs s rs 0 from Or.inr (Or.inr ⟨H64.out, HV.out, HSE.out, rfl⟩))
            clear hHO hr6 hkey
            by_cases hk : 640 < key.length
            · have hkz : (640 : Int) < (key.length : Int) := by omega
              go_wp2_with fail
              go_ret2
              exact ⟨[], 3, rfl, HB6.out, rs, 0, HRD.out, Or.inr ⟨by rw [HER.out]; rfl, Or.inl ⟨by rw [← HKL.out]; exact hk, rfl, rfl⟩⟩⟩
            · have hkz : decide ((640 : Int) < (key.length : Int)) = false := decide_eq_false (by omega)
              have hkn : decide (640 < key.length) = false := decide_eq_false hk
              have HK := Lib.hid (show key.length ≤ 640 by omega)
              clear hk
              go_wp2_with fail
              go_ret2
              exact ⟨key, 0, rfl, HB6.out, rs, 0, HRD.out, Or.inr ⟨by rw [HER.out]; rfl, Or.inr ⟨by rw [← HKL.out]; exact HK.out, rfl, HKL.out⟩⟩⟩
      · have HTX := Lib.hid ht
        clear ht
        go_wp2_with fail
        refine CR.out.mono ?_
        rintro e w2 ⟨_, h2, hb2⟩
        obtain rfl := h2 HTX.out
        have HB2 := Lib.hid (HB1.out.trans (hb2.mono HB1.out.size))
        clear hb2 CR
        go_wp2_with fail
        go_ret2
        exact ⟨[], 2, rfl, HB2.out, [], 2, Or.inr (Or.inl ⟨H64.out, HTX.out, rfl, rfl⟩), Or.inl ⟨by rw [hE0.out]; decide, by rw [hE0.out]; rfl, rfl⟩⟩
end Go.Proofs.YticjgmhgpeihjaaGreatDoor
namespace Go.Proofs.YticjgmhgpeihjaaGreatDoor
open Go.RowKit Go.Gz Go.Sort

def akO (w : World) : Array Obj := #[.cells #[.int .i32 97] 21, .cells #[.int .i64 258, .int .i64 3, .int .i64 4] 44, .cells #[.slice (some ⟨w.heap.size, 0, none⟩) 1 1, .slice (some ⟨w.heap.size + 1, 0, none⟩) 1 1] 47, .cells #[.slice none 0 0, .slice (some ⟨w.heap.size + 1 + 1, 0, none⟩) 1 1, .int .i64 0, .bool false] 25]
def akW (w : World) : World := grow w (akO w)
theorem akW_eq (w : World) : ((((w.alloc (.cells #[.int .i32 97] 21)).alloc (.cells #[.int .i64 258, .int .i64 3, .int .i64 4] 44)).alloc (.cells #[.slice (some ⟨w.heap.size, 0, none⟩) 1 1, .slice (some ⟨w.heap.size + 1, 0, none⟩) 1 1] 47)).alloc (.cells #[.slice none 0 0, .slice (some ⟨w.heap.size + 1 + 1, 0, none⟩) 1 1, .int .i64 0, .bool false] 25)) = akW w := by
  simp only [alloc_eq_grow, grow_grow]
  rfl
theorem akW_at (w : World) (k : Nat) : (akW w).heap[w.heap.size + k]? = (akO w)[k]? := by
  unfold akW grow
  rw [Array.getElem?_append_right (by omega), Nat.add_sub_cancel_left]
def akR (h : Nat) : WR := ⟨some ⟨h, 0, none⟩, [97], 1, some ⟨h + 1, 0, none⟩, [⟨258, 3, 4⟩], 1⟩
def akT (h : Nat) : TB := ⟨none, [], 0, some ⟨h + 1 + 1, 0, none⟩, [akR h], 1, 0, false⟩
theorem akT_may (h : Nat) : mayWB (akT h).ls (akT h).rs (akT h).top = true := by kernel_rfl
theorem akT_key (h : Nat) : keyOf (akT h) [97] = [1, 2, 0, 0, 0, 3, 0, 0, 0, 4, 0, 0] := by kernel_rfl
theorem akT_none (h : Nat) : keyOf (akT h) [] = [0, 0, 0, 0, 0, 0] := by kernel_rfl
theorem akT_at (w : World) : TabIn (akW w) (akT w.heap.size) := by
  refine ⟨Or.inl rfl, wrs_lit _ _ 47 (0, 0) _ (by rw [Nat.add_assoc, akW_at]; rfl) fun x hx => ?_, by simp [akT], by simp [akT], by simp [akT], fun x hx => ?_⟩
  · obtain rfl : x = akR w.heap.size := by simpa [akT] using hx
    exact ⟨⟨row_heap _ _ _ 21 (0, 0) _ (by have := akW_at w 0; rw [Nat.add_zero] at this; rw [this]; rfl), Nat.le_refl 1, fun h => by cases h⟩, ⟨els_lit _ _ 44 (0, 0) _ (by rw [akW_at]; rfl), Nat.le_refl 1, fun h => by cases h⟩⟩
  · obtain rfl : x = akR w.heap.size := by simpa [akT] using hx
    exact ⟨by simp [akR], by simp [akR]⟩
theorem v97 : ∀ r ∈ [(97 : Int)], V r := by
  intro r hr
  rw [List.mem_singleton.1 hr]; unfold V; omega
theorem enc97 : (⟨#[97]⟩ : ByteArray).data.toList = encAll [97] := by
  rw [encAll_cons, enc_one (by omega) (by omega)]; rfl
theorem ak_key {h : Nat} {k : List UInt8} {er : Int} (hm : MakeIs (akT h) ⟨#[97]⟩ k er) : k = [1, 2, 0, 0, 0, 3, 0, 0, 0, 4, 0, 0] ∧ er = 0 := by
  rcases makeIs_ok hm v97 enc97 (by decide) (akT_may h) with ⟨h1, _⟩ | ⟨_, h2, h3⟩
  · rw [akT_key] at h1; simp at h1
  · exact ⟨by rw [h3, akT_key], h2⟩
theorem ak_none {h : Nat} {k : List UInt8} {er : Int} (hm : MakeIs (akT h) ⟨#[]⟩ k er) : k = [0, 0, 0, 0, 0, 0] ∧ er = 0 := by
  rcases makeIs_ok hm (rs := []) (fun r hr => by simp at hr) rfl (by decide) (akT_may h) with ⟨h1, _⟩ | ⟨_, h2, h3⟩
  · rw [akT_none] at h1; simp at h1
  · exact ⟨by rw [h3, akT_none], h2⟩
theorem build_rowK (p q : Option Addr) (n k m l : Nat) (w : World) : (Instr.build 47 #[(0, .slice p n k), (1, .slice q m l)]).run Tryz.prog w = .ok (.agg #[.slice p n k, .slice q m l]) w := by kernel_rfl

set_option maxHeartbeats 4000000 in
set_option maxRecDepth 100000 in
theorem awake_yes (W : World) (hU : Lib.Utf8Tabs 1 2 W) : Calls Tryz.prog 5 #[] W fun e w' => e = .returned (.bool true) ∧ Below W.heap.size W w' := by
  have b1 := fun w : World => build_row (some ⟨W.heap.size, 0, none⟩) (some ⟨W.heap.size + 1, 0, none⟩) 1 1 1 1 w
  have b2 := fun w : World => build_tab1 (some ⟨W.heap.size + 1 + 1, 0, none⟩) 1 1 w
  have b3 := fun w : World => build_el3 258 3 4 w
  go_enter Tryz.func5, Tryz.ntmps5
  go_wp2_with fail
  rw [akW_eq]
  have HT := Lib.hid (akT_at W)
  have hbw := Lib.hid (show Below W.heap.size W (akW W) from grow_below W 0 _)
  have hsw : (akW W).heap.size = W.heap.size + 4 := by unfold akW; rw [size_grow]; rfl
  have HX0 := Lib.hid (show BoxAt (akW W) (W.heap.size + 1 + 1 + 1) (akT W.heap.size) from by
    have e : (akW W).heap[W.heap.size + 1 + 1 + 1]? = (akO W)[3]? := by
      have := akW_at W 3
      rwa [show W.heap.size + 3 = W.heap.size + 1 + 1 + 1 by omega] at this
    refine ⟨by omega, ?_, ?_, ?_, ?_⟩ <;> (unfold World.cell?; rw [e]; rfl))
  have CM := Lib.hid (fun s w (hb : Below (akW W).heap.size (akW W) w) hs => make_any (akT W.heap.size) s w (HT.out.below hb) (by simp [akT]) (by simp [akT]) (Sc.tabs_below hU (hbw.out.trans (hb.mono (by omega)))) hs)
  have CC := Lib.hid (fun a b w (hb : Below (akW W).heap.size (akW W) w) ha hb' => skcompare_any (akT W.heap.size) a b w (HT.out.below hb) (by simp [akT]) (by simp [akT]) (Sc.tabs_below hU (hbw.out.trans (hb.mono (by omega)))) ha hb')
  clear b1 b2 b3 hU
  generalize akW W = w0 at *
  obtain ⟨_, t0, t1, t2, t3⟩ := HX0.out
  refine (CM.out ⟨#[97]⟩ w0 (Below.refl _ _) (by decide)).mono ?_
  rintro e w1 ⟨k1, e1, rfl, hb1, hm1⟩
  obtain ⟨rfl, rfl⟩ := ak_key hm1
  have HX1 := Lib.hid (HX0.out.below hb1)
  have HB1 := Lib.hid hb1
  clear hb1 hm1 t0 t1 t2 t3
  obtain ⟨_, t0, t1, t2, t3⟩ := HX1.out
  go_wp2_with fail
  refine (CM.out ⟨#[]⟩ w1 HB1.out (by decide)).mono ?_
  rintro e w2 ⟨k2, e2, rfl, hb2, hm2⟩
  obtain ⟨rfl, rfl⟩ := ak_none hm2
  have HX2 := Lib.hid (HX1.out.below hb2)
  have HB2 := Lib.hid (HB1.out.trans (hb2.mono HB1.out.size))
  clear hb2 hm2 t0 t1 t2 t3
  obtain ⟨_, t0, t1, t2, t3⟩ := HX2.out
  go_wp2_with fail
  refine (CC.out ⟨#[]⟩ ⟨#[97]⟩ w2 HB2.out (by decide) (by decide)).mono ?_
  rintro e w3 ⟨ka, ea, kb, eb, er, cv, hma, hmb, her, _, hcv, rfl, hb3⟩
  obtain ⟨rfl, rfl⟩ := ak_none hma
  obtain ⟨rfl, rfl⟩ := ak_key hmb
  obtain rfl : er = 0 := by rw [her]; rfl
  obtain rfl : cv = -1 := by rw [hcv rfl]; rfl
  have HB3 := Lib.hid (HB2.out.trans (hb3.mono HB2.out.size))
  clear hb3 hma hmb her hcv t0 t1 t2 t3
  go_wp2_with fail
  go_ret
  exact ⟨rfl, hbw.out.trans (HB3.out.mono (by omega))⟩
end Go.Proofs.YticjgmhgpeihjaaGreatDoor
namespace Go.Proofs.YticjgmhgpeihjaaGreatDoor
open Go.RowKit Go.Gz Go.Sort

set_option maxHeartbeats 4000000 in
set_option maxRecDepth 100000 in
theorem makes_walk (T : TB) (s : ByteArray) (W : World) (hU : Lib.Utf8Tabs 1 2 W) (hT : TabIn W T) (hs : s.size ≤ 9223372036854775807) :
    Calls Tryz.prog 3 #[.agg #[.slice T.lp T.ls.length T.lc, .slice T.rp T.rs.length T.rc, .int .i64 T.top, .bool T.sh], .string s] W fun e w' => e = .returned (.bool true) ∧ Below W.heap.size W w' := by
  have HT := Lib.hid hT; clear hT
  have HU := Lib.hid hU; clear hU
  have HSZ := Lib.hid hs
  go_enter Tryz.func3, Tryz.ntmps3
  go_wp2_with fail
  obtain ⟨w0, hw0⟩ : ∃ w0, W.alloc (.cells #[.slice T.lp T.ls.length T.lc, .slice T.rp T.rs.length T.rc, .int .i64 T.top, .bool T.sh] 25) = w0 := ⟨_, rfl⟩
  rw [hw0]
  have HB0 := Lib.hid (show Below W.heap.size W w0 from hw0 ▸ (Below.refl _ _).alloc (Nat.le_refl _) _)
  have HX0 := Lib.hid (show BoxAt w0 W.heap.size T from hw0 ▸ BoxAt.new W T _)
  clear hw0
  refine (awake_yes w0 (Sc.tabs_below HU.out HB0.out)).mono ?_
  rintro e w1 ⟨rfl, hb1⟩
  have HX1 := Lib.hid (HX0.out.below hb1)
  have HB1 := Lib.hid (HB0.out.trans (hb1.mono HB0.out.size))
  clear hb1
  obtain ⟨_, t0, t1, t2, t3⟩ := HX1.out
  have CF := Lib.hid (few_any T.lp T.ls T.lc T.rp T.rs T.rc T.top T.sh [] none 0 w1 (HT.out.lore.below HB1.out) (HT.out.rows.below HB1.out) HT.out.bl HT.out.br HT.out.bx HT.out.by_ (by simp))
  go_wp2_with fail
  refine CF.out.mono ?_
  rintro e w2 ⟨bf, rfl, hbf, hb2⟩
  have HX2 := Lib.hid (HX1.out.below hb2)
  have HB2 := Lib.hid (HB1.out.trans (hb2.mono HB1.out.size))
  clear hb2 CF t0 t1 t2 t3
  cases bf with
  | false =>
    clear hbf
    go_wp2_with fail
    go_ret
    exact ⟨rfl, HB2.out⟩
  | true =>
    obtain ⟨hl1, hl2, _⟩ := hbf rfl
    clear hbf
    have HL := Lib.hid (And.intro hl1 hl2)
    clear hl1 hl2
    by_cases h3 : 300 < s.size
    · have h3z : (300 : Int) < (s.size : Int) := by omega
      go_wp2_with fail
      go_ret
      exact ⟨rfl, HB2.out⟩
    · have h3z : decide ((300 : Int) < (s.size : Int)) = false := decide_eq_false (by omega)
      have h3n : decide (300 < s.size) = false := decide_eq_false h3
      obtain ⟨_, t0, t1, t2, t3⟩ := HX2.out
      have C1 := Lib.hid (make_any T s w2 (HT.out.below HB2.out) HL.out.1 HL.out.2 (Sc.tabs_below HU.out HB2.out) HSZ.out)
      have C2 := Lib.hid (fun w (hb : Below W.heap.size W w) => refMake_any T s w (HT.out.below hb) HL.out.1 HL.out.2 HSZ.out)
      go_wp2_with fail
      refine C1.out.mono ?_
      rintro e w3 ⟨k, er, rfl, hb3, hk⟩
      have HX3 := Lib.hid (HX2.out.below hb3)
      have HB3 := Lib.hid (HB2.out.trans (hb3.mono HB2.out.size))
      have HK := Lib.hid hk
      clear hb3 hk C1 t0 t1 t2 t3
      obtain ⟨_, t0, t1, t2, t3⟩ := HX3.out
      go_wp2_with fail
      refine (C2.out w3 HB3.out).mono ?_
      rintro e w4 ⟨k', er', rfl, hb4, hk'⟩
      obtain ⟨rfl, rfl⟩ := makeIs_one HK.out hk'
      have HB4 := Lib.hid (HB3.out.trans (hb4.mono HB3.out.size))
      clear hb4 hk' C2 t0 t1 t2 t3
      have heq : ((er : Int) == er) = true := by simp
      go_wp2_with fail
      go_ret
      exact ⟨rfl, HB4.out⟩
end Go.Proofs.YticjgmhgpeihjaaGreatDoor
namespace Go.Proofs.YticjgmhgpeihjaaGreatDoor
open Go.RowKit Go.Gz Go.Sort

theorem cmp_swap_fit (x y : List UInt8) : IntKind.i64.wrap (- Lib.compareBytes y x) = Lib.compareBytes x y := by
  rw [cb_swap x y, Int.neg_neg]
  have h : ∀ x y : List UInt8, -1 ≤ Lib.compareBytes x y ∧ Lib.compareBytes x y ≤ 1 := by
    intro x
    induction x with
    | nil => intro y; cases y <;> simp [Lib.compareBytes]
    | cons a x ih =>
      intro y
      cases y with
      | nil => simp [Lib.compareBytes]
      | cons b y =>
        rw [cb_cons]
        have := ih y
        split
        · omega
        · split
          · omega
          · exact this
  have := h x y
  rw [IntKind.wrap_i64]
  omega

set_option maxHeartbeats 8000000 in
set_option maxRecDepth 100000 in
theorem orders_walk (T : TB) (a b : ByteArray) (W : World) (hU : Lib.Utf8Tabs 1 2 W) (hT : TabIn W T) (ha : a.size ≤ 9223372036854775807) (hb : b.size ≤ 9223372036854775807) :
    Calls Tryz.prog 4 #[.agg #[.slice T.lp T.ls.length T.lc, .slice T.rp T.rs.length T.rc, .int .i64 T.top, .bool T.sh], .string a, .string b] W fun e w' => e = .returned (.bool true) ∧ Below W.heap.size W w' := by
  have HT := Lib.hid hT; clear hT
  have HU := Lib.hid hU; clear hU
  have HSA := Lib.hid ha
  have HSB := Lib.hid hb
  clear ha hb
  go_enter Tryz.func4, Tryz.ntmps4
  go_wp2_with fail
  obtain ⟨w0, hw0⟩ : ∃ w0, W.alloc (.cells #[.slice T.lp T.ls.length T.lc, .slice T.rp T.rs.length T.rc, .int .i64 T.top, .bool T.sh] 25) = w0 := ⟨_, rfl⟩
  rw [hw0]
  have HB0 := Lib.hid (show Below W.heap.size W w0 from hw0 ▸ (Below.refl _ _).alloc (Nat.le_refl _) _)
  have HX0 := Lib.hid (show BoxAt w0 W.heap.size T from hw0 ▸ BoxAt.new W T _)
  clear hw0
  refine (awake_yes w0 (Sc.tabs_below HU.out HB0.out)).mono ?_
  rintro e w1 ⟨rfl, hb1⟩
  have HX1 := Lib.hid (HX0.out.below hb1)
  have HB1 := Lib.hid (HB0.out.trans (hb1.mono HB0.out.size))
  clear hb1
  obtain ⟨_, t0, t1, t2, t3⟩ := HX1.out
  have CF := Lib.hid (few_any T.lp T.ls T.lc T.rp T.rs T.rc T.top T.sh [] none 0 w1 (HT.out.lore.below HB1.out) (HT.out.rows.below HB1.out) HT.out.bl HT.out.br HT.out.bx HT.out.by_ (by simp))
  go_wp2_with fail
  refine CF.out.mono ?_
  rintro e w2 ⟨bf, rfl, hbf, hb2⟩
  have HX2 := Lib.hid (HX1.out.below hb2)
  have HB2 := Lib.hid (HB1.out.trans (hb2.mono HB1.out.size))
  clear hb2 CF t0 t1 t2 t3
  cases bf with
  | false =>
    clear hbf
    go_wp2_with fail
    go_ret
    exact ⟨rfl, HB2.out⟩
  | true =>
    obtain ⟨hl1, hl2, _⟩ := hbf rfl
    clear hbf
    have HL := Lib.hid (And.intro hl1 hl2)
    clear hl1 hl2
    by_cases h3 : 100 < a.size
    · have h3z : (100 : Int) < (a.size : Int) := by omega
      go_wp2_with fail
      go_ret
      exact ⟨rfl, HB2.out⟩
    · have h3z : decide ((100 : Int) < (a.size : Int)) = false := decide_eq_false (by omega)
      have h3n : decide (100 < a.size) = false := decide_eq_false h3
      by_cases h4 : 100 < b.size
      · have h4z : (100 : Int) < (b.size : Int) := by omega
        go_wp2_with fail
        go_ret
        exact ⟨rfl, HB2.out⟩
      · have h4z : decide ((100 : Int) < (b.size : Int)) = false := decide_eq_false (by omega)
        have h4n : decide (100 < b.size) = false := decide_eq_false h4
        obtain ⟨_, t0, t1, t2, t3⟩ := HX2.out
        have CC := Lib.hid (fun x y w (hb : Below W.heap.size W w) (hx : x.size ≤ 9223372036854775807) (hy : y.size ≤ 9223372036854775807) => skcompare_any T x y w (HT.out.below hb) HL.out.1 HL.out.2 (Sc.tabs_below HU.out hb) hx hy)
        have CM := Lib.hid (fun x w (hb : Below W.heap.size W w) (hx : x.size ≤ 9223372036854775807) => refMake_any T x w (HT.out.below hb) HL.out.1 HL.out.2 hx)
        go_wp2_with fail
        refine (CC.out a b w2 HB2.out HSA.out HSB.out).mono ?_
        rintro e w3 ⟨ka, ea, kb, eb, er, c, hma, hmb, her, hc0, hc1, rfl, hb3⟩
        have HX3 := Lib.hid (HX2.out.below hb3)
        have HB3 := Lib.hid (HB2.out.trans (hb3.mono HB2.out.size))
        have HMA := Lib.hid hma
        have HMB := Lib.hid hmb
        have HER := Lib.hid her
        have HC0 := Lib.hid hc0
        have HC1 := Lib.hid hc1
        clear hb3 hma hmb her hc0 hc1 t0 t1 t2 t3
        obtain ⟨_, t0, t1, t2, t3⟩ := HX3.out
        go_wp2_with fail
        refine (CC.out b a w3 HB3.out HSB.out HSA.out).mono ?_
        rintro e w4 ⟨kb', eb', ka', ea', er2, c2, hmb, hma, her, _, hc1, rfl, hb4⟩
        obtain ⟨rfl, rfl⟩ := makeIs_one HMA.out hma
        obtain ⟨rfl, rfl⟩ := makeIs_one HMB.out hmb
        have HX4 := Lib.hid (HX3.out.below hb4)
        have HB4 := Lib.hid (HB3.out.trans (hb4.mono HB3.out.size))
        have HER2 := Lib.hid her
        have HC2 := Lib.hid hc1
        clear hb4 hma hmb her hc1 t0 t1 t2 t3
        obtain ⟨_, t0, t1, t2, t3⟩ := HX4.out
        go_wp2_with fail
        refine (CM.out a w4 HB4.out HSA.out).mono ?_
        rintro e w5 ⟨ka', ea', rfl, hb5, hma⟩
        obtain ⟨rfl, rfl⟩ := makeIs_one HMA.out hma
        have HX5 := Lib.hid (HX4.out.below hb5)
        have HB5 := Lib.hid (HB4.out.trans (hb5.mono HB4.out.size))
        clear hb5 hma t0 t1 t2 t3
        obtain ⟨_, t0, t1, t2, t3⟩ := HX5.out
        go_wp2_with fail
        refine (CM.out b w5 HB5.out HSB.out).mono ?_
        rintro e w6 ⟨kb', eb', rfl, hb6, hmb⟩
        obtain ⟨rfl, rfl⟩ := makeIs_one HMB.out hmb
        have HX6 := Lib.hid (HX5.out.below hb6)
        have HB6 := Lib.hid (HB5.out.trans (hb6.mono HB5.out.size))
        clear hb6 hmb t0 t1 t2 t3 CM
        by_cases hea : ea = 0
        · by_cases heb : eb = 0
          · subst hea
            subst heb
            obtain rfl : er = 0 := HER.out
            obtain rfl : er2 = 0 := HER2.out
            obtain rfl := HC1.out rfl
            obtain rfl := HC2.out rfl
            have HCS := Lib.hid (cmp_swap_fit ka kb)
            obtain ⟨rs, h64, hv, hse, hm, hkl, hke⟩ := makeIs_zero HMA.out
            have hrl : rs.length ≤ 64 := by
              have h4 := Sc.rs_le rs
              rw [← hse] at h4
              simp at h4
              omega
            have HRD := Lib.hid (show RdIs a rs 0 from Or.inr (Or.inr ⟨h64, hv, hse, rfl⟩))
            have HV := Lib.hid hv
            have HSE := Lib.hid hse
            have HRL := Lib.hid hrl
            have HML := Lib.hid (mayW_lore hm)
            have HNV := Lib.hid (normal_v HML.out HV.out)
            have hnl : (normalL T.ls rs).length ≤ 192 := by
              rw [normal_length]
              have := apart_le (le3_of (may_wrong HML.out)) rs
              omega
            have HNL := Lib.hid hnl
            clear hv hse hrl h64 hm hkl hke hnl
            obtain ⟨_, t0, t1, t2, t3⟩ := HX6.out
            go_wp2_with fail
            refine (CC.out a a w6 HB6.out HSA.out HSA.out).mono ?_
            rintro e w7 ⟨k1, e1, k2, e2, er3, c3, hm1, hm2, her, _, hc1, rfl, hb7⟩
            obtain ⟨rfl, rfl⟩ := makeIs_one HMA.out hm1
            obtain ⟨rfl, rfl⟩ := makeIs_one HMA.out hm2
            obtain rfl : er3 = 0 := her
            obtain rfl : c3 = 0 := (hc1 rfl).trans (cb_self _)
            have HX7 := Lib.hid (HX6.out.below hb7)
            have HB7 := Lib.hid (HB6.out.trans (hb7.mono HB6.out.size))
            clear hb7 hm1 hm2 hc1 t0 t1 t2 t3
            go_wp2_with fail
            refine (Sc.refRead_any a w7 (by omega)).mono ?_
            rintro e w8 ⟨h1, _, hb8⟩
            obtain ⟨p8, c8, rfl, _, _, hr8⟩ := h1 rs HV.out HSE.out
            have HX8 := Lib.hid (HX7.out.below hb8)
            have HB8 := Lib.hid (HB7.out.trans (hb8.mono HB7.out.size))
            have HR8 := Lib.hid (show Row w8 .i32 p8 rs from hr8)
            clear hb8 hr8 h1
            obtain ⟨_, t0, t1, t2, t3⟩ := HX8.out
            have CN := Lib.hid (refNormal_may T.ls HML.out T.lp T.lc rs p8 c8 w8 (HT.out.lore.below HB8.out) HR8.out (by have := HL.out.1; omega) HT.out.bx (by have := HRL.out; omega))
            go_wp2_with fail
            refine CN.out.mono ?_
            rintro e w9 ⟨hb9, ⟨hx, _⟩ | ⟨_, v9, rfl, ho9⟩⟩
            · exfalso
              have hn : rs.any mayNotB = false := List.any_eq_false.2 fun r hr => by rw [v_may (HV.out r hr)]; simp
              rw [hn] at hx
              cases hx
            have HX9 := Lib.hid (HX8.out.below hb9)
            have HB9 := Lib.hid (HB8.out.trans (hb9.mono HB8.out.size))
            obtain ⟨p9, c9, rfl, _, hr9⟩ := Own.row ho9
            have HR9 := Lib.hid hr9
            clear hb9 ho9 hr9 CN t0 t1 t2 t3
            obtain ⟨ns, hns⟩ : ∃ ns, normalL T.ls rs = ns := ⟨_, rfl⟩
            rw [hns] at HNV HNL HR9
            rw [hns]
            have HNS := Lib.hid hns
            clear hns
            have CW := Lib.hid (Sc.refWrite_any ns p9 c9 w9 HR9.out (by have := HNL.out; omega))
            go_wp2_with fail
            refine CW.out.mono ?_
            rintro e w10 ⟨h1, _, hb10⟩
            obtain rfl := h1 HNV.out
            have HX10 := Lib.hid (HX9.out.below hb10)
            have HB10 := Lib.hid (HB9.out.trans (hb10.mono HB9.out.size))
            clear hb10 h1 CW
            obtain ⟨sn, hsn⟩ : ∃ sn : ByteArray, (⟨(encAll ns).toArray⟩ : ByteArray) = sn := ⟨_, rfl⟩
            rw [hsn]
            have HSN := Lib.hid (show sn.data.toList = encAll (normalL T.ls rs) by rw [← hsn, HNS.out])
            have hsz : sn.size ≤ 9223372036854775807 := by
              have h4 := Sc.enc_le4 ns
              have h5 : sn.size = (encAll ns).length := by rw [← hsn]; simp [ByteArray.size]
              have := HNL.out
              omega
            have HSZ := Lib.hid hsz
            clear hsn hsz
            obtain ⟨_, t0, t1, t2, t3⟩ := HX10.out
            go_wp2_with fail
            refine (CC.out a sn w10 HB10.out HSA.out HSZ.out).mono ?_
            rintro e w11 ⟨k1, e1, ks, es, er4, c4, hm1, hms, her, hc0, hc1, rfl, hb11⟩
            obtain ⟨rfl, rfl⟩ := makeIs_one HMA.out hm1
            obtain rfl : er4 = es := her
            have HB11 := Lib.hid (HB10.out.trans (hb11.mono HB10.out.size))
            have HON := Lib.hid (order_normal HML.out HMA.out HRD.out HSN.out hms)
            clear hb11 hm1 hms t0 t1 t2 t3 CC
            have CR := Lib.hid (fun w => Sc.refCompare_any ⟨ka.toArray⟩ ⟨kb.toArray⟩ w)
            obtain ⟨cv, hcv⟩ : ∃ cv, Lib.compareBytes ka kb = cv := ⟨_, rfl⟩
            obtain ⟨cw, hcw⟩ : ∃ cw, Lib.compareBytes kb ka = cw := ⟨_, rfl⟩
            simp only [hcv] at CR
            rw [hcv, hcw] at HCS
            rw [hcv, hcw]
            have hcs := HCS.out
            have heq : ((cv : Int) == cv) = true := by simp
            clear hcv hcw
            rcases HON.out with ⟨hs64, he, hk⟩ | ⟨hs64, he⟩
            · have he' : er4 = 0 := he
              subst he'
              obtain rfl : c4 = 0 := (hc1 rfl).trans (by rw [hk]; exact cb_self _)
              clear hc0 hc1 hk
              go_wp2_with fail
              refine (CR.out _).mono ?_
              rintro e wz ⟨rfl, rfl⟩
              go_wp2_with fail
              go_ret
              exact ⟨rfl, HB11.out⟩
            · have hne : ((er4 : Int) != 0) = true := by simpa using he
              have hnq : ((er4 : Int) == 0) = false := by simpa using he
              have h64z : (64 : Int) < (sn.size : Int) := by omega
              clear hc0 hc1
              go_wp2_with fail
              refine (CR.out _).mono ?_
              rintro e wz ⟨rfl, rfl⟩
              go_wp2_with fail
              go_ret
              exact ⟨rfl, HB11.out⟩
          · subst hea
            obtain rfl : er = eb := HER.out
            obtain rfl : er2 = er := HER2.out.trans (if_neg heb)
            have hne : ((er2 : Int) != 0) = true := by simpa using heb
            have heq : ((er2 : Int) == er2) = true := by simp
            go_wp2_with fail
            go_ret
            exact ⟨rfl, HB6.out⟩
        · obtain rfl : er = ea := HER.out.trans (if_neg hea)
          obtain rfl : c = 0 := HC0.out hea
          have hne : ((er : Int) != 0) = true := by simpa using hea
          have heq : ((er : Int) == er) = true := by simp
          go_wp2_with fail
          go_ret
          exact ⟨rfl, HB6.out⟩
end Go.Proofs.YticjgmhgpeihjaaGreatDoor
