/-
  Layer once: See.
-/
import Derived.Test.YtjlkfoaccllflaaOnTab
namespace Go.Proofs.Ytjlkfoaccllflaa
open Go.RowKit Go.Gz Go.Maps

def seeB (L : List Ent) (c s : Int) : Int := if aboveB L c s then 0 else match findK ck c L with | none => 2 | some y => if y.s = s then 1 else 2
theorem seeB_above {L : List Ent} {c s : Int} (h : aboveB L c s = true) : seeB L c s = 0 := by unfold seeB; rw [if_pos h]
theorem seeB_none {L : List Ent} {c s : Int} (h : aboveB L c s = false) (hf : findK ck c L = none) : seeB L c s = 2 := by unfold seeB; rw [h, hf]; rfl
theorem seeB_some {L : List Ent} {c s : Int} {y : Ent} (h : aboveB L c s = false) (hf : findK ck c L = some y) : seeB L c s = if y.s = s then 1 else 2 := by unfold seeB; rw [h, hf]; rfl
def RetSee (w : World) (L : List Ent) (c s : Int) (e : Ending) (w' : World) : Prop :=
  Below w.heap.size w w' ∧ ∃ r p k, e = .returned (.tuple #[repV r p k, .int .i64 (seeB L c s)]) ∧ (seeB L c s = 1 → ∃ y, findK ck c L = some y ∧ r = y.r)
/-- a reply in a block is answered beside a number. -/
theorem ret_see {w _ w2 : World} {L : List Ent} {c s n : Int} {_ : Nat} {_ : TypeId} {r : RepL} {p : Option Addr} {k : Nat} {fn : Func} {a : Act}
    (hr : (results fn a.tmps).run Try.prog w2 = .ok (.tuple #[repV r p k, .int .i64 n]) w2) (hd : a.defers = []) (hn : seeB L c s = n) (hb : Below w.heap.size w w2) (h1 : seeB L c s = 1 → ∃ y, findK ck c L = some y ∧ r = y.r) :
    bodyPost Try.prog fn (RetSee w L c s) .ret a w2 := by
  subst hn
  exact bodyPost_ret hr hd ⟨hb, r, p, k, rfl, h1⟩

set_option maxHeartbeats 2000000 in
set_option maxRecDepth 100000 in
theorem see_any (w : World) (T : Nat) (mb : Option Nat) (L : List Ent) (h : TabAt w T mb L) (c s : Int) (hc : (Lit.int .i64 c).wf = true) :
    Calls Try.prog 15 #[.pointer (some ⟨T, 0, none⟩), .int .i64 c, .int .i64 s] w (RetSee w L c s) := by
  obtain ⟨W, hW⟩ : ∃ W, w.alloc (.cells #[.int .i64 0, .int .i64 0, .int .i64 0, .bool false, .string ⟨#[]⟩, .slice none 0 0, .string ⟨#[]⟩, .bool false] 33) = W := ⟨_, rfl⟩
  have hbw : Below w.heap.size w W := hW ▸ (Below.refl _ _).alloc (Nat.le_refl _) _
  have hz : W.heap.size = w.heap.size + 1 := by rw [← hW]; simp
  have hblk : W.heap[w.heap.size]? = some (.cells #[.int .i64 0, .int .i64 0, .int .i64 0, .bool false, .string ⟨#[]⟩, .slice none 0 0, .string ⟨#[]⟩, .bool false] 33 (0, 0)) := hW ▸ new_block _ _ _
  have hT := h.below hbw
  have CA := Lib.hid (above_any W T mb L hT c s hc)
  have HT := Lib.hid hT
  have HB := Lib.hid hbw
  have HZ := Lib.hid hz
  have HK := Lib.hid hblk
  clear h hT hbw hz hblk
  go_enter Try.func15, Try.ntmps15
  go_upto_region 1 with fail
  clear hW
  have ztext : (strB [] : ByteArray) = ⟨#[]⟩ := rfl
  cases hab : aboveB L c s with
  | true =>
    rw [hab] at CA
    have hsee := Lib.hid (seeB_above hab)
    clear hab
    go_wp2_with fail
    refine CA.out.mono ?_
    rintro e w1 ⟨rfl, hb1⟩
    have hk := (hb1.block w.heap.size (by have := HZ.out; omega)).trans HK.out
    have HB1 := Lib.hid (HB.out.trans (hb1.mono HB.out.size))
    have HK1 := Lib.hid hk
    have g0 := frozen_at hk 0
    have d0 := cell_at hk 0
    have g1 := frozen_at hk 1
    have d1 := cell_at hk 1
    have g2 := frozen_at hk 2
    have d2 := cell_at hk 2
    have g3 := frozen_at hk 3
    have d3 := cell_at hk 3
    have g4 := frozen_at hk 4
    have d4 := cell_at hk 4
    have g5 := frozen_at hk 5
    have d5 := cell_at hk 5
    have g6 := frozen_at hk 6
    have d6 := cell_at hk 6
    have g7 := frozen_at hk 7
    have d7 := cell_at hk 7
    clear hk hb1 CA
    go_wp2_with fail
    change bodyPost _ _ _ _ _ (sets w1 w.heap.size 0 [.int .i64 0, .int .i64 0, .int .i64 0, .bool false, .string ⟨#[]⟩, .slice none 0 0, .string ⟨#[]⟩, .bool false])
    have hkk := sets_kept w.heap.size [.int .i64 0, .int .i64 0, .int .i64 0, .bool false, .string ⟨#[]⟩, .slice none 0 0, .string ⟨#[]⟩, .bool false] 0 w1
    have hbb := sets_all [.int .i64 0, .int .i64 0, .int .i64 0, .bool false, .string ⟨#[]⟩, .slice none 0 0, .string ⟨#[]⟩, .bool false] HK1.out rfl
    generalize sets _ _ _ _ = w9 at hkk hbb ⊢
    have c0 := cell_at hbb 0
    have c1 := cell_at hbb 1
    have c2 := cell_at hbb 2
    have c3 := cell_at hbb 3
    have c4 := cell_at hbb 4
    have c5 := cell_at hbb 5
    have c6 := cell_at hbb 6
    have c7 := cell_at hbb 7
    refine bodyPost_ret (v := .tuple #[.agg #[.int .i64 0, .int .i64 0, .int .i64 0, .bool false, .string ⟨#[]⟩, .slice none 0 0, .string ⟨#[]⟩, .bool false], .int .i64 0]) (by simp [results, Try.results15, go_sem, c0, c1, c2, c3, c4, c5, c6, c7]) rfl ?_
    refine ⟨HB1.out.trans (hkk.below (B := w.heap.size) (fun k hk => by omega) HB1.out.size), default, none, 0, by rw [hsee.out]; rfl, fun h => absurd h (by rw [hsee.out]; decide)⟩
  | false =>
    rw [hab] at CA
    have HAB := Lib.hid hab
    go_wp2_with fail
    refine CA.out.mono ?_
    rintro e w1 ⟨rfl, hb1⟩
    have hk := (hb1.block w.heap.size (by have := HZ.out; omega)).trans HK.out
    have HB1 := Lib.hid (HB.out.trans (hb1.mono HB.out.size))
    have hT1 := HT.out.below hb1
    have HT1 := Lib.hid hT1
    have t0 := hT1.c0
    have hl := hT1.m.look_ok c hc
    have HKx := Lib.hid hk
    have hz1 : W.heap.size ≤ w1.heap.size := hb1.size
    have HZ1 := Lib.hid (show w.heap.size < w1.heap.size by have := HZ.out; omega)
    clear hab hb1 CA hT1 hk hz1
    unfold lookV at hl
    cases hf : findK ck c L with
    | none =>
      have hsee := Lib.hid (seeB_none HAB.out hf)
      rw [hf] at hl
      simp only [Option.isSome_none, Option.map_none, Option.getD_none, zeroLast] at hl
      clear hf
      obtain ⟨w2, hw2⟩ : ∃ w2, w1.alloc (.cells #[.int .i64 0, .int .i64 0, .int .i64 0, .int .i64 0, .bool false, .string ⟨#[]⟩, .slice none 0 0, .string ⟨#[]⟩, .bool false] 51) = w2 := ⟨_, rfl⟩
      have hb2 : Below w1.heap.size w1 w2 := hw2 ▸ (Below.refl _ _).alloc (Nat.le_refl _) _
      have hk := (hb2.block w.heap.size HZ1.out).trans HKx.out
      have HB2 := Lib.hid (HB1.out.trans (hb2.mono HB1.out.size))
      have HK2 := Lib.hid hk
      have HW2 := Lib.hid hw2
      clear hk hb2 hw2
      go_upto_region 4 with fail
      rw [HW2.out]
      have hk := HK2.out
      have g0 := frozen_at hk 0
      have d0 := cell_at hk 0
      have g1 := frozen_at hk 1
      have d1 := cell_at hk 1
      have g2 := frozen_at hk 2
      have d2 := cell_at hk 2
      have g3 := frozen_at hk 3
      have d3 := cell_at hk 3
      have g4 := frozen_at hk 4
      have d4 := cell_at hk 4
      have g5 := frozen_at hk 5
      have d5 := cell_at hk 5
      have g6 := frozen_at hk 6
      have d6 := cell_at hk 6
      have g7 := frozen_at hk 7
      have d7 := cell_at hk 7
      clear hk HW2
      go_wp2_with fail
      change bodyPost _ _ _ _ _ (sets w2 w.heap.size 0 [.int .i64 0, .int .i64 0, .int .i64 0, .bool false, .string ⟨#[]⟩, .slice none 0 0, .string ⟨#[]⟩, .bool false])
      have hkk := sets_kept w.heap.size [.int .i64 0, .int .i64 0, .int .i64 0, .bool false, .string ⟨#[]⟩, .slice none 0 0, .string ⟨#[]⟩, .bool false] 0 w2
      have hbb := sets_all [.int .i64 0, .int .i64 0, .int .i64 0, .bool false, .string ⟨#[]⟩, .slice none 0 0, .string ⟨#[]⟩, .bool false] HK2.out rfl
      generalize sets _ _ _ _ = w9 at hkk hbb ⊢
      have c0 := cell_at hbb 0
      have c1 := cell_at hbb 1
      have c2 := cell_at hbb 2
      have c3 := cell_at hbb 3
      have c4 := cell_at hbb 4
      have c5 := cell_at hbb 5
      have c6 := cell_at hbb 6
      have c7 := cell_at hbb 7
      refine bodyPost_ret (v := .tuple #[.agg #[.int .i64 0, .int .i64 0, .int .i64 0, .bool false, .string ⟨#[]⟩, .slice none 0 0, .string ⟨#[]⟩, .bool false], .int .i64 2]) (by simp [results, Try.results15, go_sem, c0, c1, c2, c3, c4, c5, c6, c7]) rfl ?_
      refine ⟨HB2.out.trans (hkk.below (B := w.heap.size) (fun k hk => by omega) HB2.out.size), default, none, 0, by rw [hsee.out]; rfl, fun h => absurd h (by rw [hsee.out]; decide)⟩
    | some y =>
      have hsee0 := seeB_some HAB.out hf
      have HF := Lib.hid (show ∃ z, findK ck c L = some z ∧ y.r = z.r from ⟨y, hf, rfl⟩)
      have hin := HT1.out.e y (findK_mem hf).1
      rw [hf] at hl
      simp only [Option.isSome_some, Option.map_some, Option.getD_some, Ent.val] at hl
      clear hf
      obtain ⟨ys, yr, yp, yk⟩ := y
      simp only at hl hsee0 HF hin
      obtain ⟨w2, hw2⟩ : ∃ w2, w1.alloc (.cells #[.int .i64 ys, .int .i64 yr.c, .int .i64 yr.s, .int .i64 yr.e, .bool yr.fd, .string (strB yr.v), .slice yp yr.ls.length yk, .string (strB yr.nx), .bool yr.mr] 51) = w2 := ⟨_, rfl⟩
      have hb2 : Below w1.heap.size w1 w2 := hw2 ▸ (Below.refl _ _).alloc (Nat.le_refl _) _
      have hy : w2.heap[w1.heap.size]? = some (.cells #[.int .i64 ys, .int .i64 yr.c, .int .i64 yr.s, .int .i64 yr.e, .bool yr.fd, .string (strB yr.v), .slice yp yr.ls.length yk, .string (strB yr.nx), .bool yr.mr] 51 (0, 0)) := hw2 ▸ new_block _ _ _
      have hk := (hb2.block w.heap.size HZ1.out).trans HKx.out
      have HB2 := Lib.hid (HB1.out.trans (hb2.mono HB1.out.size))
      have CO := Lib.hid (own_any yr (by have := hin.few; simp only at this; omega) yp yk w2 (hin.rs.below hb2) hin.pc)
      unfold repV at CO
      obtain ⟨yc, yrs, ye, yf, yv, yls, yn, ym⟩ := yr
      simp only at hl hw2 hy CO HF hsee0
      have HK2 := Lib.hid hk
      have HW2 := Lib.hid hw2
      have HY := Lib.hid hy
      have hlt2 : w.heap.size < w2.heap.size := by have := hb2.size; have := HZ1.out; omega
      have HLT := Lib.hid hlt2
      generalize hvx : strB yv = v at hl HW2 HY CO
      generalize hnx : strB yn = nx at hl HW2 HY CO
      have HV := Lib.hid hvx
      have HX := Lib.hid hnx
      obtain ⟨n, hn⟩ : ∃ n, yls.length = n := ⟨_, rfl⟩
      rw [hn] at hl HW2 HY CO
      have HN := Lib.hid hn
      clear hk hb2 hw2 hy hlt2 hin hn hvx hnx
      go_upto_region 4 with fail
      rw [HW2.out]
      have hy0 := cell_at HY.out 0
      have hy1 := cell_at HY.out 1
      have hy2 := cell_at HY.out 2
      have hy3 := cell_at HY.out 3
      have hy4 := cell_at HY.out 4
      have hy5 := cell_at HY.out 5
      have hy6 := cell_at HY.out 6
      have hy7 := cell_at HY.out 7
      have hy8 := cell_at HY.out 8
      by_cases he : ys = s
      · rw [if_pos he] at hsee0
        have hsee := Lib.hid hsee0
        clear hsee0 HW2
        go_wp2_with fail
        refine CO.out.mono ?_
        rintro e w3 ⟨p3, k3, rfl, hr3, hpk3, hb3, -⟩
        unfold repV
        simp only
        rw [HN.out, HV.out, HX.out]
        have hk := (hb3.block w.heap.size HLT.out).trans HK2.out
        have HB3 := Lib.hid (HB2.out.trans (hb3.mono HB2.out.size))
        have HK3 := Lib.hid hk
        have g0 := frozen_at hk 0
        have d0 := cell_at hk 0
        have g1 := frozen_at hk 1
        have d1 := cell_at hk 1
        have g2 := frozen_at hk 2
        have d2 := cell_at hk 2
        have g3 := frozen_at hk 3
        have d3 := cell_at hk 3
        have g4 := frozen_at hk 4
        have d4 := cell_at hk 4
        have g5 := frozen_at hk 5
        have d5 := cell_at hk 5
        have g6 := frozen_at hk 6
        have d6 := cell_at hk 6
        have g7 := frozen_at hk 7
        have d7 := cell_at hk 7
        clear hk hb3 CO hr3 hpk3
        go_wp2_with fail
        change bodyPost _ _ _ _ _ (sets w3 w.heap.size 0 [.int .i64 yc, .int .i64 yrs, .int .i64 ye, .bool yf, .string v, .slice p3 n k3, .string nx, .bool ym])
        have hkk := sets_kept w.heap.size [.int .i64 yc, .int .i64 yrs, .int .i64 ye, .bool yf, .string v, .slice p3 n k3, .string nx, .bool ym] 0 w3
        have hbb := sets_all [.int .i64 yc, .int .i64 yrs, .int .i64 ye, .bool yf, .string v, .slice p3 n k3, .string nx, .bool ym] HK3.out rfl
        generalize sets _ _ _ _ = w9 at hkk hbb ⊢
        have c0 := cell_at hbb 0
        have c1 := cell_at hbb 1
        have c2 := cell_at hbb 2
        have c3 := cell_at hbb 3
        have c4 := cell_at hbb 4
        have c5 := cell_at hbb 5
        have c6 := cell_at hbb 6
        have c7 := cell_at hbb 7
        refine bodyPost_ret (v := .tuple #[.agg #[.int .i64 yc, .int .i64 yrs, .int .i64 ye, .bool yf, .string v, .slice p3 n k3, .string nx, .bool ym], .int .i64 1]) (by simp [results, Try.results15, go_sem, c0, c1, c2, c3, c4, c5, c6, c7]) rfl ?_
        refine ⟨HB3.out.trans (hkk.below (B := w.heap.size) (fun k hk => by omega) HB3.out.size), ⟨yc, yrs, ye, yf, yv, yls, yn, ym⟩, p3, k3, by rw [hsee.out]; unfold repV; simp only; rw [HN.out, HV.out, HX.out], fun _ => HF.out⟩
      · rw [if_neg he] at hsee0
        have hsee := Lib.hid hsee0
        have hk := HK2.out
        have g0 := frozen_at hk 0
        have d0 := cell_at hk 0
        have g1 := frozen_at hk 1
        have d1 := cell_at hk 1
        have g2 := frozen_at hk 2
        have d2 := cell_at hk 2
        have g3 := frozen_at hk 3
        have d3 := cell_at hk 3
        have g4 := frozen_at hk 4
        have d4 := cell_at hk 4
        have g5 := frozen_at hk 5
        have d5 := cell_at hk 5
        have g6 := frozen_at hk 6
        have d6 := cell_at hk 6
        have g7 := frozen_at hk 7
        have d7 := cell_at hk 7
        clear hsee0 HW2 hk
        go_wp2_with fail
        change bodyPost _ _ _ _ _ (sets w2 w.heap.size 0 [.int .i64 0, .int .i64 0, .int .i64 0, .bool false, .string ⟨#[]⟩, .slice none 0 0, .string ⟨#[]⟩, .bool false])
        have hkk := sets_kept w.heap.size [.int .i64 0, .int .i64 0, .int .i64 0, .bool false, .string ⟨#[]⟩, .slice none 0 0, .string ⟨#[]⟩, .bool false] 0 w2
        have hbb := sets_all [.int .i64 0, .int .i64 0, .int .i64 0, .bool false, .string ⟨#[]⟩, .slice none 0 0, .string ⟨#[]⟩, .bool false] HK2.out rfl
        generalize sets _ _ _ _ = w9 at hkk hbb ⊢
        have c0 := cell_at hbb 0
        have c1 := cell_at hbb 1
        have c2 := cell_at hbb 2
        have c3 := cell_at hbb 3
        have c4 := cell_at hbb 4
        have c5 := cell_at hbb 5
        have c6 := cell_at hbb 6
        have c7 := cell_at hbb 7
        refine bodyPost_ret (v := .tuple #[.agg #[.int .i64 0, .int .i64 0, .int .i64 0, .bool false, .string ⟨#[]⟩, .slice none 0 0, .string ⟨#[]⟩, .bool false], .int .i64 2]) (by simp [results, Try.results15, go_sem, c0, c1, c2, c3, c4, c5, c6, c7]) rfl ?_
        refine ⟨HB2.out.trans (hkk.below (B := w.heap.size) (fun k hk => by omega) HB2.out.size), default, none, 0, by rw [hsee.out]; rfl, fun h => absurd h (by rw [hsee.out]; decide)⟩
end Go.Proofs.Ytjlkfoaccllflaa
