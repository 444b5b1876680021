/-
  Layer weigh: the longest row that stands at a place.
-/
import Derived.Test.YticjgmhgpeihjaaGreatDoorWeLink
namespace Go.Gz
def lgR : Option (Nat × WR) → WR
  | none => WR.zero
  | some (_, x) => x
def lgE (a0 : Nat) (L : List Nat) : Option (Nat × WR) → Nat
  | none => a0
  | some (k, _) => L.getD (k - 1) 0
theorem longTo_stop {α : Type} {f : α → Int} {row : List Int → Option WR} {L : List α} {i : Nat} (h : L.length ≤ i) : ∀ m, i ≤ m → longTo f row L m = longTo f row L i
  | 0, hm => by rw [show i = 0 by omega]
  | m + 1, hm => by
    by_cases e : i = m + 1
    · rw [e]
    · rw [longTo, if_neg (by omega), longTo_stop h m (by omega)]
theorem longTo_step {α : Type} {f : α → Int} {row : List Int → Option WR} {L : List α} {i : Nat} (h : i + 1 ≤ L.length) : longTo f row L (i + 1) = match row ((L.take (i + 1)).map f) with
    | some x => some (i + 1, x)
    | none => longTo f row L i := by
  rw [longTo, if_pos h]
  cases row ((L.take (i + 1)).map f) <;> rfl
end Go.Gz
namespace Go.Proofs.YticjgmhgpeihjaaGreatDoor
open Go.RowKit Go.Gz Go.Sort

theorem cell_below {w w' : World} {a : Addr} {v : Value} (hb : Below w.heap.size w w') (h : w.cell? a = some v) (hl : a.block < w.heap.size) : w'.cell? a = some v := by rw [hb.cell hl]; exact h
theorem froz_below {w w' : World} {a : Addr} {b : Bool} (hb : Below w.heap.size w w') (h : w.frozen? a = b) (hl : a.block < w.heap.size) : w'.frozen? a = b := by rw [hb.frozen hl]; exact h
theorem cell_alloc {w : World} {a : Addr} {v : Value} (o : Obj) (h : w.cell? a = some v) (hl : a.block < w.heap.size) : (w.alloc o).cell? a = some v := cell_below ((Below.refl _ _).alloc (Nat.le_refl _) o) h hl
theorem froz_alloc {w : World} {a : Addr} {b : Bool} (o : Obj) (h : w.frozen? a = b) (hl : a.block < w.heap.size) : (w.alloc o).frozen? a = b := froz_below ((Below.refl _ _).alloc (Nat.le_refl _) o) h hl

structure LgW (W wr : World) (x : WR) (f : Nat → Int) (L : List Nat) (i : Nat) : Prop where
  hb : Below W.heap.size W wr
  sz : W.heap.size + 2 ≤ wr.heap.size
  c0 : wr.cell? ⟨W.heap.size, 0, none⟩ = some (.slice x.op x.of.length x.oc)
  c1 : wr.cell? ⟨W.heap.size, 1, none⟩ = some (.slice x.tp x.to.length x.tc)
  g0 : wr.frozen? ⟨W.heap.size, 0, none⟩ = false
  g1 : wr.frozen? ⟨W.heap.size, 1, none⟩ = false
  rc : ∀ j, j < 3 → ∃ v, wr.cell? ⟨W.heap.size + 1, j, none⟩ = some v
  rf : ∀ j, j < 3 → wr.frozen? ⟨W.heap.size + 1, j, none⟩ = false
  rr : ∀ j, j < i → wr.cell? ⟨W.heap.size + 1, j, none⟩ = some (.int .i32 (f (L.getD j 0)))
def LgRel (W : World) (row : List Int → Option WR) (f : Nat → Int) (nx : Nat → Nat) (n a0 : Nat) (L : List Nat) (g : Nat) (va ve vf vi : Value) (wr : World) : Prop :=
  ∃ i a : Nat, va = .int .i64 (a : Int) ∧ vi = .int .i64 (i : Int) ∧ i ≤ 3 ∧ i ≤ L.length ∧ 3 - i ≤ g ∧ AtL nx n a (L.drop i) ∧ ve = .int .i64 (lgE a0 L (longTo f row L i) : Nat) ∧ vf = .bool (longTo f row L i).isSome ∧ LgW W wr (lgR (longTo f row L i)) f L i
theorem LgW.below {W wr w' : World} {x : WR} {f : Nat → Int} {L : List Nat} {i : Nat} (h : LgW W wr x f L i) (hb : Below wr.heap.size wr w') : LgW W w' x f L i := by
  have h0 : W.heap.size < wr.heap.size := by have := h.sz; omega
  have h1 : W.heap.size + 1 < wr.heap.size := by have := h.sz; omega
  exact ⟨h.hb.trans (hb.mono h.hb.size), Nat.le_trans h.sz hb.size, cell_below hb h.c0 h0, cell_below hb h.c1 h0, froz_below hb h.g0 h0, froz_below hb h.g1 h0, fun j hj => by obtain ⟨v, hv⟩ := h.rc j hj; exact ⟨v, cell_below hb hv h1⟩, fun j hj => froz_below hb (h.rf j hj) h1, fun j hj => cell_below hb (h.rr j hj) h1⟩
theorem LgW.rune {W wr : World} {x : WR} {f : Nat → Int} {L : List Nat} {i : Nat} (h : LgW W wr x f L i) (hi : i < 3) (r : Int) (hr : f (L.getD i 0) = r) : LgW W (wr.setCell ⟨W.heap.size + 1, i, none⟩ (.int .i32 r)) x f L (i + 1) := by
  have ot : ∀ j, (wr.setCell ⟨W.heap.size + 1, i, none⟩ (.int .i32 r)).cell? ⟨W.heap.size, j, none⟩ = wr.cell? ⟨W.heap.size, j, none⟩ := fun j => World.cell?_setCell_other _ _ _ _ (by intro e; injection e with e1 _; omega)
  have same : (wr.setCell ⟨W.heap.size + 1, i, none⟩ (.int .i32 r)).cell? ⟨W.heap.size + 1, i, none⟩ = some (.int .i32 r) := World.cell?_setCell_same' _ _ _ (by obtain ⟨v, hv⟩ := h.rc i hi; rw [hv]; rfl)
  have ot1 : ∀ j, j ≠ i → (wr.setCell ⟨W.heap.size + 1, i, none⟩ (.int .i32 r)).cell? ⟨W.heap.size + 1, j, none⟩ = wr.cell? ⟨W.heap.size + 1, j, none⟩ := fun j hj => World.cell?_setCell_other _ _ _ _ (by intro e; injection e with _ e2; exact hj e2.symm)
  refine ⟨h.hb.setCell (p := ⟨W.heap.size + 1, i, none⟩) (Nat.le_succ _) _, by simpa using h.sz, by rw [ot]; exact h.c0, by rw [ot]; exact h.c1, by rw [World.frozen?_setCell]; exact h.g0, by rw [World.frozen?_setCell]; exact h.g1, fun j hj => ?_, fun j hj => by rw [World.frozen?_setCell]; exact h.rf j hj, fun j hj => ?_⟩
  · by_cases e : j = i
    · subst e; exact ⟨_, same⟩
    · rw [ot1 j e]; exact h.rc j hj
  · by_cases e : j = i
    · subst e; rw [same, hr]
    · rw [ot1 j e]; exact h.rr j (by omega)
theorem LgW.row {W wr : World} {x y : WR} {f : Nat → Int} {L : List Nat} {i : Nat} (h : LgW W wr x f L i) : LgW W ((wr.setCell ⟨W.heap.size, 0, none⟩ (.slice y.op y.of.length y.oc)).setCell ⟨W.heap.size, 1, none⟩ (.slice y.tp y.to.length y.tc)) y f L i := by
  have ot : ∀ j, ((wr.setCell ⟨W.heap.size, 0, none⟩ (.slice y.op y.of.length y.oc)).setCell ⟨W.heap.size, 1, none⟩ (.slice y.tp y.to.length y.tc)).cell? ⟨W.heap.size + 1, j, none⟩ = wr.cell? ⟨W.heap.size + 1, j, none⟩ := fun j => by
    rw [World.cell?_setCell_other _ _ _ _ (by intro e; injection e with e1 _; omega), World.cell?_setCell_other _ _ _ _ (by intro e; injection e with e1 _; omega)]
  have fz : ∀ a, ((wr.setCell ⟨W.heap.size, 0, none⟩ (.slice y.op y.of.length y.oc)).setCell ⟨W.heap.size, 1, none⟩ (.slice y.tp y.to.length y.tc)).frozen? a = wr.frozen? a := fun a => by rw [World.frozen?_setCell, World.frozen?_setCell]
  refine ⟨(h.hb.setCell (p := ⟨W.heap.size, 0, none⟩) (Nat.le_refl _) _).setCell (p := ⟨W.heap.size, 1, none⟩) (Nat.le_refl _) _, by simpa using h.sz, ?_, ?_, by rw [fz]; exact h.g0, by rw [fz]; exact h.g1, fun j hj => by rw [ot]; exact h.rc j hj, fun j hj => by rw [fz]; exact h.rf j hj, fun j hj => by rw [ot]; exact h.rr j hj⟩
  · rw [World.cell?_setCell_other _ _ _ _ (by intro e; injection e with _ e2; omega)]
    exact World.cell?_setCell_same' _ _ _ (by rw [h.c0]; rfl)
  · exact World.cell?_setCell_same' _ _ _ (by rw [World.cell?_setCell_other _ _ _ _ (by intro e; injection e with _ e2; omega), h.c1]; rfl)
theorem LgW.key {W wr : World} {x : WR} {f : Nat → Int} {L : List Nat} {i : Nat} (h : LgW W wr x f L i) (hi : i ≤ L.length) : Row wr .i32 (some ⟨W.heap.size + 1, 0, none⟩) ((L.take i).map f) := by
  refine Or.inr ⟨_, 0, rfl, by have := h.sz; omega, fun j hj => ?_⟩
  have hj' : j < i := by simp at hj; omega
  rw [Nat.zero_add, h.rr j hj']
  have e : ((L.take i).map f).getD j 0 = f (L.getD j 0) := by
    have hjl : j < L.length := by omega
    simp [List.getD, hj', hjl]
  rw [e]

set_option maxHeartbeats 4000000 in
set_option maxRecDepth 100000 in
theorem longest_any (rs : List WR) (hr : RisingW rs) (p : Option Addr) (cap : Nat) (b n a0 : Nat) (f : Nat → Int) (cls : Int → Int) (nx la : Nat → Nat) (L : List Nat) (W : World) (hl : Wrs W p rs) (hsz : rs.length < 1000000) (hof : ∀ x ∈ rs, x.of.length ≤ 9223372036854775807)
    (ht : TX W b n f cls nx la) (hat : AtL nx n a0 L) (hln : ∀ i ∈ L, i < n) (hn : n < 1000000) :
    Calls Tryz.prog 55 #[.slice p rs.length cap, .slice (some ⟨b, 0, none⟩) n n, .int .i64 (a0 : Int)] W fun e w' => e = .returned (.tuple #[.agg #[.slice (lgR (longTo f (rowL rs) L 3)).op (lgR (longTo f (rowL rs) L 3)).of.length (lgR (longTo f (rowL rs) L 3)).oc, .slice (lgR (longTo f (rowL rs) L 3)).tp (lgR (longTo f (rowL rs) L 3)).to.length (lgR (longTo f (rowL rs) L 3)).tc], .int .i64 (lgE a0 L (longTo f (rowL rs) L 3) : Nat), .bool (longTo f (rowL rs) L 3).isSome]) ∧ Below W.heap.size W w' := by
  have hro := Lib.hid (fun k q d w hb hk hkz => rowOf_any rs hr p cap k q d w (hl.below hb) hk hsz hkz hof)
  have HT := Lib.hid ht; clear ht
  have HAT := Lib.hid hat; clear hat
  have HLN := Lib.hid hln; clear hln
  clear hl hr hof
  obtain ⟨row, hrow⟩ : ∃ row, rowL rs = row := ⟨_, rfl⟩
  have HROW := Lib.hid hrow
  rw [hrow]
  clear hrow
  obtain ⟨q3, hq3⟩ : ∃ q3, longTo f row L 3 = q3 := ⟨_, rfl⟩
  rw [hq3]
  obtain ⟨x, hx⟩ : ∃ x, lgR q3 = x := ⟨_, rfl⟩
  obtain ⟨en, hen⟩ : ∃ en, lgE a0 L q3 = en := ⟨_, rfl⟩
  obtain ⟨fo, hfo⟩ : ∃ fo, q3.isSome = fo := ⟨_, rfl⟩
  rw [hx, hen, hfo]
  have HQ3 := Lib.hid hq3; clear hq3
  have HX := Lib.hid hx; clear hx
  have HEN := Lib.hid hen; clear hen
  have HFO := Lib.hid hfo; clear hfo
  go_enter Tryz.func55, Tryz.ntmps55
  go_wp2_with fail
  go_loopg [2, 7, 8, 10] 3 (fun g va ve vf vi wr => Hid (LgRel W row f nx n a0 L g va ve vf vi wr))
  case atStart =>
    refine Lib.hid ⟨0, a0, rfl, rfl, by omega, Nat.zero_le _, by omega, HAT.out, rfl, rfl, ?_⟩
    refine ⟨((Below.refl _ _).alloc (Nat.le_refl _) _).alloc (by simp) _, by simp, by simp [longTo, lgR, WR.zero], by simp [longTo, lgR, WR.zero], by simp, by simp, fun j hj => ?_, fun j hj => by simp, fun j hj => by omega⟩
    rcases (show j = 0 ∨ j = 1 ∨ j = 2 by omega) with rfl | rfl | rfl
    · exact ⟨_, by simp; rfl⟩
    · exact ⟨_, by simp; rfl⟩
    · exact ⟨_, by simp; rfl⟩
  case round =>
    have hrel' := hrel.out
    clear hrel
    obtain ⟨i, a, rfl, rfl, hi3, hiL, hg, hat, rfl, rfl, hw⟩ := hrel'
    by_cases hlt : i < 3
    · have hltz : (i : Int) < 3 := by omega
      rcases atL_lt hat (fun j hj => HLN.out j (List.mem_of_mem_drop hj)) with ⟨hnil, rfl⟩ | ⟨t, hdr, han, hlk⟩
      · have haz : ¬ (a : Int) < (a : Int) := by omega
        have hq : longTo f row L i = q3 := (longTo_stop (by have := congrArg List.length hnil; simp at this; omega) 3 hi3).symm.trans HQ3.out
        rw [hq] at hw ⊢
        rw [HEN.out, HFO.out]
        have c0 := hw.c0
        have c1 := hw.c1
        have g0 := hw.g0
        have g1 := hw.g1
        have HWb := Lib.hid hw.hb
        rw [HX.out] at c0 c1
        clear hw hat hq
        go_wp2_with fail
        obtain ⟨w2, hw2⟩ : ∃ w2, (wr.setCell ⟨W.heap.size, 0, none⟩ (.slice x.op x.of.length x.oc)).setCell ⟨W.heap.size, 1, none⟩ (.slice x.tp x.to.length x.tc) = w2 := ⟨_, rfl⟩
        have p0 : w2.cell? ⟨W.heap.size, 0, none⟩ = some (.slice x.op x.of.length x.oc) := by rw [← hw2]; simp [go_sem, c0]
        have p1 : w2.cell? ⟨W.heap.size, 1, none⟩ = some (.slice x.tp x.to.length x.tc) := by rw [← hw2]; simp [go_sem, c1]
        have hb2 : Below W.heap.size W w2 := by rw [← hw2]; exact (HWb.out.setCell (p := ⟨W.heap.size, 0, none⟩) (Nat.le_refl _) _).setCell (p := ⟨W.heap.size, 1, none⟩) (Nat.le_refl _) _
        rw [hw2]
        refine bodyPost_ret (v := .tuple #[.agg #[.slice x.op x.of.length x.oc, .slice x.tp x.to.length x.tc], .int .i64 (en : Int), .bool fo]) (by simp [results, Tryz.results55, go_sem, p0, p1]) rfl ?_
        exact ⟨rfl, hb2⟩
      · have haz : (a : Int) < (n : Int) := by omega
        have hil : i < L.length := by
          have := congrArg List.length hdr
          simp at this; omega
        have hLi : L.getD i 0 = a := by
          have := congrArg (·[0]?) hdr
          simp at this
          simp [List.getD, this]
        have hdr1 := Lib.hid (show L.drop (i + 1) = t by
          have := congrArg (List.drop 1) hdr
          simpa [List.drop_drop, Nat.add_comm] using this)
        have HLK := Lib.hid hlk
        clear hlk hdr hat
        have hTw := Lib.hid (HT.out.below hw.hb)
        have hsz2 := hw.sz
        have hbW := HT.out.lt
        have t0 := hTw.out.cr a han
        obtain ⟨r, hfr⟩ : ∃ r, f a = r := ⟨_, rfl⟩
        rw [hfr] at t0
        obtain ⟨v0, hv0⟩ := hw.rc i hlt
        have gv0 := hw.rf i hlt
        have HW1 := Lib.hid (hw.rune hlt r (by rw [hLi]; exact hfr))
        have hkl : ((L.take (i + 1)).map f).length = i + 1 := by rw [List.length_map, List.length_take]; omega
        have hcall := hro.out ((L.take (i + 1)).map f) (some ⟨W.heap.size + 1, 0, none⟩) 3 _ HW1.out.hb (HW1.out.key (by omega)) (by omega)
        rw [hkl] at hcall
        have hstep := longTo_step (f := f) (row := row) (show i + 1 ≤ L.length by omega)
        have p0 : (0 : Int) ≤ (i : Int) + 1 := by omega
        have p1 : (i : Int) + 1 ≤ 3 := by omega
        have e0 : ((i : Int) + 1).toNat = i + 1 := by omega
        have HLi := Lib.hid hLi
        have HW0 := Lib.hid hw
        clear hw hLi
        have hFN : fndL rs ((L.take (i + 1)).map f) = (row ((L.take (i + 1)).map f)).getD WR.zero := by unfold fndL; rw [HROW.out]
        have hIS : isL rs ((L.take (i + 1)).map f) = (row ((L.take (i + 1)).map f)).isSome := by unfold isL; rw [HROW.out]
        rw [hFN, hIS] at hcall
        clear hFN hIS hkl
        cases hkey : row ((L.take (i + 1)).map f) with
        | none =>
          rw [hkey] at hcall hstep
          have HC := Lib.hid hcall; clear hcall
          have HS := Lib.hid hstep; clear hstep hkey
          go_wp2_with fail
          refine HC.out.mono ?_
          rintro e w2 ⟨rfl, hb2, _⟩
          have HW2 := Lib.hid ((HW1.out.below hb2).below ((Below.refl _ _).alloc (Nat.le_refl _) (.cells #[.slice WR.zero.op WR.zero.of.length WR.zero.oc, .slice WR.zero.tp WR.zero.to.length WR.zero.tc] 47)))
          have t2 := cell_below HW2.out.hb (HT.out.cn a han) hbW
          clear hb2 HC
          go_wp2_with fail
          go_roundg (3 - (i + 1))
          case measure => omega
          case rel => exact Lib.hid ⟨i + 1, nx a, rfl, by go_num, by omega, by omega, by omega, by rw [hdr1.out]; exact lk_at HLK.out, by rw [HS.out], by rw [HS.out], by rw [HS.out]; exact HW2.out⟩
        | some x =>
          rw [hkey] at hcall hstep
          have HC := Lib.hid hcall; clear hcall
          have HS := Lib.hid hstep; clear hstep hkey
          go_wp2_with fail
          refine HC.out.mono ?_
          rintro e w2 ⟨rfl, hb2, _⟩
          have HW2 := Lib.hid ((HW1.out.below hb2).below ((Below.refl _ _).alloc (Nat.le_refl _) (.cells #[.slice x.op x.of.length x.oc, .slice x.tp x.to.length x.tc] 47)))
          have t2 := cell_below HW2.out.hb (HT.out.cn a han) hbW
          have hne : b ≠ W.heap.size := by omega
          have c0 := HW2.out.c0
          have c1 := HW2.out.c1
          have g0 := HW2.out.g0
          have g1 := HW2.out.g1
          clear hb2 HC
          go_wp2_with fail
          go_roundg (3 - (i + 1))
          case measure => omega
          case rel => exact Lib.hid ⟨i + 1, nx a, rfl, by go_num, by omega, by omega, by omega, by rw [hdr1.out]; exact lk_at HLK.out, by rw [HS.out]; show Value.int .i64 _ = Value.int .i64 ((L.getD (i + 1 - 1) 0 : Nat) : Int); rw [Nat.add_sub_cancel, HLi.out], by rw [HS.out]; rfl, by rw [HS.out]; exact HW2.out.row⟩
    · obtain rfl : i = 3 := by omega
      have hltz : ¬ ((3 : Nat) : Int) < 3 := by omega
      rw [HQ3.out] at hw ⊢
      rw [HEN.out, HFO.out]
      have c0 := hw.c0
      have c1 := hw.c1
      have g0 := hw.g0
      have g1 := hw.g1
      have HWb := Lib.hid hw.hb
      rw [HX.out] at c0 c1
      clear hw hat
      go_wp2_with fail
      obtain ⟨w2, hw2⟩ : ∃ w2, (wr.setCell ⟨W.heap.size, 0, none⟩ (.slice x.op x.of.length x.oc)).setCell ⟨W.heap.size, 1, none⟩ (.slice x.tp x.to.length x.tc) = w2 := ⟨_, rfl⟩
      have p0 : w2.cell? ⟨W.heap.size, 0, none⟩ = some (.slice x.op x.of.length x.oc) := by rw [← hw2]; simp [go_sem, c0]
      have p1 : w2.cell? ⟨W.heap.size, 1, none⟩ = some (.slice x.tp x.to.length x.tc) := by rw [← hw2]; simp [go_sem, c1]
      have hb2 : Below W.heap.size W w2 := by rw [← hw2]; exact (HWb.out.setCell (p := ⟨W.heap.size, 0, none⟩) (Nat.le_refl _) _).setCell (p := ⟨W.heap.size, 1, none⟩) (Nat.le_refl _) _
      rw [hw2]
      refine bodyPost_ret (v := .tuple #[.agg #[.slice x.op x.of.length x.oc, .slice x.tp x.to.length x.tc], .int .i64 (en : Int), .bool fo]) (by simp [results, Tryz.results55, go_sem, p0, p1]) rfl ?_
      exact ⟨rfl, hb2⟩
end Go.Proofs.YticjgmhgpeihjaaGreatDoor
