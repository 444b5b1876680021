/-
  Layer sortkey: Levels: the walk.
-/
import Derived.Test.YtcocmmndonlhkaaDoorSkLev
import Derived.Deep.CutRange
namespace Go.Gz
/-- the levels, once so many weights of an element are added. -/
def addK (L : List (List Int)) (ws : List Int) (j : Nat) : List (List Int) := (addW L ws).take j ++ L.drop j
theorem addK_zero (L : List (List Int)) (ws : List Int) : addK L ws 0 = L := by simp [addK]
theorem addK_four {L : List (List Int)} {ws : List Int} (h : L.length = 4) (h2 : ws.length = 4) : addK L ws 4 = addW L ws := by
  unfold addK
  rw [List.take_of_length_le (by rw [addW_len h h2]; exact Nat.le_refl _), List.drop_of_length_le (by omega), List.append_nil]
theorem addK_step {L : List (List Int)} {ws : List Int} (h : L.length = 4) (h2 : ws.length = 4) {j : Nat} (hj : j < 4) : addK L ws (j + 1) = if 0 < ws.getD j 0 then (addK L ws j).set j ((addK L ws j).getD j [] ++ [ws.getD j 0]) else addK L ws j := by
  match L, ws, h, h2, j, hj with
  | [a, b, c, d], [p, q, r, s], _, _, 0, _ => by_cases hp : 0 < p <;> simp [addK, addW, hp]
  | [a, b, c, d], [p, q, r, s], _, _, 1, _ => by_cases hp : 0 < q <;> simp [addK, addW, hp]
  | [a, b, c, d], [p, q, r, s], _, _, 2, _ => by_cases hp : 0 < r <;> simp [addK, addW, hp]
  | [a, b, c, d], [p, q, r, s], _, _, 3, _ => by_cases hp : 0 < s <;> simp [addK, addW, hp]
theorem addK_get {L : List (List Int)} {ws : List Int} (h : L.length = 4) (h2 : ws.length = 4) {j : Nat} (hj : j < 4) : (addK L ws j).getD j [] = L.getD j [] := by
  match L, ws, h, h2, j, hj with
  | [a, b, c, d], [p, q, r, s], _, _, 0, _ => simp [addK, addW]
  | [a, b, c, d], [p, q, r, s], _, _, 1, _ => simp [addK, addW]
  | [a, b, c, d], [p, q, r, s], _, _, 2, _ => simp [addK, addW]
  | [a, b, c, d], [p, q, r, s], _, _, 3, _ => simp [addK, addW]
theorem four_of {ws : List Int} (h : ws.length = 4) : ∃ a b c d, ws = [a, b, c, d] := by
  match ws, h with
  | [a, b, c, d], _ => exact ⟨a, b, c, d, rfl⟩
end Go.Gz
namespace Go.Proofs.YtcocmmndonlhkaaDoor
open Go.RowKit Go.Gz Go.Sort

/-- append of one number onto a row of the call's own, with where the new row lies. -/
theorem wpList_push_at {P : Program} {w : World} {ops : Array Oper} {rest : List Oper} {o : Oper} {a : Act} {Q : Exit → Act → World → Prop}
    (hg : o.guard = none) (s x : Operand) (t : TypeId) (hop : o.op = Op.call { callee := Callee.builtin Builtin.append, args := #[s, x], argTypes := #[t, t] })
    (e : TypeId) (k : IntKind) (bytes : Nat) (h1 : P.underlying t = some (.slice e)) (hinfo : (P.info? e).map (fun i => (i.zero, i.size, i.bytes)) = some (some (.int k 0), 1, bytes)) (hby : bytes ≤ 8)
    (B : Nat) (v : Value) (xs : List Int) (hs : a.eval s = v) (hown : Own w B e k v xs) (G c : Nat) (y : Int) (hx : a.eval x = .slice (some ⟨G, 0, none⟩) 1 c) (hc : w.cell? ⟨G, 0, none⟩ = some (.int k y))
    (hlen : xs.length + 1 ≤ 1000000) (hB : B ≤ w.heap.size)
    (hK : ∀ v' w', Own w' B e k v' (xs ++ [y]) → w.grownBy w' v.ownBlock → (v'.ownBlock = v.ownBlock ∨ v'.ownBlock = some w.heap.size) → wpList P ops Q rest (a.put o.dst v') w') :
    wpList P ops Q (o :: rest) a w := by
  obtain ⟨i0, hi, hz0, hz1, hz2⟩ := info_parts hinfo
  refine wpList_append_own_at w hg s x t hop B e i0 (.int k 0) 1 bytes h1 hi hz0 hz1 hz2 rfl (by decide) v xs.length (xs.map (Value.int k)) hs hown ⟨G, 0, none⟩ 1 c [.int k y] hx rfl ?_ ?_ (by unfold maxLen; omega) ?_ hB ?_
  · intro j u hj
    obtain ⟨hj', rfl⟩ := List.getElem?_eq_some_iff.1 hj
    simp only [List.length_singleton] at hj'
    obtain rfl : j = 0 := by omega
    rw [Addr.add_lit, hc]; rfl
  · intro u hu
    rw [List.mem_singleton.1 hu]; rfl
  · have : (xs.length + 1) * bytes ≤ (xs.length + 1) * 8 := Nat.mul_le_mul_left _ hby
    omega
  · intro v' w' ho hgr _ hat
    refine hK v' w' ?_ hgr hat
    unfold Own
    rw [List.length_append, List.map_append]
    exact ho

theorem ownI_lower {w : World} {B B' : Nat} {e : TypeId} {k : IntKind} {v : Value} {xs : List Int} (h : Own w B e k v xs) (hB : B' ≤ B) : Own w B' e k v xs := by
  obtain ⟨h1, h2 | ⟨g, cap, cur, hv, hg, hr⟩⟩ := h
  · exact ⟨h1, Or.inl h2⟩
  · exact ⟨h1, Or.inr ⟨g, cap, cur, hv, Nat.le_trans hB hg, hr⟩⟩
theorem lv_end {W w0 w : World} {g : Nat} (h0 : Below W.heap.size W w0) (h : Below g w0 w) (hg : W.heap.size ≤ g) (a b c d : Value) : Below W.heap.size W ((((w.setCell ⟨W.heap.size + 1, 0, none⟩ a).setCell ⟨W.heap.size + 1, 1, none⟩ b).setCell ⟨W.heap.size + 1, 2, none⟩ c).setCell ⟨W.heap.size + 1, 3, none⟩ d) :=
  (((((h0.trans (h.mono hg)).setCell (p := ⟨W.heap.size + 1, 0, none⟩) (Nat.le_succ _) _).setCell (p := ⟨W.heap.size + 1, 1, none⟩) (Nat.le_succ _) _).setCell (p := ⟨W.heap.size + 1, 2, none⟩) (Nat.le_succ _) _).setCell (p := ⟨W.heap.size + 1, 3, none⟩) (Nat.le_succ _) _)
/-- four rows of numbers that a call returned. -/
def RetLv (W : World) (L : List (List Int)) (e : Ending) (w' : World) : Prop :=
  ∃ vs : Nat → Value, e = .returned (.agg #[vs 0, vs 1, vs 2, vs 3]) ∧ Below W.heap.size W w' ∧ ∀ i, i < 4 → Own w' W.heap.size 3 .i64 (vs i) (L.getD i [])
def LvOut (w0 : World) (g : Nat) (sh : Bool) (top : Int) (es : List EL) (vb vi : Value) (wr : World) (gk : Nat) : Prop :=
  ∃ (k : Nat) (vs : Nat → Value), vi = .int .i64 (k : Int) ∧ k ≤ es.length ∧ es.length - k ≤ gk ∧ vb = .bool (levSt sh top (es.take k)).2 ∧ Below g w0 wr ∧ Rows4 wr g vs (levSt sh top (es.take k)).1
def LvIn (w0 : World) (g : Nat) (L : List (List Int)) (ws : List Int) (vj : Value) (wr : World) (gk : Nat) : Prop :=
  ∃ (j : Nat) (vs : Nat → Value), vj = .int .i64 (j : Int) ∧ j ≤ 4 ∧ 4 - j ≤ gk ∧ Below g w0 wr ∧ Rows4 wr g vs (addK L ws j)
/-- what the weights' block holds, ahead of the inner loop. -/
structure LvMid (w0 : World) (g : Nat) (vs : Nat → Value) (L : List (List Int)) (b : Nat) (ws : List Int) (w : World) : Prop where
  b0 : Below g w0 w
  rows : Rows4 w g vs L
  cells : ∀ j, j < 4 → w.cell? ⟨b, j, none⟩ = some (.int .i64 (ws.getD j 0))

set_option maxHeartbeats 4000000 in
set_option maxRecDepth 100000 in
theorem levels_any (T : TB) (es : List EL) (q : Option Addr) (c : Nat) (W : World) (hE : Els W q es) (hz : es.length ≤ 9000) :
    Calls Tryd.prog 12 #[.agg #[.slice T.lp T.ls.length T.lc, .slice T.rp T.rs.length T.rc, .int .i64 T.top, .bool T.sh], .slice q es.length c] W (RetLv W (levL T.sh T.top es)) := by
  have HE := Lib.hid hE; clear hE
  have b3 := fun (p s t : Int) w => build_w012 p s t w
  go_enter Tryd.func12, Tryd.ntmps12
  go_upto_region 3 with fail
  obtain ⟨w0, hw0⟩ : ∃ w0, ((W.alloc (.cells #[.slice T.lp T.ls.length T.lc, .slice T.rp T.rs.length T.rc, .int .i64 T.top, .bool T.sh] 33)).alloc (.cells #[.slice none 0 0, .slice none 0 0, .slice none 0 0, .slice none 0 0] 47)).alloc (.cells #[.slice none 0 0, .slice none 0 0, .slice none 0 0, .slice none 0 0] 47) = w0 := ⟨_, rfl⟩
  rw [hw0]
  have hw0s : w0.heap.size = W.heap.size + 1 + 1 + 1 := by rw [← hw0]; simp
  have HB0 := Lib.hid (show Below W.heap.size W w0 from hw0 ▸ ((((Below.refl W.heap.size W).alloc (Nat.le_refl _) _).alloc (by simp) _).alloc (by simp; omega) _))
  have HR0 := Lib.hid (show Rows4 w0 (W.heap.size + 1 + 1) (fun _ => .slice none 0 0) [[], [], [], []] from by
    refine Rows4.start w0 _ 47 ?_
    have := heap_alloc_new ((W.alloc (.cells #[.slice T.lp T.ls.length T.lc, .slice T.rp T.rs.length T.rc, .int .i64 T.top, .bool T.sh] 33)).alloc (.cells #[.slice none 0 0, .slice none 0 0, .slice none 0 0, .slice none 0 0] 47)) (.cells #[.slice none 0 0, .slice none 0 0, .slice none 0 0, .slice none 0 0] 47)
    rw [← hw0]
    simpa using this)
  have c2 : w0.cell? ⟨W.heap.size, 2, none⟩ = some (.int .i64 T.top) := by rw [← hw0]; simp [go_sem]
  have c3 : w0.cell? ⟨W.heap.size, 3, none⟩ = some (.bool T.sh) := by rw [← hw0]; simp [go_sem]
  have hr : ∀ j, j < 4 → w0.cell? ⟨W.heap.size + 1, j, none⟩ = some (.slice none 0 0) ∧ w0.frozen? ⟨W.heap.size + 1, j, none⟩ = false := by
    intro j hj
    rw [← hw0]
    rcases (show j = 0 ∨ j = 1 ∨ j = 2 ∨ j = 3 by omega) with rfl | rfl | rfl | rfl <;> exact ⟨by simp [go_sem], by simp [go_sem]⟩
  have HC2 := Lib.hid c2
  have HC3 := Lib.hid c3
  have HRS := Lib.hid hr
  clear hw0 c2 c3 hr
  obtain ⟨g, hg⟩ : ∃ g, W.heap.size + 1 + 1 = g := ⟨_, rfl⟩
  rw [hg] at HR0 hw0s ⊢
  have hg1 : W.heap.size + 1 < g := by omega
  have HGE := Lib.hid hg
  clear hg
  go_wp2_with fail
  go_loopg [6, 14] es.length (fun gk vb vi wr => Hid (LvOut w0 g T.sh T.top es vb vi wr gk))
  case atStart =>
    refine Lib.hid ⟨0, fun _ => .slice none 0 0, rfl, Nat.zero_le _, by omega, rfl, Below.refl _ _, ?_⟩
    rw [List.take_zero]
    exact HR0.out
  case round =>
    have hrel' := hrel.out
    clear hrel
    obtain ⟨k, vs, rfl, hk, hgk, rfl, hb, hrow⟩ := hrel'
    have HB := Lib.hid hb
    have HR := Lib.hid hrow
    have hszr := hb.size
    clear hb hrow
    by_cases hlt : k < es.length
    · have hltz : (k : Int) < (es.length : Int) := by omega
      obtain ⟨b, o, rfl, hbW, e0, e1, e2⟩ := HE.out.at_ (HB0.out.trans (HB.out.mono (by omega))) hlt
      have HTS := Lib.hid (show levSt T.sh T.top (es.take (k + 1)) = levStep T.sh T.top (levSt T.sh T.top (es.take k)) es[k]! by
        rw [List.take_succ_eq_append_getElem hlt, levSt_snoc, getElem!_pos es k hlt])
      obtain ⟨⟨p, s, t⟩, hx⟩ : ∃ x, es[k]! = x := ⟨_, rfl⟩
      rw [hx] at e0 e1 e2 HTS
      clear hx
      dsimp only at e0 e1 e2
      obtain ⟨L, bh, hst⟩ : ∃ L bh, levSt T.sh T.top (es.take k) = (L, bh) := ⟨_, _, rfl⟩
      rw [hst] at HR HTS ⊢
      dsimp only at HR HTS ⊢
      have HST := Lib.hid hst
      clear hst
      have hL4 : L.length = 4 := HR.out.len
      have hLn : ∀ z ∈ L, z.length ≤ 9000 := by
        have h1 := levL_few T.sh T.top (es.take k)
        unfold levL at h1
        rw [HST.out] at h1
        intro z hz'
        have := h1 z hz'
        rw [List.length_take] at this
        omega
      have HLN := Lib.hid hLn
      clear hLn
      have c2 : wr.cell? ⟨W.heap.size, 2, none⟩ = some (.int .i64 T.top) := by rw [HB.out.cell (p := ⟨W.heap.size, 2, none⟩) (by show W.heap.size < g; omega)]; exact HC2.out
      obtain ⟨sb, hsb⟩ : ∃ sb, T.sh = sb := ⟨_, rfl⟩
      have HSB := Lib.hid hsb
      have c3 : wr.cell? ⟨W.heap.size, 3, none⟩ = some (.bool sb) := by rw [← hsb, HB.out.cell (p := ⟨W.heap.size, 3, none⟩) (by show W.heap.size < g; omega)]; exact HC3.out
      clear hsb
      have hWr : W.heap.size < wr.heap.size := by omega
      have hbr : b < wr.heap.size := by omega
      have bb := fun w => b3 p s t w
      obtain ⟨ws, bn, hws⟩ : ∃ ws bn, wOf T.sh T.top ⟨p, s, t⟩ bh = (ws, bn) := ⟨_, _, rfl⟩
      have HWS := Lib.hid hws
      have hw4 : ws.length = 4 := by have := wOf_len T.sh T.top ⟨p, s, t⟩ bh; rw [hws] at this; exact this
      clear hws
      obtain ⟨x0, x1, x2, x3, rfl⟩ := four_of hw4
      have hsf := Lib.hid (fun w (hs : sb = true) => show Calls Tryd.prog 20 #[.int .i64 T.top, .agg #[.int .i64 p, .int .i64 s, .int .i64 t], .bool bh] w (RetSh ([x0, x1, x2, x3], bn) w) by
        have h1 := shift_any T.top p s t bh w
        have h2 := HWS.out
        unfold wOf at h2
        rw [if_pos (HSB.out.trans hs)] at h2
        rwa [h2] at h1)
      have hwf := Lib.hid (fun (hs : sb = false) => show x0 = p ∧ x1 = s ∧ x2 = t ∧ x3 = 0 ∧ bn = bh by
        have h2 := HWS.out
        unfold wOf at h2
        rw [HSB.out.trans hs] at h2
        have e0 := congrArg (fun q : List Int × Bool => q.1.getD 0 0) h2
        have e1 := congrArg (fun q : List Int × Bool => q.1.getD 1 0) h2
        have e2 := congrArg (fun q : List Int × Bool => q.1.getD 2 0) h2
        have e3 := congrArg (fun q : List Int × Bool => q.1.getD 3 0) h2
        have e4 := congrArg (fun q : List Int × Bool => q.2) h2
        exact ⟨e0.symm, e1.symm, e2.symm, e3.symm, e4.symm⟩)
      have HBd := Lib.hid ((HB.out.alloc (by omega) (.cells #[.int .i64 p, .int .i64 s, .int .i64 t] 26)).alloc (by simp; omega) (.cells #[.int .i64 p, .int .i64 s, .int .i64 t, .int .i64 0] 58))
      have HRd := Lib.hid (HR.out.below (((Below.refl wr.heap.size wr).alloc (Nat.le_refl _) (.cells #[.int .i64 p, .int .i64 s, .int .i64 t] 26)).alloc (by simp) (.cells #[.int .i64 p, .int .i64 s, .int .i64 t, .int .i64 0] 58)))
      go_upto_if 26 with fail
      go_cut [6, 14] from 14 to 51 (fun vb vk wx => vb = .bool bn ∧ vk = .int .i64 (k : Int) ∧ Hid (LvMid w0 g vs L (wr.heap.size + 1) [x0, x1, x2, x3] wx))
      case first =>
        cases sb with
        | false =>
          obtain ⟨rfl, rfl, rfl, rfl, rfl⟩ := hwf.out rfl
          clear hsf hwf
          go_wp2_with fail
          go_meet
          refine ⟨rfl, rfl, Lib.hid ⟨HBd.out, HRd.out, ?_⟩⟩
          intro j hj
          rw [← World.size_alloc wr (.cells #[.int .i64 x0, .int .i64 x1, .int .i64 x2] 26), World.cell?_alloc_new]
          rcases (show j = 0 ∨ j = 1 ∨ j = 2 ∨ j = 3 by omega) with rfl | rfl | rfl | rfl <;> rfl
        | true =>
          have hsf' := Lib.hid (fun w => hsf.out w rfl)
          clear hsf hwf
          go_wp2_with fail
          refine (hsf'.out _).mono ?_
          rintro e w2 ⟨rfl, hb2⟩
          have HB2 := Lib.hid (HBd.out.trans (hb2.mono (by simp only [World.size_alloc]; omega)))
          have HR2 := Lib.hid (HRd.out.below hb2)
          have m : ∀ j, j < 4 → (∃ v, w2.cell? ⟨wr.heap.size + 1, j, none⟩ = some (.int .i64 v)) ∧ w2.frozen? ⟨wr.heap.size + 1, j, none⟩ = false := by
            intro j hj
            rw [hb2.cell (p := ⟨wr.heap.size + 1, j, none⟩) (by simp), hb2.frozen (p := ⟨wr.heap.size + 1, j, none⟩) (by simp)]
            rcases (show j = 0 ∨ j = 1 ∨ j = 2 ∨ j = 3 by omega) with rfl | rfl | rfl | rfl <;> exact ⟨⟨_, by simp [go_sem]; rfl⟩, by simp [go_sem]⟩
          obtain ⟨⟨y0, m0⟩, f0⟩ := m 0 (by omega)
          obtain ⟨⟨y1, m1⟩, f1⟩ := m 1 (by omega)
          obtain ⟨⟨y2, m2⟩, f2⟩ := m 2 (by omega)
          obtain ⟨⟨y3, m3⟩, f3⟩ := m 3 (by omega)
          clear m hb2 hsf'
          go_wp2_with fail
          go_meet
          have hob : ∀ i, i < 4 → (vs i).ownBlock ≠ some (wr.heap.size + 1) := fun i hi e => by
            have := (World.ownsRow.lt (HR.out.own i hi) _ e).2
            omega
          refine ⟨rfl, rfl, Lib.hid ⟨?_, ?_, ?_⟩⟩
          · exact (((HB2.out.setCell (p := ⟨wr.heap.size + 1, 0, none⟩) (show g ≤ wr.heap.size + 1 by omega) _).setCell (p := ⟨wr.heap.size + 1, 1, none⟩) (show g ≤ wr.heap.size + 1 by omega) _).setCell (p := ⟨wr.heap.size + 1, 2, none⟩) (show g ≤ wr.heap.size + 1 by omega) _).setCell (p := ⟨wr.heap.size + 1, 3, none⟩) (show g ≤ wr.heap.size + 1 by omega) _
          · exact (((HR2.out.far (by omega) hob 0 _).far (by omega) hob 1 _).far (by omega) hob 2 _).far (by omega) hob 3 _
          · intro j hj
            rcases (show j = 0 ∨ j = 1 ∨ j = 2 ∨ j = 3 by omega) with rfl | rfl | rfl | rfl <;> simp [go_sem, m0, m1, m2, m3]
      case rest =>
        obtain ⟨rfl, rfl, HM⟩ := hcut
        have e0 := HM.out.cells 0 (by omega)
        have e1 := HM.out.cells 1 (by omega)
        have e2 := HM.out.cells 2 (by omega)
        have e3 := HM.out.cells 3 (by omega)
        simp only [List.getD_cons_zero, List.getD_cons_succ] at e0 e1 e2 e3
        clear c2 c3 hsf hwf HBd HRd bb b3
        go_wp2_with fail
        go_loopg [36] 4 (fun g2 vj w => Hid (LvIn w0 g L [x0, x1, x2, x3] vj w g2))
        case atStart => exact Lib.hid ⟨0, vs, rfl, by omega, by omega, HM.out.b0, by rw [addK_zero]; exact HM.out.rows⟩
        case round =>
          clear e0 e1 e2 e3
          have hrel' := hrel.out
          clear hrel
          obtain ⟨j, vs2, rfl, hj4, hg2, hb4, hr4⟩ := hrel'
          have HB4 := Lib.hid hb4
          have HR4 := Lib.hid hr4
          have hs4 := hb4.size
          by_cases hj : j < 4
          · have hjz : (j : Int) < 4 := by omega
            have hidx : ∀ w : World, (Instr.index 58 (.agg #[.int .i64 x0, .int .i64 x1, .int .i64 x2, .int .i64 x3]) (.int .i64 (j : Int))).run Tryd.prog w = .ok (.int .i64 ([x0, x1, x2, x3].getD j 0)) w := by
              intro w
              rcases (show j = 0 ∨ j = 1 ∨ j = 2 ∨ j = 3 by omega) with rfl | rfl | rfl | rfl <;> kernel_rfl
            have HST := Lib.hid (addK_step (L := L) (ws := [x0, x1, x2, x3]) hL4 rfl hj)
            obtain ⟨x, hxj⟩ : ∃ x, [x0, x1, x2, x3].getD j 0 = x := ⟨_, rfl⟩
            rw [hxj] at hidx HST
            clear hxj
            by_cases hpos : 0 < x
            · have HKP := Lib.hid (show addK L [x0, x1, x2, x3] (j + 1) = _ from HST.out.trans (if_pos hpos))
              obtain ⟨sv, dv, hv, _, _⟩ := Own.row (hr4.own j hj)
              have hown4 := hr4.own j hj
              have z4 := hr4.cell j hj
              have hlen4 : ((addK L [x0, x1, x2, x3] j).getD j []).length ≤ 100000 := by
                have : (addK L [x0, x1, x2, x3] j).getD j [] = L.getD j [] := addK_get hL4 rfl hj
                rw [this]
                have h9 := HLN.out (L.getD j []) (by simp [List.getD, show j < L.length by omega])
                omega
              rw [hv] at z4 hown4
              have HV := Lib.hid hv
              have HO4 := Lib.hid hown4
              have HLE := Lib.hid hlen4
              clear hb4 hr4 hv hown4 hlen4
              obtain ⟨cur, hcur⟩ : ∃ cur, (addK L [x0, x1, x2, x3] j).getD j [] = cur := ⟨_, rfl⟩
              rw [hcur] at z4 HO4 HLE HKP HV
              clear hcur
              have hg4 : g < wr.heap.size := by omega
              go_wp2_with (at_builtin; refine wpList_push_at rfl _ _ 46 rfl 3 .i64 8 Tryd.underlying46 info_int4 (by decide) (g + 1) _ cur rfl (Own.alloc HO4.out _) wr.heap.size 1 x rfl (by rw [World.cell?_alloc_new]; rfl) (by have := HLE.out; omega) (by simp only [World.size_alloc]; omega) ?_)
              intro v6 w6 hown6 hgr6 hat6
              have HRa := HR4.out.below ((Below.refl wr.heap.size wr).alloc (Nat.le_refl _) (.cells #[.int .i64 x] 3))
              have HPU := Lib.hid (HRa.push hj (ys := cur ++ [x]) hown6 (by rw [HV.out]; exact hgr6) (by rw [HV.out, World.size_alloc]; exact hat6))
              have hne : some g ≠ (vs2 j).ownBlock := fun e => by
                have := (World.ownsRow.lt (HRa.own j hj) g e.symm).1
                omega
              have hc6 : w6.cell? ⟨g, j, none⟩ = some (.slice sv cur.length dv) := by
                rw [hgr6.cell_far _ HRa.lt (by rw [← HV.out]; exact hne), HRa.cell j hj, HV.out]
              have hf6 : w6.frozen? ⟨g, j, none⟩ = false := by
                rw [hgr6.frozen_far _ HRa.lt (by rw [← HV.out]; exact hne)]; exact HRa.froz j hj
              have HB6 := Lib.hid (((HB4.out.alloc (by omega) (.cells #[.int .i64 x] 3)).grown hgr6 (by simp only [World.size_alloc]; omega) (fun g' hg' => by
                have := (World.ownsRow.lt HO4.out g' hg').1
                omega)).setCell (p := ⟨g, j, none⟩) (Nat.le_refl _) v6)
              obtain ⟨s6, d6, rfl, _, _⟩ := Own.row hown6
              obtain ⟨n6, hn6⟩ : ∃ n, (cur ++ [x]).length = n := ⟨_, rfl⟩
              rw [hn6] at HPU HB6 ⊢
              clear HRa hown6 hgr6 hat6 hne hn6 z4
              go_wp2_with fail
              go_roundg (4 - (j + 1))
              case measure => omega
              case rel => exact Lib.hid ⟨j + 1, _, by go_num, by omega, by omega, HB6.out, by rw [HKP.out]; exact HPU.out⟩
            · have hposd : decide (0 < x) = false := decide_eq_false hpos
              have HKN := Lib.hid (show addK L [x0, x1, x2, x3] (j + 1) = addK L [x0, x1, x2, x3] j from HST.out.trans (if_neg hpos))
              clear hpos hb4 hr4
              go_wp2_with fail
              go_roundg (4 - (j + 1))
              case measure => omega
              case rel => exact Lib.hid ⟨j + 1, vs2, by go_num, by omega, by omega, HB4.out, by rw [HKN.out]; exact HR4.out⟩
          · obtain rfl : j = 4 := by omega
            clear hb4 hr4
            go_wp2_with fail
            go_roundg (es.length - (k + 1))
            case measure => omega
            case rel =>
              have hrr := HR4.out
              rw [addK_four hL4 rfl] at hrr
              have hts := HTS.out
              unfold levStep at hts
              dsimp only at hts
              rw [HWS.out] at hts
              exact Lib.hid ⟨k + 1, vs2, by go_num, by omega, by omega, by rw [hts], HB4.out, by rw [hts]; exact hrr⟩
    · obtain rfl : k = es.length := by omega
      have hltz : ¬ (es.length : Int) < (es.length : Int) := by omega
      have hrr := HR.out
      rw [List.take_length] at hrr
      have z0 := hrr.cell 0 (by omega)
      have z1 := hrr.cell 1 (by omega)
      have z2 := hrr.cell 2 (by omega)
      have z3 := hrr.cell 3 (by omega)
      have p0 : ∀ j, j < 4 → wr.cell? ⟨W.heap.size + 1, j, none⟩ = some (.slice none 0 0) ∧ wr.frozen? ⟨W.heap.size + 1, j, none⟩ = false := fun j hj => by
        rw [HB.out.cell (p := ⟨W.heap.size + 1, j, none⟩) hg1, HB.out.frozen (p := ⟨W.heap.size + 1, j, none⟩) hg1]
        exact HRS.out j hj
      have q0 := (p0 0 (by omega)).1
      have q1 := (p0 1 (by omega)).1
      have q2 := (p0 2 (by omega)).1
      have q3 := (p0 3 (by omega)).1
      have f0 := (p0 0 (by omega)).2
      have f1 := (p0 1 (by omega)).2
      have f2 := (p0 2 (by omega)).2
      have f3 := (p0 3 (by omega)).2
      obtain ⟨s0, d0, hv0, _, _⟩ := Own.row (hrr.own 0 (by omega))
      obtain ⟨s1, d1, hv1, _, _⟩ := Own.row (hrr.own 1 (by omega))
      obtain ⟨s2, d2, hv2, _, _⟩ := Own.row (hrr.own 2 (by omega))
      obtain ⟨s3, d3, hv3, _, _⟩ := Own.row (hrr.own 3 (by omega))
      rw [hv0] at z0
      rw [hv1] at z1
      rw [hv2] at z2
      rw [hv3] at z3
      have HV := Lib.hid (show vs 0 = _ ∧ vs 1 = _ ∧ vs 2 = _ ∧ vs 3 = _ from ⟨hv0, hv1, hv2, hv3⟩)
      have HRR := Lib.hid hrr
      clear p0 hrr HR hv0 hv1 hv2 hv3
      obtain ⟨n0, hn0⟩ : ∃ n, ((levSt T.sh T.top es).1.getD 0 []).length = n := ⟨_, rfl⟩
      obtain ⟨n1, hn1⟩ : ∃ n, ((levSt T.sh T.top es).1.getD 1 []).length = n := ⟨_, rfl⟩
      obtain ⟨n2, hn2⟩ : ∃ n, ((levSt T.sh T.top es).1.getD 2 []).length = n := ⟨_, rfl⟩
      obtain ⟨n3, hn3⟩ : ∃ n, ((levSt T.sh T.top es).1.getD 3 []).length = n := ⟨_, rfl⟩
      rw [hn0] at z0 HV
      rw [hn1] at z1 HV
      rw [hn2] at z2 HV
      rw [hn3] at z3 HV
      clear hn0 hn1 hn2 hn3
      go_wp2_with fail
      refine bodyPost_ret (v := .agg #[.slice s0 n0 d0, .slice s1 n1 d1, .slice s2 n2 d2, .slice s3 n3 d3]) (by simp [results, Tryd.results12, go_sem, q0, q1, q2, q3]) rfl ⟨vs, by rw [HV.out.1, HV.out.2.1, HV.out.2.2.1, HV.out.2.2.2], ?_, ?_⟩
      · exact lv_end HB0.out HB.out (by omega) _ _ _ _
      · intro i hi
        refine ownI_lower (B := g + 1) ?_ (by omega)
        exact ownsRow_setCell_below (ownsRow_setCell_below (ownsRow_setCell_below (ownsRow_setCell_below (HRR.out.own i hi) (show W.heap.size + 1 < g + 1 by omega) _) (show W.heap.size + 1 < g + 1 by omega) _) (show W.heap.size + 1 < g + 1 by omega) _) (show W.heap.size + 1 < g + 1 by omega) _
end Go.Proofs.YtcocmmndonlhkaaDoor
