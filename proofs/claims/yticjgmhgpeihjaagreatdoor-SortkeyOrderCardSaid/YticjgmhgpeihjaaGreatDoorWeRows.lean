/-
  Layer weigh: a table's rows and elements as they stand in memory; rows of elements of the call's own; runes held against runes.
-/
import Derived.Test.YticjgmhgpeihjaaGreatDoorLoFind
import Derived.Test.YticjgmhgpeihjaaGreatDoorWeLive
namespace Go.Proofs.YticjgmhgpeihjaaGreatDoor
open Go.RowKit Go.Gz Go.Sort

/-! ### elements -/
def flatE (xs : List EL) : List Value := xs.flatMap fun x => [.int .i64 x.p, .int .i64 x.s, .int .i64 x.t]
/-- slice pointer p reads in w as the elements xs. -/
def Els (w : World) (p : Option Addr) (xs : List EL) : Prop :=
  xs = [] ∨ ∃ b off, p = some ⟨b, off, none⟩ ∧ b < w.heap.size ∧ ∀ j, j < xs.length →
    w.cell? ⟨b, off + j * 3, none⟩ = some (.int .i64 xs[j]!.p) ∧ w.cell? ⟨b, off + j * 3 + 1, none⟩ = some (.int .i64 xs[j]!.s) ∧ w.cell? ⟨b, off + j * 3 + 2, none⟩ = some (.int .i64 xs[j]!.t)
theorem flatE_append (a b : List EL) : flatE (a ++ b) = flatE a ++ flatE b := by simp [flatE]
theorem flatE_length : ∀ xs : List EL, (flatE xs).length = xs.length * 3
  | [] => rfl
  | x :: t => by
    have e : flatE (x :: t) = [.int .i64 x.p, .int .i64 x.s, .int .i64 x.t] ++ flatE t := by simp [flatE]
    rw [e, List.length_append, flatE_length t]; simp; omega
theorem flatE_get : ∀ (ls : List EL) (j : Nat), j < ls.length → (flatE ls)[j * 3]? = some (.int .i64 ls[j]!.p) ∧ (flatE ls)[j * 3 + 1]? = some (.int .i64 ls[j]!.s) ∧ (flatE ls)[j * 3 + 2]? = some (.int .i64 ls[j]!.t)
  | [], _, h => by simp at h
  | x :: t, 0, _ => ⟨rfl, rfl, rfl⟩
  | x :: t, j + 1, h => by
    have ih := flatE_get t j (by simpa using h)
    have e : flatE (x :: t) = [.int .i64 x.p, .int .i64 x.s, .int .i64 x.t] ++ flatE t := by simp [flatE]
    have g : (x :: t)[j + 1]! = t[j]! := by simp
    rw [e, g, show (j + 1) * 3 = 3 + j * 3 by omega]
    refine ⟨?_, ?_, ?_⟩
    · rw [List.getElem?_append_right (by simp)]; simpa using ih.1
    · rw [List.getElem?_append_right (by simp; omega)]; rw [show 3 + j * 3 + 1 - [Value.int .i64 x.p, .int .i64 x.s, .int .i64 x.t].length = j * 3 + 1 by simp; omega]; exact ih.2.1
    · rw [List.getElem?_append_right (by simp; omega)]; rw [show 3 + j * 3 + 2 - [Value.int .i64 x.p, .int .i64 x.s, .int .i64 x.t].length = j * 3 + 2 by simp; omega]; exact ih.2.2
theorem flatE_one : ∀ (xs : List EL) (u : Value), u ∈ flatE xs → u.oneCell' = true := by
  intro xs u hu
  obtain ⟨x, _, h⟩ := List.mem_flatMap.1 hu
  simp only [List.mem_cons, List.not_mem_nil, or_false] at h
  rcases h with rfl | rfl | rfl <;> rfl
theorem Els.below {w w' : World} {p : Option Addr} {xs : List EL} (h : Els w p xs) (hb : Below w.heap.size w w') : Els w' p xs := by
  rcases h with h | ⟨b, off, hp, hlt, hc⟩
  · exact Or.inl h
  · refine Or.inr ⟨b, off, hp, Nat.lt_of_lt_of_le hlt hb.size, fun j hj => ?_⟩
    obtain ⟨h1, h2, h3⟩ := hc j hj
    exact ⟨by rw [hb.cell (p := ⟨b, off + j * 3, none⟩) hlt]; exact h1, by rw [hb.cell (p := ⟨b, off + j * 3 + 1, none⟩) hlt]; exact h2, by rw [hb.cell (p := ⟨b, off + j * 3 + 2, none⟩) hlt]; exact h3⟩
theorem Els.at_ {W w : World} {p : Option Addr} {xs : List EL} (h : Els W p xs) (hb : Below W.heap.size W w) {j : Nat} (hj : j < xs.length) :
    ∃ b off, p = some ⟨b, off, none⟩ ∧ b < W.heap.size ∧ w.cell? ⟨b, off + j * 3, none⟩ = some (.int .i64 xs[j]!.p) ∧ w.cell? ⟨b, off + j * 3 + 1, none⟩ = some (.int .i64 xs[j]!.s) ∧ w.cell? ⟨b, off + j * 3 + 2, none⟩ = some (.int .i64 xs[j]!.t) := by
  rcases h with h' | ⟨b, off, hp, hlt, hc⟩
  · rw [h'] at hj; simp at hj
  · obtain ⟨h1, h2, h3⟩ := hc j hj
    exact ⟨b, off, hp, hlt, by rw [hb.cell (p := ⟨b, off + j * 3, none⟩) hlt]; exact h1, by rw [hb.cell (p := ⟨b, off + j * 3 + 1, none⟩) hlt]; exact h2, by rw [hb.cell (p := ⟨b, off + j * 3 + 2, none⟩) hlt]; exact h3⟩
theorem Els.flat {w : World} {b off : Nat} {xs : List EL} (h : Els w (some ⟨b, off, none⟩) xs) : ∀ j u, (flatE xs)[j]? = some u → w.cell? ⟨b, off + j, none⟩ = some u := by
  intro j u hj
  have hlt : j < xs.length * 3 := by
    have := (List.getElem?_eq_some_iff.1 hj).1; rwa [flatE_length] at this
  obtain ⟨q, hq, hc⟩ : ∃ q, q < xs.length ∧ (j = q * 3 ∨ j = q * 3 + 1 ∨ j = q * 3 + 2) := ⟨j / 3, by omega, by omega⟩
  obtain ⟨g1, g2, g3⟩ := flatE_get xs q hq
  rcases h with h' | ⟨b', off', hp, _, hcell⟩
  · rw [h'] at hq; simp at hq
  · injection hp with hp; injection hp with e1 e2 _
    subst e1; subst e2
    obtain ⟨c1, c2, c3⟩ := hcell q hq
    rcases hc with rfl | rfl | rfl
    · rw [g1] at hj; rw [c1]; exact hj
    · rw [g2] at hj; rw [← Nat.add_assoc, c2]; exact hj
    · rw [g3] at hj; rw [← Nat.add_assoc, c3]; exact hj
theorem els_lit (w : World) (b : Nat) (t : TypeId) (fr : Nat × Nat) (xs : List EL) (h : w.heap[b]? = some (.cells (flatE xs).toArray t fr)) : Els w (some ⟨b, 0, none⟩) xs := by
  refine Or.inr ⟨b, 0, rfl, (Array.getElem?_eq_some_iff.1 h).1, fun j hj => ?_⟩
  obtain ⟨h1, h2, h3⟩ := flatE_get xs j hj
  simp only [World.cell?, h, Nat.zero_add, List.getElem?_toArray]
  exact ⟨h1, h2, h3⟩

/-! ### rows -/
def RowAt (w : World) (x : WR) : Prop := (Row w .i32 x.op x.of ∧ x.of.length ≤ x.oc ∧ (x.op = none → x.oc = 0)) ∧ (Els w x.tp x.to ∧ x.to.length ≤ x.tc ∧ (x.tp = none → x.tc = 0))
theorem RowAt.below {w w' : World} {x : WR} (h : RowAt w x) (hb : Below w.heap.size w w') : RowAt w' x := ⟨⟨h.1.1.below hb, h.1.2⟩, ⟨h.2.1.below hb, h.2.2⟩⟩
theorem RowAt.zero (w : World) : RowAt w WR.zero := ⟨⟨Or.inl rfl, Nat.le_refl _, fun _ => rfl⟩, ⟨Or.inl rfl, Nat.le_refl _, fun _ => rfl⟩⟩
/-- slice pointer p reads in w as the rows rs. -/
def Wrs (w : World) (p : Option Addr) (rs : List WR) : Prop :=
  rs = [] ∨ ∃ b off, p = some ⟨b, off, none⟩ ∧ b < w.heap.size ∧ ∀ j, j < rs.length →
    w.cell? ⟨b, off + j * 2, none⟩ = some (.slice rs[j]!.op rs[j]!.of.length rs[j]!.oc) ∧ w.cell? ⟨b, off + j * 2 + 1, none⟩ = some (.slice rs[j]!.tp rs[j]!.to.length rs[j]!.tc) ∧ RowAt w rs[j]!
theorem Wrs.below {w w' : World} {p : Option Addr} {rs : List WR} (h : Wrs w p rs) (hb : Below w.heap.size w w') : Wrs w' p rs := by
  rcases h with h | ⟨b, off, hp, hlt, hc⟩
  · exact Or.inl h
  · refine Or.inr ⟨b, off, hp, Nat.lt_of_lt_of_le hlt hb.size, fun j hj => ?_⟩
    obtain ⟨h1, h2, h3⟩ := hc j hj
    exact ⟨by rw [hb.cell (p := ⟨b, off + j * 2, none⟩) hlt]; exact h1, by rw [hb.cell (p := ⟨b, off + j * 2 + 1, none⟩) hlt]; exact h2, h3.below hb⟩
theorem Wrs.at_ {W w : World} {p : Option Addr} {rs : List WR} (h : Wrs W p rs) (hb : Below W.heap.size W w) {j : Nat} (hj : j < rs.length) :
    ∃ b off, p = some ⟨b, off, none⟩ ∧ b < W.heap.size ∧ w.cell? ⟨b, off + j * 2, none⟩ = some (.slice rs[j]!.op rs[j]!.of.length rs[j]!.oc) ∧ w.cell? ⟨b, off + j * 2 + 1, none⟩ = some (.slice rs[j]!.tp rs[j]!.to.length rs[j]!.tc) ∧ RowAt w rs[j]! := by
  rcases h with h' | ⟨b, off, hp, hlt, hc⟩
  · rw [h'] at hj; simp at hj
  · obtain ⟨h1, h2, h3⟩ := hc j hj
    exact ⟨b, off, hp, hlt, by rw [hb.cell (p := ⟨b, off + j * 2, none⟩) hlt]; exact h1, by rw [hb.cell (p := ⟨b, off + j * 2 + 1, none⟩) hlt]; exact h2, h3.below hb⟩
theorem Wrs.mem {w : World} {p : Option Addr} {rs : List WR} (h : Wrs w p rs) {x : WR} (hx : x ∈ rs) : RowAt w x := by
  obtain ⟨i, hi, rfl⟩ := List.getElem_of_mem hx
  obtain ⟨_, _, _, _, _, _, h3⟩ := h.at_ (Below.refl _ _) hi
  rwa [getElem!_pos rs i hi] at h3
theorem getW_mem {rs : List WR} {i : Nat} (h : i < rs.length) : rs[i]! ∈ rs := by
  rw [getElem!_pos rs i h]; exact List.getElem_mem h
theorem getE_mem {rs : List EL} {i : Nat} (h : i < rs.length) : rs[i]! ∈ rs := by
  rw [getElem!_pos rs i h]; exact List.getElem_mem h
/-- a table. -/
structure TB where
  lp : Option Addr
  ls : List LR
  lc : Nat
  rp : Option Addr
  rs : List WR
  rc : Nat
  top : Int
  sh : Bool
abbrev TB.v (T : TB) : Value := .agg #[.slice T.lp T.ls.length T.lc, .slice T.rp T.rs.length T.rc, .int .i64 T.top, .bool T.sh]
structure TableAt (w : World) (T : TB) : Prop where
  lore : Lores w T.lp T.ls
  rows : Wrs w T.rp T.rs
  few : T.ls.length < 1000000 ∧ T.rs.length < 1000000 ∧ ∀ x ∈ T.rs, x.of.length ≤ 9223372036854775807 ∧ x.to.length ≤ 9223372036854775807
theorem TableAt.below {w w' : World} {T : TB} (h : TableAt w T) (hb : Below w.heap.size w w') : TableAt w' T := ⟨h.lore.below hb, h.rows.below hb, h.few⟩

/-! ### a row of elements that the call owns -/
theorem info_el : (Tryz.prog.info? 44).map (fun i => (i.zero, i.size, i.bytes)) = some (some (.agg #[.int .i64 0, .int .i64 0, .int .i64 0]), 3, 24) := by kernel_rfl
def OwnE (w : World) (B : Nat) (v : Value) (xs : List EL) : Prop := w.ownsRow B 44 3 v xs.length (flatE xs)
theorem OwnE.nil (w : World) (B : Nat) : OwnE w B (.slice none 0 0) [] := World.ownsRow_nil w B 44 3
theorem OwnE.row {w : World} {B : Nat} {v : Value} {xs : List EL} (h : OwnE w B v xs) : ∃ p c, v = .slice p xs.length c ∧ xs.length ≤ c ∧ (p = none → c = 0) ∧ Els w p xs := by
  obtain ⟨h1, ⟨rfl, h0⟩ | ⟨g, cap, cur, rfl, hg, hh, hc, hm, hs, ht⟩⟩ := h
  · have : xs = [] := List.eq_nil_of_length_eq_zero h0
    subst this
    exact ⟨none, 0, rfl, Nat.le_refl _, fun _ => rfl, Or.inl rfl⟩
  · refine ⟨_, cap, rfl, hc, (fun hh => by cases hh), Or.inr ⟨g, 0, rfl, (Array.getElem?_eq_some_iff.1 hh).1, fun j hj => ?_⟩⟩
    have each : ∀ z u, z < xs.length * 3 → (flatE xs)[z]? = some u → w.cell? ⟨g, z, none⟩ = some u := fun z u hz hu => by
      have := congrArg (·[z]?) ht
      simp only [List.getElem?_take, Array.getElem?_toList] at this
      rw [if_pos hz, hu] at this
      simp only [World.cell?, hh]
      exact this
    obtain ⟨g1, g2, g3⟩ := flatE_get xs j hj
    simp only [Nat.zero_add]
    exact ⟨each _ _ (by omega) g1, each _ _ (by omega) g2, each _ _ (by omega) g3⟩
theorem OwnE.lt {w : World} {B : Nat} {v : Value} {xs : List EL} (h : OwnE w B v xs) : ∀ g, v.ownBlock = some g → B ≤ g := fun g hg => (World.ownsRow.lt h g hg).1
theorem OwnE.below {w w' : World} {B : Nat} {v : Value} {xs : List EL} (h : OwnE w B v xs) (hb : Below w.heap.size w w') : OwnE w' B v xs := by
  obtain ⟨h1, h2 | ⟨g, cap, cur, hv, hg, hh, hr⟩⟩ := h
  · exact ⟨h1, Or.inl h2⟩
  · exact ⟨h1, Or.inr ⟨g, cap, cur, hv, hg, (hb.block g (Array.getElem?_eq_some_iff.1 hh).1).trans hh, hr⟩⟩
theorem OwnE.lower {w : World} {B B' : Nat} {v : Value} {xs : List EL} (h : OwnE w B v xs) (hB : B' ≤ B) : OwnE w B' v xs := by
  obtain ⟨h1, h2 | ⟨g, cap, cur, hv, hg, hr⟩⟩ := h
  · exact ⟨h1, Or.inl h2⟩
  · exact ⟨h1, Or.inr ⟨g, cap, cur, hv, Nat.le_trans hB hg, hr⟩⟩
set_option maxRecDepth 100000 in
/-- append of a whole slice of elements onto a row that the call owns. -/
theorem wpList_ownE_row {w : World} {ops : Array Oper} {rest : List Oper} {o : Oper} {a : Act} {Q : Exit → Act → World → Prop}
    (hg : o.guard = none) (s x : Operand) (hop : o.op = Op.call { callee := Callee.builtin Builtin.append, args := #[s, x], argTypes := #[45, 45] })
    (B : Nat) (v : Value) (xs : List EL) (hs : a.eval s = v) (hown : OwnE w B v xs)
    (p : Option Addr) (c : Nat) (ys : List EL) (hx : a.eval x = .slice p ys.length c) (hrow : Els w p ys) (hpc : p = none → c = 0)
    (hlen : xs.length + ys.length ≤ 1000000) (hB : B ≤ w.heap.size)
    (hK : ∀ v' w', OwnE w' B v' (xs ++ ys) → w.grownBy w' v.ownBlock → wpList Tryz.prog ops Q rest (a.put o.dst v') w') :
    wpList Tryz.prog ops Q (o :: rest) a w := by
  obtain ⟨i0, hi, hz0, hz1, hz2⟩ := info_parts info_el
  cases p with
  | none =>
    obtain rfl : ys = [] := by
      rcases hrow with h | ⟨b, off, hp', _⟩
      · exact h
      · cases hp'
    obtain rfl := hpc rfl
    refine wpList_append_own_none hg s x 45 hop B 44 i0 3 Tryz.underlying45 hi v xs.length (flatE xs) hs hown hx ?_
    refine hK v w ?_ (World.grownBy.refl _ _)
    rw [List.append_nil]; exact hown
  | some ad =>
    refine wpList_append_own w hg s x 45 hop B 44 i0 (.agg #[.int .i64 0, .int .i64 0, .int .i64 0]) 3 24 Tryz.underlying45 hi hz0 hz1 hz2 rfl (by decide) v xs.length (flatE xs) hs hown ad ys.length c (flatE ys) hx (flatE_length ys) ?_ (flatE_one ys) (by unfold maxLen; omega) (by omega) hB ?_
    · intro j u hj
      have hrow' := hrow
      rcases hrow with h | ⟨b, off, hp', _, hc⟩
      · subst h; simp [flatE] at hj
      · injection hp' with hp'; subst hp'
        rw [Addr.add_lit]
        exact hrow'.flat j u hj
    · intro v' w' ho hgr _
      refine hK v' w' ?_ hgr
      unfold OwnE
      rw [List.length_append, flatE_append]
      exact ho

/-! ### runes held against runes -/
theorem cmpL_step {a b : List Int} {k : Nat} (ha : k < a.length) (hb : k < b.length) : cmpL (a.drop k) (b.drop k) = if a.getD k 0 < b.getD k 0 then -1 else if b.getD k 0 < a.getD k 0 then 1 else cmpL (a.drop (k + 1)) (b.drop (k + 1)) := by
  rw [List.drop_eq_getElem_cons ha, List.drop_eq_getElem_cons hb, cmpL]
  simp [List.getD, ha, hb]
set_option maxHeartbeats 1000000 in
theorem compare_any (a b : List Int) (p q : Option Addr) (c d : Nat) (W : World) (hp : Row W .i32 p a) (hq : Row W .i32 q b) (ha : a.length ≤ 9223372036854775807) :
    Calls Tryz.prog 90 #[.slice p a.length c, .slice q b.length d] W fun e w' => e = .returned (.int .i64 (cmpL a b)) ∧ W = w' := by
  have HP := Lib.hid hp; clear hp
  have HQ := Lib.hid hq; clear hq
  obtain ⟨cv, hcv⟩ : ∃ cv, cmpL a b = cv := ⟨_, rfl⟩
  rw [hcv]
  have HV := Lib.hid hcv; clear hcv
  go_enter Tryz.func90, Tryz.ntmps90
  go_wp2_with fail
  go_loopg [11] a.length (fun g va wr => ∃ k : Nat, va = .int .i64 k ∧ k ≤ a.length ∧ k ≤ b.length ∧ a.length - k ≤ g ∧ W = wr ∧ Hid (cmpL (a.drop k) (b.drop k) = cv))
  case atStart => exact ⟨0, rfl, Nat.zero_le _, Nat.zero_le _, by omega, rfl, Lib.hid HV.out⟩
  case round =>
    obtain ⟨k, rfl, hk, hkb, hg, hw, HE⟩ := hrel
    subst hw
    by_cases hlt : k < a.length
    · have hltz : (k : Int) < (a.length : Int) := by omega
      obtain ⟨b1, o1, rfl, _, c1⟩ := row_cell HP.out (Below.refl _ _) hlt
      by_cases hlb : k < b.length
      · have hlbz : (k : Int) < (b.length : Int) := by omega
        obtain ⟨b2, o2, rfl, _, c2⟩ := row_cell HQ.out (Below.refl _ _) hlb
        have hs := cmpL_step hlt hlb
        obtain ⟨x, hx⟩ : ∃ x, a.getD k 0 = x := ⟨_, rfl⟩
        obtain ⟨y, hy⟩ : ∃ x, b.getD k 0 = x := ⟨_, rfl⟩
        rw [hx] at c1 hs
        rw [hy] at c2 hs
        clear hx hy
        have hcmp := Lib.hid (compare_rune x y W)
        have HS := Lib.hid hs; clear hs
        by_cases hxy : x = y
        · have he : cmpI32 x y = 0 := (cmpI32_eq x y).2 hxy
          rw [he] at hcmp
          have HX := Lib.hid hxy; clear hxy he
          go_wp2_with (go_at_call 102; refine hcmp.out.mono ?_; rintro e w' ⟨rfl, rfl⟩)
          go_roundg (a.length - (k + 1))
          case measure => omega
          case rel => exact ⟨k + 1, by go_num, by omega, by omega, by omega, rfl, Lib.hid (by rw [← HE.out, HS.out, HX.out]; simp)⟩
        · have hne : cmpI32 x y ≠ 0 := fun h => hxy ((cmpI32_eq x y).1 h)
          obtain ⟨z, hz⟩ : ∃ z, cmpI32 x y = z := ⟨_, rfl⟩
          rw [hz] at hcmp hne
          have hzb : ((z : Int) != 0) = true := by simp [hne]
          have HZ := Lib.hid hz
          have HX := Lib.hid hxy
          clear hz hne hxy
          go_wp2_with (go_at_call 102; refine hcmp.out.mono ?_; rintro e w' ⟨rfl, rfl⟩)
          go_ret
          refine ⟨?_, rfl⟩
          have : cv = z := by
            rw [← HE.out, HS.out, ← HZ.out]
            unfold cmpI32
            have := HX.out
            split
            · rfl
            · rw [if_pos (by omega), if_pos (by omega)]
          rw [this]; rfl
      · obtain rfl : k = b.length := by omega
        have hlbz : ¬ (b.length : Int) < (b.length : Int) := by omega
        have hv : cv = 1 := by
          rw [← HE.out, List.drop_length]
          rw [List.drop_eq_getElem_cons hlt]; rfl
        have HVV := Lib.hid hv; clear HE hv
        go_wp2_with fail
        go_ret
        exact ⟨by rw [HVV.out]; rfl, rfl⟩
    · obtain rfl : k = a.length := by omega
      have hltz : ¬ (a.length : Int) < (a.length : Int) := by omega
      by_cases hlb : a.length < b.length
      · have hlbz : (a.length : Int) < (b.length : Int) := by omega
        have hv : cv = -1 := by
          rw [← HE.out, List.drop_length]
          rw [List.drop_eq_getElem_cons hlb]; rfl
        have HVV := Lib.hid hv; clear HE hv
        go_wp2_with fail
        go_ret
        exact ⟨by rw [HVV.out]; rfl, rfl⟩
      · have hlbz : ¬ (a.length : Int) < (b.length : Int) := by omega
        have hv : cv = 0 := by
          rw [← HE.out, List.drop_length, show a.length = b.length by omega, List.drop_length]; rfl
        have HVV := Lib.hid hv; clear HE hv
        go_wp2_with fail
        go_ret
        exact ⟨by rw [HVV.out]; rfl, rfl⟩

theorem compareRow_any (x : WR) (k : List Int) (q : Option Addr) (d : Nat) (W : World) (hx : RowAt W x) (hq : Row W .i32 q k) (ha : x.of.length ≤ 9223372036854775807) :
    Calls Tryz.prog 72 #[.agg #[.slice x.op x.of.length x.oc, .slice x.tp x.to.length x.tc], .slice q k.length d] W fun e w' => e = .returned (.int .i64 (cmpL x.of k)) ∧ Below W.heap.size W w' := by
  have hb := Lib.hid ((Below.refl W.heap.size W).alloc (Nat.le_refl _) (.cells #[.slice x.op x.of.length x.oc, .slice x.tp x.to.length x.tc] 47))
  have hc := Lib.hid (fun w hb => compare_any x.of k x.op q x.oc d w (hx.1.1.below hb) (hq.below hb) ha)
  clear hx hq
  go_enter Tryz.func72, Tryz.ntmps72
  go_wp2_with (go_at_call 90; refine (hc.out _ hb.out).mono ?_; rintro e w' ⟨rfl, rfl⟩)
  go_ret
  exact ⟨rfl, hb.out⟩
end Go.Proofs.YticjgmhgpeihjaaGreatDoor
