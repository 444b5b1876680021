/-
  Several texts in one: WeBox, WePart, WeFew.
-/
import Derived.Test.YtnbdekmmailjmaaWeArgs
import Derived.Test.YtnbdekmmailjmaaWeRefB
import Derived.Maps.AppendAt
import Derived.Laws.AppendOwnNone
import Derived.Test.YtnbdekmmailjmaaWeRef7
namespace Go.Proofs.Ytnbdekmmailjmaa
open Go.RowKit Go.Gz Go.Sort

theorem own_slice {w : World} {B : Nat} {v : Value} {xs : List Int} (h : Own w B 21 .i32 v xs) : ∃ q c, v = .slice q xs.length c ∧ (q = none → c = 0) ∧ Row w .i32 q xs := by
  have h' := h
  obtain ⟨_, ⟨rfl, h0⟩ | ⟨g, cap', cur, rfl, _⟩⟩ := h
  · have h00 : xs = [] := List.eq_nil_of_length_eq_zero h0
    exact ⟨none, 0, by rw [h00]; rfl, fun _ => rfl, Or.inl h00⟩
  · obtain ⟨p', c', hv, _, hr⟩ := Own.row h'
    injection hv with hp hn hcc
    exact ⟨some ⟨g, 0, none⟩, cap', by rw [hn], (fun h => by cases h), by rw [hp]; exact hr⟩
/-- a table's box. -/
structure BoxAt (w : World) (B : Nat) (T : TB) : Prop where
  lt : B < w.heap.size
  t0 : w.cell? ⟨B, 0, none⟩ = some (.slice T.lp T.ls.length T.lc)
  t1 : w.cell? ⟨B, 1, none⟩ = some (.slice T.rp T.rs.length T.rc)
  t2 : w.cell? ⟨B, 2, none⟩ = some (.int .i64 T.top)
  t3 : w.cell? ⟨B, 3, none⟩ = some (.bool T.sh)
theorem BoxAt.below {w w' : World} {B : Nat} {T : TB} (h : BoxAt w B T) (hb : Below w.heap.size w w') : BoxAt w' B T :=
  ⟨Nat.lt_of_lt_of_le h.lt hb.size, cellB hb h.t0 h.lt, cellB hb h.t1 h.lt, cellB hb h.t2 h.lt, cellB hb h.t3 h.lt⟩
theorem BoxAt.new (W : World) (T : TB) (t : TypeId) : BoxAt (W.alloc (.cells #[.slice T.lp T.ls.length T.lc, .slice T.rp T.rs.length T.rc, .int .i64 T.top, .bool T.sh] t)) W.heap.size T :=
  ⟨by simp, by simp, by simp, by simp, by simp⟩
theorem TabIn.at_ {W w : World} {T : TB} (h : TabIn W T) (hb : Below W.heap.size W w) (h1 : T.ls.length ≤ 100) (h2 : T.rs.length ≤ 100) : TableAt w T :=
  ⟨h.lore.below hb, h.rows.below hb, by omega, by omega, h.by_⟩

/-- rows of at most four elements: what a text of so many runes weighs has at most four times as many. -/
theorem lengthen_few {α : Type} {f : α → Int} {cls : Int → Int} {row : List Int → Option WR} (hr : ∀ k x, row k = some x → x.to.length ≤ 4) : ∀ (l : List α) (best : WR) (passed : Int), best.to.length ≤ 4 → (lengthenG f cls row best passed l).1.to.length ≤ 4
  | [], best, passed, h => by simpa [lengthenG] using h
  | r :: t, best, passed, h => by
    unfold lengthenG
    split
    · exact h
    · split
      · exact lengthen_few hr t best passed h
      · split
        · rename_i x hx
          exact lengthen_few hr t x passed (hr _ x hx)
        · exact lengthen_few hr t best _ h
theorem weighF_few {α : Type} {f : α → Int} {cls : Int → Int} {row : List Int → Option WR} (hr : ∀ k x, row k = some x → x.to.length ≤ 4) : ∀ (n : Nat) (l : List α), (weighF f cls row n l).length ≤ 4 * n
  | 0, _ => by simp [weighF]
  | _ + 1, [] => by simp [weighF]
  | n + 1, r :: t => by
    unfold weighF
    split
    · have := weighF_few (f := f) (cls := cls) hr n t
      simp [impl]; omega
    · rename_i k x hk
      have h1 := lengthen_few (f := f) (cls := cls) hr ((r :: t).drop k) x 0 (hr _ x (longTo_some f row hk).2.2.2)
      have h2 := weighF_few (f := f) (cls := cls) hr n (lengthenG f cls row x 0 ((r :: t).drop k)).2
      simp only [List.length_append]; omega
theorem elem_few {ls : List LR} {rs : List WR} {top : Int} (h : mayWB ls rs top = true) (s : List Int) : (elemL ls rs s).length ≤ 4 * (normalL ls s).length :=
  weighF_few (fun _ x hx => (mayRow_of (mayW_row h x (row_some hx).1)).2.2.1) _ _

end Go.Proofs.Ytnbdekmmailjmaa
namespace Go.Proofs.Ytnbdekmmailjmaa
open Go.RowKit Go.Gz Go.Sort

theorem find_none {ls : List LR} {z : Int} (h : ∀ x ∈ ls, x.r ≠ z) : ls.find? (fun x => decide (x.r = z)) = none := by
  rw [List.find?_eq_none]
  intro x hx
  simpa using h x hx
theorem cls_none {ls : List LR} {z : Int} (h : ∀ x ∈ ls, x.r ≠ z) : clsL ls z = 0 := by
  unfold clsL findL
  rw [find_none h]; rfl
theorem to_none {ls : List LR} {z : Int} (h : ∀ x ∈ ls, x.r ≠ z) : toL ls z = [] := by
  unfold toL findL
  rw [find_none h]; rfl
theorem rowL_none {rs : List WR} {z : Int} (h : ∀ x ∈ rs, z ∉ x.of) (k : List Int) (hk : z ∈ k) : rowL rs k = none := by
  cases hr : rowL rs k with
  | none => rfl
  | some x =>
    obtain ⟨hx, rfl⟩ := row_some hr
    exact absurd hk (h x hx)
theorem apart_part {ls : List LR} {z : Int} (h : ∀ x ∈ ls, x.r ≠ z) (a b : List Int) : apartL ls (a ++ z :: b) = apartL ls a ++ z :: apartL ls b := by
  rw [apart_append]
  have h1 : ap1 ls z = [z] := by unfold ap1; rw [to_none h]; rfl
  have h2 : apartL ls (z :: b) = ap1 ls z ++ apartL ls b := by simp [apartL]
  rw [h2, h1]; rfl
theorem normal_part {ls : List LR} {z : Int} (h : ∀ x ∈ ls, x.r ≠ z) (a b : List Int) : normalL ls (a ++ z :: b) = normalL ls a ++ z :: normalL ls b := by
  unfold normalL
  rw [apart_part h, order_part (by rw [cls_none h]; exact Int.le_refl _)]
theorem elem_part {ls : List LR} {rs : List WR} {z : Int} (h : ∀ x ∈ ls, x.r ≠ z) (hr : ∀ x ∈ rs, z ∉ x.of) (a b : List Int) : elemL ls rs (a ++ z :: b) = elemL ls rs a ++ (impl z ++ elemL ls rs b) := by
  unfold elemL
  rw [normal_part h]
  exact weigh_part (rowL_none hr) (cls_none h) _ _ _ (Nat.le_refl _)
theorem any_part {z : Int} (hz : mayNotB z = false) (a b : List Int) : (a ++ z :: b).any mayNotB = (a.any mayNotB || b.any mayNotB) := by
  simp [hz]

/-- elements and an error's number, by a table that may be. -/
def RetEls (T : TB) (s : List Int) (W : World) (e : Ending) (w' : World) : Prop :=
  ∃ p n c er, e = .returned (.tuple #[.slice p n c, .int .i64 er]) ∧ Below W.heap.size W w' ∧ ((s.any mayNotB = true ∧ er = 2) ∨ (s.any mayNotB = false ∧ er = 0 ∧ n = (elemL T.ls T.rs s).length ∧ n ≤ c ∧ Els w' p (elemL T.ls T.rs s)))
theorem elements_is (T : TB) (hm : mayWB T.ls T.rs T.top = true) (s : List Int) (q : Option Addr) (c : Nat) (W : World) (hT : TableAt W T) (hs : Row W .i32 q s) (hz : s.length ≤ 60000) :
    Calls Try.prog 8 #[.agg #[.slice T.lp T.ls.length T.lc, .slice T.rp T.rs.length T.rc, .int .i64 T.top, .bool T.sh], .slice q s.length c] W (RetEls T s W) := by
  cases hv : s.any mayNotB with
  | true => exact (elements_text T hm s hv q c W hT hs hz).mono fun e w' h => ⟨none, 0, 0, 2, h.1, h.2, Or.inl ⟨hv, rfl⟩⟩
  | false =>
    refine (elements_ok T hm s hv q c W hT hs hz).mono fun e w' h => ?_
    obtain ⟨v, rfl, hb, hown⟩ := h
    obtain ⟨p, k, rfl, hck, _, hels⟩ := OwnE.row hown
    exact ⟨p, _, k, 0, rfl, hb, Or.inr ⟨hv, rfl, rfl, hck, hels⟩⟩

/-- append of a row of numbers onto a row of the call's own, at a step of a region that draws its order. -/
theorem step_own_row {P : Program} {w : World} {ops : Array Oper} {o : Oper} {a : Act} {K : Act → World → Prop} {Q : Exit → Act → World → Prop} {E : Prop} (hgd : o.guard = none) (s x : Operand) (t : TypeId)
    (ho : o.op = .call { callee := .builtin .append, args := #[s, x], argTypes := #[t, t] })
    (e : TypeId) (k : IntKind) (bytes : Nat) (h1 : P.underlying t = some (.slice e)) (hinfo : (P.info? e).map (fun i => (i.zero, i.size, i.bytes)) = some (some (.int k 0), 1, bytes)) (hby : bytes ≤ 8)
    (B : Nat) (v : Value) (xs : List Int) (hs : a.eval s = v) (hown : Own w B e k v xs)
    (p : Option Addr) (c : Nat) (ys : List Int) (hx : a.eval x = .slice p ys.length c) (hrow : Row w k p ys) (hpc : p = none → c = 0) (hlen : xs.length + ys.length ≤ 1000000) (hB : B ≤ w.heap.size)
    (hK : ∀ v' w', Own w' B e k v' (xs ++ ys) → w.grownBy w' v.ownBlock → Below B w w' → K (a.put o.dst v') w') :
    if Region.wanted o (yielded ops a.tmps) = true then Oper.wp P o a w K Q else E := by
  have hw : Region.wanted o (yielded ops a.tmps) = true := by simp [Region.wanted, hgd]
  rw [if_pos hw]
  obtain ⟨i0, hi, hz0, hz1, hz2⟩ := info_parts hinfo
  cases p with
  | none =>
    obtain rfl : ys = [] := by
      rcases hrow with h | ⟨b, off, hp', _⟩
      · exact h
      · cases hp'
    obtain rfl := hpc rfl
    have hrun := run_append_owned_none (P := P) (w := w) B t o.type e i0 1 h1 hi v xs.length (xs.map (Value.int k)) hown
    unfold Oper.wp
    have hx' : a.eval x = .slice none 0 0 := hx
    simp [execOp, ho, resolve, invoke, builtin, hs, hx', hrun, Result.andThen]
    exact hK v w (by rw [List.append_nil]; exact hown) (World.grownBy.refl _ _) (Below.refl _ _)
  | some ad =>
    obtain ⟨v', w', hr, h2, h3, _, _⟩ := run_append_own_at (P := P) w B t o.type e i0 (.int k 0) 1 bytes h1 hi hz0 hz1 hz2 rfl (by decide) v xs.length (xs.map (Value.int k)) hown ad ys.length c (ys.map (Value.int k)) (by simp) (by
      intro j u hj
      obtain ⟨hj', rfl⟩ := List.getElem?_eq_some_iff.1 hj
      simp only [List.length_map] at hj'
      rcases hrow with h | ⟨b, off, hp', _, hc⟩
      · rw [h] at hj'; simp at hj'
      · cases hp'
        rw [Addr.add_lit, hc j hj']
        simp [List.getD, hj']) (by
      intro u hu
      obtain ⟨y, _, rfl⟩ := List.mem_map.1 hu
      rfl) (by unfold maxLen; omega) (by
      have : (xs.length + ys.length) * bytes ≤ (xs.length + ys.length) * 8 := Nat.mul_le_mul_left _ hby
      omega) hB
    unfold Oper.wp
    simp [execOp, ho, resolve, invoke, builtin, hs, hx, hr, Result.andThen]
    refine hK v' w' ?_ h3 ((Below.refl B w).grown h3 hB fun g hg => (World.ownsRow.lt hown g hg).1)
    unfold Own
    rw [List.length_append, List.map_append]
    exact h2
theorem row_one {w : World} {G : Nat} {k : IntKind} {y : Int} (h : w.cell? ⟨G, 0, none⟩ = some (.int k y)) : Row w k (some ⟨G, 0, none⟩) [y] :=
  Or.inr ⟨G, 0, rfl, World.block_lt_of_cell? w _ h, fun j hj => by
    obtain rfl : j = 0 := by simpa using hj
    exact h⟩
theorem Els.front {w : World} {p : Option Addr} {xs ys : List EL} (h : Els w p (xs ++ ys)) : Els w p xs := by
  rcases h with h | ⟨b, off, hp, hlt, hc⟩
  · exact Or.inl (List.append_eq_nil_iff.1 h).1
  · refine Or.inr ⟨b, off, hp, hlt, fun j hj => ?_⟩
    have := hc j (by simp; omega)
    rwa [show (xs ++ ys)[j]! = xs[j]! by rw [getElem!_pos (xs ++ ys) j (by simp; omega), getElem!_pos xs j hj, List.getElem_append_left hj]] at this
theorem s_keep4 {wq w : World} {b0 : Nat} {v0 v1 v2 v3 : Value} (hb : Below wq.heap.size wq w) (h0 : b0 < wq.heap.size) (c0 : wq.cell? ⟨b0, 0, none⟩ = some v0) (c1 : wq.cell? ⟨b0, 1, none⟩ = some v1) (c2 : wq.cell? ⟨b0, 2, none⟩ = some v2) (c3 : wq.cell? ⟨b0, 3, none⟩ = some v3) :
    w.cell? ⟨b0, 0, none⟩ = some v0 ∧ w.cell? ⟨b0, 1, none⟩ = some v1 ∧ w.cell? ⟨b0, 2, none⟩ = some v2 ∧ w.cell? ⟨b0, 3, none⟩ = some v3 :=
  ⟨cellB hb c0 h0, cellB hb c1 h0, cellB hb c2 h0, cellB hb c3 h0⟩
/-- elements and an error's number, as a call left them in two variables. -/
def ZRel (T : TB) (s : List Int) (W : World) (z g : Value) (w' : World) : Prop :=
  ∃ p n c er, z = .slice p n c ∧ g = .int .i64 er ∧ Below W.heap.size W w' ∧ ((s.any mayNotB = true ∧ er = 2) ∨ (s.any mayNotB = false ∧ er = 0 ∧ n = (elemL T.ls T.rs s).length ∧ n ≤ c ∧ Els w' p (elemL T.ls T.rs s)))
end Go.Proofs.Ytnbdekmmailjmaa
namespace Go.Proofs.Ytnbdekmmailjmaa
open Go.RowKit Go.Gz Go.Sort

def FewPost (ls : List LR) (rs : List WR) (s : List Int) (W : World) (e : Ending) (w' : World) : Prop := ∃ bv : Bool, e = .returned (.bool bv) ∧ (bv = true → ls.length ≤ 100 ∧ rs.length ≤ 100 ∧ s.length ≤ 200) ∧ Below W.heap.size W w'

set_option maxHeartbeats 4000000 in
set_option maxRecDepth 100000 in
theorem few_any (lp : Option Addr) (ls : List LR) (lc : Nat) (rp : Option Addr) (rs : List WR) (rc : Nat) (top : Int) (sh : Bool) (s : List Int) (q : Option Addr) (c : Nat) (W : World) (hlo : Lores W lp ls) (hro : Wrs W rp rs) (hsz : ls.length ≤ 9223372036854775807) (hrz : rs.length ≤ 9223372036854775807) (hxs : ∀ x ∈ ls, x.to.length ≤ 9223372036854775807) (hof : ∀ x ∈ rs, x.of.length ≤ 9223372036854775807 ∧ x.to.length ≤ 9223372036854775807) (hz : s.length ≤ 9223372036854775807) :
    Calls Try.prog 7 #[.agg #[.slice lp ls.length lc, .slice rp rs.length rc, .int .i64 top, .bool sh], .slice q s.length c] W (FewPost ls rs s W) := by
  have HLO := Lib.hid hlo; clear hlo
  have HRO := Lib.hid hro; clear hro
  have HXS := Lib.hid hxs; clear hxs
  have HOF := Lib.hid hof; clear hof
  go_enter Try.func7, Try.ntmps7
  go_wp2_with fail
  obtain ⟨w0, hw0⟩ : ∃ w0, W.alloc (.cells #[.slice lp ls.length lc, .slice rp rs.length rc, .int .i64 top, .bool sh] 25) = w0 := ⟨_, rfl⟩
  rw [hw0]
  have hb0 := Lib.hid (show Below W.heap.size W w0 from hw0 ▸ (Below.refl _ _).alloc (Nat.le_refl _) _)
  have hs0 : W.heap.size < w0.heap.size := by rw [← hw0]; simp
  have T0 := Lib.hid (show w0.cell? ⟨W.heap.size, 0, none⟩ = some (.slice lp ls.length lc) by rw [← hw0]; simp)
  have T1 := Lib.hid (show w0.cell? ⟨W.heap.size, 1, none⟩ = some (.slice rp rs.length rc) by rw [← hw0]; simp)
  clear hw0
  go_loopg [5, 6] rs.length (fun g vn vi wr => ∃ (k : Nat) (z : Int), vn = .int .i64 z ∧ vi = .int .i64 k ∧ k ≤ rs.length ∧ rs.length - k ≤ g ∧ Hid (Below w0.heap.size w0 wr))
  case atStart => exact ⟨0, 0, rfl, rfl, Nat.zero_le _, by omega, Lib.hid (Below.refl _ _)⟩
  case round =>
    obtain ⟨k, z, rfl, rfl, hk, hg, HB⟩ := hrel
    have t1 := cellB HB.out T1.out hs0
    have t0 := cellB HB.out T0.out hs0
    have HW := Lib.hid (hb0.out.trans (HB.out.mono (Nat.le_of_lt hs0)))
    by_cases hlt : k < rs.length
    · have hltz : (k : Int) < (rs.length : Int) := by omega
      obtain ⟨b, off, rfl, hbW, c1, c2, _⟩ := HRO.out.at_ HW.out hlt
      obtain ⟨hf1, hf2⟩ := HOF.out _ (getW_mem hlt)
      generalize rs[k]! = x at c1 c2 hf1 hf2
      clear t0
      go_wp2_with fail
      go_quiet (fail)
      go_wp2_with fail
      go_roundg (rs.length - (k + 1))
      case measure => omega
      case rel => exact ⟨k + 1, _, rfl, by go_num, by omega, by omega, Lib.hid (below_drewN HB.out _)⟩
    · obtain rfl : k = rs.length := by omega
      have hltz : ¬ (rs.length : Int) < (rs.length : Int) := by omega
      go_wp2_with fail
      obtain ⟨w1, rfl⟩ : ∃ w1, w1 = wr := ⟨_, rfl⟩
      go_loopg [5, 7] ls.length (fun g vn vi w2 => ∃ (k : Nat) (z : Int), vn = .int .i64 z ∧ vi = .int .i64 k ∧ k ≤ ls.length ∧ ls.length - k ≤ g ∧ w2 = w1)
      case atStart => exact ⟨0, z, rfl, rfl, Nat.zero_le _, by omega, rfl⟩
      case round =>
        obtain ⟨k, z, rfl, rfl, hk, hg2, hw⟩ := hrel
        obtain rfl := hw
        by_cases hlt : k < ls.length
        · have hltz : (k : Int) < (ls.length : Int) := by omega
          obtain ⟨b, off, rfl, hbW, c1, c2, c3, _⟩ := HLO.out.at_ HW.out hlt
          have hf1 := HXS.out _ (get_mem hlt)
          generalize ls[k]! = x at c1 c2 c3 hf1
          go_wp2_with fail
          go_roundg (ls.length - (k + 1))
          case measure => omega
          case rel => exact ⟨k + 1, _, rfl, by go_num, by omega, by omega, rfl⟩
        · obtain rfl : k = ls.length := by omega
          have hltz : ¬ (ls.length : Int) < (ls.length : Int) := by omega
          by_cases h1 : rs.length ≤ 100
          · have h1z : decide ((rs.length : Int) ≤ 100) = true := decide_eq_true (by omega)
            by_cases h2 : ls.length ≤ 100
            · have h2z : decide ((ls.length : Int) ≤ 100) = true := decide_eq_true (by omega)
              by_cases h3 : z ≤ 1000
              · by_cases h4 : s.length ≤ 200
                · have h4z : (s.length : Int) ≤ 200 := by omega
                  have H := Lib.hid (show ls.length ≤ 100 ∧ rs.length ≤ 100 ∧ s.length ≤ 200 from ⟨h2, h1, h4⟩)
                  clear h1 h2 h4
                  go_wp2_with fail
                  go_ret
                  exact ⟨true, rfl, fun _ => H.out, HW.out⟩
                · have h4z : decide ((s.length : Int) ≤ 200) = false := decide_eq_false (by omega)
                  clear h4
                  go_wp2_with fail
                  go_ret
                  exact ⟨false, rfl, (fun h => by cases h), HW.out⟩
              · have h3z : decide (z ≤ 1000) = false := decide_eq_false h3
                clear h3
                go_wp2_with fail
                go_ret
                exact ⟨false, rfl, (fun h => by cases h), HW.out⟩
            · have h2z : decide ((ls.length : Int) ≤ 100) = false := decide_eq_false (by omega)
              clear h2
              go_wp2_with fail
              go_ret
              exact ⟨false, rfl, (fun h => by cases h), HW.out⟩
          · have h1z : decide ((rs.length : Int) ≤ 100) = false := decide_eq_false (by omega)
            clear h1
            go_wp2_with fail
            go_ret
            exact ⟨false, rfl, (fun h => by cases h), HW.out⟩
end Go.Proofs.Ytnbdekmmailjmaa
