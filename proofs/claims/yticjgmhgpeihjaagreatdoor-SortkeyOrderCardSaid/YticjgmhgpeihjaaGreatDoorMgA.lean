/-
  Several texts in one: SkMath, SkFirm, SkLev, SkLevs, SkJoin.
-/
import Derived.Test.YticjgmhgpeihjaaGreatDoorWeMath
import Derived.Lib.Bytealg
import Derived.Test.YticjgmhgpeihjaaGreatDoorWeRows
import Derived.ChangeKeysEq
import Derived.Deep.CutRange
import Derived.Maps.AppendAt
import Derived.Deep.AppendLies
import Derived.OneCell
import Derived.Test.YticjgmhgpeihjaaGreatDoorRows2
import Derived.Lib.AppendStr
namespace Go.Gz
open Go.RowKit Go.Lib

/-! ### levels -/
/-- weights above 0 behind the levels. -/
def addW (L : List (List Int)) (ws : List Int) : List (List Int) := List.zipWith (fun xs w => if 0 < w then xs ++ [w] else xs) L ws
def firmB (top : Int) (x : EL) : Bool := !decide (x = ⟨0, 0, 0⟩) && (decide (top < x.p) || (decide (x.p = 0) && decide (0 < x.t)))
def shiftE (top : Int) (x : EL) (behind : Bool) : List Int × Bool :=
  if 0 < x.p ∧ x.p ≤ top then ([0, 0, 0, x.p], true)
  else if x.p = 0 ∧ behind = true then ([0, 0, 0, 0], true)
  else ([x.p, x.s, x.t, if firmB top x then 65535 else 0], behind && decide (x.p < 0))
def wOf (sh : Bool) (top : Int) (x : EL) (behind : Bool) : List Int × Bool :=
  if sh then shiftE top x behind else ([x.p, x.s, x.t, 0], behind)
theorem wOf_len (sh : Bool) (top : Int) (x : EL) (behind : Bool) : (wOf sh top x behind).1.length = 4 := by
  unfold wOf shiftE
  split
  · split
    · rfl
    · split <;> rfl
  · rfl
abbrev LvSt := List (List Int) × Bool
def levStep (sh : Bool) (top : Int) (st : LvSt) (x : EL) : LvSt := (addW st.1 (wOf sh top x st.2).1, (wOf sh top x st.2).2)
def levSt (sh : Bool) (top : Int) (l : List EL) : LvSt := l.foldl (levStep sh top) ([[], [], [], []], false)
/-- the weights of each level. -/
def levL (sh : Bool) (top : Int) (l : List EL) : List (List Int) := (levSt sh top l).1
theorem levSt_snoc (sh : Bool) (top : Int) (l : List EL) (x : EL) : levSt sh top (l ++ [x]) = levStep sh top (levSt sh top l) x := by simp [levSt]
theorem addW_len {L : List (List Int)} {ws : List Int} (h : L.length = 4) (h2 : ws.length = 4) : (addW L ws).length = 4 := by simp [addW, h, h2]
theorem foldl_len (sh : Bool) (top : Int) : ∀ (l : List EL) (st : LvSt), st.1.length = 4 → (l.foldl (levStep sh top) st).1.length = 4
  | [], _, h => h
  | x :: l, st, h => foldl_len sh top l _ (addW_len h (wOf_len sh top x st.2))
theorem levSt_len (sh : Bool) (top : Int) (l : List EL) : (levSt sh top l).1.length = 4 := foldl_len sh top l _ rfl
/-- each level has at most so many weights as there are elements. -/
theorem addW_few {L : List (List Int)} {ws : List Int} {n : Nat} (h : ∀ l ∈ L, l.length ≤ n) : ∀ l ∈ addW L ws, l.length ≤ n + 1 := by
  intro l hl
  unfold addW at hl
  rw [List.mem_iff_getElem] at hl
  obtain ⟨i, hi, rfl⟩ := hl
  simp only [List.length_zipWith] at hi
  rw [List.getElem_zipWith]
  have := h L[i] (List.getElem_mem (by omega))
  split <;> simp <;> omega
theorem foldl_few (sh : Bool) (top : Int) : ∀ (l : List EL) (st : LvSt) (n : Nat), (∀ z ∈ st.1, z.length ≤ n) → ∀ z ∈ (l.foldl (levStep sh top) st).1, z.length ≤ n + l.length
  | [], _, _, h => h
  | x :: l, st, n, h => fun z hz => by
    have := foldl_few sh top l (levStep sh top st x) (n + 1) (addW_few h) z hz
    simp only [List.length_cons]; omega
theorem levL_few (sh : Bool) (top : Int) (l : List EL) : ∀ z ∈ levL sh top l, z.length ≤ l.length := fun z hz => by
  have := foldl_few sh top l ([[], [], [], []], false) 0 (fun z hz => by simp at hz; simp [hz]) z hz
  omega

/-- the reference's step. -/
def refStep (sh : Bool) (top : Int) (st : LvSt) (x : EL) : LvSt :=
  (if (sh && (decide (x.p = 0) && st.2)) = true then st.1
    else if (sh && (decide (1 ≤ x.p) && decide (x.p ≤ top))) = true then addW st.1 [0, 0, 0, x.p]
    else addW st.1 [x.p, x.s, x.t, if (sh && (decide (0 < x.p) || decide (0 < x.t))) = true then 65535 else 0],
   if 0 < x.p then sh && (decide (1 ≤ x.p) && decide (x.p ≤ top)) else st.2)
theorem addW_none {L : List (List Int)} (h : L.length = 4) : addW L [0, 0, 0, 0] = L := by
  match L, h with
  | [a, b, c, d], _ => simp [addW]
theorem refStep_is {sh : Bool} {top : Int} {st : LvSt} {x : EL} (hl : st.1.length = 4) (ht : 0 ≤ top) (hp : 0 ≤ x.p) (hb : sh = false → st.2 = false) : refStep sh top st x = levStep sh top st x := by
  obtain ⟨L, b⟩ := st
  obtain ⟨p, s, t⟩ := x
  unfold refStep levStep wOf
  dsimp only at *
  cases sh with
  | false =>
    obtain rfl := hb rfl
    simp
  | true =>
    simp only [Bool.true_and, if_true]
    unfold shiftE
    dsimp only
    by_cases h0 : p = 0
    · subst h0
      cases b with
      | true => simp [addW_none hl]
      | false =>
        simp only [firmB]
        by_cases h1 : 0 < t
        · have : ¬ top < 0 := by omega
          have ht0 : ¬ t = 0 := by omega
          simp [h1, ht0]
        · have : ¬ top < 0 := by omega
          simp [h1, this]
    · have hp0 : 0 < p := by omega
      have hp1 : 1 ≤ p := by omega
      have hn : ¬ p < 0 := by omega
      by_cases h1 : p ≤ top
      · simp [h0, hp0, hp1, h1]
      · have h2 : top < p := by omega
        simp [h0, hp0, hp1, h1, h2, firmB, hn]

/-! ### a key's bytes -/
def two (w : Int) : List UInt8 := [(w / 256 % 256).toNat.toUInt8, (w % 256).toNat.toUInt8]
def lvB (l : List Int) : List UInt8 := l.flatMap two
def keyB : List (List Int) → List UInt8
  | [] => []
  | l :: t => lvB l ++ t.flatMap fun m => 0 :: 0 :: lvB m
theorem lvB_snoc (l : List Int) (w : Int) : lvB (l ++ [w]) = lvB l ++ two w := by simp [lvB]
theorem lvB_length : ∀ l : List Int, (lvB l).length = 2 * l.length
  | [] => rfl
  | w :: l => by
    have : lvB (w :: l) = two w ++ lvB l := rfl
    rw [this, List.length_append, lvB_length l]; simp [two]; omega
theorem keyB_one (l : List Int) : keyB ([] ++ [l]) = lvB l := by simp [keyB]
theorem keyB_snoc {L : List (List Int)} (h : L ≠ []) (l : List Int) : keyB (L ++ [l]) = keyB L ++ (0 :: 0 :: lvB l) := by
  match L, h with
  | m :: t, _ => simp [keyB]
theorem keyB_four (a b c d : List Int) : keyB [a, b, c, d] = lvB a ++ 0 :: 0 :: (lvB b ++ 0 :: 0 :: (lvB c ++ 0 :: 0 :: lvB d)) := by simp [keyB]
theorem keyB_length4 (a b c d : List Int) : (keyB [a, b, c, d]).length = 2 * (a.length + b.length + c.length + d.length) + 6 := by
  rw [keyB_four]
  simp only [List.length_append, List.length_cons, lvB_length]; omega

/-! ### how bytes compare -/
theorem cb_cons (a b : UInt8) (x y : List UInt8) : compareBytes (a :: x) (b :: y) = if a.toNat < b.toNat then -1 else if b.toNat < a.toNat then 1 else compareBytes x y := by
  simp only [compareBytes, UInt8.lt_iff_toNat_lt]
theorem cb_self : ∀ x : List UInt8, compareBytes x x = 0
  | [] => rfl
  | a :: x => by rw [cb_cons, if_neg (by omega), if_neg (by omega), cb_self x]
theorem cb_swap : ∀ x y : List UInt8, compareBytes y x = - compareBytes x y
  | [], [] => rfl
  | [], _ :: _ => rfl
  | _ :: _, [] => rfl
  | a :: x, b :: y => by
    rw [cb_cons, cb_cons]
    by_cases h1 : a.toNat < b.toNat
    · rw [if_neg (by omega), if_pos h1, if_pos h1]; rfl
    · by_cases h2 : b.toNat < a.toNat
      · rw [if_pos h2, if_neg h1, if_pos h2]
      · rw [if_neg h2, if_neg h1, if_neg h1, if_neg h2]; exact cb_swap x y
theorem u8n (z : Int) (h1 : z < 256) : (z.toNat.toUInt8).toNat = z.toNat := by simp; omega
theorem cb_two {w v : Int} (hw : 1 ≤ w ∧ w ≤ 65535) (hv : 1 ≤ v ∧ v ≤ 65535) (x y : List UInt8) : compareBytes (two w ++ x) (two v ++ y) = if w < v then -1 else if v < w then 1 else compareBytes x y := by
  unfold two
  simp only [List.cons_append, List.nil_append]
  rw [cb_cons, cb_cons, u8n _ (by omega), u8n _ (by omega), u8n _ (by omega), u8n _ (by omega)]
  by_cases h1 : w < v
  · rw [if_pos h1]
    by_cases h2 : (w / 256 % 256).toNat < (v / 256 % 256).toNat
    · rw [if_pos h2]
    · rw [if_neg h2, if_neg (by omega), if_pos (by omega)]
  · rw [if_neg h1]
    by_cases h3 : v < w
    · rw [if_pos h3]
      by_cases h2 : (v / 256 % 256).toNat < (w / 256 % 256).toNat
      · rw [if_neg (by omega), if_pos h2]
      · rw [if_neg (by omega), if_neg h2, if_neg (by omega), if_pos (by omega)]
    · rw [if_neg h3]
      obtain rfl : w = v := by omega
      rw [if_neg (by omega), if_neg (by omega), if_neg (by omega), if_neg (by omega)]
theorem cb_end {v : Int} (hv : 1 ≤ v ∧ v ≤ 65535) (x y : List UInt8) : compareBytes (0 :: 0 :: x) (two v ++ y) = -1 := by
  unfold two
  simp only [List.cons_append, List.nil_append]
  rw [cb_cons, cb_cons, u8n _ (by omega), u8n _ (by omega)]
  by_cases h2 : 0 < (v / 256 % 256).toNat
  · rw [if_pos (by simpa using h2)]
  · rw [if_neg (by simpa using h2), if_neg (by simp), if_pos (by simp; omega)]
/-- a level, and what is behind it. -/
theorem cb_level : ∀ (l m : List Int) (x y : List UInt8), (∀ w ∈ l, 1 ≤ w ∧ w ≤ 65535) → (∀ w ∈ m, 1 ≤ w ∧ w ≤ 65535) →
    compareBytes (lvB l ++ 0 :: 0 :: x) (lvB m ++ 0 :: 0 :: y) = if l = m then compareBytes x y else cmpL l m
  | [], [], x, y, _, _ => by
    show compareBytes (0 :: 0 :: x) (0 :: 0 :: y) = _
    rw [cb_cons, cb_cons]; simp
  | [], v :: m, x, y, _, hm => by
    have e : lvB (v :: m) ++ 0 :: 0 :: y = two v ++ (lvB m ++ 0 :: 0 :: y) := by simp [lvB]
    rw [e]
    show compareBytes (0 :: 0 :: x) _ = _
    rw [cb_end (hm v (by simp))]; simp [cmpL]
  | w :: l, [], x, y, hl, _ => by
    have e : lvB (w :: l) ++ 0 :: 0 :: x = two w ++ (lvB l ++ 0 :: 0 :: x) := by simp [lvB]
    rw [e]
    show compareBytes _ (0 :: 0 :: y) = _
    rw [cb_swap, cb_end (hl w (by simp))]; simp [cmpL]
  | w :: l, v :: m, x, y, hl, hm => by
    have e1 : lvB (w :: l) ++ 0 :: 0 :: x = two w ++ (lvB l ++ 0 :: 0 :: x) := by simp [lvB]
    have e2 : lvB (v :: m) ++ 0 :: 0 :: y = two v ++ (lvB m ++ 0 :: 0 :: y) := by simp [lvB]
    rw [e1, e2, cb_two (hl w (by simp)) (hm v (by simp)), cb_level l m x y (fun z hz => hl z (by simp [hz])) (fun z hz => hm z (by simp [hz]))]
    by_cases h1 : w < v
    · rw [if_pos h1, if_neg (by simp; omega), cmpL, if_pos h1]
    · rw [if_neg h1]
      by_cases h2 : v < w
      · rw [if_pos h2, if_neg (by simp; omega), cmpL, if_neg h1, if_pos h2]
      · obtain rfl : w = v := by omega
        rw [if_neg h2, cmpL, if_neg h1, if_neg h1]
        simp
theorem cb_last : ∀ (l m : List Int), (∀ w ∈ l, 1 ≤ w ∧ w ≤ 65535) → (∀ w ∈ m, 1 ≤ w ∧ w ≤ 65535) → compareBytes (lvB l) (lvB m) = cmpL l m
  | [], [], _, _ => rfl
  | [], v :: m, _, _ => rfl
  | w :: l, [], _, _ => rfl
  | w :: l, v :: m, hl, hm => by
    have e1 : lvB (w :: l) = two w ++ lvB l := rfl
    have e2 : lvB (v :: m) = two v ++ lvB m := rfl
    rw [e1, e2, cb_two (hl w (by simp)) (hm v (by simp)), cb_last l m (fun z hz => hl z (by simp [hz])) (fun z hz => hm z (by simp [hz])), cmpL]
end Go.Gz
namespace Go.Proofs.YticjgmhgpeihjaaGreatDoor
open Go.RowKit Go.Gz Go.Sort

theorem eqS_el (n : Nat) (a b c a' b' c' : Int) (w : World) : (Op.equalIn (n + 2) 44 (.agg #[.int .i64 a, .int .i64 b, .int .i64 c]) (.agg #[.int .i64 a', .int .i64 b', .int .i64 c'])).run Tryz.prog w = .ok (a == a' && (b == b' && c == c')) w := by
  by_cases h1 : a = a'
  · by_cases h2 : b = b'
    · by_cases h3 : c = c'
      · simp [go_sem, h1, h2, h3]
      · simp [go_sem, h1, h2, h3]
    · simp [go_sem, h1, h2]
  · simp [go_sem, h1]
theorem build_el0 (w : World) : (Instr.build 44 #[]).run Tryz.prog w = .ok (.agg #[.int .i64 0, .int .i64 0, .int .i64 0]) w := by kernel_rfl
theorem build_w3 (a : Int) (w : World) : (Instr.build 74 #[(3, .int .i64 a)]).run Tryz.prog w = .ok (.agg #[.int .i64 0, .int .i64 0, .int .i64 0, .int .i64 a]) w := by kernel_rfl
theorem build_w0 (w : World) : (Instr.build 74 #[]).run Tryz.prog w = .ok (.agg #[.int .i64 0, .int .i64 0, .int .i64 0, .int .i64 0]) w := by kernel_rfl
theorem build_w012 (a b c : Int) (w : World) : (Instr.build 74 #[(0, .int .i64 a), (1, .int .i64 b), (2, .int .i64 c)]).run Tryz.prog w = .ok (.agg #[.int .i64 a, .int .i64 b, .int .i64 c, .int .i64 0]) w := by kernel_rfl

set_option maxHeartbeats 1000000 in
theorem isFirm_any (top : Int) (p s t : Int) (W : World) : Calls Tryz.prog 59 #[.int .i64 top, .agg #[.int .i64 p, .int .i64 s, .int .i64 t]] W fun e w' => e = .returned (.bool (firmB top ⟨p, s, t⟩)) ∧ Below W.heap.size W w' := by
  have b0 := fun w => build_el0 w
  have hq : ∀ w, (Op.equalIn 10000 44 (.agg #[.int .i64 p, .int .i64 s, .int .i64 t]) (.agg #[.int .i64 0, .int .i64 0, .int .i64 0])).run Tryz.prog w = .ok (p == 0 && (s == 0 && t == 0)) w := fun w => eqS_el 9998 p s t 0 0 0 w
  have hB := Lib.hid ((Below.refl W.heap.size W).alloc (Nat.le_refl _) (.cells #[.int .i64 p, .int .i64 s, .int .i64 t] 44))
  obtain ⟨z, hz⟩ : ∃ z, (p == 0 && (s == 0 && t == 0)) = z := ⟨_, rfl⟩
  have HZ := Lib.hid hz
  rw [hz] at hq
  clear hz
  cases z with
  | true =>
    have hv : firmB top ⟨p, s, t⟩ = false := by
      have := HZ.out
      simp at this
      simp [firmB, this]
    rw [hv]; clear hv
    go_enter Tryz.func59, Tryz.ntmps59
    go_wp2_with fail
    go_ret
    exact ⟨rfl, hB.out⟩
  | false =>
    have hne : (decide ((⟨p, s, t⟩ : EL) = ⟨0, 0, 0⟩)) = false := by
      have := HZ.out
      simp only [decide_eq_false_iff_not, EL.mk.injEq]
      simp at this
      omega
    by_cases h1 : top < p
    · have hv : firmB top ⟨p, s, t⟩ = true := by simp only [firmB, hne, decide_eq_true h1, Bool.not_false, Bool.true_or, Bool.and_true]
      rw [hv]; clear hv
      have HH := Lib.hid hne; clear hne
      go_enter Tryz.func59, Tryz.ntmps59
      go_wp2_with fail
      go_ret
      exact ⟨rfl, hB.out⟩
    · have h1d : decide (top < p) = false := decide_eq_false h1
      by_cases h2 : p = 0
      · have h2b : (p == 0) = true := by simp [h2]
        have h2d : decide (p = 0) = true := by simp [h2]
        by_cases h3 : 0 < t
        · have hv : firmB top ⟨p, s, t⟩ = true := by simp only [firmB, hne, h2d, h3, decide_true, Bool.not_false, Bool.or_true, Bool.and_true]
          rw [hv]; clear hv
          have HH := Lib.hid hne; clear hne h2
          go_enter Tryz.func59, Tryz.ntmps59
          go_wp2_with fail
          go_ret
          exact ⟨rfl, hB.out⟩
        · have h3d : decide (0 < t) = false := decide_eq_false h3
          have hv : firmB top ⟨p, s, t⟩ = false := by simp only [firmB, hne, h1d, h3d, Bool.and_false, Bool.or_false]
          rw [hv]; clear hv
          have HH := Lib.hid hne; clear hne h2
          go_enter Tryz.func59, Tryz.ntmps59
          go_wp2_with fail
          go_ret
          exact ⟨rfl, hB.out⟩
      · have h2b : (p == 0) = false := by simp [h2]
        have h2d : decide (p = 0) = false := by simp [h2]
        have hv : firmB top ⟨p, s, t⟩ = false := by simp only [firmB, hne, h1d, h2d, Bool.and_false, Bool.false_and, Bool.or_false]
        rw [hv]; clear hv
        have HH := Lib.hid hne; clear hne
        go_enter Tryz.func59, Tryz.ntmps59
        go_wp2_with fail
        go_ret
        exact ⟨rfl, hB.out⟩

theorem bcell4 {W w1 : World} (hb : Below W.heap.size W w1) : (∀ b o, b < W.heap.size → w1.cell? ⟨b, o, none⟩ = W.cell? ⟨b, o, none⟩) ∧ (∀ b o, b < W.heap.size → w1.frozen? ⟨b, o, none⟩ = W.frozen? ⟨b, o, none⟩) :=
  ⟨fun b o h => hb.cell (p := ⟨b, o, none⟩) h, fun b o h => hb.frozen (p := ⟨b, o, none⟩) h⟩
theorem sh_end {W w1 : World} (h : Below W.heap.size W w1) (a b c d : Value) : Below W.heap.size W ((((w1.setCell ⟨W.heap.size + 1, 0, none⟩ a).setCell ⟨W.heap.size + 1, 1, none⟩ b).setCell ⟨W.heap.size + 1, 2, none⟩ c).setCell ⟨W.heap.size + 1, 3, none⟩ d).drew :=
  (((((h.setCell (p := ⟨W.heap.size + 1, 0, none⟩) (Nat.le_succ _) _).setCell (p := ⟨W.heap.size + 1, 1, none⟩) (Nat.le_succ _) _).setCell (p := ⟨W.heap.size + 1, 2, none⟩) (Nat.le_succ _) _).setCell (p := ⟨W.heap.size + 1, 3, none⟩) (Nat.le_succ _) _)).drew
/-- what shift's blocks hold ahead of its last statement. -/
structure Sh8 (W w : World) (p s t fv : Int) : Prop where
  b : Below W.heap.size W w
  rd : w.cell? ⟨W.heap.size, 0, none⟩ = some (.int .i64 p) ∧ w.cell? ⟨W.heap.size + 1 + 1, 0, none⟩ = some (.int .i64 p) ∧ w.cell? ⟨W.heap.size + 1 + 1, 1, none⟩ = some (.int .i64 s) ∧ w.cell? ⟨W.heap.size + 1 + 1, 2, none⟩ = some (.int .i64 t) ∧ w.cell? ⟨W.heap.size + 1 + 1, 3, none⟩ = some (.int .i64 fv) ∧ w.frozen? ⟨W.heap.size + 1 + 1, 3, none⟩ = false
  wr : w.cell? ⟨W.heap.size + 1, 0, none⟩ = some (.int .i64 0) ∧ w.cell? ⟨W.heap.size + 1, 1, none⟩ = some (.int .i64 0) ∧ w.cell? ⟨W.heap.size + 1, 2, none⟩ = some (.int .i64 0) ∧ w.cell? ⟨W.heap.size + 1, 3, none⟩ = some (.int .i64 0) ∧ w.frozen? ⟨W.heap.size + 1, 0, none⟩ = false ∧ w.frozen? ⟨W.heap.size + 1, 1, none⟩ = false ∧ w.frozen? ⟨W.heap.size + 1, 2, none⟩ = false ∧ w.frozen? ⟨W.heap.size + 1, 3, none⟩ = false
theorem sh8_of (W w1 : World) (p s t : Int) (hb1 : Below (((W.alloc (.cells #[.int .i64 p, .int .i64 s, .int .i64 t] 44)).alloc (.cells #[.int .i64 0, .int .i64 0, .int .i64 0, .int .i64 0] 74)).alloc (.cells #[.int .i64 p, .int .i64 s, .int .i64 t, .int .i64 0] 74)).heap.size (((W.alloc (.cells #[.int .i64 p, .int .i64 s, .int .i64 t] 44)).alloc (.cells #[.int .i64 0, .int .i64 0, .int .i64 0, .int .i64 0] 74)).alloc (.cells #[.int .i64 p, .int .i64 s, .int .i64 t, .int .i64 0] 74)) w1) : Sh8 W w1 p s t 0 := by
  obtain ⟨hc, hf⟩ := bcell4 hb1
  refine ⟨((((Below.refl W.heap.size W).alloc (Nat.le_refl _) _).alloc (by simp) _).alloc (by simp; omega) _).trans (hb1.mono (by simp; omega)), ⟨?_, ?_, ?_, ?_, ?_, ?_⟩, ⟨?_, ?_, ?_, ?_, ?_, ?_, ?_, ?_⟩⟩
  · rw [hc W.heap.size 0 (by simp; omega)]; simp [go_sem]
  · rw [hc (W.heap.size + 1 + 1) 0 (by simp)]; simp [go_sem]
  · rw [hc (W.heap.size + 1 + 1) 1 (by simp)]; simp [go_sem]
  · rw [hc (W.heap.size + 1 + 1) 2 (by simp)]; simp [go_sem]
  · rw [hc (W.heap.size + 1 + 1) 3 (by simp)]; simp [go_sem]
  · rw [hf (W.heap.size + 1 + 1) 3 (by simp)]; simp [go_sem]
  · rw [hc (W.heap.size + 1) 0 (by simp)]; simp [go_sem]
  · rw [hc (W.heap.size + 1) 1 (by simp)]; simp [go_sem]
  · rw [hc (W.heap.size + 1) 2 (by simp)]; simp [go_sem]
  · rw [hc (W.heap.size + 1) 3 (by simp)]; simp [go_sem]
  · rw [hf (W.heap.size + 1) 0 (by simp)]; simp [go_sem]
  · rw [hf (W.heap.size + 1) 1 (by simp)]; simp [go_sem]
  · rw [hf (W.heap.size + 1) 2 (by simp)]; simp [go_sem]
  · rw [hf (W.heap.size + 1) 3 (by simp)]; simp [go_sem]
theorem Sh8.firm {W w : World} {p s t : Int} (h : Sh8 W w p s t 0) : Sh8 W (w.setCell ⟨W.heap.size + 1 + 1, 3, none⟩ (.int .i64 65535)) p s t 65535 := by
  obtain ⟨a0, a1, a2, a3, a4, a5⟩ := h.rd
  obtain ⟨x0, x1, x2, x3, y0, y1, y2, y3⟩ := h.wr
  have o : ∀ b j v, b ≠ W.heap.size + 1 + 1 ∨ j ≠ 3 → w.cell? ⟨b, j, none⟩ = some v → (w.setCell ⟨W.heap.size + 1 + 1, 3, none⟩ (.int .i64 65535)).cell? ⟨b, j, none⟩ = some v := fun b j v hne hv => by
    exact (World.cell?_setCell_other w ⟨W.heap.size + 1 + 1, 3, none⟩ ⟨b, j, none⟩ _ (fun e => by injection e with e1 e2 _; omega)).trans hv
  refine ⟨h.b.setCell (p := ⟨W.heap.size + 1 + 1, 3, none⟩) (by show W.heap.size ≤ W.heap.size + 1 + 1; omega) _, ⟨o _ _ _ (by omega) a0, o _ _ _ (by omega) a1, o _ _ _ (by omega) a2, o _ _ _ (by omega) a3, World.cell?_setCell_same w _ _ a4, by simpa using a5⟩, ⟨o _ _ _ (by omega) x0, o _ _ _ (by omega) x1, o _ _ _ (by omega) x2, o _ _ _ (by omega) x3, by simpa using y0, by simpa using y1, by simpa using y2, by simpa using y3⟩⟩
abbrev arr4 (l : List Int) : Value := .agg (l.map (Value.int .i64)).toArray
/-- an array of four numbers and a Bool, that a call returned. -/
def RetSh (r : List Int × Bool) (W : World) (e : Ending) (w' : World) : Prop := e = .returned (.tuple #[arr4 r.1, .bool r.2]) ∧ Below W.heap.size W w'

set_option maxHeartbeats 20000000 in
set_option maxRecDepth 100000 in
theorem shift_any (top : Int) (p s t : Int) (b : Bool) (W : World) : Calls Tryz.prog 33 #[.int .i64 top, .agg #[.int .i64 p, .int .i64 s, .int .i64 t], .bool b] W (RetSh (shiftE top ⟨p, s, t⟩ b) W) := by
  have b1 := fun w => build_w3 p w
  have b2 := fun w => build_w0 w
  have b3 := fun w => build_w012 p s t w
  by_cases h1 : 0 < p ∧ p ≤ top
  · have hv : shiftE top ⟨p, s, t⟩ b = ([0, 0, 0, p], true) := by simp [shiftE, h1]
    rw [hv]; clear hv
    obtain ⟨h1, h2⟩ := h1
    go_enter Tryz.func33, Tryz.ntmps33
    go_wp2_with fail
    refine bodyPost_ret (v := .tuple #[arr4 [0, 0, 0, p], .bool true]) (by simp [results, Tryz.results33, go_sem]) rfl ⟨rfl, ?_⟩
    exact ((Below.refl W.heap.size W).alloc (Nat.le_refl _) _).alloc (by simp) _
  · by_cases h2 : p = 0 ∧ b = true
    · obtain ⟨rfl, rfl⟩ := h2
      have hv : shiftE top ⟨0, s, t⟩ true = ([0, 0, 0, 0], true) := by simp [shiftE]
      rw [hv]; clear hv h1
      go_enter Tryz.func33, Tryz.ntmps33
      go_wp2_with fail
      refine bodyPost_ret (v := .tuple #[arr4 [0, 0, 0, 0], .bool true]) (by simp [results, Tryz.results33, go_sem]) rfl ⟨rfl, ?_⟩
      exact ((Below.refl W.heap.size W).alloc (Nat.le_refl _) _).alloc (by simp) _
    · have hv : shiftE top ⟨p, s, t⟩ b = ([p, s, t, if firmB top ⟨p, s, t⟩ = true then 65535 else 0], b && decide (p < 0)) := by
        unfold shiftE
        rw [if_neg h1, if_neg h2]
      rw [hv]; clear hv
      have hif := Lib.hid (fun w => isFirm_any top p s t w)
      obtain ⟨fb, hfb⟩ : ∃ fb, firmB top ⟨p, s, t⟩ = fb := ⟨_, rfl⟩
      rw [hfb] at hif ⊢
      clear hfb
      have mx : Tryz.prog.follows .mixedOrders = true := by kernel_rfl
      have hcase : (decide (0 < p) = true ∧ decide (p ≤ top) = false ∧ (p == 0) = false ∧ decide (p < 0) = false) ∨ (b = false ∧ decide (0 < p) = false ∧ decide (p ≤ top) = decide (p ≤ top) ∧ (p == 0) = true ∧ decide (p < 0) = false) ∨ (decide (0 < p) = false ∧ decide (p ≤ top) = decide (p ≤ top) ∧ (p == 0) = false ∧ decide (p < 0) = true) := by
        by_cases c1 : 0 < p
        · left; simp; omega
        · by_cases c2 : p = 0
          · right; left
            refine ⟨?_, by simp [c2], rfl, by simp [c2], by simp [c2]⟩
            cases b with
            | false => rfl
            | true => exact absurd ⟨c2, rfl⟩ h2
          · right; right; simp [c2]; omega
      clear h1 h2
      rcases hcase with ⟨d1, d2, d3, d4⟩ | ⟨rfl, d1, d2, d3, d4⟩ | ⟨d1, d2, d3, d4⟩
      · cases b <;> cases fb
        · go_enter Tryz.func33, Tryz.ntmps33
          go_wp2_with fail
          refine (hif.out _).mono ?_
          rintro e w1 ⟨rfl, hb1⟩
          have HS := Lib.hid (sh8_of W w1 p s t hb1)
          clear hb1 b1 b2 b3 hif
          obtain ⟨e0, r0, r1, r2, r3, g3⟩ := HS.out.rd
          go_upto_region 8 with fail
          have HT := HS
          clear HS e0 r0 r1 r2 r3 g3
          obtain ⟨w2, hw2⟩ : ∃ w2, w2 = w1 := ⟨_, rfl⟩
          subst hw2
          obtain ⟨e0, r0, r1, r2, r3, _⟩ := HT.out.rd
          obtain ⟨x0, x1, x2, x3, y0, y1, y2, y3⟩ := HT.out.wr
          clear d1 d2 d3
          go_region
          all_goals (go_wp2_with fail)
          refine bodyPost_ret (v := .tuple #[arr4 [p, s, t, 0], .bool false]) (by simp [results, Tryz.results33, go_sem, x0, x1, x2, x3]) rfl ⟨by simp, ?_⟩
          exact sh_end HT.out.b _ _ _ _
        · go_enter Tryz.func33, Tryz.ntmps33
          go_wp2_with fail
          refine (hif.out _).mono ?_
          rintro e w1 ⟨rfl, hb1⟩
          have HS := Lib.hid (sh8_of W w1 p s t hb1)
          clear hb1 b1 b2 b3 hif
          obtain ⟨e0, r0, r1, r2, r3, g3⟩ := HS.out.rd
          go_upto_region 8 with fail
          obtain ⟨w2, hw2⟩ : ∃ w2, w1.setCell ⟨W.heap.size + 1 + 1, 3, none⟩ (.int .i64 65535) = w2 := ⟨_, rfl⟩
          rw [hw2]
          have HT := Lib.hid (show Sh8 W w2 p s t 65535 from hw2 ▸ HS.out.firm)
          clear hw2 HS e0 r0 r1 r2 r3 g3
          obtain ⟨e0, r0, r1, r2, r3, _⟩ := HT.out.rd
          obtain ⟨x0, x1, x2, x3, y0, y1, y2, y3⟩ := HT.out.wr
          clear d1 d2 d3
          go_region
          all_goals (go_wp2_with fail)
          refine bodyPost_ret (v := .tuple #[arr4 [p, s, t, 65535], .bool false]) (by simp [results, Tryz.results33, go_sem, x0, x1, x2, x3]) rfl ⟨by simp, ?_⟩
          exact sh_end HT.out.b _ _ _ _
        · go_enter Tryz.func33, Tryz.ntmps33
          go_wp2_with fail
          refine (hif.out _).mono ?_
          rintro e w1 ⟨rfl, hb1⟩
          have HS := Lib.hid (sh8_of W w1 p s t hb1)
          clear hb1 b1 b2 b3 hif
          obtain ⟨e0, r0, r1, r2, r3, g3⟩ := HS.out.rd
          go_upto_region 8 with fail
          have HT := HS
          clear HS e0 r0 r1 r2 r3 g3
          obtain ⟨w2, hw2⟩ : ∃ w2, w2 = w1 := ⟨_, rfl⟩
          subst hw2
          obtain ⟨e0, r0, r1, r2, r3, _⟩ := HT.out.rd
          obtain ⟨x0, x1, x2, x3, y0, y1, y2, y3⟩ := HT.out.wr
          clear d1 d2 d3
          go_region
          all_goals (go_wp2_with fail)
          refine bodyPost_ret (v := .tuple #[arr4 [p, s, t, 0], .bool false]) (by simp [results, Tryz.results33, go_sem, x0, x1, x2, x3]) rfl ⟨by simp, ?_⟩
          exact sh_end HT.out.b _ _ _ _
        · go_enter Tryz.func33, Tryz.ntmps33
          go_wp2_with fail
          refine (hif.out _).mono ?_
          rintro e w1 ⟨rfl, hb1⟩
          have HS := Lib.hid (sh8_of W w1 p s t hb1)
          clear hb1 b1 b2 b3 hif
          obtain ⟨e0, r0, r1, r2, r3, g3⟩ := HS.out.rd
          go_upto_region 8 with fail
          obtain ⟨w2, hw2⟩ : ∃ w2, w1.setCell ⟨W.heap.size + 1 + 1, 3, none⟩ (.int .i64 65535) = w2 := ⟨_, rfl⟩
          rw [hw2]
          have HT := Lib.hid (show Sh8 W w2 p s t 65535 from hw2 ▸ HS.out.firm)
          clear hw2 HS e0 r0 r1 r2 r3 g3
          obtain ⟨e0, r0, r1, r2, r3, _⟩ := HT.out.rd
          obtain ⟨x0, x1, x2, x3, y0, y1, y2, y3⟩ := HT.out.wr
          clear d1 d2 d3
          go_region
          all_goals (go_wp2_with fail)
          refine bodyPost_ret (v := .tuple #[arr4 [p, s, t, 65535], .bool false]) (by simp [results, Tryz.results33, go_sem, x0, x1, x2, x3]) rfl ⟨by simp, ?_⟩
          exact sh_end HT.out.b _ _ _ _
      · cases fb
        · go_enter Tryz.func33, Tryz.ntmps33
          go_wp2_with fail
          refine (hif.out _).mono ?_
          rintro e w1 ⟨rfl, hb1⟩
          have HS := Lib.hid (sh8_of W w1 p s t hb1)
          clear hb1 b1 b2 b3 hif
          obtain ⟨e0, r0, r1, r2, r3, g3⟩ := HS.out.rd
          go_upto_region 8 with fail
          have HT := HS
          clear HS e0 r0 r1 r2 r3 g3
          obtain ⟨w2, hw2⟩ : ∃ w2, w2 = w1 := ⟨_, rfl⟩
          subst hw2
          obtain ⟨e0, r0, r1, r2, r3, _⟩ := HT.out.rd
          obtain ⟨x0, x1, x2, x3, y0, y1, y2, y3⟩ := HT.out.wr
          clear d1 d2 d3
          go_region
          all_goals (go_wp2_with fail)
          refine bodyPost_ret (v := .tuple #[arr4 [p, s, t, 0], .bool false]) (by simp [results, Tryz.results33, go_sem, x0, x1, x2, x3]) rfl ⟨by simp, ?_⟩
          exact sh_end HT.out.b _ _ _ _
        · go_enter Tryz.func33, Tryz.ntmps33
          go_wp2_with fail
          refine (hif.out _).mono ?_
          rintro e w1 ⟨rfl, hb1⟩
          have HS := Lib.hid (sh8_of W w1 p s t hb1)
          clear hb1 b1 b2 b3 hif
          obtain ⟨e0, r0, r1, r2, r3, g3⟩ := HS.out.rd
          go_upto_region 8 with fail
          obtain ⟨w2, hw2⟩ : ∃ w2, w1.setCell ⟨W.heap.size + 1 + 1, 3, none⟩ (.int .i64 65535) = w2 := ⟨_, rfl⟩
          rw [hw2]
          have HT := Lib.hid (show Sh8 W w2 p s t 65535 from hw2 ▸ HS.out.firm)
          clear hw2 HS e0 r0 r1 r2 r3 g3
          obtain ⟨e0, r0, r1, r2, r3, _⟩ := HT.out.rd
          obtain ⟨x0, x1, x2, x3, y0, y1, y2, y3⟩ := HT.out.wr
          clear d1 d2 d3
          go_region
          all_goals (go_wp2_with fail)
          refine bodyPost_ret (v := .tuple #[arr4 [p, s, t, 65535], .bool false]) (by simp [results, Tryz.results33, go_sem, x0, x1, x2, x3]) rfl ⟨by simp, ?_⟩
          exact sh_end HT.out.b _ _ _ _
      · cases b <;> cases fb
        · go_enter Tryz.func33, Tryz.ntmps33
          go_wp2_with fail
          refine (hif.out _).mono ?_
          rintro e w1 ⟨rfl, hb1⟩
          have HS := Lib.hid (sh8_of W w1 p s t hb1)
          clear hb1 b1 b2 b3 hif
          obtain ⟨e0, r0, r1, r2, r3, g3⟩ := HS.out.rd
          go_upto_region 8 with fail
          have HT := HS
          clear HS e0 r0 r1 r2 r3 g3
          obtain ⟨w2, hw2⟩ : ∃ w2, w2 = w1 := ⟨_, rfl⟩
          subst hw2
          obtain ⟨e0, r0, r1, r2, r3, _⟩ := HT.out.rd
          obtain ⟨x0, x1, x2, x3, y0, y1, y2, y3⟩ := HT.out.wr
          clear d1 d2 d3
          go_region
          all_goals (go_wp2_with fail)
          refine bodyPost_ret (v := .tuple #[arr4 [p, s, t, 0], .bool false]) (by simp [results, Tryz.results33, go_sem, x0, x1, x2, x3]) rfl ⟨by simp, ?_⟩
          exact sh_end HT.out.b _ _ _ _
        · go_enter Tryz.func33, Tryz.ntmps33
          go_wp2_with fail
          refine (hif.out _).mono ?_
          rintro e w1 ⟨rfl, hb1⟩
          have HS := Lib.hid (sh8_of W w1 p s t hb1)
          clear hb1 b1 b2 b3 hif
          obtain ⟨e0, r0, r1, r2, r3, g3⟩ := HS.out.rd
          go_upto_region 8 with fail
          obtain ⟨w2, hw2⟩ : ∃ w2, w1.setCell ⟨W.heap.size + 1 + 1, 3, none⟩ (.int .i64 65535) = w2 := ⟨_, rfl⟩
          rw [hw2]
          have HT := Lib.hid (show Sh8 W w2 p s t 65535 from hw2 ▸ HS.out.firm)
          clear hw2 HS e0 r0 r1 r2 r3 g3
          obtain ⟨e0, r0, r1, r2, r3, _⟩ := HT.out.rd
          obtain ⟨x0, x1, x2, x3, y0, y1, y2, y3⟩ := HT.out.wr
          clear d1 d2 d3
          go_region
          all_goals (go_wp2_with fail)
          refine bodyPost_ret (v := .tuple #[arr4 [p, s, t, 65535], .bool false]) (by simp [results, Tryz.results33, go_sem, x0, x1, x2, x3]) rfl ⟨by simp, ?_⟩
          exact sh_end HT.out.b _ _ _ _
        · go_enter Tryz.func33, Tryz.ntmps33
          go_wp2_with fail
          refine (hif.out _).mono ?_
          rintro e w1 ⟨rfl, hb1⟩
          have HS := Lib.hid (sh8_of W w1 p s t hb1)
          clear hb1 b1 b2 b3 hif
          obtain ⟨e0, r0, r1, r2, r3, g3⟩ := HS.out.rd
          go_upto_region 8 with fail
          have HT := HS
          clear HS e0 r0 r1 r2 r3 g3
          obtain ⟨w2, hw2⟩ : ∃ w2, w2 = w1 := ⟨_, rfl⟩
          subst hw2
          obtain ⟨e0, r0, r1, r2, r3, _⟩ := HT.out.rd
          obtain ⟨x0, x1, x2, x3, y0, y1, y2, y3⟩ := HT.out.wr
          clear d1 d2 d3
          go_region
          all_goals (go_wp2_with fail)
          refine bodyPost_ret (v := .tuple #[arr4 [p, s, t, 0], .bool true]) (by simp [results, Tryz.results33, go_sem, x0, x1, x2, x3]) rfl ⟨by simp, ?_⟩
          exact sh_end HT.out.b _ _ _ _
        · go_enter Tryz.func33, Tryz.ntmps33
          go_wp2_with fail
          refine (hif.out _).mono ?_
          rintro e w1 ⟨rfl, hb1⟩
          have HS := Lib.hid (sh8_of W w1 p s t hb1)
          clear hb1 b1 b2 b3 hif
          obtain ⟨e0, r0, r1, r2, r3, g3⟩ := HS.out.rd
          go_upto_region 8 with fail
          obtain ⟨w2, hw2⟩ : ∃ w2, w1.setCell ⟨W.heap.size + 1 + 1, 3, none⟩ (.int .i64 65535) = w2 := ⟨_, rfl⟩
          rw [hw2]
          have HT := Lib.hid (show Sh8 W w2 p s t 65535 from hw2 ▸ HS.out.firm)
          clear hw2 HS e0 r0 r1 r2 r3 g3
          obtain ⟨e0, r0, r1, r2, r3, _⟩ := HT.out.rd
          obtain ⟨x0, x1, x2, x3, y0, y1, y2, y3⟩ := HT.out.wr
          clear d1 d2 d3
          go_region
          all_goals (go_wp2_with fail)
          refine bodyPost_ret (v := .tuple #[arr4 [p, s, t, 65535], .bool true]) (by simp [results, Tryz.results33, go_sem, x0, x1, x2, x3]) rfl ⟨by simp, ?_⟩
          exact sh_end HT.out.b _ _ _ _
end Go.Proofs.YticjgmhgpeihjaaGreatDoor
namespace Go.Proofs.YticjgmhgpeihjaaGreatDoor
open Go.RowKit Go.Gz Go.Sort

theorem info_int4 : (Tryz.prog.info? 3).map (fun i => (i.zero, i.size, i.bytes)) = some (some (.int .i64 0), 1, 8) := by kernel_rfl

/-- block g holds four rows of numbers, each in a block of its own behind g. -/
structure Rows4 (w : World) (g : Nat) (vs : Nat → Value) (L : List (List Int)) : Prop where
  len : L.length = 4
  lt : g < w.heap.size
  cell : ∀ i, i < 4 → w.cell? ⟨g, i, none⟩ = some (vs i)
  froz : ∀ i, i < 4 → w.frozen? ⟨g, i, none⟩ = false
  own : ∀ i, i < 4 → Own w (g + 1) 3 .i64 (vs i) (L.getD i [])
  apart : ∀ i j, i < 4 → j < 4 → i ≠ j → ∀ a, (vs i).ownBlock = some a → (vs j).ownBlock ≠ some a

theorem Rows4.start (w : World) (g : Nat) (t : TypeId) (h : w.heap[g]? = some (.cells #[.slice none 0 0, .slice none 0 0, .slice none 0 0, .slice none 0 0] t (0, 0))) : Rows4 w g (fun _ => .slice none 0 0) [[], [], [], []] := by
  refine ⟨rfl, (Array.getElem?_eq_some_iff.1 h).1, fun i hi => ?_, fun i hi => ?_, fun i hi => ?_, fun i j _ _ _ a ha => by cases ha⟩
  · match i, hi with
    | 0, _ => simp [World.cell?, h]
    | 1, _ => simp [World.cell?, h]
    | 2, _ => simp [World.cell?, h]
    | 3, _ => simp [World.cell?, h]
  · simp [World.frozen?, h]
  · match i, hi with
    | 0, _ => exact Own.nil _ _ _ _
    | 1, _ => exact Own.nil _ _ _ _
    | 2, _ => exact Own.nil _ _ _ _
    | 3, _ => exact Own.nil _ _ _ _
theorem ownI_below {w w' : World} {B : Nat} {e : TypeId} {k : IntKind} {v : Value} {xs : List Int} (h : Own w B e k v xs) (hb : Below w.heap.size w w') : Own w' B e k v xs := by
  obtain ⟨h1, h2 | ⟨g, cap, cur, hv, hg, hh, hr⟩⟩ := h
  · exact ⟨h1, Or.inl h2⟩
  · exact ⟨h1, Or.inr ⟨g, cap, cur, hv, hg, (hb.block g (Array.getElem?_eq_some_iff.1 hh).1).trans hh, hr⟩⟩
theorem Rows4.below {w w' : World} {g : Nat} {vs : Nat → Value} {L : List (List Int)} (h : Rows4 w g vs L) (hb : Below w.heap.size w w') : Rows4 w' g vs L :=
  ⟨h.len, Nat.lt_of_lt_of_le h.lt hb.size, fun i hi => by rw [hb.cell (p := ⟨g, i, none⟩) h.lt]; exact h.cell i hi, fun i hi => by rw [hb.frozen (p := ⟨g, i, none⟩) h.lt]; exact h.froz i hi, fun i hi => ownI_below (h.own i hi) hb, h.apart⟩
theorem Rows4.far {w : World} {g b : Nat} {vs : Nat → Value} {L : List (List Int)} (h : Rows4 w g vs L) (hb : b ≠ g) (ho : ∀ i, i < 4 → (vs i).ownBlock ≠ some b) (o : Nat) (x : Value) : Rows4 (w.setCell ⟨b, o, none⟩ x) g vs L :=
  ⟨h.len, by simpa using h.lt, fun i hi => by rw [World.cell?_setCell_other _ _ _ _ (fun e => by injection e with e1 _ _; omega)]; exact h.cell i hi, fun i hi => by simpa using h.froz i hi, fun i hi => ownsRow_setCell_other (h.own i hi) (ho i hi) _, h.apart⟩
theorem Rows4.push {w w' : World} {g : Nat} {vs : Nat → Value} {L : List (List Int)} (h : Rows4 w g vs L) {i : Nat} (hi : i < 4) {ys : List Int} {v' : Value} (hown : Own w' (g + 1) 3 .i64 v' ys) (hgr : w.grownBy w' (vs i).ownBlock)
    (hat : v'.ownBlock = (vs i).ownBlock ∨ v'.ownBlock = some w.heap.size) : Rows4 (w'.setCell ⟨g, i, none⟩ v') g (fun j => if j = i then v' else vs j) (L.set i ys) := by
  have hne : ∀ j, j < 4 → some g ≠ (vs j).ownBlock := fun j hj e => by
    have := (World.ownsRow.lt (h.own j hj) g e.symm).1
    omega
  have hlt : ∀ j, j < 4 → ∀ a, (vs j).ownBlock = some a → a < w.heap.size := fun j hj a ha => (World.ownsRow.lt (h.own j hj) a ha).2
  have hc : ∀ j, j < 4 → w'.cell? ⟨g, j, none⟩ = some (vs j) := fun j hj => by
    rw [hgr.cell_far _ h.lt (hne i hi)]; exact h.cell j hj
  have hf : ∀ j, j < 4 → w'.frozen? ⟨g, j, none⟩ = false := fun j hj => by
    rw [hgr.frozen_far _ h.lt (hne i hi)]; exact h.froz j hj
  have hg' : g < w'.heap.size := Nat.lt_of_lt_of_le h.lt hgr.size
  refine ⟨by rw [List.length_set]; exact h.len, by simpa using hg', fun j hj => ?_, fun j hj => ?_, fun j hj => ?_, fun a b ha hb hab c hac hbc => ?_⟩
  · by_cases e : j = i
    · subst e
      simp only [if_true]
      exact World.cell?_setCell_same _ _ _ (hc j hj)
    · simp only [e, if_false]
      rw [World.cell?_setCell_other _ _ _ _ (fun e2 => by injection e2 with _ e2 _; omega)]
      exact hc j hj
  · simp; exact hf j hj
  · by_cases e : j = i
    · subst e
      simp only [if_true]
      have : (L.set j ys).getD j [] = ys := by simp [List.getD, show j < L.length by rw [h.len]; exact hj]
      rw [this]
      exact ownsRow_setCell_below hown (by simp) _
    · simp only [e, if_false]
      have : (L.set i ys).getD j [] = L.getD j [] := by simp [List.getD, show ¬ i = j from fun x => e x.symm]
      rw [this]
      refine ownsRow_setCell_below (World.ownsRow.kept (h.own j hj) hgr ?_) (by simp) _
      cases hb : (vs j).ownBlock with
      | none => exact Or.inl rfl
      | some a => exact Or.inr (fun e2 => h.apart j i hj hi e a hb e2.symm)
  · by_cases e1 : a = i
    · subst e1
      have e2 : ¬ b = a := fun x => hab x.symm
      simp only [if_true] at hac
      simp only [e2, if_false] at hbc
      rcases hat with hat | hat
      · rw [hat] at hac; exact h.apart a b ha hb hab c hac hbc
      · rw [hat] at hac; injection hac with hac
        have := hlt b hb c hbc; omega
    · by_cases e2 : b = i
      · subst e2
        simp only [e1, if_false] at hac
        simp only [if_true] at hbc
        rcases hat with hat | hat
        · rw [hat] at hbc; exact h.apart a b ha hb hab c hac hbc
        · rw [hat] at hbc; injection hbc with hbc
          have := hlt a ha c hac; omega
      · simp only [e1, if_false] at hac
        simp only [e2, if_false] at hbc
        exact h.apart a b ha hb hab c hac hbc
end Go.Proofs.YticjgmhgpeihjaaGreatDoor
namespace Go.Gz
/-- the levels, once so many weights of an element are added. -/
def addK (L : List (List Int)) (ws : List Int) (j : Nat) : List (List Int) := (addW L ws).take j ++ L.drop j
theorem addK_zero (L : List (List Int)) (ws : List Int) : addK L ws 0 = L := by simp [addK]
theorem addK_four {L : List (List Int)} {ws : List Int} (h : L.length = 4) (h2 : ws.length = 4) : addK L ws 4 = addW L ws := by
  unfold addK
  rw [List.take_of_length_le (by rw [addW_len h h2]; exact Nat.le_refl _), List.drop_of_length_le (by omega), List.append_nil]
theorem addK_step {L : List (List Int)} {ws : List Int} (h : L.length = 4) (h2 : ws.length = 4) {j : Nat} (hj : j < 4) : addK L ws (j + 1) = if 0 < ws.getD j 0 then (addK L ws j).set j ((addK L ws j).getD j [] ++ [ws.getD j 0]) else addK L ws j := by
  match L, ws, h, h2, j, hj with
  | [a, b, c, d], [p, q, r, s], _, _, 0, _ => by_cases hp : 0 < p <;> simp [addK, addW, hp]
  | [a, b, c, d], [p, q, r, s], _, _, 1, _ => by_cases hp : 0 < q <;> simp [addK, addW, hp]
  | [a, b, c, d], [p, q, r, s], _, _, 2, _ => by_cases hp : 0 < r <;> simp [addK, addW, hp]
  | [a, b, c, d], [p, q, r, s], _, _, 3, _ => by_cases hp : 0 < s <;> simp [addK, addW, hp]
theorem addK_get {L : List (List Int)} {ws : List Int} (h : L.length = 4) (h2 : ws.length = 4) {j : Nat} (hj : j < 4) : (addK L ws j).getD j [] = L.getD j [] := by
  match L, ws, h, h2, j, hj with
  | [a, b, c, d], [p, q, r, s], _, _, 0, _ => simp [addK, addW]
  | [a, b, c, d], [p, q, r, s], _, _, 1, _ => simp [addK, addW]
  | [a, b, c, d], [p, q, r, s], _, _, 2, _ => simp [addK, addW]
  | [a, b, c, d], [p, q, r, s], _, _, 3, _ => simp [addK, addW]
theorem four_of {ws : List Int} (h : ws.length = 4) : ∃ a b c d, ws = [a, b, c, d] := by
  match ws, h with
  | [a, b, c, d], _ => exact ⟨a, b, c, d, rfl⟩
end Go.Gz
namespace Go.Proofs.YticjgmhgpeihjaaGreatDoor
open Go.RowKit Go.Gz Go.Sort

/-- append of one number onto a row of the call's own, with where the new row lies. -/
theorem wpList_push_at {P : Program} {w : World} {ops : Array Oper} {rest : List Oper} {o : Oper} {a : Act} {Q : Exit → Act → World → Prop}
    (hg : o.guard = none) (s x : Operand) (t : TypeId) (hop : o.op = Op.call { callee := Callee.builtin Builtin.append, args := #[s, x], argTypes := #[t, t] })
    (e : TypeId) (k : IntKind) (bytes : Nat) (h1 : P.underlying t = some (.slice e)) (hinfo : (P.info? e).map (fun i => (i.zero, i.size, i.bytes)) = some (some (.int k 0), 1, bytes)) (hby : bytes ≤ 8)
    (B : Nat) (v : Value) (xs : List Int) (hs : a.eval s = v) (hown : Own w B e k v xs) (G c : Nat) (y : Int) (hx : a.eval x = .slice (some ⟨G, 0, none⟩) 1 c) (hc : w.cell? ⟨G, 0, none⟩ = some (.int k y))
    (hlen : xs.length + 1 ≤ 1000000) (hB : B ≤ w.heap.size)
    (hK : ∀ v' w', Own w' B e k v' (xs ++ [y]) → w.grownBy w' v.ownBlock → (v'.ownBlock = v.ownBlock ∨ v'.ownBlock = some w.heap.size) → wpList P ops Q rest (a.put o.dst v') w') :
    wpList P ops Q (o :: rest) a w := by
  obtain ⟨i0, hi, hz0, hz1, hz2⟩ := info_parts hinfo
  refine wpList_append_own_at w hg s x t hop B e i0 (.int k 0) 1 bytes h1 hi hz0 hz1 hz2 rfl (by decide) v xs.length (xs.map (Value.int k)) hs hown ⟨G, 0, none⟩ 1 c [.int k y] hx rfl ?_ ?_ (by unfold maxLen; omega) ?_ hB ?_
  · intro j u hj
    obtain ⟨hj', rfl⟩ := List.getElem?_eq_some_iff.1 hj
    simp only [List.length_singleton] at hj'
    obtain rfl : j = 0 := by omega
    rw [Addr.add_lit, hc]; rfl
  · intro u hu
    rw [List.mem_singleton.1 hu]; rfl
  · have : (xs.length + 1) * bytes ≤ (xs.length + 1) * 8 := Nat.mul_le_mul_left _ hby
    omega
  · intro v' w' ho hgr _ hat
    refine hK v' w' ?_ hgr hat
    unfold Own
    rw [List.length_append, List.map_append]
    exact ho

theorem ownI_lower {w : World} {B B' : Nat} {e : TypeId} {k : IntKind} {v : Value} {xs : List Int} (h : Own w B e k v xs) (hB : B' ≤ B) : Own w B' e k v xs := by
  obtain ⟨h1, h2 | ⟨g, cap, cur, hv, hg, hr⟩⟩ := h
  · exact ⟨h1, Or.inl h2⟩
  · exact ⟨h1, Or.inr ⟨g, cap, cur, hv, Nat.le_trans hB hg, hr⟩⟩
theorem lv_end {W w0 w : World} {g : Nat} (h0 : Below W.heap.size W w0) (h : Below g w0 w) (hg : W.heap.size ≤ g) (a b c d : Value) : Below W.heap.size W ((((w.setCell ⟨W.heap.size + 1, 0, none⟩ a).setCell ⟨W.heap.size + 1, 1, none⟩ b).setCell ⟨W.heap.size + 1, 2, none⟩ c).setCell ⟨W.heap.size + 1, 3, none⟩ d) :=
  (((((h0.trans (h.mono hg)).setCell (p := ⟨W.heap.size + 1, 0, none⟩) (Nat.le_succ _) _).setCell (p := ⟨W.heap.size + 1, 1, none⟩) (Nat.le_succ _) _).setCell (p := ⟨W.heap.size + 1, 2, none⟩) (Nat.le_succ _) _).setCell (p := ⟨W.heap.size + 1, 3, none⟩) (Nat.le_succ _) _)
/-- four rows of numbers that a call returned. -/
def RetLv (W : World) (L : List (List Int)) (e : Ending) (w' : World) : Prop :=
  ∃ vs : Nat → Value, e = .returned (.agg #[vs 0, vs 1, vs 2, vs 3]) ∧ Below W.heap.size W w' ∧ ∀ i, i < 4 → Own w' W.heap.size 3 .i64 (vs i) (L.getD i [])
def LvOut (w0 : World) (g : Nat) (sh : Bool) (top : Int) (es : List EL) (vb vi : Value) (wr : World) (gk : Nat) : Prop :=
  ∃ (k : Nat) (vs : Nat → Value), vi = .int .i64 (k : Int) ∧ k ≤ es.length ∧ es.length - k ≤ gk ∧ vb = .bool (levSt sh top (es.take k)).2 ∧ Below g w0 wr ∧ Rows4 wr g vs (levSt sh top (es.take k)).1
def LvIn (w0 : World) (g : Nat) (L : List (List Int)) (ws : List Int) (vj : Value) (wr : World) (gk : Nat) : Prop :=
  ∃ (j : Nat) (vs : Nat → Value), vj = .int .i64 (j : Int) ∧ j ≤ 4 ∧ 4 - j ≤ gk ∧ Below g w0 wr ∧ Rows4 wr g vs (addK L ws j)
/-- what the weights' block holds, ahead of the inner loop. -/
structure LvMid (w0 : World) (g : Nat) (vs : Nat → Value) (L : List (List Int)) (b : Nat) (ws : List Int) (w : World) : Prop where
  b0 : Below g w0 w
  rows : Rows4 w g vs L
  cells : ∀ j, j < 4 → w.cell? ⟨b, j, none⟩ = some (.int .i64 (ws.getD j 0))

set_option maxHeartbeats 4000000 in
set_option maxRecDepth 100000 in
theorem levels_any (T : TB) (es : List EL) (q : Option Addr) (c : Nat) (W : World) (hE : Els W q es) (hz : es.length ≤ 9000) :
    Calls Tryz.prog 17 #[.agg #[.slice T.lp T.ls.length T.lc, .slice T.rp T.rs.length T.rc, .int .i64 T.top, .bool T.sh], .slice q es.length c] W (RetLv W (levL T.sh T.top es)) := by
  have HE := Lib.hid hE; clear hE
  have b3 := fun (p s t : Int) w => build_w012 p s t w
  go_enter Tryz.func17, Tryz.ntmps17
  go_upto_region 3 with fail
  obtain ⟨w0, hw0⟩ : ∃ w0, ((W.alloc (.cells #[.slice T.lp T.ls.length T.lc, .slice T.rp T.rs.length T.rc, .int .i64 T.top, .bool T.sh] 25)).alloc (.cells #[.slice none 0 0, .slice none 0 0, .slice none 0 0, .slice none 0 0] 56)).alloc (.cells #[.slice none 0 0, .slice none 0 0, .slice none 0 0, .slice none 0 0] 56) = w0 := ⟨_, rfl⟩
  rw [hw0]
  have hw0s : w0.heap.size = W.heap.size + 1 + 1 + 1 := by rw [← hw0]; simp
  have HB0 := Lib.hid (show Below W.heap.size W w0 from hw0 ▸ ((((Below.refl W.heap.size W).alloc (Nat.le_refl _) _).alloc (by simp) _).alloc (by simp; omega) _))
  have HR0 := Lib.hid (show Rows4 w0 (W.heap.size + 1 + 1) (fun _ => .slice none 0 0) [[], [], [], []] from by
    refine Rows4.start w0 _ 56 ?_
    have := heap_alloc_new ((W.alloc (.cells #[.slice T.lp T.ls.length T.lc, .slice T.rp T.rs.length T.rc, .int .i64 T.top, .bool T.sh] 25)).alloc (.cells #[.slice none 0 0, .slice none 0 0, .slice none 0 0, .slice none 0 0] 56)) (.cells #[.slice none 0 0, .slice none 0 0, .slice none 0 0, .slice none 0 0] 56)
    rw [← hw0]
    simpa using this)
  have c2 : w0.cell? ⟨W.heap.size, 2, none⟩ = some (.int .i64 T.top) := by rw [← hw0]; simp [go_sem]
  have c3 : w0.cell? ⟨W.heap.size, 3, none⟩ = some (.bool T.sh) := by rw [← hw0]; simp [go_sem]
  have hr : ∀ j, j < 4 → w0.cell? ⟨W.heap.size + 1, j, none⟩ = some (.slice none 0 0) ∧ w0.frozen? ⟨W.heap.size + 1, j, none⟩ = false := by
    intro j hj
    rw [← hw0]
    rcases (show j = 0 ∨ j = 1 ∨ j = 2 ∨ j = 3 by omega) with rfl | rfl | rfl | rfl <;> exact ⟨by simp [go_sem], by simp [go_sem]⟩
  have HC2 := Lib.hid c2
  have HC3 := Lib.hid c3
  have HRS := Lib.hid hr
  clear hw0 c2 c3 hr
  obtain ⟨g, hg⟩ : ∃ g, W.heap.size + 1 + 1 = g := ⟨_, rfl⟩
  rw [hg] at HR0 hw0s ⊢
  have hg1 : W.heap.size + 1 < g := by omega
  have HGE := Lib.hid hg
  clear hg
  go_wp2_with fail
  go_loopg [6, 14] es.length (fun gk vb vi wr => Hid (LvOut w0 g T.sh T.top es vb vi wr gk))
  case atStart =>
    refine Lib.hid ⟨0, fun _ => .slice none 0 0, rfl, Nat.zero_le _, by omega, rfl, Below.refl _ _, ?_⟩
    rw [List.take_zero]
    exact HR0.out
  case round =>
    have hrel' := hrel.out
    clear hrel
    obtain ⟨k, vs, rfl, hk, hgk, rfl, hb, hrow⟩ := hrel'
    have HB := Lib.hid hb
    have HR := Lib.hid hrow
    have hszr := hb.size
    clear hb hrow
    by_cases hlt : k < es.length
    · have hltz : (k : Int) < (es.length : Int) := by omega
      obtain ⟨b, o, rfl, hbW, e0, e1, e2⟩ := HE.out.at_ (HB0.out.trans (HB.out.mono (by omega))) hlt
      have HTS := Lib.hid (show levSt T.sh T.top (es.take (k + 1)) = levStep T.sh T.top (levSt T.sh T.top (es.take k)) es[k]! by
        rw [List.take_succ_eq_append_getElem hlt, levSt_snoc, getElem!_pos es k hlt])
      obtain ⟨⟨p, s, t⟩, hx⟩ : ∃ x, es[k]! = x := ⟨_, rfl⟩
      rw [hx] at e0 e1 e2 HTS
      clear hx
      dsimp only at e0 e1 e2
      obtain ⟨L, bh, hst⟩ : ∃ L bh, levSt T.sh T.top (es.take k) = (L, bh) := ⟨_, _, rfl⟩
      rw [hst] at HR HTS ⊢
      dsimp only at HR HTS ⊢
      have HST := Lib.hid hst
      clear hst
      have hL4 : L.length = 4 := HR.out.len
      have hLn : ∀ z ∈ L, z.length ≤ 9000 := by
        have h1 := levL_few T.sh T.top (es.take k)
        unfold levL at h1
        rw [HST.out] at h1
        intro z hz'
        have := h1 z hz'
        rw [List.length_take] at this
        omega
      have HLN := Lib.hid hLn
      clear hLn
      have c2 : wr.cell? ⟨W.heap.size, 2, none⟩ = some (.int .i64 T.top) := by rw [HB.out.cell (p := ⟨W.heap.size, 2, none⟩) (by show W.heap.size < g; omega)]; exact HC2.out
      obtain ⟨sb, hsb⟩ : ∃ sb, T.sh = sb := ⟨_, rfl⟩
      have HSB := Lib.hid hsb
      have c3 : wr.cell? ⟨W.heap.size, 3, none⟩ = some (.bool sb) := by rw [← hsb, HB.out.cell (p := ⟨W.heap.size, 3, none⟩) (by show W.heap.size < g; omega)]; exact HC3.out
      clear hsb
      have hWr : W.heap.size < wr.heap.size := by omega
      have hbr : b < wr.heap.size := by omega
      have bb := fun w => b3 p s t w
      obtain ⟨ws, bn, hws⟩ : ∃ ws bn, wOf T.sh T.top ⟨p, s, t⟩ bh = (ws, bn) := ⟨_, _, rfl⟩
      have HWS := Lib.hid hws
      have hw4 : ws.length = 4 := by have := wOf_len T.sh T.top ⟨p, s, t⟩ bh; rw [hws] at this; exact this
      clear hws
      obtain ⟨x0, x1, x2, x3, rfl⟩ := four_of hw4
      have hsf := Lib.hid (fun w (hs : sb = true) => show Calls Tryz.prog 33 #[.int .i64 T.top, .agg #[.int .i64 p, .int .i64 s, .int .i64 t], .bool bh] w (RetSh ([x0, x1, x2, x3], bn) w) by
        have h1 := shift_any T.top p s t bh w
        have h2 := HWS.out
        unfold wOf at h2
        rw [if_pos (HSB.out.trans hs)] at h2
        rwa [h2] at h1)
      have hwf := Lib.hid (fun (hs : sb = false) => show x0 = p ∧ x1 = s ∧ x2 = t ∧ x3 = 0 ∧ bn = bh by
        have h2 := HWS.out
        unfold wOf at h2
        rw [HSB.out.trans hs] at h2
        have e0 := congrArg (fun q : List Int × Bool => q.1.getD 0 0) h2
        have e1 := congrArg (fun q : List Int × Bool => q.1.getD 1 0) h2
        have e2 := congrArg (fun q : List Int × Bool => q.1.getD 2 0) h2
        have e3 := congrArg (fun q : List Int × Bool => q.1.getD 3 0) h2
        have e4 := congrArg (fun q : List Int × Bool => q.2) h2
        exact ⟨e0.symm, e1.symm, e2.symm, e3.symm, e4.symm⟩)
      have HBd := Lib.hid ((HB.out.alloc (by omega) (.cells #[.int .i64 p, .int .i64 s, .int .i64 t] 44)).alloc (by simp; omega) (.cells #[.int .i64 p, .int .i64 s, .int .i64 t, .int .i64 0] 74))
      have HRd := Lib.hid (HR.out.below (((Below.refl wr.heap.size wr).alloc (Nat.le_refl _) (.cells #[.int .i64 p, .int .i64 s, .int .i64 t] 44)).alloc (by simp) (.cells #[.int .i64 p, .int .i64 s, .int .i64 t, .int .i64 0] 74)))
      go_upto_if 26 with fail
      go_cut [6, 14] from 14 to 51 (fun vb vk wx => vb = .bool bn ∧ vk = .int .i64 (k : Int) ∧ Hid (LvMid w0 g vs L (wr.heap.size + 1) [x0, x1, x2, x3] wx))
      case first =>
        cases sb with
        | false =>
          obtain ⟨rfl, rfl, rfl, rfl, rfl⟩ := hwf.out rfl
          clear hsf hwf
          go_wp2_with fail
          go_meet
          refine ⟨rfl, rfl, Lib.hid ⟨HBd.out, HRd.out, ?_⟩⟩
          intro j hj
          rw [← World.size_alloc wr (.cells #[.int .i64 x0, .int .i64 x1, .int .i64 x2] 44), World.cell?_alloc_new]
          rcases (show j = 0 ∨ j = 1 ∨ j = 2 ∨ j = 3 by omega) with rfl | rfl | rfl | rfl <;> rfl
        | true =>
          have hsf' := Lib.hid (fun w => hsf.out w rfl)
          clear hsf hwf
          go_wp2_with fail
          refine (hsf'.out _).mono ?_
          rintro e w2 ⟨rfl, hb2⟩
          have HB2 := Lib.hid (HBd.out.trans (hb2.mono (by simp only [World.size_alloc]; omega)))
          have HR2 := Lib.hid (HRd.out.below hb2)
          have m : ∀ j, j < 4 → (∃ v, w2.cell? ⟨wr.heap.size + 1, j, none⟩ = some (.int .i64 v)) ∧ w2.frozen? ⟨wr.heap.size + 1, j, none⟩ = false := by
            intro j hj
            rw [hb2.cell (p := ⟨wr.heap.size + 1, j, none⟩) (by simp), hb2.frozen (p := ⟨wr.heap.size + 1, j, none⟩) (by simp)]
            rcases (show j = 0 ∨ j = 1 ∨ j = 2 ∨ j = 3 by omega) with rfl | rfl | rfl | rfl <;> exact ⟨⟨_, by simp [go_sem]; rfl⟩, by simp [go_sem]⟩
          obtain ⟨⟨y0, m0⟩, f0⟩ := m 0 (by omega)
          obtain ⟨⟨y1, m1⟩, f1⟩ := m 1 (by omega)
          obtain ⟨⟨y2, m2⟩, f2⟩ := m 2 (by omega)
          obtain ⟨⟨y3, m3⟩, f3⟩ := m 3 (by omega)
          clear m hb2 hsf'
          go_wp2_with fail
          go_meet
          have hob : ∀ i, i < 4 → (vs i).ownBlock ≠ some (wr.heap.size + 1) := fun i hi e => by
            have := (World.ownsRow.lt (HR.out.own i hi) _ e).2
            omega
          refine ⟨rfl, rfl, Lib.hid ⟨?_, ?_, ?_⟩⟩
          · exact (((HB2.out.setCell (p := ⟨wr.heap.size + 1, 0, none⟩) (show g ≤ wr.heap.size + 1 by omega) _).setCell (p := ⟨wr.heap.size + 1, 1, none⟩) (show g ≤ wr.heap.size + 1 by omega) _).setCell (p := ⟨wr.heap.size + 1, 2, none⟩) (show g ≤ wr.heap.size + 1 by omega) _).setCell (p := ⟨wr.heap.size + 1, 3, none⟩) (show g ≤ wr.heap.size + 1 by omega) _
          · exact (((HR2.out.far (by omega) hob 0 _).far (by omega) hob 1 _).far (by omega) hob 2 _).far (by omega) hob 3 _
          · intro j hj
            rcases (show j = 0 ∨ j = 1 ∨ j = 2 ∨ j = 3 by omega) with rfl | rfl | rfl | rfl <;> simp [go_sem, m0, m1, m2, m3]
      case rest =>
        obtain ⟨rfl, rfl, HM⟩ := hcut
        have e0 := HM.out.cells 0 (by omega)
        have e1 := HM.out.cells 1 (by omega)
        have e2 := HM.out.cells 2 (by omega)
        have e3 := HM.out.cells 3 (by omega)
        simp only [List.getD_cons_zero, List.getD_cons_succ] at e0 e1 e2 e3
        clear c2 c3 hsf hwf HBd HRd bb b3
        go_wp2_with fail
        go_loopg [36] 4 (fun g2 vj w => Hid (LvIn w0 g L [x0, x1, x2, x3] vj w g2))
        case atStart => exact Lib.hid ⟨0, vs, rfl, by omega, by omega, HM.out.b0, by rw [addK_zero]; exact HM.out.rows⟩
        case round =>
          clear e0 e1 e2 e3
          have hrel' := hrel.out
          clear hrel
          obtain ⟨j, vs2, rfl, hj4, hg2, hb4, hr4⟩ := hrel'
          have HB4 := Lib.hid hb4
          have HR4 := Lib.hid hr4
          have hs4 := hb4.size
          by_cases hj : j < 4
          · have hjz : (j : Int) < 4 := by omega
            have hidx : ∀ w : World, (Instr.index 74 (.agg #[.int .i64 x0, .int .i64 x1, .int .i64 x2, .int .i64 x3]) (.int .i64 (j : Int))).run Tryz.prog w = .ok (.int .i64 ([x0, x1, x2, x3].getD j 0)) w := by
              intro w
              rcases (show j = 0 ∨ j = 1 ∨ j = 2 ∨ j = 3 by omega) with rfl | rfl | rfl | rfl <;> kernel_rfl
            have HST := Lib.hid (addK_step (L := L) (ws := [x0, x1, x2, x3]) hL4 rfl hj)
            obtain ⟨x, hxj⟩ : ∃ x, [x0, x1, x2, x3].getD j 0 = x := ⟨_, rfl⟩
            rw [hxj] at hidx HST
            clear hxj
            by_cases hpos : 0 < x
            · have HKP := Lib.hid (show addK L [x0, x1, x2, x3] (j + 1) = _ from HST.out.trans (if_pos hpos))
              obtain ⟨sv, dv, hv, _, _⟩ := Own.row (hr4.own j hj)
              have hown4 := hr4.own j hj
              have z4 := hr4.cell j hj
              have hlen4 : ((addK L [x0, x1, x2, x3] j).getD j []).length ≤ 100000 := by
                have : (addK L [x0, x1, x2, x3] j).getD j [] = L.getD j [] := addK_get hL4 rfl hj
                rw [this]
                have h9 := HLN.out (L.getD j []) (by simp [List.getD, show j < L.length by omega])
                omega
              rw [hv] at z4 hown4
              have HV := Lib.hid hv
              have HO4 := Lib.hid hown4
              have HLE := Lib.hid hlen4
              clear hb4 hr4 hv hown4 hlen4
              obtain ⟨cur, hcur⟩ : ∃ cur, (addK L [x0, x1, x2, x3] j).getD j [] = cur := ⟨_, rfl⟩
              rw [hcur] at z4 HO4 HLE HKP HV
              clear hcur
              have hg4 : g < wr.heap.size := by omega
              go_wp2_with (at_builtin; refine wpList_push_at rfl _ _ 55 rfl 3 .i64 8 Tryz.underlying55 info_int4 (by decide) (g + 1) _ cur rfl (Own.alloc HO4.out _) wr.heap.size 1 x rfl (by rw [World.cell?_alloc_new]; rfl) (by have := HLE.out; omega) (by simp only [World.size_alloc]; omega) ?_)
              intro v6 w6 hown6 hgr6 hat6
              have HRa := HR4.out.below ((Below.refl wr.heap.size wr).alloc (Nat.le_refl _) (.cells #[.int .i64 x] 3))
              have HPU := Lib.hid (HRa.push hj (ys := cur ++ [x]) hown6 (by rw [HV.out]; exact hgr6) (by rw [HV.out, World.size_alloc]; exact hat6))
              have hne : some g ≠ (vs2 j).ownBlock := fun e => by
                have := (World.ownsRow.lt (HRa.own j hj) g e.symm).1
                omega
              have hc6 : w6.cell? ⟨g, j, none⟩ = some (.slice sv cur.length dv) := by
                rw [hgr6.cell_far _ HRa.lt (by rw [← HV.out]; exact hne), HRa.cell j hj, HV.out]
              have hf6 : w6.frozen? ⟨g, j, none⟩ = false := by
                rw [hgr6.frozen_far _ HRa.lt (by rw [← HV.out]; exact hne)]; exact HRa.froz j hj
              have HB6 := Lib.hid (((HB4.out.alloc (by omega) (.cells #[.int .i64 x] 3)).grown hgr6 (by simp only [World.size_alloc]; omega) (fun g' hg' => by
                have := (World.ownsRow.lt HO4.out g' hg').1
                omega)).setCell (p := ⟨g, j, none⟩) (Nat.le_refl _) v6)
              obtain ⟨s6, d6, rfl, _, _⟩ := Own.row hown6
              obtain ⟨n6, hn6⟩ : ∃ n, (cur ++ [x]).length = n := ⟨_, rfl⟩
              rw [hn6] at HPU HB6 ⊢
              clear HRa hown6 hgr6 hat6 hne hn6 z4
              go_wp2_with fail
              go_roundg (4 - (j + 1))
              case measure => omega
              case rel => exact Lib.hid ⟨j + 1, _, by go_num, by omega, by omega, HB6.out, by rw [HKP.out]; exact HPU.out⟩
            · have hposd : decide (0 < x) = false := decide_eq_false hpos
              have HKN := Lib.hid (show addK L [x0, x1, x2, x3] (j + 1) = addK L [x0, x1, x2, x3] j from HST.out.trans (if_neg hpos))
              clear hpos hb4 hr4
              go_wp2_with fail
              go_roundg (4 - (j + 1))
              case measure => omega
              case rel => exact Lib.hid ⟨j + 1, vs2, by go_num, by omega, by omega, HB4.out, by rw [HKN.out]; exact HR4.out⟩
          · obtain rfl : j = 4 := by omega
            clear hb4 hr4
            go_wp2_with fail
            go_roundg (es.length - (k + 1))
            case measure => omega
            case rel =>
              have hrr := HR4.out
              rw [addK_four hL4 rfl] at hrr
              have hts := HTS.out
              unfold levStep at hts
              dsimp only at hts
              rw [HWS.out] at hts
              exact Lib.hid ⟨k + 1, vs2, by go_num, by omega, by omega, by rw [hts], HB4.out, by rw [hts]; exact hrr⟩
    · obtain rfl : k = es.length := by omega
      have hltz : ¬ (es.length : Int) < (es.length : Int) := by omega
      have hrr := HR.out
      rw [List.take_length] at hrr
      have z0 := hrr.cell 0 (by omega)
      have z1 := hrr.cell 1 (by omega)
      have z2 := hrr.cell 2 (by omega)
      have z3 := hrr.cell 3 (by omega)
      have p0 : ∀ j, j < 4 → wr.cell? ⟨W.heap.size + 1, j, none⟩ = some (.slice none 0 0) ∧ wr.frozen? ⟨W.heap.size + 1, j, none⟩ = false := fun j hj => by
        rw [HB.out.cell (p := ⟨W.heap.size + 1, j, none⟩) hg1, HB.out.frozen (p := ⟨W.heap.size + 1, j, none⟩) hg1]
        exact HRS.out j hj
      have q0 := (p0 0 (by omega)).1
      have q1 := (p0 1 (by omega)).1
      have q2 := (p0 2 (by omega)).1
      have q3 := (p0 3 (by omega)).1
      have f0 := (p0 0 (by omega)).2
      have f1 := (p0 1 (by omega)).2
      have f2 := (p0 2 (by omega)).2
      have f3 := (p0 3 (by omega)).2
      obtain ⟨s0, d0, hv0, _, _⟩ := Own.row (hrr.own 0 (by omega))
      obtain ⟨s1, d1, hv1, _, _⟩ := Own.row (hrr.own 1 (by omega))
      obtain ⟨s2, d2, hv2, _, _⟩ := Own.row (hrr.own 2 (by omega))
      obtain ⟨s3, d3, hv3, _, _⟩ := Own.row (hrr.own 3 (by omega))
      rw [hv0] at z0
      rw [hv1] at z1
      rw [hv2] at z2
      rw [hv3] at z3
      have HV := Lib.hid (show vs 0 = _ ∧ vs 1 = _ ∧ vs 2 = _ ∧ vs 3 = _ from ⟨hv0, hv1, hv2, hv3⟩)
      have HRR := Lib.hid hrr
      clear p0 hrr HR hv0 hv1 hv2 hv3
      obtain ⟨n0, hn0⟩ : ∃ n, ((levSt T.sh T.top es).1.getD 0 []).length = n := ⟨_, rfl⟩
      obtain ⟨n1, hn1⟩ : ∃ n, ((levSt T.sh T.top es).1.getD 1 []).length = n := ⟨_, rfl⟩
      obtain ⟨n2, hn2⟩ : ∃ n, ((levSt T.sh T.top es).1.getD 2 []).length = n := ⟨_, rfl⟩
      obtain ⟨n3, hn3⟩ : ∃ n, ((levSt T.sh T.top es).1.getD 3 []).length = n := ⟨_, rfl⟩
      rw [hn0] at z0 HV
      rw [hn1] at z1 HV
      rw [hn2] at z2 HV
      rw [hn3] at z3 HV
      clear hn0 hn1 hn2 hn3
      go_wp2_with fail
      refine bodyPost_ret (v := .agg #[.slice s0 n0 d0, .slice s1 n1 d1, .slice s2 n2 d2, .slice s3 n3 d3]) (by simp [results, Tryz.results17, go_sem, q0, q1, q2, q3]) rfl ⟨vs, by rw [HV.out.1, HV.out.2.1, HV.out.2.2.1, HV.out.2.2.2], ?_, ?_⟩
      · exact lv_end HB0.out HB.out (by omega) _ _ _ _
      · intro i hi
        refine ownI_lower (B := g + 1) ?_ (by omega)
        exact ownsRow_setCell_below (ownsRow_setCell_below (ownsRow_setCell_below (ownsRow_setCell_below (HRR.out.own i hi) (show W.heap.size + 1 < g + 1 by omega) _) (show W.heap.size + 1 < g + 1 by omega) _) (show W.heap.size + 1 < g + 1 by omega) _) (show W.heap.size + 1 < g + 1 by omega) _
end Go.Proofs.YticjgmhgpeihjaaGreatDoor
namespace Go.Proofs.YticjgmhgpeihjaaGreatDoor
open Go.RowKit Go.Gz

theorem info_u8 : (Tryz.prog.info? 5).map (fun i => (i.zero, i.size, i.bytes)) = some (some (.int .u8 0), 1, 1) := by kernel_rfl
def numsB (l : List UInt8) : List Int := l.map fun x => (x.toNat : Int)
theorem numsB_append (a b : List UInt8) : numsB (a ++ b) = numsB a ++ numsB b := by simp [numsB]
theorem numsB_length (l : List UInt8) : (numsB l).length = l.length := by simp [numsB]
theorem numsB_two (x : Int) : numsB (two x) = [x / 256 % 256, x % 256] := by
  simp only [numsB, two, List.map_cons, List.map_nil]
  rw [u8n _ (by omega), u8n _ (by omega)]
  congr 1
  · omega
  · congr 1; omega
/-- a row of bytes of the caller's own. -/
def OwnB (w : World) (B : Nat) (v : Value) (l : List UInt8) : Prop := Own w B 5 .u8 v (numsB l)
def RetB (B : Nat) (W : World) (l : List UInt8) (e : Ending) (w' : World) : Prop := ∃ v, e = .returned v ∧ OwnB w' B v l ∧ Below B W w'
theorem twoI (w : World) (x y : Int) (t : TypeId) : ∀ j, j < 2 → (w.alloc (.cells #[.int .u8 x, .int .u8 y] t)).cell? ⟨w.heap.size, j, none⟩ = some (.int .u8 ([x, y].getD j 0)) := by
  intro j hj
  rw [World.cell?_alloc_new]
  match j, hj with
  | 0, _ => rfl
  | 1, _ => rfl

set_option maxHeartbeats 1000000 in
set_option maxRecDepth 100000 in
theorem appendWeight_any (B : Nat) (v : Value) (l : List UInt8) (x : Int) (h0 : 0 ≤ x) (h1 : x ≤ 65535) (W : World) (hown : OwnB W B v l) (hB : B ≤ W.heap.size) (hl : l.length ≤ 100000) :
    Calls Tryz.prog 35 #[v, .int .i64 x] W (RetB B W (l ++ two x)) := by
  have HO := Lib.hid hown; clear hown
  have hl' : (numsB l).length ≤ 100000 := by rw [numsB_length]; exact hl
  go_enter Tryz.func35, Tryz.ntmps35
  have HT := Lib.hid (show numsB (l ++ two x) = numsB l ++ [x / 256, x % 256] by
    rw [numsB_append, numsB_two, show x / 256 % 256 = x / 256 by omega])
  have hb1 := Lib.hid ((Below.refl B W).alloc hB (.cells #[.int .u8 (x / 256), .int .u8 (x % 256)] 5))
  go_wp2_with (at_builtin; refine wpList_own_push rfl _ _ 58 rfl 5 .u8 1 Tryz.underlying58 info_u8 (by decide) B _ (numsB l) rfl (Own.alloc HO.out _) W.heap.size 2 2 [x / 256, x % 256] rfl rfl ?cellsW ?lenW ?belowW ?_)
  case cellsW => exact twoI _ _ _ _
  case lenW => omega
  case belowW => simp; omega
  intro v' w' hown' hgrow'
  have HB := Lib.hid (hb1.out.grown hgrow' (by simp; omega) (fun g hg => HO.out.lt g hg))
  have HO' := Lib.hid hown'
  clear hown' hgrow'
  go_wp2_with fail
  go_ret
  exact ⟨_, rfl, by unfold OwnB; rw [HT.out]; exact HO'.out, HB.out⟩

theorem cells_str (s : ByteArray) : Lib.strCells s = (numsB s.data.toList).map (Value.int .u8) := by
  simp [Lib.strCells, numsB, List.map_map]
/-- append of a string's bytes onto a row of the caller's own. -/
theorem wpList_ownB_str {w : World} {ops : Array Oper} {rest : List Oper} {o : Oper} {a : Act} {Q : Exit → Act → World → Prop} (hgd : o.guard = none) (sl x : Operand)
    (ho : o.op = .call { callee := .builtin .append, args := #[sl, x], argTypes := #[58, 9] })
    (B : Nat) (v : Value) (l : List UInt8) (hs : a.eval sl = v) (hown : OwnB w B v l) (s : ByteArray) (hx : a.eval x = .string s) (hlen : l.length + s.data.toList.length ≤ 1000000) (hB : B ≤ w.heap.size)
    (hK : ∀ v' w', OwnB w' B v' (l ++ s.data.toList) → Below B w w' → wpList Tryz.prog ops Q rest (a.put o.dst v') w') : wpList Tryz.prog ops Q (o :: rest) a w := by
  obtain ⟨i0, hi, hz0, hz1, hz2⟩ := info_parts info_u8
  have hsz : s.size = s.data.toList.length := by simp
  have hn : (numsB l).length = l.length := numsB_length l
  refine Lib.wpList_append_own_string w hgd sl x 58 9 ho B 5 i0 Tryz.underlying58 Tryz.underlying9 hi hz0 hz1 hz2 v (numsB l).length ((numsB l).map (Value.int .u8)) hs hown s hx (by unfold maxLen; omega) (by omega) hB ?_
  intro v' w' h1 h2 _
  refine hK v' w' ?_ ((Below.refl B w).grown h2 hB fun g hg => (World.ownsRow.lt hown g hg).1)
  unfold OwnB Own
  rw [numsB_append, List.length_append, List.map_append, numsB_length s.data.toList, ← hsz, ← cells_str]
  exact h1

def JnRel (B : Nat) (W : World) (l0 : List UInt8) (L : List Int) (vo vi : Value) (wr : World) (g : Nat) : Prop :=
  ∃ k : Nat, vi = .int .i64 (k : Int) ∧ k ≤ L.length ∧ L.length - k ≤ g ∧ Below B W wr ∧ OwnB wr B vo (l0 ++ lvB (L.take k))
theorem strCells_nil : Lib.strCells ⟨#[]⟩ = [] := by rfl

set_option maxHeartbeats 2000000 in
set_option maxRecDepth 100000 in
theorem joinInt_any (B : Nat) (v : Value) (l : List UInt8) (L : List Int) (p : Option Addr) (c : Nat) (W : World) (hown : OwnB W B v l) (hB : B ≤ W.heap.size) (hl : l.length + 2 * L.length ≤ 100000) (hp : Row W .i64 p L) (hlo : ∀ b o, p = some ⟨b, o, none⟩ → b < B) (hL : ∀ x ∈ L, 0 ≤ x ∧ x ≤ 65535) :
    Calls Tryz.prog 34 #[v, .slice p L.length c, .string ⟨#[]⟩, .func (.func 35) #[] #[]] W (RetB B W (l ++ lvB L)) := by
  have HO := Lib.hid hown; clear hown
  have HP := Lib.hid hp; clear hp
  have HLO := Lib.hid hlo; clear hlo
  have HL := Lib.hid hL; clear hL
  go_enter Tryz.func34, Tryz.ntmps34
  go_wp2_with fail
  go_loopg [0, 13] L.length (fun g vo vi wr => Hid (JnRel B W l L vo vi wr g))
  case atStart => exact Lib.hid ⟨0, rfl, Nat.zero_le _, by omega, Below.refl _ _, by rw [List.take_zero]; simpa [lvB] using HO.out⟩
  case round =>
    have hrel' := hrel.out
    clear hrel
    obtain ⟨k, rfl, hk, hg, hb, hown⟩ := hrel'
    have HB := Lib.hid hb
    have HOk := Lib.hid hown
    have hsz : B ≤ wr.heap.size := Nat.le_trans hB hb.size
    clear hb hown
    by_cases hlt : k < L.length
    · have hltz : (k : Int) < (L.length : Int) := by omega
      have hcell : ∃ b o, p = some ⟨b, o, none⟩ ∧ b < B ∧ wr.cell? ⟨b, o + k, none⟩ = some (.int .i64 (L.getD k 0)) := by
        rcases HP.out with h | ⟨b, o, hp, h1, h2⟩
        · rw [h] at hlt; simp at hlt
        · exact ⟨b, o, hp, HLO.out b o hp, by rw [HB.out.cell (p := ⟨b, o + k, none⟩) (HLO.out b o hp)]; exact h2 k hlt⟩
      obtain ⟨b, o, rfl, hbB, hcell⟩ := hcell
      have hx := HL.out (L.getD k 0) (by simp [List.getD, hlt])
      have HTS := Lib.hid (show l ++ lvB (L.take (k + 1)) = (l ++ lvB (L.take k)) ++ two (L.getD k 0) by
        rw [List.take_succ_eq_append_getElem hlt, lvB_snoc, List.append_assoc]; simp [List.getD, hlt])
      have hll : (l ++ lvB (L.take k)).length ≤ 100000 := by rw [List.length_append, lvB_length, List.length_take]; omega
      obtain ⟨x, hxx⟩ : ∃ x, L.getD k 0 = x := ⟨_, rfl⟩
      rw [hxx] at hcell hx HTS
      clear hxx
      have CA := Lib.hid (fun v w hw hb => appendWeight_any B v (l ++ lvB (L.take k)) x hx.1 hx.2 w hw hb hll)
      by_cases hk0 : 0 < k
      · have hk0z : (0 : Int) < (k : Int) := by omega
        go_wp2_with (at_builtin; refine wpList_ownB_str rfl _ _ rfl B _ (l ++ lvB (L.take k)) rfl HOk.out ⟨#[]⟩ rfl (by have := hll; simp only [List.length_nil]; omega) hsz ?_)
        intro v0 w0 hown0 hb0
        have HB0 := Lib.hid (HB.out.trans hb0)
        have HO0 := Lib.hid (show OwnB w0 B v0 (l ++ lvB (L.take k)) by simpa using hown0)
        have hsz0 : B ≤ w0.heap.size := Nat.le_trans hB HB0.out.size
        clear hown0 hb0
        go_wp2_with fail
        refine (CA.out v0 w0 HO0.out (by omega)).mono ?_
        rintro e w1 ⟨v1, rfl, hown1, hb1⟩
        have HB1 := Lib.hid (HB0.out.trans hb1)
        have HO1 := Lib.hid hown1
        clear hown1 hb1
        go_wp2_with fail
        go_roundg (L.length - (k + 1))
        case measure => omega
        case rel => exact Lib.hid ⟨k + 1, by go_num, by omega, by omega, HB1.out, by rw [HTS.out]; exact HO1.out⟩
      · have hk0z : decide ((0 : Int) < (k : Int)) = false := decide_eq_false (by omega)
        have hk0n : decide (0 < k) = false := decide_eq_false hk0
        clear hk0
        go_wp2_with fail
        refine (CA.out _ wr HOk.out hsz).mono ?_
        rintro e w1 ⟨v1, rfl, hown1, hb1⟩
        have HB1 := Lib.hid (HB.out.trans hb1)
        have HO1 := Lib.hid hown1
        clear hown1 hb1
        go_wp2_with fail
        go_roundg (L.length - (k + 1))
        case measure => omega
        case rel => exact Lib.hid ⟨k + 1, by go_num, by omega, by omega, HB1.out, by rw [HTS.out]; exact HO1.out⟩
    · obtain rfl : k = L.length := by omega
      have hltz : ¬ (L.length : Int) < (L.length : Int) := by omega
      go_wp2_with fail
      go_ret
      exact ⟨_, rfl, by have := HOk.out; rwa [List.take_length] at this, HB.out⟩

theorem appendLevel_any (B : Nat) (v : Value) (l : List UInt8) (L : List Int) (p : Option Addr) (c : Nat) (W : World) (hown : OwnB W B v l) (hB : B ≤ W.heap.size) (hl : l.length + 2 * L.length ≤ 100000) (hp : Row W .i64 p L) (hlo : ∀ b o, p = some ⟨b, o, none⟩ → b < B) (hL : ∀ x ∈ L, 0 ≤ x ∧ x ≤ 65535) :
    Calls Tryz.prog 19 #[v, .slice p L.length c] W (RetB B W (l ++ lvB L)) := by
  have C := Lib.hid (joinInt_any B v l L p c W hown hB hl hp hlo hL)
  clear hown hp hlo hL
  go_enter Tryz.func19, Tryz.ntmps19
  go_wp2_with fail
  refine C.out.mono ?_
  rintro e w1 ⟨v1, rfl, hown1, hb1⟩
  have HO := Lib.hid hown1
  have HB := Lib.hid hb1
  clear hown1 hb1
  go_wp2_with fail
  go_ret
  exact ⟨_, rfl, HO.out, HB.out⟩

/-- slice pointer p reads in w as rows of numbers, all of them in blocks below B. -/
def LvsAt (w : World) (B : Nat) (p : Option Addr) (L : List (List Int)) : Prop :=
  ∀ j, j < L.length → ∃ b o q c, p = some ⟨b, o, none⟩ ∧ b < B ∧ w.cell? ⟨b, o + j, none⟩ = some (.slice q (L.getD j []).length c) ∧ Row w .i64 q (L.getD j []) ∧ ∀ b' o', q = some ⟨b', o', none⟩ → b' < B
theorem row_belowB {w w' : World} {B : Nat} {k : IntKind} {p : Option Addr} {xs : List Int} (h : Row w k p xs) (hb : Below B w w') (hlo : ∀ b o, p = some ⟨b, o, none⟩ → b < B) : Row w' k p xs := by
  rcases h with h | ⟨b, off, hp, hlt, hc⟩
  · exact Or.inl h
  · exact Or.inr ⟨b, off, hp, Nat.lt_of_lt_of_le hlt hb.size, fun j hj => by rw [hb.cell (p := ⟨b, off + j, none⟩) (hlo b off hp)]; exact hc j hj⟩
def JlRel (B : Nat) (W : World) (L : List (List Int)) (vo vi : Value) (wr : World) (g : Nat) : Prop :=
  ∃ k : Nat, vi = .int .i64 (k : Int) ∧ k ≤ L.length ∧ L.length - k ≤ g ∧ Below B W wr ∧ OwnB wr B vo (keyB (L.take k))
theorem keyB_take {L : List (List Int)} {k : Nat} (h : k < L.length) : keyB (L.take (k + 1)) = if k = 0 then lvB (L.getD k []) else keyB (L.take k) ++ [0, 0] ++ lvB (L.getD k []) := by
  rw [List.take_succ_eq_append_getElem h]
  have e : L[k] = L.getD k [] := by simp [List.getD, h]
  rw [e]
  by_cases hk : k = 0
  · subst hk
    simp [keyB]
  · rw [if_neg hk, keyB_snoc]
    · simp
    · intro hn
      have := congrArg List.length hn
      rw [List.length_take, List.length_nil] at this
      omega
theorem keyB_few : ∀ (L : List (List Int)) (n : Nat), (∀ l ∈ L, l.length ≤ n) → (keyB L).length ≤ L.length * (2 * n + 2)
  | [], _, _ => by simp [keyB]
  | l :: t, n, h => by
    have hl := h l (by simp)
    have ht : ∀ t : List (List Int), (∀ m ∈ t, m.length ≤ n) → (t.flatMap fun m => (0 : UInt8) :: 0 :: lvB m).length ≤ t.length * (2 * n + 2) := fun t => by
      induction t with
      | nil => intro _; simp
      | cons m t ih =>
        intro hm
        have h1 := hm m (by simp)
        have h2 := ih fun z hz => hm z (by simp [hz])
        simp only [List.flatMap_cons, List.length_append, List.length_cons, lvB_length, Nat.add_mul, Nat.one_mul]
        omega
    have h3 := ht t fun m hm => h m (by simp [hm])
    show (lvB l ++ _).length ≤ _
    rw [List.length_append, lvB_length, List.length_cons, Nat.add_mul, Nat.one_mul]
    obtain ⟨z, hz⟩ : ∃ z, t.length * (2 * n + 2) = z := ⟨_, rfl⟩
    rw [hz] at h3 ⊢
    omega

set_option maxHeartbeats 2000000 in
set_option maxRecDepth 100000 in
theorem joinLv_any (B : Nat) (L : List (List Int)) (p : Option Addr) (c n : Nat) (W : World) (hB : B ≤ W.heap.size) (hn : ∀ l ∈ L, l.length ≤ n) (hn2 : L.length ≤ 4) (hn3 : n ≤ 9000) (hp : LvsAt W B p L) (hL : ∀ l ∈ L, ∀ x ∈ l, 0 ≤ x ∧ x ≤ 65535) :
    Calls Tryz.prog 18 #[.slice none 0 0, .slice p L.length c, .string ⟨#[0, 0]⟩, .func (.func 19) #[] #[]] W (RetB B W (keyB L)) := by
  have HP := Lib.hid hp; clear hp
  have HL := Lib.hid hL; clear hL
  have HN := Lib.hid hn; clear hn
  go_enter Tryz.func18, Tryz.ntmps18
  go_wp2_with fail
  go_loopg [0, 13] L.length (fun g vo vi wr => Hid (JlRel B W L vo vi wr g))
  case atStart => exact Lib.hid ⟨0, rfl, Nat.zero_le _, by omega, Below.refl _ _, by rw [List.take_zero]; exact Own.nil _ _ _ _⟩
  case round =>
    have hrel' := hrel.out
    clear hrel
    obtain ⟨k, rfl, hk, hg, hb, hown⟩ := hrel'
    have HB := Lib.hid hb
    have HOk := Lib.hid hown
    have hsz : B ≤ wr.heap.size := Nat.le_trans hB hb.size
    clear hb hown
    by_cases hlt : k < L.length
    · have hltz : (k : Int) < (L.length : Int) := by omega
      obtain ⟨b, o, q, cq, rfl, hbB, hcell, hrow, hqB⟩ := HP.out k hlt
      have hcell' : wr.cell? ⟨b, o + k, none⟩ = some (.slice q (L.getD k []).length cq) := by rw [HB.out.cell (p := ⟨b, o + k, none⟩) hbB]; exact hcell
      have hm : L.getD k [] ∈ L := by simp [List.getD, hlt]
      have HTS := Lib.hid (keyB_take hlt)
      have hfl := keyB_few (L.take k) n fun l hl => HN.out l (List.mem_of_mem_take hl)
      have hkl : (L.take k).length ≤ 4 := by rw [List.length_take]; omega
      have hll : (keyB (L.take k)).length ≤ 80008 := Nat.le_trans hfl (Nat.le_trans (Nat.mul_le_mul hkl (show 2 * n + 2 ≤ 20002 by omega)) (by decide))
      have hlk := HN.out _ hm
      have HRk := Lib.hid (row_belowB hrow HB.out hqB)
      have HQB := Lib.hid hqB
      have HLk := Lib.hid (HL.out _ hm)
      obtain ⟨x, hxx⟩ : ∃ x, L.getD k [] = x := ⟨_, rfl⟩
      rw [hxx] at hcell' HTS HRk HLk hlk
      clear hxx hcell hrow hm hfl hkl hqB
      have CA := Lib.hid (fun v w l (hb : Below B wr w) hw (hll2 : l.length ≤ 80018) => appendLevel_any B v l x q cq w hw (Nat.le_trans hsz hb.size) (by omega) (row_belowB HRk.out hb HQB.out) HQB.out HLk.out)
      by_cases hk0 : 0 < k
      · have hk0z : (0 : Int) < (k : Int) := by omega
        have HK := Lib.hid (show keyB (L.take (k + 1)) = keyB (L.take k) ++ [0, 0] ++ lvB x by rw [HTS.out, if_neg (by omega)])
        go_wp2_with (at_builtin; refine wpList_ownB_str rfl _ _ rfl B _ (keyB (L.take k)) rfl HOk.out ⟨#[0, 0]⟩ rfl (by have := hll; simp only [List.length_cons, List.length_nil]; omega) hsz ?_)
        intro v0 w0 hown0 hb0
        have HB0 := Lib.hid hb0
        have HO0 := Lib.hid (show OwnB w0 B v0 (keyB (L.take k) ++ [0, 0]) from hown0)
        have hsz0 : B ≤ w0.heap.size := Nat.le_trans hsz HB0.out.size
        have hl2 : (keyB (L.take k) ++ [0, 0]).length ≤ 80018 := by rw [List.length_append]; simp; omega
        clear hown0 hb0
        go_wp2_with fail
        refine (CA.out v0 w0 _ HB0.out HO0.out hl2).mono ?_
        rintro e w1 ⟨v1, rfl, hown1, hb1⟩
        have HB1 := Lib.hid ((HB.out.trans HB0.out).trans hb1)
        have HO1 := Lib.hid hown1
        clear hown1 hb1 hl2
        go_wp2_with fail
        go_roundg (L.length - (k + 1))
        case measure => omega
        case rel => exact Lib.hid ⟨k + 1, by go_num, by omega, by omega, HB1.out, by rw [HK.out]; exact HO1.out⟩
      · have hk0z : decide ((0 : Int) < (k : Int)) = false := decide_eq_false (by omega)
        have hk0n : decide (0 < k) = false := decide_eq_false hk0
        have HK := Lib.hid (show keyB (L.take (k + 1)) = keyB (L.take k) ++ lvB x by
          rw [HTS.out, if_pos (by omega)]
          have : k = 0 := by omega
          subst this
          simp [keyB])
        clear hk0
        go_wp2_with fail
        refine (CA.out _ wr _ (Below.refl _ _) HOk.out (by omega)).mono ?_
        rintro e w1 ⟨v1, rfl, hown1, hb1⟩
        have HB1 := Lib.hid (HB.out.trans hb1)
        have HO1 := Lib.hid hown1
        clear hown1 hb1
        go_wp2_with fail
        go_roundg (L.length - (k + 1))
        case measure => omega
        case rel => exact Lib.hid ⟨k + 1, by go_num, by omega, by omega, HB1.out, by rw [HK.out]; exact HO1.out⟩
    · obtain rfl : k = L.length := by omega
      have hltz : ¬ (L.length : Int) < (L.length : Int) := by omega
      go_wp2_with fail
      go_ret
      exact ⟨_, rfl, by have := HOk.out; rwa [List.take_length] at this, HB.out⟩
end Go.Proofs.YticjgmhgpeihjaaGreatDoor
