/-
  Several texts in one: ScMath, SdBase, SdFirst, SdTurn, SdRead, SdStr, SdRefMay, ScLeaf, SdRefRead, SdRefCompare.
-/
import Derived.Lib.DecodeN
import Derived.Lib.RuneBytes
import Derived.Lib.Small
import Derived.Shelf.Unicode.DecodeSlow
import Derived.Test.YticjgmhgpeihjaaGreatDoorChecked
import Derived.Test.YticjgmhgpeihjaaGreatDoorShelf
import Derived.WalkKit
import Derived.Handy
import Derived.Below
import Derived.Lib.Hide
import Derived.BigQuiet
import Derived.Deep.QuietTactic
import Derived.RegionTactic
import Derived.LoopTactic
import Derived.ArgAppend
import Derived.Lib.Bits
import Derived.Lib.Bytealg
import Derived.Laws.Cover1
namespace Go.Gz
open Go.Lib

def V (r : Int) : Prop := (0 ≤ r ∧ r < 0xD800) ∨ (0xDFFF < r ∧ r ≤ 0x10FFFF)
theorem validRune_iff (r : Int) : Lib.validRune r = true ↔ V r := by simp [Lib.validRune, V]
def enc (r : Int) : List UInt8 := Lib.encodeRune r
def encAll (l : List Int) : List UInt8 := l.flatMap enc
@[simp] theorem encAll_nil : encAll [] = [] := rfl
@[simp] theorem encAll_cons (r : Int) (l : List Int) : encAll (r :: l) = enc r ++ encAll l := rfl
theorem encAll_append (a b : List Int) : encAll (a ++ b) = encAll a ++ encAll b := by simp [encAll]
theorem enc_length (r : Int) : 1 ≤ (enc r).length ∧ (enc r).length ≤ 4 := by
  have := encodeRuneZ_length r
  simpa [enc, encodeRune] using this
theorem enc_ne (r : Int) : enc r ≠ [] := by
  intro h
  have := (enc_length r).1
  rw [h] at this
  simp at this

def stepU (l : List UInt8) : Nat × Nat := decodeN l.length (l.getD 0 0).toNat (l.getD 1 0).toNat (l.getD 2 0).toNat (l.getD 3 0).toNat
def okS (l : List UInt8) : Prop := ¬ ((stepU l).1 = 65533 ∧ (stepU l).2 < 2)

theorem u8 (z : Int) (_h0 : 0 ≤ z) (h1 : z < 256) : (z.toNat.toUInt8).toNat = z.toNat := by
  simp; omega

theorem enc_one {r : Int} (h0 : 0 ≤ r) (h1 : r ≤ 127) : enc r = [r.toNat.toUInt8] := by simp [enc, encodeRune, encodeRuneZ_one h0 h1]
theorem enc_two {r : Int} (h0 : 128 ≤ r) (h1 : r ≤ 2047) : enc r = [(192 + r / 64).toNat.toUInt8, (128 + r % 64).toNat.toUInt8] := by simp [enc, encodeRune, encodeRuneZ_two h0 h1]
theorem enc_three {r : Int} (h : (2048 ≤ r ∧ r < 55296) ∨ (57343 < r ∧ r ≤ 65535)) : enc r = [(224 + r / 4096).toNat.toUInt8, (128 + r / 64 % 64).toNat.toUInt8, (128 + r % 64).toNat.toUInt8] := by simp [enc, encodeRune, encodeRuneZ_three h]
theorem enc_four {r : Int} (h0 : 65536 ≤ r) (h1 : r ≤ 1114111) : enc r = [(240 + r / 262144).toNat.toUInt8, (128 + r / 4096 % 64).toNat.toUInt8, (128 + r / 64 % 64).toNat.toUInt8, (128 + r % 64).toNat.toUInt8] := by simp [enc, encodeRune, encodeRuneZ_four h0 h1]

theorem V_cases {r : Int} (h : V r) : (0 ≤ r ∧ r ≤ 127) ∨ (128 ≤ r ∧ r ≤ 2047) ∨ ((2048 ≤ r ∧ r < 55296) ∨ (57343 < r ∧ r ≤ 65535)) ∨ (65536 ≤ r ∧ r ≤ 1114111) := by
  unfold V at h; omega

set_option maxHeartbeats 1000000 in
theorem step_enc {r : Int} (h : V r) (rest : List UInt8) : stepU (enc r ++ rest) = (r.toNat, (enc r).length) := by
  rcases V_cases h with h | h | h | h
  · rw [enc_one h.1 h.2]
    simp only [stepU, List.cons_append, List.nil_append, List.getD_cons_zero, List.length_cons, List.length_nil]
    rw [u8 _ (by omega) (by omega)]
    simp only [decodeN]
    rw [if_pos (by omega)]
  · rw [enc_two h.1 h.2]
    simp only [stepU, List.cons_append, List.nil_append, List.getD_cons_zero, List.getD_cons_succ, List.length_cons, List.length_nil]
    rw [u8 _ (by omega) (by omega), u8 _ (by omega) (by omega)]
    simp only [decodeN]
    rw [if_neg (by omega), if_pos (by omega), if_pos (by omega)]
    exact Prod.ext (by show (_ : Nat) = _; omega) rfl
  · rw [enc_three h]
    simp only [stepU, List.cons_append, List.nil_append, List.getD_cons_zero, List.getD_cons_succ, List.length_cons, List.length_nil]
    rw [u8 _ (by omega) (by omega), u8 _ (by omega) (by omega), u8 _ (by omega) (by omega)]
    simp only [decodeN]
    rw [if_neg (by omega), if_neg (by omega), if_pos (by omega), if_pos (by omega)]
    exact Prod.ext (by show (_ : Nat) = _; omega) rfl
  · rw [enc_four h.1 h.2]
    simp only [stepU, List.cons_append, List.nil_append, List.getD_cons_zero, List.getD_cons_succ, List.length_cons, List.length_nil]
    rw [u8 _ (by omega) (by omega), u8 _ (by omega) (by omega), u8 _ (by omega) (by omega), u8 _ (by omega) (by omega)]
    simp only [decodeN]
    rw [if_neg (by omega), if_neg (by omega), if_neg (by omega), if_pos (by omega), if_pos (by omega)]
    exact Prod.ext (by show (_ : Nat) = _; omega) rfl

theorem ok_enc {r : Int} (h : V r) (rest : List UInt8) : okS (enc r ++ rest) := by
  unfold okS
  rw [step_enc h]
  simp only
  intro ⟨h1, h2⟩
  have : r = 65533 := by unfold V at h; omega
  subst this
  rw [enc_three (by omega)] at h2
  simp at h2

theorem u8_eq (x : UInt8) (n : Nat) (h : n < 256) (e : x.toNat = n) : x = n.toUInt8 := by
  apply UInt8.toNat_inj.1
  rw [e]; simp; omega
theorem u8_eqZ (x : UInt8) (z : Int) (h0 : 0 ≤ z) (h1 : z < 256) (e : x.toNat = z.toNat) : x = z.toNat.toUInt8 := u8_eq x _ (by omega) e

theorem three_of {t : List UInt8} (h : 3 ≤ t.length) : ∃ b1 b2 b3 t', t = b1 :: b2 :: b3 :: t' := by
  match t, h with
  | b1 :: b2 :: b3 :: t, _ => exact ⟨b1, b2, b3, t, rfl⟩

set_option maxRecDepth 100000 in
set_option maxHeartbeats 1000000 in
/-- what decodes well is a rune's bytes. -/
theorem step_ok : ∀ (l : List UInt8), l ≠ [] → okS l → ∃ r : Int, V r ∧ l = enc r ++ l.drop (enc r).length ∧ stepU l = (r.toNat, (enc r).length)
  | b0 :: t, _, ok => by
    have l0 := b0.toNat_lt
    simp only [okS, stepU, decodeN, List.getD_cons_zero, List.getD_cons_succ, List.length_cons] at ok
    by_cases c1 : b0.toNat < 128
    · refine ⟨b0.toNat, by unfold V; omega, ?_⟩
      have e : enc (b0.toNat : Int) = [b0] := by rw [enc_one (by omega) (by omega)]; simp
      have hv : V (b0.toNat : Int) := by unfold V; omega
      have := step_enc hv t
      rw [e] at this ⊢
      exact ⟨by simp, this⟩
    · rw [if_neg c1] at ok
      by_cases c2 : b0.toNat / 32 = 6 ∧ (1 < t.length + 1 ∧ (t.getD 0 0).toNat / 64 = 2)
      · rw [if_pos c2] at ok
        by_cases d : b0.toNat % 32 * 64 + (t.getD 0 0).toNat % 64 ≥ 128
        · match t, c2, d with
          | b1 :: t, c2, d =>
            simp only [List.getD_cons_zero] at c2 d
            have l1 := b1.toNat_lt
            have hv : V ((b0.toNat % 32 * 64 + b1.toNat % 64 : Nat) : Int) := by unfold V; omega
            have e : enc ((b0.toNat % 32 * 64 + b1.toNat % 64 : Nat) : Int) = [b0, b1] := by
              rw [enc_two (by omega) (by omega)]
              rw [← u8_eqZ b0 _ (by omega) (by omega) (by omega), ← u8_eqZ b1 _ (by omega) (by omega) (by omega)]
            have := step_enc hv t
            rw [e] at this
            exact ⟨_, hv, by rw [e]; simp, by rw [e]; exact this⟩
        · rw [if_neg d] at ok; simp at ok
      · rw [if_neg c2] at ok
        by_cases c3 : b0.toNat / 16 = 14 ∧ (1 < t.length + 1 ∧ (t.getD 0 0).toNat / 64 = 2) ∧ (2 < t.length + 1 ∧ (t.getD 1 0).toNat / 64 = 2)
        · rw [if_pos c3] at ok
          split at ok
          · rename_i d
            match t, c3, d with
            | b1 :: b2 :: t, c3, d =>
              simp only [List.getD_cons_zero, List.getD_cons_succ] at c3 d
              have l1 := b1.toNat_lt
              have l2 := b2.toNat_lt
              have hv : V ((b0.toNat % 16 * 4096 + b1.toNat % 64 * 64 + b2.toNat % 64 : Nat) : Int) := by unfold V; omega
              have e : enc ((b0.toNat % 16 * 4096 + b1.toNat % 64 * 64 + b2.toNat % 64 : Nat) : Int) = [b0, b1, b2] := by
                rw [enc_three (by omega)]
                rw [← u8_eqZ b0 _ (by omega) (by omega) (by omega), ← u8_eqZ b1 _ (by omega) (by omega) (by omega), ← u8_eqZ b2 _ (by omega) (by omega) (by omega)]
              have := step_enc hv t
              rw [e] at this
              exact ⟨_, hv, by rw [e]; simp, by rw [e]; exact this⟩
            | [b1], c3, _ => simp at c3
            | [], c3, _ => simp at c3
          · simp at ok
        · rw [if_neg c3] at ok
          by_cases c4 : b0.toNat / 8 = 30 ∧ (1 < t.length + 1 ∧ (t.getD 0 0).toNat / 64 = 2) ∧ (2 < t.length + 1 ∧ (t.getD 1 0).toNat / 64 = 2) ∧ (3 < t.length + 1 ∧ (t.getD 2 0).toNat / 64 = 2)
          · rw [if_pos c4] at ok
            obtain ⟨n, hn⟩ : ∃ n, n = b0.toNat % 8 * 262144 + (t.getD 0 0).toNat % 64 * 4096 + (t.getD 1 0).toNat % 64 * 64 + (t.getD 2 0).toNat % 64 := ⟨_, rfl⟩
            rw [← hn] at ok
            by_cases d0 : n ≥ 65536 ∧ (n < 55296 ∨ (57344 ≤ n ∧ n ≤ 1114111))
            · have d : 65536 ≤ n ∧ n ≤ 1114111 := by omega
              rw [hn] at d
              clear ok hn d0
              obtain ⟨b1, b2, b3, t, rfl⟩ := three_of (t := t) (by omega)
              simp only [List.getD_cons_zero, List.getD_cons_succ] at c4 d
              have l1 := b1.toNat_lt
              have l2 := b2.toNat_lt
              have l3 := b3.toNat_lt
              have hv : V ((b0.toNat % 8 * 262144 + b1.toNat % 64 * 4096 + b2.toNat % 64 * 64 + b3.toNat % 64 : Nat) : Int) := by unfold V; omega
              have e : enc ((b0.toNat % 8 * 262144 + b1.toNat % 64 * 4096 + b2.toNat % 64 * 64 + b3.toNat % 64 : Nat) : Int) = [b0, b1, b2, b3] := by
                rw [enc_four (by omega) (by omega)]
                rw [← u8_eqZ b0 _ (by omega) (by omega) (by omega), ← u8_eqZ b1 _ (by omega) (by omega) (by omega), ← u8_eqZ b2 _ (by omega) (by omega) (by omega), ← u8_eqZ b3 _ (by omega) (by omega) (by omega)]
              have := step_enc hv t
              rw [e] at this
              exact ⟨_, hv, by rw [e]; simp, by rw [e]; exact this⟩
            · rw [if_neg d0] at ok; simp at ok
          · rw [if_neg c4] at ok; simp at ok

theorem enc_toNat {r : Int} (h : V r) : ((r.toNat : Nat) : Int) = r := by unfold V at h; omega

/-- a text: the bytes of runes that may be. -/
def Txt (l : List UInt8) : Prop := ∃ rs : List Int, (∀ r ∈ rs, V r) ∧ l = encAll rs

theorem txt_step {l : List UInt8} (h0 : l ≠ []) (h : Txt l) : okS l ∧ Txt (l.drop (stepU l).2) := by
  obtain ⟨rs, hv, rfl⟩ := h
  match rs, hv, h0 with
  | r :: rs, hv, _ =>
    have hr : V r := hv r (by simp)
    rw [encAll_cons]
    refine ⟨ok_enc hr _, ?_⟩
    rw [step_enc hr]
    simp only [List.drop_left]
    exact ⟨rs, fun x hx => hv x (by simp [hx]), rfl⟩
theorem txt_back {l : List UInt8} (h0 : l ≠ []) (ok : okS l) (h : Txt (l.drop (stepU l).2)) : Txt l := by
  obtain ⟨r, hv, hl, hs⟩ := step_ok l h0 ok
  obtain ⟨rs, hvs, hrs⟩ := h
  rw [hs] at hrs
  exact ⟨r :: rs, fun x hx => (List.mem_cons.1 hx).elim (fun e => e ▸ hv) (hvs x), by rw [encAll_cons, ← hrs]; exact hl⟩

theorem encAll_inj : ∀ {a b : List Int}, (∀ r ∈ a, V r) → (∀ r ∈ b, V r) → encAll a = encAll b → a = b
  | [], [], _, _, _ => rfl
  | [], r :: b, _, _, h => by have := enc_ne r; simp at h; exact absurd h.1 this
  | r :: a, [], _, _, h => by have := enc_ne r; simp at h; exact absurd h.1 this
  | r :: a, q :: b, ha, hb, h => by
    rw [encAll_cons, encAll_cons] at h
    have hr : V r := ha r (by simp)
    have hq : V q := hb q (by simp)
    have e := step_enc hr (encAll a)
    rw [h, step_enc hq] at e
    simp only [Prod.mk.injEq] at e
    have : q = r := by rw [← enc_toNat hr, ← enc_toNat hq, e.1]
    subst this
    have := List.append_cancel_left h
    rw [encAll_inj (fun x hx => ha x (by simp [hx])) (fun x hx => hb x (by simp [hx])) this]

#print axioms step_ok
end Go.Gz
namespace Go.Proofs.YticjgmhgpeihjaaGreatDoor.Sc
open Go.RowKit Go.Gz

/-- slice pointer p reads in w as the numbers xs of kind k. -/
def Row (w : World) (k : IntKind) (p : Option Addr) (xs : List Int) : Prop :=
  xs = [] ∨ ∃ b off, p = some ⟨b, off, none⟩ ∧ b < w.heap.size ∧ ∀ j, j < xs.length → w.cell? ⟨b, off + j, none⟩ = some (.int k (xs.getD j 0))

theorem Row.below {w w' : World} {k : IntKind} {p : Option Addr} {xs : List Int} (h : Row w k p xs) (hb : Below w.heap.size w w') : Row w' k p xs := by
  rcases h with h | ⟨b, off, hp, hlt, hc⟩
  · exact Or.inl h
  · exact Or.inr ⟨b, off, hp, Nat.lt_of_lt_of_le hlt hb.size, fun j hj => by rw [hb.cell (p := ⟨b, off + j, none⟩) hlt]; exact hc j hj⟩
theorem below_drewN {B : Nat} {a w : World} (h : Below B a w) (n : Nat) : Below B a (w.drewN n) := ⟨h.os, h.tape, h.output, h.size, h.block⟩
theorem Row.drew {w : World} {k : IntKind} {p : Option Addr} {xs : List Int} (h : Row w k p xs) : Row w.drew k p xs := h.below (Below.refl _ _).drew

theorem may_any (r : Int) (w : World) : Calls Tryz.prog 75 #[.int .i32 r] w fun e w' => e = .returned (.bool (Lib.validRune r)) ∧ w' = w := by
  go_enter Tryz.func75, Tryz.ntmps75
  go_wp2_with (go_at_call 91; refine (Tryz.utf8_ValidRune _ _).mono ?_; rintro e w' ⟨rfl, rfl⟩)
  go_ret
  exact ⟨rfl, rfl⟩

theorem compare_any (a b : ByteArray) (w : World) : Calls Tryz.prog 23 #[.string a, .string b] w fun e w' => e = .returned (.int .i64 (Lib.compareBytes a.data.toList b.data.toList)) ∧ w' = w := by
  go_enter Tryz.func23, Tryz.ntmps23
  go_wp2_with (go_at_call 42; refine (Tryz.strings_Compare _ _ _).mono ?_; rintro e w' ⟨rfl, rfl⟩)
  go_ret
  exact ⟨rfl, rfl⟩

end Go.Proofs.YticjgmhgpeihjaaGreatDoor.Sc
namespace Go.Proofs.YticjgmhgpeihjaaGreatDoor.Sc
open Go.RowKit Go.Gz

/-- block b: its first cap cells may be written, and the first of them hold xs. -/
structure Buf (w : World) (b : Nat) (k : IntKind) (cap : Nat) (xs : List Int) : Prop where
  lt : b < w.heap.size
  le : xs.length ≤ cap
  cells : ∀ j, j < cap → (w.cell? ⟨b, j, none⟩).isSome = true ∧ w.frozen? ⟨b, j, none⟩ = false
  vals : ∀ j, j < xs.length → w.cell? ⟨b, j, none⟩ = some (.int k (xs.getD j 0))

theorem Buf.below {w w' : World} {b : Nat} {k : IntKind} {cap : Nat} {xs : List Int} (h : Buf w b k cap xs) (hb : Below w.heap.size w w') : Buf w' b k cap xs :=
  ⟨Nat.lt_of_lt_of_le h.lt hb.size, h.le, fun j hj => by rw [hb.cell (p := ⟨b, j, none⟩) h.lt, hb.frozen (p := ⟨b, j, none⟩) h.lt]; exact h.cells j hj,
    fun j hj => by rw [hb.cell (p := ⟨b, j, none⟩) h.lt]; exact h.vals j hj⟩
theorem Buf.nil {w : World} {b : Nat} {k : IntKind} {cap : Nat} {xs : List Int} (h : Buf w b k cap xs) : Buf w b k cap [] :=
  ⟨h.lt, Nat.zero_le _, h.cells, fun j hj => by simp at hj⟩
theorem Buf.row {w : World} {b : Nat} {k : IntKind} {cap : Nat} {xs : List Int} (h : Buf w b k cap xs) : Row w k (some ⟨b, 0, none⟩) xs :=
  Or.inr ⟨b, 0, rfl, h.lt, fun j hj => by rw [Nat.zero_add]; exact h.vals j hj⟩

theorem size_setCells (b : Nat) : ∀ (vs : List Value) (o : Nat) (w : World), (w.setCells b o vs).heap.size = w.heap.size
  | [], _, _ => rfl
  | v :: r, o, w => by rw [World.setCells, size_setCells b r (o + 1)]; simp
theorem below_setCells {B : Nat} {a : World} (b : Nat) (hB : B ≤ b) : ∀ (vs : List Value) (o : Nat) (w : World), Below B a w → Below B a (w.setCells b o vs)
  | [], _, _, h => h
  | v :: r, o, w, h => by rw [World.setCells]; exact below_setCells b hB r (o + 1) _ (h.setCell (p := ⟨b, o, none⟩) hB v)

theorem Buf.push {w : World} {b : Nat} {k : IntKind} {cap : Nat} {xs : List Int} (h : Buf w b k cap xs) (ys : List Int) (hl : xs.length + ys.length ≤ cap) :
    Buf (w.setCells b xs.length (ys.map (Value.int k))) b k cap (xs ++ ys) := by
  refine ⟨by rw [size_setCells]; exact h.lt, by simpa using hl, fun j hj => ?_, fun j hj => ?_⟩
  · rw [World.frozen?_setCells]
    refine ⟨?_, (h.cells j hj).2⟩
    by_cases hin : xs.length ≤ j ∧ j < xs.length + ys.length
    · obtain ⟨i, rfl⟩ : ∃ i, j = xs.length + i := ⟨j - xs.length, by omega⟩
      rw [World.cell?_setCells_in b _ _ _ (fun i hi => (h.cells _ (by simp at hi; omega)).1) i (by simp; omega)]
      rfl
    · rw [World.cell?_setCells_out b _ _ _ _ (fun _ _ => by simp; omega)]
      exact (h.cells j hj).1
  · simp only [List.length_append] at hj
    by_cases hin : xs.length ≤ j
    · obtain ⟨i, rfl⟩ : ∃ i, j = xs.length + i := ⟨j - xs.length, by omega⟩
      rw [World.cell?_setCells_in b _ _ _ (fun i hi => (h.cells _ (by simp at hi; omega)).1) i (by simp; omega)]
      simp [List.getD, show i < ys.length by omega]
    · rw [World.cell?_setCells_out b _ _ _ _ (fun _ _ => by simp; omega), h.vals j (by omega)]
      simp [List.getD, List.getElem?_append_left (show j < xs.length by omega)]

theorem Buf.alloc {w : World} {b : Nat} {k : IntKind} {cap : Nat} {xs : List Int} (h : Buf w b k cap xs) (o : Obj) : Buf (w.alloc o) b k cap xs :=
  h.below ((Below.refl _ _).alloc (Nat.le_refl _) _)

/-- append onto a buffer that has room: the law for the walk. -/
theorem wpList_push {P : Program} (w : World) {ops : Array Oper} {rest : List Oper} {o : Oper} {a : Act} {Q : Exit → Act → World → Prop}
    (hg : o.guard = none) (s x : Operand) (t : TypeId) (hop : o.op = Op.call { callee := Callee.builtin Builtin.append, args := #[s, x], argTypes := #[t, t] })
    (e : TypeId) (k : IntKind) (bytes : Nat) (h1 : P.underlying t = some (.slice e)) (hinfo : (P.info? e).map (fun i => (i.zero, i.size, i.bytes)) = some (some (.int k 0), 1, bytes)) (hby : bytes ≤ 8)
    (b cap : Nat) (xs : List Int) (hs : a.eval s = .slice (some ⟨b, 0, none⟩) xs.length cap) (hbuf : Buf w b k cap xs)
    (G m c : Nat) (ys : List Int) (hx : a.eval x = .slice (some ⟨G, 0, none⟩) m c) (hn : ys.length = m) (hc : ∀ j, j < m → w.cell? ⟨G, j, none⟩ = some (.int k (ys.getD j 0)))
    (hroom : xs.length + m ≤ cap) (hcap : cap ≤ 1000000)
    (hK : wpList P ops Q rest (a.put o.dst (.slice (some ⟨b, 0, none⟩) (xs.length + m) cap)) (w.setCells b xs.length (ys.map (Value.int k)))) :
    wpList P ops Q (o :: rest) a w := by
  obtain ⟨i0, hi, hz0, hz1, hz2⟩ := info_parts hinfo
  subst hn
  refine wpList_append_arg w hg s x t hop e i0 (.int k 0) 1 bytes h1 hi hz0 hz1 hz2 rfl (by decide) b 0 xs.length cap (xs.map (Value.int k)) hs (by simp) ?_ ⟨G, 0, none⟩ ys.length c (ys.map (Value.int k)) hx (by simp) ?_ ?_ ?_ (by unfold maxLen; omega) ?_ ?_ ?_
  · intro j u hj
    obtain ⟨hj', rfl⟩ := List.getElem?_eq_some_iff.1 hj
    simp only [List.length_map] at hj'
    rw [Nat.zero_add, hbuf.vals j hj']
    simp [List.getD, hj']
  · intro j u hj
    obtain ⟨hj', rfl⟩ := List.getElem?_eq_some_iff.1 hj
    simp only [List.length_map] at hj'
    rw [Addr.add_lit, Nat.zero_add, hc j hj']
    simp [List.getD, hj']
  · intro u hu
    obtain ⟨y, _, rfl⟩ := List.mem_map.1 hu
    rfl
  · intro _ j hj
    simp only [List.length_map] at hj
    have := hbuf.cells (xs.length + j) (by omega)
    simpa using this
  · have : (xs.length + ys.length) * bytes ≤ (xs.length + ys.length) * 8 := Nat.mul_le_mul_left _ hby
    omega
  · intro _
    have e : 0 + xs.length * 1 = xs.length := by omega
    rw [e]
    exact hK
  · intro h; omega

/-- the tables of utf8, where the world has grown. -/
theorem tabs_below {w w' : World} (h : Lib.Utf8Tabs 1 2 w) (hb : Below w.heap.size w w') : Lib.Utf8Tabs 1 2 w' := by
  have lt : ∀ {a : Addr} {v : Value}, w.cell? a = some v → a.block < w.heap.size := fun h => World.block_lt_of_cell? w _ h
  refine ⟨fun c hc => ?_, fun i hi => ⟨?_, ?_⟩⟩
  · rw [hb.cell (lt (h.1 c hc))]; exact h.1 c hc
  · rw [hb.cell (lt (h.2 i hi).1)]; exact (h.2 i hi).1
  · rw [hb.cell (lt (h.2 i hi).2)]; exact (h.2 i hi).2

def nums (l : List UInt8) : List Int := l.map fun x => (x.toNat : Int)
@[simp] theorem nums_length (l : List UInt8) : (nums l).length = l.length := by simp [nums]
theorem nums_getD (l : List UInt8) (j : Nat) (h : j < l.length) : (nums l).getD j 0 = ((l.getD j 0).toNat : Int) := by simp [nums, List.getD, h]

theorem get_mk (l : List UInt8) (i : Nat) : (ByteArray.mk l.toArray).get! i = l.getD i 0 := by
  show l.toArray[i]! = _
  simp [List.getD, getElem!_def]
  cases l[i]? <;> rfl
theorem decodeGo_eq (l : List UInt8) (h : l ≠ []) : Lib.decodeGo ⟨l.toArray⟩ = stepU l := by
  have hs : (ByteArray.mk l.toArray).size = l.length := by show l.toArray.size = _; simp
  have h0 : ¬ (ByteArray.mk l.toArray).size = 0 := by rw [hs]; simpa using h
  unfold Lib.decodeGo
  rw [if_neg h0, Lib.decode_at, hs, get_mk, get_mk, get_mk, get_mk]
  rfl

/-- DecodeRune of a row of bytes. -/
theorem decode_row (l : List UInt8) (h0 : l ≠ []) (p : Option Addr) (c : Nat) (w : World) (hT : Lib.Utf8Tabs 1 2 w) (hp : Row w .u8 p (nums l)) :
    Calls Tryz.prog 63 #[.slice p l.length c] w fun e w' => e = .returned (.tuple #[.int .i32 ((stepU l).1 : Nat), .int .i64 ((stepU l).2 : Nat)]) ∧ Below w.heap.size w w' := by
  rcases hp with hp | ⟨b, off, rfl, hlt, hc⟩
  · simp [nums] at hp; exact absurd hp h0
  · have := Tryz.utf8_DecodeRune ⟨l.toArray⟩ b off c w hT (fun j hj => by
      have hj' : j < l.length := by simpa [ByteArray.size] using hj
      rw [hc j (by simpa using hj'), nums_getD _ _ hj', get_mk])
    rw [decodeGo_eq l h0] at this
    rw [show (ByteArray.mk l.toArray).size = l.length from by simp [ByteArray.size]] at this
    exact this

theorem info_rune : (Tryz.prog.info? 21).map (fun i => (i.zero, i.size, i.bytes)) = some (some (.int .i32 0), 1, 4) := by kernel_rfl
theorem info_byte : (Tryz.prog.info? 5).map (fun i => (i.zero, i.size, i.bytes)) = some (some (.int .u8 0), 1, 1) := by kernel_rfl

/-- readFirst at a place that has no piece. -/
theorem readFirst_bad (l : List UInt8) (h0 : l ≠ []) (bad : ¬ okS l) (p : Option Addr) (c : Nat) (v : Value) (w : World) (hT : Lib.Utf8Tabs 1 2 w) (hp : Row w .u8 p (nums l)) :
    Calls Tryz.prog 44 #[v, .slice p l.length c] w fun e w' => e = .returned (.tuple #[v, .int .i64 0]) ∧ Below w.heap.size w w' := by
  have cD := Lib.hid (decode_row l h0 p c w hT hp)
  have hb : (stepU l).1 = 65533 ∧ (stepU l).2 < 2 := Classical.not_not.1 bad
  generalize stepU l = st at hb cD
  obtain ⟨r, k⟩ := st
  simp only at hb cD
  obtain ⟨rfl, hk⟩ := hb
  clear hT hp bad h0
  have hk2 : (k : Int) < 2 := by omega
  go_enter Tryz.func44, Tryz.ntmps44
  go_wp2_with fail
  refine cD.out.mono ?_
  rintro e w' ⟨rfl, hb⟩
  go_wp2
  go_ret2
  exact ⟨rfl, hb⟩

set_option maxHeartbeats 400000 in
/-- readFirst at a rune's bytes: the rune goes in behind what the buffer holds. -/
theorem readFirst_ok (l : List UInt8) (h0 : l ≠ []) (ok : okS l) (p : Option Addr) (c : Nat) (W w : World) (hT : Lib.Utf8Tabs 1 2 W) (hp : Row W .u8 p (nums l)) (hbw : Below W.heap.size W w)
    (b cap : Nat) (xs : List Int) (hB : W.heap.size ≤ b) (hbuf : Buf w b .i32 cap xs) (hroom : xs.length + 1 ≤ cap) (hcap : cap ≤ 1000000) :
    Calls Tryz.prog 44 #[.slice (some ⟨b, 0, none⟩) xs.length cap, .slice p l.length c] w fun e w' => e = .returned (.tuple #[.slice (some ⟨b, 0, none⟩) (xs.length + 1) cap, .int .i64 ((stepU l).2 : Nat)]) ∧
      Below W.heap.size W w' ∧ Buf w' b .i32 cap (xs ++ [((stepU l).1 : Int)]) := by
  have hsz := hbw.size
  have hlt := hbuf.lt
  have cD := Lib.hid (decode_row l h0 p c w (tabs_below hT hbw) (hp.below hbw))
  have hb : (stepU l).1 ≠ 65533 ∨ 2 ≤ (stepU l).2 := by unfold okS at ok; omega
  generalize stepU l = st at hb cD ⊢
  obtain ⟨r, k⟩ := st
  simp only at hb cD ⊢
  clear hT hp ok
  have HB := Lib.hid hbuf; clear hbuf
  have hcase : (r ≠ 65533) ∨ (r = 65533 ∧ ¬ (k : Int) < 2) := by omega
  clear hb
  rcases hcase with hr | ⟨rfl, hk⟩
  · have hr' : ((r : Int) == 65533) = false := by simp; omega
    go_enter Tryz.func44, Tryz.ntmps44
    go_wp2_with fail
    refine cD.out.mono ?_
    rintro e w1 ⟨rfl, hb1⟩
    have hs1 := hb1.size
    have B1 := Lib.hid (HB.out.below hb1)
    go_wp2_with (at_builtin; refine wpList_push _ rfl _ _ 36 rfl 21 .i32 4 Tryz.underlying36 info_rune (by decide) b cap xs rfl (B1.out.alloc _) w1.heap.size 1 1 [(r : Int)] rfl rfl ?c hroom hcap ?_)
    case c => intro j hj; obtain rfl : j = 0 := by omega
              simp
    go_ret2
    exact ⟨rfl, below_setCells b hB _ _ _ ((hbw.trans (hb1.mono hsz)).alloc (by omega) _), (B1.out.alloc _).push [(r : Int)] (by simpa using hroom)⟩
  · go_enter Tryz.func44, Tryz.ntmps44
    go_wp2_with fail
    refine cD.out.mono ?_
    rintro e w1 ⟨rfl, hb1⟩
    have hs1 := hb1.size
    have B1 := Lib.hid (HB.out.below hb1)
    go_wp2_with (at_builtin; refine wpList_push _ rfl _ _ 36 rfl 21 .i32 4 Tryz.underlying36 info_rune (by decide) b cap xs rfl (B1.out.alloc _) w1.heap.size 1 1 [(65533 : Int)] rfl rfl ?c hroom hcap ?_)
    case c => intro j hj; obtain rfl : j = 0 := by omega
              simp
    go_ret2
    exact ⟨rfl, below_setCells b hB _ _ _ ((hbw.trans (hb1.mono hsz)).alloc (by omega) _), (B1.out.alloc _).push [(65533 : Int)] (by simpa using hroom)⟩
end Go.Proofs.YticjgmhgpeihjaaGreatDoor.Sc
namespace Go.Proofs.YticjgmhgpeihjaaGreatDoor.Sc
open Go.RowKit Go.Gz

def CntRel (W : World) (rs : List Int) (v m : Value) (wr : World) : Prop := ∃ (k : Nat) (q : Option Addr) (d : Nat), k ≤ rs.length ∧ v = .slice q (encAll (rs.drop k)).length d ∧ (encAll (rs.drop k)).length ≤ d ∧
  Row W .u8 q (nums (encAll (rs.drop k))) ∧ m = .int .i64 k ∧ Below W.heap.size W wr ∧ Buf wr W.heap.size .i32 4 []

theorem row_skip {W : World} {k : IntKind} {b o d u : Nat} {xs ys : List Int} (h : Row W k (some ⟨b, o, none⟩) (xs ++ ys)) (hu : xs.length = u) (hd : u + ys.length ≤ d) :
    Row W k (if d = u then some ⟨b, o, none⟩ else some ⟨b, o + u, none⟩) ys := by
  by_cases e : d = u
  · exact Or.inl (List.eq_nil_of_length_eq_zero (by omega))
  · rw [if_neg e]
    rcases h with h | ⟨b', o', hp, hlt, hc⟩
    · exact Or.inl (List.append_eq_nil_iff.1 h).2
    · cases hp
      refine Or.inr ⟨b, o + u, rfl, hlt, fun j hj => ?_⟩
      rw [Nat.add_assoc, hc (u + j) (by simp; omega), ← hu]
      simp [List.getD, List.getElem?_append_right]
theorem row_at {W : World} {k : IntKind} {p : Option Addr} {xs : List Int} (h : Row W k p xs) (hx : xs ≠ []) : ∃ b o, p = some ⟨b, o, none⟩ ∧ b < W.heap.size := by
  rcases h with h | ⟨b, o, hp, hlt, _⟩
  · exact absurd h hx
  · exact ⟨b, o, hp, hlt⟩
theorem nums_append (a b : List UInt8) : nums (a ++ b) = nums a ++ nums b := by simp [nums]
theorem rs_le : ∀ rs : List Int, rs.length ≤ (encAll rs).length
  | [] => Nat.le_refl _
  | r :: rs => by
    have := rs_le rs
    have := (enc_length r).1
    simp; omega

theorem drop_cons {rs : List Int} {k : Nat} (h : k < rs.length) : ∃ r, rs.drop k = r :: rs.drop (k + 1) ∧ r ∈ rs :=
  ⟨rs[k], List.drop_eq_getElem_cons h, List.getElem_mem h⟩

theorem buf_array4 (W : World) (k : IntKind) (t : TypeId) : Buf (W.alloc (.cells #[.int k 0, .int k 0, .int k 0, .int k 0] t)) W.heap.size k 4 [] := by
  refine ⟨by simp, by simp, fun j hj => ?_, fun j hj => by simp at hj⟩
  match j, hj with
  | 0, _ => simp
  | 1, _ => simp
  | 2, _ => simp
  | 3, _ => simp

theorem count_ok (rs : List Int) (hv : ∀ r ∈ rs, V r) (p : Option Addr) (c : Nat) (W : World) (hT : Lib.Utf8Tabs 1 2 W) (hp : Row W .u8 p (nums (encAll rs))) (hl : (encAll rs).length ≤ 1000000) (hc : (encAll rs).length ≤ c) :
    Calls Tryz.prog 61 #[.slice p (encAll rs).length c, .func (.func 44) #[] #[]] W fun e w' => e = .returned (.tuple #[.int .i64 rs.length, .bool true]) ∧ Below W.heap.size W w' := by
  have hrs := rs_le rs
  have HP := Lib.hid hp; clear hp
  have HT := Lib.hid hT; clear hT
  have HV := Lib.hid hv; clear hv
  go_enter Tryz.func61, Tryz.ntmps61
  go_wp2_with fail
  go_loopw [0, 7] (fun v m wr => CntRel W rs v m wr) (fun _ m _ => rs.length - (intOf m).toNat)
  case atStart => exact ⟨0, p, c, Nat.zero_le _, rfl, hc, HP.out, rfl, (Below.refl _ _).alloc (Nat.le_refl _) _, buf_array4 W .i32 125⟩
  case round =>
    obtain ⟨k, q, d, hk, rfl, hd, hq, rfl, hb, hbuf⟩ := hrel
    by_cases hlt : k < rs.length
    · obtain ⟨r, hdr, hmem⟩ := drop_cons hlt
      have hvr : V r := HV.out r hmem
      rw [hdr, encAll_cons] at hq hd ⊢
      generalize hy : encAll (rs.drop (k + 1)) = y at hq hd ⊢
      have hy' := Lib.hid hy; clear hy
      have hdr' := Lib.hid hdr; clear hdr
      have he := enc_length r
      have hne : enc r ++ y ≠ [] := by have := enc_ne r; simp [this]
      have cF := readFirst_ok (enc r ++ y) hne (ok_enc hvr y) q d W wr HT.out hq hb W.heap.size 4 [] (Nat.le_refl _) hbuf (by simp) (by omega)
      rw [step_enc hvr] at cF
      simp only [List.length_nil, Nat.zero_add, List.nil_append] at cF
      have hn : (enc r ++ y).length = (enc r).length + y.length := by simp
      rw [hn] at cF hd ⊢
      generalize hu : (enc r).length = u at cF hd he hn ⊢
      have CF := Lib.hid cF; clear cF hn hne
      have hu' := Lib.hid hu; clear hu
      have hq' := Lib.hid hq; clear hq
      clear hbuf
      have hlt' : (0 : Int) < (u : Int) + (y.length : Int) := by omega
      have hu0 : ((u : Int) == 0) = false := by simp; omega
      obtain ⟨bq, oq, rfl, hbq⟩ := row_at hq'.out (by have := enc_ne r; simp [nums, this])
      go_wp2_with fail
      refine CF.out.mono ?_
      rintro e w1 ⟨rfl, hb1, hbuf1⟩
      go_wp2
      go_roundw
      case rel =>
        refine ⟨k + 1, (if d = u then some ⟨bq, oq, none⟩ else some ⟨bq, oq + u, none⟩), d - u, by omega, by rw [hy'.out], by rw [hy'.out]; omega, ?_, by go_num, hb1, hbuf1.nil⟩
        rw [hy'.out]
        have := hq'.out
        rw [nums_append] at this
        exact row_skip this (by rw [nums_length]; exact hu'.out) (by rw [nums_length]; exact hd)
      case measure => simp [intOf]; omega
    · obtain rfl : k = rs.length := by omega
      rw [List.drop_length] at hq ⊢
      simp only [encAll_nil, List.length_nil]
      go_wp2
      go_ret2
      exact ⟨rfl, hb⟩
def lenOf : Value → Nat | .slice _ n _ => n | _ => 0
def BadRel (W : World) (L : Nat) (v m : Value) (wr : World) : Prop := ∃ (t : List UInt8) (j : Nat) (q : Option Addr) (d : Nat), ¬ Txt t ∧ j + t.length ≤ L ∧ v = .slice q t.length d ∧ t.length ≤ d ∧
  Row W .u8 q (nums t) ∧ m = .int .i64 j ∧ Below W.heap.size W wr ∧ Buf wr W.heap.size .i32 4 []

theorem txt_nil : Txt [] := ⟨[], fun r hr => by simp at hr, rfl⟩

theorem count_bad (l : List UInt8) (hbad : ¬ Txt l) (p : Option Addr) (c : Nat) (W : World) (hT : Lib.Utf8Tabs 1 2 W) (hp : Row W .u8 p (nums l)) (hl : l.length ≤ 1000000) (hc : l.length ≤ c) :
    Calls Tryz.prog 61 #[.slice p l.length c, .func (.func 44) #[] #[]] W fun e w' => e = .returned (.tuple #[.int .i64 0, .bool false]) ∧ Below W.heap.size W w' := by
  have HP := Lib.hid hp; clear hp
  have HT := Lib.hid hT; clear hT
  have HB := Lib.hid hbad; clear hbad
  go_enter Tryz.func61, Tryz.ntmps61
  go_wp2_with fail
  go_loopw [0, 7] (fun v m wr => BadRel W l.length v m wr) (fun v _ _ => lenOf v)
  case atStart => exact ⟨l, 0, p, c, HB.out, by omega, rfl, hc, HP.out, rfl, (Below.refl _ _).alloc (Nat.le_refl _) _, buf_array4 W .i32 125⟩
  case round =>
    obtain ⟨t, k, q, d, ht, hk, rfl, hd, hq, rfl, hb, hbuf⟩ := hrel
    have hne : t ≠ [] := fun h => ht (h ▸ txt_nil)
    by_cases ok : okS t
    · obtain ⟨r, hvr, hl', hs⟩ := step_ok t hne ok
      have hty : ¬ Txt (t.drop (enc r).length) := fun h => ht (txt_back hne ok (by rw [hs]; exact h))
      clear ht
      have he := enc_length r
      have cF := readFirst_ok t hne ok q d W wr HT.out hq hb W.heap.size 4 [] (Nat.le_refl _) hbuf (by simp) (by omega)
      rw [hs] at cF
      generalize t.drop (enc r).length = y at hl' hty
      subst hl'
      simp only [List.length_nil, Nat.zero_add, List.nil_append] at cF
      have hn : (enc r ++ y).length = (enc r).length + y.length := by simp
      rw [hn] at cF hd hk ⊢
      generalize hu : (enc r).length = u at cF hd hk he hn ⊢
      have CF := Lib.hid cF; clear cF hn hne hs ok
      have hu' := Lib.hid hu; clear hu
      have hq' := Lib.hid hq; clear hq
      have hty' := Lib.hid hty; clear hty
      clear hbuf
      have hlt' : (0 : Int) < (u : Int) + (y.length : Int) := by omega
      have hu0 : ((u : Int) == 0) = false := by simp; omega
      obtain ⟨bq, oq, rfl, hbq⟩ := row_at hq'.out (by have := enc_ne r; simp [nums, this])
      go_wp2_with fail
      refine CF.out.mono ?_
      rintro e w1 ⟨rfl, hb1, hbuf1⟩
      go_wp2
      go_roundw
      case rel =>
        refine ⟨y, k + 1, (if d = u then some ⟨bq, oq, none⟩ else some ⟨bq, oq + u, none⟩), d - u, hty'.out, by omega, rfl, by omega, ?_, by go_num, hb1, hbuf1.nil⟩
        have := hq'.out
        rw [nums_append] at this
        exact row_skip this (by rw [nums_length]; exact hu'.out) (by rw [nums_length]; exact hd)
      case measure => simp [lenOf]; omega
    · have cF := readFirst_bad t hne ok q d (.slice (some ⟨W.heap.size, 0, none⟩) 0 4) wr (tabs_below HT.out hb) (hq.below hb)
      have CF := Lib.hid cF; clear cF
      have hpos : 0 < t.length := List.length_pos_iff.2 hne
      have hlt' : (0 : Int) < (t.length : Int) := by omega
      have hsz := hb.size
      clear hq hne ok ht hbuf
      go_wp2_with fail
      refine CF.out.mono ?_
      rintro e w1 ⟨rfl, hb1⟩
      go_wp2
      go_ret2
      exact ⟨rfl, hb.trans (hb1.mono hsz)⟩

/-- a slice that a call returned. -/
def RetRow (W : World) (k : IntKind) (xs : List Int) (e : Ending) (w' : World) : Prop :=
  ∃ p c, e = .returned (.slice p xs.length c) ∧ xs.length ≤ c ∧ Below W.heap.size W w' ∧ Row w' k p xs

theorem buf_of_owns {w : World} {base : Nat} {e : TypeId} {g cap : Nat} {k : IntKind} (h : w.ownsRow base e 1 (.slice (some ⟨g, 0, none⟩) 0 cap) 0 []) : Buf w g k cap [] := by
  obtain ⟨_, h | ⟨g', cap', cur, hv, _, hg, _, _, hs, _⟩⟩ := h
  · simp at h
  · simp only [Value.slice.injEq, Option.some.injEq, Addr.mk.injEq] at hv
    obtain ⟨⟨rfl, _, _⟩, _, rfl⟩ := hv
    refine ⟨(Array.getElem?_eq_some_iff.1 hg).1, by simp, fun j hj => ?_, fun j hj => by simp at hj⟩
    have hj' : j < cur.size := by omega
    simp [World.cell?, World.frozen?, hg, hj']

def FillRel (W : World) (rs : List Int) (v o : Value) (wr : World) : Prop := ∃ (k : Nat) (q : Option Addr) (d : Nat), k ≤ rs.length ∧ v = .slice q (encAll (rs.drop k)).length d ∧ (encAll (rs.drop k)).length ≤ d ∧
  Row W .u8 q (nums (encAll (rs.drop k))) ∧ o = .slice (some ⟨W.heap.size, 0, none⟩) k rs.length ∧ Below W.heap.size W wr ∧ Buf wr W.heap.size .i32 rs.length (rs.take k)

theorem fill_ok (rs : List Int) (hv : ∀ r ∈ rs, V r) (p : Option Addr) (c : Nat) (W : World) (hT : Lib.Utf8Tabs 1 2 W) (hp : Row W .u8 p (nums (encAll rs))) (hl : (encAll rs).length ≤ 1000000) (hc : (encAll rs).length ≤ c) :
    Calls Tryz.prog 62 #[.int .i64 rs.length, .slice p (encAll rs).length c, .func (.func 44) #[] #[]] W (RetRow W .i32 rs) := by
  have hrs := rs_le rs
  have HP := Lib.hid hp; clear hp
  have HT := Lib.hid hT; clear hT
  have HV := Lib.hid hv; clear hv
  obtain ⟨i0, hi, hz0, hz1, hz2⟩ := info_parts info_rune
  go_enter Tryz.func62, Tryz.ntmps62
  go_wp2_with (at_make; refine wpList_make_own _ rfl _ _ 36 rfl W.heap.size 21 i0 (.int .i32 0) 1 Tryz.underlying36 hi hz0 hz1 _ _ _ rs.length rfl rfl rfl ?by1 ?by2 (Nat.le_refl _) ?_)
  case by1 => rw [hz2]; omega
  case by2 => unfold maxLen; omega
  intro w1 hown hgrow
  have hb1 : Below W.heap.size W w1 := (Below.refl _ _).grown hgrow (Nat.le_refl _) (fun k hk => by cases hk)
  have hbuf1 := Lib.hid (buf_of_owns (k := .i32) hown)
  clear hown hgrow hi hz0 hz1 hz2
  go_wp2_with fail
  go_loopw [1, 7] (fun v m wr => FillRel W rs v m wr) (fun v _ _ => lenOf v)
  case atStart => exact ⟨0, p, c, Nat.zero_le _, rfl, hc, HP.out, rfl, hb1, hbuf1.out⟩
  case round =>
    clear hb1 hbuf1
    obtain ⟨k, q, d, hk, rfl, hd, hq, rfl, hb, hbuf⟩ := hrel
    by_cases hlt : k < rs.length
    · obtain ⟨r, hdr, hmem⟩ := drop_cons hlt
      have hvr : V r := HV.out r hmem
      have htk : (rs.take k).length = k := by simp; omega
      have hty : rs.take k ++ [(r.toNat : Int)] = rs.take (k + 1) := by
        rw [enc_toNat hvr]
        have : rs[k]? = some r := by
          have := congrArg (·[0]?) hdr
          simpa using this
        rw [List.take_add_one, this]; rfl
      rw [hdr, encAll_cons] at hq hd ⊢
      generalize hy : encAll (rs.drop (k + 1)) = y at hq hd ⊢
      have hy' := Lib.hid hy; clear hy
      have hdr' := Lib.hid hdr; clear hdr
      have he := enc_length r
      have hne : enc r ++ y ≠ [] := by have := enc_ne r; simp [this]
      have cF := readFirst_ok (enc r ++ y) hne (ok_enc hvr y) q d W wr HT.out hq hb W.heap.size rs.length (rs.take k) (Nat.le_refl _) hbuf (by omega) (by omega)
      rw [step_enc hvr] at cF
      simp only [htk] at cF
      rw [hty] at cF
      have hn : (enc r ++ y).length = (enc r).length + y.length := by simp
      rw [hn] at cF hd ⊢
      generalize hu : (enc r).length = u at cF hd he hn ⊢
      have CF := Lib.hid cF; clear cF hn hne hty htk
      have hu' := Lib.hid hu; clear hu
      have hq' := Lib.hid hq; clear hq
      clear hbuf
      have hlt' : (0 : Int) < (u : Int) + (y.length : Int) := by omega
      obtain ⟨bq, oq, rfl, hbq⟩ := row_at hq'.out (by have := enc_ne r; simp [nums, this])
      go_wp2_with fail
      refine CF.out.mono ?_
      rintro e w2 ⟨rfl, hb2, hbuf2⟩
      have HB2 := Lib.hid hbuf2; clear hbuf2
      go_wp2
      go_roundw
      case rel =>
        refine ⟨k + 1, (if d = u then some ⟨bq, oq, none⟩ else some ⟨bq, oq + u, none⟩), d - u, by omega, by rw [hy'.out], by rw [hy'.out]; omega, ?_, rfl, hb2, HB2.out⟩
        rw [hy'.out]
        have := hq'.out
        rw [nums_append] at this
        exact row_skip this (by rw [nums_length]; exact hu'.out) (by rw [nums_length]; exact hd)
      case measure => simp [lenOf]; omega
    · obtain rfl : k = rs.length := by omega
      rw [List.drop_length] at hq ⊢
      rw [List.take_length] at hbuf
      simp only [encAll_nil, List.length_nil]
      have HB2 := Lib.hid hbuf; clear hbuf
      go_wp2
      go_ret
      exact ⟨_, _, rfl, Nat.le_refl _, hb, HB2.out.row⟩
end Go.Proofs.YticjgmhgpeihjaaGreatDoor.Sc
namespace Go.Proofs.YticjgmhgpeihjaaGreatDoor.Sc
open Go.RowKit Go.Gz

/-- a slice and the number nought, that a call returned. -/
def RetRow0 (W : World) (k : IntKind) (xs : List Int) (e : Ending) (w' : World) : Prop :=
  ∃ p c, e = .returned (.tuple #[.slice p xs.length c, .int .i64 0]) ∧ xs.length ≤ c ∧ Below W.heap.size W w' ∧ Row w' k p xs

theorem turn_ok (rs : List Int) (hv : ∀ r ∈ rs, V r) (p : Option Addr) (c : Nat) (W : World) (hT : Lib.Utf8Tabs 1 2 W) (hp : Row W .u8 p (nums (encAll rs))) (hl : (encAll rs).length ≤ 1000000) (hc : (encAll rs).length ≤ c) :
    Calls Tryz.prog 43 #[.slice p (encAll rs).length c, .func (.func 44) #[] #[]] W (RetRow0 W .i32 rs) := by
  have C1 := Lib.hid (count_ok rs hv p c W hT hp hl hc)
  have C2 := Lib.hid fun w1 (hb : Below W.heap.size W w1) => fill_ok rs hv p c w1 (tabs_below hT hb) (hp.below hb) hl hc
  clear hp hT hv
  go_enter Tryz.func43, Tryz.ntmps43
  go_wp2_with fail
  refine C1.out.mono ?_
  rintro e w1 ⟨rfl, hb1⟩
  go_wp2_with fail
  refine (C2.out w1 hb1).mono ?_
  rintro e w2 ⟨q, d, rfl, hd, hb2, hr⟩
  have HR := Lib.hid hr; clear hr
  go_wp2
  go_ret2
  exact ⟨q, d, rfl, hd, hb1.trans (hb2.mono hb1.size), HR.out⟩

theorem turn_bad (l : List UInt8) (hbad : ¬ Txt l) (p : Option Addr) (c : Nat) (W : World) (hT : Lib.Utf8Tabs 1 2 W) (hp : Row W .u8 p (nums l)) (hl : l.length ≤ 1000000) (hc : l.length ≤ c) :
    Calls Tryz.prog 43 #[.slice p l.length c, .func (.func 44) #[] #[]] W fun e w' => e = .returned (.tuple #[.slice none 0 0, .int .i64 2]) ∧ Below W.heap.size W w' := by
  have C1 := Lib.hid (count_bad l hbad p c W hT hp hl hc)
  clear hp hT hbad
  go_enter Tryz.func43, Tryz.ntmps43
  go_wp2_with fail
  refine C1.out.mono ?_
  rintro e w1 ⟨rfl, hb1⟩
  go_wp2
  go_ret2
  exact ⟨rfl, hb1⟩

/-- '[]byte(s)': a new row of s's bytes. -/
theorem run_bytes (w : World) (s : ByteArray) : ∃ (c : Nat) (w' : World), (convert 9 58 (.string s)).run Tryz.prog w = .ok (.slice (some ⟨w.heap.size, 0, none⟩) s.size c) w' ∧
    Below w.heap.size w w' ∧ Row w' .u8 (some ⟨w.heap.size, 0, none⟩) (nums s.data.toList) ∧ s.size ≤ c := by
  refine ⟨_, _, run_bytes_of_string (P := Tryz.prog) w 9 58 5 s Tryz.underlying9 Tryz.underlying58 Tryz.underlying5, ((Below.refl _ _).drew).alloc (Nat.le_refl _) _, ?_, grownCap_ge _ _ _ _⟩
  refine Or.inr ⟨_, 0, rfl, by simp, fun j hj => ?_⟩
  have hj' : j < s.data.size := by simpa using hj
  rw [Nat.zero_add, nums_getD _ _ (by simpa using hj')]
  have hh : (w.drew.alloc (.cells (bytesRow s (grownCap w s.size 0 5)) 5 ((bytesRow s (grownCap w s.size 0 5)).size, (bytesRow s (grownCap w s.size 0 5)).size + 1))).heap[w.heap.size]? = some (.cells (bytesRow s (grownCap w s.size 0 5)) 5 ((bytesRow s (grownCap w s.size 0 5)).size, (bytesRow s (grownCap w s.size 0 5)).size + 1)) := by
    show (w.heap.push _)[w.heap.size]? = _
    simp
  simp only [World.cell?, hh]
  rw [bytesRow_at _ _ _ hj']
  simp only [List.getD, Array.getElem?_toList]
  rw [Array.getElem?_eq_getElem hj']
  rfl

theorem read_ok (rs : List Int) (hv : ∀ r ∈ rs, V r) (s : ByteArray) (hs : s.data.toList = encAll rs) (W : World) (hT : Lib.Utf8Tabs 1 2 W) (hl : s.size ≤ 1000000) :
    Calls Tryz.prog 28 #[.string s] W (RetRow0 W .i32 rs) := by
  obtain ⟨c, w1, hrun, hb1, hr, hc⟩ := run_bytes W s
  have hsz : s.size = (encAll rs).length := by rw [← hs]; simp
  rw [hs] at hr
  rw [hsz] at hrun hc hl
  have CT := Lib.hid (turn_ok rs hv _ c w1 (tabs_below hT hb1) hr hl hc)
  clear hs hr hT hv hsz
  go_enter Tryz.func28, Tryz.ntmps28
  go_wp2_with fail
  refine CT.out.mono ?_
  rintro e w2 ⟨q, d, rfl, hd, hb2, hr⟩
  have HR := Lib.hid hr; clear hr
  go_wp2
  go_ret2
  exact ⟨q, d, rfl, hd, hb1.trans (hb2.mono hb1.size), HR.out⟩

theorem read_bad (s : ByteArray) (hbad : ¬ Txt s.data.toList) (W : World) (hT : Lib.Utf8Tabs 1 2 W) (hl : s.size ≤ 1000000) :
    Calls Tryz.prog 28 #[.string s] W fun e w' => e = .returned (.tuple #[.slice none 0 0, .int .i64 2]) ∧ Below W.heap.size W w' := by
  obtain ⟨c, w1, hrun, hb1, hr, hc⟩ := run_bytes W s
  have hsz : s.size = s.data.toList.length := by simp
  rw [hsz] at hrun hc hl
  have CT := Lib.hid (turn_bad s.data.toList hbad _ c w1 (tabs_below hT hb1) hr hl hc)
  clear hr hT hbad hsz
  go_enter Tryz.func28, Tryz.ntmps28
  go_wp2_with fail
  refine CT.out.mono ?_
  rintro e w2 ⟨rfl, hb2⟩
  go_wp2
  go_ret2
  exact ⟨rfl, hb1.trans (hb2.mono hb1.size)⟩
end Go.Proofs.YticjgmhgpeihjaaGreatDoor.Sc
namespace Go.Proofs.YticjgmhgpeihjaaGreatDoor.Sc
open Go.RowKit Go.Gz

theorem enc_le4 : ∀ rs : List Int, (encAll rs).length ≤ 4 * rs.length
  | [] => Nat.le_refl _
  | r :: rs => by
    have := enc_le4 rs
    have := (enc_length r).2
    simp; omega

theorem take_more {rs : List Int} {k : Nat} {r : Int} (h : rs.drop k = r :: rs.drop (k + 1)) : rs.take (k + 1) = rs.take k ++ [r] := by
  have : rs[k]? = some r := by
    have := congrArg (·[0]?) h
    simpa using this
  rw [List.take_add_one, this]; rfl

theorem nums_one {r : Int} (h0 : 0 ≤ r) (h1 : r ≤ 127) : nums (enc r) = [r] := by
  rw [enc_one h0 h1]; simp only [nums, List.map_cons, List.map_nil]; rw [u8 _ (by omega) (by omega)]; simp; omega
theorem nums_two {r : Int} (h0 : 128 ≤ r) (h1 : r ≤ 2047) : nums (enc r) = [192 + r / 64, 128 + r % 64] := by
  rw [enc_two h0 h1]; simp only [nums, List.map_cons, List.map_nil]; rw [u8 _ (by omega) (by omega), u8 _ (by omega) (by omega)]
  rw [Int.toNat_of_nonneg (by omega), Int.toNat_of_nonneg (by omega)]
theorem nums_three {r : Int} (h : (2048 ≤ r ∧ r < 55296) ∨ (57343 < r ∧ r ≤ 65535)) : nums (enc r) = [224 + r / 4096, 128 + r / 64 % 64, 128 + r % 64] := by
  rw [enc_three h]; simp only [nums, List.map_cons, List.map_nil]; rw [u8 _ (by omega) (by omega), u8 _ (by omega) (by omega), u8 _ (by omega) (by omega)]
  rw [Int.toNat_of_nonneg (by omega), Int.toNat_of_nonneg (by omega), Int.toNat_of_nonneg (by omega)]
theorem nums_four {r : Int} (h0 : 65536 ≤ r) (h1 : r ≤ 1114111) : nums (enc r) = [240 + r / 262144, 128 + r / 4096 % 64, 128 + r / 64 % 64, 128 + r % 64] := by
  rw [enc_four h0 h1]; simp only [nums, List.map_cons, List.map_nil]; rw [u8 _ (by omega) (by omega), u8 _ (by omega) (by omega), u8 _ (by omega) (by omega), u8 _ (by omega) (by omega)]
  rw [Int.toNat_of_nonneg (by omega), Int.toNat_of_nonneg (by omega), Int.toNat_of_nonneg (by omega), Int.toNat_of_nonneg (by omega)]

/-- 'string(b)' of a row of bytes. -/
theorem run_string (w : World) (l : List UInt8) (p : Option Addr) (c : Nat) (hp : Row w .u8 p (nums l)) :
    (convert 58 9 (.slice p l.length c)).run Tryz.prog w = .ok (.string ⟨l.toArray⟩) w := by
  rcases hp with h | ⟨b, off, rfl, hlt, hc⟩
  · have : l = [] := by simpa [nums] using h
    subst this
    show (convert 58 9 (.slice p 0 c)).run Tryz.prog w = _
    rw [run_convert_bytes_string w 58 9 5 p 0 c Tryz.underlying58 Tryz.underlying5 Tryz.underlying9]
    cases p <;> simp [Conv.bytesToString, loadCells]
    all_goals rfl
  · exact run_convert_bytes_back w 58 9 5 ⟨b, off, none⟩ c l Tryz.underlying58 Tryz.underlying5 Tryz.underlying9 (fun j hj => by
      rw [Addr.add_lit, hc j (by simpa using hj), nums_getD _ _ hj]
      simp [List.getD, hj])
end Go.Proofs.YticjgmhgpeihjaaGreatDoor.Sc
namespace Go.Proofs.YticjgmhgpeihjaaGreatDoor.Sc
open Go.RowKit Go.Gz

theorem refMay_any (r : Int) (w : World) : Calls Tryz.prog 24 #[.int .i32 r] w fun e w' => e = .returned (.bool (Lib.validRune r)) ∧ w = w' := by
  by_cases h1 : 0 ≤ r
  · by_cases h2 : r ≤ 1114111
    · by_cases h3 : r < 55296
      · have hv : Lib.validRune r = true := (validRune_iff r).2 (by unfold V; omega)
        rw [hv]; clear hv
        go_enter Tryz.func24, Tryz.ntmps24
        go_wp2
        go_ret
        exact ⟨rfl, rfl⟩
      · by_cases h4 : 57343 < r
        · have hv : Lib.validRune r = true := (validRune_iff r).2 (by unfold V; omega)
          rw [hv]; clear hv
          go_enter Tryz.func24, Tryz.ntmps24
          go_wp2
          go_ret
          exact ⟨rfl, rfl⟩
        · have hv : Lib.validRune r = false := by
            rw [← Bool.not_eq_true, validRune_iff]; unfold V; omega
          rw [hv]; clear hv
          go_enter Tryz.func24, Tryz.ntmps24
          go_wp2
          go_ret
          exact ⟨rfl, rfl⟩
    · have hv : Lib.validRune r = false := by
        rw [← Bool.not_eq_true, validRune_iff]; unfold V; omega
      rw [hv]; clear hv
      go_enter Tryz.func24, Tryz.ntmps24
      go_wp2
      go_ret
      exact ⟨rfl, rfl⟩
  · have hv : Lib.validRune r = false := by
      rw [← Bool.not_eq_true, validRune_iff]; unfold V; omega
    rw [hv]; clear hv
    go_enter Tryz.func24, Tryz.ntmps24
    go_wp2
    go_ret
    exact ⟨rfl, rfl⟩

/-- a row that the call owns: the slice v holds the numbers xs. -/
def Own (w : World) (B : Nat) (e : TypeId) (k : IntKind) (v : Value) (xs : List Int) : Prop := w.ownsRow B e 1 v xs.length (xs.map (Value.int k))

theorem Own.nil (w : World) (B : Nat) (e : TypeId) (k : IntKind) : Own w B e k (.slice none 0 0) [] := World.ownsRow_nil w B e 1
theorem Own.row {w : World} {B : Nat} {e : TypeId} {k : IntKind} {v : Value} {xs : List Int} (h : Own w B e k v xs) : ∃ p c, v = .slice p xs.length c ∧ xs.length ≤ c ∧ Row w k p xs := by
  obtain ⟨h1, ⟨rfl, h0⟩ | ⟨g, cap, cur, rfl, hg, hh, hc, hm, hs, ht⟩⟩ := h
  · have : xs = [] := List.eq_nil_of_length_eq_zero h0
    subst this
    exact ⟨none, 0, rfl, Nat.le_refl _, Or.inl rfl⟩
  · refine ⟨_, cap, rfl, hc, Or.inr ⟨g, 0, rfl, (Array.getElem?_eq_some_iff.1 hh).1, fun j hj => ?_⟩⟩
    have hj2 : j < cur.size := by omega
    have e1 : cur[j]? = some (.int k (xs.getD j 0)) := by
      have := congrArg (·[j]?) ht
      simp only [Nat.mul_one, List.getElem?_take, hj, if_true, Array.getElem?_toList, List.getElem?_map] at this
      rw [this]
      simp [List.getD, hj]
    simp only [World.cell?, hh, Nat.zero_add]
    exact e1
theorem Own.lt {w : World} {B : Nat} {e : TypeId} {k : IntKind} {v : Value} {xs : List Int} (h : Own w B e k v xs) : ∀ g, v.ownBlock = some g → B ≤ g := fun g hg => (World.ownsRow.lt h g hg).1

/-- append onto a row that the call owns: the law for the walk. -/
theorem wpList_own_push {P : Program} {w : World} {ops : Array Oper} {rest : List Oper} {o : Oper} {a : Act} {Q : Exit → Act → World → Prop}
    (hg : o.guard = none) (s x : Operand) (t : TypeId) (hop : o.op = Op.call { callee := Callee.builtin Builtin.append, args := #[s, x], argTypes := #[t, t] })
    (e : TypeId) (k : IntKind) (bytes : Nat) (h1 : P.underlying t = some (.slice e)) (hinfo : (P.info? e).map (fun i => (i.zero, i.size, i.bytes)) = some (some (.int k 0), 1, bytes)) (hby : bytes ≤ 8)
    (B : Nat) (v : Value) (xs : List Int) (hs : a.eval s = v) (hown : Own w B e k v xs)
    (G m c : Nat) (ys : List Int) (hx : a.eval x = .slice (some ⟨G, 0, none⟩) m c) (hn : ys.length = m) (hc : ∀ j, j < m → w.cell? ⟨G, j, none⟩ = some (.int k (ys.getD j 0)))
    (hlen : xs.length + m ≤ 1000000) (hB : B ≤ w.heap.size)
    (hK : ∀ v' w', Own w' B e k v' (xs ++ ys) → w.grownBy w' v.ownBlock → wpList P ops Q rest (a.put o.dst v') w') :
    wpList P ops Q (o :: rest) a w := by
  obtain ⟨i0, hi, hz0, hz1, hz2⟩ := info_parts hinfo
  subst hn
  refine wpList_append_own w hg s x t hop B e i0 (.int k 0) 1 bytes h1 hi hz0 hz1 hz2 rfl (by decide) v xs.length (xs.map (Value.int k)) hs hown ⟨G, 0, none⟩ ys.length c (ys.map (Value.int k)) hx (by simp) ?_ ?_ (by unfold maxLen; omega) ?_ hB ?_
  · intro j u hj
    obtain ⟨hj', rfl⟩ := List.getElem?_eq_some_iff.1 hj
    simp only [List.length_map] at hj'
    rw [Addr.add_lit, Nat.zero_add, hc j hj']
    simp [List.getD, hj']
  · intro u hu
    obtain ⟨y, _, rfl⟩ := List.mem_map.1 hu
    rfl
  · have : (xs.length + ys.length) * bytes ≤ (xs.length + ys.length) * 8 := Nat.mul_le_mul_left _ hby
    omega
  · intro v' w' ho hgr _
    refine hK v' w' ?_ hgr
    unfold Own
    rw [List.length_append, List.map_append]
    exact ho
theorem Own.alloc {w : World} {B : Nat} {e : TypeId} {k : IntKind} {v : Value} {xs : List Int} (h : Own w B e k v xs) (o : Obj) : Own (w.alloc o) B e k v xs := World.ownsRow.alloc h o
theorem Own.drewN {w : World} {B : Nat} {e : TypeId} {k : IntKind} {v : Value} {xs : List Int} (h : Own w B e k v xs) (n : Nat) : Own (w.drewN n) B e k v xs := h

/-- what Write of any runes answers. -/
def WRes (rs : List Int) (W : World) (e : Ending) (w' : World) : Prop :=
  ((∀ r ∈ rs, V r) → e = .returned (.tuple #[.string ⟨(encAll rs).toArray⟩, .int .i64 0])) ∧ ((¬ ∀ r ∈ rs, V r) → e = .returned (.tuple #[.string ⟨#[]⟩, .int .i64 2])) ∧ Below W.heap.size W w'

def RWRel (W : World) (rs : List Int) (v i : Value) (wr : World) : Prop := ∃ k : Nat, k ≤ rs.length ∧ i = .int .i64 k ∧ (∀ r ∈ rs.take k, V r) ∧ Own wr W.heap.size 5 .u8 v (nums (encAll (rs.take k))) ∧ Below W.heap.size W wr

theorem row_cell {W wr : World} {k : IntKind} {p : Option Addr} {xs : List Int} (h : Row W k p xs) (hb : Below W.heap.size W wr) {j : Nat} (hj : j < xs.length) : ∃ b o, p = some ⟨b, o, none⟩ ∧ b < W.heap.size ∧ wr.cell? ⟨b, o + j, none⟩ = some (.int k (xs.getD j 0)) := by
  rcases h with h | ⟨b, o, hp, h1, h2⟩
  · rw [h] at hj; simp at hj
  · exact ⟨b, o, hp, h1, by rw [hb.cell (p := ⟨b, o + j, none⟩) h1]; exact h2 j hj⟩

theorem low6 (x : Int) (h0 : 0 ≤ x) (h1 : x < 2 ^ 31) : bits .or .u8 128 (bits .and .i32 x 63 % 256) = 128 + x % 64 := by
  have e := bits_mask .i32 31 (by decide) wraps_i32 6 (by decide) x h0 h1
  have e63 : (2 : Int) ^ 6 - 1 = 63 := by decide
  have e64 : (2 : Int) ^ 6 = 64 := by decide
  rw [e63, e64] at e
  rw [e, show x % 64 % 256 = x % 64 by omega]
  exact bits_join .u8 8 (by decide) wraps_u8 6 128 (x % 64) (by omega) (by decide) (by decide) (by omega) (by rw [e64]; omega) (by omega)

set_option maxHeartbeats 1000000 in
set_option maxRecDepth 100000 in
theorem refWrite_any (rs : List Int) (p : Option Addr) (c : Nat) (W : World) (hp : Row W .i32 p rs) (hl : rs.length ≤ 100000) :
    Calls Tryz.prog 12 #[.slice p rs.length c] W (WRes rs W) := by
  have HP := Lib.hid hp; clear hp
  go_enter Tryz.func12, Tryz.ntmps12
  go_wp2_with fail
  go_loopw [4, 5] (fun v i wr => RWRel W rs v i wr) (fun _ i _ => rs.length - (intOf i).toNat)
  case atStart => exact ⟨0, Nat.zero_le _, rfl, fun r hr => by simp at hr, Own.nil _ _ _ _, Below.refl _ _⟩
  case round =>
    obtain ⟨k, hk, rfl, hv, hown, hb⟩ := hrel
    by_cases hlt : k < rs.length
    · obtain ⟨r, hdr, hmem⟩ := drop_cons hlt
      have hget : rs.getD k 0 = r := by
        have := congrArg (·[0]?) hdr
        simp only [List.getElem?_drop, Nat.add_zero, List.getElem?_cons_zero] at this
        simp [List.getD, this]
      obtain ⟨bp, op, rfl, hbp, hcell⟩ := row_cell HP.out hb hlt
      rw [hget] at hcell
      have hlen : (nums (encAll (rs.take k))).length ≤ 4 * k := by have := enc_le4 (rs.take k); rw [List.length_take] at this; rw [nums_length]; omega
      have CM := Lib.hid (refMay_any r wr)
      have hmore : nums (encAll (rs.take (k + 1))) = nums (encAll (rs.take k)) ++ nums (enc r) := by rw [take_more hdr, encAll_append, nums_append]; simp
      have HO := Lib.hid hown; clear hown
      by_cases hvr : V r
      · have hm : Lib.validRune r = true := (validRune_iff r).2 hvr
        rw [hm] at CM; clear hm
        have HV2 := Lib.hid (show ∀ x ∈ rs.take (k + 1), V x from fun x hx => by
          rw [take_more hdr] at hx
          rcases List.mem_append.1 hx with hx | hx
          · exact hv x hx
          · simp at hx; subst hx; exact hvr)
        clear hv hget
        have hdr' := Lib.hid hdr; clear hdr
        have hcases := V_cases hvr
        clear hvr
        rcases hcases with h | h | h | h
        · have hnum : nums (encAll (rs.take (k + 1))) = nums (encAll (rs.take k)) ++ [r] := by rw [hmore, nums_one h.1 h.2]
          obtain ⟨h0, h1⟩ := h
          have HN := Lib.hid hnum; clear hnum hmore
          go_wp2_with (first | (go_at_call 24; refine CM.out.mono ?_; rintro e w1 ⟨rfl, rfl⟩) | (at_builtin; refine wpList_own_push rfl _ _ 58 rfl 5 .u8 1 Tryz.underlying58 info_byte (by decide) W.heap.size _ _ rfl (HO.out.alloc _) wr.heap.size 1 1 [r] rfl rfl ?newCells (by omega) ?below ?_))
          case newCells =>
            intro j hj
            match j, hj with
            | 0, _ => simp
          case below => have := hb.size; simp; omega
          intro v' w2 hown2 hgrow
          have hb2 : Below W.heap.size W w2 := (hb.alloc hb.size _).grown hgrow (by have := hb.size; simp; omega) (fun g hg => HO.out.lt g hg)
          have HO2 := Lib.hid hown2; clear hown2 hgrow
          go_wp2
          go_roundw
          case rel => exact ⟨k + 1, by omega, by go_num, HV2.out, by rw [HN.out]; exact HO2.out, hb2⟩
          case measure => simp [intOf]; omega
        · have hnum : nums (encAll (rs.take (k + 1))) = nums (encAll (rs.take k)) ++ [192 + r / 64, 128 + r % 64] := by rw [hmore, nums_two h.1 h.2]
          obtain ⟨h0, h1⟩ := h
          have HN := Lib.hid hnum; clear hnum hmore
          go_wp2_with (first | (go_at_call 24; refine CM.out.mono ?_; rintro e w1 ⟨rfl, rfl⟩) | (at_builtin; refine wpList_own_push rfl _ _ 58 rfl 5 .u8 1 Tryz.underlying58 info_byte (by decide) W.heap.size _ _ rfl (HO.out.alloc _) wr.heap.size 2 2 [192 + r / 64, 128 + r % 64] rfl rfl ?newCells (by omega) ?below ?_))
          case newCells =>
            intro j hj
            match j, hj with
            | 0, _ => simp
            | 1, _ => first | (simp; done) | (simp; exact low6 _ (by omega) (by omega))
          case below => have := hb.size; simp; omega
          intro v' w2 hown2 hgrow
          have hb2 : Below W.heap.size W w2 := (hb.alloc hb.size _).grown hgrow (by have := hb.size; simp; omega) (fun g hg => HO.out.lt g hg)
          have HO2 := Lib.hid hown2; clear hown2 hgrow
          go_wp2
          go_roundw
          case rel => exact ⟨k + 1, by omega, by go_num, HV2.out, by rw [HN.out]; exact HO2.out, hb2⟩
          case measure => simp [intOf]; omega
        · have hnum : nums (encAll (rs.take (k + 1))) = nums (encAll (rs.take k)) ++ [224 + r / 4096, 128 + r / 64 % 64, 128 + r % 64] := by rw [hmore, nums_three h]
          have h0 : 2048 ≤ r ∧ r ≤ 65535 := by omega
          obtain ⟨h0, h1⟩ := h0
          clear h
          have HN := Lib.hid hnum; clear hnum hmore
          go_wp2_with (first | (go_at_call 24; refine CM.out.mono ?_; rintro e w1 ⟨rfl, rfl⟩) | (at_builtin; refine wpList_own_push rfl _ _ 58 rfl 5 .u8 1 Tryz.underlying58 info_byte (by decide) W.heap.size _ _ rfl (HO.out.alloc _) wr.heap.size 3 3 [224 + r / 4096, 128 + r / 64 % 64, 128 + r % 64] rfl rfl ?newCells (by omega) ?below ?_))
          case newCells =>
            intro j hj
            match j, hj with
            | 0, _ => simp
            | 1, _ => first | (simp; done) | (simp; exact low6 _ (by omega) (by omega))
            | 2, _ => first | (simp; done) | (simp; exact low6 _ (by omega) (by omega))
          case below => have := hb.size; simp; omega
          intro v' w2 hown2 hgrow
          have hb2 : Below W.heap.size W w2 := (hb.alloc hb.size _).grown hgrow (by have := hb.size; simp; omega) (fun g hg => HO.out.lt g hg)
          have HO2 := Lib.hid hown2; clear hown2 hgrow
          go_wp2
          go_roundw
          case rel => exact ⟨k + 1, by omega, by go_num, HV2.out, by rw [HN.out]; exact HO2.out, hb2⟩
          case measure => simp [intOf]; omega
        · have hnum : nums (encAll (rs.take (k + 1))) = nums (encAll (rs.take k)) ++ [240 + r / 262144, 128 + r / 4096 % 64, 128 + r / 64 % 64, 128 + r % 64] := by rw [hmore, nums_four h.1 h.2]
          obtain ⟨h0, h1⟩ := h
          have HN := Lib.hid hnum; clear hnum hmore
          go_wp2_with (first | (go_at_call 24; refine CM.out.mono ?_; rintro e w1 ⟨rfl, rfl⟩) | (at_builtin; refine wpList_own_push rfl _ _ 58 rfl 5 .u8 1 Tryz.underlying58 info_byte (by decide) W.heap.size _ _ rfl (HO.out.alloc _) wr.heap.size 4 4 [240 + r / 262144, 128 + r / 4096 % 64, 128 + r / 64 % 64, 128 + r % 64] rfl rfl ?newCells (by omega) ?below ?_))
          case newCells =>
            intro j hj
            match j, hj with
            | 0, _ => simp
            | 1, _ => first | (simp; done) | (simp; exact low6 _ (by omega) (by omega))
            | 2, _ => first | (simp; done) | (simp; exact low6 _ (by omega) (by omega))
            | 3, _ => first | (simp; done) | (simp; exact low6 _ (by omega) (by omega))
          case below => have := hb.size; simp; omega
          intro v' w2 hown2 hgrow
          have hb2 : Below W.heap.size W w2 := (hb.alloc hb.size _).grown hgrow (by have := hb.size; simp; omega) (fun g hg => HO.out.lt g hg)
          have HO2 := Lib.hid hown2; clear hown2 hgrow
          go_wp2
          go_roundw
          case rel => exact ⟨k + 1, by omega, by go_num, HV2.out, by rw [HN.out]; exact HO2.out, hb2⟩
          case measure => simp [intOf]; omega
      · have hm : Lib.validRune r = false := by rw [← Bool.not_eq_true, validRune_iff]; exact hvr
        rw [hm] at CM; clear hm
        have hbad : ¬ ∀ x ∈ rs, V x := fun h => hvr (h r hmem)
        have HB := Lib.hid hbad; clear hbad hvr hmore hv hget
        have hdr' := Lib.hid hdr; clear hdr
        go_wp2_with (go_at_call 24; refine CM.out.mono ?_; rintro e w1 ⟨rfl, rfl⟩)
        go_ret2
        exact ⟨fun h => absurd h HB.out, fun _ => rfl, hb⟩
    · obtain rfl : k = rs.length := by omega
      rw [List.take_length] at hv hown
      obtain ⟨q, d, rfl, hd, hrow⟩ := hown.row
      have hrun := run_string wr (encAll rs) q d hrow
      have HV2 := Lib.hid hv; clear hv hown hrow
      simp only [nums_length]
      go_wp2
      go_ret2
      exact ⟨fun _ => rfl, fun h => absurd HV2.out h, hb⟩
end Go.Proofs.YticjgmhgpeihjaaGreatDoor.Sc
namespace Go.Gz
open Go.Lib

theorem leaf1 (b0 : UInt8) (h : b0.toNat < 128) : V (b0.toNat : Int) ∧ enc (b0.toNat : Int) = [b0] := by
  refine ⟨by unfold V; omega, ?_⟩
  rw [enc_one (by omega) (by omega)]; simp
theorem leaf2 (b0 b1 : UInt8) (h0 : 194 ≤ b0.toNat) (h1 : b0.toNat < 224) (h2 : b1.toNat / 64 = 2) : V ((b0.toNat : Int) % 32 * 64 + (b1.toNat : Int) % 64) ∧ enc ((b0.toNat : Int) % 32 * 64 + (b1.toNat : Int) % 64) = [b0, b1] := by
  have l1 := b1.toNat_lt
  refine ⟨by unfold V; omega, ?_⟩
  rw [enc_two (by omega) (by omega)]
  rw [← u8_eqZ b0 _ (by omega) (by omega) (by omega), ← u8_eqZ b1 _ (by omega) (by omega) (by omega)]
def v3 (b0 b1 b2 : UInt8) : Int := ((b0.toNat : Int) % 16 * 64 + (b1.toNat : Int) % 64) * 64 + (b2.toNat : Int) % 64
def v4 (b0 b1 b2 b3 : UInt8) : Int := (((b0.toNat : Int) % 8 * 64 + (b1.toNat : Int) % 64) * 64 + (b2.toNat : Int) % 64) * 64 + (b3.toNat : Int) % 64
theorem leaf3 (b0 b1 b2 : UInt8) (h0 : 224 ≤ b0.toNat) (h1 : b0.toNat < 240) (h2 : b1.toNat / 64 = 2) (h3 : b2.toNat / 64 = 2) (hv : 2048 ≤ v3 b0 b1 b2 ∧ (v3 b0 b1 b2 < 55296 ∨ 57343 < v3 b0 b1 b2)) : V (v3 b0 b1 b2) ∧ enc (v3 b0 b1 b2) = [b0, b1, b2] := by
  have l1 := b1.toNat_lt
  have l2 := b2.toNat_lt
  unfold v3 at hv ⊢
  refine ⟨by unfold V; omega, ?_⟩
  rw [enc_three (by omega)]
  rw [← u8_eqZ b0 _ (by omega) (by omega) (by omega), ← u8_eqZ b1 _ (by omega) (by omega) (by omega), ← u8_eqZ b2 _ (by omega) (by omega) (by omega)]
theorem leaf4 (b0 b1 b2 b3 : UInt8) (h0 : 240 ≤ b0.toNat) (h1 : b0.toNat < 245) (h2 : b1.toNat / 64 = 2) (h3 : b2.toNat / 64 = 2) (h4 : b3.toNat / 64 = 2) (hv : 65536 ≤ v4 b0 b1 b2 b3 ∧ v4 b0 b1 b2 b3 ≤ 1114111) : V (v4 b0 b1 b2 b3) ∧ enc (v4 b0 b1 b2 b3) = [b0, b1, b2, b3] := by
  have l1 := b1.toNat_lt
  have l2 := b2.toNat_lt
  have l3 := b3.toNat_lt
  unfold v4 at hv ⊢
  refine ⟨by unfold V; omega, ?_⟩
  rw [enc_four (by omega) (by omega)]
  rw [← u8_eqZ b0 _ (by omega) (by omega) (by omega), ← u8_eqZ b1 _ (by omega) (by omega) (by omega), ← u8_eqZ b2 _ (by omega) (by omega) (by omega), ← u8_eqZ b3 _ (by omega) (by omega) (by omega)]

theorem ok_shape {b0 : UInt8} {t : List UInt8} (ok : okS (b0 :: t)) :
    b0.toNat < 128 ∨
    (194 ≤ b0.toNat ∧ b0.toNat < 224 ∧ ∃ b1 t', t = b1 :: t' ∧ b1.toNat / 64 = 2) ∨
    (224 ≤ b0.toNat ∧ b0.toNat < 240 ∧ ∃ b1 b2 t', t = b1 :: b2 :: t' ∧ b1.toNat / 64 = 2 ∧ b2.toNat / 64 = 2 ∧ 2048 ≤ v3 b0 b1 b2 ∧ (v3 b0 b1 b2 < 55296 ∨ 57343 < v3 b0 b1 b2)) ∨
    (240 ≤ b0.toNat ∧ b0.toNat < 245 ∧ ∃ b1 b2 b3 t', t = b1 :: b2 :: b3 :: t' ∧ b1.toNat / 64 = 2 ∧ b2.toNat / 64 = 2 ∧ b3.toNat / 64 = 2 ∧ 65536 ≤ v4 b0 b1 b2 b3 ∧ v4 b0 b1 b2 b3 ≤ 1114111) := by
  obtain ⟨r, hv, hl, _⟩ := step_ok (b0 :: t) (by simp) ok
  generalize (b0 :: t).drop (enc r).length = d at hl
  rcases V_cases hv with h | h | h | h
  · rw [enc_one h.1 h.2] at hl
    simp only [List.cons_append, List.nil_append, List.cons.injEq] at hl
    obtain ⟨rfl, rfl⟩ := hl
    rw [u8 _ (by omega) (by omega)]
    omega
  · rw [enc_two h.1 h.2] at hl
    simp only [List.cons_append, List.nil_append, List.cons.injEq] at hl
    obtain ⟨rfl, rfl⟩ := hl
    refine Or.inr (Or.inl ⟨?_, ?_, _, _, rfl, ?_⟩)
    all_goals (rw [u8 _ (by omega) (by omega)]; omega)
  · rw [enc_three h] at hl
    simp only [List.cons_append, List.nil_append, List.cons.injEq] at hl
    obtain ⟨rfl, rfl⟩ := hl
    refine Or.inr (Or.inr (Or.inl ⟨?_, ?_, _, _, _, rfl, ?_, ?_, ?_, ?_⟩))
    all_goals first
      | (rw [u8 _ (by omega) (by omega)]; omega)
      | (unfold v3; rw [u8 _ (by omega) (by omega), u8 _ (by omega) (by omega), u8 _ (by omega) (by omega)]; omega)
  · rw [enc_four h.1 h.2] at hl
    simp only [List.cons_append, List.nil_append, List.cons.injEq] at hl
    obtain ⟨rfl, rfl⟩ := hl
    refine Or.inr (Or.inr (Or.inr ⟨?_, ?_, _, _, _, _, rfl, ?_, ?_, ?_, ?_, ?_⟩))
    all_goals first
      | (rw [u8 _ (by omega) (by omega)]; omega)
      | (unfold v4; rw [u8 _ (by omega) (by omega), u8 _ (by omega) (by omega), u8 _ (by omega) (by omega), u8 _ (by omega) (by omega)]; omega)

theorem bad_lead {b0 : UInt8} {t : List UInt8} (h : 128 ≤ b0.toNat) (h' : b0.toNat < 194 ∨ 245 ≤ b0.toNat) : ¬ okS (b0 :: t) := fun ok => by
  rcases ok_shape ok with h1 | ⟨_, _, _⟩ | ⟨_, _, _⟩ | ⟨_, _, _⟩ <;> omega
theorem bad_two {b0 : UInt8} {t : List UInt8} (h : 194 ≤ b0.toNat) (h' : b0.toNat < 224) (hb : ∀ b1 t', t = b1 :: t' → b1.toNat / 64 = 2 → False) : ¬ okS (b0 :: t) := fun ok => by
  rcases ok_shape ok with h1 | ⟨_, _, b1, t', e, k⟩ | ⟨_, _, _⟩ | ⟨_, _, _⟩
  · omega
  · exact hb b1 t' e k
  · omega
  · omega
theorem bad_three {b0 : UInt8} {t : List UInt8} (h : 224 ≤ b0.toNat) (h' : b0.toNat < 240) (hb : ∀ b1 b2 t', t = b1 :: b2 :: t' → b1.toNat / 64 = 2 → b2.toNat / 64 = 2 → 2048 ≤ v3 b0 b1 b2 → (v3 b0 b1 b2 < 55296 ∨ 57343 < v3 b0 b1 b2) → False) : ¬ okS (b0 :: t) := fun ok => by
  rcases ok_shape ok with h1 | ⟨_, _, _⟩ | ⟨_, _, b1, b2, t', e, k1, k2, k3, k4⟩ | ⟨_, _, _⟩
  · omega
  · omega
  · exact hb b1 b2 t' e k1 k2 k3 k4
  · omega
theorem bad_four {b0 : UInt8} {t : List UInt8} (h : 240 ≤ b0.toNat) (h' : b0.toNat < 245) (hb : ∀ b1 b2 b3 t', t = b1 :: b2 :: b3 :: t' → b1.toNat / 64 = 2 → b2.toNat / 64 = 2 → b3.toNat / 64 = 2 → 65536 ≤ v4 b0 b1 b2 b3 → v4 b0 b1 b2 b3 ≤ 1114111 → False) : ¬ okS (b0 :: t) := fun ok => by
  rcases ok_shape ok with h1 | ⟨_, _, _⟩ | ⟨_, _, _⟩ | ⟨_, _, b1, b2, b3, t', e, k1, k2, k3, k4, k5⟩
  · omega
  · omega
  · omega
  · exact hb b1 b2 b3 t' e k1 k2 k3 k4 k5

/-- behind whole runes: bytes are a text just if the rest is. -/
theorem txt_suffix : ∀ (rs : List Int) (rest : List UInt8), (∀ r ∈ rs, V r) → Txt (encAll rs ++ rest) → Txt rest
  | [], rest, _, h => h
  | r :: rs, rest, hv, h => by
    have hr : V r := hv r (by simp)
    rw [encAll_cons, List.append_assoc] at h
    have hne : enc r ++ (encAll rs ++ rest) ≠ [] := by have := enc_ne r; simp [this]
    have := (txt_step hne h).2
    rw [step_enc hr] at this
    simp only [List.drop_left] at this
    exact txt_suffix rs rest (fun x hx => hv x (by simp [hx])) this
theorem no_txt_of {rs : List Int} {b0 : UInt8} {t : List UInt8} {l : List UInt8} (hs : l = encAll rs ++ b0 :: t) (hv : ∀ r ∈ rs, V r) (h : ¬ okS (b0 :: t)) : ¬ Txt l := fun ht => by
  rw [hs] at ht
  exact h (txt_step (by simp) (txt_suffix rs _ hv ht)).1
end Go.Gz
namespace Go.Proofs.YticjgmhgpeihjaaGreatDoor.Sc
open Go.RowKit Go.Gz

/-- what Read of any bytes answers: the runes, or that they are none. -/
def RRes (s : ByteArray) (W : World) (e : Ending) (w' : World) : Prop :=
  (∀ rs : List Int, (∀ r ∈ rs, V r) → s.data.toList = encAll rs → RetRow0 W .i32 rs e w') ∧ (¬ Txt s.data.toList → e = .returned (.tuple #[.slice none 0 0, .int .i64 2])) ∧ Below W.heap.size W w'

def RRRel (W : World) (s : ByteArray) (v i : Value) (wr : World) : Prop := ∃ (rs : List Int) (rest : List UInt8), (∀ r ∈ rs, V r) ∧ s.data.toList = encAll rs ++ rest ∧ i = .int .i64 ((encAll rs).length : Nat) ∧ Own wr W.heap.size 21 .i32 v rs ∧ Below W.heap.size W wr

theorem size_of {s : ByteArray} {l : List UInt8} (h : s.data.toList = l) : s.size = l.length := by rw [← h]; simp
theorem byte_of {s : ByteArray} {x : List UInt8} {b : UInt8} {t : List UInt8} (h : s.data.toList = x ++ b :: t) (hk : x.length < s.size) : s[x.length] = b := by
  have : s.data.toList[x.length]? = some b := by rw [h]; simp
  rw [Array.getElem?_toList] at this
  exact (Array.getElem?_eq_some_iff.1 this).2

theorem byte_k {s : ByteArray} {x rest : List UInt8} {j k : Nat} {b : UInt8} (h : s.data.toList = x ++ rest) (hx : x.length = j) (hk : rest[k]? = some b) : ∃ hlt : j + k < s.size, s[j + k] = b := by
  have : s.data.toList[j + k]? = some b := by
    rw [h, List.getElem?_append_right (by omega), ← hx, Nat.add_sub_cancel_left]
    exact hk
  rw [Array.getElem?_toList] at this
  exact Array.getElem?_eq_some_iff.1 this

theorem cont_yes (b : UInt8) (h : b.toNat / 64 = 2) : (bits BinOp.and IntKind.u8 (b.toNat : Int) 192 != 128) = false := by
  have l := b.toNat_lt
  rw [Lib.runeStart_of _ (by omega) (by omega)]
  unfold Lib.runeStart
  have : (b.toNat : Int) / 64 = 2 := by omega
  rw [this]; rfl
theorem cont_no (b : UInt8) (h : ¬ b.toNat / 64 = 2) : (bits BinOp.and IntKind.u8 (b.toNat : Int) 192 != 128) = true := by
  have l := b.toNat_lt
  rw [Lib.runeStart_of _ (by omega) (by omega)]
  unfold Lib.runeStart
  have : ¬ (b.toNat : Int) / 64 = 2 := by omega
  simpa using this
theorem refMay_yes (r : Int) (hv : V r) (w : World) : Calls Tryz.prog 24 #[.int .i32 r] w fun e w' => e = .returned (.bool true) ∧ w = w' := by
  have := refMay_any r w
  rwa [(validRune_iff r).2 hv] at this
theorem refMay_no (r : Int) (hv : ¬ V r) (w : World) : Calls Tryz.prog 24 #[.int .i32 r] w fun e w' => e = .returned (.bool false) ∧ w = w' := by
  have := refMay_any r w
  rwa [show Lib.validRune r = false by rw [← Bool.not_eq_true, validRune_iff]; exact hv] at this

/-- a round that goes on: the relation behind it. -/
theorem rr_next {W : World} {s : ByteArray} {w2 : World} {rs : List Int} {rest : List UInt8} {x : Int} {v2 : Value} (hv : ∀ r ∈ rs, V r) (hs : s.data.toList = encAll rs ++ rest) (hx : V x) {y : List UInt8} (hr : rest = enc x ++ y) {j n : Nat}
    (hj : (encAll rs).length = j) (hn : (enc x).length = n) (hown : Own w2 W.heap.size 21 .i32 v2 (rs ++ [x])) (hb : Below W.heap.size W w2) : RRRel W s v2 (.int .i64 ((j : Int) + (n : Int))) w2 := by
  refine ⟨rs ++ [x], y, ?_, ?_, ?_, hown, hb⟩
  · intro r h
    rcases List.mem_append.1 h with h | h
    · exact hv r h
    · simp at h; subst h; exact hx
  · rw [hs, hr, encAll_append, List.append_assoc]; simp
  · rw [encAll_append]; simp [hj, hn]

set_option maxHeartbeats 16000000 in
set_option maxRecDepth 100000 in
theorem refRead_any (s : ByteArray) (W : World) (hl : s.size ≤ 100000) :
    Calls Tryz.prog 10 #[.string s] W (RRes s W) := by
  go_enter Tryz.func10, Tryz.ntmps10
  go_wp2_with fail
  go_loopw [4, 5] (fun v i wr => RRRel W s v i wr) (fun _ i _ => s.size - (intOf i).toNat)
  case atStart => exact ⟨[], s.data.toList, fun r hr => by simp at hr, rfl, rfl, Own.nil _ _ _ _, Below.refl _ _⟩
  case round =>
    obtain ⟨rs, rest, hv, hs, rfl, hown, hb⟩ := hrel
    have hsz := size_of hs
    simp only [List.length_append] at hsz
    have hrsl := rs_le rs
    rcases rest with _ | ⟨b0, t⟩
    · simp only [List.length_nil, Nat.add_zero] at hsz
      rw [List.append_nil] at hs
      generalize hj : (encAll rs).length = j at hsz hrsl ⊢
      have hge : ¬ (j : Int) < (s.size : Int) := by omega
      have hj' := Lib.hid hj; clear hj hsz
      have HS := Lib.hid hs; clear hs
      have HV := Lib.hid hv; clear hv
      obtain ⟨q, d, rfl, hd, hrow⟩ := hown.row
      have HR := Lib.hid hrow; clear hrow hown
      go_wp2
      go_ret2
      exact ⟨fun rs' hv' hs' => by
        obtain rfl := encAll_inj hv' HV.out (hs'.symm.trans HS.out)
        exact ⟨q, d, rfl, hd, hb, HR.out⟩, fun h => absurd ⟨rs, HV.out, HS.out⟩ h, hb⟩
    · simp only [List.length_cons] at hsz
      have hlt : (encAll rs).length < s.size := by omega
      have hbyte := byte_of hs hlt
      have l0 := b0.toNat_lt
      generalize hj : (encAll rs).length = j at hsz hlt hbyte hrsl ⊢
      have hlt' : (j : Int) < (s.size : Int) := by omega
      have hj' := Lib.hid hj; clear hj
      have hsz' := Lib.hid hsz; clear hsz
      have HS := Lib.hid hs; clear hs
      have HV := Lib.hid hv; clear hv
      have HO := Lib.hid hown; clear hown
      by_cases c1 : b0.toNat < 128
      · have c1' : (b0.toNat : Int) < 128 := by omega
        have hx := leaf1 b0 c1
        have HVx := Lib.hid hx.1
        have HEx := Lib.hid hx.2
        clear hx
        go_wp2_with fail
        refine wp_loop_rounds 1 ?_
        rw [rounds_succ]
        go_wp2_with (first | (go_at_call 24; refine (refMay_yes (b0.toNat : Int) HVx.out wr).mono ?_; rintro e w1 ⟨rfl, rfl⟩) | (at_builtin; refine wpList_own_push rfl _ _ 36 rfl 21 .i32 4 Tryz.underlying36 info_rune (by decide) W.heap.size _ _ rfl (HO.out.alloc _) wr.heap.size 1 1 [(b0.toNat : Int)] rfl rfl ?newCells ?short ?below ?_))
        case newCells => intro i hi; obtain rfl : i = 0 := by omega
                         simp
        case short => have := hrsl; omega
        case below => have := hb.size; simp; omega
        intro v2 w2 hown2 hgrow
        have hb2 : Below W.heap.size W w2 := (hb.alloc hb.size _).grown hgrow (by have := hb.size; simp; omega) (fun g hg => HO.out.lt g hg)
        have HO2 := Lib.hid hown2; clear hown2 hgrow
        go_wp2
        go_roundw
        case rel => exact rr_next HV.out HS.out HVx.out (y := t) (by rw [HEx.out]; rfl) hj'.out (by rw [HEx.out]; rfl) HO2.out hb2
        case measure => simp [intOf]; omega
      by_cases c0 : b0.toNat < 194 ∨ 245 ≤ b0.toNat
      · have a1 : (128 : Int) ≤ b0.toNat := by omega
        rcases c0 with c0 | c0
        · have a2 : (b0.toNat : Int) < 194 := by omega
          have HNo := Lib.hid (no_txt_of HS.out HV.out (bad_lead (by omega) (Or.inl c0)))
          go_wp2
          go_ret2
          exact ⟨fun rs' hv' hs' => absurd ⟨rs', hv', hs'⟩ HNo.out, fun _ => rfl, hb⟩
        · have a2 : (245 : Int) ≤ b0.toNat := by omega
          have HNo := Lib.hid (no_txt_of HS.out HV.out (bad_lead (by omega) (Or.inr c0)))
          go_wp2
          go_ret2
          exact ⟨fun rs' hv' hs' => absurd ⟨rs', hv', hs'⟩ HNo.out, fun _ => rfl, hb⟩
      by_cases c2 : b0.toNat < 224
      · have a1' : 194 ≤ b0.toNat := by omega
        have a2' : b0.toNat < 224 := by omega
        have a1 : (194 : Int) ≤ b0.toNat := by omega
        have a2 : (b0.toNat : Int) < 224 := by omega
        clear c0 c1
        rcases t with _ | ⟨b1, t⟩
        · have hsh : (s.size : Int) < (j : Int) + 2 := by have := hsz'.out; simp at this; omega
          have HNo := Lib.hid (no_txt_of HS.out HV.out (bad_two a1' a2' (fun _ _ e _ => by simp at e)))
          go_wp2
          go_ret2
          exact ⟨fun rs' hv' hs' => absurd ⟨rs', hv', hs'⟩ HNo.out, fun _ => rfl, hb⟩
        · obtain ⟨hk1, hb1⟩ := byte_k HS.out hj'.out (show (b0 :: b1 :: t)[1]? = some b1 from rfl)
          have hl1 : (j : Int) + 1 < s.size := by omega
          have l1 := b1.toNat_lt
          by_cases d1 : b1.toNat / 64 = 2
          · have e1 := cont_yes b1 d1
            have hx := leaf2 b0 b1 a1' a2' d1
            have HVx := Lib.hid hx.1
            have HEx := Lib.hid hx.2
            clear hx
            go_wp2_with fail
            refine wp_loop_rounds 2 ?_
            rw [rounds_succ]
            go_wp2_with fail
            rw [rounds_succ]
            go_wp2_with (first | (go_at_call 24; refine (refMay_yes ((b0.toNat : Int) % 32 * 64 + (b1.toNat : Int) % 64) HVx.out wr).mono ?_; rintro e w1 ⟨rfl, rfl⟩) | (at_builtin; refine wpList_own_push rfl _ _ 36 rfl 21 .i32 4 Tryz.underlying36 info_rune (by decide) W.heap.size _ _ rfl (HO.out.alloc _) wr.heap.size 1 1 [((b0.toNat : Int) % 32 * 64 + (b1.toNat : Int) % 64)] rfl rfl ?newCells ?short ?below ?_))
            case newCells => intro i hi; obtain rfl : i = 0 := by omega
                             simp
            case short => have := hrsl; omega
            case below => have := hb.size; simp; omega
            intro v2 w2 hown2 hgrow
            have hb2 : Below W.heap.size W w2 := (hb.alloc hb.size _).grown hgrow (by have := hb.size; simp; omega) (fun g hg => HO.out.lt g hg)
            have HO2 := Lib.hid hown2; clear hown2 hgrow
            go_wp2
            go_roundw
            case rel => exact rr_next HV.out HS.out HVx.out (y := t) (by rw [HEx.out]; rfl) hj'.out (by rw [HEx.out]; rfl) HO2.out hb2
            case measure => simp [intOf]; omega
          · have e1 := cont_no b1 d1
            have HNo := Lib.hid (no_txt_of HS.out HV.out (bad_two a1' a2' (fun _ _ e k1 => by simp only [List.cons.injEq] at e; obtain ⟨rfl, _⟩ := e; exact d1 k1)))
            go_wp2_with fail
            refine wp_loop_rounds 1 ?_
            rw [rounds_succ]
            go_wp2_with (fail)
            go_ret2
            exact ⟨fun rs' hv' hs' => absurd ⟨rs', hv', hs'⟩ HNo.out, fun _ => rfl, hb⟩
      by_cases c3 : b0.toNat < 240
      · have a1' : 224 ≤ b0.toNat := by omega
        have a2' : b0.toNat < 240 := by omega
        have a1 : (224 : Int) ≤ b0.toNat := by omega
        have a2 : (b0.toNat : Int) < 240 := by omega
        clear c0 c1
        rcases t with _ | ⟨b1, t⟩
        · have hsh : (s.size : Int) < (j : Int) + 3 := by have := hsz'.out; simp at this; omega
          have HNo := Lib.hid (no_txt_of HS.out HV.out (bad_three a1' a2' (fun _ _ _ e _ _ _ _ => by simp at e)))
          go_wp2
          go_ret2
          exact ⟨fun rs' hv' hs' => absurd ⟨rs', hv', hs'⟩ HNo.out, fun _ => rfl, hb⟩
        · obtain ⟨hk1, hb1⟩ := byte_k HS.out hj'.out (show (b0 :: b1 :: t)[1]? = some b1 from rfl)
          have hl1 : (j : Int) + 1 < s.size := by omega
          have l1 := b1.toNat_lt
          rcases t with _ | ⟨b2, t⟩
          · have hsh : (s.size : Int) < (j : Int) + 3 := by have := hsz'.out; simp at this; omega
            have HNo := Lib.hid (no_txt_of HS.out HV.out (bad_three a1' a2' (fun _ _ _ e _ _ _ _ => by simp at e)))
            go_wp2
            go_ret2
            exact ⟨fun rs' hv' hs' => absurd ⟨rs', hv', hs'⟩ HNo.out, fun _ => rfl, hb⟩
          · obtain ⟨hk2, hb2⟩ := byte_k HS.out hj'.out (show (b0 :: b1 :: b2 :: t)[2]? = some b2 from rfl)
            have hl2 : (j : Int) + 2 < s.size := by omega
            have l2 := b2.toNat_lt
            obtain ⟨r1, hr1⟩ : ∃ r1 : Int, r1 = (b0.toNat : Int) % 16 * 64 + (b1.toNat : Int) % 64 := ⟨_, rfl⟩
            have hr1a : 0 ≤ r1 := by omega
            have hr1b : r1 ≤ 1023 := by omega
            have HR1 := Lib.hid hr1; clear hr1
            have hv3 : v3 b0 b1 b2 = r1 * 64 + (b2.toNat : Int) % 64 := by rw [HR1.out]; rfl
            have HV3 := Lib.hid hv3; clear hv3
            by_cases d1 : b1.toNat / 64 = 2
            · have e1 := cont_yes b1 d1
              by_cases d2 : b2.toNat / 64 = 2
              · have e2 := cont_yes b2 d2
                by_cases g1 : v3 b0 b1 b2 < 2048
                · have HNo := Lib.hid (no_txt_of HS.out HV.out (bad_three a1' a2' (fun _ _ _ e k1 k2 k3 k4 => by simp only [List.cons.injEq] at e; obtain ⟨rfl, rfl, _⟩ := e; exact by omega)))
                  have G2 := Lib.hid (show (r1 * 64 + (b2.toNat : Int) % 64) < 2048 from by rw [← HV3.out]; exact g1)
                  clear g1
                  go_wp2_with fail
                  refine wp_loop_rounds 3 ?_
                  rw [rounds_succ]
                  go_wp2_with fail
                  rw [← HR1.out]
                  rw [rounds_succ]
                  go_wp2_with fail
                  rw [rounds_succ]
                  have g2 := G2.out
                  go_wp2_with (fail)
                  go_ret2
                  exact ⟨fun rs' hv' hs' => absurd ⟨rs', hv', hs'⟩ HNo.out, fun _ => rfl, hb⟩
                · have G2 := Lib.hid (show ¬ (r1 * 64 + (b2.toNat : Int) % 64) < 2048 from by rw [← HV3.out]; exact g1)
                  by_cases g3 : v3 b0 b1 b2 < 55296 ∨ 57343 < v3 b0 b1 b2
                  · have hx := leaf3 b0 b1 b2 a1' a2' d1 d2 ⟨Int.not_lt.1 g1, g3⟩
                    rw [HV3.out] at hx
                    have HVx := Lib.hid hx.1
                    have HEx := Lib.hid hx.2
                    clear hx g1 g3 d1 d2
                    go_wp2_with fail
                    refine wp_loop_rounds 3 ?_
                    rw [rounds_succ]
                    go_wp2_with fail
                    rw [← HR1.out]
                    rw [rounds_succ]
                    go_wp2_with fail
                    rw [rounds_succ]
                    have g2 := G2.out
                    go_wp2_with (first | (go_at_call 24; refine (refMay_yes (r1 * 64 + (b2.toNat : Int) % 64) HVx.out wr).mono ?_; rintro e w1 ⟨rfl, rfl⟩) | (at_builtin; refine wpList_own_push rfl _ _ 36 rfl 21 .i32 4 Tryz.underlying36 info_rune (by decide) W.heap.size _ _ rfl (HO.out.alloc _) wr.heap.size 1 1 [(r1 * 64 + (b2.toNat : Int) % 64)] rfl rfl ?newCells ?short ?below ?_))
                    case newCells => intro i hi; obtain rfl : i = 0 := by omega
                                     simp
                    case short => have := hrsl; omega
                    case below => have := hb.size; simp; omega
                    intro v2 w2 hown2 hgrow
                    have hb2 : Below W.heap.size W w2 := (hb.alloc hb.size _).grown hgrow (by have := hb.size; simp; omega) (fun g hg => HO.out.lt g hg)
                    have HO2 := Lib.hid hown2; clear hown2 hgrow
                    go_wp2
                    go_roundw
                    case rel => exact rr_next HV.out HS.out HVx.out (y := t) (by rw [HEx.out]; rfl) hj'.out (by rw [HEx.out]; rfl) HO2.out hb2
                    case measure => simp [intOf]; omega
                  · have HVx := Lib.hid (show ¬ V (r1 * 64 + (b2.toNat : Int) % 64) from fun h => g3 (by rw [HV3.out]; unfold V at h; omega))
                    have HNo := Lib.hid (no_txt_of HS.out HV.out (bad_three a1' a2' (fun _ _ _ e k1 k2 k3 k4 => by simp only [List.cons.injEq] at e; obtain ⟨rfl, rfl, _⟩ := e; exact g3 k4)))
                    clear g1 g3
                    go_wp2_with fail
                    refine wp_loop_rounds 3 ?_
                    rw [rounds_succ]
                    go_wp2_with fail
                    rw [← HR1.out]
                    rw [rounds_succ]
                    go_wp2_with fail
                    rw [rounds_succ]
                    have g2 := G2.out
                    go_wp2_with ((go_at_call 24; refine (refMay_no (r1 * 64 + (b2.toNat : Int) % 64) HVx.out wr).mono ?_; rintro e w1 ⟨rfl, rfl⟩))
                    go_ret2
                    exact ⟨fun rs' hv' hs' => absurd ⟨rs', hv', hs'⟩ HNo.out, fun _ => rfl, hb⟩
              · have e2 := cont_no b2 d2
                have HNo := Lib.hid (no_txt_of HS.out HV.out (bad_three a1' a2' (fun _ _ _ e k1 k2 k3 k4 => by simp only [List.cons.injEq] at e; obtain ⟨rfl, rfl, _⟩ := e; exact d2 k2)))
                go_wp2_with fail
                refine wp_loop_rounds 2 ?_
                rw [rounds_succ]
                go_wp2_with fail
                rw [← HR1.out]
                rw [rounds_succ]
                go_wp2_with (fail)
                go_ret2
                exact ⟨fun rs' hv' hs' => absurd ⟨rs', hv', hs'⟩ HNo.out, fun _ => rfl, hb⟩
            · have e1 := cont_no b1 d1
              have HNo := Lib.hid (no_txt_of HS.out HV.out (bad_three a1' a2' (fun _ _ _ e k1 k2 k3 k4 => by simp only [List.cons.injEq] at e; obtain ⟨rfl, rfl, _⟩ := e; exact d1 k1)))
              go_wp2_with fail
              refine wp_loop_rounds 1 ?_
              rw [rounds_succ]
              go_wp2_with (fail)
              go_ret2
              exact ⟨fun rs' hv' hs' => absurd ⟨rs', hv', hs'⟩ HNo.out, fun _ => rfl, hb⟩
      · have a1' : 240 ≤ b0.toNat := by omega
        have a2' : b0.toNat < 245 := by omega
        have a1 : (240 : Int) ≤ b0.toNat := by omega
        have a2 : (b0.toNat : Int) < 245 := by omega
        clear c0 c1
        rcases t with _ | ⟨b1, t⟩
        · have hsh : (s.size : Int) < (j : Int) + 4 := by have := hsz'.out; simp at this; omega
          have HNo := Lib.hid (no_txt_of HS.out HV.out (bad_four a1' a2' (fun _ _ _ _ e _ _ _ _ _ => by simp at e)))
          go_wp2
          go_ret2
          exact ⟨fun rs' hv' hs' => absurd ⟨rs', hv', hs'⟩ HNo.out, fun _ => rfl, hb⟩
        · obtain ⟨hk1, hb1⟩ := byte_k HS.out hj'.out (show (b0 :: b1 :: t)[1]? = some b1 from rfl)
          have hl1 : (j : Int) + 1 < s.size := by omega
          have l1 := b1.toNat_lt
          rcases t with _ | ⟨b2, t⟩
          · have hsh : (s.size : Int) < (j : Int) + 4 := by have := hsz'.out; simp at this; omega
            have HNo := Lib.hid (no_txt_of HS.out HV.out (bad_four a1' a2' (fun _ _ _ _ e _ _ _ _ _ => by simp at e)))
            go_wp2
            go_ret2
            exact ⟨fun rs' hv' hs' => absurd ⟨rs', hv', hs'⟩ HNo.out, fun _ => rfl, hb⟩
          · obtain ⟨hk2, hb2⟩ := byte_k HS.out hj'.out (show (b0 :: b1 :: b2 :: t)[2]? = some b2 from rfl)
            have hl2 : (j : Int) + 2 < s.size := by omega
            have l2 := b2.toNat_lt
            rcases t with _ | ⟨b3, t⟩
            · have hsh : (s.size : Int) < (j : Int) + 4 := by have := hsz'.out; simp at this; omega
              have HNo := Lib.hid (no_txt_of HS.out HV.out (bad_four a1' a2' (fun _ _ _ _ e _ _ _ _ _ => by simp at e)))
              go_wp2
              go_ret2
              exact ⟨fun rs' hv' hs' => absurd ⟨rs', hv', hs'⟩ HNo.out, fun _ => rfl, hb⟩
            · obtain ⟨hk3, hb3⟩ := byte_k HS.out hj'.out (show (b0 :: b1 :: b2 :: b3 :: t)[3]? = some b3 from rfl)
              have hl3 : (j : Int) + 3 < s.size := by omega
              have l3 := b3.toNat_lt
              obtain ⟨r1, hr1⟩ : ∃ r1 : Int, r1 = (b0.toNat : Int) % 8 * 64 + (b1.toNat : Int) % 64 := ⟨_, rfl⟩
              have hr1a : 0 ≤ r1 := by omega
              have hr1b : r1 ≤ 511 := by omega
              have HR1 := Lib.hid hr1; clear hr1
              obtain ⟨r2, hr2⟩ : ∃ r2 : Int, r2 = r1 * 64 + (b2.toNat : Int) % 64 := ⟨_, rfl⟩
              have hr2a : 0 ≤ r2 := by omega
              have hr2b : r2 ≤ 32767 := by omega
              have HR2 := Lib.hid hr2; clear hr2
              have hv4 : v4 b0 b1 b2 b3 = r2 * 64 + (b3.toNat : Int) % 64 := by rw [HR2.out, HR1.out]; rfl
              have HV4 := Lib.hid hv4; clear hv4
              by_cases d1 : b1.toNat / 64 = 2
              · have e1 := cont_yes b1 d1
                by_cases d2 : b2.toNat / 64 = 2
                · have e2 := cont_yes b2 d2
                  by_cases d3 : b3.toNat / 64 = 2
                  · have e3 := cont_yes b3 d3
                    by_cases g1 : v4 b0 b1 b2 b3 < 65536
                    · have HNo := Lib.hid (no_txt_of HS.out HV.out (bad_four a1' a2' (fun _ _ _ _ e k1 k2 k3 k4 k5 => by simp only [List.cons.injEq] at e; obtain ⟨rfl, rfl, rfl, _⟩ := e; exact by omega)))
                      have G2 := Lib.hid (show (r2 * 64 + (b3.toNat : Int) % 64) < 65536 from by rw [← HV4.out]; exact g1)
                      clear g1
                      go_wp2_with fail
                      refine wp_loop_rounds 4 ?_
                      rw [rounds_succ]
                      go_wp2_with fail
                      rw [← HR1.out]
                      rw [rounds_succ]
                      go_wp2_with fail
                      rw [← HR2.out]
                      rw [rounds_succ]
                      go_wp2_with fail
                      rw [rounds_succ]
                      have g2 := G2.out
                      go_wp2_with (fail)
                      go_ret2
                      exact ⟨fun rs' hv' hs' => absurd ⟨rs', hv', hs'⟩ HNo.out, fun _ => rfl, hb⟩
                    · have G2 := Lib.hid (show ¬ (r2 * 64 + (b3.toNat : Int) % 64) < 65536 from by rw [← HV4.out]; exact g1)
                      by_cases g3 : v4 b0 b1 b2 b3 ≤ 1114111
                      · have hx := leaf4 b0 b1 b2 b3 a1' a2' d1 d2 d3 ⟨Int.not_lt.1 g1, g3⟩
                        rw [HV4.out] at hx
                        have HVx := Lib.hid hx.1
                        have HEx := Lib.hid hx.2
                        clear hx g1 g3 d1 d2
                        go_wp2_with fail
                        refine wp_loop_rounds 4 ?_
                        rw [rounds_succ]
                        go_wp2_with fail
                        rw [← HR1.out]
                        rw [rounds_succ]
                        go_wp2_with fail
                        rw [← HR2.out]
                        rw [rounds_succ]
                        go_wp2_with fail
                        rw [rounds_succ]
                        have g2 := G2.out
                        go_wp2_with (first | (go_at_call 24; refine (refMay_yes (r2 * 64 + (b3.toNat : Int) % 64) HVx.out wr).mono ?_; rintro e w1 ⟨rfl, rfl⟩) | (at_builtin; refine wpList_own_push rfl _ _ 36 rfl 21 .i32 4 Tryz.underlying36 info_rune (by decide) W.heap.size _ _ rfl (HO.out.alloc _) wr.heap.size 1 1 [(r2 * 64 + (b3.toNat : Int) % 64)] rfl rfl ?newCells ?short ?below ?_))
                        case newCells => intro i hi; obtain rfl : i = 0 := by omega
                                         simp
                        case short => have := hrsl; omega
                        case below => have := hb.size; simp; omega
                        intro v2 w2 hown2 hgrow
                        have hb2 : Below W.heap.size W w2 := (hb.alloc hb.size _).grown hgrow (by have := hb.size; simp; omega) (fun g hg => HO.out.lt g hg)
                        have HO2 := Lib.hid hown2; clear hown2 hgrow
                        go_wp2
                        go_roundw
                        case rel => exact rr_next HV.out HS.out HVx.out (y := t) (by rw [HEx.out]; rfl) hj'.out (by rw [HEx.out]; rfl) HO2.out hb2
                        case measure => simp [intOf]; omega
                      · have HVx := Lib.hid (show ¬ V (r2 * 64 + (b3.toNat : Int) % 64) from fun h => g3 (by rw [HV4.out]; unfold V at h; omega))
                        have HNo := Lib.hid (no_txt_of HS.out HV.out (bad_four a1' a2' (fun _ _ _ _ e k1 k2 k3 k4 k5 => by simp only [List.cons.injEq] at e; obtain ⟨rfl, rfl, rfl, _⟩ := e; exact g3 k5)))
                        clear g1 g3
                        go_wp2_with fail
                        refine wp_loop_rounds 4 ?_
                        rw [rounds_succ]
                        go_wp2_with fail
                        rw [← HR1.out]
                        rw [rounds_succ]
                        go_wp2_with fail
                        rw [← HR2.out]
                        rw [rounds_succ]
                        go_wp2_with fail
                        rw [rounds_succ]
                        have g2 := G2.out
                        go_wp2_with ((go_at_call 24; refine (refMay_no (r2 * 64 + (b3.toNat : Int) % 64) HVx.out wr).mono ?_; rintro e w1 ⟨rfl, rfl⟩))
                        go_ret2
                        exact ⟨fun rs' hv' hs' => absurd ⟨rs', hv', hs'⟩ HNo.out, fun _ => rfl, hb⟩
                  · have e3 := cont_no b3 d3
                    have HNo := Lib.hid (no_txt_of HS.out HV.out (bad_four a1' a2' (fun _ _ _ _ e k1 k2 k3 k4 k5 => by simp only [List.cons.injEq] at e; obtain ⟨rfl, rfl, rfl, _⟩ := e; exact d3 k3)))
                    go_wp2_with fail
                    refine wp_loop_rounds 3 ?_
                    rw [rounds_succ]
                    go_wp2_with fail
                    rw [← HR1.out]
                    rw [rounds_succ]
                    go_wp2_with fail
                    rw [← HR2.out]
                    rw [rounds_succ]
                    go_wp2_with (fail)
                    go_ret2
                    exact ⟨fun rs' hv' hs' => absurd ⟨rs', hv', hs'⟩ HNo.out, fun _ => rfl, hb⟩
                · have e2 := cont_no b2 d2
                  have HNo := Lib.hid (no_txt_of HS.out HV.out (bad_four a1' a2' (fun _ _ _ _ e k1 k2 k3 k4 k5 => by simp only [List.cons.injEq] at e; obtain ⟨rfl, rfl, rfl, _⟩ := e; exact d2 k2)))
                  go_wp2_with fail
                  refine wp_loop_rounds 2 ?_
                  rw [rounds_succ]
                  go_wp2_with fail
                  rw [← HR1.out]
                  rw [rounds_succ]
                  go_wp2_with (fail)
                  go_ret2
                  exact ⟨fun rs' hv' hs' => absurd ⟨rs', hv', hs'⟩ HNo.out, fun _ => rfl, hb⟩
              · have e1 := cont_no b1 d1
                have HNo := Lib.hid (no_txt_of HS.out HV.out (bad_four a1' a2' (fun _ _ _ _ e k1 k2 k3 k4 k5 => by simp only [List.cons.injEq] at e; obtain ⟨rfl, rfl, rfl, _⟩ := e; exact d1 k1)))
                go_wp2_with fail
                refine wp_loop_rounds 1 ?_
                rw [rounds_succ]
                go_wp2_with (fail)
                go_ret2
                exact ⟨fun rs' hv' hs' => absurd ⟨rs', hv', hs'⟩ HNo.out, fun _ => rfl, hb⟩
end Go.Proofs.YticjgmhgpeihjaaGreatDoor.Sc
namespace Go.Proofs.YticjgmhgpeihjaaGreatDoor.Sc
open Go.RowKit Go.Gz

theorem less_cmp : ∀ (x y : List UInt8), Op.bytesLess x y = (Lib.compareBytes x y == -1)
  | [], [] => rfl
  | [], _ :: _ => rfl
  | _ :: _, [] => rfl
  | a :: x, b :: y => by
    simp only [Op.bytesLess, Lib.compareBytes]
    by_cases c : a < b
    · simp [c]
    · by_cases d : b < a
      · have e : ¬ a = b := by rintro rfl; exact c d
        simp [c, d, e]
      · have e : a = b := by
          have h1 := UInt8.not_lt.1 c
          have h2 := UInt8.not_lt.1 d
          exact UInt8.le_antisymm h2 h1
        simp [e, less_cmp x y]
theorem eq_cmp : ∀ (x y : List UInt8), (x == y) = (Lib.compareBytes x y == 0)
  | [], [] => rfl
  | [], _ :: _ => rfl
  | _ :: _, [] => rfl
  | a :: x, b :: y => by
    have ih := eq_cmp x y
    simp only [Lib.compareBytes]
    by_cases c : a < b
    · have e : ¬ a = b := by rintro rfl; exact UInt8.lt_irrefl _ c
      simp [c, e]
    · by_cases d : b < a
      · have e : ¬ a = b := by rintro rfl; exact UInt8.lt_irrefl _ d
        simp [c, d, e]
      · have e : a = b := by
          have h1 := UInt8.not_lt.1 c
          have h2 := UInt8.not_lt.1 d
          exact UInt8.le_antisymm h2 h1
        subst e
        simp [ih]
theorem cmp_three : ∀ (x y : List UInt8), Lib.compareBytes x y = -1 ∨ Lib.compareBytes x y = 0 ∨ Lib.compareBytes x y = 1
  | [], [] => Or.inr (Or.inl rfl)
  | [], _ :: _ => Or.inl rfl
  | _ :: _, [] => Or.inr (Or.inr rfl)
  | a :: x, b :: y => by
    simp only [Lib.compareBytes]
    by_cases c : a < b
    · simp [c]
    · by_cases d : b < a
      · simp [c, d]
      · simp only [c, d, if_false]
        exact cmp_three x y

theorem refCompare_any (a b : ByteArray) (w : World) : Calls Tryz.prog 13 #[.string a, .string b] w fun e w' => e = .returned (.int .i64 (Lib.compareBytes a.data.toList b.data.toList)) ∧ w = w' := by
  have h1 := less_cmp a.data.toList b.data.toList
  have h2 := eq_cmp a.data.toList b.data.toList
  rw [← Lib.toList_data a, ← Lib.toList_data b] at h1 h2 ⊢
  rcases cmp_three a.toList b.toList with h | h | h
  · rw [h] at h1 h2 ⊢
    clear h
    rw [show ((-1 : Int) == -1) = true from by decide] at h1
    rw [show ((-1 : Int) == 0) = false from by decide] at h2
    go_enter Tryz.func13, Tryz.ntmps13
    go_wp2
    go_ret
    exact ⟨rfl, rfl⟩
  · rw [h] at h1 h2 ⊢
    clear h
    rw [show ((0 : Int) == -1) = false from by decide] at h1
    rw [show ((0 : Int) == 0) = true from by decide] at h2
    go_enter Tryz.func13, Tryz.ntmps13
    go_wp2
    go_ret
    exact ⟨rfl, rfl⟩
  · rw [h] at h1 h2 ⊢
    clear h
    rw [show ((1 : Int) == -1) = false from by decide] at h1
    rw [show ((1 : Int) == 0) = false from by decide] at h2
    go_enter Tryz.func13, Tryz.ntmps13
    go_wp2
    go_ret
    exact ⟨rfl, rfl⟩
end Go.Proofs.YticjgmhgpeihjaaGreatDoor.Sc
