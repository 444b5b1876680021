/-
  Layer sortkey: weights as bytes, levels joined: rows of bytes of the caller's own.
-/
import Derived.Test.YtcocmmndonlhkaaDoorSkMath
import Derived.Test.YtcocmmndonlhkaaDoorRows2
import Derived.Lib.AppendStr
namespace Go.Proofs.YtcocmmndonlhkaaDoor
open Go.RowKit Go.Gz

theorem info_u8 : (Tryd.prog.info? 5).map (fun i => (i.zero, i.size, i.bytes)) = some (some (.int .u8 0), 1, 1) := by kernel_rfl
def numsB (l : List UInt8) : List Int := l.map fun x => (x.toNat : Int)
theorem numsB_append (a b : List UInt8) : numsB (a ++ b) = numsB a ++ numsB b := by simp [numsB]
theorem numsB_length (l : List UInt8) : (numsB l).length = l.length := by simp [numsB]
theorem numsB_two (x : Int) : numsB (two x) = [x / 256 % 256, x % 256] := by
  simp only [numsB, two, List.map_cons, List.map_nil]
  rw [u8n _ (by omega), u8n _ (by omega)]
  congr 1
  · omega
  · congr 1; omega
/-- a row of bytes of the caller's own. -/
def OwnB (w : World) (B : Nat) (v : Value) (l : List UInt8) : Prop := Own w B 5 .u8 v (numsB l)
def RetB (B : Nat) (W : World) (l : List UInt8) (e : Ending) (w' : World) : Prop := ∃ v, e = .returned v ∧ OwnB w' B v l ∧ Below B W w'
theorem twoI (w : World) (x y : Int) (t : TypeId) : ∀ j, j < 2 → (w.alloc (.cells #[.int .u8 x, .int .u8 y] t)).cell? ⟨w.heap.size, j, none⟩ = some (.int .u8 ([x, y].getD j 0)) := by
  intro j hj
  rw [World.cell?_alloc_new]
  match j, hj with
  | 0, _ => rfl
  | 1, _ => rfl

set_option maxHeartbeats 1000000 in
set_option maxRecDepth 100000 in
theorem appendWeight_any (B : Nat) (v : Value) (l : List UInt8) (x : Int) (h0 : 0 ≤ x) (h1 : x ≤ 65535) (W : World) (hown : OwnB W B v l) (hB : B ≤ W.heap.size) (hl : l.length ≤ 100000) :
    Calls Tryd.prog 27 #[v, .int .i64 x] W (RetB B W (l ++ two x)) := by
  have HO := Lib.hid hown; clear hown
  have hl' : (numsB l).length ≤ 100000 := by rw [numsB_length]; exact hl
  go_enter Tryd.func27, Tryd.ntmps27
  have HT := Lib.hid (show numsB (l ++ two x) = numsB l ++ [x / 256, x % 256] by
    rw [numsB_append, numsB_two, show x / 256 % 256 = x / 256 by omega])
  have hb1 := Lib.hid ((Below.refl B W).alloc hB (.cells #[.int .u8 (x / 256), .int .u8 (x % 256)] 5))
  go_wp2_with (at_builtin; refine wpList_own_push rfl _ _ 22 rfl 5 .u8 1 Tryd.underlying22 info_u8 (by decide) B _ (numsB l) rfl (Own.alloc HO.out _) W.heap.size 2 2 [x / 256, x % 256] rfl rfl ?cellsW ?lenW ?belowW ?_)
  case cellsW => exact twoI _ _ _ _
  case lenW => omega
  case belowW => simp; omega
  intro v' w' hown' hgrow'
  have HB := Lib.hid (hb1.out.grown hgrow' (by simp; omega) (fun g hg => HO.out.lt g hg))
  have HO' := Lib.hid hown'
  clear hown' hgrow'
  go_wp2_with fail
  go_ret
  exact ⟨_, rfl, by unfold OwnB; rw [HT.out]; exact HO'.out, HB.out⟩

theorem cells_str (s : ByteArray) : Lib.strCells s = (numsB s.data.toList).map (Value.int .u8) := by
  simp [Lib.strCells, numsB, List.map_map]
/-- append of a string's bytes onto a row of the caller's own. -/
theorem wpList_ownB_str {w : World} {ops : Array Oper} {rest : List Oper} {o : Oper} {a : Act} {Q : Exit → Act → World → Prop} (hgd : o.guard = none) (sl x : Operand)
    (ho : o.op = .call { callee := .builtin .append, args := #[sl, x], argTypes := #[22, 9] })
    (B : Nat) (v : Value) (l : List UInt8) (hs : a.eval sl = v) (hown : OwnB w B v l) (s : ByteArray) (hx : a.eval x = .string s) (hlen : l.length + s.data.toList.length ≤ 1000000) (hB : B ≤ w.heap.size)
    (hK : ∀ v' w', OwnB w' B v' (l ++ s.data.toList) → Below B w w' → wpList Tryd.prog ops Q rest (a.put o.dst v') w') : wpList Tryd.prog ops Q (o :: rest) a w := by
  obtain ⟨i0, hi, hz0, hz1, hz2⟩ := info_parts info_u8
  have hsz : s.size = s.data.toList.length := by simp
  have hn : (numsB l).length = l.length := numsB_length l
  refine Lib.wpList_append_own_string w hgd sl x 22 9 ho B 5 i0 Tryd.underlying22 Tryd.underlying9 hi hz0 hz1 hz2 v (numsB l).length ((numsB l).map (Value.int .u8)) hs hown s hx (by unfold maxLen; omega) (by omega) hB ?_
  intro v' w' h1 h2 _
  refine hK v' w' ?_ ((Below.refl B w).grown h2 hB fun g hg => (World.ownsRow.lt hown g hg).1)
  unfold OwnB Own
  rw [numsB_append, List.length_append, List.map_append, numsB_length s.data.toList, ← hsz, ← cells_str]
  exact h1

def JnRel (B : Nat) (W : World) (l0 : List UInt8) (L : List Int) (vo vi : Value) (wr : World) (g : Nat) : Prop :=
  ∃ k : Nat, vi = .int .i64 (k : Int) ∧ k ≤ L.length ∧ L.length - k ≤ g ∧ Below B W wr ∧ OwnB wr B vo (l0 ++ lvB (L.take k))
theorem strCells_nil : Lib.strCells ⟨#[]⟩ = [] := by rfl

set_option maxHeartbeats 2000000 in
set_option maxRecDepth 100000 in
theorem joinInt_any (B : Nat) (v : Value) (l : List UInt8) (L : List Int) (p : Option Addr) (c : Nat) (W : World) (hown : OwnB W B v l) (hB : B ≤ W.heap.size) (hl : l.length + 2 * L.length ≤ 100000) (hp : Row W .i64 p L) (hlo : ∀ b o, p = some ⟨b, o, none⟩ → b < B) (hL : ∀ x ∈ L, 0 ≤ x ∧ x ≤ 65535) :
    Calls Tryd.prog 26 #[v, .slice p L.length c, .string ⟨#[]⟩, .func (.func 27) #[] #[]] W (RetB B W (l ++ lvB L)) := by
  have HO := Lib.hid hown; clear hown
  have HP := Lib.hid hp; clear hp
  have HLO := Lib.hid hlo; clear hlo
  have HL := Lib.hid hL; clear hL
  go_enter Tryd.func26, Tryd.ntmps26
  go_wp2_with fail
  go_loopg [0, 13] L.length (fun g vo vi wr => Hid (JnRel B W l L vo vi wr g))
  case atStart => exact Lib.hid ⟨0, rfl, Nat.zero_le _, by omega, Below.refl _ _, by rw [List.take_zero]; simpa [lvB] using HO.out⟩
  case round =>
    have hrel' := hrel.out
    clear hrel
    obtain ⟨k, rfl, hk, hg, hb, hown⟩ := hrel'
    have HB := Lib.hid hb
    have HOk := Lib.hid hown
    have hsz : B ≤ wr.heap.size := Nat.le_trans hB hb.size
    clear hb hown
    by_cases hlt : k < L.length
    · have hltz : (k : Int) < (L.length : Int) := by omega
      have hcell : ∃ b o, p = some ⟨b, o, none⟩ ∧ b < B ∧ wr.cell? ⟨b, o + k, none⟩ = some (.int .i64 (L.getD k 0)) := by
        rcases HP.out with h | ⟨b, o, hp, h1, h2⟩
        · rw [h] at hlt; simp at hlt
        · exact ⟨b, o, hp, HLO.out b o hp, by rw [HB.out.cell (p := ⟨b, o + k, none⟩) (HLO.out b o hp)]; exact h2 k hlt⟩
      obtain ⟨b, o, rfl, hbB, hcell⟩ := hcell
      have hx := HL.out (L.getD k 0) (by simp [List.getD, hlt])
      have HTS := Lib.hid (show l ++ lvB (L.take (k + 1)) = (l ++ lvB (L.take k)) ++ two (L.getD k 0) by
        rw [List.take_succ_eq_append_getElem hlt, lvB_snoc, List.append_assoc]; simp [List.getD, hlt])
      have hll : (l ++ lvB (L.take k)).length ≤ 100000 := by rw [List.length_append, lvB_length, List.length_take]; omega
      obtain ⟨x, hxx⟩ : ∃ x, L.getD k 0 = x := ⟨_, rfl⟩
      rw [hxx] at hcell hx HTS
      clear hxx
      have CA := Lib.hid (fun v w hw hb => appendWeight_any B v (l ++ lvB (L.take k)) x hx.1 hx.2 w hw hb hll)
      by_cases hk0 : 0 < k
      · have hk0z : (0 : Int) < (k : Int) := by omega
        go_wp2_with (at_builtin; refine wpList_ownB_str rfl _ _ rfl B _ (l ++ lvB (L.take k)) rfl HOk.out ⟨#[]⟩ rfl (by have := hll; simp only [List.length_nil]; omega) hsz ?_)
        intro v0 w0 hown0 hb0
        have HB0 := Lib.hid (HB.out.trans hb0)
        have HO0 := Lib.hid (show OwnB w0 B v0 (l ++ lvB (L.take k)) by simpa using hown0)
        have hsz0 : B ≤ w0.heap.size := Nat.le_trans hB HB0.out.size
        clear hown0 hb0
        go_wp2_with fail
        refine (CA.out v0 w0 HO0.out (by omega)).mono ?_
        rintro e w1 ⟨v1, rfl, hown1, hb1⟩
        have HB1 := Lib.hid (HB0.out.trans hb1)
        have HO1 := Lib.hid hown1
        clear hown1 hb1
        go_wp2_with fail
        go_roundg (L.length - (k + 1))
        case measure => omega
        case rel => exact Lib.hid ⟨k + 1, by go_num, by omega, by omega, HB1.out, by rw [HTS.out]; exact HO1.out⟩
      · have hk0z : decide ((0 : Int) < (k : Int)) = false := decide_eq_false (by omega)
        have hk0n : decide (0 < k) = false := decide_eq_false hk0
        clear hk0
        go_wp2_with fail
        refine (CA.out _ wr HOk.out hsz).mono ?_
        rintro e w1 ⟨v1, rfl, hown1, hb1⟩
        have HB1 := Lib.hid (HB.out.trans hb1)
        have HO1 := Lib.hid hown1
        clear hown1 hb1
        go_wp2_with fail
        go_roundg (L.length - (k + 1))
        case measure => omega
        case rel => exact Lib.hid ⟨k + 1, by go_num, by omega, by omega, HB1.out, by rw [HTS.out]; exact HO1.out⟩
    · obtain rfl : k = L.length := by omega
      have hltz : ¬ (L.length : Int) < (L.length : Int) := by omega
      go_wp2_with fail
      go_ret
      exact ⟨_, rfl, by have := HOk.out; rwa [List.take_length] at this, HB.out⟩

theorem appendLevel_any (B : Nat) (v : Value) (l : List UInt8) (L : List Int) (p : Option Addr) (c : Nat) (W : World) (hown : OwnB W B v l) (hB : B ≤ W.heap.size) (hl : l.length + 2 * L.length ≤ 100000) (hp : Row W .i64 p L) (hlo : ∀ b o, p = some ⟨b, o, none⟩ → b < B) (hL : ∀ x ∈ L, 0 ≤ x ∧ x ≤ 65535) :
    Calls Tryd.prog 17 #[v, .slice p L.length c] W (RetB B W (l ++ lvB L)) := by
  have C := Lib.hid (joinInt_any B v l L p c W hown hB hl hp hlo hL)
  clear hown hp hlo hL
  go_enter Tryd.func17, Tryd.ntmps17
  go_wp2_with fail
  refine C.out.mono ?_
  rintro e w1 ⟨v1, rfl, hown1, hb1⟩
  have HO := Lib.hid hown1
  have HB := Lib.hid hb1
  clear hown1 hb1
  go_wp2_with fail
  go_ret
  exact ⟨_, rfl, HO.out, HB.out⟩

/-- slice pointer p reads in w as rows of numbers, all of them in blocks below B. -/
def LvsAt (w : World) (B : Nat) (p : Option Addr) (L : List (List Int)) : Prop :=
  ∀ j, j < L.length → ∃ b o q c, p = some ⟨b, o, none⟩ ∧ b < B ∧ w.cell? ⟨b, o + j, none⟩ = some (.slice q (L.getD j []).length c) ∧ Row w .i64 q (L.getD j []) ∧ ∀ b' o', q = some ⟨b', o', none⟩ → b' < B
theorem row_belowB {w w' : World} {B : Nat} {k : IntKind} {p : Option Addr} {xs : List Int} (h : Row w k p xs) (hb : Below B w w') (hlo : ∀ b o, p = some ⟨b, o, none⟩ → b < B) : Row w' k p xs := by
  rcases h with h | ⟨b, off, hp, hlt, hc⟩
  · exact Or.inl h
  · exact Or.inr ⟨b, off, hp, Nat.lt_of_lt_of_le hlt hb.size, fun j hj => by rw [hb.cell (p := ⟨b, off + j, none⟩) (hlo b off hp)]; exact hc j hj⟩
def JlRel (B : Nat) (W : World) (L : List (List Int)) (vo vi : Value) (wr : World) (g : Nat) : Prop :=
  ∃ k : Nat, vi = .int .i64 (k : Int) ∧ k ≤ L.length ∧ L.length - k ≤ g ∧ Below B W wr ∧ OwnB wr B vo (keyB (L.take k))
theorem keyB_take {L : List (List Int)} {k : Nat} (h : k < L.length) : keyB (L.take (k + 1)) = if k = 0 then lvB (L.getD k []) else keyB (L.take k) ++ [0, 0] ++ lvB (L.getD k []) := by
  rw [List.take_succ_eq_append_getElem h]
  have e : L[k] = L.getD k [] := by simp [List.getD, h]
  rw [e]
  by_cases hk : k = 0
  · subst hk
    simp [keyB]
  · rw [if_neg hk, keyB_snoc]
    · simp
    · intro hn
      have := congrArg List.length hn
      rw [List.length_take, List.length_nil] at this
      omega
theorem keyB_few : ∀ (L : List (List Int)) (n : Nat), (∀ l ∈ L, l.length ≤ n) → (keyB L).length ≤ L.length * (2 * n + 2)
  | [], _, _ => by simp [keyB]
  | l :: t, n, h => by
    have hl := h l (by simp)
    have ht : ∀ t : List (List Int), (∀ m ∈ t, m.length ≤ n) → (t.flatMap fun m => (0 : UInt8) :: 0 :: lvB m).length ≤ t.length * (2 * n + 2) := fun t => by
      induction t with
      | nil => intro _; simp
      | cons m t ih =>
        intro hm
        have h1 := hm m (by simp)
        have h2 := ih fun z hz => hm z (by simp [hz])
        simp only [List.flatMap_cons, List.length_append, List.length_cons, lvB_length, Nat.add_mul, Nat.one_mul]
        omega
    have h3 := ht t fun m hm => h m (by simp [hm])
    show (lvB l ++ _).length ≤ _
    rw [List.length_append, lvB_length, List.length_cons, Nat.add_mul, Nat.one_mul]
    obtain ⟨z, hz⟩ : ∃ z, t.length * (2 * n + 2) = z := ⟨_, rfl⟩
    rw [hz] at h3 ⊢
    omega

set_option maxHeartbeats 2000000 in
set_option maxRecDepth 100000 in
theorem joinLv_any (B : Nat) (L : List (List Int)) (p : Option Addr) (c n : Nat) (W : World) (hB : B ≤ W.heap.size) (hn : ∀ l ∈ L, l.length ≤ n) (hn2 : L.length ≤ 4) (hn3 : n ≤ 9000) (hp : LvsAt W B p L) (hL : ∀ l ∈ L, ∀ x ∈ l, 0 ≤ x ∧ x ≤ 65535) :
    Calls Tryd.prog 16 #[.slice none 0 0, .slice p L.length c, .string ⟨#[0, 0]⟩, .func (.func 17) #[] #[]] W (RetB B W (keyB L)) := by
  have HP := Lib.hid hp; clear hp
  have HL := Lib.hid hL; clear hL
  have HN := Lib.hid hn; clear hn
  go_enter Tryd.func16, Tryd.ntmps16
  go_wp2_with fail
  go_loopg [0, 13] L.length (fun g vo vi wr => Hid (JlRel B W L vo vi wr g))
  case atStart => exact Lib.hid ⟨0, rfl, Nat.zero_le _, by omega, Below.refl _ _, by rw [List.take_zero]; exact Own.nil _ _ _ _⟩
  case round =>
    have hrel' := hrel.out
    clear hrel
    obtain ⟨k, rfl, hk, hg, hb, hown⟩ := hrel'
    have HB := Lib.hid hb
    have HOk := Lib.hid hown
    have hsz : B ≤ wr.heap.size := Nat.le_trans hB hb.size
    clear hb hown
    by_cases hlt : k < L.length
    · have hltz : (k : Int) < (L.length : Int) := by omega
      obtain ⟨b, o, q, cq, rfl, hbB, hcell, hrow, hqB⟩ := HP.out k hlt
      have hcell' : wr.cell? ⟨b, o + k, none⟩ = some (.slice q (L.getD k []).length cq) := by rw [HB.out.cell (p := ⟨b, o + k, none⟩) hbB]; exact hcell
      have hm : L.getD k [] ∈ L := by simp [List.getD, hlt]
      have HTS := Lib.hid (keyB_take hlt)
      have hfl := keyB_few (L.take k) n fun l hl => HN.out l (List.mem_of_mem_take hl)
      have hkl : (L.take k).length ≤ 4 := by rw [List.length_take]; omega
      have hll : (keyB (L.take k)).length ≤ 80008 := Nat.le_trans hfl (Nat.le_trans (Nat.mul_le_mul hkl (show 2 * n + 2 ≤ 20002 by omega)) (by decide))
      have hlk := HN.out _ hm
      have HRk := Lib.hid (row_belowB hrow HB.out hqB)
      have HQB := Lib.hid hqB
      have HLk := Lib.hid (HL.out _ hm)
      obtain ⟨x, hxx⟩ : ∃ x, L.getD k [] = x := ⟨_, rfl⟩
      rw [hxx] at hcell' HTS HRk HLk hlk
      clear hxx hcell hrow hm hfl hkl hqB
      have CA := Lib.hid (fun v w l (hb : Below B wr w) hw (hll2 : l.length ≤ 80018) => appendLevel_any B v l x q cq w hw (Nat.le_trans hsz hb.size) (by omega) (row_belowB HRk.out hb HQB.out) HQB.out HLk.out)
      by_cases hk0 : 0 < k
      · have hk0z : (0 : Int) < (k : Int) := by omega
        have HK := Lib.hid (show keyB (L.take (k + 1)) = keyB (L.take k) ++ [0, 0] ++ lvB x by rw [HTS.out, if_neg (by omega)])
        go_wp2_with (at_builtin; refine wpList_ownB_str rfl _ _ rfl B _ (keyB (L.take k)) rfl HOk.out ⟨#[0, 0]⟩ rfl (by have := hll; simp only [List.length_cons, List.length_nil]; omega) hsz ?_)
        intro v0 w0 hown0 hb0
        have HB0 := Lib.hid hb0
        have HO0 := Lib.hid (show OwnB w0 B v0 (keyB (L.take k) ++ [0, 0]) from hown0)
        have hsz0 : B ≤ w0.heap.size := Nat.le_trans hsz HB0.out.size
        have hl2 : (keyB (L.take k) ++ [0, 0]).length ≤ 80018 := by rw [List.length_append]; simp; omega
        clear hown0 hb0
        go_wp2_with fail
        refine (CA.out v0 w0 _ HB0.out HO0.out hl2).mono ?_
        rintro e w1 ⟨v1, rfl, hown1, hb1⟩
        have HB1 := Lib.hid ((HB.out.trans HB0.out).trans hb1)
        have HO1 := Lib.hid hown1
        clear hown1 hb1 hl2
        go_wp2_with fail
        go_roundg (L.length - (k + 1))
        case measure => omega
        case rel => exact Lib.hid ⟨k + 1, by go_num, by omega, by omega, HB1.out, by rw [HK.out]; exact HO1.out⟩
      · have hk0z : decide ((0 : Int) < (k : Int)) = false := decide_eq_false (by omega)
        have hk0n : decide (0 < k) = false := decide_eq_false hk0
        have HK := Lib.hid (show keyB (L.take (k + 1)) = keyB (L.take k) ++ lvB x by
          rw [HTS.out, if_pos (by omega)]
          have : k = 0 := by omega
          subst this
          simp [keyB])
        clear hk0
        go_wp2_with fail
        refine (CA.out _ wr _ (Below.refl _ _) HOk.out (by omega)).mono ?_
        rintro e w1 ⟨v1, rfl, hown1, hb1⟩
        have HB1 := Lib.hid (HB.out.trans hb1)
        have HO1 := Lib.hid hown1
        clear hown1 hb1
        go_wp2_with fail
        go_roundg (L.length - (k + 1))
        case measure => omega
        case rel => exact Lib.hid ⟨k + 1, by go_num, by omega, by omega, HB1.out, by rw [HK.out]; exact HO1.out⟩
    · obtain rfl : k = L.length := by omega
      have hltz : ¬ (L.length : Int) < (L.length : Int) := by omega
      go_wp2_with fail
      go_ret
      exact ⟨_, rfl, by have := HOk.out; rwa [List.take_length] at this, HB.out⟩
end Go.Proofs.YtcocmmndonlhkaaDoor
