/-
  Several texts in one: SdBase, SdFirst, SdTurn, SdRead, SdStr.
-/
import Derived.Test.YtcocmmndonlhkaaDoorChecked
import Derived.Test.YtcocmmndonlhkaaDoorShelf
import Derived.Test.YtcocmmndonlhkaaDoorScMath
import Derived.WalkKit
import Derived.Handy
import Derived.Below
import Derived.Lib.Hide
import Derived.BigQuiet
import Derived.Deep.QuietTactic
import Derived.RegionTactic
import Derived.LoopTactic
import Derived.ArgAppend
namespace Go.Proofs.YtcocmmndonlhkaaDoor.Sc
open Go.RowKit Go.Gz

/-- slice pointer p reads in w as the numbers xs of kind k. -/
def Row (w : World) (k : IntKind) (p : Option Addr) (xs : List Int) : Prop :=
  xs = [] ∨ ∃ b off, p = some ⟨b, off, none⟩ ∧ b < w.heap.size ∧ ∀ j, j < xs.length → w.cell? ⟨b, off + j, none⟩ = some (.int k (xs.getD j 0))

theorem Row.below {w w' : World} {k : IntKind} {p : Option Addr} {xs : List Int} (h : Row w k p xs) (hb : Below w.heap.size w w') : Row w' k p xs := by
  rcases h with h | ⟨b, off, hp, hlt, hc⟩
  · exact Or.inl h
  · exact Or.inr ⟨b, off, hp, Nat.lt_of_lt_of_le hlt hb.size, fun j hj => by rw [hb.cell (p := ⟨b, off + j, none⟩) hlt]; exact hc j hj⟩
theorem below_drewN {B : Nat} {a w : World} (h : Below B a w) (n : Nat) : Below B a (w.drewN n) := ⟨h.os, h.tape, h.output, h.size, h.block⟩
theorem Row.drew {w : World} {k : IntKind} {p : Option Addr} {xs : List Int} (h : Row w k p xs) : Row w.drew k p xs := h.below (Below.refl _ _).drew

theorem may_any (r : Int) (w : World) : Calls Tryd.prog 61 #[.int .i32 r] w fun e w' => e = .returned (.bool (Lib.validRune r)) ∧ w' = w := by
  go_enter Tryd.func61, Tryd.ntmps61
  go_wp2_with (go_at_call 77; refine (Tryd.utf8_ValidRune _ _).mono ?_; rintro e w' ⟨rfl, rfl⟩)
  go_ret
  exact ⟨rfl, rfl⟩

theorem compare_any (a b : ByteArray) (w : World) : Calls Tryd.prog 18 #[.string a, .string b] w fun e w' => e = .returned (.int .i64 (Lib.compareBytes a.data.toList b.data.toList)) ∧ w' = w := by
  go_enter Tryd.func18, Tryd.ntmps18
  go_wp2_with (go_at_call 28; refine (Tryd.strings_Compare _ _ _).mono ?_; rintro e w' ⟨rfl, rfl⟩)
  go_ret
  exact ⟨rfl, rfl⟩

end Go.Proofs.YtcocmmndonlhkaaDoor.Sc
namespace Go.Proofs.YtcocmmndonlhkaaDoor.Sc
open Go.RowKit Go.Gz

/-- block b: its first cap cells may be written, and the first of them hold xs. -/
structure Buf (w : World) (b : Nat) (k : IntKind) (cap : Nat) (xs : List Int) : Prop where
  lt : b < w.heap.size
  le : xs.length ≤ cap
  cells : ∀ j, j < cap → (w.cell? ⟨b, j, none⟩).isSome = true ∧ w.frozen? ⟨b, j, none⟩ = false
  vals : ∀ j, j < xs.length → w.cell? ⟨b, j, none⟩ = some (.int k (xs.getD j 0))

theorem Buf.below {w w' : World} {b : Nat} {k : IntKind} {cap : Nat} {xs : List Int} (h : Buf w b k cap xs) (hb : Below w.heap.size w w') : Buf w' b k cap xs :=
  ⟨Nat.lt_of_lt_of_le h.lt hb.size, h.le, fun j hj => by rw [hb.cell (p := ⟨b, j, none⟩) h.lt, hb.frozen (p := ⟨b, j, none⟩) h.lt]; exact h.cells j hj,
    fun j hj => by rw [hb.cell (p := ⟨b, j, none⟩) h.lt]; exact h.vals j hj⟩
theorem Buf.nil {w : World} {b : Nat} {k : IntKind} {cap : Nat} {xs : List Int} (h : Buf w b k cap xs) : Buf w b k cap [] :=
  ⟨h.lt, Nat.zero_le _, h.cells, fun j hj => by simp at hj⟩
theorem Buf.row {w : World} {b : Nat} {k : IntKind} {cap : Nat} {xs : List Int} (h : Buf w b k cap xs) : Row w k (some ⟨b, 0, none⟩) xs :=
  Or.inr ⟨b, 0, rfl, h.lt, fun j hj => by rw [Nat.zero_add]; exact h.vals j hj⟩

theorem size_setCells (b : Nat) : ∀ (vs : List Value) (o : Nat) (w : World), (w.setCells b o vs).heap.size = w.heap.size
  | [], _, _ => rfl
  | v :: r, o, w => by rw [World.setCells, size_setCells b r (o + 1)]; simp
theorem below_setCells {B : Nat} {a : World} (b : Nat) (hB : B ≤ b) : ∀ (vs : List Value) (o : Nat) (w : World), Below B a w → Below B a (w.setCells b o vs)
  | [], _, _, h => h
  | v :: r, o, w, h => by rw [World.setCells]; exact below_setCells b hB r (o + 1) _ (h.setCell (p := ⟨b, o, none⟩) hB v)

theorem Buf.push {w : World} {b : Nat} {k : IntKind} {cap : Nat} {xs : List Int} (h : Buf w b k cap xs) (ys : List Int) (hl : xs.length + ys.length ≤ cap) :
    Buf (w.setCells b xs.length (ys.map (Value.int k))) b k cap (xs ++ ys) := by
  refine ⟨by rw [size_setCells]; exact h.lt, by simpa using hl, fun j hj => ?_, fun j hj => ?_⟩
  · rw [World.frozen?_setCells]
    refine ⟨?_, (h.cells j hj).2⟩
    by_cases hin : xs.length ≤ j ∧ j < xs.length + ys.length
    · obtain ⟨i, rfl⟩ : ∃ i, j = xs.length + i := ⟨j - xs.length, by omega⟩
      rw [World.cell?_setCells_in b _ _ _ (fun i hi => (h.cells _ (by simp at hi; omega)).1) i (by simp; omega)]
      rfl
    · rw [World.cell?_setCells_out b _ _ _ _ (fun _ _ => by simp; omega)]
      exact (h.cells j hj).1
  · simp only [List.length_append] at hj
    by_cases hin : xs.length ≤ j
    · obtain ⟨i, rfl⟩ : ∃ i, j = xs.length + i := ⟨j - xs.length, by omega⟩
      rw [World.cell?_setCells_in b _ _ _ (fun i hi => (h.cells _ (by simp at hi; omega)).1) i (by simp; omega)]
      simp [List.getD, show i < ys.length by omega]
    · rw [World.cell?_setCells_out b _ _ _ _ (fun _ _ => by simp; omega), h.vals j (by omega)]
      simp [List.getD, List.getElem?_append_left (show j < xs.length by omega)]

theorem Buf.alloc {w : World} {b : Nat} {k : IntKind} {cap : Nat} {xs : List Int} (h : Buf w b k cap xs) (o : Obj) : Buf (w.alloc o) b k cap xs :=
  h.below ((Below.refl _ _).alloc (Nat.le_refl _) _)

/-- append onto a buffer that has room: the law for the walk. -/
theorem wpList_push {P : Program} (w : World) {ops : Array Oper} {rest : List Oper} {o : Oper} {a : Act} {Q : Exit → Act → World → Prop}
    (hg : o.guard = none) (s x : Operand) (t : TypeId) (hop : o.op = Op.call { callee := Callee.builtin Builtin.append, args := #[s, x], argTypes := #[t, t] })
    (e : TypeId) (k : IntKind) (bytes : Nat) (h1 : P.underlying t = some (.slice e)) (hinfo : (P.info? e).map (fun i => (i.zero, i.size, i.bytes)) = some (some (.int k 0), 1, bytes)) (hby : bytes ≤ 8)
    (b cap : Nat) (xs : List Int) (hs : a.eval s = .slice (some ⟨b, 0, none⟩) xs.length cap) (hbuf : Buf w b k cap xs)
    (G m c : Nat) (ys : List Int) (hx : a.eval x = .slice (some ⟨G, 0, none⟩) m c) (hn : ys.length = m) (hc : ∀ j, j < m → w.cell? ⟨G, j, none⟩ = some (.int k (ys.getD j 0)))
    (hroom : xs.length + m ≤ cap) (hcap : cap ≤ 1000000)
    (hK : wpList P ops Q rest (a.put o.dst (.slice (some ⟨b, 0, none⟩) (xs.length + m) cap)) (w.setCells b xs.length (ys.map (Value.int k)))) :
    wpList P ops Q (o :: rest) a w := by
  obtain ⟨i0, hi, hz0, hz1, hz2⟩ := info_parts hinfo
  subst hn
  refine wpList_append_arg w hg s x t hop e i0 (.int k 0) 1 bytes h1 hi hz0 hz1 hz2 rfl (by decide) b 0 xs.length cap (xs.map (Value.int k)) hs (by simp) ?_ ⟨G, 0, none⟩ ys.length c (ys.map (Value.int k)) hx (by simp) ?_ ?_ ?_ (by unfold maxLen; omega) ?_ ?_ ?_
  · intro j u hj
    obtain ⟨hj', rfl⟩ := List.getElem?_eq_some_iff.1 hj
    simp only [List.length_map] at hj'
    rw [Nat.zero_add, hbuf.vals j hj']
    simp [List.getD, hj']
  · intro j u hj
    obtain ⟨hj', rfl⟩ := List.getElem?_eq_some_iff.1 hj
    simp only [List.length_map] at hj'
    rw [Addr.add_lit, Nat.zero_add, hc j hj']
    simp [List.getD, hj']
  · intro u hu
    obtain ⟨y, _, rfl⟩ := List.mem_map.1 hu
    rfl
  · intro _ j hj
    simp only [List.length_map] at hj
    have := hbuf.cells (xs.length + j) (by omega)
    simpa using this
  · have : (xs.length + ys.length) * bytes ≤ (xs.length + ys.length) * 8 := Nat.mul_le_mul_left _ hby
    omega
  · intro _
    have e : 0 + xs.length * 1 = xs.length := by omega
    rw [e]
    exact hK
  · intro h; omega

/-- the tables of utf8, where the world has grown. -/
theorem tabs_below {w w' : World} (h : Lib.Utf8Tabs 1 2 w) (hb : Below w.heap.size w w') : Lib.Utf8Tabs 1 2 w' := by
  have lt : ∀ {a : Addr} {v : Value}, w.cell? a = some v → a.block < w.heap.size := fun h => World.block_lt_of_cell? w _ h
  refine ⟨fun c hc => ?_, fun i hi => ⟨?_, ?_⟩⟩
  · rw [hb.cell (lt (h.1 c hc))]; exact h.1 c hc
  · rw [hb.cell (lt (h.2 i hi).1)]; exact (h.2 i hi).1
  · rw [hb.cell (lt (h.2 i hi).2)]; exact (h.2 i hi).2

def nums (l : List UInt8) : List Int := l.map fun x => (x.toNat : Int)
@[simp] theorem nums_length (l : List UInt8) : (nums l).length = l.length := by simp [nums]
theorem nums_getD (l : List UInt8) (j : Nat) (h : j < l.length) : (nums l).getD j 0 = ((l.getD j 0).toNat : Int) := by simp [nums, List.getD, h]

theorem get_mk (l : List UInt8) (i : Nat) : (ByteArray.mk l.toArray).get! i = l.getD i 0 := by
  show l.toArray[i]! = _
  simp [List.getD, getElem!_def]
  cases l[i]? <;> rfl
theorem decodeGo_eq (l : List UInt8) (h : l ≠ []) : Lib.decodeGo ⟨l.toArray⟩ = stepU l := by
  have hs : (ByteArray.mk l.toArray).size = l.length := by show l.toArray.size = _; simp
  have h0 : ¬ (ByteArray.mk l.toArray).size = 0 := by rw [hs]; simpa using h
  unfold Lib.decodeGo
  rw [if_neg h0, Lib.decode_at, hs, get_mk, get_mk, get_mk, get_mk]
  rfl

/-- DecodeRune of a row of bytes. -/
theorem decode_row (l : List UInt8) (h0 : l ≠ []) (p : Option Addr) (c : Nat) (w : World) (hT : Lib.Utf8Tabs 1 2 w) (hp : Row w .u8 p (nums l)) :
    Calls Tryd.prog 49 #[.slice p l.length c] w fun e w' => e = .returned (.tuple #[.int .i32 ((stepU l).1 : Nat), .int .i64 ((stepU l).2 : Nat)]) ∧ Below w.heap.size w w' := by
  rcases hp with hp | ⟨b, off, rfl, hlt, hc⟩
  · simp [nums] at hp; exact absurd hp h0
  · have := Tryd.utf8_DecodeRune ⟨l.toArray⟩ b off c w hT (fun j hj => by
      have hj' : j < l.length := by simpa [ByteArray.size] using hj
      rw [hc j (by simpa using hj'), nums_getD _ _ hj', get_mk])
    rw [decodeGo_eq l h0] at this
    rw [show (ByteArray.mk l.toArray).size = l.length from by simp [ByteArray.size]] at this
    exact this

theorem info_rune : (Tryd.prog.info? 21).map (fun i => (i.zero, i.size, i.bytes)) = some (some (.int .i32 0), 1, 4) := by kernel_rfl
theorem info_byte : (Tryd.prog.info? 5).map (fun i => (i.zero, i.size, i.bytes)) = some (some (.int .u8 0), 1, 1) := by kernel_rfl

/-- readFirst at a place that has no piece. -/
theorem readFirst_bad (l : List UInt8) (h0 : l ≠ []) (bad : ¬ okS l) (p : Option Addr) (c : Nat) (v : Value) (w : World) (hT : Lib.Utf8Tabs 1 2 w) (hp : Row w .u8 p (nums l)) :
    Calls Tryd.prog 31 #[v, .slice p l.length c] w fun e w' => e = .returned (.tuple #[v, .int .i64 0]) ∧ Below w.heap.size w w' := by
  have cD := Lib.hid (decode_row l h0 p c w hT hp)
  have hb : (stepU l).1 = 65533 ∧ (stepU l).2 < 2 := Classical.not_not.1 bad
  generalize stepU l = st at hb cD
  obtain ⟨r, k⟩ := st
  simp only at hb cD
  obtain ⟨rfl, hk⟩ := hb
  clear hT hp bad h0
  have hk2 : (k : Int) < 2 := by omega
  go_enter Tryd.func31, Tryd.ntmps31
  go_wp2_with fail
  refine cD.out.mono ?_
  rintro e w' ⟨rfl, hb⟩
  go_wp2
  go_ret2
  exact ⟨rfl, hb⟩

set_option maxHeartbeats 400000 in
/-- readFirst at a rune's bytes: the rune goes in behind what the buffer holds. -/
theorem readFirst_ok (l : List UInt8) (h0 : l ≠ []) (ok : okS l) (p : Option Addr) (c : Nat) (W w : World) (hT : Lib.Utf8Tabs 1 2 W) (hp : Row W .u8 p (nums l)) (hbw : Below W.heap.size W w)
    (b cap : Nat) (xs : List Int) (hB : W.heap.size ≤ b) (hbuf : Buf w b .i32 cap xs) (hroom : xs.length + 1 ≤ cap) (hcap : cap ≤ 1000000) :
    Calls Tryd.prog 31 #[.slice (some ⟨b, 0, none⟩) xs.length cap, .slice p l.length c] w fun e w' => e = .returned (.tuple #[.slice (some ⟨b, 0, none⟩) (xs.length + 1) cap, .int .i64 ((stepU l).2 : Nat)]) ∧
      Below W.heap.size W w' ∧ Buf w' b .i32 cap (xs ++ [((stepU l).1 : Int)]) := by
  have hsz := hbw.size
  have hlt := hbuf.lt
  have cD := Lib.hid (decode_row l h0 p c w (tabs_below hT hbw) (hp.below hbw))
  have hb : (stepU l).1 ≠ 65533 ∨ 2 ≤ (stepU l).2 := by unfold okS at ok; omega
  generalize stepU l = st at hb cD ⊢
  obtain ⟨r, k⟩ := st
  simp only at hb cD ⊢
  clear hT hp ok
  have HB := Lib.hid hbuf; clear hbuf
  have hcase : (r ≠ 65533) ∨ (r = 65533 ∧ ¬ (k : Int) < 2) := by omega
  clear hb
  rcases hcase with hr | ⟨rfl, hk⟩
  · have hr' : ((r : Int) == 65533) = false := by simp; omega
    go_enter Tryd.func31, Tryd.ntmps31
    go_wp2_with fail
    refine cD.out.mono ?_
    rintro e w1 ⟨rfl, hb1⟩
    have hs1 := hb1.size
    have B1 := Lib.hid (HB.out.below hb1)
    go_wp2_with (at_builtin; refine wpList_push _ rfl _ _ 24 rfl 21 .i32 4 Tryd.underlying24 info_rune (by decide) b cap xs rfl (B1.out.alloc _) w1.heap.size 1 1 [(r : Int)] rfl rfl ?c hroom hcap ?_)
    case c => intro j hj; obtain rfl : j = 0 := by omega
              simp
    go_ret2
    exact ⟨rfl, below_setCells b hB _ _ _ ((hbw.trans (hb1.mono hsz)).alloc (by omega) _), (B1.out.alloc _).push [(r : Int)] (by simpa using hroom)⟩
  · go_enter Tryd.func31, Tryd.ntmps31
    go_wp2_with fail
    refine cD.out.mono ?_
    rintro e w1 ⟨rfl, hb1⟩
    have hs1 := hb1.size
    have B1 := Lib.hid (HB.out.below hb1)
    go_wp2_with (at_builtin; refine wpList_push _ rfl _ _ 24 rfl 21 .i32 4 Tryd.underlying24 info_rune (by decide) b cap xs rfl (B1.out.alloc _) w1.heap.size 1 1 [(65533 : Int)] rfl rfl ?c hroom hcap ?_)
    case c => intro j hj; obtain rfl : j = 0 := by omega
              simp
    go_ret2
    exact ⟨rfl, below_setCells b hB _ _ _ ((hbw.trans (hb1.mono hsz)).alloc (by omega) _), (B1.out.alloc _).push [(65533 : Int)] (by simpa using hroom)⟩
end Go.Proofs.YtcocmmndonlhkaaDoor.Sc
namespace Go.Proofs.YtcocmmndonlhkaaDoor.Sc
open Go.RowKit Go.Gz

def CntRel (W : World) (rs : List Int) (v m : Value) (wr : World) : Prop := ∃ (k : Nat) (q : Option Addr) (d : Nat), k ≤ rs.length ∧ v = .slice q (encAll (rs.drop k)).length d ∧ (encAll (rs.drop k)).length ≤ d ∧
  Row W .u8 q (nums (encAll (rs.drop k))) ∧ m = .int .i64 k ∧ Below W.heap.size W wr ∧ Buf wr W.heap.size .i32 4 []

theorem row_skip {W : World} {k : IntKind} {b o d u : Nat} {xs ys : List Int} (h : Row W k (some ⟨b, o, none⟩) (xs ++ ys)) (hu : xs.length = u) (hd : u + ys.length ≤ d) :
    Row W k (if d = u then some ⟨b, o, none⟩ else some ⟨b, o + u, none⟩) ys := by
  by_cases e : d = u
  · exact Or.inl (List.eq_nil_of_length_eq_zero (by omega))
  · rw [if_neg e]
    rcases h with h | ⟨b', o', hp, hlt, hc⟩
    · exact Or.inl (List.append_eq_nil_iff.1 h).2
    · cases hp
      refine Or.inr ⟨b, o + u, rfl, hlt, fun j hj => ?_⟩
      rw [Nat.add_assoc, hc (u + j) (by simp; omega), ← hu]
      simp [List.getD, List.getElem?_append_right]
theorem row_at {W : World} {k : IntKind} {p : Option Addr} {xs : List Int} (h : Row W k p xs) (hx : xs ≠ []) : ∃ b o, p = some ⟨b, o, none⟩ ∧ b < W.heap.size := by
  rcases h with h | ⟨b, o, hp, hlt, _⟩
  · exact absurd h hx
  · exact ⟨b, o, hp, hlt⟩
theorem nums_append (a b : List UInt8) : nums (a ++ b) = nums a ++ nums b := by simp [nums]
theorem rs_le : ∀ rs : List Int, rs.length ≤ (encAll rs).length
  | [] => Nat.le_refl _
  | r :: rs => by
    have := rs_le rs
    have := (enc_length r).1
    simp; omega

theorem drop_cons {rs : List Int} {k : Nat} (h : k < rs.length) : ∃ r, rs.drop k = r :: rs.drop (k + 1) ∧ r ∈ rs :=
  ⟨rs[k], List.drop_eq_getElem_cons h, List.getElem_mem h⟩

theorem buf_array4 (W : World) (k : IntKind) (t : TypeId) : Buf (W.alloc (.cells #[.int k 0, .int k 0, .int k 0, .int k 0] t)) W.heap.size k 4 [] := by
  refine ⟨by simp, by simp, fun j hj => ?_, fun j hj => by simp at hj⟩
  match j, hj with
  | 0, _ => simp
  | 1, _ => simp
  | 2, _ => simp
  | 3, _ => simp

theorem count_ok (rs : List Int) (hv : ∀ r ∈ rs, V r) (p : Option Addr) (c : Nat) (W : World) (hT : Lib.Utf8Tabs 1 2 W) (hp : Row W .u8 p (nums (encAll rs))) (hl : (encAll rs).length ≤ 1000000) (hc : (encAll rs).length ≤ c) :
    Calls Tryd.prog 47 #[.slice p (encAll rs).length c, .func (.func 31) #[] #[]] W fun e w' => e = .returned (.tuple #[.int .i64 rs.length, .bool true]) ∧ Below W.heap.size W w' := by
  have hrs := rs_le rs
  have HP := Lib.hid hp; clear hp
  have HT := Lib.hid hT; clear hT
  have HV := Lib.hid hv; clear hv
  go_enter Tryd.func47, Tryd.ntmps47
  go_wp2_with fail
  go_loopw [0, 7] (fun v m wr => CntRel W rs v m wr) (fun _ m _ => rs.length - (intOf m).toNat)
  case atStart => exact ⟨0, p, c, Nat.zero_le _, rfl, hc, HP.out, rfl, (Below.refl _ _).alloc (Nat.le_refl _) _, buf_array4 W .i32 117⟩
  case round =>
    obtain ⟨k, q, d, hk, rfl, hd, hq, rfl, hb, hbuf⟩ := hrel
    by_cases hlt : k < rs.length
    · obtain ⟨r, hdr, hmem⟩ := drop_cons hlt
      have hvr : V r := HV.out r hmem
      rw [hdr, encAll_cons] at hq hd ⊢
      generalize hy : encAll (rs.drop (k + 1)) = y at hq hd ⊢
      have hy' := Lib.hid hy; clear hy
      have hdr' := Lib.hid hdr; clear hdr
      have he := enc_length r
      have hne : enc r ++ y ≠ [] := by have := enc_ne r; simp [this]
      have cF := readFirst_ok (enc r ++ y) hne (ok_enc hvr y) q d W wr HT.out hq hb W.heap.size 4 [] (Nat.le_refl _) hbuf (by simp) (by omega)
      rw [step_enc hvr] at cF
      simp only [List.length_nil, Nat.zero_add, List.nil_append] at cF
      have hn : (enc r ++ y).length = (enc r).length + y.length := by simp
      rw [hn] at cF hd ⊢
      generalize hu : (enc r).length = u at cF hd he hn ⊢
      have CF := Lib.hid cF; clear cF hn hne
      have hu' := Lib.hid hu; clear hu
      have hq' := Lib.hid hq; clear hq
      clear hbuf
      have hlt' : (0 : Int) < (u : Int) + (y.length : Int) := by omega
      have hu0 : ((u : Int) == 0) = false := by simp; omega
      obtain ⟨bq, oq, rfl, hbq⟩ := row_at hq'.out (by have := enc_ne r; simp [nums, this])
      go_wp2_with fail
      refine CF.out.mono ?_
      rintro e w1 ⟨rfl, hb1, hbuf1⟩
      go_wp2
      go_roundw
      case rel =>
        refine ⟨k + 1, (if d = u then some ⟨bq, oq, none⟩ else some ⟨bq, oq + u, none⟩), d - u, by omega, by rw [hy'.out], by rw [hy'.out]; omega, ?_, by go_num, hb1, hbuf1.nil⟩
        rw [hy'.out]
        have := hq'.out
        rw [nums_append] at this
        exact row_skip this (by rw [nums_length]; exact hu'.out) (by rw [nums_length]; exact hd)
      case measure => simp [intOf]; omega
    · obtain rfl : k = rs.length := by omega
      rw [List.drop_length] at hq ⊢
      simp only [encAll_nil, List.length_nil]
      go_wp2
      go_ret2
      exact ⟨rfl, hb⟩
def lenOf : Value → Nat | .slice _ n _ => n | _ => 0
def BadRel (W : World) (L : Nat) (v m : Value) (wr : World) : Prop := ∃ (t : List UInt8) (j : Nat) (q : Option Addr) (d : Nat), ¬ Txt t ∧ j + t.length ≤ L ∧ v = .slice q t.length d ∧ t.length ≤ d ∧
  Row W .u8 q (nums t) ∧ m = .int .i64 j ∧ Below W.heap.size W wr ∧ Buf wr W.heap.size .i32 4 []

theorem txt_nil : Txt [] := ⟨[], fun r hr => by simp at hr, rfl⟩

theorem count_bad (l : List UInt8) (hbad : ¬ Txt l) (p : Option Addr) (c : Nat) (W : World) (hT : Lib.Utf8Tabs 1 2 W) (hp : Row W .u8 p (nums l)) (hl : l.length ≤ 1000000) (hc : l.length ≤ c) :
    Calls Tryd.prog 47 #[.slice p l.length c, .func (.func 31) #[] #[]] W fun e w' => e = .returned (.tuple #[.int .i64 0, .bool false]) ∧ Below W.heap.size W w' := by
  have HP := Lib.hid hp; clear hp
  have HT := Lib.hid hT; clear hT
  have HB := Lib.hid hbad; clear hbad
  go_enter Tryd.func47, Tryd.ntmps47
  go_wp2_with fail
  go_loopw [0, 7] (fun v m wr => BadRel W l.length v m wr) (fun v _ _ => lenOf v)
  case atStart => exact ⟨l, 0, p, c, HB.out, by omega, rfl, hc, HP.out, rfl, (Below.refl _ _).alloc (Nat.le_refl _) _, buf_array4 W .i32 117⟩
  case round =>
    obtain ⟨t, k, q, d, ht, hk, rfl, hd, hq, rfl, hb, hbuf⟩ := hrel
    have hne : t ≠ [] := fun h => ht (h ▸ txt_nil)
    by_cases ok : okS t
    · obtain ⟨r, hvr, hl', hs⟩ := step_ok t hne ok
      have hty : ¬ Txt (t.drop (enc r).length) := fun h => ht (txt_back hne ok (by rw [hs]; exact h))
      clear ht
      have he := enc_length r
      have cF := readFirst_ok t hne ok q d W wr HT.out hq hb W.heap.size 4 [] (Nat.le_refl _) hbuf (by simp) (by omega)
      rw [hs] at cF
      generalize t.drop (enc r).length = y at hl' hty
      subst hl'
      simp only [List.length_nil, Nat.zero_add, List.nil_append] at cF
      have hn : (enc r ++ y).length = (enc r).length + y.length := by simp
      rw [hn] at cF hd hk ⊢
      generalize hu : (enc r).length = u at cF hd hk he hn ⊢
      have CF := Lib.hid cF; clear cF hn hne hs ok
      have hu' := Lib.hid hu; clear hu
      have hq' := Lib.hid hq; clear hq
      have hty' := Lib.hid hty; clear hty
      clear hbuf
      have hlt' : (0 : Int) < (u : Int) + (y.length : Int) := by omega
      have hu0 : ((u : Int) == 0) = false := by simp; omega
      obtain ⟨bq, oq, rfl, hbq⟩ := row_at hq'.out (by have := enc_ne r; simp [nums, this])
      go_wp2_with fail
      refine CF.out.mono ?_
      rintro e w1 ⟨rfl, hb1, hbuf1⟩
      go_wp2
      go_roundw
      case rel =>
        refine ⟨y, k + 1, (if d = u then some ⟨bq, oq, none⟩ else some ⟨bq, oq + u, none⟩), d - u, hty'.out, by omega, rfl, by omega, ?_, by go_num, hb1, hbuf1.nil⟩
        have := hq'.out
        rw [nums_append] at this
        exact row_skip this (by rw [nums_length]; exact hu'.out) (by rw [nums_length]; exact hd)
      case measure => simp [lenOf]; omega
    · have cF := readFirst_bad t hne ok q d (.slice (some ⟨W.heap.size, 0, none⟩) 0 4) wr (tabs_below HT.out hb) (hq.below hb)
      have CF := Lib.hid cF; clear cF
      have hpos : 0 < t.length := List.length_pos_iff.2 hne
      have hlt' : (0 : Int) < (t.length : Int) := by omega
      have hsz := hb.size
      clear hq hne ok ht hbuf
      go_wp2_with fail
      refine CF.out.mono ?_
      rintro e w1 ⟨rfl, hb1⟩
      go_wp2
      go_ret2
      exact ⟨rfl, hb.trans (hb1.mono hsz)⟩

/-- a slice that a call returned. -/
def RetRow (W : World) (k : IntKind) (xs : List Int) (e : Ending) (w' : World) : Prop :=
  ∃ p c, e = .returned (.slice p xs.length c) ∧ xs.length ≤ c ∧ Below W.heap.size W w' ∧ Row w' k p xs

theorem buf_of_owns {w : World} {base : Nat} {e : TypeId} {g cap : Nat} {k : IntKind} (h : w.ownsRow base e 1 (.slice (some ⟨g, 0, none⟩) 0 cap) 0 []) : Buf w g k cap [] := by
  obtain ⟨_, h | ⟨g', cap', cur, hv, _, hg, _, _, hs, _⟩⟩ := h
  · simp at h
  · simp only [Value.slice.injEq, Option.some.injEq, Addr.mk.injEq] at hv
    obtain ⟨⟨rfl, _, _⟩, _, rfl⟩ := hv
    refine ⟨(Array.getElem?_eq_some_iff.1 hg).1, by simp, fun j hj => ?_, fun j hj => by simp at hj⟩
    have hj' : j < cur.size := by omega
    simp [World.cell?, World.frozen?, hg, hj']

def FillRel (W : World) (rs : List Int) (v o : Value) (wr : World) : Prop := ∃ (k : Nat) (q : Option Addr) (d : Nat), k ≤ rs.length ∧ v = .slice q (encAll (rs.drop k)).length d ∧ (encAll (rs.drop k)).length ≤ d ∧
  Row W .u8 q (nums (encAll (rs.drop k))) ∧ o = .slice (some ⟨W.heap.size, 0, none⟩) k rs.length ∧ Below W.heap.size W wr ∧ Buf wr W.heap.size .i32 rs.length (rs.take k)

theorem fill_ok (rs : List Int) (hv : ∀ r ∈ rs, V r) (p : Option Addr) (c : Nat) (W : World) (hT : Lib.Utf8Tabs 1 2 W) (hp : Row W .u8 p (nums (encAll rs))) (hl : (encAll rs).length ≤ 1000000) (hc : (encAll rs).length ≤ c) :
    Calls Tryd.prog 48 #[.int .i64 rs.length, .slice p (encAll rs).length c, .func (.func 31) #[] #[]] W (RetRow W .i32 rs) := by
  have hrs := rs_le rs
  have HP := Lib.hid hp; clear hp
  have HT := Lib.hid hT; clear hT
  have HV := Lib.hid hv; clear hv
  obtain ⟨i0, hi, hz0, hz1, hz2⟩ := info_parts info_rune
  go_enter Tryd.func48, Tryd.ntmps48
  go_wp2_with (at_make; refine wpList_make_own _ rfl _ _ 24 rfl W.heap.size 21 i0 (.int .i32 0) 1 Tryd.underlying24 hi hz0 hz1 _ _ _ rs.length rfl rfl rfl ?by1 ?by2 (Nat.le_refl _) ?_)
  case by1 => rw [hz2]; omega
  case by2 => unfold maxLen; omega
  intro w1 hown hgrow
  have hb1 : Below W.heap.size W w1 := (Below.refl _ _).grown hgrow (Nat.le_refl _) (fun k hk => by cases hk)
  have hbuf1 := Lib.hid (buf_of_owns (k := .i32) hown)
  clear hown hgrow hi hz0 hz1 hz2
  go_wp2_with fail
  go_loopw [1, 7] (fun v m wr => FillRel W rs v m wr) (fun v _ _ => lenOf v)
  case atStart => exact ⟨0, p, c, Nat.zero_le _, rfl, hc, HP.out, rfl, hb1, hbuf1.out⟩
  case round =>
    clear hb1 hbuf1
    obtain ⟨k, q, d, hk, rfl, hd, hq, rfl, hb, hbuf⟩ := hrel
    by_cases hlt : k < rs.length
    · obtain ⟨r, hdr, hmem⟩ := drop_cons hlt
      have hvr : V r := HV.out r hmem
      have htk : (rs.take k).length = k := by simp; omega
      have hty : rs.take k ++ [(r.toNat : Int)] = rs.take (k + 1) := by
        rw [enc_toNat hvr]
        have : rs[k]? = some r := by
          have := congrArg (·[0]?) hdr
          simpa using this
        rw [List.take_add_one, this]; rfl
      rw [hdr, encAll_cons] at hq hd ⊢
      generalize hy : encAll (rs.drop (k + 1)) = y at hq hd ⊢
      have hy' := Lib.hid hy; clear hy
      have hdr' := Lib.hid hdr; clear hdr
      have he := enc_length r
      have hne : enc r ++ y ≠ [] := by have := enc_ne r; simp [this]
      have cF := readFirst_ok (enc r ++ y) hne (ok_enc hvr y) q d W wr HT.out hq hb W.heap.size rs.length (rs.take k) (Nat.le_refl _) hbuf (by omega) (by omega)
      rw [step_enc hvr] at cF
      simp only [htk] at cF
      rw [hty] at cF
      have hn : (enc r ++ y).length = (enc r).length + y.length := by simp
      rw [hn] at cF hd ⊢
      generalize hu : (enc r).length = u at cF hd he hn ⊢
      have CF := Lib.hid cF; clear cF hn hne hty htk
      have hu' := Lib.hid hu; clear hu
      have hq' := Lib.hid hq; clear hq
      clear hbuf
      have hlt' : (0 : Int) < (u : Int) + (y.length : Int) := by omega
      obtain ⟨bq, oq, rfl, hbq⟩ := row_at hq'.out (by have := enc_ne r; simp [nums, this])
      go_wp2_with fail
      refine CF.out.mono ?_
      rintro e w2 ⟨rfl, hb2, hbuf2⟩
      have HB2 := Lib.hid hbuf2; clear hbuf2
      go_wp2
      go_roundw
      case rel =>
        refine ⟨k + 1, (if d = u then some ⟨bq, oq, none⟩ else some ⟨bq, oq + u, none⟩), d - u, by omega, by rw [hy'.out], by rw [hy'.out]; omega, ?_, rfl, hb2, HB2.out⟩
        rw [hy'.out]
        have := hq'.out
        rw [nums_append] at this
        exact row_skip this (by rw [nums_length]; exact hu'.out) (by rw [nums_length]; exact hd)
      case measure => simp [lenOf]; omega
    · obtain rfl : k = rs.length := by omega
      rw [List.drop_length] at hq ⊢
      rw [List.take_length] at hbuf
      simp only [encAll_nil, List.length_nil]
      have HB2 := Lib.hid hbuf; clear hbuf
      go_wp2
      go_ret
      exact ⟨_, _, rfl, Nat.le_refl _, hb, HB2.out.row⟩
end Go.Proofs.YtcocmmndonlhkaaDoor.Sc
namespace Go.Proofs.YtcocmmndonlhkaaDoor.Sc
open Go.RowKit Go.Gz

/-- a slice and the number nought, that a call returned. -/
def RetRow0 (W : World) (k : IntKind) (xs : List Int) (e : Ending) (w' : World) : Prop :=
  ∃ p c, e = .returned (.tuple #[.slice p xs.length c, .int .i64 0]) ∧ xs.length ≤ c ∧ Below W.heap.size W w' ∧ Row w' k p xs

theorem turn_ok (rs : List Int) (hv : ∀ r ∈ rs, V r) (p : Option Addr) (c : Nat) (W : World) (hT : Lib.Utf8Tabs 1 2 W) (hp : Row W .u8 p (nums (encAll rs))) (hl : (encAll rs).length ≤ 1000000) (hc : (encAll rs).length ≤ c) :
    Calls Tryd.prog 30 #[.slice p (encAll rs).length c, .func (.func 31) #[] #[]] W (RetRow0 W .i32 rs) := by
  have C1 := Lib.hid (count_ok rs hv p c W hT hp hl hc)
  have C2 := Lib.hid fun w1 (hb : Below W.heap.size W w1) => fill_ok rs hv p c w1 (tabs_below hT hb) (hp.below hb) hl hc
  clear hp hT hv
  go_enter Tryd.func30, Tryd.ntmps30
  go_wp2_with fail
  refine C1.out.mono ?_
  rintro e w1 ⟨rfl, hb1⟩
  go_wp2_with fail
  refine (C2.out w1 hb1).mono ?_
  rintro e w2 ⟨q, d, rfl, hd, hb2, hr⟩
  have HR := Lib.hid hr; clear hr
  go_wp2
  go_ret2
  exact ⟨q, d, rfl, hd, hb1.trans (hb2.mono hb1.size), HR.out⟩

theorem turn_bad (l : List UInt8) (hbad : ¬ Txt l) (p : Option Addr) (c : Nat) (W : World) (hT : Lib.Utf8Tabs 1 2 W) (hp : Row W .u8 p (nums l)) (hl : l.length ≤ 1000000) (hc : l.length ≤ c) :
    Calls Tryd.prog 30 #[.slice p l.length c, .func (.func 31) #[] #[]] W fun e w' => e = .returned (.tuple #[.slice none 0 0, .int .i64 2]) ∧ Below W.heap.size W w' := by
  have C1 := Lib.hid (count_bad l hbad p c W hT hp hl hc)
  clear hp hT hbad
  go_enter Tryd.func30, Tryd.ntmps30
  go_wp2_with fail
  refine C1.out.mono ?_
  rintro e w1 ⟨rfl, hb1⟩
  go_wp2
  go_ret2
  exact ⟨rfl, hb1⟩

/-- '[]byte(s)': a new row of s's bytes. -/
theorem run_bytes (w : World) (s : ByteArray) : ∃ (c : Nat) (w' : World), (convert 9 22 (.string s)).run Tryd.prog w = .ok (.slice (some ⟨w.heap.size, 0, none⟩) s.size c) w' ∧
    Below w.heap.size w w' ∧ Row w' .u8 (some ⟨w.heap.size, 0, none⟩) (nums s.data.toList) ∧ s.size ≤ c := by
  refine ⟨_, _, run_bytes_of_string (P := Tryd.prog) w 9 22 5 s Tryd.underlying9 Tryd.underlying22 Tryd.underlying5, ((Below.refl _ _).drew).alloc (Nat.le_refl _) _, ?_, grownCap_ge _ _ _ _⟩
  refine Or.inr ⟨_, 0, rfl, by simp, fun j hj => ?_⟩
  have hj' : j < s.data.size := by simpa using hj
  rw [Nat.zero_add, nums_getD _ _ (by simpa using hj')]
  have hh : (w.drew.alloc (.cells (bytesRow s (grownCap w s.size 0 5)) 5 ((bytesRow s (grownCap w s.size 0 5)).size, (bytesRow s (grownCap w s.size 0 5)).size + 1))).heap[w.heap.size]? = some (.cells (bytesRow s (grownCap w s.size 0 5)) 5 ((bytesRow s (grownCap w s.size 0 5)).size, (bytesRow s (grownCap w s.size 0 5)).size + 1)) := by
    show (w.heap.push _)[w.heap.size]? = _
    simp
  simp only [World.cell?, hh]
  rw [bytesRow_at _ _ _ hj']
  simp only [List.getD, Array.getElem?_toList]
  rw [Array.getElem?_eq_getElem hj']
  rfl

theorem read_ok (rs : List Int) (hv : ∀ r ∈ rs, V r) (s : ByteArray) (hs : s.data.toList = encAll rs) (W : World) (hT : Lib.Utf8Tabs 1 2 W) (hl : s.size ≤ 1000000) :
    Calls Tryd.prog 21 #[.string s] W (RetRow0 W .i32 rs) := by
  obtain ⟨c, w1, hrun, hb1, hr, hc⟩ := run_bytes W s
  have hsz : s.size = (encAll rs).length := by rw [← hs]; simp
  rw [hs] at hr
  rw [hsz] at hrun hc hl
  have CT := Lib.hid (turn_ok rs hv _ c w1 (tabs_below hT hb1) hr hl hc)
  clear hs hr hT hv hsz
  go_enter Tryd.func21, Tryd.ntmps21
  go_wp2_with fail
  refine CT.out.mono ?_
  rintro e w2 ⟨q, d, rfl, hd, hb2, hr⟩
  have HR := Lib.hid hr; clear hr
  go_wp2
  go_ret2
  exact ⟨q, d, rfl, hd, hb1.trans (hb2.mono hb1.size), HR.out⟩

theorem read_bad (s : ByteArray) (hbad : ¬ Txt s.data.toList) (W : World) (hT : Lib.Utf8Tabs 1 2 W) (hl : s.size ≤ 1000000) :
    Calls Tryd.prog 21 #[.string s] W fun e w' => e = .returned (.tuple #[.slice none 0 0, .int .i64 2]) ∧ Below W.heap.size W w' := by
  obtain ⟨c, w1, hrun, hb1, hr, hc⟩ := run_bytes W s
  have hsz : s.size = s.data.toList.length := by simp
  rw [hsz] at hrun hc hl
  have CT := Lib.hid (turn_bad s.data.toList hbad _ c w1 (tabs_below hT hb1) hr hl hc)
  clear hr hT hbad hsz
  go_enter Tryd.func21, Tryd.ntmps21
  go_wp2_with fail
  refine CT.out.mono ?_
  rintro e w2 ⟨rfl, hb2⟩
  go_wp2
  go_ret2
  exact ⟨rfl, hb1.trans (hb2.mono hb1.size)⟩
end Go.Proofs.YtcocmmndonlhkaaDoor.Sc
namespace Go.Proofs.YtcocmmndonlhkaaDoor.Sc
open Go.RowKit Go.Gz

theorem enc_le4 : ∀ rs : List Int, (encAll rs).length ≤ 4 * rs.length
  | [] => Nat.le_refl _
  | r :: rs => by
    have := enc_le4 rs
    have := (enc_length r).2
    simp; omega

theorem take_more {rs : List Int} {k : Nat} {r : Int} (h : rs.drop k = r :: rs.drop (k + 1)) : rs.take (k + 1) = rs.take k ++ [r] := by
  have : rs[k]? = some r := by
    have := congrArg (·[0]?) h
    simpa using this
  rw [List.take_add_one, this]; rfl

theorem nums_one {r : Int} (h0 : 0 ≤ r) (h1 : r ≤ 127) : nums (enc r) = [r] := by
  rw [enc_one h0 h1]; simp only [nums, List.map_cons, List.map_nil]; rw [u8 _ (by omega) (by omega)]; simp; omega
theorem nums_two {r : Int} (h0 : 128 ≤ r) (h1 : r ≤ 2047) : nums (enc r) = [192 + r / 64, 128 + r % 64] := by
  rw [enc_two h0 h1]; simp only [nums, List.map_cons, List.map_nil]; rw [u8 _ (by omega) (by omega), u8 _ (by omega) (by omega)]
  rw [Int.toNat_of_nonneg (by omega), Int.toNat_of_nonneg (by omega)]
theorem nums_three {r : Int} (h : (2048 ≤ r ∧ r < 55296) ∨ (57343 < r ∧ r ≤ 65535)) : nums (enc r) = [224 + r / 4096, 128 + r / 64 % 64, 128 + r % 64] := by
  rw [enc_three h]; simp only [nums, List.map_cons, List.map_nil]; rw [u8 _ (by omega) (by omega), u8 _ (by omega) (by omega), u8 _ (by omega) (by omega)]
  rw [Int.toNat_of_nonneg (by omega), Int.toNat_of_nonneg (by omega), Int.toNat_of_nonneg (by omega)]
theorem nums_four {r : Int} (h0 : 65536 ≤ r) (h1 : r ≤ 1114111) : nums (enc r) = [240 + r / 262144, 128 + r / 4096 % 64, 128 + r / 64 % 64, 128 + r % 64] := by
  rw [enc_four h0 h1]; simp only [nums, List.map_cons, List.map_nil]; rw [u8 _ (by omega) (by omega), u8 _ (by omega) (by omega), u8 _ (by omega) (by omega), u8 _ (by omega) (by omega)]
  rw [Int.toNat_of_nonneg (by omega), Int.toNat_of_nonneg (by omega), Int.toNat_of_nonneg (by omega), Int.toNat_of_nonneg (by omega)]

/-- 'string(b)' of a row of bytes. -/
theorem run_string (w : World) (l : List UInt8) (p : Option Addr) (c : Nat) (hp : Row w .u8 p (nums l)) :
    (convert 22 9 (.slice p l.length c)).run Tryd.prog w = .ok (.string ⟨l.toArray⟩) w := by
  rcases hp with h | ⟨b, off, rfl, hlt, hc⟩
  · have : l = [] := by simpa [nums] using h
    subst this
    show (convert 22 9 (.slice p 0 c)).run Tryd.prog w = _
    rw [run_convert_bytes_string w 22 9 5 p 0 c Tryd.underlying22 Tryd.underlying5 Tryd.underlying9]
    cases p <;> simp [Conv.bytesToString, loadCells]
    all_goals rfl
  · exact run_convert_bytes_back w 22 9 5 ⟨b, off, none⟩ c l Tryd.underlying22 Tryd.underlying5 Tryd.underlying9 (fun j hj => by
      rw [Addr.add_lit, hc j (by simpa using hj), nums_getD _ _ hj]
      simp [List.getD, hj])
end Go.Proofs.YtcocmmndonlhkaaDoor.Sc
