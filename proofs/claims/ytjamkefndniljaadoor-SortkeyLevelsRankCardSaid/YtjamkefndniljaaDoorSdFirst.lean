/-
  A buffer with room (an array's cells, or what make laid), and the two functions that scalar's generic loops call: readFirst, writeFirst, onto such a buffer.
-/
import Derived.Test.YtjamkefndniljaaDoorSdBase
import Derived.ArgAppend
namespace Go.Proofs.YtjamkefndniljaaDoor.Sc
open Go.RowKit Go.Gz

/-- block b: its first cap cells may be written, and the first of them hold xs. -/
structure Buf (w : World) (b : Nat) (k : IntKind) (cap : Nat) (xs : List Int) : Prop where
  lt : b < w.heap.size
  le : xs.length ≤ cap
  cells : ∀ j, j < cap → (w.cell? ⟨b, j, none⟩).isSome = true ∧ w.frozen? ⟨b, j, none⟩ = false
  vals : ∀ j, j < xs.length → w.cell? ⟨b, j, none⟩ = some (.int k (xs.getD j 0))

theorem Buf.below {w w' : World} {b : Nat} {k : IntKind} {cap : Nat} {xs : List Int} (h : Buf w b k cap xs) (hb : Below w.heap.size w w') : Buf w' b k cap xs :=
  ⟨Nat.lt_of_lt_of_le h.lt hb.size, h.le, fun j hj => by rw [hb.cell (p := ⟨b, j, none⟩) h.lt, hb.frozen (p := ⟨b, j, none⟩) h.lt]; exact h.cells j hj,
    fun j hj => by rw [hb.cell (p := ⟨b, j, none⟩) h.lt]; exact h.vals j hj⟩
theorem Buf.nil {w : World} {b : Nat} {k : IntKind} {cap : Nat} {xs : List Int} (h : Buf w b k cap xs) : Buf w b k cap [] :=
  ⟨h.lt, Nat.zero_le _, h.cells, fun j hj => by simp at hj⟩
theorem Buf.row {w : World} {b : Nat} {k : IntKind} {cap : Nat} {xs : List Int} (h : Buf w b k cap xs) : Row w k (some ⟨b, 0, none⟩) xs :=
  Or.inr ⟨b, 0, rfl, h.lt, fun j hj => by rw [Nat.zero_add]; exact h.vals j hj⟩

theorem size_setCells (b : Nat) : ∀ (vs : List Value) (o : Nat) (w : World), (w.setCells b o vs).heap.size = w.heap.size
  | [], _, _ => rfl
  | v :: r, o, w => by rw [World.setCells, size_setCells b r (o + 1)]; simp
theorem below_setCells {B : Nat} {a : World} (b : Nat) (hB : B ≤ b) : ∀ (vs : List Value) (o : Nat) (w : World), Below B a w → Below B a (w.setCells b o vs)
  | [], _, _, h => h
  | v :: r, o, w, h => by rw [World.setCells]; exact below_setCells b hB r (o + 1) _ (h.setCell (p := ⟨b, o, none⟩) hB v)

theorem Buf.push {w : World} {b : Nat} {k : IntKind} {cap : Nat} {xs : List Int} (h : Buf w b k cap xs) (ys : List Int) (hl : xs.length + ys.length ≤ cap) :
    Buf (w.setCells b xs.length (ys.map (Value.int k))) b k cap (xs ++ ys) := by
  refine ⟨by rw [size_setCells]; exact h.lt, by simpa using hl, fun j hj => ?_, fun j hj => ?_⟩
  · rw [World.frozen?_setCells]
    refine ⟨?_, (h.cells j hj).2⟩
    by_cases hin : xs.length ≤ j ∧ j < xs.length + ys.length
    · obtain ⟨i, rfl⟩ : ∃ i, j = xs.length + i := ⟨j - xs.length, by omega⟩
      rw [World.cell?_setCells_in b _ _ _ (fun i hi => (h.cells _ (by simp at hi; omega)).1) i (by simp; omega)]
      rfl
    · rw [World.cell?_setCells_out b _ _ _ _ (fun _ _ => by simp; omega)]
      exact (h.cells j hj).1
  · simp only [List.length_append] at hj
    by_cases hin : xs.length ≤ j
    · obtain ⟨i, rfl⟩ : ∃ i, j = xs.length + i := ⟨j - xs.length, by omega⟩
      rw [World.cell?_setCells_in b _ _ _ (fun i hi => (h.cells _ (by simp at hi; omega)).1) i (by simp; omega)]
      simp [List.getD, show i < ys.length by omega]
    · rw [World.cell?_setCells_out b _ _ _ _ (fun _ _ => by simp; omega), h.vals j (by omega)]
      simp [List.getD, List.getElem?_append_left (show j < xs.length by omega)]

theorem Buf.alloc {w : World} {b : Nat} {k : IntKind} {cap : Nat} {xs : List Int} (h : Buf w b k cap xs) (o : Obj) : Buf (w.alloc o) b k cap xs :=
  h.below ((Below.refl _ _).alloc (Nat.le_refl _) _)

/-- append onto a buffer that has room: the law for the walk. -/
theorem wpList_push {P : Program} (w : World) {ops : Array Oper} {rest : List Oper} {o : Oper} {a : Act} {Q : Exit → Act → World → Prop}
    (hg : o.guard = none) (s x : Operand) (t : TypeId) (hop : o.op = Op.call { callee := Callee.builtin Builtin.append, args := #[s, x], argTypes := #[t, t] })
    (e : TypeId) (k : IntKind) (bytes : Nat) (h1 : P.underlying t = some (.slice e)) (hinfo : (P.info? e).map (fun i => (i.zero, i.size, i.bytes)) = some (some (.int k 0), 1, bytes)) (hby : bytes ≤ 8)
    (b cap : Nat) (xs : List Int) (hs : a.eval s = .slice (some ⟨b, 0, none⟩) xs.length cap) (hbuf : Buf w b k cap xs)
    (G m c : Nat) (ys : List Int) (hx : a.eval x = .slice (some ⟨G, 0, none⟩) m c) (hn : ys.length = m) (hc : ∀ j, j < m → w.cell? ⟨G, j, none⟩ = some (.int k (ys.getD j 0)))
    (hroom : xs.length + m ≤ cap) (hcap : cap ≤ 1000000)
    (hK : wpList P ops Q rest (a.put o.dst (.slice (some ⟨b, 0, none⟩) (xs.length + m) cap)) (w.setCells b xs.length (ys.map (Value.int k)))) :
    wpList P ops Q (o :: rest) a w := by
  obtain ⟨i0, hi, hz0, hz1, hz2⟩ := info_parts hinfo
  subst hn
  refine wpList_append_arg w hg s x t hop e i0 (.int k 0) 1 bytes h1 hi hz0 hz1 hz2 rfl (by decide) b 0 xs.length cap (xs.map (Value.int k)) hs (by simp) ?_ ⟨G, 0, none⟩ ys.length c (ys.map (Value.int k)) hx (by simp) ?_ ?_ ?_ (by unfold maxLen; omega) ?_ ?_ ?_
  · intro j u hj
    obtain ⟨hj', rfl⟩ := List.getElem?_eq_some_iff.1 hj
    simp only [List.length_map] at hj'
    rw [Nat.zero_add, hbuf.vals j hj']
    simp [List.getD, hj']
  · intro j u hj
    obtain ⟨hj', rfl⟩ := List.getElem?_eq_some_iff.1 hj
    simp only [List.length_map] at hj'
    rw [Addr.add_lit, Nat.zero_add, hc j hj']
    simp [List.getD, hj']
  · intro u hu
    obtain ⟨y, _, rfl⟩ := List.mem_map.1 hu
    rfl
  · intro _ j hj
    simp only [List.length_map] at hj
    have := hbuf.cells (xs.length + j) (by omega)
    simpa using this
  · have : (xs.length + ys.length) * bytes ≤ (xs.length + ys.length) * 8 := Nat.mul_le_mul_left _ hby
    omega
  · intro _
    have e : 0 + xs.length * 1 = xs.length := by omega
    rw [e]
    exact hK
  · intro h; omega

/-- the tables of utf8, where the world has grown. -/
theorem tabs_below {w w' : World} (h : Lib.Utf8Tabs 1 2 w) (hb : Below w.heap.size w w') : Lib.Utf8Tabs 1 2 w' := by
  have lt : ∀ {a : Addr} {v : Value}, w.cell? a = some v → a.block < w.heap.size := fun h => World.block_lt_of_cell? w _ h
  refine ⟨fun c hc => ?_, fun i hi => ⟨?_, ?_⟩⟩
  · rw [hb.cell (lt (h.1 c hc))]; exact h.1 c hc
  · rw [hb.cell (lt (h.2 i hi).1)]; exact (h.2 i hi).1
  · rw [hb.cell (lt (h.2 i hi).2)]; exact (h.2 i hi).2

def nums (l : List UInt8) : List Int := l.map fun x => (x.toNat : Int)
@[simp] theorem nums_length (l : List UInt8) : (nums l).length = l.length := by simp [nums]
theorem nums_getD (l : List UInt8) (j : Nat) (h : j < l.length) : (nums l).getD j 0 = ((l.getD j 0).toNat : Int) := by simp [nums, List.getD, h]

theorem get_mk (l : List UInt8) (i : Nat) : (ByteArray.mk l.toArray).get! i = l.getD i 0 := by
  show l.toArray[i]! = _
  simp [List.getD, getElem!_def]
  cases l[i]? <;> rfl
theorem decodeGo_eq (l : List UInt8) (h : l ≠ []) : Lib.decodeGo ⟨l.toArray⟩ = stepU l := by
  have hs : (ByteArray.mk l.toArray).size = l.length := by show l.toArray.size = _; simp
  have h0 : ¬ (ByteArray.mk l.toArray).size = 0 := by rw [hs]; simpa using h
  unfold Lib.decodeGo
  rw [if_neg h0, Lib.decode_at, hs, get_mk, get_mk, get_mk, get_mk]
  rfl

/-- DecodeRune of a row of bytes. -/
theorem decode_row (l : List UInt8) (h0 : l ≠ []) (p : Option Addr) (c : Nat) (w : World) (hT : Lib.Utf8Tabs 1 2 w) (hp : Row w .u8 p (nums l)) :
    Calls Tryd.prog 47 #[.slice p l.length c] w fun e w' => e = .returned (.tuple #[.int .i32 ((stepU l).1 : Nat), .int .i64 ((stepU l).2 : Nat)]) ∧ Below w.heap.size w w' := by
  rcases hp with hp | ⟨b, off, rfl, hlt, hc⟩
  · simp [nums] at hp; exact absurd hp h0
  · have := Tryd.utf8_DecodeRune ⟨l.toArray⟩ b off c w hT (fun j hj => by
      have hj' : j < l.length := by simpa [ByteArray.size] using hj
      rw [hc j (by simpa using hj'), nums_getD _ _ hj', get_mk])
    rw [decodeGo_eq l h0] at this
    rw [show (ByteArray.mk l.toArray).size = l.length from by simp [ByteArray.size]] at this
    exact this

theorem info_rune : (Tryd.prog.info? 21).map (fun i => (i.zero, i.size, i.bytes)) = some (some (.int .i32 0), 1, 4) := by kernel_rfl
theorem info_byte : (Tryd.prog.info? 5).map (fun i => (i.zero, i.size, i.bytes)) = some (some (.int .u8 0), 1, 1) := by kernel_rfl

/-- readFirst at a place that has no piece. -/
theorem readFirst_bad (l : List UInt8) (h0 : l ≠ []) (bad : ¬ okS l) (p : Option Addr) (c : Nat) (v : Value) (w : World) (hT : Lib.Utf8Tabs 1 2 w) (hp : Row w .u8 p (nums l)) :
    Calls Tryd.prog 28 #[v, .slice p l.length c] w fun e w' => e = .returned (.tuple #[v, .int .i64 0]) ∧ Below w.heap.size w w' := by
  have cD := Lib.hid (decode_row l h0 p c w hT hp)
  have hb : (stepU l).1 = 65533 ∧ (stepU l).2 < 2 := Classical.not_not.1 bad
  generalize stepU l = st at hb cD
  obtain ⟨r, k⟩ := st
  simp only at hb cD
  obtain ⟨rfl, hk⟩ := hb
  clear hT hp bad h0
  have hk2 : (k : Int) < 2 := by omega
  go_enter Tryd.func28, Tryd.ntmps28
  go_wp2_with fail
  refine cD.out.mono ?_
  rintro e w' ⟨rfl, hb⟩
  go_wp2
  go_ret2
  exact ⟨rfl, hb⟩

set_option maxHeartbeats 400000 in
/-- readFirst at a rune's bytes: the rune goes in behind what the buffer holds. -/
theorem readFirst_ok (l : List UInt8) (h0 : l ≠ []) (ok : okS l) (p : Option Addr) (c : Nat) (W w : World) (hT : Lib.Utf8Tabs 1 2 W) (hp : Row W .u8 p (nums l)) (hbw : Below W.heap.size W w)
    (b cap : Nat) (xs : List Int) (hB : W.heap.size ≤ b) (hbuf : Buf w b .i32 cap xs) (hroom : xs.length + 1 ≤ cap) (hcap : cap ≤ 1000000) :
    Calls Tryd.prog 28 #[.slice (some ⟨b, 0, none⟩) xs.length cap, .slice p l.length c] w fun e w' => e = .returned (.tuple #[.slice (some ⟨b, 0, none⟩) (xs.length + 1) cap, .int .i64 ((stepU l).2 : Nat)]) ∧
      Below W.heap.size W w' ∧ Buf w' b .i32 cap (xs ++ [((stepU l).1 : Int)]) := by
  have hsz := hbw.size
  have hlt := hbuf.lt
  have cD := Lib.hid (decode_row l h0 p c w (tabs_below hT hbw) (hp.below hbw))
  have hb : (stepU l).1 ≠ 65533 ∨ 2 ≤ (stepU l).2 := by unfold okS at ok; omega
  generalize stepU l = st at hb cD ⊢
  obtain ⟨r, k⟩ := st
  simp only at hb cD ⊢
  clear hT hp ok
  have HB := Lib.hid hbuf; clear hbuf
  have hcase : (r ≠ 65533) ∨ (r = 65533 ∧ ¬ (k : Int) < 2) := by omega
  clear hb
  rcases hcase with hr | ⟨rfl, hk⟩
  · have hr' : ((r : Int) == 65533) = false := by simp; omega
    go_enter Tryd.func28, Tryd.ntmps28
    go_wp2_with fail
    refine cD.out.mono ?_
    rintro e w1 ⟨rfl, hb1⟩
    have hs1 := hb1.size
    have B1 := Lib.hid (HB.out.below hb1)
    go_wp2_with (at_builtin; refine wpList_push _ rfl _ _ 24 rfl 21 .i32 4 Tryd.underlying24 info_rune (by decide) b cap xs rfl (B1.out.alloc _) w1.heap.size 1 1 [(r : Int)] rfl rfl ?c hroom hcap ?_)
    case c => intro j hj; obtain rfl : j = 0 := by omega
              simp
    go_ret2
    exact ⟨rfl, below_setCells b hB _ _ _ ((hbw.trans (hb1.mono hsz)).alloc (by omega) _), (B1.out.alloc _).push [(r : Int)] (by simpa using hroom)⟩
  · go_enter Tryd.func28, Tryd.ntmps28
    go_wp2_with fail
    refine cD.out.mono ?_
    rintro e w1 ⟨rfl, hb1⟩
    have hs1 := hb1.size
    have B1 := Lib.hid (HB.out.below hb1)
    go_wp2_with (at_builtin; refine wpList_push _ rfl _ _ 24 rfl 21 .i32 4 Tryd.underlying24 info_rune (by decide) b cap xs rfl (B1.out.alloc _) w1.heap.size 1 1 [(65533 : Int)] rfl rfl ?c hroom hcap ?_)
    case c => intro j hj; obtain rfl : j = 0 := by omega
              simp
    go_ret2
    exact ⟨rfl, below_setCells b hB _ _ _ ((hbw.trans (hb1.mono hsz)).alloc (by omega) _), (B1.out.alloc _).push [(65533 : Int)] (by simpa using hroom)⟩
end Go.Proofs.YtjamkefndniljaaDoor.Sc
