/-
  Layer atlas: shards in memory; rows of numbers compared.
-/
import Derived.Test.YtodcnemnajlbdaaStRow
import Derived.Test.YtodcnemnajlbdaaAtMay
import Derived.Test.YtodcnemnajlbdaaQuietBelow
import Derived.Test.YtodcnemnajlbdaaSpWhole
import Derived.BigQuiet
import Derived.Laws.EntriesVeiled
import Derived.WalkSpells
import Derived.LoopTactic
import Derived.Deep.LoopGhost
namespace Go.Proofs.Ytodcnemnajlbdaa
open Go.RowKit Go.Gz

theorem mixedAt : Try.prog.follows .mixedOrders = true := by kernel_rfl
/-- a shard's cells. -/
def KS : SK Sd where
  cf x := [.string x.sp.f, .string x.sp.t, .int .i64 x.n, .int .i64 x.e]
  n := 4
  len _ := rfl
  one x u hu := by
    simp only [List.mem_cons, List.not_mem_nil, or_false] at hu
    rcases hu with rfl | rfl | rfl | rfl <;> rfl
  pos := by decide
def valSd (x : Sd) : Value := .agg #[.string x.sp.f, .string x.sp.t, .int .i64 x.n, .int .i64 x.e]
def zeroSd : Value := .agg #[.string ⟨#[]⟩, .string ⟨#[]⟩, .int .i64 0, .int .i64 0]
theorem skt_atlas : SKT Try.prog KS 40 24 zeroSd 48 := ⟨Try.underlying24, by kernel_rfl, by kernel_rfl, by decide⟩
theorem skt_ref : SKT Try.prog KS 53 45 zeroSd 48 := ⟨Try.underlying45, by kernel_rfl, by kernel_rfl, by decide⟩

/-- a span's cells. -/
def KP : SK SP where
  cf s := [.string s.f, .string s.t]
  n := 2
  len _ := rfl
  one s u hu := by
    simp only [List.mem_cons, List.not_mem_nil, or_false] at hu
    rcases hu with rfl | rfl <;> rfl
  pos := by decide
theorem skt_span : SKT Try.prog KP 38 60 (.agg #[.string ⟨#[]⟩, .string ⟨#[]⟩]) 32 := ⟨Try.underlying60, by kernel_rfl, by kernel_rfl, by decide⟩
theorem spans_of {w : World} {p : Option Addr} {ls : List SP} (h : RowK KP w p ls) : Spans w p ls := by
  rcases h with h | ⟨b, off, hp, hlt, hc⟩
  · exact Or.inl h
  · refine Or.inr ⟨b, off, hp, hlt, fun j hj => ?_⟩
    have e : ls[j]! = ls.getD j default := by rw [getElem!_pos ls j hj, List.getD, List.getElem?_eq_getElem hj]; rfl
    rw [e]
    exact ⟨hc j hj 0 (by decide), hc j hj 1 (by decide)⟩
theorem below_dn (w : World) (n : Nat) : Below w.heap.size w (w.drewN n) := ⟨rfl, rfl, rfl, Nat.le_refl _, fun _ _ => rfl⟩
set_option maxHeartbeats 1000000 in
/-- two rows of numbers: are they one? -/
theorem same_ints (X Y : List Int) (p q : Option Addr) (c d : Nat) (w : World) (hp : Row w .i64 p X) (hq : Row w .i64 q Y) (hX : X.length ≤ 1000000) (hY : Y.length ≤ 1000000) :
    Calls Try.prog 14 #[.slice p X.length c, .slice q Y.length d] w fun e w' => e = .returned (.bool (decide (X = Y))) ∧ Below w.heap.size w w' := by
  have HP := Lib.hid hp
  have HQ := Lib.hid hq
  obtain ⟨n, hn⟩ : ∃ n, X.length = n := ⟨_, rfl⟩
  obtain ⟨m, hm⟩ : ∃ m, Y.length = m := ⟨_, rfl⟩
  have HN := Lib.hid hn
  have HM := Lib.hid hm
  rw [hn] at hX ⊢
  rw [hm] at hY ⊢
  have HF := Lib.hid (show n ≠ m → decide (X = Y) = false from fun h => decide_eq_false fun e => h (by rw [← hn, ← hm, e]))
  clear hp hq hn hm
  go_enter Try.func14, Try.ntmps14
  by_cases hnm : n = m
  · subst hnm
    go_wp2_with fail
    go_loopg [5] n (fun gg s5 wr => ∃ kk : Nat, kk ≤ n ∧ n - kk ≤ gg ∧ s5 = .int .i64 kk ∧ Hid (Below w.heap.size w wr) ∧ Hid (X.take kk = Y.take kk))
    case atStart => exact ⟨0, Nat.zero_le _, by omega, rfl, Lib.hid (Below.refl _ w), Lib.hid rfl⟩
    case round =>
      obtain ⟨kk, hkk, hg, rfl, BW, A⟩ := hrel
      by_cases hlt : kk < n
      · have hltz : (kk : Int) < (n : Int) := by omega
        obtain ⟨b, o, rfl, hbl, c1⟩ := row_cell HP.out BW.out (show kk < X.length by rw [HN.out]; exact hlt)
        obtain ⟨b2, o2, rfl, hbl2, c2⟩ := row_cell HQ.out BW.out (show kk < Y.length by rw [HM.out]; exact hlt)
        obtain ⟨x, hx⟩ : ∃ x, X.getD kk 0 = x := ⟨_, rfl⟩
        obtain ⟨y, hy⟩ : ∃ y, Y.getD kk 0 = y := ⟨_, rfl⟩
        rw [hx] at c1
        rw [hy] at c2
        have HX := Lib.hid hx
        have HY := Lib.hid hy
        clear hx hy
        have HT := Lib.hid (show X.take (kk + 1) = Y.take (kk + 1) ↔ x = y by
          have h1 : kk < X.length := by rw [HN.out]; exact hlt
          have h2 : kk < Y.length := by rw [HM.out]; exact hlt
          rw [List.take_succ_eq_append_getElem h1, List.take_succ_eq_append_getElem h2, A.out, List.append_cancel_left_eq, List.cons.injEq, ← HX.out, ← HY.out]
          simp [List.getD, h1, h2])
        have hpos : (0 : Int) ≤ (kk : Int) := by omega
        have HXF := Lib.hid (show x ≠ y → decide (X = Y) = false from fun h => decide_eq_false fun e => h (HT.out.1 (by rw [e])))
        by_cases hxy : x = y
        · have hxd : decide (x = y) = true := decide_eq_true hxy
          subst hxy
          go_wp2_with fail
          go_quiet (fail)
          go_wp2_with fail
          go_roundg (n - (kk + 1))
          case measure => omega
          case rel => exact ⟨kk + 1, by omega, by omega, by go_num, Lib.hid (BW.out.trans ((below_dn _ _).mono BW.out.size)), Lib.hid (HT.out.2 (by simp))⟩
        · go_wp2_with fail
          go_quiet (fail)
          go_wp2_with fail
          go_ret
          exact ⟨by rw [HXF.out hxy]; rfl, BW.out.trans ((below_dn _ _).mono BW.out.size)⟩
      · have hltz : ¬ (kk : Int) < (n : Int) := by omega
        obtain rfl : kk = n := by omega
        have HXT := Lib.hid (show decide (X = Y) = true by
          have := A.out
          rw [List.take_of_length_le (by rw [HN.out]; exact Nat.le_refl _), List.take_of_length_le (by rw [HM.out]; exact Nat.le_refl _)] at this
          exact decide_eq_true this)
        go_wp2_with fail
        go_ret
        exact ⟨by rw [HXT.out]; rfl, BW.out⟩
  · have hz : ¬ (n : Int) = (m : Int) := by omega
    go_wp2_with fail
    go_ret
    exact ⟨by rw [HF.out hnm]; rfl, Below.refl _ _⟩

/-- the cells of a boxed atlas. -/
def BoxA (W : World) (b : Nat) (ep : Int) (v : Value) : Prop := b < W.heap.size ∧ W.cell? ⟨b, 0, none⟩ = some (.int .i64 ep) ∧ W.cell? ⟨b, 1, none⟩ = some v
theorem BoxA.below {W w : World} {b : Nat} {ep : Int} {v : Value} (h : BoxA W b ep v) (hb : Below W.heap.size W w) : BoxA w b ep v :=
  ⟨Nat.lt_of_lt_of_le h.1 hb.size, by rw [hb.cell (p := ⟨b, 0, none⟩) h.1]; exact h.2.1, by rw [hb.cell (p := ⟨b, 1, none⟩) h.1]; exact h.2.2⟩
theorem BoxA.new (w : World) (ep : Int) (v : Value) (t : TypeId) : BoxA (w.alloc (.cells #[.int .i64 ep, v] t)) w.heap.size ep v := ⟨by simp, by simp, by simp⟩
theorem below_alloc (w : World) (x : Obj) : Below w.heap.size w (w.alloc x) := (Below.refl _ _).alloc (Nat.le_refl _) _

/-- what a call that answers an atlas of the same shards gives. -/
def RetA (w : World) (t : TypeId) (ep : Int) (L : List Sd) (e : Ending) (w' : World) : Prop := ∃ v, e = .returned (.agg #[.int .i64 ep, v]) ∧ OwnK KS w' w.heap.size t v L ∧ Below w.heap.size w w'
/-- .. as far as it has come. -/
structure MdI (w0 : World) (t : TypeId) (ep : Int) (o : Nat) (L : List Sd) (k : Nat) (wr : World) : Prop where
  kept : KeptF (fun j => j = o) w0 wr
  row : ∃ v, wr.heap[o]? = some (.cells #[.int .i64 ep, v] 26 (0, 0)) ∧ OwnK KS wr w0.heap.size t v (L.take k)
end Go.Proofs.Ytodcnemnajlbdaa
