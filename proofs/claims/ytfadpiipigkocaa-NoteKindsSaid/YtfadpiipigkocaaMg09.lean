/-
  Several texts in one: PcAwake, OnSmall, OnArgs, StRow.
-/
import Derived.Test.YtfadpiipigkocaaMg06
import Derived.Test.YtfadpiipigkocaaMg08
import Derived.LoopTactic
import Derived.Deep.CutRange
import Derived.Test.YtfadpiipigkocaaMg07
import Derived.Maps.AppendAt
import Derived.Laws.OwnMore
import Derived.OwnWalk
namespace Go.Proofs.Ytfadpiipigkocaa
open Go.RowKit

/-- a truth is answered, and where it is yes there are few records. -/
def RetSm (n : Nat) (w : World) (e : Ending) (w' : World) : Prop := ∃ b, e = .returned (.bool b) ∧ (b = true → n ≤ 300) ∧ Below w.heap.size w w'
set_option maxHeartbeats 2000000 in
theorem smallReply_any (r : RepL) (p : Option Addr) (cap : Nat) (w : World) (hl : r.ls.length ≤ 9223372036854775807) (hp : Recs w p r.ls) :
    Calls Try.prog 13 #[repV r p cap] w (RetSm r.ls.length w) := by
  obtain ⟨c, s, er, fd, v, ls, nx, mr⟩ := r
  unfold repV
  simp only at hl hp ⊢
  have HP := Lib.hid hp
  obtain ⟨n, hN⟩ : ∃ n, ls.length = n := ⟨_, rfl⟩
  rw [hN] at hl ⊢
  have HN := Lib.hid hN
  have hnz : (n : Int) ≤ 9223372036854775807 := by omega
  have HB := Lib.hid (show Below w.heap.size w (w.alloc (.cells #[.int .i64 c, .int .i64 s, .int .i64 er, .bool fd, .string (strB v), .slice p n cap, .string (strB nx), .bool mr] 27)) from (Below.refl _ _).alloc (Nat.le_refl _) _)
  have HC := Lib.hid (fun i => box_cells (Below.refl (w.heap.size + 1) (w.alloc (.cells #[.int .i64 c, .int .i64 s, .int .i64 er, .bool fd, .string (strB v), .slice p n cap, .string (strB nx), .bool mr] 27))) i)
  generalize strB v = v at HB HC ⊢
  generalize strB nx = nx at HB HC ⊢
  clear hp hN hl
  go_enter Try.func13, Try.ntmps13
  go_wp2_with fail
  obtain ⟨W, hW⟩ : ∃ W, w.alloc (.cells #[.int .i64 c, .int .i64 s, .int .i64 er, .bool fd, .string v, .slice p n cap, .string nx, .bool mr] 27) = W := ⟨_, rfl⟩
  rw [hW] at HB HC ⊢
  clear hW
  go_loopw [3, 4] (fun x i wr => ∃ (k : Nat) (z : Int), k ≤ n ∧ i = .int .i64 k ∧ x = .int .i64 z ∧ Hid (∃ m, wr = W.drewN m)) (fun _ i _ => n - (RowKit.intOf i).toNat)
  case atStart => exact ⟨0, _, Nat.zero_le _, rfl, rfl, Lib.hid ⟨0, rfl⟩⟩
  case round =>
    obtain ⟨k, z, hk, rfl, rfl, HM⟩ := hrel
    obtain ⟨m, rfl⟩ := HM.out
    have c5 := HC.out 5
    by_cases hlt : k < n
    · have hltz : (k : Int) < (n : Int) := by omega
      obtain ⟨b, o, hpe, hbl, r1, r2⟩ := rec_cell HP.out HB.out (show k < ls.length by rw [HN.out]; exact hlt)
      subst hpe
      generalize strB (ls.getD k ([], [])).1 = s1 at r1
      generalize strB (ls.getD k ([], [])).2 = s2 at r2
      go_wp2_with fail
      go_quiet (fail)
      go_wp2_with fail
      go_roundw
      case rel => exact ⟨k + 1, _, by omega, by go_num, rfl, Lib.hid ⟨_, rfl⟩⟩
      case measure => simp [RowKit.intOf]; omega
    · obtain rfl : k = n := by omega
      have hltz : ¬ (k : Int) < (k : Int) := by omega
      have HB2 := Lib.hid (below_drewN HB.out m)
      by_cases h3 : k ≤ 300
      · have h3z : decide ((k : Int) ≤ 300) = true := by simp; omega
        go_wp2_with fail
        go_ret
        exact ⟨_, rfl, fun _ => h3, HB2.out⟩
      · have h3z : decide ((k : Int) ≤ 300) = false := by simp; omega
        go_wp2_with fail
        go_ret
        exact ⟨_, rfl, (fun h => by cases h), HB2.out⟩
end Go.Proofs.Ytfadpiipigkocaa
namespace Go.Proofs.Ytfadpiipigkocaa
open Go.RowKit Go.Gz

/-- slice pointer p reads in w as the replies of X. -/
def RowP (w : World) (p : Option Addr) (X : List Ent) : Prop :=
  X = [] ∨ ∃ b off, p = some ⟨b, off, none⟩ ∧ b < w.heap.size ∧ ∀ j, j < X.length → ∀ i, i < 8 → w.cell? ⟨b, off + j * 8 + i, none⟩ = (X.getD j default).list[i + 1]?
theorem RowP.below {w w' : World} {p : Option Addr} {L : List Ent} (h : RowP w p L) (hb : Below w.heap.size w w') : RowP w' p L := by
  rcases h with h | ⟨b, off, hp, hlt, hc⟩
  · exact Or.inl h
  · exact Or.inr ⟨b, off, hp, Nat.lt_of_lt_of_le hlt hb.size, fun j hj i hi => by rw [hb.cell (p := ⟨b, off + j * 8 + i, none⟩) hlt]; exact hc j hj i hi⟩
theorem rep_cells {W wr : World} {p : Option Addr} {L : List Ent} (h : RowP W p L) (hb : Below W.heap.size W wr) {j : Nat} (hj : j < L.length) : ∃ b o, p = some ⟨b, o, none⟩ ∧ b < W.heap.size ∧ ∀ i, i < 8 → wr.cell? ⟨b, o + j * 8 + i, none⟩ = (L.getD j default).list[i + 1]? := by
  rcases h with h | ⟨b, o, hp, h1, h2⟩
  · rw [h] at hj; simp at hj
  · exact ⟨b, o, hp, h1, fun i hi => by rw [hb.cell (p := ⟨b, o + j * 8 + i, none⟩) h1]; exact h2 j hj i hi⟩
/-- an argument's reply. -/
structure ArgIn (w : World) (e : Ent) : Prop where
  rs : Recs w e.p e.r.ls
  lo : e.r.ls.length ≤ 9223372036854775807
  pc : e.p = none → e.k = 0
  wf : (Lit.int .i64 e.r.c).wf = true
  s : e.s = e.r.s
def RetSl (w : World) (X : List Ent) (e : Ending) (w' : World) : Prop := ∃ b, e = .returned (.bool b) ∧ (b = true → X.length ≤ 101 ∧ ∀ e ∈ X, e.r.ls.length ≤ 300) ∧ Below w.heap.size w w'

end Go.Proofs.Ytfadpiipigkocaa
namespace Go.Proofs.Ytfadpiipigkocaa
open Go.RowKit Go.ChangeShapes Go.WideShapes Go.Gz Go.Deep

theorem one_int_wf {H : Type} {enc : TypeId × Value → H} {P : Program} {W : World} {t : TypeId} {k : IntKind} {fuel : Nat} {v : Value} {x : DataW H × List MemPlace} (ht : P.underlying t = some (.int k)) (h : DataW.trod enc P W 0 (fun _ => true) true fuel t [v] = some x) : ∃ n : Int, v = .int k n ∧ (Lit.int k n).wf = true := by
  cases fuel with
  | zero => simp [DataW.trod] at h
  | succ n =>
    unfold DataW.trod at h
    rw [ht] at h
    split at h <;> simp_all
set_option maxRecDepth 100000 in
/-- a row of records as it is read: of nothing there is no room. -/
theorem recs_none {H : Type} {enc : TypeId × Value → H} {W : World} {fuel : Nat} {p : Option Addr} {n c : Nat} {x : DataW H × List MemPlace} (hf : DataW.trod enc Try.prog W 0 (fun _ => true) true fuel 25 [.slice p n c] = some x) : p = none → c = 0 := by
  intro hp
  rcases open_slice Try.underlying25 hf with ⟨h, _⟩ | ⟨a, len, cap, m, n', D, Pl, h, _⟩
  · injection h with h _
    injection h with _ _ h
  · injection h with h _
    injection h with h _ _
    rw [hp] at h; cases h
set_option maxRecDepth 100000 in
theorem rep_of2 {H : Type} {enc : TypeId × Value → H} {W : World} {fuel : Nat} {cs : List Value} {x : DataW H × List MemPlace} (h : DataW.trod enc Try.prog W 0 (fun _ => true) true fuel 27 cs = some x) :
    ∃ e : Ent, cs = e.list.tail ∧ ArgIn W e := by
  obtain ⟨ys, n, _, _, hlen, hyl, hf⟩ := DataW.trod_struct Try.underlying27 h
  have hC : Try.prog.cellsOf 27 = 8 := by kernel_rfl
  rw [hC] at hlen
  have c1 : Try.prog.cellsOf 9 = 1 := by kernel_rfl
  have c3 : Try.prog.cellsOf 3 = 1 := by kernel_rfl
  have c4 : Try.prog.cellsOf 4 = 1 := by kernel_rfl
  have c5 : Try.prog.cellsOf 24 = 1 := by kernel_rfl
  have c6 : Try.prog.cellsOf 25 = 1 := by kernel_rfl
  match cs, hlen with
  | [v0, v1, v2, v3, v4, v5, v6, v7], _ =>
    match ys, hyl with
    | [y0, y1, y2, y3, y4, y5, y6, y7], _ =>
      have h0 : DataW.trod enc Try.prog W 0 (fun _ => true) true n 3 [v0] = some y0 := by simpa [c1, c3, c4, c5, c6] using hf 0 _ rfl
      have h1 : DataW.trod enc Try.prog W 0 (fun _ => true) true n 3 [v1] = some y1 := by simpa [c1, c3, c4, c5, c6] using hf 1 _ rfl
      have h2 : DataW.trod enc Try.prog W 0 (fun _ => true) true n 24 [v2] = some y2 := by simpa [c1, c3, c4, c5, c6] using hf 2 _ rfl
      have h3 : DataW.trod enc Try.prog W 0 (fun _ => true) true n 4 [v3] = some y3 := by simpa [c1, c3, c4, c5, c6] using hf 3 _ rfl
      have h4 : DataW.trod enc Try.prog W 0 (fun _ => true) true n 9 [v4] = some y4 := by simpa [c1, c3, c4, c5, c6] using hf 4 _ rfl
      have h5 : DataW.trod enc Try.prog W 0 (fun _ => true) true n 25 [v5] = some y5 := by simpa [c1, c3, c4, c5, c6] using hf 5 _ rfl
      have h6 : DataW.trod enc Try.prog W 0 (fun _ => true) true n 9 [v6] = some y6 := by simpa [c1, c3, c4, c5, c6] using hf 6 _ rfl
      have h7 : DataW.trod enc Try.prog W 0 (fun _ => true) true n 4 [v7] = some y7 := by simpa [c1, c3, c4, c5, c6] using hf 7 _ rfl
      obtain ⟨c, rfl, hwf⟩ := one_int_wf Try.underlying3 h0
      obtain ⟨s, rfl, _⟩ := one_int_wf Try.underlying3 h1
      obtain ⟨e, rfl, _⟩ := one_int_wf Try.underlying24 h2
      obtain ⟨fd, rfl⟩ := one_bool Try.underlying4 h3
      obtain ⟨v, rfl, _⟩ := one_text Try.underlying9 h4
      obtain ⟨p, ls, k, e5, h9, h10⟩ := recs_of h5
      obtain ⟨nx, rfl, _⟩ := one_text Try.underlying9 h6
      obtain ⟨mr, rfl⟩ := one_bool Try.underlying4 h7
      injection e5 with e5 _
      subst e5
      exact ⟨⟨s, ⟨c, s, e, fd, v, ls, nx, mr⟩, p, k⟩, rfl, h9, h10, recs_none h5, hwf, rfl⟩

set_option maxRecDepth 100000 in
/-- an argument that is a list of replies. -/
theorem arg_reps {H : Type} {enc : TypeId × Value → H} {W : World} {b0 : Nat} {v : Value} {d : DataW H} {ps : List MemPlace} (hval : Value.okWide Try.prog W .any b0 30 v) (hd : DataW.Trod enc Try.prog W 0 (fun _ => true) true 30 v d ps) :
    ∃ p X c, v = .slice p X.length c ∧ RowP W p X ∧ (∀ e ∈ X, ArgIn W e) ∧ X.length ≤ 9223372036854775807 := by
  obtain ⟨a0, len, cap, rfl⟩ := okWide_slice Try.underlying30 hval
  obtain ⟨fuel, hf⟩ := hd
  rcases open_slice Try.underlying30 hf with ⟨h, _⟩ | ⟨a, len', cap', m, n, D, Pl, h, _, hl, hm, hmm, hdl, hi⟩
  · simp [Value.cells] at h
    obtain ⟨rfl, rfl, rfl⟩ := h
    exact ⟨none, [], 0, rfl, Or.inl rfl, fun x hx => by simp at hx, by simp⟩
  · simp [Value.cells] at h
    obtain ⟨rfl, rfl, rfl⟩ := h
    simp only [if_true] at hmm
    subst hmm
    unfold maxLen at hm
    have hC : Try.prog.cellsOf 27 = 8 := by kernel_rfl
    have each : ∀ i, i < len → ∃ e : Ent, ArgIn W e ∧ ∀ z, z < 8 → W.cell? ((a.add (i * 8)).add z) = e.list[z + 1]? := fun i hin => by
      obtain ⟨cs', hcs, ht⟩ := hi i (by omega)
      rw [hC] at hcs
      obtain ⟨e, rfl, he⟩ := rep_of2 ht
      obtain ⟨_, _, hat⟩ := World.cells?_some hcs
      refine ⟨e, he, fun z hz => ?_⟩
      rw [hat z hz, List.getElem?_tail]
    have pick : ∃ f : Nat → Ent, ∀ i, i < len → ArgIn W (f i) ∧ ∀ z, z < 8 → W.cell? ((a.add (i * 8)).add z) = (f i).list[z + 1]? :=
      ⟨fun i => if h : i < len then Classical.choose (each i h) else default, fun i h => by simp only [dif_pos h]; exact Classical.choose_spec (each i h)⟩
    obtain ⟨f, hf2⟩ := pick
    have hget : ∀ j, j < len → ((List.range len).map f).getD j default = f j := fun j hj => by simp [List.getD, hj]
    refine ⟨some a, (List.range len).map f, m, by simp, ?_, fun e he => ?_, by simp; omega⟩
    · by_cases h0 : len = 0
      · exact Or.inl (by subst h0; rfl)
      · have hc0 := (hf2 0 (by omega)).2 0 (by omega)
        obtain ⟨b, off, spot⟩ := a
        have hc0' : W.cell? ⟨b, off, spot⟩ = some (.int .i64 (f 0).r.c) := by
          have e : ((⟨b, off, spot⟩ : Addr).add (0 * 8)).add 0 = ⟨b, off, spot⟩ := by simp [Addr.add]
          rw [e] at hc0
          rw [hc0]; rfl
        have hsp : spot = none := Go.Proofs.cell_spot hc0'
        subst hsp
        refine Or.inr ⟨b, off, rfl, World.block_lt_of_cell? W _ hc0', fun j hj z hz => ?_⟩
        have hj' : j < len := by simpa using hj
        rw [hget j hj']
        have h3 := (hf2 j hj').2 z hz
        simp only [Addr.add_lit] at h3
        exact h3
    · obtain ⟨i, hi', rfl⟩ := List.mem_map.1 he
      exact (hf2 i (by simpa using hi')).1
end Go.Proofs.Ytfadpiipigkocaa
namespace Go.Gz
open Go.RowKit

/-- all is as it was but for the blocks of F, and new ones. -/
structure KeptF (F : Nat → Prop) (w w' : World) : Prop where
  os : w'.os = w.os
  tape : w'.tape = w.tape
  output : w'.output = w.output
  size : w.heap.size ≤ w'.heap.size
  block : ∀ k, k < w.heap.size → ¬ F k → w'.heap[k]? = w.heap[k]?
theorem KeptF.refl (F : Nat → Prop) (w : World) : KeptF F w w := ⟨rfl, rfl, rfl, Nat.le_refl _, fun _ _ _ => rfl⟩
theorem KeptF.trans {F G : Nat → Prop} {a b c : World} (h : KeptF F a b) (k : KeptF G b c) (hG : ∀ i, i < a.heap.size → G i → F i) : KeptF F a c :=
  ⟨k.os.trans h.os, k.tape.trans h.tape, k.output.trans h.output, Nat.le_trans h.size k.size, fun i hi hF => (k.block i (by have := h.size; omega) fun e => hF (hG i hi e)).trans (h.block i hi hF)⟩
theorem KeptF.drew {F : Nat → Prop} {a w : World} (h : KeptF F a w) : KeptF F a w.drew := ⟨h.os, h.tape, h.output, h.size, h.block⟩
theorem KeptF.drewN {F : Nat → Prop} {a w : World} (h : KeptF F a w) (n : Nat) : KeptF F a (w.drewN n) := ⟨h.os, h.tape, h.output, h.size, h.block⟩
theorem KeptF.alloc {F : Nat → Prop} {a w : World} (h : KeptF F a w) (o : Obj) : KeptF F a (w.alloc o) :=
  ⟨h.os, h.tape, h.output, by have := h.size; simp; omega, fun k hk hn => (Below.heap_alloc _ _ _ (by have := h.size; omega)).trans (h.block k hk hn)⟩
theorem KeptF.set {F : Nat → Prop} {a w : World} (h : KeptF F a w) {p : Addr} (hp : F p.block) (u : Value) : KeptF F a (w.setCell p u) :=
  ⟨h.os, h.tape, h.output, by have := h.size; simp [World.setCell]; exact this, fun k hk hn => (Below.heap_setCell _ _ _ _ (fun e => hn (by rw [e]; exact hp))).trans (h.block k hk hn)⟩
theorem KeptF.cell {F : Nat → Prop} {w w' : World} (h : KeptF F w w') {p : Addr} (hb : p.block < w.heap.size) (hF : ¬ F p.block) : w'.cell? p = w.cell? p := World.cell?_of_block (w := w) (h.block p.block hb hF)
theorem KeptF.of_below {F : Nat → Prop} {w w' : World} (h : Below w.heap.size w w') : KeptF F w w' := ⟨h.os, h.tape, h.output, h.size, fun k hk _ => h.block k hk⟩
theorem KeptF.grown {F : Nat → Prop} {w w' : World} {row : Option Nat} (h : w.grownBy w' row) (hF : ∀ g, row = some g → F g) : KeptF F w w' :=
  ⟨h.os, h.tape, h.output, h.size, fun k hk hn => h.block k hk fun e => hn (hF k e.symm)⟩
theorem KeptF.below {F : Nat → Prop} {B : Nat} {w w' : World} (h : KeptF F w w') (hF : ∀ k, F k → B ≤ k) (hB : B ≤ w.heap.size) : Below B w w' :=
  ⟨h.os, h.tape, h.output, h.size, fun k hk => h.block k (by omega) fun e => by have := hF k e; omega⟩

theorem alloc_at (w : World) (x : Obj) : (w.alloc x).heap[w.heap.size]? = some x := by show (w.heap.push x)[w.heap.size]? = _; simp

/-- a kind of struct: its cells. -/
structure SK (α : Type) where
  cf : α → List Value
  n : Nat
  len : ∀ x, (cf x).length = n
  one : ∀ x, ∀ u ∈ cf x, u.oneCell' = true
  pos : 0 < n
section
variable {α : Type} {K : SK α}
def SK.flat (K : SK α) (L : List α) : List Value := L.flatMap K.cf
theorem SK.flat_len (K : SK α) (L : List α) : (K.flat L).length = L.length * K.n := by
  induction L with
  | nil => simp [SK.flat]
  | cons e t ih =>
    show (K.cf e ++ K.flat t).length = _
    rw [List.length_append, ih, List.length_cons, K.len, Nat.add_mul]
    omega
theorem SK.flat_app (K : SK α) (L M : List α) : K.flat (L ++ M) = K.flat L ++ K.flat M := by simp [SK.flat]
theorem SK.flat_at [Inhabited α] (K : SK α) (L : List α) : ∀ j, j < L.length → ∀ i, i < K.n → (K.flat L)[j * K.n + i]? = (K.cf (L.getD j default))[i]? := by
  induction L with
  | nil => intro j hj; simp at hj
  | cons e t ih =>
    intro j hj i hi
    show (K.cf e ++ K.flat t)[j * K.n + i]? = _
    have hl := K.len e
    cases j with
    | zero => rw [List.getElem?_append_left (by omega)]; simp
    | succ j =>
      rw [Nat.add_mul, List.getElem?_append_right (by omega), show j * K.n + 1 * K.n + i - (K.cf e).length = j * K.n + i by omega, ih j (by simpa using hj) i hi]
      simp
theorem SK.flat_one (K : SK α) (L : List α) : ∀ u ∈ K.flat L, u.oneCell' = true := by
  intro u hu
  obtain ⟨e, _, hu⟩ := List.mem_flatMap.1 hu
  exact K.one e u hu

/-- slice pointer p reads in w as the structs L. -/
def RowK [Inhabited α] (K : SK α) (w : World) (p : Option Addr) (L : List α) : Prop :=
  L = [] ∨ ∃ b off, p = some ⟨b, off, none⟩ ∧ b < w.heap.size ∧ ∀ j, j < L.length → ∀ i, i < K.n → w.cell? ⟨b, off + j * K.n + i, none⟩ = (K.cf (L.getD j default))[i]?
variable {w w' W wr : World} {p : Option Addr} {L M : List α} {b off B : Nat}
theorem RowK.empty [Inhabited α] (K : SK α) (w : World) (p : Option Addr) : RowK K w p [] := Or.inl rfl
theorem RowK.below [Inhabited α] (h : RowK K w p L) (hb : Below w.heap.size w w') : RowK K w' p L := by
  rcases h with h | ⟨b, off, hp, hlt, hc⟩
  · exact Or.inl h
  · exact Or.inr ⟨b, off, hp, Nat.lt_of_lt_of_le hlt hb.size, fun j hj i hi => by rw [hb.cell (p := ⟨b, off + j * K.n + i, none⟩) hlt]; exact hc j hj i hi⟩
theorem RowK.kept [Inhabited α] {F : Nat → Prop} (h : RowK K w p L) (hk : KeptF F w w') (hF : ∀ a, p = some a → ¬ F a.block) : RowK K w' p L := by
  rcases h with h | ⟨b, off, hp, hlt, hc⟩
  · exact Or.inl h
  · exact Or.inr ⟨b, off, hp, Nat.lt_of_lt_of_le hlt hk.size, fun j hj i hi => by rw [World.cell?_of_block (w := w) (a := ⟨b, off + j * K.n + i, none⟩) (hk.block b hlt (hF _ hp))]; exact hc j hj i hi⟩
theorem RowK.cells [Inhabited α] (h : RowK K W p L) (hb : Below W.heap.size W wr) {j : Nat} (hj : j < L.length) : ∃ b o, p = some ⟨b, o, none⟩ ∧ b < W.heap.size ∧ ∀ i, i < K.n → wr.cell? ⟨b, o + j * K.n + i, none⟩ = (K.cf (L.getD j default))[i]? := by
  rcases h with h | ⟨b, o, hp, h1, h2⟩
  · rw [h] at hj; simp at hj
  · exact ⟨b, o, hp, h1, fun i hi => by rw [hb.cell (p := ⟨b, o + j * K.n + i, none⟩) h1]; exact h2 j hj i hi⟩
theorem RowK.nil_of [Inhabited α] (h : RowK K w none L) : L = [] := by
  rcases h with h | ⟨b, off, hp, _⟩
  · exact h
  · cases hp
theorem RowK.flat [Inhabited α] (h : RowK K w (some ⟨b, off, none⟩) L) : ∀ j u, (K.flat L)[j]? = some u → w.cell? ((⟨b, off, none⟩ : Addr).add j) = some u := by
  intro j u hj
  have hl := (List.getElem?_eq_some_iff.1 hj).1
  rw [K.flat_len] at hl
  have hn := K.pos
  have hjn : j / K.n < L.length := (Nat.div_lt_iff_lt_mul hn).2 hl
  have hjm : j % K.n < K.n := Nat.mod_lt _ hn
  have hdm : j / K.n * K.n + j % K.n = j := by rw [Nat.mul_comm]; exact Nat.div_add_mod j K.n
  rcases h with h | ⟨b', off', hp, _, hc⟩
  · rw [h] at hl; simp at hl
  · injection hp with hp
    injection hp with h1 h2 _
    subst h1 h2
    have e := hc (j / K.n) hjn (j % K.n) hjm
    rw [← K.flat_at L (j / K.n) hjn (j % K.n) hjm, hdm, hj] at e
    rw [Addr.add_lit]
    rw [← e, Nat.add_assoc, hdm]
theorem RowK.take [Inhabited α] (h : RowK K w p L) (k : Nat) : RowK K w p (L.take k) := by
  rcases h with h | ⟨b, off, hp, hlt, hc⟩
  · exact Or.inl (by rw [h, List.take_nil])
  · refine Or.inr ⟨b, off, hp, hlt, fun j hj i hi => ?_⟩
    rw [List.length_take] at hj
    rw [hc j (by omega) i hi]
    simp [List.getD, show j < k by omega]
theorem RowK.drop [Inhabited α] (h : RowK K w (some ⟨b, off, none⟩) L) (k : Nat) : RowK K w (some ⟨b, off + k * K.n, none⟩) (L.drop k) := by
  rcases h with h | ⟨b', off', hp, hlt, hc⟩
  · exact Or.inl (by rw [h, List.drop_nil])
  · injection hp with hp
    injection hp with h1 h2 _
    subst h1 h2
    refine Or.inr ⟨b, off + k * K.n, rfl, hlt, fun j hj i hi => ?_⟩
    rw [List.length_drop] at hj
    rw [show off + k * K.n + j * K.n + i = off + (k + j) * K.n + i by rw [Nat.add_mul]; omega, hc (k + j) (by omega) i hi]
    simp [List.getD]
/-- the structs that a block holds. -/
theorem RowK.block [Inhabited α] {t : TypeId} {fz : Nat × Nat} (K : SK α) (h : w.heap[b]? = some (.cells (K.flat L).toArray t fz)) : RowK K w (some ⟨b, 0, none⟩) L := by
  refine Or.inr ⟨b, 0, rfl, (Array.getElem?_eq_some_iff.1 h).1, fun j hj i hi => ?_⟩
  simp only [World.cell?, h, Nat.zero_add, List.getElem?_toArray]
  exact K.flat_at L j hj i hi

/-- v is a row of structs that the call owns. -/
def OwnK (K : SK α) (w : World) (B : Nat) (t : TypeId) (v : Value) (L : List α) : Prop := w.ownsRow B t K.n v L.length (K.flat L)
variable {t T : TypeId} {v : Value}
theorem OwnK.nil (K : SK α) (w : World) (B : Nat) (t : TypeId) : OwnK K w B t (.slice none 0 0) [] := World.ownsRow_nil w B t K.n
theorem OwnK.row [Inhabited α] (h : OwnK K w B t v L) : ∃ p c, v = .slice p L.length c ∧ L.length ≤ c ∧ (p = none → c = 0) ∧ RowK K w p L ∧ (∀ a, p = some a → ∃ g, a = ⟨g, 0, none⟩ ∧ B ≤ g ∧ g < w.heap.size) := by
  obtain ⟨h1, ⟨rfl, h0⟩ | ⟨g, cap, cur, rfl, hg, hh, hc, hm, hs, ht⟩⟩ := h
  · have : L = [] := List.eq_nil_of_length_eq_zero h0
    subst this
    exact ⟨none, 0, rfl, Nat.le_refl _, fun _ => rfl, Or.inl rfl, fun a h => by cases h⟩
  · have hlt := (Array.getElem?_eq_some_iff.1 hh).1
    refine ⟨_, cap, rfl, hc, (fun h => by cases h), Or.inr ⟨g, 0, rfl, hlt, fun j hj i hi => ?_⟩, fun a ha => ⟨g, by injection ha with ha; exact ha.symm, hg, hlt⟩⟩
    have hb : j * K.n + i < L.length * K.n := by
      have : (j + 1) * K.n ≤ L.length * K.n := Nat.mul_le_mul_right _ hj
      rw [Nat.add_mul] at this
      omega
    rw [← K.flat_at L j hj i hi, ← ht, List.getElem?_take, if_pos hb, Array.getElem?_toList]
    simp [World.cell?, hh]
theorem OwnK.ltB (h : OwnK K w B t v L) : ∀ g, v.ownBlock = some g → B ≤ g ∧ g < w.heap.size := fun g hg => World.ownsRow.lt h g hg
theorem OwnK.type (h : OwnK K w B t v L) : ∀ g, v.ownBlock = some g → ∃ cs fz, w.heap[g]? = some (.cells cs t fz) := by
  intro g hg
  obtain ⟨_, ⟨rfl, _⟩ | ⟨g', cap, cur, rfl, _, hh, _⟩⟩ := h
  · cases hg
  · simp only [Value.ownBlock, Option.some.injEq] at hg
    subst hg
    exact ⟨cur, _, hh⟩
theorem OwnK.alloc (h : OwnK K w B t v L) (o : Obj) : OwnK K (w.alloc o) B t v L := World.ownsRow.alloc h o
theorem OwnK.drewN (h : OwnK K w B t v L) (n : Nat) : OwnK K (w.drewN n) B t v L := h
theorem OwnK.mono {B' : Nat} (h : OwnK K w B t v L) (hB : B' ≤ B) : OwnK K w B' t v L := by
  obtain ⟨h1, h2⟩ := h
  refine ⟨h1, ?_⟩
  rcases h2 with h2 | ⟨g, cap, cur, e, hg, r⟩
  · exact Or.inl h2
  · exact Or.inr ⟨g, cap, cur, e, by omega, r⟩
theorem OwnK.raise {B' : Nat} (h : OwnK K w B t v L) (hB : ∀ g, v.ownBlock = some g → B' ≤ g) : OwnK K w B' t v L := by
  obtain ⟨h1, h2⟩ := h
  refine ⟨h1, ?_⟩
  rcases h2 with h2 | ⟨g, cap, cur, e, hg, r⟩
  · exact Or.inl h2
  · exact Or.inr ⟨g, cap, cur, e, hB g (by rw [e]; rfl), r⟩
theorem OwnK.kept {F : Nat → Prop} (h : OwnK K w B t v L) (hk : KeptF F w w') (hF : ∀ g, v.ownBlock = some g → ¬ F g) : OwnK K w' B t v L := by
  obtain ⟨h1, h2⟩ := h
  refine ⟨h1, ?_⟩
  rcases h2 with h2 | ⟨g, cap, cur, e, hg, hh, r⟩
  · exact Or.inl h2
  · exact Or.inr ⟨g, cap, cur, e, hg, by rw [hk.block g (Array.getElem?_eq_some_iff.1 hh).1 (hF g (by rw [e]; rfl))]; exact hh, r⟩
theorem OwnK.below (h : OwnK K w B t v L) (hb : Below w.heap.size w w') : OwnK K w' B t v L := h.kept (KeptF.of_below hb (F := fun _ => False)) fun _ _ e => e
theorem OwnK.grown {row : Option Nat} (h : OwnK K w B t v L) (hg : w.grownBy w' row) (hr : ∀ g, v.ownBlock = some g → row ≠ some g) : OwnK K w' B t v L :=
  h.kept (KeptF.grown (F := fun k => row = some k) hg fun _ e => e) fun g e f => hr g e f
theorem OwnK.setCell (h : OwnK K w B t v L) {a : Addr} (ha : v.ownBlock ≠ some a.block) (u : Value) : OwnK K (w.setCell a u) B t v L :=
  h.kept (F := fun k => k = a.block) ⟨rfl, rfl, rfl, by simp [World.setCell], fun k _ hn => Below.heap_setCell _ _ _ _ hn⟩ fun g e f => ha (by rw [e, f])

/-- what the program says of the kind: its type, the type of slices of it. -/
structure SKT (P : Program) (K : SK α) (t T : TypeId) (z : Value) (bytes : Nat) : Prop where
  sl : P.underlying T = some (.slice t)
  info : (P.info? t).map (fun i => (i.zero, i.size, i.bytes)) = some (some z, K.n, bytes)
  zn : z.cells.size = K.n
  by_ : bytes ≤ 1000
variable {P : Program} {z : Value} {bytes : Nat}
/-- append of a row of structs, run. -/
theorem run_app_k [Inhabited α] (ET : SKT P K t T z bytes) (ty : TypeId) (h : OwnK K w B t v L) (p : Option Addr) (c : Nat) (M : List α) (hrow : RowK K w p M) (hpc : p = none → c = 0) (hlen : L.length + M.length ≤ 100000000) (hB : B ≤ w.heap.size) :
    ∃ v' w', (Builtin.append_ #[T, T] ty #[v, .slice p M.length c]).run P w = .ok v' w' ∧ OwnK K w' B t v' (L ++ M) ∧ w.grownBy w' v.ownBlock ∧ (v'.ownBlock = v.ownBlock ∨ v'.ownBlock = some w.heap.size) := by
  obtain ⟨i0, hi, hz0, hz1, hz2⟩ := info_parts ET.info
  cases p with
  | none =>
    obtain rfl := hrow.nil_of
    obtain rfl := hpc rfl
    have hrun := run_append_owned_none (P := P) (w := w) B T ty t i0 K.n ET.sl hi v L.length (K.flat L) h
    exact ⟨v, w, hrun, by rw [List.append_nil]; exact h, World.grownBy.refl _ _, Or.inl rfl⟩
  | some ad =>
    have hpt : M ≠ [] → ∃ b off, ad = ⟨b, off, none⟩ := fun hne => by
      rcases hrow with h | ⟨b, off, hp, _⟩
      · exact absurd h hne
      · injection hp with hp; exact ⟨b, off, hp⟩
    have hby := ET.by_
    obtain ⟨v', w', hr, h2, h3, _, h5⟩ := run_append_own_at (P := P) (w := w) B T ty t i0 z K.n bytes ET.sl hi hz0 hz1 hz2 ET.zn K.pos v L.length (K.flat L) h ad M.length c (K.flat M) (K.flat_len M) (by
      intro j u hj
      have hne : M ≠ [] := fun e => by rw [e] at hj; simp [SK.flat] at hj
      obtain ⟨b, off, rfl⟩ := hpt hne
      exact hrow.flat j u hj) (K.flat_one M) (by unfold maxLen; omega) (Nat.le_trans (Nat.mul_le_mul hlen hby) (by decide)) hB
    refine ⟨v', w', hr, ?_, h3, h5⟩
    unfold OwnK
    rw [List.length_append, K.flat_app]
    exact h2
theorem wpList_app_k [Inhabited α] (ET : SKT P K t T z bytes) {ops : Array Oper} {rest : List Oper} {o : Oper} {a : Act} {Q : Exit → Act → World → Prop}
    (hg : o.guard = none) (s x : Operand) (hop : o.op = Op.call { callee := Callee.builtin Builtin.append, args := #[s, x], argTypes := #[T, T] })
    (hs : a.eval s = v) (h : OwnK K w B t v L) (p : Option Addr) (c : Nat) (M : List α) (hx : a.eval x = .slice p M.length c) (hrow : RowK K w p M) (hpc : p = none → c = 0) (hlen : L.length + M.length ≤ 100000000) (hB : B ≤ w.heap.size)
    (hK : ∀ v' w', OwnK K w' B t v' (L ++ M) → w.grownBy w' v.ownBlock → (v'.ownBlock = v.ownBlock ∨ v'.ownBlock = some w.heap.size) → wpList P ops Q rest (a.put o.dst v') w') :
    wpList P ops Q (o :: rest) a w := by
  obtain ⟨v', w', hr, h2, h3, h4⟩ := run_app_k ET o.type h p c M hrow hpc hlen hB
  refine wpList_plain hg fun K' hK' => ?_
  unfold Oper.wp
  simp only [execOp, hop, resolve, invoke, builtin, Sem.run_bind, Sem.run_pure, Result.andThen_ok, List.map_toArray, List.map_cons, List.map_nil, hs, hx, hr]
  exact hK' _ _ (hK v' w' h2 h3 h4)
theorem step_app_k [Inhabited α] (ET : SKT P K t T z bytes) {ops : Array Oper} {o : Oper} {a : Act} {K' : Act → World → Prop} {Q : Exit → Act → World → Prop} {E : Prop} (hg : o.guard = none) (s x : Operand)
    (hop : o.op = Op.call { callee := Callee.builtin Builtin.append, args := #[s, x], argTypes := #[T, T] })
    (hs : a.eval s = v) (h : OwnK K w B t v L) (p : Option Addr) (c : Nat) (M : List α) (hx : a.eval x = .slice p M.length c) (hrow : RowK K w p M) (hpc : p = none → c = 0) (hlen : L.length + M.length ≤ 100000000) (hB : B ≤ w.heap.size)
    (hK : ∀ v' w', OwnK K w' B t v' (L ++ M) → w.grownBy w' v.ownBlock → (v'.ownBlock = v.ownBlock ∨ v'.ownBlock = some w.heap.size) → K' (a.put o.dst v') w') :
    if Region.wanted o (yielded ops a.tmps) = true then Oper.wp P o a w K' Q else E := by
  have hw : Region.wanted o (yielded ops a.tmps) = true := by simp [Region.wanted, hg]
  rw [if_pos hw]
  obtain ⟨v', w', hr, h2, h3, h4⟩ := run_app_k ET o.type h p c M hrow hpc hlen hB
  unfold Oper.wp execOp
  simp only [hop, resolve, invoke, builtin, Sem.run_bind, Sem.run_pure, Result.andThen_ok, List.map_toArray, List.map_cons, List.map_nil, hs, hx, hr]
  exact hK _ _ h2 h3 h4
theorem stepI_app_k [Inhabited α] (ET : SKT P K t T z bytes) {ops : Array Oper} {Q : Exit → Act → World → Prop} {i : Nat} {o : Oper} {a : Act} {J : Value → World → Prop} (hgd : o.guard = none) (s x : Operand)
    (hop : o.op = Op.call { callee := Callee.builtin Builtin.append, args := #[s, x], argTypes := #[T, T] })
    (hs : a.eval s = v) (h : OwnK K w B t v L) (p : Option Addr) (c : Nat) (M : List α) (hx : a.eval x = .slice p M.length c) (hrow : RowK K w p M) (hpc : p = none → c = 0) (hlen : L.length + M.length ≤ 100000000) (hB : B ≤ w.heap.size)
    (hJ : ∀ v' w', OwnK K w' B t v' (L ++ M) → w.grownBy w' v.ownBlock → (v'.ownBlock = v.ownBlock ∨ v'.ownBlock = some w.heap.size) → J v' w') : StepI P ops Q i o a w J := by
  obtain ⟨v', w', hr, h2, h3, h4⟩ := run_app_k ET o.type h p c M hrow hpc hlen hB
  refine step_run hgd (v := v') (w' := w') ?_ (hJ v' w' h2 h3 h4)
  simp only [execOp, hop, resolve, invoke, builtin, Sem.run_bind, Sem.run_pure, Result.andThen_ok, List.map_toArray, List.map_cons, List.map_nil, hs, hx, hr]
end
end Go.Gz
