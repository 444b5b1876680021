/-
  Layer grove: the law GroveRows.
-/
import Derived.Test.YtaghflionakhhaaGvAwake
import Derived.Test.YtaghflionakhhaaGvGoIi
import Derived.Test.YtaghflionakhhaaGvOutIi
import Derived.Test.YtaghflionakhhaaGvRwM
import Derived.Test.YtaghflionakhhaaGvBits
import Derived.Test.YtaghflionakhhaaGvArgs
namespace Go.Proofs.Ytaghflionakhhaa
open Go.RowKit Go.Gz

set_option maxRecDepth 100000 in
theorem rw_ord : OrdIi 9 (fun a b => a - b) smallK where
  eg := fun _ _ => rfl
  hF := fun a b w ha hb => by
    obtain ⟨h1, h2⟩ := ha
    obtain ⟨h3, h4⟩ := hb
    go_enter Try.func9, Try.ntmps9
    go_wp2_with fail
    go_ret
    exact ⟨rfl, rfl⟩

/-- two captured variables, in blocks a and b; all else is as it was. -/
structure TwoJ (w0 : World) (a b : Nat) (u v : Value) (w : World) : Prop where
  ne : a ≠ b
  la : a < w.heap.size
  lb : b < w.heap.size
  ca : w.cell? ⟨a, 0, none⟩ = some u
  cb : w.cell? ⟨b, 0, none⟩ = some v
  fa : w.frozen? ⟨a, 0, none⟩ = false
  fb : w.frozen? ⟨b, 0, none⟩ = false
  chg : Chg2 a b w0 w
theorem Chg2.below {a b : Nat} {w x y : World} (h : Chg2 a b w x) (hb : Below x.heap.size x y) : Chg2 a b w y :=
  ⟨hb.os.trans h.os, hb.tape.trans h.tape, hb.output.trans h.output, Nat.le_trans h.size hb.size, fun k hk h1 h2 => (hb.block k (by have := h.size; omega)).trans (h.block k hk h1 h2)⟩
theorem TwoJ.below {w0 : World} {a b : Nat} {u v : Value} {w w' : World} (h : TwoJ w0 a b u v w) (hb : Below w.heap.size w w') : TwoJ w0 a b u v w' :=
  ⟨h.ne, by have := h.la; have := hb.size; omega, by have := h.lb; have := hb.size; omega, by rw [hb.cell (p := ⟨a, 0, none⟩) h.la]; exact h.ca, by rw [hb.cell (p := ⟨b, 0, none⟩) h.lb]; exact h.cb,
    by rw [hb.frozen (p := ⟨a, 0, none⟩) h.la]; exact h.fa, by rw [hb.frozen (p := ⟨b, 0, none⟩) h.lb]; exact h.fb, h.chg.below hb⟩
theorem TwoJ.setA {w0 : World} {a b : Nat} {u v : Value} {w : World} (h : TwoJ w0 a b u v w) (x : Value) : TwoJ w0 a b x v (w.setCell ⟨a, 0, none⟩ x) :=
  ⟨h.ne, by have := h.la; simpa [World.setCell] using this, by have := h.lb; simpa [World.setCell] using this, by simp [go_sem, h.ca], by rw [World.cell?_setCell_other _ _ _ _ (by intro e; injection e with e1 _ _; exact h.ne e1)]; exact h.cb,
    by simpa [go_sem] using h.fa, by simpa [go_sem] using h.fb, h.chg.set1 x⟩
theorem TwoJ.setB {w0 : World} {a b : Nat} {u v : Value} {w : World} (h : TwoJ w0 a b u v w) (x : Value) : TwoJ w0 a b u x (w.setCell ⟨b, 0, none⟩ x) :=
  ⟨h.ne, by have := h.la; simpa [World.setCell] using this, by have := h.lb; simpa [World.setCell] using this, by rw [World.cell?_setCell_other _ _ _ _ (by intro e; injection e with e1 _ _; exact h.ne e1.symm)]; exact h.ca, by simp [go_sem, h.cb],
    by simpa [go_sem] using h.fa, by simpa [go_sem] using h.fb, h.chg.set2 x⟩

set_option maxHeartbeats 1000000 in
set_option maxRecDepth 100000 in
theorem rw_see (bl ba bs bz bm : Nat) (at_ sN : Nat) (hs : sN < 256) (w0 : World) (h1 : ba ≠ bl ∧ ba ≠ bm) (h2 : bs ≠ bl ∧ bs ≠ bm) (h3 : bz ≠ bl ∧ bz ≠ bm) (z1 : ba < w0.heap.size) (z2 : bs < w0.heap.size) (z3 : bz < w0.heap.size)
    (ca : w0.cell? ⟨ba, 0, none⟩ = some (.int .i64 (at_ : Nat))) (cs : w0.cell? ⟨bs, 0, none⟩ = some (.int .i64 (sN : Nat))) (cz : w0.cell? ⟨bz, 0, none⟩ = some (.int .i64 1024)) :
    SeesIi rwF 12 #[.pointer (some ⟨bl, 0, none⟩), .pointer (some ⟨ba, 0, none⟩), .pointer (some ⟨bs, 0, none⟩), .pointer (some ⟨bz, 0, none⟩), .pointer (some ⟨bm, 0, none⟩)] (rwA at_ sN) (fun j => j ≠ bl ∧ j ≠ bm) w0 (fun s w => TwoJ w0 bl bm (.int .i64 s.1) (.int .i64 s.2) w) where
  eg := fun _ _ => rfl
  hs := fun s k v w hj ha => by
    obtain ⟨last, many⟩ := s
    have c1 := hj.ca
    have c2 := hj.cb
    have f1 := hj.fa
    have f2 := hj.fb
    have c3 : w.cell? ⟨ba, 0, none⟩ = some (.int .i64 (at_ : Nat)) := by rw [hj.chg.cell z1 h1.1 h1.2]; exact ca
    have c4 : w.cell? ⟨bs, 0, none⟩ = some (.int .i64 (sN : Nat)) := by rw [hj.chg.cell z2 h2.1 h2.2]; exact cs
    have c5 : w.cell? ⟨bz, 0, none⟩ = some (.int .i64 1024) := by rw [hj.chg.cell z3 h3.1 h3.2]; exact cz
    have HJ := Lib.hid hj
    have hne := hj.ne
    obtain ⟨a1, a2, a3, a4, j, hj1, hj2⟩ := ha
    injection hj2 with hk hv
    subst hv
    have a1 : last < k := a1
    have a2 : (at_ : Int) ≤ k := a2
    have a3 : 0 ≤ many := a3
    have a4 : many ≤ 100000 := a4
    have b1 : ¬ k ≤ last := by omega
    have b2 : ¬ k < (at_ : Int) := by omega
    obtain ⟨P, hP⟩ : ∃ P : Nat, j * sN = P := ⟨_, rfl⟩
    have hPe : (j : Int) * (sN : Int) = (P : Int) := by rw [← hP]; exact (Int.natCast_mul j sN).symm
    have hPb : P ≤ 262144 := by rw [← hP]; exact Nat.le_trans (Nat.mul_le_mul (show j ≤ 1024 by omega) (show sN ≤ 256 by omega)) (by decide)
    rw [hP] at hk
    have hke : (P : Int) % 1024 = k := by omega
    clear hk hj h1 h2 h3 z1 z2 z3 ca cs cz hP a2 a1
    go_enter Try.func12, Try.ntmps12
    go_wp2_with fail
    go_ret
    exact ⟨rfl, (HJ.out.setA _).setB _⟩
  hb := fun s w w' h hb => h.below hb
  hz := fun s w h => h.chg.size
  hk := fun s w h j hj hlt => h.chg.block j hlt hj.1 hj.2

/-- v points to a block of the region's own, which holds u if d. -/
def CellI (w0 : World) (v : Value) (d : Bool) (u : Value) (w : World) : Prop := ∃ b y, v = .pointer (some ⟨b, 0, none⟩) ∧ w0.heap.size ≤ b ∧ w.heap[b]? = some (.cells #[y] 3 (0, 0)) ∧ (d = true → y = u)
theorem CellI.below {w0 w w' : World} {v : Value} {d : Bool} {u : Value} (h : CellI w0 v d u w) (hb : Below w.heap.size w w') : CellI w0 v d u w' := by
  obtain ⟨b, y, h1, h2, h3, h4⟩ := h
  exact ⟨b, y, h1, h2, by rw [hb.block b (Array.getElem?_eq_some_iff.1 h3).1]; exact h3, h4⟩
theorem CellI.new {w0 w : World} (hs : w0.heap.size ≤ w.heap.size) (y u : Value) : CellI w0 (.pointer (some ⟨w.heap.size, 0, none⟩)) false u (w.alloc (.cells #[y] 3)) :=
  ⟨w.heap.size, y, rfl, hs, by show (w.heap.push _)[w.heap.size]? = _; simp, fun h => by cases h⟩
theorem CellI.ne {w0 w : World} {v : Value} {d : Bool} {u : Value} (h : CellI w0 v d u w) : v ≠ .pointer (some ⟨w.heap.size, 0, none⟩) := by
  obtain ⟨b, y, h1, h2, h3, h4⟩ := h
  rw [h1]
  intro e
  injection e with e
  injection e with e
  injection e with e
  have := (Array.getElem?_eq_some_iff.1 h3).1
  omega
theorem CellI.store {w0 w : World} {v v' : Value} {b : Nat} {d : Bool} {u : Value} (h : CellI w0 v' d u w) (x : Value) (hv : v = .pointer (some ⟨b, 0, none⟩)) (hne : v ≠ v') : CellI w0 v' d u (w.setCell ⟨b, 0, none⟩ x) := by
  obtain ⟨b', y, h1, h2, h3, h4⟩ := h
  refine ⟨b', y, h1, h2, ?_, h4⟩
  rw [Below.heap_setCell _ _ _ _ (fun e => hne (by rw [hv, h1]; exact congrArg (fun b => Value.pointer (some ⟨b, 0, none⟩)) e.symm))]
  exact h3

/-- what holds in the region that lays last, many and at, whatever has run. -/
structure RwI (w0 : World) (f at_ : Nat) (L : Nat → Bool) (vals : Nat → Value) (w : World) : Prop where
  bel : Below w0.heap.size w0 w
  v0 : L 0 = true → vals 0 = .int .u16 (f : Nat)
  v1 : L 1 = true → vals 1 = .int .i64 (f : Nat)
  v2 : L 2 = true → vals 2 = .int .i64 1024
  v3 : L 3 = true → vals 3 = .int .i64 (at_ : Nat)
  b4 : L 4 = true → CellI w0 (vals 4) (L 7) (.int .i64 (-1)) w
  b5 : L 5 = true → CellI w0 (vals 5) (L 8) (.int .i64 0) w
  b6 : L 6 = true → CellI w0 (vals 6) (L 9) (.int .i64 (at_ : Nat)) w
  n45 : L 4 = true → L 5 = true → vals 4 ≠ vals 5
  n46 : L 4 = true → L 6 = true → vals 4 ≠ vals 6
  n56 : L 5 = true → L 6 = true → vals 5 ≠ vals 6
  d7 : L 7 = true → L 4 = true
  d8 : L 8 = true → L 5 = true
  d9 : L 9 = true → L 6 = true

set_option maxHeartbeats 8000000 in
set_option maxRecDepth 1000000 in
theorem rows_walk (n st f : Nat) (hn : n < 65536) (hst : st < 256) (hf : f < 65536) (W : World) : Calls Try.prog 3 #[.int .u16 n, .int .u8 st, .int .u16 f] W fun e w' => e = .returned (.bool true) ∧ Below W.heap.size W w' := by
  have mx := mixedS
  have hmf : ∀ (fn : Fn) (first cap : Array Value) (w : World), (Instr.makeFunc fn first cap).run Try.prog w = .ok (.func fn first cap) w := fun _ _ _ _ => rfl
  have CA := Lib.hid (awake_true W)
  have hni : (n : Int) < 65536 := by omega
  have hsi : (st : Int) < 256 := by omega
  have hfi : (f : Int) < 65536 := by omega
  obtain ⟨k, hk⟩ : ∃ k : Nat, 1 + n % 600 = k := ⟨_, rfl⟩
  have hke : 1 + (n : Int) % 600 = (k : Int) := by omega
  have hk1 : 1 ≤ k := by omega
  have hk2 : k ≤ 600 := by omega
  obtain ⟨sN, hsN⟩ : ∃ sN : Nat, 1 + 2 * (st % 64) = sN := ⟨_, rfl⟩
  have hse : 1 + 2 * ((st : Int) % 64) = (sN : Int) := by omega
  have hsb : sN < 256 := by omega
  obtain ⟨r, hr⟩ : ∃ r, (sN * r) % 1024 = 1 := by
    obtain ⟨r, _, e⟩ := odd_inv1024 (st % 64) (by omega)
    exact ⟨r, by rw [← hsN]; exact e⟩
  obtain ⟨at_, hat⟩ : ∃ at_ : Nat, f % 1024 = at_ := ⟨_, rfl⟩
  have hate : (f : Int) % 1024 = (at_ : Int) := by omega
  have hatb : at_ < 1024 := by omega
  have HR := Lib.hid hr
  clear hk hsN hr hat
  go_enter Try.func3, Try.ntmps3
  go_wp2_with fail
  refine CA.out.mono ?_
  rintro e w1 ⟨rfl, hb1⟩
  have HB1 := Lib.hid hb1
  obtain ⟨w2, hw2⟩ : ∃ w2, w1.alloc (.cells #[.int .i64 (sN : Nat)] 3) = w2 := ⟨_, rfl⟩
  have hb2 : Below w1.heap.size w1 w2 := hw2 ▸ (Below.refl _ _).alloc (Nat.le_refl _) _
  have z2 : w2.heap.size = w1.heap.size + 1 := by rw [← hw2]; simp
  have s2 : w2.cell? ⟨w1.heap.size, 0, none⟩ = some (.int .i64 (sN : Nat)) := by rw [← hw2]; simp [go_sem]
  have CN := Lib.hid (new_anyIi 9 w2)
  rw [z2] at CN
  have HB2 := Lib.hid hb2
  have HZ2 := Lib.hid z2
  have HS2 := Lib.hid s2
  clear hb1 CA hb2 z2 s2
  go_wp2_with fail
  refine CN.out.mono ?_
  rintro e w3 ⟨rfl, hg3, hb3, hz3⟩
  obtain ⟨n1, hn1⟩ : ∃ n1, w1.heap.size = n1 := ⟨_, rfl⟩
  have HN1 := Lib.hid hn1
  have hZ2 := HZ2.out
  have hS2 := HS2.out
  rw [hn1] at hg3 hb3 hz3 hZ2 hS2 ⊢
  obtain ⟨w4, hw4⟩ : ∃ w4, w3.alloc (.cells #[.int .i64 1024] 3) = w4 := ⟨_, rfl⟩
  have hb4 : Below w3.heap.size w3 w4 := hw4 ▸ (Below.refl _ _).alloc (Nat.le_refl _) _
  have HB4 := Lib.hid (show Below n1 w1 w4 from ((HB2.out.mono (by omega)).trans (hb3.mono (by omega))).trans (hb4.mono (by omega)))
  have HG4 := Lib.hid (hg3.below hb4)
  have HS4 := Lib.hid (show w4.cell? ⟨n1, 0, none⟩ = some (.int .i64 (sN : Nat)) by rw [hb4.cell (p := ⟨n1, 0, none⟩) (by show n1 < _; omega), hb3.cell (p := ⟨n1, 0, none⟩) (by show n1 < _; omega)]; exact hS2)
  have HC4 := Lib.hid (show w4.cell? ⟨n1 + 2, 0, none⟩ = some (.int .i64 1024) by rw [← hw4, show n1 + 2 = w3.heap.size by omega]; simp [go_sem])
  have HZ4 := Lib.hid (show w4.heap.size = n1 + 3 by rw [← hw4]; simp; omega)
  have hz3' : w3.heap.size = n1 + 2 := by omega
  clear hg3 hb3 hb4 hZ2 hS2 HS2 HZ2 HB2 hn1 hw2 hz3 CN hni hsi hfi
  go_wp2_with fail
  clear hw4 hz3'
  go_loopg [11] k (fun gg v wr => ∃ i : Nat, i ≤ k ∧ k - i ≤ gg ∧ v = .int .i64 i ∧ ∃ t : GT Int Int, Hid (GrIi (.func (.func 9) #[] #[]) (n1 + 1 + 1) wr (n1 + 1) t) ∧ Hid (Rows sN i t) ∧ Hid (Chg (n1 + 1) w4 wr))
  case atStart => exact ⟨0, by omega, by omega, rfl, .nil, HG4, Lib.hid (Rows.nil sN), Lib.hid (Chg.of_below (Below.refl _ _))⟩
  case round =>
    obtain ⟨i, hik, hgg, rfl, t, HGt, HT, HC⟩ := hrel
    have c8 : wr.cell? ⟨n1, 0, none⟩ = some (.int .i64 (sN : Nat)) := by rw [HC.out.cell (by have := HZ4.out; omega) (by omega)]; exact HS4.out
    have c10 : wr.cell? ⟨n1 + 2, 0, none⟩ = some (.int .i64 1024) := by rw [HC.out.cell (by have := HZ4.out; omega) (by omega)]; exact HC4.out
    by_cases hlt : i < k
    · have hltz : (i : Int) < (k : Int) := by omega
      obtain ⟨P, hP⟩ : ∃ P : Nat, i * sN = P := ⟨_, rfl⟩
      have hPe : (i : Int) * (sN : Int) = (P : Int) := by rw [← hP]; exact (Int.natCast_mul i sN).symm
      have hPb : P ≤ 262144 := by rw [← hP]; exact Nat.le_trans (Nat.mul_le_mul (show i ≤ 1024 by omega) (show sN ≤ 256 by omega)) (by decide)
      obtain ⟨x, hx⟩ : ∃ x : Nat, P % 1024 = x := ⟨_, rfl⟩
      have hxe : (P : Int) % 1024 = (x : Int) := by omega
      have hxb : x < 1024 := by omega
      have HX := Lib.hid (show (i * sN) % 1024 = x by rw [hP]; exact hx)
      clear hP hx
      have HT3 := Lib.hid (HT.out.put HR.out (show i < 1024 by omega))
      rw [HX.out] at HT3
      have CP := Lib.hid (put_anyIi rw_ord (n1 + 1) (n1 + 1 + 1) (x : Int) (i : Int) t wr HGt.out (by have := HT.out.many; omega) ⟨by omega, by omega⟩ (fun q hq => by
        obtain ⟨j, hj, rfl⟩ := (HT.out.mem q).mp hq
        exact ⟨by show (-1000000 : Int) ≤ (((j * sN) % 1024 : Nat) : Int); omega, by show (((j * sN) % 1024 : Nat) : Int) ≤ 1000000; omega⟩))
      rw [show decide ((withT (fun a b : Int => a - b) (x : Int) (i : Int) t).many = t.many) = false by rw [decide_eq_false_iff_not, HT3.out.many, HT.out.many]; omega] at CP
      go_wp2_with fail
      refine CP.out.mono ?_
      rintro e w5 ⟨rfl, hg5, hc5⟩
      have HGt5 := Lib.hid hg5
      have HC5 := Lib.hid (HC.out.trans hc5)
      clear hg5 hc5 CP
      go_wp2_with fail
      go_roundg (k - (i + 1))
      case measure => omega
      case rel => exact ⟨i + 1, by omega, by omega, by go_num, _, HGt5, HT3, HC5⟩
    · have hltz : ¬ (i : Int) < (k : Int) := by omega
      obtain rfl : i = k := by omega
      have HZr := Lib.hid (show n1 + 3 ≤ wr.heap.size by have := HC.out.size; have := HZ4.out; omega)
      have HC10 := Lib.hid c10
      have HC8 := Lib.hid c8
      go_wp2_with fail
      clear c8 c10 hgg hltz
      refine wp_region_invC mx (by kernel_rfl) (RwI wr f at_) ?_ ?_ ?_
      · intro vals
        refine ⟨(Below.refl _ _).drew, ?_, ?_, ?_, ?_, ?_, ?_, ?_, ?_, ?_, ?_, ?_, ?_, ?_⟩ <;> (intro h; cases h)
      · intro i o L vals w hi hL hdep hC hI
        have hlt : i < 10 := by have := (List.getElem?_eq_some_iff.1 hi).1; simpa using this
        generalize hA : frA _ _ L vals = a'
        have hT2 : a'.tmps.getD 2 undef = .int .u16 (f : Nat) := by rw [← hA, frA_base (by kernel_rfl)]; rfl
        have hT10 : a'.tmps.getD 10 undef = .pointer (some ⟨n1 + 2, 0, none⟩) := by rw [← hA, frA_base (by kernel_rfl)]; rfl
        have hD := Lib.hid (fun k t (hk : L k = true) (ht : dstOf _ k = some t) => hA ▸ frA_done (by kernel_rfl) (vals := vals) hk ht)
        clear hA
        have hz : n1 + 2 < wr.heap.size := by have := HZr.out; omega
        have cz := HC10.out
        obtain rfl | rfl | rfl | rfl | rfl | rfl | rfl | rfl | rfl | rfl : i = 0 ∨ i = 1 ∨ i = 2 ∨ i = 3 ∨ i = 4 ∨ i = 5 ∨ i = 6 ∨ i = 7 ∨ i = 8 ∨ i = 9 := by omega
        all_goals
          injection hi with hi
          subst hi
          try simp [Region.binds] at hdep
        · exact step_run rfl (v := .int .u16 (f : Nat)) (w' := w) (by go_simp) (by constructor <;> (try simp [updL, updV]) <;> first | exact hI.bel | exact hI.b4 | exact hI.b5 | exact hI.b6 | exact hI.n45 | exact hI.n46 | exact hI.n56 | exact hI.d7 | exact hI.d8 | exact hI.d9 | exact hI.v0 | exact hI.v1 | exact hI.v2 | exact hI.v3)
        · have h49 := hD.out 0 49 (by simp [hdep]) rfl
          rw [hI.v0 (by simp [hdep])] at h49
          exact step_run rfl (v := .int .i64 (f : Nat)) (w' := w) (by go_simp; exact IntWalk.i64_in _ (by omega)) (by constructor <;> (try simp [updL, updV]) <;> first | exact hI.bel | exact hI.b4 | exact hI.b5 | exact hI.b6 | exact hI.n45 | exact hI.n46 | exact hI.n56 | exact hI.d7 | exact hI.d8 | exact hI.d9 | exact hI.v0 | exact hI.v1 | exact hI.v2 | exact hI.v3)
        · have c0 : w.cell? ⟨n1 + 2, 0, none⟩ = some (.int .i64 1024) := by rw [hI.bel.cell (p := ⟨n1 + 2, 0, none⟩) hz]; exact cz
          exact step_run rfl (v := .int .i64 1024) (w' := w) (by go_simp) (by constructor <;> (try simp [updL, updV]) <;> first | exact hI.bel | exact hI.b4 | exact hI.b5 | exact hI.b6 | exact hI.n45 | exact hI.n46 | exact hI.n56 | exact hI.d7 | exact hI.d8 | exact hI.d9 | exact hI.v0 | exact hI.v1 | exact hI.v2 | exact hI.v3)
        · have h50 := hD.out 1 50 (by simp [hdep]) rfl
          rw [hI.v1 (by simp [hdep])] at h50
          have h51 := hD.out 2 51 (by simp [hdep]) rfl
          rw [hI.v2 (by simp [hdep])] at h51
          exact step_run rfl (v := .int .i64 (at_ : Nat)) (w' := w) (by go_simp; rw [Int.tmod_eq_emod_of_nonneg (by omega)]; exact hate) (by constructor <;> (try simp [updL, updV]) <;> first | exact hI.bel | exact hI.b4 | exact hI.b5 | exact hI.b6 | exact hI.n45 | exact hI.n46 | exact hI.n56 | exact hI.d7 | exact hI.d8 | exact hI.d9 | exact hI.v0 | exact hI.v1 | exact hI.v2 | exact hI.v3)
        · have hno : L 7 = false := by
            cases h : L 7 with
            | false => rfl
            | true => have := hI.d7 h; rw [hL] at this; cases this
          have hb' : Below w.heap.size w (w.alloc (.cells #[.int .i64 0] 3)) := (Below.refl _ _).alloc (Nat.le_refl _) _
          have hbel := hI.bel.trans (hb'.mono hI.bel.size)
          have hnew : CellI wr (.pointer (some ⟨w.heap.size, 0, none⟩)) (L 7) (.int .i64 (-1)) (w.alloc (.cells #[.int .i64 0] 3)) := by rw [hno]; exact CellI.new hI.bel.size _ _
          have hn5 := fun (h : L 5 = true) => (hI.b5 h).ne
          have hn6 := fun (h : L 6 = true) => (hI.b6 h).ne
          refine step_run rfl (v := .pointer (some ⟨w.heap.size, 0, none⟩)) (w' := w.alloc (.cells #[.int .i64 0] 3)) (by go_simp) ?_
          constructor <;> (try simp only [updL, updV, if_true, if_false, reduceIte, Nat.reduceEqDiff, reduceCtorEq]) <;> first | exact hbel | exact fun _ => hnew | exact fun h => (hI.b5 h).below hb' | exact fun h => (hI.b6 h).below hb' | exact fun h e => hn5 h e.symm | exact fun h e => hn6 h e.symm | exact fun h e => hn5 h e | exact fun h e => hn6 h e | exact hn5 | exact hn6 | exact hI.v0 | exact hI.v1 | exact hI.v2 | exact hI.v3 | exact hI.d7 | exact hI.d8 | exact hI.d9 | exact hI.n45 | exact hI.n46 | exact hI.n56 | exact fun _ h e => hn5 h e.symm | exact fun _ h e => hn6 h e.symm | exact fun h _ e => hn5 h e | exact fun h _ e => hn6 h e | exact fun h => absurd h (by rw [hno]; simp)
        · have hno : L 8 = false := by
            cases h : L 8 with
            | false => rfl
            | true => have := hI.d8 h; rw [hL] at this; cases this
          have hb' : Below w.heap.size w (w.alloc (.cells #[.int .i64 0] 3)) := (Below.refl _ _).alloc (Nat.le_refl _) _
          have hbel := hI.bel.trans (hb'.mono hI.bel.size)
          have hnew : CellI wr (.pointer (some ⟨w.heap.size, 0, none⟩)) (L 8) (.int .i64 0) (w.alloc (.cells #[.int .i64 0] 3)) := by rw [hno]; exact CellI.new hI.bel.size _ _
          have hn4 := fun (h : L 4 = true) => (hI.b4 h).ne
          have hn6 := fun (h : L 6 = true) => (hI.b6 h).ne
          refine step_run rfl (v := .pointer (some ⟨w.heap.size, 0, none⟩)) (w' := w.alloc (.cells #[.int .i64 0] 3)) (by go_simp) ?_
          constructor <;> (try simp only [updL, updV, if_true, if_false, reduceIte, Nat.reduceEqDiff, reduceCtorEq]) <;> first | exact hbel | exact fun _ => hnew | exact fun h => (hI.b4 h).below hb' | exact fun h => (hI.b6 h).below hb' | exact fun h e => hn4 h e.symm | exact fun h e => hn6 h e.symm | exact fun h e => hn4 h e | exact fun h e => hn6 h e | exact hn4 | exact hn6 | exact hI.v0 | exact hI.v1 | exact hI.v2 | exact hI.v3 | exact hI.d7 | exact hI.d8 | exact hI.d9 | exact hI.n45 | exact hI.n46 | exact hI.n56 | exact fun _ h e => hn4 h e.symm | exact fun _ h e => hn6 h e.symm | exact fun h _ e => hn4 h e | exact fun h _ e => hn6 h e | exact fun h => absurd h (by rw [hno]; simp)
        · have hno : L 9 = false := by
            cases h : L 9 with
            | false => rfl
            | true => have := hI.d9 h; rw [hL] at this; cases this
          have hb' : Below w.heap.size w (w.alloc (.cells #[.int .i64 0] 3)) := (Below.refl _ _).alloc (Nat.le_refl _) _
          have hbel := hI.bel.trans (hb'.mono hI.bel.size)
          have hnew : CellI wr (.pointer (some ⟨w.heap.size, 0, none⟩)) (L 9) (.int .i64 (at_ : Nat)) (w.alloc (.cells #[.int .i64 0] 3)) := by rw [hno]; exact CellI.new hI.bel.size _ _
          have hn4 := fun (h : L 4 = true) => (hI.b4 h).ne
          have hn5 := fun (h : L 5 = true) => (hI.b5 h).ne
          refine step_run rfl (v := .pointer (some ⟨w.heap.size, 0, none⟩)) (w' := w.alloc (.cells #[.int .i64 0] 3)) (by go_simp) ?_
          constructor <;> (try simp only [updL, updV, if_true, if_false, reduceIte, Nat.reduceEqDiff, reduceCtorEq]) <;> first | exact hbel | exact fun _ => hnew | exact fun h => (hI.b4 h).below hb' | exact fun h => (hI.b5 h).below hb' | exact fun h e => hn4 h e.symm | exact fun h e => hn5 h e.symm | exact fun h e => hn4 h e | exact fun h e => hn5 h e | exact hn4 | exact hn5 | exact hI.v0 | exact hI.v1 | exact hI.v2 | exact hI.v3 | exact hI.d7 | exact hI.d8 | exact hI.d9 | exact hI.n45 | exact hI.n46 | exact hI.n56 | exact fun _ h e => hn4 h e.symm | exact fun _ h e => hn5 h e.symm | exact fun h _ e => hn4 h e | exact fun h _ e => hn5 h e | exact fun h => absurd h (by rw [hno]; simp)
        · have hdl : L 4 = true := by simp [hdep]
          have h7 := hD.out 4 12 hdl rfl
          obtain ⟨b, y, hv, hbs, hh, _⟩ := hI.b4 hdl
          rw [hv] at h7
          have c6 : w.cell? ⟨b, 0, none⟩ = some y := cell_at hh 0
          have f6 : w.frozen? ⟨b, 0, none⟩ = false := frozen_at hh 0
          have hbel := hI.bel.setCell (p := ⟨b, 0, none⟩) hbs (.int .i64 (-1))
          have hnew : CellI wr (vals 4) true (.int .i64 (-1)) (w.setCell ⟨b, 0, none⟩ (.int .i64 (-1))) := ⟨b, _, hv, hbs, set_at hh 0 _, fun _ => rfl⟩
          have ho5 := fun (h : L 5 = true) => (hI.b5 h).store (.int .i64 (-1)) hv (fun e => hI.n45 hdl h e)
          have ho6 := fun (h : L 6 = true) => (hI.b6 h).store (.int .i64 (-1)) hv (fun e => hI.n46 hdl h e)
          refine stepI_skip rfl (w' := w.setCell ⟨b, 0, none⟩ (.int .i64 (-1))) (by go_simp) ?_
          constructor <;> (try simp only [updL, updV, if_true, if_false, reduceIte, Nat.reduceEqDiff, reduceCtorEq]) <;> first | exact hbel | exact fun _ => hnew | exact ho5 | exact ho6 | exact hI.v0 | exact hI.v1 | exact hI.v2 | exact hI.v3 | exact hI.d7 | exact hI.d8 | exact hI.d9 | exact hI.n45 | exact hI.n46 | exact hI.n56 | exact fun _ => hdl
        · have hdl : L 5 = true := by simp [hdep]
          have h7 := hD.out 5 13 hdl rfl
          obtain ⟨b, y, hv, hbs, hh, _⟩ := hI.b5 hdl
          rw [hv] at h7
          have c6 : w.cell? ⟨b, 0, none⟩ = some y := cell_at hh 0
          have f6 : w.frozen? ⟨b, 0, none⟩ = false := frozen_at hh 0
          have hbel := hI.bel.setCell (p := ⟨b, 0, none⟩) hbs (.int .i64 0)
          have hnew : CellI wr (vals 5) true (.int .i64 0) (w.setCell ⟨b, 0, none⟩ (.int .i64 0)) := ⟨b, _, hv, hbs, set_at hh 0 _, fun _ => rfl⟩
          have ho4 := fun (h : L 4 = true) => (hI.b4 h).store (.int .i64 0) hv (fun e => hI.n45 h hdl e.symm)
          have ho6 := fun (h : L 6 = true) => (hI.b6 h).store (.int .i64 0) hv (fun e => hI.n56 hdl h e)
          refine stepI_skip rfl (w' := w.setCell ⟨b, 0, none⟩ (.int .i64 0)) (by go_simp) ?_
          constructor <;> (try simp only [updL, updV, if_true, if_false, reduceIte, Nat.reduceEqDiff, reduceCtorEq]) <;> first | exact hbel | exact fun _ => hnew | exact ho4 | exact ho6 | exact hI.v0 | exact hI.v1 | exact hI.v2 | exact hI.v3 | exact hI.d7 | exact hI.d8 | exact hI.d9 | exact hI.n45 | exact hI.n46 | exact hI.n56 | exact fun _ => hdl
        · have hdl : L 6 = true := by simp [hdep]
          have h7 := hD.out 6 14 hdl rfl
          have h52 := hD.out 3 52 (by simp [hdep]) rfl
          rw [hI.v3 (by simp [hdep])] at h52
          obtain ⟨b, y, hv, hbs, hh, _⟩ := hI.b6 hdl
          rw [hv] at h7
          have c6 : w.cell? ⟨b, 0, none⟩ = some y := cell_at hh 0
          have f6 : w.frozen? ⟨b, 0, none⟩ = false := frozen_at hh 0
          have hbel := hI.bel.setCell (p := ⟨b, 0, none⟩) hbs (.int .i64 (at_ : Nat))
          have hnew : CellI wr (vals 6) true (.int .i64 (at_ : Nat)) (w.setCell ⟨b, 0, none⟩ (.int .i64 (at_ : Nat))) := ⟨b, _, hv, hbs, set_at hh 0 _, fun _ => rfl⟩
          have ho4 := fun (h : L 4 = true) => (hI.b4 h).store (.int .i64 (at_ : Nat)) hv (fun e => hI.n46 h hdl e.symm)
          have ho5 := fun (h : L 5 = true) => (hI.b5 h).store (.int .i64 (at_ : Nat)) hv (fun e => hI.n56 h hdl e.symm)
          refine stepI_skip rfl (w' := w.setCell ⟨b, 0, none⟩ (.int .i64 (at_ : Nat))) (by go_simp) ?_
          constructor <;> (try simp only [updL, updV, if_true, if_false, reduceIte, Nat.reduceEqDiff, reduceCtorEq]) <;> first | exact hbel | exact fun _ => hnew | exact ho4 | exact ho5 | exact hI.v0 | exact hI.v1 | exact hI.v2 | exact hI.v3 | exact hI.d7 | exact hI.d8 | exact hI.d9 | exact hI.n45 | exact hI.n46 | exact hI.n56 | exact fun _ => hdl
      · intro vals w hI
        obtain ⟨bl, yl, v4, hbl, hhl, hyl⟩ := hI.b4 rfl
        obtain ⟨bm, ym, v5, hbm, hhm, hym⟩ := hI.b5 rfl
        obtain ⟨ba, ya, v6, hba, hha, hya⟩ := hI.b6 rfl
        obtain rfl := hyl rfl
        obtain rfl := hym rfl
        obtain rfl := hya rfl
        have nlm : bl ≠ bm := fun e => hI.n45 rfl rfl (by rw [v4, v5, e])
        have nla : bl ≠ ba := fun e => hI.n46 rfl rfl (by rw [v4, v6, e])
        have nma : bm ≠ ba := fun e => hI.n56 rfl rfl (by rw [v5, v6, e])
        have hbel := hI.bel
        have hzw := hbel.size
        have e0 := hI.v0 rfl
        have e1 := hI.v1 rfl
        have e2 := hI.v2 rfl
        have e3 := hI.v3 rfl
        clear hI hyl hym hya
        simp only [putsL, Act.put, List.setIfInBounds_toArray, List.set_cons_zero, List.set_cons_succ, e0, e1, e2, e3, v4, v5, v6]
        clear e0 e1 e2 e3 v4 v5 v6
        generalize vals (0 + 1 + 1 + 1 + 1 + 1 + 1 + 1) = z7
        generalize vals (0 + 1 + 1 + 1 + 1 + 1 + 1 + 1 + 1) = z8
        generalize vals (0 + 1 + 1 + 1 + 1 + 1 + 1 + 1 + 1 + 1) = z9
        have hzr := HZr.out
        obtain ⟨g1, g2, p, g3, g4⟩ := HGt.out
        have g3' : w.heap[n1 + 1]? = _ := (hbel.block (n1 + 1) (by omega)).trans g3
        have g4' : TrIi (fun j => n1 + 1 + 1 ≤ j ∧ j ≠ bl ∧ j ≠ bm) w p t := TrS.below (TrS.mono (fun j h1 h2 => ⟨h1, by omega, by omega⟩) g4) hbel
        have cs : w.cell? ⟨n1, 0, none⟩ = some (.int .i64 (sN : Nat)) := by rw [hbel.cell (p := ⟨n1, 0, none⟩) (by show n1 < _; omega)]; exact HC8.out
        have cz : w.cell? ⟨n1 + 2, 0, none⟩ = some (.int .i64 1024) := by rw [hbel.cell (p := ⟨n1 + 2, 0, none⟩) (by show n1 + 2 < _; omega)]; exact HC10.out
        have ca : w.cell? ⟨ba, 0, none⟩ = some (.int .i64 (at_ : Nat)) := cell_at hha 0
        have lla := (Array.getElem?_eq_some_iff.1 hha).1
        have hj : TwoJ w bl bm (.int .i64 (-1)) (.int .i64 0) w := ⟨nlm, (Array.getElem?_eq_some_iff.1 hhl).1, (Array.getElem?_eq_some_iff.1 hhm).1, cell_at hhl 0, cell_at hhm 0, frozen_at hhl 0, frozen_at hhm 0, Chg2.refl _ _ _⟩
        have hLl : fromT (fun a b : Int => a - b) (at_ : Int) t = t.list.filter fun p => decide ((at_ : Int) ≤ p.1) := by
          rw [from_list cmp_sub0 _ t HT.out.fine.rise]
          unfold from_
          refine List.filter_congr fun p _ => ?_
          rw [decide_eq_decide]
          show ¬ p.1 - (at_ : Int) < 0 ↔ (at_ : Int) ≤ p.1
          omega
        have hcl := HT.out.cnt at_
        rw [← hLl] at hcl
        obtain ⟨ok1, ok2⟩ := rw_run at_ sN (fromT (fun a b : Int => a - b) (at_ : Int) t) (-1) 0 (fun q hq => by
            rw [hLl] at hq
            obtain ⟨j, _, rfl⟩ := (HT.out.mem q).mp (List.mem_filter.mp hq).1
            show (-1 : Int) < (((j * sN) % 1024 : Nat) : Int); omega) (by rw [hLl]; exact HT.out.fine.rise.sublist List.filter_sublist) (fun q hq => by
            rw [hLl] at hq
            obtain ⟨hq1, hq2⟩ := List.mem_filter.mp hq
            obtain ⟨j, hj, rfl⟩ := (HT.out.mem q).mp hq1
            exact ⟨by simpa using hq2, j, by omega, rfl⟩) (by decide) (by rw [hcl]; have := cntR_le sN at_ i; omega)
        have CW := Lib.hid (gwalk_anyIi (rw_see bl ba n1 (n1 + 2) bm at_ sN hsb w ⟨nla.symm, nma.symm⟩ ⟨by omega, by omega⟩ ⟨by omega, by omega⟩ lla (by omega) (by omega) ca cs cz) rw_ord (n1 + 1)
          (fun s W h => ⟨by have := h.chg.size; omega, by rw [h.chg.cell (by omega) (by omega) (by omega)]; exact cell_at g3' 0⟩) (at_ : Int) ⟨by omega, by omega⟩ t p (TrS.mono (fun j h _ => h.2) g4') (fun q hq => by
            obtain ⟨j, hj, rfl⟩ := (HT.out.mem q).mp hq
            exact ⟨by show (-1000000 : Int) ≤ (((j * sN) % 1024 : Nat) : Int); omega, by show (((j * sN) % 1024 : Nat) : Int) ≤ 1000000; omega⟩) (-1, 0) ok1 w hj (by omega) (cell_at g3' 1))
        rw [hcl] at ok2
        have HCW := Lib.hid hbel
        have HG3 := Lib.hid g3'
        have HG4 := Lib.hid g4'
        have HCS := Lib.hid cs
        have HCZ := Lib.hid cz
        have HCA := Lib.hid ca
        have HLA := Lib.hid lla
        have HNL := Lib.hid (show wr.heap.size ≤ bl ∧ wr.heap.size ≤ bm ∧ ba ≠ bl ∧ ba ≠ bm from ⟨hbl, hbm, nla.symm, nma.symm⟩)
        have HOK := Lib.hid ok2
        have HZW := Lib.hid hzw
        clear hbel hzw hzr g1 g2 g3 g4 g3' g4' cs cz lla hj hLl hcl ok1 ok2 hhl hhm hha nlm nla nma hbl hbm hba HGt
        go_wp2_with fail
        clear ca
        refine CW.out.mono ?_
        rintro e w6 ⟨rfl, hj6⟩
        have c13 : w6.cell? ⟨bm, 0, none⟩ = some (.int .i64 (runS rwF (-1, 0) (fromT (fun a b : Int => a - b) (at_ : Int) t)).1.2) := hj6.cb
        rw [HOK.out, Int.zero_add] at c13
        have hg6 := hj6.chg
        have lbm := hj6.lb
        have hnl := HNL.out
        have HZ6 := Lib.hid (show wr.heap.size ≤ w6.heap.size by have := hg6.size; have := HZW.out; omega)
        have hzr := HZr.out
        have hzw := HZW.out
        have HG6 := Lib.hid (show GrIi (.func (.func 9) #[] #[]) (n1 + 1 + 1) w6 (n1 + 1) t from
          ⟨by omega, by have := HZ6.out; omega, p, by rw [hg6.block (n1 + 1) (by omega) (by omega) (by omega)]; exact HG3.out, TrS.mono (fun j h _ => h.1) (TrS.chg2 HG4.out hg6 (fun h => h.2.1 rfl) (fun h => h.2.2 rfl))⟩)
        have HCS6 := Lib.hid (show w6.cell? ⟨n1, 0, none⟩ = some (.int .i64 (sN : Nat)) by rw [hg6.cell (by omega) (by omega) (by omega)]; exact HCS.out)
        have HCZ6 := Lib.hid (show w6.cell? ⟨n1 + 2, 0, none⟩ = some (.int .i64 1024) by rw [hg6.cell (by omega) (by omega) (by omega)]; exact HCZ.out)
        have HCA6 := Lib.hid (show w6.cell? ⟨ba, 0, none⟩ = some (.int .i64 (at_ : Nat)) by rw [hg6.cell HLA.out hnl.2.2.1 hnl.2.2.2]; exact HCA.out)
        have HLA6 := Lib.hid (show ba < w6.heap.size by have := HLA.out; have := hg6.size; omega)
        have HC13 := Lib.hid c13
        have HLM6 := Lib.hid lbm
        have HB6 := Lib.hid (show Below n1 w1 w6 from by
          have hb : Below n1 w4 wr := HC.out.below (by omega) (by have := HZ4.out; omega)
          have hb2 : Below n1 wr w := HCW.out.mono (by omega)
          have hb3 : Below n1 w w6 := ⟨hg6.os, hg6.tape, hg6.output, hg6.size, fun j hj => hg6.block j (by omega) (by omega) (by omega)⟩
          exact ((HB4.out.trans hb).trans hb2).trans hb3)
        clear hj6 c13 hg6 lbm hnl hzr hzw CW HCW HG3 HG4 HCS HCZ HCA HLA HOK HZW HC10 HC8 HC
        go_wp2_with fail
        obtain ⟨wo, hwo⟩ : ∃ wo, wo = wr := ⟨_, rfl⟩
        go_loopg [15, 16] i (fun gg v15 v16 wr => ∃ q : Nat, q ≤ i ∧ i - q ≤ gg ∧ v15 = .int .i64 (cntR sN at_ q : Nat) ∧ v16 = .int .i64 q ∧ Hid (Below w6.heap.size w6 wr))
        case atStart => exact ⟨0, by omega, by omega, rfl, rfl, Lib.hid (Below.refl _ _)⟩
        case round =>
          obtain ⟨q, hq, hgg, rfl, rfl, HBq⟩ := hrel
          have hcq := cntR_le sN at_ q
          have hcs := cntR_succ sN at_ q
          by_cases hlt : q < i
          · have hltz : (q : Int) < (i : Int) := by omega
            obtain ⟨P, hP⟩ : ∃ P : Nat, q * sN = P := ⟨_, rfl⟩
            have hPe : (q : Int) * (sN : Int) = (P : Int) := by rw [← hP]; exact (Int.natCast_mul q sN).symm
            have hPb : P ≤ 262144 := by rw [← hP]; exact Nat.le_trans (Nat.mul_le_mul (show q ≤ 1024 by omega) (show sN ≤ 256 by omega)) (by decide)
            obtain ⟨x, hx⟩ : ∃ x : Nat, P % 1024 = x := ⟨_, rfl⟩
            have hxe : (P : Int) % 1024 = (x : Int) := by omega
            rw [hP, hx] at hcs
            have hc8 : n1 < w6.heap.size := by have := HZ6.out; have := HZr.out; omega
            have hc10 : n1 + 2 < w6.heap.size := by have := HZ6.out; have := HZr.out; omega
            have c8 : wr.cell? ⟨n1, 0, none⟩ = some (.int .i64 (sN : Nat)) := by rw [HBq.out.cell (p := ⟨n1, 0, none⟩) hc8]; exact HCS6.out
            have c10 : wr.cell? ⟨n1 + 2, 0, none⟩ = some (.int .i64 1024) := by rw [HBq.out.cell (p := ⟨n1 + 2, 0, none⟩) hc10]; exact HCZ6.out
            have ca : wr.cell? ⟨ba, 0, none⟩ = some (.int .i64 (at_ : Nat)) := by rw [HBq.out.cell (p := ⟨ba, 0, none⟩) HLA6.out]; exact HCA6.out
            have HCQ := Lib.hid hcs
            clear hcs hP hx hc8 hc10
            obtain ⟨cq, hcqe⟩ : ∃ cq, cntR sN at_ q = cq := ⟨_, rfl⟩
            rw [hcqe] at hcq HCQ ⊢
            clear hcqe
            go_wp2_with fail
            have hPw : IntKind.i64.wrap ((q : Int) * (sN : Int)) = (P : Int) := by rw [hPe]; exact IntWalk.i64_in _ (by omega)
            have hPw2 : IntKind.i64.wrap (P : Int) = (P : Int) := IntWalk.i64_in _ (by omega)
            have hxt : (P : Int).tmod 1024 = (x : Int) := by rw [Int.tmod_eq_emod_of_nonneg (by omega)]; exact hxe
            have HBd := Lib.hid (fun n => below_drewN HBq.out n)
            go_quiet (fail)
            clear hPw hPw2 hxt
            by_cases hax : at_ ≤ x
            · have haz : (at_ : Int) ≤ (x : Int) := by omega
              rw [if_pos hax] at HCQ
              go_wp2_with fail
              go_roundg (i - (q + 1))
              case measure => omega
              case rel => exact ⟨q + 1, by omega, by omega, by rw [HCQ.out]; go_num, by go_num, Lib.hid (HBd.out _)⟩
            · have haz : ¬ (at_ : Int) ≤ (x : Int) := by omega
              rw [if_neg hax] at HCQ
              go_wp2_with fail
              go_roundg (i - (q + 1))
              case measure => omega
              case rel => exact ⟨q + 1, by omega, by omega, by rw [HCQ.out]; rfl, by go_num, Lib.hid (HBd.out _)⟩
          · have hltz : ¬ (q : Int) < (i : Int) := by omega
            obtain rfl : q = i := by omega
            have c13 : wr.cell? ⟨bm, 0, none⟩ = some (.int .i64 (cntR sN at_ q : Nat)) := by rw [HBq.out.cell (p := ⟨bm, 0, none⟩) HLM6.out]; exact HC13.out
            have HG7 := Lib.hid (HG6.out.below HBq.out)
            have HCS7 := Lib.hid (show wr.cell? ⟨n1, 0, none⟩ = some (.int .i64 (sN : Nat)) by rw [HBq.out.cell (p := ⟨n1, 0, none⟩) (by have := HZ6.out; have := HZr.out; show n1 < _; omega)]; exact HCS6.out)
            have HCZ7 := Lib.hid (show wr.cell? ⟨n1 + 2, 0, none⟩ = some (.int .i64 1024) by rw [HBq.out.cell (p := ⟨n1 + 2, 0, none⟩) (by have := HZ6.out; have := HZr.out; show n1 + 2 < _; omega)]; exact HCZ6.out)
            have HB7 := Lib.hid (HB6.out.trans (HBq.out.mono (by have := HZ6.out; have := HZr.out; omega)))
            have HZ7 := Lib.hid (show n1 + 3 ≤ wr.heap.size by have := HBq.out.size; have := HZ6.out; have := HZr.out; omega)
            have CD := Lib.hid (gdepth_anyIi HG7.out)
            have HFB := Lib.hid HT.out.fine.bal
            have HHalf := Lib.hid (Half.start HT.out)
            have HTm := Lib.hid HT.out.many
            have hcql := cntR_le sN at_ q
            clear HBq HG6 HCS6 HCZ6 HB6 HZ6 HCA6 HLA6 HC13 HLM6 hcs hgg hwo
            obtain ⟨cq, hcqe⟩ : ∃ cq, cntR sN at_ q = cq := ⟨_, rfl⟩
            rw [hcqe] at c13 hcql ⊢
            clear hcqe hcq
            go_wp2_with fail
            refine CD.out.mono ?_
            rintro e wz ⟨rfl, rfl⟩
            go_wp2_with fail
            refine (len_bits q (by omega) _).mono ?_
            rintro e wz ⟨⟨L, rfl, hL1, hL2⟩, rfl⟩
            have hdd : (t.deep : Int) ≤ 2 + 4 * (L : Int) := by have := deep_bits t HFB.out L (by rw [HTm.out]; exact hL1); omega
            have hdn : ¬ 2 + 4 * (L : Int) < (t.deep : Int) := by omega
            have hLz : (L : Int) ≤ 16 := by omega
            clear hL1 hL2 CD
            go_wp2_with fail
            clear hdd hdn hLz c13 HFB HTm
            obtain ⟨w7, hw7⟩ : ∃ w7, w7 = wr := ⟨_, rfl⟩
            rw [← hw7] at HG7 HCS7 HCZ7 HB7 HZ7 ⊢
            clear hw7 wo
            go_loopg [17] (q + 2) (fun gg v17 wr => ∃ y : Nat, y ≤ q + 1 ∧ y % 2 = 0 ∧ q + 2 - y ≤ gg ∧ v17 = .int .i64 y ∧ ∃ t : GT Int Int, Hid (GrIi (.func (.func 9) #[] #[]) (n1 + 1 + 1) wr (n1 + 1) t) ∧ Hid (Half sN q y t) ∧ Hid (Chg (n1 + 1) w7 wr))
            case atStart => exact ⟨0, by omega, rfl, by omega, rfl, t, HG7, HHalf, Lib.hid (Chg.of_below (Below.refl _ _))⟩
            case round =>
              clear HT HHalf
              obtain ⟨y, hyq, hye, hgg, rfl, t, HGt, HH, HC⟩ := hrel
              have HYE := Lib.hid hye
              clear hye
              have c8 : wr.cell? ⟨n1, 0, none⟩ = some (.int .i64 (sN : Nat)) := by rw [HC.out.cell (by have := HZ7.out; omega) (by omega)]; exact HCS7.out
              have c10 : wr.cell? ⟨n1 + 2, 0, none⟩ = some (.int .i64 1024) := by rw [HC.out.cell (by have := HZ7.out; omega) (by omega)]; exact HCZ7.out
              have hsmall : ∀ z ∈ t.list, smallK z.1 := fun z hz => by
                obtain ⟨j, hj, _, rfl⟩ := (HH.out.mem z).mp hz
                exact ⟨by show (-1000000 : Int) ≤ (((j * sN) % 1024 : Nat) : Int); omega, by show (((j * sN) % 1024 : Nat) : Int) ≤ 1000000; omega⟩
              have HSM := Lib.hid hsmall
              clear hsmall
              have HMq := Lib.hid (show t.many ≤ q by rcases HH.out.many with h | ⟨_, h⟩ <;> omega)
              by_cases hlt : y < q
              · have hltz : (y : Int) < (q : Int) := by omega
                obtain ⟨P, hP⟩ : ∃ P : Nat, y * sN = P := ⟨_, rfl⟩
                have hPe : (y : Int) * (sN : Int) = (P : Int) := by rw [← hP]; exact (Int.natCast_mul y sN).symm
                have hPb : P ≤ 262144 := by rw [← hP]; exact Nat.le_trans (Nat.mul_le_mul (show y ≤ 1024 by omega) (show sN ≤ 256 by omega)) (by decide)
                obtain ⟨x, hx⟩ : ∃ x : Nat, P % 1024 = x := ⟨_, rfl⟩
                have hxe : (P : Int) % 1024 = (x : Int) := by omega
                have hxb : x < 1024 := by omega
                have HX := Lib.hid (show (y * sN) % 1024 = x by rw [hP]; exact hx)
                clear hP hx
                have hin := HH.out.yes hlt HYE.out
                have HH3 := Lib.hid (HH.out.take HR.out hk2 hlt HYE.out)
                rw [HX.out] at hin HH3
                have CT := Lib.hid (gtake_anyIi rw_ord (n1 + 1) (n1 + 1 + 1) (x : Int) t wr HGt.out (by have := HMq.out; omega) ⟨by omega, by omega⟩ HSM.out)
                obtain ⟨fa, fl, fr, hfe⟩ := find_yes cmp_sub0 HH.out.fine hin
                rw [hfe, show valVIi (GT.node fa (y : Int) fl fr) = .int .i64 (y : Int) from rfl, show isV (GT.node fa (y : Int) fl fr) = true from rfl] at CT
                clear hin hfe
                go_wp2_with fail
                refine CT.out.mono ?_
                rintro e w8 ⟨rfl, hg8, hc8⟩
                have HG8 := Lib.hid hg8
                have HC8' := Lib.hid (HC.out.trans hc8)
                clear hg8 hc8 CT
                go_wp2_with fail
                go_roundg (q + 2 - (y + 2))
                case measure => omega
                case rel => exact ⟨y + 2, by omega, by have := HYE.out; omega, by omega, by go_num, _, HG8, HH3, HC8'⟩
              · have hltz : ¬ (y : Int) < (q : Int) := by omega
                have hno := HH.out.zero ⟨r, HR.out⟩ hk2 hk1 (by omega)
                have CT := Lib.hid (gtake_anyIi rw_ord (n1 + 1) (n1 + 1 + 1) 0 t wr HGt.out (by have := HMq.out; omega) ⟨by decide, by decide⟩ HSM.out)
                have hfe := find_no cmp_sub0 HH.out.fine hno
                rw [hfe, show valVIi (GT.nil : GT Int Int) = .int .i64 0 from rfl, show isV (GT.nil : GT Int Int) = false from rfl, take_nil _ _ _ hfe] at CT
                have HM2 := Lib.hid (show t.many = q / 2 by have := HYE.out; rcases HH.out.many with h | ⟨_, h⟩ <;> omega)
                clear hno hfe c8 c10
                go_wp2_with fail
                refine CT.out.mono ?_
                rintro e w8 ⟨rfl, hg8, hc8⟩
                have HB8 := Lib.hid (HB7.out.trans ((HC.out.trans hc8).below (by omega) (by have := HZ7.out; omega)))
                have CL := Lib.hid (glen_anyIi hg8 (by have := HMq.out; omega))
                have CD := Lib.hid (gdepth_anyIi hg8)
                obtain ⟨d, hd⟩ : ∃ d, q / 2 = d := ⟨_, rfl⟩
                have hdi : (q : Int) / 2 = (d : Int) := by omega
                have hdb : d ≤ 300 := by omega
                rw [HM2.out, hd] at CL
                have HMD := Lib.hid (show t.many = d by rw [HM2.out]; exact hd)
                clear hg8 hc8 CT hd HM2
                go_wp2_with fail
                refine CL.out.mono ?_
                rintro e wz ⟨rfl, rfl⟩
                go_wp2_with fail
                refine CD.out.mono ?_
                rintro e wz ⟨rfl, rfl⟩
                go_wp2_with fail
                refine (len_bits d (by omega) _).mono ?_
                rintro e wz ⟨⟨L, rfl, hL1, hL2⟩, rfl⟩
                have hdd : (t.deep : Int) ≤ 2 + 4 * (L : Int) := by have := deep_bits t HH.out.fine.bal L (by rw [HMD.out]; exact hL1); omega
                have hLz : (L : Int) ≤ 16 := by omega
                clear hL1 hL2 CD CL
                go_wp2_with fail
                go_ret
                exact ⟨rfl, HB1.out.trans (HB8.out.mono (by have := HB1.out.size; have := HN1.out; omega))⟩

theorem rows_args (a b c : Int) (ha : (Lit.int .u16 a).wf = true) (hb : (Lit.int .u8 b).wf = true) (hc : (Lit.int .u16 c).wf = true) (W : World) :
    Calls Try.prog 3 #[.int .u16 a, .int .u8 b, .int .u16 c] W fun e w' => e = .returned (.bool true) ∧ Below W.heap.size W w' := by
  obtain ⟨n, hn, rfl⟩ := nat_u16 ha
  obtain ⟨st, hst, rfl⟩ := nat_u8 hb
  obtain ⟨f, hf, rfl⟩ := nat_u16 hc
  exact rows_walk n st f hn hst hf W
end Go.Proofs.Ytaghflionakhhaa
