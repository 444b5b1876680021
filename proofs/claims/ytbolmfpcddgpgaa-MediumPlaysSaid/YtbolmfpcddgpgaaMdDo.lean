/-
  Layer medium: a medium and the reference's beside it; the law's 'do'.
-/
import Derived.Test.YtbolmfpcddgpgaaMdOps
import Derived.Test.YtbolmfpcddgpgaaMdRef
namespace Go.Proofs.Ytbolmfpcddgpgaa
open Go.RowKit Go.Gz

/-- a medium with S and L, the reference's with X of which l are loose, in blocks of their own. -/
structure Half (w : World) (B M R : Nat) (vs vl : Value) (S L : List UInt8) (p : Option Addr) (c : Nat) (X : List UInt8) (l : Nat) : Prop where
  m : MedAt w B M vs vl S L
  r : RefAt w R p c X l
  bR : B ≤ R
  nR : ¬ InF M vs vl R
  np : ∀ b, p.map (·.block) = some b → b < w.heap.size ∧ ¬ InF M vs vl b ∧ b ≠ R
namespace Half
variable {w w1 : World} {B M R : Nat} {vs vl : Value} {S L X : List UInt8} {p : Option Addr} {c l : Nat}
theorem turned (h : Half w B M R vs vl S L p c X l) {S' L' : List UInt8} (ht : Turned w B M vs vl S' L' w1) : ∃ vs' vl', Half w1 B M R vs' vl' S' L' p c X l ∧ Below B w w1 ∧ Kept (InF M vs vl) w w1 := by
  obtain ⟨vs', vl', h1, h2, h3⟩ := ht
  refine ⟨vs', vl', ⟨h1, h.r.kept h2 h.nR fun b hb => (h.np b hb).2.1, h.bR, fun e => ?_, fun b hb => ⟨by have := (h.np b hb).1; have := h2.size; omega, fun e => ?_, (h.np b hb).2.2⟩⟩, h2.below (fun k hk => (h.m.low k hk).1) h.m.hB, h2⟩
  · rcases h3 R e with h4 | h4
    · exact h.nR h4
    · have := h.r.lt; omega
  · rcases h3 b e with h4 | h4
    · exact (h.np b hb).2.1 h4
    · have := (h.np b hb).1; omega
theorem below (h : Half w B M R vs vl S L p c X l) (hb : Below w.heap.size w w1) : Half w1 B M R vs vl S L p c X l :=
  ⟨h.m.kept (Kept.of_below (F := fun _ => False) hb) fun _ _ h => h, h.r.kept (Kept.of_below (F := fun _ => False) hb) (fun h => h) fun _ _ h => h, h.bR, h.nR, fun b e => ⟨by have := (h.np b e).1; have := hb.size; omega, (h.np b e).2⟩⟩
theorem setR (h : Half w B M R vs vl S L p c X l) (hk : Kept (fun k => k = R) w w1) {p' : Option Addr} {c' l' : Nat} {X' : List UInt8} (hr : RefAt w1 R p' c' X' l') (hp : p' = p ∨ ∀ b, p'.map (·.block) = some b → w.heap.size ≤ b ∧ b < w1.heap.size) :
    Half w1 B M R vs vl S L p' c' X' l' ∧ Below B w w1 := by
  refine ⟨⟨h.m.kept hk fun k hk' e => h.nR (by have e : k = R := e; rw [← e]; exact hk'), hr, h.bR, h.nR, fun b hb => ?_⟩, hk.below (fun k e => by have e : k = R := e; rw [e]; exact h.bR) h.m.hB⟩
  rcases hp with rfl | hp
  · exact ⟨by have := (h.np b hb).1; have := hk.size; omega, (h.np b hb).2⟩
  · have h1 := hp b hb
    exact ⟨h1.2, fun e => by have := (h.m.low b e).2; omega, fun e => by have := h.r.lt; omega⟩
end Half

/-- .. that are alike. -/
def Pair (w : World) (B M R n : Nat) : Prop := ∃ vs vl p c S L, Half w B M R vs vl S L p c (S ++ L) L.length ∧ S.length + L.length ≤ n

def deedV (D N : Int) (p : Option Addr) (n c : Nat) : Value := .agg #[.int .i64 D, .int .i64 N, .slice p n c]
def RetDo (w : World) (B M R n : Nat) (e : Ending) (w' : World) : Prop := e = .returned (.tuple #[]) ∧ Pair w' B M R n ∧ Below B w w'

section
variable {w : World} {B M R n : Nat}
set_option maxHeartbeats 4000000 in
set_option maxRecDepth 100000 in
theorem do_sync (h : Pair w B M R n) (hn : n ≤ 100000) (D N : Int) (hD : D = 4 ∨ D = 5) (m : Nat) (p : Option Addr) (c : Nat) :
    Calls Try.prog 10 #[.pointer (some ⟨M, 0, none⟩), .pointer (some ⟨R, 0, none⟩), deedV D N p m c] w (RetDo w B M R n) := by
  obtain ⟨vs, vl, pr, cr, S, L, hH, hlen⟩ := h
  have hb0 : Below w.heap.size w (w.alloc (.cells #[.int .i64 D, .int .i64 N, .slice p m c] 33)) := (Below.refl _ _).alloc (Nat.le_refl _) _
  have hB := hH.m.hB
  have HH := Lib.hid (hH.below hb0)
  have HL := Lib.hid (And.intro hlen (And.intro hn (hb0.mono hB)))
  have C1 := Lib.hid (sync_any HH.out.m (by omega))
  have HF := Lib.hid (show ∀ w3, Pair w3 B M R n ∧ Below B w w3 → RetDo w B M R n (.returned (.tuple #[])) w3 from fun w3 h => ⟨rfl, h⟩)
  have hDz : (D == 0) = false ∧ (D == 1) = false ∧ (D == 2) = false ∧ (D == 3) = false := by rcases hD with rfl | rfl <;> decide
  obtain ⟨z0, z1, z2, z3⟩ := hDz
  have z45 : ((D == 4) = true ∧ (D == 5) = false) ∨ ((D == 4) = false ∧ (D == 5) = true) := by rcases hD with rfl | rfl <;> decide
  clear hH hb0 hB hlen hn hD
  unfold deedV
  rcases z45 with ⟨z4, z5⟩ | ⟨z4, z5⟩
  all_goals
    go_enter Try.func10, Try.ntmps10
    go_wp2_with fail
    refine C1.out.mono ?_
    rintro e w1 ⟨rfl, ht⟩
    obtain ⟨vs', vl', h1, hb1, -⟩ := HH.out.turned ht
    have r0 := h1.r.c0
    have r1 := h1.r.c1
    have g1 := h1.r.f1
    have hr := h1.r
    have HX := Lib.hid h1
    have HB := Lib.hid (HL.out.2.2.trans hb1)
    have HE := Lib.hid (HF.out _ (by
      obtain ⟨a, b⟩ := h1.setR (Kept.set (F := fun k => k = R) (a := ⟨R, 1, none⟩) _ rfl) (h1.r.zero fun e => (h1.np R e).2.2 rfl) (Or.inl rfl)
      exact ⟨⟨vs', vl', pr, cr, S ++ L, [], by rw [List.append_nil]; exact a, by rw [List.length_append]; simpa using HL.out.1⟩, HB.out.trans b⟩))
    clear ht hb1 h1 hr
    go_wp2_with fail
    exact bodyPost_end (v := .tuple #[]) (by simp [results, Try.results10]) rfl HE.out

set_option maxHeartbeats 4000000 in
set_option maxRecDepth 100000 in
theorem do_crash (h : Pair w B M R n) (hn : n ≤ 100000) (N : Int) (m : Nat) (p : Option Addr) (c : Nat) :
    Calls Try.prog 10 #[.pointer (some ⟨M, 0, none⟩), .pointer (some ⟨R, 0, none⟩), deedV 6 N p m c] w (RetDo w B M R n) := by
  obtain ⟨vs, vl, pr, cr, S, L, hH, hlen⟩ := h
  have hb0 : Below w.heap.size w (w.alloc (.cells #[.int .i64 6, .int .i64 N, .slice p m c] 33)) := (Below.refl _ _).alloc (Nat.le_refl _) _
  have hB := hH.m.hB
  have HH := Lib.hid (hH.below hb0)
  have HL := Lib.hid (And.intro hlen (And.intro hn (hb0.mono hB)))
  obtain ⟨k, hk⟩ : ∃ k : Nat, min (max N 0) (L.length : Int) = (k : Int) := ⟨(min (max N 0) (L.length : Int)).toNat, by omega⟩
  have HKL := Lib.hid (show k ≤ L.length by omega)
  have C1 := Lib.hid (crash_any HH.out.m (by omega) N k hk)
  have C2 := Lib.hid (fun w1 vs' vl' S' L' (h : Half w1 B M R vs' vl' S' L' pr cr (S ++ L) L.length) => refCrash_any h.r (by rw [List.length_append]; omega) (by rw [List.length_append]; omega) (fun e => (h.np R e).2.2 rfl) N k hk)
  have HF := Lib.hid (show ∀ w3, Pair w3 B M R n ∧ Below B w w3 → RetDo w B M R n (.returned (.tuple #[])) w3 from fun w3 h => ⟨rfl, h⟩)
  have HT := Lib.hid (show (S ++ L).take ((S ++ L).length - L.length + k) = S ++ L.take k by
    rw [List.length_append, Nat.add_sub_cancel, List.take_append, List.take_of_length_le (by omega), Nat.add_sub_cancel_left])
  have c2 : (w.alloc (.cells #[.int .i64 6, .int .i64 N, .slice p m c] 33)).cell? ⟨w.heap.size, 1, none⟩ = some (.int .i64 N) := by simp [go_sem]
  have HC := Lib.hid c2
  have HZ := Lib.hid (show ∀ vs vl, Half w B M R vs vl S L pr cr (S ++ L) L.length → ¬ InF M vs vl w.heap.size from fun vs vl h e => by have := (h.m.low _ e).2; omega)
  have HG := Lib.hid (HZ.out _ _ hH)
  clear hH hb0 hB hlen hn hk c2 HZ
  unfold deedV
  go_enter Try.func10, Try.ntmps10
  go_wp2_with fail
  refine C1.out.mono ?_
  rintro e w1 ⟨rfl, ht⟩
  obtain ⟨vs', vl', h1, hb1, hk1⟩ := HH.out.turned ht
  have c2 : w1.cell? ⟨w.heap.size, 1, none⟩ = some (.int .i64 N) := by rw [hk1.cell (p := ⟨w.heap.size, 1, none⟩) (by simp) HG.out]; exact HC.out
  have HX := Lib.hid h1
  have HB := Lib.hid (HL.out.2.2.trans hb1)
  clear ht hb1 h1 hk1
  go_wp2_with fail
  refine (C2.out _ _ _ _ _ HX.out).mono ?_
  rintro e w2 ⟨rfl, hr, hk⟩
  rw [HT.out] at hr
  have HE := Lib.hid (HF.out w2 (by
      obtain ⟨a, b⟩ := HX.out.setR hk hr (Or.inl rfl)
      exact ⟨⟨vs', vl', pr, cr, S ++ L.take k, [], by rw [List.append_nil]; exact a, by rw [List.length_append, List.length_take]; have := HL.out.1; simp; omega⟩, HB.out.trans b⟩))
  clear hr hk
  go_wp2_with fail
  exact bodyPost_end (v := .tuple #[]) (by simp [results, Try.results10]) rfl HE.out

set_option maxHeartbeats 4000000 in
set_option maxRecDepth 100000 in
theorem do_swap (h : Pair w B M R n) (hn : n ≤ 100000) (N : Int) (b : List UInt8) (m : Nat) (hm : b.length = m) (hbl : m ≤ 100000) (p : Option Addr) (c : Nat) (hp : ∀ w', Below B w w' → Row w' .u8 p (nums b)) (hpc : p = none → c = 0) :
    Calls Try.prog 10 #[.pointer (some ⟨M, 0, none⟩), .pointer (some ⟨R, 0, none⟩), deedV 7 N p m c] w (RetDo w B M R (n + m)) := by
  obtain ⟨vs, vl, pr, cr, S, L, hH, hlen⟩ := h
  have hb0 : Below w.heap.size w (w.alloc (.cells #[.int .i64 7, .int .i64 N, .slice p m c] 33)) := (Below.refl _ _).alloc (Nat.le_refl _) _
  have hB := hH.m.hB
  have HH := Lib.hid (hH.below hb0)
  have HL := Lib.hid (And.intro hlen (And.intro hn (hb0.mono hB)))
  have HP := Lib.hid (And.intro (And.intro hp hpc) (And.intro hm hbl))
  have C1 := Lib.hid (swap_any HH.out.m b (by omega) m hm p c (hp _ (hb0.mono hB)) hpc)
  have HF := Lib.hid (show ∀ w3, Pair w3 B M R (n + m) ∧ Below B w w3 → RetDo w B M R (n + m) (.returned (.tuple #[])) w3 from fun w3 h => ⟨rfl, h⟩)
  have HC := Lib.hid (show (w.alloc (.cells #[.int .i64 7, .int .i64 N, .slice p m c] 33)).cell? ⟨w.heap.size, 2, none⟩ = some (.slice p m c) by simp [go_sem])
  have HG := Lib.hid (show ¬ InF M vs vl w.heap.size from fun e => by have := (hH.m.low _ e).2; omega)
  clear hH hb0 hB hlen hn hp hpc hm hbl
  unfold deedV
  go_enter Try.func10, Try.ntmps10
  go_wp2_with fail
  refine C1.out.mono ?_
  rintro e w1 ⟨rfl, ht⟩
  obtain ⟨vs', vl', h1, hb1, hk1⟩ := HH.out.turned ht
  have c2 : w1.cell? ⟨w.heap.size, 2, none⟩ = some (.slice p m c) := by rw [hk1.cell (p := ⟨w.heap.size, 2, none⟩) (by simp) HG.out]; exact HC.out
  have hlt := World.block_lt_of_cell? w1 _ c2
  have c2' : (w1.alloc (.cells #[] 5)).cell? ⟨w.heap.size, 2, none⟩ = some (.slice p m c) := by rw [((Below.refl w1.heap.size w1).alloc (Nat.le_refl _) _).cell (p := ⟨w.heap.size, 2, none⟩) hlt]; exact c2
  have HX := Lib.hid h1
  have HB := Lib.hid (HL.out.2.2.trans hb1)
  have HO := Lib.hid (own_empty8 w1 w1.heap.size (Nat.le_refl _))
  have HZ := Lib.hid (show B ≤ w1.heap.size from h1.m.hB)
  clear ht hb1 h1 hk1 hlt
  go_wp2_with (at_builtin; refine wpList_own_row rfl _ _ 28 rfl 5 .u8 1 Try.underlying28 info_byte (by decide) w1.heap.size _ [] rfl HO.out p c (nums b) (by rw [nums_length, HP.out.2.1]; rfl) (HP.out.1.1 _ (HB.out.alloc HZ.out _)) HP.out.1.2 (by rw [nums_length]; have := HP.out.2; simp; omega) (by simp) ?_)
  intro v5 w5 hown hgrow
  have hb5 : Below w1.heap.size w1 w5 := ((Below.refl _ _).alloc (Nat.le_refl _) (.cells #[] 5)).grown hgrow (by simp) (fun g hg => HO.out.lt g hg)
  obtain ⟨q5, d5, rfl, hd5, hq5, hr5⟩ := own_row hown
  rw [nums_length, HP.out.2.1] at hd5 ⊢
  have h5 := HX.out.below hb5
  have r0 := h5.r.c0
  have r1 := h5.r.c1
  have g0 := h5.r.f0
  have g1 := h5.r.f1
  have HE := Lib.hid (HF.out ((w5.setCell ⟨R, 0, none⟩ (.slice q5 m d5)).setCell ⟨R, 1, none⟩ (.int .i64 ((0 : Nat) : Int))) (by
      have hlow : ∀ i, q5.map (·.block) = some i → w1.heap.size ≤ i ∧ i < w5.heap.size := fun i hi => by
        have : (Value.slice q5 (nums b).length d5).ownBlock = some i := by cases q5 with | none => cases hi | some a => exact hi
        exact hown.ltB i this
      have hR := h5.r.set (X' := b) (l' := 0) (Kept.refl _ w5) HP.out.2.1 hr5 (Or.inr fun e => by have := (hlow R e).1; have := HX.out.r.lt; omega) hd5 hq5
      obtain ⟨a, b'⟩ := HX.out.setR (((Kept.of_below (F := fun k => k = R) hb5).trans (Kept.set (F := fun k => k = R) (a := ⟨R, 0, none⟩) (.slice q5 m d5) rfl) fun _ _ e => e).trans (Kept.set (F := fun k => k = R) (a := ⟨R, 1, none⟩) (.int .i64 ((0 : Nat) : Int)) rfl) fun _ _ e => e) hR (Or.inr fun i hi => ⟨(hlow i hi).1, by have := (hlow i hi).2; simpa [World.setCell] using this⟩)
      exact ⟨⟨vs', vl', q5, d5, b, [], by rw [List.append_nil]; exact a, by rw [HP.out.2.1]; simp⟩, HB.out.trans b'⟩))
  clear hown hgrow hb5 hd5 hq5 hr5 h5
  go_wp2_with fail
  exact bodyPost_end (v := .tuple #[]) (by simp [results, Try.results10]) rfl HE.out
end
end Go.Proofs.Ytbolmfpcddgpgaa
