/-
  Layer parcel: the reader in memory; take, fail.
-/
import Derived.Test.YtkidahlhnhglfaaPcReply
namespace Go.Proofs.Ytkidahlhnhglfaa
open Go.RowKit

/-- all is as it was but for block g. -/
structure Chg (g : Nat) (w w' : World) : Prop where
  os : w'.os = w.os
  tape : w'.tape = w.tape
  output : w'.output = w.output
  size : w.heap.size ≤ w'.heap.size
  block : ∀ k, k < w.heap.size → k ≠ g → w'.heap[k]? = w.heap[k]?
theorem Chg.refl (g : Nat) (w : World) : Chg g w w := ⟨rfl, rfl, rfl, Nat.le_refl _, fun _ _ _ => rfl⟩
theorem Chg.of_below {g : Nat} {w w' : World} (h : Below w.heap.size w w') : Chg g w w' := ⟨h.os, h.tape, h.output, h.size, fun k hk _ => h.block k hk⟩
theorem Chg.trans {g : Nat} {a b c : World} (h : Chg g a b) (k : Chg g b c) : Chg g a c :=
  ⟨k.os.trans h.os, k.tape.trans h.tape, k.output.trans h.output, Nat.le_trans h.size k.size, fun i hi hg => (k.block i (by have := h.size; omega) hg).trans (h.block i hi hg)⟩
theorem Chg.set {g : Nat} {w : World} (o : Nat) (u : Value) : Chg g w (w.setCell ⟨g, o, none⟩ u) :=
  ⟨rfl, rfl, rfl, by simp [World.setCell], fun k _ hg => Below.heap_setCell _ _ _ _ hg⟩
theorem Chg.alloc {g : Nat} {w w' : World} (h : Chg g w w') (o : Obj) : Chg g w (w'.alloc o) := h.trans (Chg.of_below ((Below.refl _ _).alloc (Nat.le_refl _) _))
theorem Chg.cell {g : Nat} {w w' : World} (h : Chg g w w') {b o : Nat} (hb : b < w.heap.size) (hg : b ≠ g) : w'.cell? ⟨b, o, none⟩ = w.cell? ⟨b, o, none⟩ := World.cell?_of_block (w := w) (h.block b hb hg)
theorem Chg.below {g B : Nat} {w w' : World} (h : Chg g w w') (hg : B ≤ g) (hB : B ≤ w.heap.size) : Below B w w' :=
  ⟨h.os, h.tape, h.output, h.size, fun k hk => h.block k (by omega) (by omega)⟩

abbrev St := Except Nat (List UInt8)
def restS : St → List UInt8
  | .ok s => s
  | .error _ => []
def errS : St → Nat
  | .ok _ => 0
  | .error e => e
/-- a reader in memory. -/
structure RdAt (w : World) (g : Nat) (st : St) : Prop where
  bd : ∀ e, st = .error e → e ≠ 0
  at_ : w.heap[g]? = some (.cells #[.string (strB (restS st)), .int .i64 (errS st)] 110 (0, 0))
theorem RdAt.lt {w : World} {g : Nat} {st : St} (h : RdAt w g st) : g < w.heap.size := (Array.getElem?_eq_some_iff.1 h.at_).1
theorem RdAt.below {w w' : World} {g : Nat} {st : St} (h : RdAt w g st) (hb : Below w.heap.size w w') : RdAt w' g st := ⟨h.bd, by rw [hb.block g h.lt]; exact h.at_⟩
theorem RdAt.alloc {w : World} {g : Nat} {st : St} (h : RdAt w g st) (o : Obj) : RdAt (w.alloc o) g st := h.below ((Below.refl _ _).alloc (Nat.le_refl _) _)

def takeV (st : St) (n : Nat) : List UInt8 :=
  match st with
  | .ok s => if n ≤ s.length then s.take n else []
  | .error _ => []
def takeR (st : St) (n : Nat) : St :=
  match st with
  | .ok s => if n ≤ s.length then .ok (s.drop n) else .error 7
  | .error e => .error e
theorem takeV_le (st : St) (n : Nat) : (takeV st n).length ≤ n := by
  cases st with
  | error e => exact Nat.zero_le _
  | ok s =>
    by_cases h : n ≤ s.length
    · rw [show takeV (.ok s) n = s.take n from if_pos h, List.length_take]; omega
    · rw [show takeV (.ok s) n = [] from if_neg h]; exact Nat.zero_le _

theorem take_str (s : List UInt8) (n : Nat) : (strB s).extract 0 n = strB (s.take n) := by
  apply ByteArray.ext
  apply Array.toList_inj.1
  simp [strB]
theorem drop_str (s : List UInt8) (n : Nat) : (strB s).extract n (strB s).size = strB (s.drop n) := by
  apply ByteArray.ext
  apply Array.toList_inj.1
  rw [strB_size]
  simp only [strB, ByteArray.data_extract, Array.toList_extract, List.extract_eq_take_drop]
  exact List.take_of_length_le (by simp)

set_option maxHeartbeats 400000 in
theorem fail_any (w : World) (g : Nat) (st : St) (e0 : Nat) (h0 : e0 ≠ 0) (h : RdAt w g st) :
    Calls Try.prog 61 #[.pointer (some ⟨g, 0, none⟩), .int .i64 e0] w fun e w' => e = .returned (.tuple #[]) ∧ RdAt w' g (.error e0) ∧ Chg g w w' := by
  have h1 := h.at_
  have c0 := cell_at h1 0
  have f0 := frozen_at h1 0
  have h2 := set_at h1 0 (.string ⟨#[]⟩)
  have c1 := cell_at h2 1
  have f1 := frozen_at h2 1
  have h3 := set_at h2 1 (.int .i64 e0)
  have HL := Lib.hid (show RdAt ((w.setCell ⟨g, 0, none⟩ (.string ⟨#[]⟩)).setCell ⟨g, 1, none⟩ (.int .i64 e0)) g (.error e0) ∧ Chg g w ((w.setCell ⟨g, 0, none⟩ (.string ⟨#[]⟩)).setCell ⟨g, 1, none⟩ (.int .i64 e0)) from
    ⟨⟨(fun e he => by injection he with he; omega), h3⟩, (Chg.set _ _).trans (Chg.set _ _)⟩)
  clear h h1 h2 h3
  go_enter Try.func61, Try.ntmps61
  go_wp2_with fail
  exact bodyPost_end (v := .tuple #[]) (by simp [results, Try.results61]) rfl ⟨rfl, HL.out⟩

set_option maxHeartbeats 1000000 in
theorem take_any (w : World) (g : Nat) (st : St) (n : Nat) (hn : n ≤ 1000000000) (h : RdAt w g st) :
    Calls Try.prog 62 #[.pointer (some ⟨g, 0, none⟩), .int .i64 n] w fun e w' => e = .returned (.string (strB (takeV st n))) ∧ RdAt w' g (takeR st n) ∧ Chg g w w' := by
  have h1 := h.at_
  have c0 := cell_at h1 0
  have c1 := cell_at h1 1
  have HH := Lib.hid h
  cases st with
  | error e0 =>
    have h0 := h.bd e0 rfl
    have h0z : ((e0 : Int) != 0) = true := by simp; omega
    simp only [errS] at c1
    clear h h1 h0 c0
    go_enter Try.func62, Try.ntmps62
    go_wp2_with fail
    go_ret
    exact ⟨rfl, HH.out, Chg.refl _ _⟩
  | ok s =>
    simp only [errS, restS] at c0 c1
    by_cases hfit : n ≤ s.length
    · have hlt : ¬ (strB s).size < n := by rw [strB_size]; omega
      have hlt2 : decide ((strB s).size < n) = false := by simp [hlt]
      have f0 := frozen_at h1 0
      have h2 := set_at h1 0 (.string ((strB s).extract n (strB s).size))
      have HS := Lib.hid (show strB (takeV (.ok s) n) = (strB s).extract 0 n ∧ RdAt (w.setCell ⟨g, 0, none⟩ (.string ((strB s).extract n (strB s).size))) g (takeR (.ok s) n) by
        rw [show takeV (.ok s) n = s.take n from if_pos hfit, show takeR (.ok s) n = .ok (s.drop n) from if_pos hfit, take_str]
        refine ⟨rfl, (fun e he => by cases he), ?_⟩
        rw [h2, drop_str]; rfl)
      clear h h1 h2 hfit
      go_enter Try.func62, Try.ntmps62
      go_wp2_with fail
      go_ret
      rw [HS.out.1]
      exact ⟨rfl, HS.out.2, Chg.set _ _⟩
    · have hlt : (strB s).size < n := by rw [strB_size]; omega
      have hlt2 : decide ((strB s).size < n) = true := by simp [hlt]
      have HS := Lib.hid (And.intro (show takeV (.ok s) n = [] from if_neg hfit) (show takeR (.ok s) n = .error 7 from if_neg hfit))
      have CF := Lib.hid (show Calls Try.prog 61 #[.pointer (some ⟨g, 0, none⟩), .int .i64 7] w _ from fail_any w g _ 7 (by omega) h)
      clear h h1 hfit
      go_enter Try.func62, Try.ntmps62
      go_wp2_with fail
      refine CF.out.mono ?_
      rintro e w2 ⟨rfl, h2⟩
      have H2 := Lib.hid h2
      clear h2
      go_wp2_with fail
      go_ret
      rw [HS.out.1, HS.out.2]
      exact ⟨rfl, H2.out⟩
end Go.Proofs.Ytkidahlhnhglfaa
