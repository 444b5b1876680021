/-
  Layer journal: a deed read.
-/
import Derived.Test.YtkidahlhnhglfaaMgA
namespace Go.Proofs.Ytkidahlhnhglfaa
open Go.RowKit

set_option maxHeartbeats 2000000 in
/-- what is too short. -/
theorem read_short (l : List UInt8) (hs : shortB l = true) (n : Nat) (hn : l.length = n) (hl : n ≤ 1000000) (p : Option Addr) (cap : Nat) (w : World) (hp : Row w .u8 p (nums l)) (hcap : n ≤ cap) :
    Calls Try.prog 27 #[.slice p n cap] w fun e w' => e = .returned (.tuple #[.agg #[.int .i64 0, .int .i64 0, .int .i64 0, .int .i64 0, .string ⟨#[]⟩, .string ⟨#[]⟩, .string ⟨#[]⟩, .string ⟨#[]⟩, .int .i64 0, .int .i64 0, .string ⟨#[]⟩, .string ⟨#[]⟩, .int .i64 0, .slice none 0 0], .int .i64 7]) ∧ Below w.heap.size w w' := by
  obtain ⟨W0, hW0⟩ : ∃ W0, w.alloc (.cells #[.int .i64 0, .int .i64 0, .int .i64 0, .int .i64 0, .string ⟨#[]⟩, .string ⟨#[]⟩, .string ⟨#[]⟩, .string ⟨#[]⟩, .int .i64 0, .int .i64 0, .string ⟨#[]⟩, .string ⟨#[]⟩, .int .i64 0, .slice none 0 0] 59) = W0 := ⟨_, rfl⟩
  have hal : Below w.heap.size w W0 := hW0 ▸ (Below.refl _ _).alloc (Nat.le_refl _) _
  have hbk : W0.heap[w.heap.size]? = some (.cells #[.int .i64 0, .int .i64 0, .int .i64 0, .int .i64 0, .string ⟨#[]⟩, .string ⟨#[]⟩, .string ⟨#[]⟩, .string ⟨#[]⟩, .int .i64 0, .int .i64 0, .string ⟨#[]⟩, .string ⟨#[]⟩, .int .i64 0, .slice none 0 0] 59 (0, 0)) := hW0 ▸ new_block w _ _
  have CS := Lib.hid (short_any l n hn hl p cap W0 (hp.below hal) hcap)
  rw [hs] at CS
  have hfz := frozen_at hbk
  have hc0 := cell_at hbk
  have b0 := fun w : World => show (Instr.build 59 #[]).run Try.prog w = .ok (.agg #[.int .i64 0, .int .i64 0, .int .i64 0, .int .i64 0, .string ⟨#[]⟩, .string ⟨#[]⟩, .string ⟨#[]⟩, .string ⟨#[]⟩, .int .i64 0, .int .i64 0, .string ⟨#[]⟩, .string ⟨#[]⟩, .int .i64 0, .slice none 0 0]) w from by kernel_rfl
  have HB := Lib.hid hal
  clear hp hs hn hl hcap hal hbk
  go_enter Try.func27, Try.ntmps27
  go_wp2_with fail
  clear hW0
  refine CS.out.mono ?_
  rintro e w1 ⟨rfl, rfl⟩
  go_wp2_with fail
  refine bodyPost_ret (v := .tuple #[.agg #[.int .i64 0, .int .i64 0, .int .i64 0, .int .i64 0, .string ⟨#[]⟩, .string ⟨#[]⟩, .string ⟨#[]⟩, .string ⟨#[]⟩, .int .i64 0, .int .i64 0, .string ⟨#[]⟩, .string ⟨#[]⟩, .int .i64 0, .slice none 0 0], .int .i64 7]) (by simp [results, Try.results27, go_sem, hc0]) rfl ⟨rfl, ?_⟩
  exact ((((((((((((((HB.out.setCell (p := ⟨w.heap.size, 0, none⟩) (Nat.le_refl _) _).setCell (p := ⟨w.heap.size, 1, none⟩) (Nat.le_refl _) _).setCell (p := ⟨w.heap.size, 2, none⟩) (Nat.le_refl _) _).setCell (p := ⟨w.heap.size, 3, none⟩) (Nat.le_refl _) _).setCell (p := ⟨w.heap.size, 4, none⟩) (Nat.le_refl _) _).setCell (p := ⟨w.heap.size, 5, none⟩) (Nat.le_refl _) _).setCell (p := ⟨w.heap.size, 6, none⟩) (Nat.le_refl _) _).setCell (p := ⟨w.heap.size, 7, none⟩) (Nat.le_refl _) _).setCell (p := ⟨w.heap.size, 8, none⟩) (Nat.le_refl _) _).setCell (p := ⟨w.heap.size, 9, none⟩) (Nat.le_refl _) _).setCell (p := ⟨w.heap.size, 10, none⟩) (Nat.le_refl _) _).setCell (p := ⟨w.heap.size, 11, none⟩) (Nat.le_refl _) _).setCell (p := ⟨w.heap.size, 12, none⟩) (Nat.le_refl _) _).setCell (p := ⟨w.heap.size, 13, none⟩) (Nat.le_refl _) _)
theorem ownR_le {w : World} {B B' : Nat} {v : Value} {ls : List RecL} (h : OwnR w B v ls) (hB : B' ≤ B) : OwnR w B' v ls := by
  obtain ⟨h4, h5 | ⟨g, cap, cur, e, hg, r⟩⟩ := h
  · exact ⟨h4, Or.inl h5⟩
  · exact ⟨h4, Or.inr ⟨g, cap, cur, e, by omega, r⟩⟩

set_option maxHeartbeats 8000000 in
/-- what Pack laid. -/
theorem read_ok (d er ep : Nat) (f t ab lb : List UInt8) (ls : List RecL) (ar : Nat × Nat × Nat × Nat × List UInt8 × List UInt8 × List UInt8 × List UInt8) (l : List UInt8) (hr : readL deedC l = .ok (d, er, ep, f, t, ab, lb)) (hs : shortB l = false)
    (ha : ab.length ≤ 32768) (har : readL askC ab = .ok ar) (hlb : lb = recsL ls) (hn1 : ls.length ≤ 1000) (hn2 : sumRec ls ≤ 100000) (n : Nat) (hn : l.length = n) (hl : n ≤ 1000000) (p : Option Addr) (cap : Nat) (w : World) (hp : Row w .u8 p (nums l)) (hcap : n ≤ cap) :
    Calls Try.prog 27 #[.slice p n cap] w fun e w' => ∃ q k, e = .returned (.tuple #[jdV ⟨d, askT ar, er, f, t, ep, ls⟩ q k, .int .i64 0]) ∧ OwnR w' w.heap.size (.slice q ls.length k) ls ∧ Below w.heap.size w w' := by
  obtain ⟨W0, hW0⟩ : ∃ W0, w.alloc (.cells #[.int .i64 0, .int .i64 0, .int .i64 0, .int .i64 0, .string ⟨#[]⟩, .string ⟨#[]⟩, .string ⟨#[]⟩, .string ⟨#[]⟩, .int .i64 0, .int .i64 0, .string ⟨#[]⟩, .string ⟨#[]⟩, .int .i64 0, .slice none 0 0] 59) = W0 := ⟨_, rfl⟩
  have hal : Below w.heap.size w W0 := hW0 ▸ (Below.refl _ _).alloc (Nat.le_refl _) _
  have hz0 : W0.heap.size = w.heap.size + 1 := by rw [← hW0]; simp
  have hbk : W0.heap[w.heap.size]? = some (.cells #[.int .i64 0, .int .i64 0, .int .i64 0, .int .i64 0, .string ⟨#[]⟩, .string ⟨#[]⟩, .string ⟨#[]⟩, .string ⟨#[]⟩, .int .i64 0, .int .i64 0, .string ⟨#[]⟩, .string ⟨#[]⟩, .int .i64 0, .slice none 0 0] 59 (0, 0)) := hW0 ▸ new_block w _ _
  have CS := Lib.hid (short_any l n hn hl p cap W0 (hp.below hal) hcap)
  rw [hs] at CS
  have hcn := rnew_any W0 l p cap (hp.below hal)
  rw [hz0, hn] at hcn
  have CN := Lib.hid hcn
  obtain ⟨hok, hval⟩ := val_read deedC (0, 0, 0, [], [], [], []) _ l hr
  have hseq := deed_seq (.ok l)
  have hvs := deed_vals (.ok l) hok
  rw [hval] at hvs
  rw [hok] at hseq
  injection hvs with v1 hvs
  injection hvs with v2 hvs
  injection hvs with v3 hvs
  injection hvs with v4 hvs
  injection hvs with v5 hvs
  injection hvs with v6 v7
  obtain ⟨S1, hS1⟩ : ∃ S, rdR numC (.ok l) = S := ⟨_, rfl⟩
  rw [hS1] at hseq v2 v3 v4 v5 v6 v7
  obtain ⟨S2, hS2⟩ : ∃ S, rdR numC S1 = S := ⟨_, rfl⟩
  rw [hS2] at hseq v3 v4 v5 v6 v7
  obtain ⟨S3, hS3⟩ : ∃ S, rdR numC S2 = S := ⟨_, rfl⟩
  rw [hS3] at hseq v4 v5 v6 v7
  obtain ⟨S4, hS4⟩ : ∃ S, rdR textC S3 = S := ⟨_, rfl⟩
  rw [hS4] at hseq v5 v6 v7
  obtain ⟨S5, hS5⟩ : ∃ S, rdR textC S4 = S := ⟨_, rfl⟩
  rw [hS5] at hseq v6 v7
  obtain ⟨S6, hS6⟩ : ∃ S, rdR textC S5 = S := ⟨_, rfl⟩
  rw [hS6] at hseq v7
  have R1 := Lib.hid (show ∀ w1, RdAt w1 (w.heap.size + 1) (.ok l) → Calls Try.prog 44 #[.pointer (some ⟨w.heap.size + 1, 0, none⟩)] w1 fun e w' => e = .returned (.int .i64 (d : Nat)) ∧ RdAt w' (w.heap.size + 1) (S1) ∧ Chg (w.heap.size + 1) w1 w' from fun w1 h => by
    have := pcNumber_any w1 (w.heap.size + 1) (.ok l) h
    rw [← v1, hS1] at this
    exact this)
  have R2 := Lib.hid (show ∀ w1, RdAt w1 (w.heap.size + 1) (S1) → Calls Try.prog 44 #[.pointer (some ⟨w.heap.size + 1, 0, none⟩)] w1 fun e w' => e = .returned (.int .i64 (er : Nat)) ∧ RdAt w' (w.heap.size + 1) (S2) ∧ Chg (w.heap.size + 1) w1 w' from fun w1 h => by
    have := pcNumber_any w1 (w.heap.size + 1) (S1) h
    rw [← v2, hS2] at this
    exact this)
  have R3 := Lib.hid (show ∀ w1, RdAt w1 (w.heap.size + 1) (S2) → Calls Try.prog 44 #[.pointer (some ⟨w.heap.size + 1, 0, none⟩)] w1 fun e w' => e = .returned (.int .i64 (ep : Nat)) ∧ RdAt w' (w.heap.size + 1) (S3) ∧ Chg (w.heap.size + 1) w1 w' from fun w1 h => by
    have := pcNumber_any w1 (w.heap.size + 1) (S2) h
    rw [← v3, hS3] at this
    exact this)
  have R4 := Lib.hid (show ∀ w1, RdAt w1 (w.heap.size + 1) (S3) → Calls Try.prog 45 #[.pointer (some ⟨w.heap.size + 1, 0, none⟩)] w1 fun e w' => e = .returned (.string (strB f)) ∧ RdAt w' (w.heap.size + 1) (S4) ∧ Chg (w.heap.size + 1) w1 w' from fun w1 h => by
    have := text_any w1 (w.heap.size + 1) (S3) h
    rw [← v4, hS4] at this
    exact this)
  have R5 := Lib.hid (show ∀ w1, RdAt w1 (w.heap.size + 1) (S4) → Calls Try.prog 45 #[.pointer (some ⟨w.heap.size + 1, 0, none⟩)] w1 fun e w' => e = .returned (.string (strB t)) ∧ RdAt w' (w.heap.size + 1) (S5) ∧ Chg (w.heap.size + 1) w1 w' from fun w1 h => by
    have := text_any w1 (w.heap.size + 1) (S4) h
    rw [← v5, hS5] at this
    exact this)
  have R6 := Lib.hid (show ∀ w1, RdAt w1 (w.heap.size + 1) (S5) → Calls Try.prog 45 #[.pointer (some ⟨w.heap.size + 1, 0, none⟩)] w1 fun e w' => e = .returned (.string (strB ab)) ∧ RdAt w' (w.heap.size + 1) (S6) ∧ Chg (w.heap.size + 1) w1 w' from fun w1 h => by
    have := text_any w1 (w.heap.size + 1) (S5) h
    rw [← v6, hS6] at this
    exact this)
  have R7 := Lib.hid (show ∀ w1, RdAt w1 (w.heap.size + 1) (S6) → Calls Try.prog 45 #[.pointer (some ⟨w.heap.size + 1, 0, none⟩)] w1 fun e w' => e = .returned (.string (strB lb)) ∧ RdAt w' (w.heap.size + 1) (.ok []) ∧ Chg (w.heap.size + 1) w1 w' from fun w1 h => by
    have := text_any w1 (w.heap.size + 1) (S6) h
    rw [← v7, hseq.symm] at this
    exact this)
  have CE := Lib.hid (show ∀ w1, RdAt w1 (w.heap.size + 1) (.ok []) → Calls Try.prog 39 #[.pointer (some ⟨w.heap.size + 1, 0, none⟩)] w1 fun e w' => e = .returned (.int .i64 0) ∧ w1 = w' from fun w1 h => end_any w1 (w.heap.size + 1) (.ok []) h)
  have CA := Lib.hid (show ∀ (cap : Nat) (w1 w2 : World), Row w2 .u8 (some ⟨w1.heap.size, 0, none⟩) (nums ab) → Calls Try.prog 16 #[.slice (some ⟨w1.heap.size, 0, none⟩) (strB ab).size cap] w2 fun e w' => e = .returned (.tuple #[askV (askT ar), .int .i64 0]) ∧ Below w2.heap.size w2 w' from fun cap w1 w2 h => by
    have := readAsk_any ab _ cap w2 h
    rw [strB_size]
    refine this.mono ?_
    rintro e w' ⟨a, rfl, hx, hb⟩
    rw [hx ar ha har, show rdAskE ab = 0 from by unfold rdAskE; rw [if_neg (by omega), har]; rfl]
    exact ⟨rfl, hb⟩)
  have CL := Lib.hid (show ∀ (cap : Nat) (w1 w2 : World), Row w2 .u8 (some ⟨w1.heap.size, 0, none⟩) (nums lb) → Calls Try.prog 57 #[.slice (some ⟨w1.heap.size, 0, none⟩) (strB lb).size cap, .func (.func 58) #[] #[]] w2 fun e w' => ∃ v, e = .returned (.tuple #[v, .int .i64 0]) ∧ OwnR w' w2.heap.size v ls ∧ Below w2.heap.size w2 w' from fun cap w1 w2 h => by
    have := readListR_ok ls hn1 hn2 lb hlb lb.length rfl _ cap w2 h
    rw [strB_size]
    exact this)
  have HCV := Lib.hid (fun (w1 : World) => conv_bytes w1 ab)
  have HCL := Lib.hid (fun (w1 : World) => conv_bytes w1 lb)
  have HW := Lib.hid (And.intro hz0 (And.intro hal hbk))
  obtain ⟨AR, hAR⟩ : ∃ a, askT ar = a := ⟨_, rfl⟩
  rw [hAR] at CA ⊢
  obtain ⟨ad, ac, as', at', av, af, au, am⟩ := AR
  unfold askV at CA
  unfold jdV
  simp only at CA ⊢
  obtain ⟨sat, hsat⟩ : ∃ s, strB at' = s := ⟨_, rfl⟩
  rw [hsat] at CA ⊢
  clear hsat
  obtain ⟨sav, hsav⟩ : ∃ s, strB av = s := ⟨_, rfl⟩
  rw [hsav] at CA ⊢
  clear hsav
  obtain ⟨saf, hsaf⟩ : ∃ s, strB af = s := ⟨_, rfl⟩
  rw [hsaf] at CA ⊢
  clear hsaf
  obtain ⟨sau, hsau⟩ : ∃ s, strB au = s := ⟨_, rfl⟩
  rw [hsau] at CA ⊢
  clear hsau
  obtain ⟨sf, hsf⟩ : ∃ s, strB f = s := ⟨_, rfl⟩
  rw [hsf] at R4 ⊢
  clear hsf
  obtain ⟨st, hst⟩ : ∃ s, strB t = s := ⟨_, rfl⟩
  rw [hst] at R5 ⊢
  clear hst
  obtain ⟨sab, hsab⟩ : ∃ s, strB ab = s := ⟨_, rfl⟩
  rw [hsab] at R6 CA HCV
  clear hsab
  obtain ⟨slb, hslb⟩ : ∃ s, strB lb = s := ⟨_, rfl⟩
  rw [hslb] at R7 CL HCL
  clear hslb
  obtain ⟨bn, hbn⟩ : ∃ m, sab.size = m := ⟨_, rfl⟩
  obtain ⟨ln, hln⟩ : ∃ m, slb.size = m := ⟨_, rfl⟩
  obtain ⟨ll, hll⟩ : ∃ m, ls.length = m := ⟨_, rfl⟩
  rw [hbn] at CA HCV
  rw [hln] at CL HCL
  rw [hll]
  have HLL := Lib.hid hll
  clear hp hcap hn hl hs ha har hlb hn1 hn2 hok hval hseq v1 v2 v3 v4 v5 v6 v7 hS1 hS2 hS3 hS4 hS5 hS6 hz0 hal hbk hAR hbn hln hll hr hcn
  go_enter Try.func27, Try.ntmps27
  go_wp2_with fail
  clear hW0
  refine CS.out.mono ?_
  rintro e w0 ⟨rfl, rfl⟩
  go_wp2_with fail
  refine CN.out.mono ?_
  rintro e w1 ⟨rfl, hr1, hb1⟩
  have HB1 := Lib.hid hb1
  have C1 := Lib.hid (R1.out w1 hr1)
  clear hr1 hb1
  go_wp2_with fail
  refine C1.out.mono ?_
  rintro e w2 ⟨rfl, hr2, hc2⟩
  have HC2 := Lib.hid hc2
  have C2 := Lib.hid (R2.out w2 hr2)
  clear hr2 hc2 C1
  go_wp2_with fail
  refine C2.out.mono ?_
  rintro e w3 ⟨rfl, hr3, hc3⟩
  have HC3 := Lib.hid (HC2.out.trans hc3)
  have C3 := Lib.hid (R3.out w3 hr3)
  clear hr3 hc3 C2
  go_wp2_with fail
  refine C3.out.mono ?_
  rintro e w4 ⟨rfl, hr4, hc4⟩
  have HC4 := Lib.hid (HC3.out.trans hc4)
  have C4 := Lib.hid (R4.out w4 hr4)
  clear hr4 hc4 C3
  go_wp2_with fail
  refine C4.out.mono ?_
  rintro e w5 ⟨rfl, hr5, hc5⟩
  have HC5 := Lib.hid (HC4.out.trans hc5)
  have C5 := Lib.hid (R5.out w5 hr5)
  clear hr5 hc5 C4
  go_wp2_with fail
  refine C5.out.mono ?_
  rintro e w6 ⟨rfl, hr6, hc6⟩
  have HC6 := Lib.hid (HC5.out.trans hc6)
  obtain ⟨w7, hw7⟩ : ∃ w7, w6.alloc (.cells #[.int .i64 (d : Nat), .int .i64 0, .int .i64 0, .int .i64 0, .string ⟨#[]⟩, .string ⟨#[]⟩, .string ⟨#[]⟩, .string ⟨#[]⟩, .int .i64 0, .int .i64 (er : Nat), .string sf, .string st, .int .i64 (ep : Nat), .slice none 0 0] 59) = w7 := ⟨_, rfl⟩
  have hb7 : Below w6.heap.size w6 w7 := hw7 ▸ (Below.refl _ _).alloc (Nat.le_refl _) _
  have hd7 : w7.heap[w6.heap.size]? = some (.cells #[.int .i64 (d : Nat), .int .i64 0, .int .i64 0, .int .i64 0, .string ⟨#[]⟩, .string ⟨#[]⟩, .string ⟨#[]⟩, .string ⟨#[]⟩, .int .i64 0, .int .i64 (er : Nat), .string sf, .string st, .int .i64 (ep : Nat), .slice none 0 0] 59 (0, 0)) := hw7 ▸ new_block w6 _ _
  have hD : w.heap.size + 1 < w6.heap.size := hr6.lt
  have C6 := Lib.hid (R6.out w7 (hr6.below hb7))
  have HB7 := Lib.hid (show Below (w.heap.size + 1) W0 w7 from HB1.out.trans ((HC6.out.below (Nat.le_refl _) (by have := HB1.out.size; have := HW.out.1; omega)).trans (hb7.mono (by omega))))
  have HD7 := Lib.hid hd7
  have hz7 : w6.heap.size < w7.heap.size := (Array.getElem?_eq_some_iff.1 hd7).1
  have HZ7 := Lib.hid (And.intro hD hz7)
  have q13 := cell_at hd7 13
  have f13 := frozen_at hd7 13
  have hss : w7.setCell ⟨w6.heap.size, 13, none⟩ (.slice none 0 0) = w7 := set_same (by rw [q13]; rfl)
  clear hr6 hc6 hb7 hd7 hD hz7 C5
  go_wp2_with fail
  clear hw7 q13 f13 hss
  refine C6.out.mono ?_
  rintro e w8 ⟨rfl, hr8, hc8⟩
  simp only []
  obtain ⟨D, hDe⟩ : ∃ D, w6.heap.size = D := ⟨_, rfl⟩
  rw [hDe] at HD7 HZ7 ⊢
  clear hDe
  have HC8 := Lib.hid hc8
  have C7 := Lib.hid (R7.out w8 hr8)
  clear hr8 hc8 C6
  go_wp2_with fail
  refine C7.out.mono ?_
  rintro e w9 ⟨rfl, hr9, hc9⟩
  have HC9 := Lib.hid (HC8.out.trans hc9)
  have C8 := Lib.hid (CE.out w9 hr9)
  clear hr9 hc9 C7
  have HD9 := Lib.hid (show w9.heap[D]? = _ from (HC9.out.block D HZ7.out.2 (by have := HZ7.out.1; omega)).trans HD7.out)
  go_wp2_with fail
  refine C8.out.mono ?_
  rintro e w9' ⟨rfl, rfl⟩
  obtain ⟨cap10, w10, hcv, _, hr10, hb10⟩ := HCV.out w9
  have C9 := Lib.hid (CA.out cap10 w9 w10 hr10)
  have HB10 := Lib.hid hb10
  have hz9 : D < w9.heap.size := (Array.getElem?_eq_some_iff.1 HD9.out).1
  have HD10 := Lib.hid (show w10.heap[D]? = _ from (hb10.block D hz9).trans HD9.out)
  clear hr10 hb10 C8 hz9
  go_wp2_with fail
  refine C9.out.mono ?_
  rintro e w11 ⟨rfl, hb11⟩
  have HB11 := Lib.hid (HB10.out.trans (hb11.mono HB10.out.size))
  have hz10 : D < w10.heap.size := (Array.getElem?_eq_some_iff.1 HD10.out).1
  have hd11 : w11.heap[D]? = _ := (hb11.block D hz10).trans HD10.out
  have hfz := frozen_at hd11
  have hc0 := cell_at hd11
  have HB11a := Lib.hid (show Below (w.heap.size + 1) W0 w11 from HB7.out.trans ((HC9.out.below (Nat.le_refl _) (by have := HZ7.out; omega)).trans (HB11.out.mono (by have := HC9.out.size; have := HZ7.out; omega))))
  obtain ⟨w12, hw12⟩ : ∃ w12, ((((((((w11.setCell ⟨D, 1, none⟩ (.int .i64 ad)).setCell ⟨D, 2, none⟩ (.int .i64 ac)).setCell ⟨D, 3, none⟩ (.int .i64 as')).setCell ⟨D, 4, none⟩ (.string sat)).setCell ⟨D, 5, none⟩ (.string sav)).setCell ⟨D, 6, none⟩ (.string saf)).setCell ⟨D, 7, none⟩ (.string sau)).setCell ⟨D, 8, none⟩ (.int .i64 am)) = w12 := ⟨_, rfl⟩
  have hd12 : w12.heap[D]? = some (.cells #[.int .i64 (d : Nat), .int .i64 ad, .int .i64 ac, .int .i64 as', .string sat, .string sav, .string saf, .string sau, .int .i64 am, .int .i64 (er : Nat), .string sf, .string st, .int .i64 (ep : Nat), .slice none 0 0] 59 (0, 0)) := by rw [← hw12]; exact (set_at (set_at (set_at (set_at (set_at (set_at (set_at (set_at hd11 1 (.int .i64 ad)) 2 (.int .i64 ac)) 3 (.int .i64 as')) 4 (.string sat)) 5 (.string sav)) 6 (.string saf)) 7 (.string sau)) 8 (.int .i64 am))
  have hb12 : Below (w.heap.size + 1) W0 w12 := by
    rw [← hw12]
    have hDw : w.heap.size + 1 ≤ D := by have := HZ7.out.1; omega
    exact ((((((((HB11a.out.setCell (p := ⟨D, 1, none⟩) (hDw) _).setCell (p := ⟨D, 2, none⟩) (hDw) _).setCell (p := ⟨D, 3, none⟩) (hDw) _).setCell (p := ⟨D, 4, none⟩) (hDw) _).setCell (p := ⟨D, 5, none⟩) (hDw) _).setCell (p := ⟨D, 6, none⟩) (hDw) _).setCell (p := ⟨D, 7, none⟩) (hDw) _).setCell (p := ⟨D, 8, none⟩) (hDw) _)
  obtain ⟨cap13, w13, hcv2, _, hr13, hb13⟩ := HCL.out w12
  have C10 := Lib.hid (CL.out cap13 w12 w13 hr13)
  have hz12 : D < w12.heap.size := (Array.getElem?_eq_some_iff.1 hd12).1
  have HD13 := Lib.hid (show w13.heap[D]? = _ from (hb13.block D hz12).trans hd12)
  have HB13 := Lib.hid (hb12.trans (hb13.mono (by have := hb12.size; have := HW.out.1; omega)))
  have HZ12 := Lib.hid (And.intro hz12 hb13.size)
  clear hd12 hb12 hr13 hb13 hz12 hb11 hz10
  go_wp2_with fail
  clear hw12
  refine C10.out.mono ?_
  rintro e w14 ⟨v, rfl, ho14, hb14⟩
  obtain ⟨q, k, rfl, -⟩ := ho14.row
  rw [HLL.out] at ho14 ⊢
  have hz13 : D < w13.heap.size := (Array.getElem?_eq_some_iff.1 HD13.out).1
  have hd14 : w14.heap[D]? = _ := (hb14.block D hz13).trans HD13.out
  have gfz := frozen_at hd14
  have gc0 := cell_at hd14
  have HB14 := Lib.hid (HB13.out.trans (hb14.mono (by have := HB13.out.size; have := HW.out.1; omega)))
  obtain ⟨w15, hw15⟩ : ∃ w15, w14.setCell ⟨D, 13, none⟩ (.slice q ll k) = w15 := ⟨_, rfl⟩
  have hd15 : w15.heap[D]? = some (.cells #[.int .i64 (d : Nat), .int .i64 ad, .int .i64 ac, .int .i64 as', .string sat, .string sav, .string saf, .string sau, .int .i64 am, .int .i64 (er : Nat), .string sf, .string st, .int .i64 (ep : Nat), .slice q ll k] 59 (0, 0)) := by rw [← hw15]; exact set_at hd14 13 (.slice q ll k)
  have dfz := frozen_at hd15
  have dc0 := cell_at hd15
  have hb15 : Below (w.heap.size + 1) W0 w15 := by
    rw [← hw15]
    have hDw : w.heap.size + 1 ≤ D := by have := HZ7.out.1; omega
    exact (HB14.out.setCell (p := ⟨D, 13, none⟩) hDw _)
  have hr15 : w15.heap[w.heap.size]? = _ := (hb15.block w.heap.size (by have := HW.out.1; omega)).trans HW.out.2.2
  have rfz := frozen_at hr15
  have rc0 := cell_at hr15
  have HO15 := Lib.hid (show OwnR w15 w13.heap.size (.slice q ll k) ls by rw [← hw15]; exact recs_set ho14 hz13)
  have HB15 := Lib.hid (show Below w.heap.size w w15 from HW.out.2.1.trans (hb15.mono (by omega)))
  have HL13 := Lib.hid (show w.heap.size < w13.heap.size by have := HZ7.out.1; omega)
  have HNE := Lib.hid (show D ≠ w.heap.size by have := HZ7.out.1; omega)
  clear ho14 hb14 hd14 hd15 hb15 hr15 hz13
  go_wp2_with fail
  refine bodyPost_ret (v := .tuple #[.agg #[.int .i64 (d : Nat), .int .i64 ad, .int .i64 ac, .int .i64 as', .string sat, .string sav, .string saf, .string sau, .int .i64 am, .int .i64 (er : Nat), .string sf, .string st, .int .i64 (ep : Nat), .slice q ll k], .int .i64 0]) (by simp [results, Try.results27, go_sem, rc0]) rfl ⟨q, k, rfl, ?_, ?_⟩
  · exact ownR_le (recs_set (o := 13) (u := .slice q ll k) (recs_set (o := 12) (u := .int .i64 (ep : Nat)) (recs_set (o := 11) (u := .string st) (recs_set (o := 10) (u := .string sf) (recs_set (o := 9) (u := .int .i64 (er : Nat)) (recs_set (o := 8) (u := .int .i64 am) (recs_set (o := 7) (u := .string sau) (recs_set (o := 6) (u := .string saf) (recs_set (o := 5) (u := .string sav) (recs_set (o := 4) (u := .string sat) (recs_set (o := 3) (u := .int .i64 as') (recs_set (o := 2) (u := .int .i64 ac) (recs_set (o := 1) (u := .int .i64 ad) (recs_set (o := 0) (u := .int .i64 (d : Nat)) HO15.out HL13.out) HL13.out) HL13.out) HL13.out) HL13.out) HL13.out) HL13.out) HL13.out) HL13.out) HL13.out) HL13.out) HL13.out) HL13.out) HL13.out) (Nat.le_of_lt HL13.out)
  · exact ((((((((((((((HB15.out.setCell (p := ⟨w.heap.size, 0, none⟩) (Nat.le_refl _) _).setCell (p := ⟨w.heap.size, 1, none⟩) (Nat.le_refl _) _).setCell (p := ⟨w.heap.size, 2, none⟩) (Nat.le_refl _) _).setCell (p := ⟨w.heap.size, 3, none⟩) (Nat.le_refl _) _).setCell (p := ⟨w.heap.size, 4, none⟩) (Nat.le_refl _) _).setCell (p := ⟨w.heap.size, 5, none⟩) (Nat.le_refl _) _).setCell (p := ⟨w.heap.size, 6, none⟩) (Nat.le_refl _) _).setCell (p := ⟨w.heap.size, 7, none⟩) (Nat.le_refl _) _).setCell (p := ⟨w.heap.size, 8, none⟩) (Nat.le_refl _) _).setCell (p := ⟨w.heap.size, 9, none⟩) (Nat.le_refl _) _).setCell (p := ⟨w.heap.size, 10, none⟩) (Nat.le_refl _) _).setCell (p := ⟨w.heap.size, 11, none⟩) (Nat.le_refl _) _).setCell (p := ⟨w.heap.size, 12, none⟩) (Nat.le_refl _) _).setCell (p := ⟨w.heap.size, 13, none⟩) (Nat.le_refl _) _)
end Go.Proofs.Ytkidahlhnhglfaa
