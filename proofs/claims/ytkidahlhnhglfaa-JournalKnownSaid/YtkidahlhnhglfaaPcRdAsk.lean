/-
  Layer parcel: an ask is read.
-/
import Derived.Test.YtkidahlhnhglfaaPcSeq
namespace Go.Proofs.Ytkidahlhnhglfaa
open Go.RowKit

def askZ : AskL := ⟨0, 0, 0, [], [], [], [], 0⟩
/-- what ReadAsk says of the bytes. -/
def rdAskE (l : List UInt8) : Nat := if 32768 < l.length then 3 else errX (readL askC l)
def RetRA (w : World) (l : List UInt8) (e : Ending) (w' : World) : Prop :=
  ∃ a : AskL, e = .returned (.tuple #[askV a, .int .i64 (rdAskE l)]) ∧ (∀ x, l.length ≤ 32768 → readL askC l = .ok x → a = askT x) ∧ Below w.heap.size w w'

def zAsk : Obj := .cells #[.int .i64 0, .int .i64 0, .int .i64 0, .string ⟨#[]⟩, .string ⟨#[]⟩, .string ⟨#[]⟩, .string ⟨#[]⟩, .int .i64 0] 34
theorem chg_block {w w1 : World} {c : Array Value} {t : TypeId} (hb : Below (w.heap.size + 1) (w.alloc (.cells c t)) w1) : w1.heap[w.heap.size]? = some (.cells c t (0, 0)) := by
  rw [hb.block w.heap.size (by omega)]
  exact new_block _ _ _

set_option maxHeartbeats 4000000 in
theorem readAsk_any (l : List UInt8) (p : Option Addr) (cap : Nat) (w : World) (hp : Row w .u8 p (nums l)) :
    Calls Try.prog 16 #[.slice p l.length cap] w (RetRA w l) := by
  have hal : Below w.heap.size w (w.alloc zAsk) := (Below.refl _ _).alloc (Nat.le_refl _) _
  have hcn := rnew_any (w.alloc zAsk) l p cap (hp.below hal)
  have hz0 : (w.alloc zAsk).heap.size = w.heap.size + 1 := by simp
  rw [hz0] at hcn
  by_cases hbig : 32768 < l.length
  · have HE := Lib.hid (show rdAskE l = 3 from if_pos hbig)
    have hlz : decide ((l.length : Int) > 32768) = true := by simp; omega
    have HB := Lib.hid hbig
    have HA := Lib.hid hal
    clear hcn hp hal hbig hz0
    unfold zAsk at HA
    go_enter Try.func16, Try.ntmps16
    go_wp2_with fail
    refine bodyPost_ret (v := .tuple #[askV askZ, .int .i64 3]) (by simp [results, Try.results16, go_sem]; rfl) rfl ⟨askZ, by rw [HE.out]; rfl, fun x hx => absurd hx (by have := HB.out; omega), HA.out⟩
  · have HE := Lib.hid (show rdAskE l = errX (readL askC l) from if_neg hbig)
    have hlz : decide ((l.length : Int) > 32768) = false := by simp; omega
    have CN := Lib.hid hcn
    have HA := Lib.hid hal
    clear hp hal hbig hcn
    unfold zAsk at HA CN hz0
    obtain ⟨n, hn⟩ : ∃ n, l.length = n := ⟨_, rfl⟩
    rw [hn] at hlz CN ⊢
    clear hn
    go_enter Try.func16, Try.ntmps16
    go_wp2_with fail
    refine CN.out.mono ?_
    rintro e w0 ⟨rfl, hr0, hb0⟩
    have HB0 := Lib.hid hb0
    have hg0 : w.heap.size + 1 < w0.heap.size := hr0.lt
    have C1 := Lib.hid (pcNumber_any w0 (w.heap.size + 1) (.ok l) hr0)
    clear hr0 hb0
    obtain ⟨V1, hV1⟩ : ∃ V, rdV numC 0 (.ok l) = V := ⟨_, rfl⟩
    obtain ⟨S1, hS1⟩ : ∃ S, rdR numC (.ok l) = S := ⟨_, rfl⟩
    rw [hV1, hS1] at C1
    have HV1 := Lib.hid (And.intro hV1 hS1)
    clear hV1 hS1
    go_wp2_with fail
    refine C1.out.mono ?_
    rintro e w1 ⟨rfl, hr1, hc1⟩
    have HC1 := Lib.hid hc1
    have C2 := Lib.hid (pcNumber_any w1 (w.heap.size + 1) S1 hr1)
    clear hr1 hc1
    obtain ⟨V2, hV2⟩ : ∃ V, rdV numC 0 S1 = V := ⟨_, rfl⟩
    obtain ⟨S2, hS2⟩ : ∃ S, rdR numC S1 = S := ⟨_, rfl⟩
    rw [hV2, hS2] at C2
    have HV2 := Lib.hid (And.intro hV2 hS2)
    clear hV2 hS2
    go_wp2_with fail
    refine C2.out.mono ?_
    rintro e w2 ⟨rfl, hr2, hc2⟩
    have HC2 := Lib.hid (HC1.out.trans hc2)
    have C3 := Lib.hid (pcNumber_any w2 (w.heap.size + 1) S2 hr2)
    clear hr2 hc2
    obtain ⟨V3, hV3⟩ : ∃ V, rdV numC 0 S2 = V := ⟨_, rfl⟩
    obtain ⟨S3, hS3⟩ : ∃ S, rdR numC S2 = S := ⟨_, rfl⟩
    rw [hV3, hS3] at C3
    have HV3 := Lib.hid (And.intro hV3 hS3)
    clear hV3 hS3
    go_wp2_with fail
    refine C3.out.mono ?_
    rintro e w3 ⟨rfl, hr3, hc3⟩
    have HC3 := Lib.hid (HC2.out.trans hc3)
    have C4 := Lib.hid (pcNumber_any w3 (w.heap.size + 1) S3 hr3)
    clear hr3 hc3
    obtain ⟨V4, hV4⟩ : ∃ V, rdV numC 0 S3 = V := ⟨_, rfl⟩
    obtain ⟨S4, hS4⟩ : ∃ S, rdR numC S3 = S := ⟨_, rfl⟩
    rw [hV4, hS4] at C4
    have HV4 := Lib.hid (And.intro hV4 hS4)
    clear hV4 hS4
    go_wp2_with fail
    refine C4.out.mono ?_
    rintro e w4 ⟨rfl, hr4, hc4⟩
    have HC4 := Lib.hid (HC3.out.trans hc4)
    have C5 := Lib.hid (text_any w4 (w.heap.size + 1) S4 hr4)
    clear hr4 hc4
    obtain ⟨V5, hV5⟩ : ∃ V, rdV textC [] S4 = V := ⟨_, rfl⟩
    obtain ⟨S5, hS5⟩ : ∃ S, rdR textC S4 = S := ⟨_, rfl⟩
    rw [hV5, hS5] at C5
    have HV5 := Lib.hid (And.intro hV5 hS5)
    clear hV5 hS5
    go_wp2_with fail
    refine C5.out.mono ?_
    rintro e w5 ⟨rfl, hr5, hc5⟩
    have HC5 := Lib.hid (HC4.out.trans hc5)
    have C6 := Lib.hid (text_any w5 (w.heap.size + 1) S5 hr5)
    clear hr5 hc5
    obtain ⟨V6, hV6⟩ : ∃ V, rdV textC [] S5 = V := ⟨_, rfl⟩
    obtain ⟨S6, hS6⟩ : ∃ S, rdR textC S5 = S := ⟨_, rfl⟩
    rw [hV6, hS6] at C6
    have HV6 := Lib.hid (And.intro hV6 hS6)
    clear hV6 hS6
    go_wp2_with fail
    refine C6.out.mono ?_
    rintro e w6 ⟨rfl, hr6, hc6⟩
    have HC6 := Lib.hid (HC5.out.trans hc6)
    have C7 := Lib.hid (text_any w6 (w.heap.size + 1) S6 hr6)
    clear hr6 hc6
    obtain ⟨V7, hV7⟩ : ∃ V, rdV textC [] S6 = V := ⟨_, rfl⟩
    obtain ⟨S7, hS7⟩ : ∃ S, rdR textC S6 = S := ⟨_, rfl⟩
    rw [hV7, hS7] at C7
    have HV7 := Lib.hid (And.intro hV7 hS7)
    clear hV7 hS7
    go_wp2_with fail
    refine C7.out.mono ?_
    rintro e w7 ⟨rfl, hr7, hc7⟩
    have HC7 := Lib.hid (HC6.out.trans hc7)
    have C8 := Lib.hid (text_any w7 (w.heap.size + 1) S7 hr7)
    clear hr7 hc7
    obtain ⟨V8, hV8⟩ : ∃ V, rdV textC [] S7 = V := ⟨_, rfl⟩
    obtain ⟨S8, hS8⟩ : ∃ S, rdR textC S7 = S := ⟨_, rfl⟩
    rw [hV8, hS8] at C8
    have HV8 := Lib.hid (And.intro hV8 hS8)
    clear hV8 hS8
    go_wp2_with fail
    refine C8.out.mono ?_
    rintro e w8 ⟨rfl, hr8, hc8⟩
    have HC8 := Lib.hid (HC7.out.trans hc8)
    have hbw : Below (w.heap.size + 1) (w.alloc zAsk) w8 := by
      have h1 := HB0.out
      exact h1.trans (HC8.out.below (Nat.le_refl _) (by omega))
    have hb8 : Below w8.heap.size w8 (w8.alloc (.cells #[.int .i64 (V1 : Nat), .int .i64 (V2 : Nat), .int .i64 (V3 : Nat), .string (strB V5), .string (strB V6), .string (strB V7), .string (strB V8), .int .i64 (V4 : Nat)] 34)) := (Below.refl _ _).alloc (Nat.le_refl _) _
    have hblk := chg_block (c := #[.int .i64 0, .int .i64 0, .int .i64 0, .string ⟨#[]⟩, .string ⟨#[]⟩, .string ⟨#[]⟩, .string ⟨#[]⟩, .int .i64 0]) (t := 34) (hbw.trans (hb8.mono (by have := HC8.out.size; omega)))
    have CE := Lib.hid (end_any _ (w.heap.size + 1) S8 (hr8.below hb8))
    obtain ⟨E, hE⟩ : ∃ E, endE S8 = E := ⟨_, rfl⟩
    rw [hE] at CE
    have HEE := Lib.hid hE
    have HBW := Lib.hid hbw
    clear hr8 hc8 hbw hb8 hE
    have hfz := frozen_at hblk
    have hc0 := cell_at hblk
    clear hblk
    go_wp2_with fail
    refine CE.out.mono ?_
    rintro e w9 ⟨rfl, rfl⟩
    have HBZ := Lib.hid (show Below w.heap.size w (w8.alloc (.cells #[.int .i64 (V1 : Nat), .int .i64 (V2 : Nat), .int .i64 (V3 : Nat), .string (strB V5), .string (strB V6), .string (strB V7), .string (strB V8), .int .i64 (V4 : Nat)] 34)) from (HA.out.trans (HBW.out.mono (by omega))).alloc (by have := HBW.out.size; unfold zAsk at this; omega) _)
    have HS8 := Lib.hid (show rdR askC (.ok l) = S8 by rw [ask_seq, HV1.out.2, HV2.out.2, HV3.out.2, HV4.out.2, HV5.out.2, HV6.out.2, HV7.out.2, HV8.out.2])
    have HER := Lib.hid (show rdAskE l = E by rw [HE.out, ← end_read, HS8.out]; exact HEE.out)
    have HX := Lib.hid (show ∀ x, readL askC l = .ok x → (⟨V1, V2, V3, V5, V6, V7, V8, V4⟩ : AskL) = askT x from fun x hx => by
      obtain ⟨h1, h2⟩ := val_read askC (0, 0, 0, 0, [], [], [], []) x l hx
      rw [ask_vals _ h1, HV1.out.2, HV2.out.2, HV3.out.2, HV4.out.2, HV5.out.2, HV6.out.2, HV7.out.2, HV1.out.1, HV2.out.1, HV3.out.1, HV4.out.1, HV5.out.1, HV6.out.1, HV7.out.1, HV8.out.1] at h2
      rw [← h2]; rfl)
    by_cases hE0 : E = 0
    · subst hE0
      go_wp2_with fail
      refine bodyPost_ret (v := .tuple #[.agg #[.int .i64 (V1 : Nat), .int .i64 (V2 : Nat), .int .i64 (V3 : Nat), .string (strB V5), .string (strB V6), .string (strB V7), .string (strB V8), .int .i64 (V4 : Nat)], .int .i64 0]) (by simp [results, Try.results16, go_sem, hc0]) rfl ⟨⟨V1, V2, V3, V5, V6, V7, V8, V4⟩, by rw [HER.out]; rfl, fun x _ hx => HX.out x hx, ((((((((HBZ.out.setCell (p := ⟨w.heap.size, 0, none⟩) (Nat.le_refl _) _).setCell (p := ⟨w.heap.size, 1, none⟩) (Nat.le_refl _) _).setCell (p := ⟨w.heap.size, 2, none⟩) (Nat.le_refl _) _).setCell (p := ⟨w.heap.size, 3, none⟩) (Nat.le_refl _) _).setCell (p := ⟨w.heap.size, 4, none⟩) (Nat.le_refl _) _).setCell (p := ⟨w.heap.size, 5, none⟩) (Nat.le_refl _) _).setCell (p := ⟨w.heap.size, 6, none⟩) (Nat.le_refl _) _).setCell (p := ⟨w.heap.size, 7, none⟩) (Nat.le_refl _) _)⟩
    · have hez : ((E : Int) != 0) = true := by simp; omega
      go_wp2_with fail
      refine bodyPost_ret (v := .tuple #[.agg #[.int .i64 0, .int .i64 0, .int .i64 0, .string ⟨#[]⟩, .string ⟨#[]⟩, .string ⟨#[]⟩, .string ⟨#[]⟩, .int .i64 0], .int .i64 E]) (by simp [results, Try.results16, go_sem, hc0]) rfl ⟨askZ, by rw [HER.out]; rfl, (fun x _ hx => absurd (HER.out.symm.trans ((HE.out).trans (by rw [hx]; rfl))) hE0), ((((((((HBZ.out.setCell (p := ⟨w.heap.size, 0, none⟩) (Nat.le_refl _) _).setCell (p := ⟨w.heap.size, 1, none⟩) (Nat.le_refl _) _).setCell (p := ⟨w.heap.size, 2, none⟩) (Nat.le_refl _) _).setCell (p := ⟨w.heap.size, 3, none⟩) (Nat.le_refl _) _).setCell (p := ⟨w.heap.size, 4, none⟩) (Nat.le_refl _) _).setCell (p := ⟨w.heap.size, 5, none⟩) (Nat.le_refl _) _).setCell (p := ⟨w.heap.size, 6, none⟩) (Nat.le_refl _) _).setCell (p := ⟨w.heap.size, 7, none⟩) (Nat.le_refl _) _)⟩
end Go.Proofs.Ytkidahlhnhglfaa
