/-
  Several texts in one: PcSeq, PcRdAsk, PcRecs, PcRiRec.
-/
import Derived.Test.YtfadpiipigkocaaMg04
import Derived.Laws.EntriesVeiled
import Derived.WalkSpells
namespace Go.Proofs.Ytfadpiipigkocaa
open Go.RowKit

theorem rdR_pair {α β : Type} (a : Codec α) (b : Codec β) (st : St) : rdR (a.pair b) st = rdR b (rdR a st) := by
  cases st with
  | error e => rfl
  | ok l =>
    cases ha : a.dec l with
    | error e =>
      have h : (a.pair b).dec l = .error e := by show decP a b l = _; unfold decP; rw [ha]
      rw [rdR_no h, rdR_no ha]; rfl
    | ok x =>
      obtain ⟨x, r⟩ := x
      rw [rdR_ok ha]
      cases hb : b.dec r with
      | error e =>
        have h : (a.pair b).dec l = .error e := by show decP a b l = _; unfold decP; rw [ha]; simp only; rw [hb]
        rw [rdR_no h, rdR_no hb]
      | ok y =>
        obtain ⟨y, s⟩ := y
        have h : (a.pair b).dec l = .ok ((x, y), s) := by show decP a b l = _; unfold decP; rw [ha]; simp only; rw [hb]
        rw [rdR_ok h, rdR_ok hb]
theorem rdV_pair {α β : Type} (a : Codec α) (b : Codec β) (d : α × β) (st : St) {r : List UInt8} (h0 : rdR (a.pair b) st = .ok r) : rdV (a.pair b) d st = (rdV a d.1 st, rdV b d.2 (rdR a st)) := by
  cases st with
  | error e => cases h0
  | ok l =>
    cases ha : a.dec l with
    | error e =>
      have h : (a.pair b).dec l = .error e := by show decP a b l = _; unfold decP; rw [ha]
      rw [rdR_no h] at h0; cases h0
    | ok x =>
      obtain ⟨x, r⟩ := x
      cases hb : b.dec r with
      | error e =>
        have h : (a.pair b).dec l = .error e := by show decP a b l = _; unfold decP; rw [ha]; simp only; rw [hb]
        rw [rdR_no h] at h0; cases h0
      | ok y =>
        obtain ⟨y, s⟩ := y
        have h : (a.pair b).dec l = .ok ((x, y), s) := by show decP a b l = _; unfold decP; rw [ha]; simp only; rw [hb]
        rw [rdV_ok h, rdR_ok ha, rdV_ok ha, rdV_ok hb]
def errX {α : Type} : Except Nat α → Nat
  | .ok _ => 0
  | .error e => e
theorem end_read {α : Type} (C : Codec α) (l : List UInt8) : endE (rdR C (.ok l)) = errX (readL C l) := by
  unfold readL
  cases h : C.dec l with
  | error e => rw [rdR_no h]; rfl
  | ok x =>
    obtain ⟨x, r⟩ := x
    rw [rdR_ok h]
    cases r with
    | nil => rfl
    | cons y r => rfl
theorem val_read {α : Type} (C : Codec α) (d x : α) (l : List UInt8) (h : readL C l = .ok x) : rdR C (.ok l) = .ok [] ∧ rdV C d (.ok l) = x := by
  unfold readL at h
  cases hd : C.dec l with
  | error e => rw [hd] at h; cases h
  | ok y =>
    obtain ⟨y, r⟩ := y
    rw [hd] at h
    simp only at h
    by_cases hr : r = []
    · rw [if_pos hr] at h
      injection h with h
      subst h hr
      exact ⟨rdR_ok hd, rdV_ok hd⟩
    · rw [if_neg hr] at h; cases h

/-- an ask as it is read. -/
def askT (a : Nat × Nat × Nat × Nat × List UInt8 × List UInt8 × List UInt8 × List UInt8) : AskL := ⟨a.1, a.2.1, a.2.2.1, a.2.2.2.2.1, a.2.2.2.2.2.1, a.2.2.2.2.2.2.1, a.2.2.2.2.2.2.2, a.2.2.2.1⟩
theorem ask_seq (st : St) : rdR askC st = rdR textC (rdR textC (rdR textC (rdR textC (rdR numC (rdR numC (rdR numC (rdR numC st))))))) := by
  unfold askC
  simp only [rdR_pair]
theorem ask_vals (st : St) {r : List UInt8} (h : rdR askC st = .ok r) : rdV askC (0, 0, 0, 0, [], [], [], []) st =
    (rdV numC 0 st, rdV numC 0 (rdR numC st), rdV numC 0 (rdR numC (rdR numC st)), rdV numC 0 (rdR numC (rdR numC (rdR numC st))), rdV textC [] (rdR numC (rdR numC (rdR numC (rdR numC st)))), rdV textC [] (rdR textC (rdR numC (rdR numC (rdR numC (rdR numC st))))), rdV textC [] (rdR textC (rdR textC (rdR numC (rdR numC (rdR numC (rdR numC st)))))), rdV textC [] (rdR textC (rdR textC (rdR textC (rdR numC (rdR numC (rdR numC (rdR numC st)))))))) := by
  unfold askC at h ⊢
  rw [rdV_pair _ _ _ _ h]
  rw [rdR_pair] at h
  rw [rdV_pair _ _ _ _ h]
  rw [rdR_pair] at h
  rw [rdV_pair _ _ _ _ h]
  rw [rdR_pair] at h
  rw [rdV_pair _ _ _ _ h]
  rw [rdR_pair] at h
  rw [rdV_pair _ _ _ _ h]
  rw [rdR_pair] at h
  rw [rdV_pair _ _ _ _ h]
  rw [rdR_pair] at h
  rw [rdV_pair _ _ _ _ h]
end Go.Proofs.Ytfadpiipigkocaa
namespace Go.Proofs.Ytfadpiipigkocaa
open Go.RowKit

def askZ : AskL := ⟨0, 0, 0, [], [], [], [], 0⟩
/-- what ReadAsk says of the bytes. -/
def rdAskE (l : List UInt8) : Nat := if 32768 < l.length then 3 else errX (readL askC l)
def RetRA (w : World) (l : List UInt8) (e : Ending) (w' : World) : Prop :=
  ∃ a : AskL, e = .returned (.tuple #[askV a, .int .i64 (rdAskE l)]) ∧ (∀ x, l.length ≤ 32768 → readL askC l = .ok x → a = askT x) ∧ Below w.heap.size w w'

def zAsk : Obj := .cells #[.int .i64 0, .int .i64 0, .int .i64 0, .string ⟨#[]⟩, .string ⟨#[]⟩, .string ⟨#[]⟩, .string ⟨#[]⟩, .int .i64 0] 23
theorem chg_block {w w1 : World} {c : Array Value} {t : TypeId} (hb : Below (w.heap.size + 1) (w.alloc (.cells c t)) w1) : w1.heap[w.heap.size]? = some (.cells c t (0, 0)) := by
  rw [hb.block w.heap.size (by omega)]
  exact new_block _ _ _

set_option maxHeartbeats 4000000 in
theorem readAsk_any (l : List UInt8) (p : Option Addr) (cap : Nat) (w : World) (hp : Row w .u8 p (nums l)) :
    Calls Try.prog 54 #[.slice p l.length cap] w (RetRA w l) := by
  have hal : Below w.heap.size w (w.alloc zAsk) := (Below.refl _ _).alloc (Nat.le_refl _) _
  have hcn := rnew_any (w.alloc zAsk) l p cap (hp.below hal)
  have hz0 : (w.alloc zAsk).heap.size = w.heap.size + 1 := by simp
  rw [hz0] at hcn
  by_cases hbig : 32768 < l.length
  · have HE := Lib.hid (show rdAskE l = 3 from if_pos hbig)
    have hlz : decide ((l.length : Int) > 32768) = true := by simp; omega
    have HB := Lib.hid hbig
    have HA := Lib.hid hal
    clear hcn hp hal hbig hz0
    unfold zAsk at HA
    go_enter Try.func54, Try.ntmps54
    go_wp2_with fail
    refine bodyPost_ret (v := .tuple #[askV askZ, .int .i64 3]) (by simp [results, Try.results54, go_sem]; rfl) rfl ⟨askZ, by rw [HE.out]; rfl, fun x hx => absurd hx (by have := HB.out; omega), HA.out⟩
  · have HE := Lib.hid (show rdAskE l = errX (readL askC l) from if_neg hbig)
    have hlz : decide ((l.length : Int) > 32768) = false := by simp; omega
    have CN := Lib.hid hcn
    have HA := Lib.hid hal
    clear hp hal hbig hcn
    unfold zAsk at HA CN hz0
    obtain ⟨n, hn⟩ : ∃ n, l.length = n := ⟨_, rfl⟩
    rw [hn] at hlz CN ⊢
    clear hn
    go_enter Try.func54, Try.ntmps54
    go_wp2_with fail
    refine CN.out.mono ?_
    rintro e w0 ⟨rfl, hr0, hb0⟩
    have HB0 := Lib.hid hb0
    have hg0 : w.heap.size + 1 < w0.heap.size := hr0.lt
    have C1 := Lib.hid (pcNumber_any w0 (w.heap.size + 1) (.ok l) hr0)
    clear hr0 hb0
    obtain ⟨V1, hV1⟩ : ∃ V, rdV numC 0 (.ok l) = V := ⟨_, rfl⟩
    obtain ⟨S1, hS1⟩ : ∃ S, rdR numC (.ok l) = S := ⟨_, rfl⟩
    rw [hV1, hS1] at C1
    have HV1 := Lib.hid (And.intro hV1 hS1)
    clear hV1 hS1
    go_wp2_with fail
    refine C1.out.mono ?_
    rintro e w1 ⟨rfl, hr1, hc1⟩
    have HC1 := Lib.hid hc1
    have C2 := Lib.hid (pcNumber_any w1 (w.heap.size + 1) S1 hr1)
    clear hr1 hc1
    obtain ⟨V2, hV2⟩ : ∃ V, rdV numC 0 S1 = V := ⟨_, rfl⟩
    obtain ⟨S2, hS2⟩ : ∃ S, rdR numC S1 = S := ⟨_, rfl⟩
    rw [hV2, hS2] at C2
    have HV2 := Lib.hid (And.intro hV2 hS2)
    clear hV2 hS2
    go_wp2_with fail
    refine C2.out.mono ?_
    rintro e w2 ⟨rfl, hr2, hc2⟩
    have HC2 := Lib.hid (HC1.out.trans hc2)
    have C3 := Lib.hid (pcNumber_any w2 (w.heap.size + 1) S2 hr2)
    clear hr2 hc2
    obtain ⟨V3, hV3⟩ : ∃ V, rdV numC 0 S2 = V := ⟨_, rfl⟩
    obtain ⟨S3, hS3⟩ : ∃ S, rdR numC S2 = S := ⟨_, rfl⟩
    rw [hV3, hS3] at C3
    have HV3 := Lib.hid (And.intro hV3 hS3)
    clear hV3 hS3
    go_wp2_with fail
    refine C3.out.mono ?_
    rintro e w3 ⟨rfl, hr3, hc3⟩
    have HC3 := Lib.hid (HC2.out.trans hc3)
    have C4 := Lib.hid (pcNumber_any w3 (w.heap.size + 1) S3 hr3)
    clear hr3 hc3
    obtain ⟨V4, hV4⟩ : ∃ V, rdV numC 0 S3 = V := ⟨_, rfl⟩
    obtain ⟨S4, hS4⟩ : ∃ S, rdR numC S3 = S := ⟨_, rfl⟩
    rw [hV4, hS4] at C4
    have HV4 := Lib.hid (And.intro hV4 hS4)
    clear hV4 hS4
    go_wp2_with fail
    refine C4.out.mono ?_
    rintro e w4 ⟨rfl, hr4, hc4⟩
    have HC4 := Lib.hid (HC3.out.trans hc4)
    have C5 := Lib.hid (text_any w4 (w.heap.size + 1) S4 hr4)
    clear hr4 hc4
    obtain ⟨V5, hV5⟩ : ∃ V, rdV textC [] S4 = V := ⟨_, rfl⟩
    obtain ⟨S5, hS5⟩ : ∃ S, rdR textC S4 = S := ⟨_, rfl⟩
    rw [hV5, hS5] at C5
    have HV5 := Lib.hid (And.intro hV5 hS5)
    clear hV5 hS5
    go_wp2_with fail
    refine C5.out.mono ?_
    rintro e w5 ⟨rfl, hr5, hc5⟩
    have HC5 := Lib.hid (HC4.out.trans hc5)
    have C6 := Lib.hid (text_any w5 (w.heap.size + 1) S5 hr5)
    clear hr5 hc5
    obtain ⟨V6, hV6⟩ : ∃ V, rdV textC [] S5 = V := ⟨_, rfl⟩
    obtain ⟨S6, hS6⟩ : ∃ S, rdR textC S5 = S := ⟨_, rfl⟩
    rw [hV6, hS6] at C6
    have HV6 := Lib.hid (And.intro hV6 hS6)
    clear hV6 hS6
    go_wp2_with fail
    refine C6.out.mono ?_
    rintro e w6 ⟨rfl, hr6, hc6⟩
    have HC6 := Lib.hid (HC5.out.trans hc6)
    have C7 := Lib.hid (text_any w6 (w.heap.size + 1) S6 hr6)
    clear hr6 hc6
    obtain ⟨V7, hV7⟩ : ∃ V, rdV textC [] S6 = V := ⟨_, rfl⟩
    obtain ⟨S7, hS7⟩ : ∃ S, rdR textC S6 = S := ⟨_, rfl⟩
    rw [hV7, hS7] at C7
    have HV7 := Lib.hid (And.intro hV7 hS7)
    clear hV7 hS7
    go_wp2_with fail
    refine C7.out.mono ?_
    rintro e w7 ⟨rfl, hr7, hc7⟩
    have HC7 := Lib.hid (HC6.out.trans hc7)
    have C8 := Lib.hid (text_any w7 (w.heap.size + 1) S7 hr7)
    clear hr7 hc7
    obtain ⟨V8, hV8⟩ : ∃ V, rdV textC [] S7 = V := ⟨_, rfl⟩
    obtain ⟨S8, hS8⟩ : ∃ S, rdR textC S7 = S := ⟨_, rfl⟩
    rw [hV8, hS8] at C8
    have HV8 := Lib.hid (And.intro hV8 hS8)
    clear hV8 hS8
    go_wp2_with fail
    refine C8.out.mono ?_
    rintro e w8 ⟨rfl, hr8, hc8⟩
    have HC8 := Lib.hid (HC7.out.trans hc8)
    have hbw : Below (w.heap.size + 1) (w.alloc zAsk) w8 := by
      have h1 := HB0.out
      exact h1.trans (HC8.out.below (Nat.le_refl _) (by omega))
    have hb8 : Below w8.heap.size w8 (w8.alloc (.cells #[.int .i64 (V1 : Nat), .int .i64 (V2 : Nat), .int .i64 (V3 : Nat), .string (strB V5), .string (strB V6), .string (strB V7), .string (strB V8), .int .i64 (V4 : Nat)] 23)) := (Below.refl _ _).alloc (Nat.le_refl _) _
    have hblk := chg_block (c := #[.int .i64 0, .int .i64 0, .int .i64 0, .string ⟨#[]⟩, .string ⟨#[]⟩, .string ⟨#[]⟩, .string ⟨#[]⟩, .int .i64 0]) (t := 23) (hbw.trans (hb8.mono (by have := HC8.out.size; omega)))
    have CE := Lib.hid (end_any _ (w.heap.size + 1) S8 (hr8.below hb8))
    obtain ⟨E, hE⟩ : ∃ E, endE S8 = E := ⟨_, rfl⟩
    rw [hE] at CE
    have HEE := Lib.hid hE
    have HBW := Lib.hid hbw
    clear hr8 hc8 hbw hb8 hE
    have hfz := frozen_at hblk
    have hc0 := cell_at hblk
    clear hblk
    go_wp2_with fail
    refine CE.out.mono ?_
    rintro e w9 ⟨rfl, rfl⟩
    have HBZ := Lib.hid (show Below w.heap.size w (w8.alloc (.cells #[.int .i64 (V1 : Nat), .int .i64 (V2 : Nat), .int .i64 (V3 : Nat), .string (strB V5), .string (strB V6), .string (strB V7), .string (strB V8), .int .i64 (V4 : Nat)] 23)) from (HA.out.trans (HBW.out.mono (by omega))).alloc (by have := HBW.out.size; unfold zAsk at this; omega) _)
    have HS8 := Lib.hid (show rdR askC (.ok l) = S8 by rw [ask_seq, HV1.out.2, HV2.out.2, HV3.out.2, HV4.out.2, HV5.out.2, HV6.out.2, HV7.out.2, HV8.out.2])
    have HER := Lib.hid (show rdAskE l = E by rw [HE.out, ← end_read, HS8.out]; exact HEE.out)
    have HX := Lib.hid (show ∀ x, readL askC l = .ok x → (⟨V1, V2, V3, V5, V6, V7, V8, V4⟩ : AskL) = askT x from fun x hx => by
      obtain ⟨h1, h2⟩ := val_read askC (0, 0, 0, 0, [], [], [], []) x l hx
      rw [ask_vals _ h1, HV1.out.2, HV2.out.2, HV3.out.2, HV4.out.2, HV5.out.2, HV6.out.2, HV7.out.2, HV1.out.1, HV2.out.1, HV3.out.1, HV4.out.1, HV5.out.1, HV6.out.1, HV7.out.1, HV8.out.1] at h2
      rw [← h2]; rfl)
    by_cases hE0 : E = 0
    · subst hE0
      go_wp2_with fail
      refine bodyPost_ret (v := .tuple #[.agg #[.int .i64 (V1 : Nat), .int .i64 (V2 : Nat), .int .i64 (V3 : Nat), .string (strB V5), .string (strB V6), .string (strB V7), .string (strB V8), .int .i64 (V4 : Nat)], .int .i64 0]) (by simp [results, Try.results54, go_sem, hc0]) rfl ⟨⟨V1, V2, V3, V5, V6, V7, V8, V4⟩, by rw [HER.out]; rfl, fun x _ hx => HX.out x hx, ((((((((HBZ.out.setCell (p := ⟨w.heap.size, 0, none⟩) (Nat.le_refl _) _).setCell (p := ⟨w.heap.size, 1, none⟩) (Nat.le_refl _) _).setCell (p := ⟨w.heap.size, 2, none⟩) (Nat.le_refl _) _).setCell (p := ⟨w.heap.size, 3, none⟩) (Nat.le_refl _) _).setCell (p := ⟨w.heap.size, 4, none⟩) (Nat.le_refl _) _).setCell (p := ⟨w.heap.size, 5, none⟩) (Nat.le_refl _) _).setCell (p := ⟨w.heap.size, 6, none⟩) (Nat.le_refl _) _).setCell (p := ⟨w.heap.size, 7, none⟩) (Nat.le_refl _) _)⟩
    · have hez : ((E : Int) != 0) = true := by simp; omega
      go_wp2_with fail
      refine bodyPost_ret (v := .tuple #[.agg #[.int .i64 0, .int .i64 0, .int .i64 0, .string ⟨#[]⟩, .string ⟨#[]⟩, .string ⟨#[]⟩, .string ⟨#[]⟩, .int .i64 0], .int .i64 E]) (by simp [results, Try.results54, go_sem, hc0]) rfl ⟨askZ, by rw [HER.out]; rfl, (fun x _ hx => absurd (HER.out.symm.trans ((HE.out).trans (by rw [hx]; rfl))) hE0), ((((((((HBZ.out.setCell (p := ⟨w.heap.size, 0, none⟩) (Nat.le_refl _) _).setCell (p := ⟨w.heap.size, 1, none⟩) (Nat.le_refl _) _).setCell (p := ⟨w.heap.size, 2, none⟩) (Nat.le_refl _) _).setCell (p := ⟨w.heap.size, 3, none⟩) (Nat.le_refl _) _).setCell (p := ⟨w.heap.size, 4, none⟩) (Nat.le_refl _) _).setCell (p := ⟨w.heap.size, 5, none⟩) (Nat.le_refl _) _).setCell (p := ⟨w.heap.size, 6, none⟩) (Nat.le_refl _) _).setCell (p := ⟨w.heap.size, 7, none⟩) (Nat.le_refl _) _)⟩
end Go.Proofs.Ytfadpiipigkocaa
namespace Go.Proofs.Ytfadpiipigkocaa
open Go.RowKit

/-- as many as n read one behind the other: what is left, and what they are. -/
def iterR {α : Type} (C : Codec α) : Nat → St → St
  | 0, s => s
  | n + 1, s => iterR C n (rdR C s)
def valsR {α : Type} (C : Codec α) (d : α) : Nat → St → List α
  | 0, _ => []
  | n + 1, s => rdV C d s :: valsR C d n (rdR C s)
theorem iterR_err {α : Type} (C : Codec α) (e : Nat) : ∀ n, iterR C n (.error e) = .error e
  | 0 => rfl
  | n + 1 => iterR_err C e n
theorem iter_dec {α : Type} (C : Codec α) (d : α) : ∀ (n : Nat) (b : List UInt8), (∃ l r, decR C n b = .ok (l, r) ∧ iterR C n (.ok b) = .ok r ∧ valsR C d n (.ok b) = l) ∨ (∃ e, decR C n b = .error e ∧ iterR C n (.ok b) = .error e)
  | 0, b => Or.inl ⟨[], b, rfl, rfl, rfl⟩
  | n + 1, b => by
    cases hd : C.dec b with
    | error e =>
      refine Or.inr ⟨e, by unfold decR; rw [hd], ?_⟩
      show iterR C n (rdR C (.ok b)) = _
      rw [rdR_no hd]; exact iterR_err C e n
    | ok x =>
      obtain ⟨x, r⟩ := x
      rcases iter_dec C d n r with ⟨l, s, h1, h2, h3⟩ | ⟨e, h1, h2⟩
      · refine Or.inl ⟨x :: l, s, by unfold decR; rw [hd]; simp only; rw [h1], ?_, ?_⟩
        · show iterR C n (rdR C (.ok b)) = _
          rw [rdR_ok hd]; exact h2
        · show rdV C d (.ok b) :: valsR C d n (rdR C (.ok b)) = _
          rw [rdR_ok hd, rdV_ok hd, h3]
      · refine Or.inr ⟨e, by unfold decR; rw [hd]; simp only; rw [h1], ?_⟩
        show iterR C n (rdR C (.ok b)) = _
        rw [rdR_ok hd]; exact h2
theorem list_seq {α : Type} (C : Codec α) (d : α) (st : St) : rdR (Codec.list C) st = iterR C (rdV numC 0 st) (rdR numC st) ∧ (∀ r, rdR (Codec.list C) st = .ok r → rdV (Codec.list C) [] st = valsR C d (rdV numC 0 st) (rdR numC st)) := by
  cases st with
  | error e => exact ⟨rfl, fun r h => by cases h⟩
  | ok b =>
    cases hn : numC.dec b with
    | error e =>
      have h : (Codec.list C).dec b = .error e := by
        show decL C b = _
        unfold decL
        rw [show decN b = .error e from hn]
      rw [rdR_no h, rdR_no hn, rdV_no hn]
      exact ⟨rfl, fun r h => by cases h⟩
    | ok x =>
      obtain ⟨n, r⟩ := x
      rw [rdR_ok hn, rdV_ok hn]
      rcases iter_dec C d n r with ⟨l, s, h1, h2, h3⟩ | ⟨e, h1, h2⟩
      · have h : (Codec.list C).dec b = .ok (l, s) := by
          show decL C b = _
          unfold decL
          rw [show decN b = .ok (n, r) from hn]
          exact h1
        rw [rdR_ok h, rdV_ok h, h2, h3]
        exact ⟨rfl, fun _ _ => rfl⟩
      · have h : (Codec.list C).dec b = .error e := by
          show decL C b = _
          unfold decL
          rw [show decN b = .ok (n, r) from hn]
          exact h1
        rw [rdR_no h, h2]
        exact ⟨rfl, fun r h => by cases h⟩

def recC : Codec RecL := textC.pair textC
theorem decT_len {b t r : List UInt8} (h : decT b = .ok (t, r)) : r.length + 4 ≤ b.length := by
  unfold decT at h
  cases hd : decN b with
  | error e => rw [hd] at h; cases h
  | ok x =>
    obtain ⟨n, s⟩ := x
    rw [hd] at h
    simp only at h
    by_cases hs : s.length < n
    · rw [if_pos hs] at h; cases h
    · rw [if_neg hs] at h
      injection h with h
      injection h with _ h
      unfold decN at hd
      by_cases h4 : b.length < 4
      · rw [if_pos h4] at hd; cases hd
      · rw [if_neg h4] at hd
        by_cases h5 : 268435456 ≤ numL (b.take 4)
        · rw [if_pos h5] at hd; cases hd
        · rw [if_neg h5] at hd
          injection hd with hd
          injection hd with _ hd
          rw [← h, ← hd]
          simp only [List.length_drop]; omega
theorem recs_short {b r : List UInt8} (h : rdR recC (.ok b) = .ok r) : r.length + 1 ≤ b.length := by
  cases h1 : textC.dec b with
  | error e =>
    have : recC.dec b = .error e := by show decP textC textC b = _; unfold decP; rw [h1]
    rw [rdR_no this] at h; cases h
  | ok x =>
    obtain ⟨x, s⟩ := x
    cases h2 : textC.dec s with
    | error e =>
      have : recC.dec b = .error e := by show decP textC textC b = _; unfold decP; rw [h1]; simp only; rw [h2]
      rw [rdR_no this] at h; cases h
    | ok y =>
      obtain ⟨y, u⟩ := y
      have : recC.dec b = .ok ((x, y), u) := by show decP textC textC b = _; unfold decP; rw [h1]; simp only; rw [h2]
      rw [rdR_ok this] at h
      injection h with h
      subst h
      have := decT_len h1
      have := decT_len h2
      omega

theorem info_rec : (Try.prog.info? 47).map (fun i => (i.zero, i.size, i.bytes)) = some (some (.agg #[.string ⟨#[]⟩, .string ⟨#[]⟩]), 2, 32) := by kernel_rfl
def flatR (ls : List RecL) : List Value := ls.flatMap fun s => [Value.string (strB s.1), Value.string (strB s.2)]
theorem flatR_at (ls : List RecL) : ∀ j, j < ls.length → (flatR ls)[j * 2]? = some (.string (strB (ls.getD j ([], [])).1)) ∧ (flatR ls)[j * 2 + 1]? = some (.string (strB (ls.getD j ([], [])).2)) := by
  induction ls with
  | nil => intro j hj; simp at hj
  | cons s r ih =>
    intro j hj
    cases j with
    | zero => exact ⟨rfl, rfl⟩
    | succ j =>
      have := ih j (by simpa using hj)
      rw [show (j + 1) * 2 = j * 2 + 2 by omega]
      simpa [flatR] using this
/-- v is a row of records that the call owns. -/
def OwnR (w : World) (B : Nat) (v : Value) (ls : List RecL) : Prop := w.ownsRow B 47 2 v ls.length (flatR ls)
theorem OwnR.nil (w : World) (B : Nat) : OwnR w B (.slice none 0 0) [] := World.ownsRow_nil w B _ 2
theorem OwnR.row {w : World} {B : Nat} {v : Value} {ls : List RecL} (h : OwnR w B v ls) : ∃ p c, v = .slice p ls.length c ∧ ls.length ≤ c ∧ (p = none → c = 0) ∧ Recs w p ls := by
  obtain ⟨h1, ⟨rfl, h0⟩ | ⟨g, cap, cur, rfl, hg, hh, hc, hm, hs, ht⟩⟩ := h
  · have : ls = [] := List.eq_nil_of_length_eq_zero h0
    subst this
    exact ⟨none, 0, rfl, Nat.le_refl _, fun _ => rfl, Or.inl rfl⟩
  · refine ⟨_, cap, rfl, hc, (fun h => by cases h), Or.inr ⟨g, 0, rfl, (Array.getElem?_eq_some_iff.1 hh).1, fun j hj => ?_⟩⟩
    obtain ⟨a1, a2⟩ := flatR_at ls j hj
    have e : ∀ i, i < ls.length * 2 → cur[i]? = (flatR ls)[i]? := fun i hi => by
      rw [← ht, List.getElem?_take, if_pos hi, Array.getElem?_toList]
    simp only [World.cell?, hh, Nat.zero_add]
    exact ⟨by show cur[j * 2]? = _; rw [e _ (by omega)]; exact a1, by show cur[j * 2 + 1]? = _; rw [e _ (by omega)]; exact a2⟩
theorem OwnR.alloc {w : World} {B : Nat} {v : Value} {ls : List RecL} (h : OwnR w B v ls) (o : Obj) : OwnR (w.alloc o) B v ls := World.ownsRow.alloc h o
theorem OwnR.lt {w : World} {B : Nat} {v : Value} {ls : List RecL} (h : OwnR w B v ls) : ∀ g, v.ownBlock = some g → B ≤ g := fun g hg => (World.ownsRow.lt h g hg).1
theorem OwnR.chg {w w' : World} {B g : Nat} {v : Value} {ls : List RecL} (h : OwnR w B v ls) (hc : Chg g w w') (hg : g < B) : OwnR w' B v ls := by
  obtain ⟨h1, h2⟩ := h
  refine ⟨h1, ?_⟩
  rcases h2 with h2 | ⟨b, cap, cur, e, hb, hh, r⟩
  · exact Or.inl h2
  · exact Or.inr ⟨b, cap, cur, e, hb, by rw [hc.block b (Array.getElem?_eq_some_iff.1 hh).1 (by omega)]; exact hh, r⟩
theorem OwnR.below {w w' : World} {B : Nat} {v : Value} {ls : List RecL} (h : OwnR w B v ls) (hb : Below w.heap.size w w') : OwnR w' B v ls := by
  obtain ⟨h1, h2⟩ := h
  refine ⟨h1, ?_⟩
  rcases h2 with h2 | ⟨b, cap, cur, e, hg, hh, r⟩
  · exact Or.inl h2
  · exact Or.inr ⟨b, cap, cur, e, hg, by rw [hb.block b (Array.getElem?_eq_some_iff.1 hh).1]; exact hh, r⟩

/-- append of one record. -/
theorem wpList_push_rec {w : World} {ops : Array Oper} {rest : List Oper} {o : Oper} {a : Act} {Q : Exit → Act → World → Prop}
    (hg : o.guard = none) (s x : Operand) (hop : o.op = Op.call { callee := Callee.builtin Builtin.append, args := #[s, x], argTypes := #[25, 25] })
    (B : Nat) (v : Value) (ls : List RecL) (hs : a.eval s = v) (hown : OwnR w B v ls)
    (G c : Nat) (y : RecL) (hx : a.eval x = .slice (some ⟨G, 0, none⟩) 1 c) (hc0 : w.cell? ⟨G, 0, none⟩ = some (.string (strB y.1))) (hc1 : w.cell? ⟨G, 1, none⟩ = some (.string (strB y.2)))
    (hlen : ls.length ≤ 1000000000000) (hB : B ≤ w.heap.size)
    (hK : ∀ v' w', OwnR w' B v' (ls ++ [y]) → w.grownBy w' v.ownBlock → wpList Try.prog ops Q rest (a.put o.dst v') w') :
    wpList Try.prog ops Q (o :: rest) a w := by
  obtain ⟨i0, hi, hz0, hz1, hz2⟩ := info_parts info_rec
  refine wpList_append_own w hg s x 25 hop B 47 i0 (.agg #[.string ⟨#[]⟩, .string ⟨#[]⟩]) 2 32 Try.underlying25 hi hz0 hz1 hz2 rfl (by decide) v ls.length (flatR ls) hs hown ⟨G, 0, none⟩ 1 c [.string (strB y.1), .string (strB y.2)] hx rfl ?_ ?_ (by unfold maxLen; omega) (by omega) hB ?_
  · intro j u hj
    rw [Addr.add_lit, Nat.zero_add]
    match j, hj with
    | 0, hj => simp at hj; subst hj; exact hc0
    | 1, hj => simp at hj; subst hj; exact hc1
    | j + 2, hj => simp at hj
  · intro u hu
    simp only [List.mem_cons, List.not_mem_nil, or_false] at hu
    rcases hu with rfl | rfl <;> rfl
  · intro v' w' ho hgr _
    refine hK v' w' ?_ hgr
    unfold OwnR
    rw [List.length_append, show flatR (ls ++ [y]) = flatR ls ++ [.string (strB y.1), .string (strB y.2)] by simp [flatR]]
    exact ho

theorem RdAt.grown {w w' : World} {g : Nat} {st : St} {row : Option Nat} (h : RdAt w g st) (hg : w.grownBy w' row) (hr : some g ≠ row) : RdAt w' g st := ⟨h.bd, by rw [hg.block g h.lt hr]; exact h.at_⟩

/-- how far a row has been read: what is to come, and what has been read. -/
structure ItI {α β γ : Type} (C : Codec α) (d : α) (g : β → γ) (h : α → γ) (F : St) (L : List γ) (N m : Nat) (s : St) (xs : List β) : Prop where
  it : iterR C m s = F
  vs : ∀ r, F = .ok r → xs.map g ++ (valsR C d m s).map h = L
  bd : xs.length + (restS s).length ≤ N + 1
  lt : (∃ b, s = .ok b) → xs.length + (restS s).length ≤ N
theorem ItI.start {α β γ : Type} {C : Codec α} {d : α} {g : β → γ} {h : α → γ} {st : St} {n N : Nat} {s : St} (hn : rdV numC 0 st = n) (hs : rdR numC st = s) (hN : (restS s).length ≤ N) :
    ItI C d g h (rdR (Codec.list C) st) ((rdV (Codec.list C) [] st).map h) N n s [] := by
  obtain ⟨h1, h2⟩ := list_seq C d st
  rw [hn, hs] at h1 h2
  exact ⟨h1.symm, fun r hr => by rw [List.map_nil, List.nil_append, h2 r hr], by rw [List.length_nil]; omega, fun _ => by rw [List.length_nil]; omega⟩
theorem ItI.step {α β γ : Type} {C : Codec α} {d : α} {g : β → γ} {h : α → γ} {F : St} {L : List γ} {N m : Nat} {b : List UInt8} {xs : List β} (H : ItI C d g h F L N (m + 1) (.ok b) xs) (hC : ∀ r, rdR C (.ok b) = .ok r → r.length + 1 ≤ b.length)
    {y : β} (hy : ∀ r, rdR C (.ok b) = .ok r → g y = h (rdV C d (.ok b))) : ItI C d g h F L N m (rdR C (.ok b)) (xs ++ [y]) := by
  have hlt := H.lt ⟨b, rfl⟩
  have hb : (restS (.ok b)).length = b.length := rfl
  have hit : iterR C m (rdR C (.ok b)) = F := H.it
  refine ⟨hit, fun r hr => ?_, ?_, fun ⟨b2, hb2⟩ => ?_⟩
  · have hs2 : ∃ r2, rdR C (.ok b) = .ok r2 := by
      cases hs : rdR C (.ok b) with
      | ok r2 => exact ⟨r2, rfl⟩
      | error e2 =>
        rw [hs, iterR_err] at hit
        rw [← hit] at hr; cases hr
    obtain ⟨r2, hr2⟩ := hs2
    have h6 := H.vs r hr
    rw [show valsR C d (m + 1) (.ok b) = rdV C d (.ok b) :: valsR C d m (rdR C (.ok b)) from rfl, List.map_cons, ← hy r2 hr2] at h6
    rw [List.map_append, List.append_assoc]
    exact h6
  · rw [List.length_append, List.length_singleton]
    cases hs : rdR C (.ok b) with
    | ok r2 => have := hC r2 hs; show _ + r2.length ≤ _; omega
    | error e2 => show _ + 0 ≤ _; omega
  · have := hC b2 hb2
    rw [List.length_append, List.length_singleton, hb2]
    show _ + b2.length ≤ _
    omega
theorem ItI.done {α β γ : Type} {C : Codec α} {d : α} {g : β → γ} {h : α → γ} {F : St} {L : List γ} {N : Nat} {s : St} {xs : List β} (H : ItI C d g h F L N 0 s xs) : s = F ∧ ∀ r, F = .ok r → xs.map g = L :=
  ⟨H.it, fun r hr => by have := H.vs r hr; rwa [show valsR C d 0 s = [] from rfl, List.map_nil, List.append_nil] at this⟩
theorem ItI.err {α β γ : Type} {C : Codec α} {d : α} {g : β → γ} {h : α → γ} {F : St} {L : List γ} {N m e : Nat} {xs : List β} (H : ItI C d g h F L N m (.error e) xs) : F = .error e := by rw [← H.it]; exact iterR_err _ _ _
theorem rest_take (st : St) (n : Nat) : (restS (takeR st n)).length ≤ (restS st).length := by
  cases st with
  | error e => exact Nat.le_refl _
  | ok b =>
    by_cases h : n ≤ b.length
    · rw [show takeR (.ok b) n = .ok (b.drop n) from if_pos h]; simp [restS]
    · rw [show takeR (.ok b) n = .error 7 from if_neg h]; exact Nat.zero_le _
theorem rest_num (st : St) : (restS (rdR numC st)).length ≤ (restS st).length := by
  rcases rd_num st with ⟨_, _, h⟩ | ⟨_, _, h⟩
  · rw [h]; exact rest_take _ _
  · rw [h]; exact Nat.zero_le _
theorem rest_text (st : St) : (restS (rdR textC st)).length ≤ (restS st).length := by
  rw [← (rd_text st).2]; exact Nat.le_trans (rest_take _ _) (rest_num st)
theorem rest_truth (st : St) : (restS (rdR truthC st)).length ≤ (restS st).length := by
  rcases rd_truth st with ⟨_, _, h⟩ | ⟨_, _, h⟩ | ⟨_, _, h⟩ | ⟨_, _, _, _, _, h⟩
  · rw [h]; exact rest_take _ _
  · rw [h]; exact rest_take _ _
  · rw [h]; exact rest_take _ _
  · rw [h]; exact Nat.zero_le _
theorem Chg.grown {g : Nat} {w w' : World} {row : Option Nat} (hg : w.grownBy w' row) {W : World} (hc : Chg g W w) (hr : ∀ b, row = some b → W.heap.size ≤ b) : Chg g W w' :=
  ⟨hg.os.trans hc.os, hg.tape.trans hc.tape, hg.output.trans hc.output, Nat.le_trans hc.size hg.size, fun i hi hne => by
    rw [hg.block i (by have := hc.size; omega) fun e => by have := hr i e.symm; omega]
    exact hc.block i hi hne⟩
end Go.Proofs.Ytfadpiipigkocaa
namespace Go.Proofs.Ytfadpiipigkocaa
open Go.RowKit

/-- what Record answers. -/
def RetRec1 (gp : Nat) (st : St) (w : World) (e : Ending) (w' : World) : Prop :=
  ∃ y : RecL, e = .returned (.agg #[.string (strB y.1), .string (strB y.2)]) ∧ RdAt w' gp (rdR recC st) ∧ Chg gp w w' ∧ (∀ r, rdR recC st = .ok r → y = rdV recC ([], []) st)
set_option maxHeartbeats 1000000 in
theorem rrecord_any (w : World) (g : Nat) (st : St) (h : RdAt w g st) : Calls Try.prog 59 #[.pointer (some ⟨g, 0, none⟩)] w (RetRec1 g st w) := by
  have hgl := h.lt
  have HF := Lib.hid (show ∀ w', RdAt w' g (rdR textC (rdR textC st)) → Chg g w w' → RetRec1 g st w (.returned (.agg #[.string (strB (rdV textC [] st)), .string (strB (rdV textC [] (rdR textC st)))])) w' from fun w' h1 h2 =>
    ⟨(rdV textC [] st, rdV textC [] (rdR textC st)), rfl, by rw [show rdR recC st = rdR textC (rdR textC st) from rdR_pair textC textC st]; exact h1, h2, fun r hr => (rdV_pair textC textC ([], []) st hr).symm⟩)
  have hal : Below w.heap.size w (w.alloc (.cells #[.string ⟨#[]⟩, .string ⟨#[]⟩] 47)) := (Below.refl _ _).alloc (Nat.le_refl _) _
  have C1 := Lib.hid (text_any _ g st (h.below hal))
  have C2 := Lib.hid (fun w1 h1 => text_any w1 g (rdR textC st) h1)
  have HA := Lib.hid hal
  have HG := Lib.hid hgl
  generalize RetRec1 g st w = R at HF ⊢
  generalize strB (rdV textC [] st) = t1 at HF C1
  generalize strB (rdV textC [] (rdR textC st)) = t2 at HF C2
  generalize rdR textC (rdR textC st) = S2 at HF C2
  generalize rdR textC st = S1 at C1 C2
  clear h hal hgl
  go_enter Try.func59, Try.ntmps59
  go_wp2_with fail
  refine C1.out.mono ?_
  rintro e w1 ⟨rfl, hr1, hc1⟩
  have HC1 := Lib.hid hc1
  have C3 := Lib.hid (C2.out w1 hr1)
  clear hr1 hc1
  go_wp2_with fail
  refine C3.out.mono ?_
  rintro e w2 ⟨rfl, hr2, hc2⟩
  have HC2 := Lib.hid (HC1.out.trans hc2)
  have HB2 := Lib.hid (show w2.heap[w.heap.size]? = some (.cells #[.string ⟨#[]⟩, .string ⟨#[]⟩] 47 (0, 0)) by
    rw [HC2.out.block w.heap.size (by simp) (by have := HG.out; omega)]; exact new_block _ _ _)
  have hz := hr2.lt
  have k0 := cell_at HB2.out 0
  have k1 := frozen_at HB2.out 0
  have h3 := set_at HB2.out 0 (.string t1)
  have k2 := cell_at h3 1
  have k3 := frozen_at h3 1
  have h4 := set_at h3 1 (.string t2)
  have q0 := cell_at h4 0
  have q1 := cell_at h4 1
  have HR := Lib.hid (HF.out ((w2.setCell ⟨w.heap.size, 0, none⟩ (.string t1)).setCell ⟨w.heap.size, 1, none⟩ (.string t2)) ⟨hr2.bd, by
      rw [Below.heap_setCell _ _ _ _ (by have := HG.out; show g ≠ w.heap.size; omega), Below.heap_setCell _ _ _ _ (by have := HG.out; show g ≠ w.heap.size; omega)]; exact hr2.at_⟩
    ⟨HC2.out.os.trans HA.out.os, HC2.out.tape.trans HA.out.tape, HC2.out.output.trans HA.out.output, by have := HC2.out.size; simp [World.setCell] at this ⊢; omega, fun k hk hg => by
      rw [Below.heap_setCell _ _ _ _ (by show k ≠ w.heap.size; omega), Below.heap_setCell _ _ _ _ (by show k ≠ w.heap.size; omega), HC2.out.block k (by simp; omega) hg, HA.out.block k hk]⟩)
  clear hr2 hc2 h3 h4 hz
  go_wp2_with fail
  refine bodyPost_ret (v := .agg #[.string t1, .string t2]) (by simp [results, Try.results59, go_sem, q0, q1]) rfl HR.out

/-- what ReadItems answers at Rec. -/
def RetItRec (w : World) (gp : Nat) (st : St) (e : Ending) (w' : World) : Prop :=
  ∃ v ys, e = .returned v ∧ OwnR w' w.heap.size v ys ∧ RdAt w' gp (rdR (Codec.list recC) st) ∧ Chg gp w w' ∧ (∀ r, rdR (Codec.list recC) st = .ok r → ys.map (fun y : RecL => y) = (rdV (Codec.list recC) [] st).map (fun y : RecL => y)) ∧ True
structure RiRec (w : World) (gp : Nat) (F : St) (L : List RecL) (N : Nat) (v : Value) (m : Nat) (wr : World) (s : St) (ys : List RecL) : Prop where
  own : OwnR wr w.heap.size v ys
  rd : RdAt wr gp s
  ch : Chg gp w wr
  pu : ItI recC ([], []) (fun y : RecL => y) (fun y : RecL => y) F L N m s ys
  ins : True

set_option maxHeartbeats 4000000 in
theorem readItemsRec {g : FuncId} {lb : Array Value} (eg : ∀ args w, (callFunc g args).run Try.prog w = .ok (.enter g args) w) (w : World) (gp : Nat) (st : St) (h : RdAt w gp st) (hl : (restS st).length ≤ 99999999)
    (hC : ∀ b r, rdR recC (.ok b) = .ok r → r.length + 1 ≤ b.length)
    (hone : ∀ w1 b, Chg gp w w1 → RdAt w1 gp (.ok b) → b.length ≤ (restS st).length → Calls Try.prog g (#[.pointer (some ⟨gp, 0, none⟩)] ++ lb) w1 (RetRec1 gp (.ok b) w1)) :
    Calls Try.prog 58 #[.pointer (some ⟨gp, 0, none⟩), .func (.func g) #[] lb] w (RetItRec w gp st) := by
  have hfn : ∀ w : World, (binOp .eql 111 (.func (.func g) #[] lb) .nilFunc).run Try.prog w = .ok (.bool false) w := fun _ => by kernel_rfl
  have hgl := h.lt
  have HF := Lib.hid (show ∀ v ys w', OwnR w' w.heap.size v ys → RdAt w' gp (rdR (Codec.list recC) st) → Chg gp w w' → (∀ r, rdR (Codec.list recC) st = .ok r → ys.map (fun y : RecL => y) = (rdV (Codec.list recC) [] st).map (fun y : RecL => y)) → True → RetItRec w gp st (.returned v) w' from fun v ys w' h1 h2 h3 h4 h5 => ⟨v, ys, rfl, h1, h2, h3, h4, h5⟩)
  have CN := Lib.hid (pcNumber_any w gp st h)
  obtain ⟨n, hn⟩ : ∃ n, rdV numC 0 st = n := ⟨_, rfl⟩
  obtain ⟨S, hS1⟩ : ∃ S, rdR numC st = S := ⟨_, rfl⟩
  obtain ⟨N, hN⟩ : ∃ N, (restS st).length = N := ⟨_, rfl⟩
  have hst := ItI.start (C := recC) (d := ([], [])) (g := (fun y : RecL => y)) (h := (fun y : RecL => y)) (N := N) hn hS1 (by rw [← hS1, ← hN]; exact rest_num st)
  have hnb : n ≤ 268435455 := hn ▸ rdV_num_le st
  have HERR := Lib.hid (show ∀ e0, S = .error e0 → rdR (Codec.list recC) st = .error e0 from fun e0 he => by
    obtain ⟨h1, _⟩ := list_seq recC ([], []) st
    rw [h1, hS1, he]; exact iterR_err _ _ _)
  obtain ⟨F, hF⟩ : ∃ F, rdR (Codec.list recC) st = F := ⟨_, rfl⟩
  obtain ⟨L, hL⟩ : ∃ L, (rdV (Codec.list recC) [] st).map (fun y : RecL => y) = L := ⟨_, rfl⟩
  rw [hF, hL] at HF hst
  rw [hF] at HERR
  rw [hn, hS1] at CN
  rw [hN] at hl
  have HST := Lib.hid hst
  have HONE := Lib.hid (hN ▸ hone)
  have HC := Lib.hid hC
  have HNL := Lib.hid hl
  have HG := Lib.hid hgl
  clear h hst hF hL hN hn hS1 hone hC hl hgl
  go_enter Try.func58, Try.ntmps58
  go_wp2_with fail
  refine CN.out.mono ?_
  rintro e w1 ⟨rfl, hr1, hc1⟩
  have hat1 := hr1.at_
  have c1 := cell_at hat1 1
  clear hat1
  have HR1 := Lib.hid hr1
  have HC1 := Lib.hid hc1
  clear hr1 hc1 CN
  cases S with
  | error e0 =>
    have h0 := HR1.out.bd e0 rfl
    have h0z : ((e0 : Int) != 0) = true := by simp; omega
    simp only [errS] at c1
    have HP := Lib.hid (HF.out (.slice none 0 0) [] w1 (OwnR.nil _ _) (by rw [HERR.out e0 rfl]; exact HR1.out) HC1.out (fun r hr => by rw [HERR.out e0 rfl] at hr; cases hr) trivial)
    clear h0
    go_wp2_with fail
    go_ret
    exact HP.out
  | ok b0 =>
    simp only [errS] at c1
    have HI := Lib.hid (show RiRec w gp F L N (.slice none 0 0) n w1 (.ok b0) [] from ⟨OwnR.nil _ _, HR1.out, HC1.out, HST.out, trivial⟩)
    clear HERR HST HR1 HC1
    go_wp2_with fail
    clear c1
    go_loopw [5, 6] (fun i v wr => ∃ (m : Nat) (s : St) (ys : List RecL), i = .int .i64 m ∧ m ≤ 268435455 ∧ Hid (RiRec w gp F L N v m wr s ys)) (fun i _ _ => (RowKit.intOf i).toNat)
    case atStart => exact ⟨n, .ok b0, [], rfl, hnb, HI⟩
    case round =>
      obtain ⟨m, s, ys, rfl, hmb, HR⟩ := hrel
      have hat := HR.out.rd.at_
      have c1 := cell_at hat 1
      clear hat
      cases s with
      | error e0 =>
        have h0 := HR.out.rd.bd e0 rfl
        have h0z : ((e0 : Int) == 0) = false := by simp; omega
        have h0y : ((e0 : Int) != 0) = true := by simp; omega
        simp only [errS] at c1
        have HP := Lib.hid (HF.out (.slice none 0 0) [] wr (OwnR.nil _ _) (by rw [HR.out.pu.err]; exact HR.out.rd) HR.out.ch (fun r hr => by rw [HR.out.pu.err] at hr; cases hr) trivial)
        clear h0
        by_cases hm : m = 0
        · subst hm
          go_wp2_with fail
          go_ret
          exact HP.out
        · have hmz : decide ((m : Int) > 0) = true := by simp; omega
          go_wp2_with fail
          go_ret
          exact HP.out
      | ok b =>
        simp only [errS] at c1
        by_cases hm : m = 0
        · subst hm
          have HP := Lib.hid (HF.out _ ys wr HR.out.own (HR.out.pu.done.1 ▸ HR.out.rd) HR.out.ch HR.out.pu.done.2 trivial)
          obtain ⟨q, d, rfl, -⟩ := HR.out.own.row
          go_wp2_with fail
          go_ret
          exact HP.out
        · have hmz : decide ((m : Int) > 0) = true := by simp; omega
          obtain ⟨m', rfl⟩ : ∃ m', m = m' + 1 := ⟨m - 1, by omega⟩
          have C1 := Lib.hid (HONE.out wr b HR.out.ch HR.out.rd (by have := HR.out.pu.lt ⟨b, rfl⟩; have e : (restS (.ok b)).length = b.length := rfl; omega))
          obtain ⟨q, d, rfl, -⟩ := HR.out.own.row
          have hls : ys.length ≤ 99999999 := by have := HR.out.pu.lt ⟨b, rfl⟩; have := HNL.out; omega
          have hls1 : ys.length + 1 ≤ 100000001 := by omega
          have HLS := Lib.hid hls
          clear hls1 hm
          obtain ⟨k, hk⟩ : ∃ k, ys.length = k := ⟨_, rfl⟩
          have HOW := Lib.hid (hk ▸ HR.out.own)
          rw [hk]
          have HK := Lib.hid hk
          clear hk hls
          go_wp2_with fail
          refine C1.out.mono ?_
          rintro e w3 ⟨⟨t1, t2⟩, rfl, hr3, hc3, hv3⟩
          have HC3 := Lib.hid (HR.out.ch.trans hc3)
          have HR3 := Lib.hid hr3
          have HO3 := Lib.hid (OwnR.chg HOW.out hc3 HG.out)
          have HV3 := Lib.hid hv3
          have HZ := Lib.hid (show w.heap.size ≤ w3.heap.size from HC3.out.size)
          have HAL := Lib.hid (show Below w3.heap.size w3 (w3.alloc (.cells #[.string (strB t1), .string (strB t2)] 47)) from (Below.refl _ _).alloc (Nat.le_refl _) _)
          have hsz4 : w.heap.size ≤ (w3.alloc (.cells #[.string (strB t1), .string (strB t2)] 47)).heap.size := by simp; have := HZ.out; omega
          have hls4 : ys.length ≤ 1000000000000 := by have := HLS.out; omega
          have ho4 := HO3.out.alloc (.cells #[.string (strB t1), .string (strB t2)] 47)
          have x0 := cell_at (new_block w3 #[.string (strB t1), .string (strB t2)] 47) 0
          have x1 := cell_at (new_block w3 #[.string (strB t1), .string (strB t2)] 47) 1
          clear hr3 hc3 hv3
          go_wp2_with (at_builtin; refine wpList_push_rec rfl _ _ rfl w.heap.size (.slice q k d) ys rfl ho4 w3.heap.size 1 (t1, t2) rfl x0 x1 hls4 hsz4 ?_)
          intro v4 w4 hown4 hgrow
          clear ho4 x0 x1
          have HI4 := Lib.hid (show RiRec w gp F L N v4 m' w4 (rdR recC (.ok b)) (ys ++ [(t1, t2)]) from by
            have hne : some gp ≠ (Value.slice q k d).ownBlock := fun e => by
              have := HO3.out.lt gp e.symm
              have := HG.out
              omega
            exact ⟨hown4, (HR3.out.below HAL.out).grown hgrow hne, Chg.grown hgrow (HC3.out.trans (Chg.of_below HAL.out)) (fun b hb => HO3.out.lt b hb), HR.out.pu.step (HC.out b) HV3.out, trivial⟩)
          clear hown4 hgrow
          go_wp2_with fail
          go_roundw
          case rel => exact ⟨m', _, _, by go_num, by omega, HI4⟩
          case measure => simp [RowKit.intOf]
end Go.Proofs.Ytfadpiipigkocaa
