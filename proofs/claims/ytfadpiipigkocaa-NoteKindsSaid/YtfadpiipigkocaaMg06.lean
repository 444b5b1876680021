/-
  Several texts in one: PcRdRep, PcEnc, PcArgs, IntMap.
-/
import Derived.Test.YtfadpiipigkocaaMg05
import Derived.Test.YtfadpiipigkocaaMg01
import Derived.OpenShut
import Derived.Test.YtfadpiipigkocaaChecked
import Derived.WalkKit
import Derived.Below
import Derived.Lib.Hide
import Derived.Maps.OwnSet
import Derived.Lib.SlKeysI
namespace Go.Proofs.Ytfadpiipigkocaa
open Go.RowKit

/-- a reply as it is read. -/
def repT (a : Nat × Nat × Nat × Bool × List UInt8 × List (List UInt8 × List UInt8) × List UInt8 × Bool) : RepL := ⟨a.1, a.2.1, a.2.2.1, a.2.2.2.1, a.2.2.2.2.1, a.2.2.2.2.2.1, a.2.2.2.2.2.2.1, a.2.2.2.2.2.2.2⟩
theorem reply_seq (st : St) : rdR replyC st = (rdR truthC (rdR textC (rdR (Codec.list recC) (rdR textC (rdR truthC (rdR numC (rdR numC (rdR numC st)))))))) := by
  unfold replyC
  simp only [rdR_pair]
  rfl
theorem reply_vals (st : St) {r : List UInt8} (h : rdR replyC st = .ok r) : rdV replyC (0, 0, 0, false, [], [], [], false) st =
    (rdV numC 0 st, rdV numC 0 (rdR numC st), rdV numC 0 (rdR numC (rdR numC st)), rdV truthC false (rdR numC (rdR numC (rdR numC st))), rdV textC [] (rdR truthC (rdR numC (rdR numC (rdR numC st)))), rdV (Codec.list recC) [] (rdR textC (rdR truthC (rdR numC (rdR numC (rdR numC st))))), rdV textC [] (rdR (Codec.list recC) (rdR textC (rdR truthC (rdR numC (rdR numC (rdR numC st)))))), rdV truthC false (rdR textC (rdR (Codec.list recC) (rdR textC (rdR truthC (rdR numC (rdR numC (rdR numC st)))))))) ∧ (∃ r2, rdR (Codec.list recC) (rdR textC (rdR truthC (rdR numC (rdR numC (rdR numC st))))) = .ok r2) := by
  unfold replyC at h ⊢
  rw [rdV_pair _ _ _ _ h]
  rw [rdR_pair] at h
  rw [rdV_pair _ _ _ _ h]
  rw [rdR_pair] at h
  rw [rdV_pair _ _ _ _ h]
  rw [rdR_pair] at h
  rw [rdV_pair _ _ _ _ h]
  rw [rdR_pair] at h
  rw [rdV_pair _ _ _ _ h]
  rw [rdR_pair] at h
  rw [rdV_pair _ _ _ _ h]
  rw [rdR_pair] at h
  rw [rdV_pair _ _ _ _ h]
  rw [rdR_pair] at h
  refine ⟨rfl, ?_⟩
  cases hx : rdR (Codec.list recC) (rdR textC (rdR truthC (rdR numC (rdR numC (rdR numC st))))) with
  | ok r2 => exact ⟨r2, rfl⟩
  | error e =>
    have h2 : rdR truthC (rdR textC (rdR (Codec.list recC) (rdR textC (rdR truthC (rdR numC (rdR numC (rdR numC st))))))) = .ok r := h
    rw [hx] at h2
    cases h2

def repZ : RepL := ⟨0, 0, 0, false, [], [], [], false⟩
/-- what ReadReply says of the bytes. -/
def rdRepE (l : List UInt8) : Nat := if 32768 < l.length then 3 else errX (readL replyC l)
def RetRR (w : World) (l : List UInt8) (e : Ending) (w' : World) : Prop :=
  ∃ (r : RepL) (q : Option Addr) (d : Nat), e = .returned (.tuple #[repV r q d, .int .i64 (rdRepE l)]) ∧ (∀ x, l.length ≤ 32768 → readL replyC l = .ok x → r = repT x ∧ Recs w' q r.ls) ∧ Below w.heap.size w w'
/-- the records lie in a new block, of records. -/
def RecN (B : Nat) (w' : World) (q : Option Addr) : Prop := ∀ b off, q = some ⟨b, off, none⟩ → B ≤ b ∧ ∃ cs fz, w'.heap[b]? = some (.cells cs 47 fz)
theorem ownR_new {w : World} {B k d : Nat} {q : Option Addr} {ls : List RecL} (h : OwnR w B (.slice q k d) ls) {B' : Nat} (hB : B' ≤ B) : RecN B' w q := by
  intro b off hp
  obtain ⟨_, ⟨h1, _⟩ | ⟨g, cap, cur, h1, hg, hh, _⟩⟩ := h
  · injection h1 with h1; rw [h1] at hp; cases hp
  · injection h1 with h1
    rw [h1] at hp
    injection hp with hp
    injection hp with hp
    subst hp
    exact ⟨by omega, cur, _, hh⟩
def RetRN (w : World) (l : List UInt8) (e : Ending) (w' : World) : Prop :=
  ∃ (r : RepL) (q : Option Addr) (d : Nat), e = .returned (.tuple #[repV r q d, .int .i64 (rdRepE l)]) ∧ (∀ x, l.length ≤ 32768 → readL replyC l = .ok x → r = repT x ∧ Recs w' q r.ls) ∧ Below w.heap.size w w' ∧ RecN w.heap.size w' q
def zRep : Obj := .cells #[.int .i64 0, .int .i64 0, .int .i64 0, .bool false, .string ⟨#[]⟩, .slice none 0 0, .string ⟨#[]⟩, .bool false] 27

theorem recs_set {w : World} {B g o : Nat} {u : Value} {v : Value} {ls : List RecL} (h : OwnR w B v ls) (hg : g < B) : OwnR (w.setCell ⟨g, o, none⟩ u) B v ls := by
  obtain ⟨h1, h2⟩ := h
  refine ⟨h1, ?_⟩
  rcases h2 with h2 | ⟨b, cap, cur, rfl, hb, hh, r⟩
  · exact Or.inl h2
  · exact Or.inr ⟨b, cap, cur, rfl, hb, by rw [Below.heap_setCell _ _ _ _ (by show b ≠ g; omega)]; exact hh, r⟩
theorem own_recs {w : World} {B k d : Nat} {q : Option Addr} {ls : List RecL} (h : OwnR w B (.slice q k d) ls) : Recs w q ls := by
  obtain ⟨q', d', he, -, -, hrec⟩ := h.row
  injection he with he _ _
  rw [he]; exact hrec

set_option maxRecDepth 100000 in
set_option maxHeartbeats 4000000 in
theorem readReplyN_any (l : List UInt8) (p : Option Addr) (cap : Nat) (w : World) (hp : Row w .u8 p (nums l)) :
    Calls Try.prog 56 #[.slice p l.length cap] w (RetRN w l) := by
  have hal : Below w.heap.size w (w.alloc zRep) := (Below.refl _ _).alloc (Nat.le_refl _) _
  have hcn := rnew_any (w.alloc zRep) l p cap (hp.below hal)
  have hz0 : (w.alloc zRep).heap.size = w.heap.size + 1 := by simp
  rw [hz0] at hcn
  by_cases hbig : 32768 < l.length
  · have HE := Lib.hid (show rdRepE l = 3 from if_pos hbig)
    have hlz : decide ((l.length : Int) > 32768) = true := by simp; omega
    have HB := Lib.hid hbig
    have HA := Lib.hid hal
    clear hcn hp hal hbig hz0
    unfold zRep at HA
    go_enter Try.func56, Try.ntmps56
    go_wp2_with fail
    refine bodyPost_ret (v := .tuple #[repV repZ none 0, .int .i64 3]) (by simp [results, Try.results56, go_sem]; rfl) rfl ⟨repZ, none, 0, by rw [HE.out]; rfl, fun x hx => absurd hx (by have := HB.out; omega), HA.out, fun b off h => by cases h⟩
  · have HE := Lib.hid (show rdRepE l = errX (readL replyC l) from if_neg hbig)
    have hlz : decide ((l.length : Int) > 32768) = false := by simp; omega
    have CN := Lib.hid hcn
    have HA := Lib.hid hal
    have HLN := Lib.hid (show l.length ≤ 100000 by omega)
    clear hp hal hbig hcn
    unfold zRep at HA CN hz0
    obtain ⟨n, hn⟩ : ∃ n, l.length = n := ⟨_, rfl⟩
    rw [hn] at hlz CN HLN ⊢
    have HLL := Lib.hid hn
    clear hn
    go_enter Try.func56, Try.ntmps56
    go_wp2_with fail
    refine CN.out.mono ?_
    rintro e w0 ⟨rfl, hr0, hb0⟩
    have HB0 := Lib.hid hb0
    have hg0 : w.heap.size + 1 < w0.heap.size := hr0.lt
    have C1 := Lib.hid (pcNumber_any w0 (w.heap.size + 1) (.ok l) hr0)
    clear hr0 hb0
    obtain ⟨V1, hV1⟩ : ∃ V, rdV numC 0 (.ok l) = V := ⟨_, rfl⟩
    obtain ⟨S1, hS1⟩ : ∃ S, rdR numC (.ok l) = S := ⟨_, rfl⟩
    rw [hV1, hS1] at C1
    have HV1 := Lib.hid (And.intro hV1 hS1)
    clear hV1 hS1
    go_wp2_with fail
    refine C1.out.mono ?_
    rintro e w1 ⟨rfl, hr1, hc1⟩
    have HC1 := Lib.hid hc1
    have C2 := Lib.hid (pcNumber_any w1 (w.heap.size + 1) S1 hr1)
    clear hr1 hc1
    obtain ⟨V2, hV2⟩ : ∃ V, rdV numC 0 S1 = V := ⟨_, rfl⟩
    obtain ⟨S2, hS2⟩ : ∃ S, rdR numC S1 = S := ⟨_, rfl⟩
    rw [hV2, hS2] at C2
    have HV2 := Lib.hid (And.intro hV2 hS2)
    clear hV2 hS2
    go_wp2_with fail
    refine C2.out.mono ?_
    rintro e w2 ⟨rfl, hr2, hc2⟩
    have HC2 := Lib.hid (HC1.out.trans hc2)
    have C3 := Lib.hid (pcNumber_any w2 (w.heap.size + 1) S2 hr2)
    clear hr2 hc2
    obtain ⟨V3, hV3⟩ : ∃ V, rdV numC 0 S2 = V := ⟨_, rfl⟩
    obtain ⟨S3, hS3⟩ : ∃ S, rdR numC S2 = S := ⟨_, rfl⟩
    rw [hV3, hS3] at C3
    have HV3 := Lib.hid (And.intro hV3 hS3)
    clear hV3 hS3
    go_wp2_with fail
    refine C3.out.mono ?_
    rintro e w3 ⟨rfl, hr3, hc3⟩
    have HC3 := Lib.hid (HC2.out.trans hc3)
    have C4 := Lib.hid (rtruth_any w3 (w.heap.size + 1) S3 hr3)
    clear hr3 hc3
    obtain ⟨V4, hV4⟩ : ∃ V, rdV truthC false S3 = V := ⟨_, rfl⟩
    obtain ⟨S4, hS4⟩ : ∃ S, rdR truthC S3 = S := ⟨_, rfl⟩
    rw [hV4, hS4] at C4
    have HV4 := Lib.hid (And.intro hV4 hS4)
    clear hV4 hS4
    go_wp2_with fail
    refine C4.out.mono ?_
    rintro e w4 ⟨rfl, hr4, hc4⟩
    have HC4 := Lib.hid (HC3.out.trans hc4)
    have C5 := Lib.hid (text_any w4 (w.heap.size + 1) S4 hr4)
    clear hr4 hc4
    obtain ⟨V5, hV5⟩ : ∃ V, rdV textC [] S4 = V := ⟨_, rfl⟩
    obtain ⟨S5, hS5⟩ : ∃ S, rdR textC S4 = S := ⟨_, rfl⟩
    rw [hV5, hS5] at C5
    have HV5 := Lib.hid (And.intro hV5 hS5)
    clear hV5 hS5
    go_wp2_with fail
    refine C5.out.mono ?_
    rintro e w5 ⟨rfl, hr5, hc5⟩
    have HC5 := Lib.hid (HC4.out.trans hc5)
    have C6 := Lib.hid (readItemsRec (g := 59) (lb := #[]) (fun _ _ => rfl) w5 (w.heap.size + 1) S5 hr5 (by
      have h1 := rest_num (.ok l)
      have h2 := rest_num S1
      have h3 := rest_num S2
      have h4 := rest_truth S3
      have h5 := rest_text S4
      rw [HV1.out.2] at h1
      rw [HV2.out.2] at h2
      rw [HV3.out.2] at h3
      rw [HV4.out.2] at h4
      rw [HV5.out.2] at h5
      have h0 : (restS (.ok l)).length = n := HLL.out
      have := HLN.out
      omega) (fun _ _ hr => recs_short hr) (fun w1 b _ hr _ => rrecord_any w1 _ (.ok b) hr))
    clear hr5 hc5
    obtain ⟨V6, hV6⟩ : ∃ V, rdV (Codec.list recC) [] S5 = V := ⟨_, rfl⟩
    obtain ⟨S6, hS6⟩ : ∃ S, rdR (Codec.list recC) S5 = S := ⟨_, rfl⟩
    unfold RetItRec at C6
    rw [hV6, hS6] at C6
    have HV6 := Lib.hid (And.intro hV6 hS6)
    clear hV6 hS6
    go_wp2_with fail
    refine C6.out.mono ?_
    rintro e w6 ⟨v6, ls, rfl, ho6, hr6, hc6, hls0, -⟩
    have hls : ∀ r, S6 = .ok r → ls = V6 := fun r hr => by have := hls0 r hr; rwa [List.map_id', List.map_id'] at this
    clear hls0
    have HC6 := Lib.hid (HC5.out.trans hc6)
    obtain ⟨q6, d6, rfl, -⟩ := ho6.row
    obtain ⟨k6, hk6⟩ : ∃ k, ls.length = k := ⟨_, rfl⟩
    rw [hk6] at ho6 ⊢
    have HK6 := Lib.hid hk6
    have HO6 := Lib.hid ho6
    have HLS := Lib.hid hls
    clear ho6 hls hk6
    have C7 := Lib.hid (text_any w6 (w.heap.size + 1) S6 hr6)
    clear hr6 hc6
    obtain ⟨V7, hV7⟩ : ∃ V, rdV textC [] S6 = V := ⟨_, rfl⟩
    obtain ⟨S7, hS7⟩ : ∃ S, rdR textC S6 = S := ⟨_, rfl⟩
    rw [hV7, hS7] at C7
    have HV7 := Lib.hid (And.intro hV7 hS7)
    clear hV7 hS7
    go_wp2_with fail
    refine C7.out.mono ?_
    rintro e w7 ⟨rfl, hr7, hc7⟩
    have HC7 := Lib.hid (HC6.out.trans hc7)
    have HO7 := Lib.hid (OwnR.chg HO6.out hc7 (by have := HC5.out.size; omega))
    have C8 := Lib.hid (rtruth_any w7 (w.heap.size + 1) S7 hr7)
    clear hr7 hc7
    obtain ⟨V8, hV8⟩ : ∃ V, rdV truthC false S7 = V := ⟨_, rfl⟩
    obtain ⟨S8, hS8⟩ : ∃ S, rdR truthC S7 = S := ⟨_, rfl⟩
    rw [hV8, hS8] at C8
    have HV8 := Lib.hid (And.intro hV8 hS8)
    clear hV8 hS8
    go_wp2_with fail
    refine C8.out.mono ?_
    rintro e w8 ⟨rfl, hr8, hc8⟩
    have HC8 := Lib.hid (HC7.out.trans hc8)
    have HO8 := Lib.hid (OwnR.chg HO7.out hc8 (by have := HC5.out.size; omega))
    have hbw : Below (w.heap.size + 1) (w.alloc zRep) w8 := by
      have h1 := HB0.out
      exact h1.trans (HC8.out.below (Nat.le_refl _) (by omega))
    have hb8 : Below w8.heap.size w8 (w8.alloc (.cells #[.int .i64 (V1 : Nat), .int .i64 (V2 : Nat), .int .i64 (V3 : Nat), .bool V4, .string (strB V5), .slice q6 k6 d6, .string (strB V7), .bool V8] 27)) := (Below.refl _ _).alloc (Nat.le_refl _) _
    have hblk := chg_block (c := #[.int .i64 0, .int .i64 0, .int .i64 0, .bool false, .string ⟨#[]⟩, .slice none 0 0, .string ⟨#[]⟩, .bool false]) (t := 27) (hbw.trans (hb8.mono (by have := HC8.out.size; omega)))
    have CE := Lib.hid (end_any _ (w.heap.size + 1) S8 (hr8.below hb8))
    obtain ⟨E, hE⟩ : ∃ E, endE S8 = E := ⟨_, rfl⟩
    rw [hE] at CE
    have HEE := Lib.hid hE
    have HBW := Lib.hid hbw
    clear hr8 hc8 hbw hb8 hE
    have hfz := frozen_at hblk
    have hc0 := cell_at hblk
    clear hblk
    go_wp2_with fail
    refine CE.out.mono ?_
    rintro e w9 ⟨rfl, rfl⟩
    have HBZ := Lib.hid (show Below w.heap.size w (w8.alloc (.cells #[.int .i64 (V1 : Nat), .int .i64 (V2 : Nat), .int .i64 (V3 : Nat), .bool V4, .string (strB V5), .slice q6 k6 d6, .string (strB V7), .bool V8] 27)) from (HA.out.trans (HBW.out.mono (by omega))).alloc (by have := HBW.out.size; unfold zRep at this; omega) _)
    have HS8 := Lib.hid (show rdR replyC (.ok l) = S8 by rw [reply_seq, HV1.out.2, HV2.out.2, HV3.out.2, HV4.out.2, HV5.out.2, HV6.out.2, HV7.out.2, HV8.out.2])
    have HER := Lib.hid (show rdRepE l = E by rw [HE.out, ← end_read, HS8.out]; exact HEE.out)
    have HX := Lib.hid (show ∀ x, readL replyC l = .ok x → (⟨V1, V2, V3, V4, V5, ls, V7, V8⟩ : RepL) = repT x from fun x hx => by
      obtain ⟨h1, h2⟩ := val_read replyC (0, 0, 0, false, [], [], [], false) x l hx
      obtain ⟨h3, r2, h4⟩ := reply_vals _ h1
      rw [HV1.out.2, HV2.out.2, HV3.out.2, HV4.out.2, HV5.out.2, HV6.out.2] at h4
      rw [h3, HV1.out.2, HV2.out.2, HV3.out.2, HV4.out.2, HV5.out.2, HV6.out.2, HV7.out.2, HV1.out.1, HV2.out.1, HV3.out.1, HV4.out.1, HV5.out.1, HV6.out.1, HV7.out.1, HV8.out.1] at h2
      rw [← h2, HLS.out r2 h4]; rfl)
    by_cases hE0 : E = 0
    · subst hE0
      go_wp2_with fail
      refine bodyPost_ret (v := .tuple #[.agg #[.int .i64 (V1 : Nat), .int .i64 (V2 : Nat), .int .i64 (V3 : Nat), .bool V4, .string (strB V5), .slice q6 k6 d6, .string (strB V7), .bool V8], .int .i64 0]) (by simp [results, Try.results56, go_sem, hc0]) rfl ⟨⟨V1, V2, V3, V4, V5, ls, V7, V8⟩, q6, d6, by rw [HER.out, ← HK6.out]; rfl, fun x _ hx => ⟨HX.out x hx, ?_⟩, ((((((((HBZ.out.setCell (p := ⟨w.heap.size, 0, none⟩) (Nat.le_refl _) _).setCell (p := ⟨w.heap.size, 1, none⟩) (Nat.le_refl _) _).setCell (p := ⟨w.heap.size, 2, none⟩) (Nat.le_refl _) _).setCell (p := ⟨w.heap.size, 3, none⟩) (Nat.le_refl _) _).setCell (p := ⟨w.heap.size, 4, none⟩) (Nat.le_refl _) _).setCell (p := ⟨w.heap.size, 5, none⟩) (Nat.le_refl _) _).setCell (p := ⟨w.heap.size, 6, none⟩) (Nat.le_refl _) _).setCell (p := ⟨w.heap.size, 7, none⟩) (Nat.le_refl _) _), ?_⟩
      · exact own_recs (recs_set (recs_set (recs_set (recs_set (recs_set (recs_set (recs_set (recs_set (HO8.out.alloc _) (show w.heap.size < w5.heap.size by have := HC5.out.size; omega)) (show w.heap.size < w5.heap.size by have := HC5.out.size; omega)) (show w.heap.size < w5.heap.size by have := HC5.out.size; omega)) (show w.heap.size < w5.heap.size by have := HC5.out.size; omega)) (show w.heap.size < w5.heap.size by have := HC5.out.size; omega)) (show w.heap.size < w5.heap.size by have := HC5.out.size; omega)) (show w.heap.size < w5.heap.size by have := HC5.out.size; omega)) (show w.heap.size < w5.heap.size by have := HC5.out.size; omega))
      · exact ownR_new (recs_set (recs_set (recs_set (recs_set (recs_set (recs_set (recs_set (recs_set (HO8.out.alloc _) (show w.heap.size < w5.heap.size by have := HC5.out.size; omega)) (show w.heap.size < w5.heap.size by have := HC5.out.size; omega)) (show w.heap.size < w5.heap.size by have := HC5.out.size; omega)) (show w.heap.size < w5.heap.size by have := HC5.out.size; omega)) (show w.heap.size < w5.heap.size by have := HC5.out.size; omega)) (show w.heap.size < w5.heap.size by have := HC5.out.size; omega)) (show w.heap.size < w5.heap.size by have := HC5.out.size; omega)) (show w.heap.size < w5.heap.size by have := HC5.out.size; omega)) (by have := HC5.out.size; omega)
    · have hez : ((E : Int) != 0) = true := by simp; omega
      go_wp2_with fail
      refine bodyPost_ret (v := .tuple #[.agg #[.int .i64 0, .int .i64 0, .int .i64 0, .bool false, .string ⟨#[]⟩, .slice none 0 0, .string ⟨#[]⟩, .bool false], .int .i64 E]) (by simp [results, Try.results56, go_sem, hc0]) rfl ⟨repZ, none, 0, by rw [HER.out]; rfl, (fun x _ hx => absurd (HER.out.symm.trans ((HE.out).trans (by rw [hx]; rfl))) hE0), ((((((((HBZ.out.setCell (p := ⟨w.heap.size, 0, none⟩) (Nat.le_refl _) _).setCell (p := ⟨w.heap.size, 1, none⟩) (Nat.le_refl _) _).setCell (p := ⟨w.heap.size, 2, none⟩) (Nat.le_refl _) _).setCell (p := ⟨w.heap.size, 3, none⟩) (Nat.le_refl _) _).setCell (p := ⟨w.heap.size, 4, none⟩) (Nat.le_refl _) _).setCell (p := ⟨w.heap.size, 5, none⟩) (Nat.le_refl _) _).setCell (p := ⟨w.heap.size, 6, none⟩) (Nat.le_refl _) _).setCell (p := ⟨w.heap.size, 7, none⟩) (Nat.le_refl _) _), fun b off h => by cases h⟩
theorem readReply_any (l : List UInt8) (p : Option Addr) (cap : Nat) (w : World) (hp : Row w .u8 p (nums l)) :
    Calls Try.prog 56 #[.slice p l.length cap] w (RetRR w l) := (readReplyN_any l p cap w hp).mono fun _ _ ⟨r, q, d, h1, h2, h3, _⟩ => ⟨r, q, d, h1, h2, h3⟩
end Go.Proofs.Ytfadpiipigkocaa
namespace Go.Proofs.Ytfadpiipigkocaa
open Go.RowKit

theorem layS_some {M : Nat} {st : Option (List UInt8)} {l b : List UInt8} (h : layS M st l = some b) : ∃ b0, st = some b0 ∧ b = b0 ++ l ∧ b.length ≤ M := by
  cases st with
  | none => cases h
  | some c =>
    by_cases hc : c.length + l.length ≤ M
    · rw [show layS M (some c) l = some (c ++ l) from if_pos hc] at h
      injection h with h
      subst h
      exact ⟨c, rfl, rfl, by rw [List.length_append]; exact hc⟩
    · rw [show layS M (some c) l = none from if_neg hc] at h
      cases h
theorem numS_some {M : Nat} {st : Option (List UInt8)} {x : Int} {b : List UInt8} (h : numS M st x = some b) : ∃ b0, st = some b0 ∧ (0 ≤ x ∧ x ≤ 268435455) ∧ b = b0 ++ numC.enc x.toNat ∧ b.length ≤ M := by
  unfold numS at h
  by_cases hx : 0 ≤ x ∧ x ≤ 268435455
  · rw [if_pos hx] at h
    obtain ⟨b0, h1, h2, h3⟩ := layS_some h
    exact ⟨b0, h1, hx, h2, h3⟩
  · rw [if_neg hx] at h; cases h
theorem textS_some {M : Nat} {st : Option (List UInt8)} {l b : List UInt8} (h : textS M st l = some b) : ∃ b0, st = some b0 ∧ textC.ok l ∧ b = b0 ++ textC.enc l ∧ b.length ≤ M := by
  obtain ⟨b1, h1, h2, h3⟩ := layS_some h
  obtain ⟨b0, h4, h5, h6, h7⟩ := numS_some h1
  refine ⟨b0, h4, (show l.length < 268435456 by omega), ?_, h3⟩
  rw [h2, h6, List.append_assoc]; rfl
theorem truthS_some {M : Nat} {st : Option (List UInt8)} {t : Bool} {b : List UInt8} (h : truthS M st t = some b) : ∃ b0, st = some b0 ∧ b = b0 ++ truthC.enc t ∧ b.length ≤ M := layS_some h
theorem textS_bd {M : Nat} {st : Option (List UInt8)} {l b : List UInt8} (h : textS M st l = some b) : b.length ≤ M := by
  obtain ⟨_, _, _, _, h4⟩ := textS_some h
  exact h4
theorem numS_bd {M : Nat} {st : Option (List UInt8)} {x : Int} {b : List UInt8} (h : numS M st x = some b) : b.length ≤ M := by
  obtain ⟨_, _, _, _, h4⟩ := numS_some h
  exact h4
theorem recsS_some : ∀ (ls : List RecL) {st : Option (List UInt8)} {b : List UInt8}, (∀ c, st = some c → c.length ≤ 32768) → recsS st ls = some b → ∃ b0, st = some b0 ∧ (∀ x ∈ ls, recC.ok x) ∧ b = b0 ++ encR recC ls ∧ b.length ≤ 32768
  | [], st, b, hst, h => ⟨b, h, (fun x hx => by cases hx), (List.append_nil b).symm, hst b h⟩
  | r :: ls, st, b, hst, h => by
    have h' : recsS (textS 32768 (textS 32768 st r.1) r.2) ls = some b := h
    obtain ⟨b1, h1, h2, h3, h4⟩ := recsS_some ls (fun c hc => textS_bd hc) h'
    obtain ⟨b2, h5, h6, h7, h8⟩ := textS_some h1
    obtain ⟨b3, h9, h10, h11, h12⟩ := textS_some h5
    refine ⟨b3, h9, ?_, ?_, h4⟩
    · intro x hx
      rcases List.mem_cons.1 hx with rfl | hx
      · exact ⟨h10, h6⟩
      · exact h2 x hx
    · rw [h3, h7, h11]
      show _ = b3 ++ ((textC.enc r.1 ++ textC.enc r.2) ++ encR recC ls)
      simp only [List.append_assoc]

def askU (a : AskL) : Nat × Nat × Nat × Nat × List UInt8 × List UInt8 × List UInt8 × List UInt8 := (a.d.toNat, a.c.toNat, a.s.toNat, a.m.toNat, a.t, a.v, a.f, a.u)
/-- an ask that was packed. -/
theorem ask_packed {a : AskL} {b : List UInt8} (h : askS a = some b) : askC.ok (askU a) ∧ b = askC.enc (askU a) ∧ b.length ≤ 32768 ∧ askT (askU a) = a := by
  obtain ⟨d, c, s, t, v, f, u, m⟩ := a
  have h' : textS 32768 (textS 32768 (textS 32768 (textS 32768 (numS 32768 (numS 32768 (numS 32768 (numS 32768 (some []) d) c) s) m) t) v) f) u = some b := h
  obtain ⟨b8, e8, o8, q8, l8⟩ := textS_some h'
  obtain ⟨b7, e7, o7, q7, -⟩ := textS_some e8
  obtain ⟨b6, e6, o6, q6, -⟩ := textS_some e7
  obtain ⟨b5, e5, o5, q5, -⟩ := textS_some e6
  obtain ⟨b4, e4, o4, q4, -⟩ := numS_some e5
  obtain ⟨b3, e3, o3, q3, -⟩ := numS_some e4
  obtain ⟨b2, e2, o2, q2, -⟩ := numS_some e3
  obtain ⟨b1, e1, o1, q1, -⟩ := numS_some e2
  injection e1 with e1
  subst e1
  refine ⟨⟨show _ < _ by show d.toNat < _; omega, show c.toNat < 268435456 by omega, show s.toNat < 268435456 by omega, show m.toNat < 268435456 by omega, o5, o6, o7, o8⟩, ?_, l8, ?_⟩
  · rw [q8, q7, q6, q5, q4, q3, q2, q1]
    show _ = numC.enc d.toNat ++ (numC.enc c.toNat ++ (numC.enc s.toNat ++ (numC.enc m.toNat ++ (textC.enc t ++ (textC.enc v ++ (textC.enc f ++ textC.enc u))))))
    simp only [List.append_assoc, List.nil_append]
  · show (⟨(d.toNat : Int), c.toNat, s.toNat, t, v, f, u, m.toNat⟩ : AskL) = _
    rw [Int.toNat_of_nonneg o1.1, Int.toNat_of_nonneg o2.1, Int.toNat_of_nonneg o3.1, Int.toNat_of_nonneg o4.1]

def repU (r : RepL) : Nat × Nat × Nat × Bool × List UInt8 × List (List UInt8 × List UInt8) × List UInt8 × Bool := (r.c.toNat, r.s.toNat, r.e.toNat, r.fd, r.v, r.ls, r.nx, r.mr)
/-- a reply that was packed. -/
theorem rep_packed {r : RepL} {b : List UInt8} (h : repS r = some b) : replyC.ok (repU r) ∧ b = replyC.enc (repU r) ∧ b.length ≤ 32768 ∧ repT (repU r) = r := by
  obtain ⟨c, s, e, fd, v, ls, nx, mr⟩ := r
  have h' : truthS 32768 (textS 32768 (recsS (numS 32768 (textS 32768 (truthS 32768 (numS 32768 (numS 32768 (numS 32768 (some []) c) s) e) fd) v) (ls.length : Int)) ls) nx) mr = some b := h
  obtain ⟨b8, e8, q8, l8⟩ := truthS_some h'
  obtain ⟨b7, e7, o7, q7, -⟩ := textS_some e8
  obtain ⟨b6, e6, o6, q6, -⟩ := recsS_some ls (fun c hc => numS_bd hc) e7
  obtain ⟨b5, e5, o5, q5, -⟩ := numS_some e6
  obtain ⟨b4, e4, o4, q4, -⟩ := textS_some e5
  obtain ⟨b3, e3, q3, -⟩ := truthS_some e4
  obtain ⟨b2, e2, o2, q2, -⟩ := numS_some e3
  obtain ⟨b1, e1, o1, q1, -⟩ := numS_some e2
  obtain ⟨b0, e0, o0, q0, -⟩ := numS_some e1
  injection e0 with e0
  subst e0
  refine ⟨⟨show c.toNat < 268435456 by omega, show s.toNat < 268435456 by omega, show e.toNat < 268435456 by omega, trivial, o4, ⟨show ls.length < 268435456 by omega, o6⟩, o7, trivial⟩, ?_, l8, ?_⟩
  · rw [q8, q7, q6, q5, q4, q3, q2, q1, q0]
    show _ = numC.enc c.toNat ++ (numC.enc s.toNat ++ (numC.enc e.toNat ++ (truthC.enc fd ++ (textC.enc v ++ ((numC.enc ls.length ++ encR recC ls) ++ (textC.enc nx ++ truthC.enc mr))))))
    rw [Int.toNat_natCast]
    simp only [List.append_assoc, List.nil_append]
  · show (⟨(c.toNat : Int), s.toNat, e.toNat, fd, v, ls, nx, mr⟩ : RepL) = _
    rw [Int.toNat_of_nonneg o0.1, Int.toNat_of_nonneg o1.1, Int.toNat_of_nonneg o2.1]

/-- what the cuts of packed bytes say. -/
theorem ask_cut {a : AskL} {b : List UInt8} (h : askS a = some b) (k : Nat) (hk : k < b.length) : rdAskE (b.take k) = 7 := by
  obtain ⟨h1, h2, h3, _⟩ := ask_packed h
  unfold rdAskE
  rw [if_neg (by rw [List.length_take]; omega), h2, read_cut askC _ h1 k (h2 ▸ hk)]; rfl
theorem ask_more {a : AskL} {b : List UInt8} (h : askS a = some b) (hl : b.length < 32768) : rdAskE (b ++ [0]) = 5 := by
  obtain ⟨h1, h2, h3, _⟩ := ask_packed h
  unfold rdAskE
  rw [if_neg (by rw [List.length_append, List.length_singleton]; omega), h2, read_more askC _ h1 0 []]; rfl
theorem rep_cut {r : RepL} {b : List UInt8} (h : repS r = some b) (k : Nat) (hk : k < b.length) : rdRepE (b.take k) = 7 := by
  obtain ⟨h1, h2, h3, _⟩ := rep_packed h
  unfold rdRepE
  rw [if_neg (by rw [List.length_take]; omega), h2, read_cut replyC _ h1 k (h2 ▸ hk)]; rfl
theorem rep_more {r : RepL} {b : List UInt8} (h : repS r = some b) (hl : b.length < 32768) : rdRepE (b ++ [0]) = 5 := by
  obtain ⟨h1, h2, h3, _⟩ := rep_packed h
  unfold rdRepE
  rw [if_neg (by rw [List.length_append, List.length_singleton]; omega), h2, read_more replyC _ h1 0 []]; rfl
/-- bytes alike are of asks alike. -/
theorem ask_inj {a a' : AskL} {b b' : List UInt8} (h : askS a = some b) (h' : askS a' = some b') : b = b' ↔ a = a' := by
  obtain ⟨h1, h2, _, h4⟩ := ask_packed h
  obtain ⟨k1, k2, _, k4⟩ := ask_packed h'
  constructor
  · intro e
    have := askC.inj h1 k1 (by rw [← h2, ← k2, e])
    rw [← h4, ← k4, this]
  · intro e
    rw [h2, k2, e]
theorem rep_inj {r r' : RepL} {b b' : List UInt8} (h : repS r = some b) (h' : repS r' = some b') : b = b' ↔ r = r' := by
  obtain ⟨h1, h2, _, h4⟩ := rep_packed h
  obtain ⟨k1, k2, _, k4⟩ := rep_packed h'
  constructor
  · intro e
    have := replyC.inj h1 k1 (by rw [← h2, ← k2, e])
    rw [← h4, ← k4, this]
  · intro e
    rw [h2, k2, e]
theorem askZ_packed : askS askZ = some (List.replicate 32 0) := by decide +kernel
theorem askZ_read : rdAskE (List.replicate 32 0) = 0 ∧ readL askC (List.replicate 32 0) = .ok (askU askZ) := by
  obtain ⟨h1, h2, h3, h4⟩ := ask_packed askZ_packed
  have h5 : readL askC (List.replicate 32 0) = .ok (askU askZ) := by rw [h2]; exact read_enc askC _ h1
  refine ⟨?_, h5⟩
  unfold rdAskE
  rw [if_neg (by decide), h5]; rfl
end Go.Proofs.Ytfadpiipigkocaa
namespace Go.Proofs.Ytfadpiipigkocaa
open Go.RowKit Go.ChangeShapes Go.WideShapes Go.Gz Go.Deep

theorem own : ownKnob Try.prog.godebug = none := by kernel_rfl
theorem laidOut : laidOutB Try.prog = true := by kernel_rfl
theorem laid_none (P : Program) (w : World) : laidMet P [] w := ⟨[], rfl, List.nodup_nil, fun b off h => by cases h⟩
theorem nat_u16 {n : Int} (h : (Lit.int .u16 n).wf = true) : ∃ k : Nat, k < 65536 ∧ n = k := by
  obtain ⟨h1, h2⟩ := wf_u16_of h
  exact ⟨n.toNat, by omega, by omega⟩

theorem one_text {H : Type} {enc : TypeId × Value → H} {P : Program} {W : World} {t : TypeId} {fuel : Nat} {v : Value} {x : DataW H × List MemPlace} (ht : P.underlying t = some .string) (h : DataW.trod enc P W 0 (fun _ => true) true fuel t [v] = some x) : ∃ s : List UInt8, v = .string (strB s) ∧ s.length ≤ 9223372036854775807 := by
  have : ∃ s : ByteArray, v = .string s ∧ s.size ≤ 9223372036854775807 := by
    cases fuel with
    | zero => simp [DataW.trod] at h
    | succ n =>
      unfold DataW.trod at h
      rw [ht] at h
      split at h <;> simp_all
      unfold maxLen at h
      exact h.1
  obtain ⟨s, rfl, hs⟩ := this
  refine ⟨s.data.toList, by rw [strB_of], ?_⟩
  rw [← strB_size, strB_of]; exact hs
theorem one_int {H : Type} {enc : TypeId × Value → H} {P : Program} {W : World} {t : TypeId} {k : IntKind} {fuel : Nat} {v : Value} {x : DataW H × List MemPlace} (ht : P.underlying t = some (.int k)) (h : DataW.trod enc P W 0 (fun _ => true) true fuel t [v] = some x) : ∃ n : Int, v = .int k n := by
  cases fuel with
  | zero => simp [DataW.trod] at h
  | succ n =>
    unfold DataW.trod at h
    rw [ht] at h
    split at h <;> simp_all
theorem one_bool {H : Type} {enc : TypeId × Value → H} {P : Program} {W : World} {t : TypeId} {fuel : Nat} {v : Value} {x : DataW H × List MemPlace} (ht : P.underlying t = some .bool) (h : DataW.trod enc P W 0 (fun _ => true) true fuel t [v] = some x) : ∃ b : Bool, v = .bool b := by
  cases fuel with
  | zero => simp [DataW.trod] at h
  | succ n =>
    unfold DataW.trod at h
    rw [ht] at h
    split at h <;> simp_all

set_option maxRecDepth 100000 in
theorem rec_of {H : Type} {enc : TypeId × Value → H} {W : World} {fuel : Nat} {cs : List Value} {x : DataW H × List MemPlace} (h : DataW.trod enc Try.prog W 0 (fun _ => true) true fuel 47 cs = some x) :
    ∃ s : RecL, cs = [.string (strB s.1), .string (strB s.2)] := by
  obtain ⟨ys, n, _, _, hlen, hyl, hf⟩ := DataW.trod_struct Try.underlying47 h
  have hC : Try.prog.cellsOf 47 = 2 := by kernel_rfl
  rw [hC] at hlen
  have c1 : Try.prog.cellsOf 9 = 1 := by kernel_rfl
  match cs, hlen with
  | [v0, v1], _ =>
    match ys, hyl with
    | [y0, y1], _ =>
      have h0 : DataW.trod enc Try.prog W 0 (fun _ => true) true n 9 [v0] = some y0 := by simpa [c1] using hf 0 _ rfl
      have h1 : DataW.trod enc Try.prog W 0 (fun _ => true) true n 9 [v1] = some y1 := by simpa [c1] using hf 1 _ rfl
      obtain ⟨a, rfl, _⟩ := one_text Try.underlying9 h0
      obtain ⟨b, rfl, _⟩ := one_text Try.underlying9 h1
      exact ⟨(a, b), rfl⟩

set_option maxRecDepth 100000 in
/-- a row of records as it is read. -/
theorem recs_of {H : Type} {enc : TypeId × Value → H} {W : World} {fuel : Nat} {cs : List Value} {x : DataW H × List MemPlace} (hf : DataW.trod enc Try.prog W 0 (fun _ => true) true fuel 25 cs = some x) :
    ∃ p ls c, cs = [.slice p ls.length c] ∧ Recs W p ls ∧ ls.length ≤ 9223372036854775807 := by
  rcases open_slice Try.underlying25 hf with ⟨h, _⟩ | ⟨a, len, cap, m, n, D, Pl, h, _, hl, hm, hmm, _, hi⟩
  · exact ⟨none, [], 0, h, Or.inl rfl, by simp⟩
  · simp only [if_true] at hmm
    subst hmm
    unfold maxLen at hm
    have hC : Try.prog.cellsOf 47 = 2 := by kernel_rfl
    have each : ∀ i, i < len → ∃ r : RecL, ∀ z, z < 2 → W.cell? ((a.add (i * 2)).add z) = [Value.string (strB r.1), .string (strB r.2)][z]? := fun i hin => by
      obtain ⟨cs', hcs, ht⟩ := hi i (by omega)
      rw [hC] at hcs
      obtain ⟨r, rfl⟩ := rec_of ht
      obtain ⟨_, _, hat⟩ := World.cells?_some hcs
      exact ⟨r, hat⟩
    have pick : ∃ f : Nat → RecL, ∀ i, i < len → ∀ z, z < 2 → W.cell? ((a.add (i * 2)).add z) = [Value.string (strB (f i).1), .string (strB (f i).2)][z]? :=
      ⟨fun i => if h : i < len then Classical.choose (each i h) else ([], []), fun i h => by simp only [dif_pos h]; exact Classical.choose_spec (each i h)⟩
    obtain ⟨f, hf2⟩ := pick
    have hget : ∀ j, j < len → ((List.range len).map f).getD j ([], []) = f j := fun j hj => by simp [List.getD, hj]
    refine ⟨some a, (List.range len).map f, m, by simp [h], ?_, by simp; omega⟩
    by_cases h0 : len = 0
    · exact Or.inl (by subst h0; rfl)
    · have hc0 := hf2 0 (by omega) 0 (by omega)
      obtain ⟨b, off, spot⟩ := a
      have hc0' : W.cell? ⟨b, off + 0 * 2 + 0, spot⟩ = some (.string (strB (f 0).1)) := by
        have e : ((⟨b, off, spot⟩ : Addr).add (0 * 2)).add 0 = ⟨b, off, spot⟩ := by simp [Addr.add]
        rw [e] at hc0
        simpa using hc0
      have hsp : spot = none := Go.Proofs.cell_spot hc0'
      subst hsp
      refine Or.inr ⟨b, off, rfl, World.block_lt_of_cell? W _ hc0', fun j hj => ?_⟩
      have hj' : j < len := by simpa using hj
      rw [hget j hj']
      have hz := hf2 j hj'
      have z0 := hz 0 (by omega)
      have z1 := hz 1 (by omega)
      simp only [Addr.add_lit] at z0 z1
      exact ⟨z0, z1⟩

set_option maxRecDepth 100000 in
/-- an argument that is an ask. -/
theorem arg_ask {H : Type} {enc : TypeId × Value → H} {W : World} {b0 : Nat} {v : Value} {d : DataW H} {ps : List MemPlace} (hval : Value.okWide Try.prog W .any b0 23 v) (hd : DataW.Trod enc Try.prog W 0 (fun _ => true) true 23 v d ps) :
    ∃ a : AskL, v = askV a := by
  obtain ⟨cs, rfl, hsz⟩ := okWide_struct Try.underlying23 hval
  obtain ⟨fuel, hf0⟩ := hd
  obtain ⟨ys, n, _, _, hlen, hyl, hf⟩ := DataW.trod_struct Try.underlying23 hf0
  have hC : Try.prog.cellsOf 23 = 8 := by kernel_rfl
  rw [hC] at hlen hsz
  have c1 : Try.prog.cellsOf 9 = 1 := by kernel_rfl
  have c3 : Try.prog.cellsOf 3 = 1 := by kernel_rfl
  obtain ⟨cl⟩ := cs
  have hcl : (Value.agg ⟨cl⟩).cells.toList = cl := rfl
  rw [hcl] at hf
  match cl, hsz with
  | [v0, v1, v2, v3, v4, v5, v6, v7], _ =>
    match ys, hyl with
    | [y0, y1, y2, y3, y4, y5, y6, y7], _ =>
      have h0 : DataW.trod enc Try.prog W 0 (fun _ => true) true n 3 [v0] = some y0 := by simpa [c1, c3] using hf 0 _ rfl
      have h1 : DataW.trod enc Try.prog W 0 (fun _ => true) true n 3 [v1] = some y1 := by simpa [c1, c3] using hf 1 _ rfl
      have h2 : DataW.trod enc Try.prog W 0 (fun _ => true) true n 3 [v2] = some y2 := by simpa [c1, c3] using hf 2 _ rfl
      have h3 : DataW.trod enc Try.prog W 0 (fun _ => true) true n 9 [v3] = some y3 := by simpa [c1, c3] using hf 3 _ rfl
      have h4 : DataW.trod enc Try.prog W 0 (fun _ => true) true n 9 [v4] = some y4 := by simpa [c1, c3] using hf 4 _ rfl
      have h5 : DataW.trod enc Try.prog W 0 (fun _ => true) true n 9 [v5] = some y5 := by simpa [c1, c3] using hf 5 _ rfl
      have h6 : DataW.trod enc Try.prog W 0 (fun _ => true) true n 9 [v6] = some y6 := by simpa [c1, c3] using hf 6 _ rfl
      have h7 : DataW.trod enc Try.prog W 0 (fun _ => true) true n 3 [v7] = some y7 := by simpa [c1, c3] using hf 7 _ rfl
      obtain ⟨d, rfl⟩ := one_int Try.underlying3 h0
      obtain ⟨c, rfl⟩ := one_int Try.underlying3 h1
      obtain ⟨s, rfl⟩ := one_int Try.underlying3 h2
      obtain ⟨t, rfl, _⟩ := one_text Try.underlying9 h3
      obtain ⟨v, rfl, _⟩ := one_text Try.underlying9 h4
      obtain ⟨f, rfl, _⟩ := one_text Try.underlying9 h5
      obtain ⟨u, rfl, _⟩ := one_text Try.underlying9 h6
      obtain ⟨m, rfl⟩ := one_int Try.underlying3 h7
      exact ⟨⟨d, c, s, t, v, f, u, m⟩, rfl⟩

set_option maxRecDepth 100000 in
theorem rep_of {H : Type} {enc : TypeId × Value → H} {W : World} {fuel : Nat} {cs : List Value} {x : DataW H × List MemPlace} (h : DataW.trod enc Try.prog W 0 (fun _ => true) true fuel 27 cs = some x) :
    ∃ (r : RepL) (p : Option Addr) (k : Nat), cs = [.int .i64 r.c, .int .i64 r.s, .int .i64 r.e, .bool r.fd, .string (strB r.v), .slice p r.ls.length k, .string (strB r.nx), .bool r.mr] ∧ Recs W p r.ls ∧ r.ls.length ≤ 9223372036854775807 := by
  obtain ⟨ys, n, _, _, hlen, hyl, hf⟩ := DataW.trod_struct Try.underlying27 h
  have hC : Try.prog.cellsOf 27 = 8 := by kernel_rfl
  rw [hC] at hlen
  have c1 : Try.prog.cellsOf 9 = 1 := by kernel_rfl
  have c3 : Try.prog.cellsOf 3 = 1 := by kernel_rfl
  have c4 : Try.prog.cellsOf 4 = 1 := by kernel_rfl
  have c5 : Try.prog.cellsOf 24 = 1 := by kernel_rfl
  have c6 : Try.prog.cellsOf 25 = 1 := by kernel_rfl
  match cs, hlen with
  | [v0, v1, v2, v3, v4, v5, v6, v7], _ =>
    match ys, hyl with
    | [y0, y1, y2, y3, y4, y5, y6, y7], _ =>
      have h0 : DataW.trod enc Try.prog W 0 (fun _ => true) true n 3 [v0] = some y0 := by simpa [c1, c3, c4, c5, c6] using hf 0 _ rfl
      have h1 : DataW.trod enc Try.prog W 0 (fun _ => true) true n 3 [v1] = some y1 := by simpa [c1, c3, c4, c5, c6] using hf 1 _ rfl
      have h2 : DataW.trod enc Try.prog W 0 (fun _ => true) true n 24 [v2] = some y2 := by simpa [c1, c3, c4, c5, c6] using hf 2 _ rfl
      have h3 : DataW.trod enc Try.prog W 0 (fun _ => true) true n 4 [v3] = some y3 := by simpa [c1, c3, c4, c5, c6] using hf 3 _ rfl
      have h4 : DataW.trod enc Try.prog W 0 (fun _ => true) true n 9 [v4] = some y4 := by simpa [c1, c3, c4, c5, c6] using hf 4 _ rfl
      have h5 : DataW.trod enc Try.prog W 0 (fun _ => true) true n 25 [v5] = some y5 := by simpa [c1, c3, c4, c5, c6] using hf 5 _ rfl
      have h6 : DataW.trod enc Try.prog W 0 (fun _ => true) true n 9 [v6] = some y6 := by simpa [c1, c3, c4, c5, c6] using hf 6 _ rfl
      have h7 : DataW.trod enc Try.prog W 0 (fun _ => true) true n 4 [v7] = some y7 := by simpa [c1, c3, c4, c5, c6] using hf 7 _ rfl
      obtain ⟨c, rfl⟩ := one_int Try.underlying3 h0
      obtain ⟨s, rfl⟩ := one_int Try.underlying3 h1
      obtain ⟨e, rfl⟩ := one_int Try.underlying24 h2
      obtain ⟨fd, rfl⟩ := one_bool Try.underlying4 h3
      obtain ⟨v, rfl, _⟩ := one_text Try.underlying9 h4
      obtain ⟨p, ls, k, e5, h9, h10⟩ := recs_of h5
      obtain ⟨nx, rfl, _⟩ := one_text Try.underlying9 h6
      obtain ⟨mr, rfl⟩ := one_bool Try.underlying4 h7
      injection e5 with e5 _
      subst e5
      exact ⟨⟨c, s, e, fd, v, ls, nx, mr⟩, p, k, rfl, h9, h10⟩

set_option maxRecDepth 100000 in
/-- an argument that is a reply. -/
theorem arg_reply {H : Type} {enc : TypeId × Value → H} {W : World} {b0 : Nat} {v : Value} {d : DataW H} {ps : List MemPlace} (hval : Value.okWide Try.prog W .any b0 27 v) (hd : DataW.Trod enc Try.prog W 0 (fun _ => true) true 27 v d ps) :
    ∃ (r : RepL) (p : Option Addr) (k : Nat), v = repV r p k ∧ Recs W p r.ls ∧ r.ls.length ≤ 9223372036854775807 := by
  obtain ⟨cs, rfl, hsz⟩ := okWide_struct Try.underlying27 hval
  obtain ⟨fuel, hf0⟩ := hd
  obtain ⟨r, p, k, h1, h2, h3⟩ := rep_of hf0
  obtain ⟨cl⟩ := cs
  have hcl : (Value.agg ⟨cl⟩).cells.toList = cl := rfl
  rw [hcl] at h1
  subst h1
  exact ⟨r, p, k, rfl, h2, h3⟩

/-- two replies side by side. -/
def repCs (r : RepL) (p : Option Addr) (k : Nat) : List Value := [.int .i64 r.c, .int .i64 r.s, .int .i64 r.e, .bool r.fd, .string (strB r.v), .slice p r.ls.length k, .string (strB r.nx), .bool r.mr]
end Go.Proofs.Ytfadpiipigkocaa
namespace Go.Proofs.Ytfadpiipigkocaa
open Go.RowKit Go.Maps

section
variable {α : Type} {key : α → Int} {x : α} {L : List α}
def putK (key : α → Int) (x : α) : List α → List α
  | [] => [x]
  | y :: t => if key y < key x then y :: putK key x t else if key y = key x then x :: t else x :: y :: t
def findK (key : α → Int) (c : Int) (L : List α) : Option α := L.find? (fun y => decide (key y = c))
def OrdK (key : α → Int) (L : List α) : Prop := L.Pairwise (fun a b => key a < key b)

theorem mem_putK {e : α} : ∀ {L : List α}, e ∈ putK key x L → e = x ∨ e ∈ L
  | [], h => by simpa [putK] using h
  | y :: t, h => by
    unfold putK at h
    split at h
    · rcases List.mem_cons.1 h with h | h
      · exact Or.inr (by simp [h])
      · rcases mem_putK h with h | h
        · exact Or.inl h
        · exact Or.inr (by simp [h])
    · split at h
      · rcases List.mem_cons.1 h with h | h
        · exact Or.inl h
        · exact Or.inr (by simp [h])
      · rcases List.mem_cons.1 h with h | h
        · exact Or.inl h
        · exact Or.inr h
theorem self_putK : ∀ {L : List α}, x ∈ putK key x L
  | [] => by simp [putK]
  | y :: t => by
    unfold putK
    split
    · exact List.mem_cons_of_mem _ self_putK
    · split <;> simp
theorem ord_putK : ∀ {L : List α}, OrdK key L → OrdK key (putK key x L)
  | [], _ => by simp [putK, OrdK]
  | y :: t, h => by
    obtain ⟨h1, h2⟩ := List.pairwise_cons.1 h
    unfold putK
    split
    · rename_i hlt
      refine List.pairwise_cons.2 ⟨fun e he => ?_, ord_putK h2⟩
      rcases mem_putK he with rfl | he
      · exact hlt
      · exact h1 e he
    · split
      · rename_i heq
        exact List.pairwise_cons.2 ⟨fun e he => by rw [← heq]; exact h1 e he, h2⟩
      · rename_i hn he
        refine List.pairwise_cons.2 ⟨fun e hm => ?_, h⟩
        rcases List.mem_cons.1 hm with rfl | hm
        · omega
        · have := h1 e hm; omega
theorem length_putK : ∀ {L : List α}, (putK key x L).length ≤ L.length + 1
  | [] => by simp [putK]
  | y :: t => by
    unfold putK
    split
    · simpa using length_putK (L := t)
    · split <;> simp
theorem findK_none {c : Int} (h : ∀ e ∈ L, key e ≠ c) : findK key c L = none := List.find?_eq_none.2 fun e he => by simpa using h e he
theorem findK_cons (c : Int) (y : α) (t : List α) : findK key c (y :: t) = if key y = c then some y else findK key c t := by
  unfold findK
  rw [List.find?_cons]
  by_cases h : key y = c <;> simp [h]
theorem findK_putK {c : Int} : ∀ {L : List α}, OrdK key L → findK key c (putK key x L) = if key x = c then some x else findK key c L
  | [], _ => by rw [putK, findK_cons]
  | y :: t, h => by
    obtain ⟨h1, h2⟩ := List.pairwise_cons.1 h
    unfold putK
    split
    · rw [findK_cons, findK_putK h2, findK_cons]
      by_cases ha : key y = c
      · rw [if_pos ha, if_neg (by omega), if_pos ha]
      · rw [if_neg ha, if_neg ha]
    · split
      · rw [findK_cons, findK_cons]
        by_cases ha : key x = c
        · rw [if_pos ha, if_pos ha]
        · rw [if_neg ha, if_neg ha, if_neg (by omega)]
      · rw [findK_cons]
theorem findK_mem {c : Int} {e : α} (h : findK key c L = some e) : e ∈ L ∧ key e = c :=
  ⟨List.mem_of_find?_eq_some h, by have := List.find?_some h; simpa using this⟩
theorem findK_of_mem {e : α} : ∀ {L : List α}, OrdK key L → e ∈ L → findK key (key e) L = some e
  | y :: t, h, hm => by
    obtain ⟨h1, h2⟩ := List.pairwise_cons.1 h
    rw [findK_cons]
    rcases List.mem_cons.1 hm with rfl | hm
    · rw [if_pos rfl]
    · rw [if_neg (by have := h1 e hm; omega)]
      exact findK_of_mem h2 hm
/-- sorted lists that find the same are the same. -/
theorem ordK_ext : ∀ {L L' : List α}, OrdK key L → OrdK key L' → (∀ c, findK key c L = findK key c L') → L = L'
  | [], [], _, _, _ => rfl
  | [], y :: t, _, _, h => by have := h (key y); rw [findK_cons, if_pos rfl] at this; cases this
  | y :: t, [], _, _, h => by have := h (key y); rw [findK_cons, if_pos rfl] at this; cases this
  | y :: t, z :: u, ha, hb, h => by
    obtain ⟨a1, a2⟩ := List.pairwise_cons.1 ha
    obtain ⟨b1, b2⟩ := List.pairwise_cons.1 hb
    have hyz : y = z := by
      have h1 := h (key y)
      rw [findK_cons, if_pos rfl, findK_cons] at h1
      split at h1
      · exact Option.some.inj h1
      · have hm := (findK_mem h1.symm).1
        have h2 := h (key z)
        rw [findK_cons, findK_cons, if_pos rfl] at h2
        split at h2
        · exact Option.some.inj h2
        · have hm2 := (findK_mem h2).1
          have := a1 z hm2
          have := b1 y hm
          omega
    subst hyz
    congr 1
    refine ordK_ext a2 b2 fun c => ?_
    have hc := h c
    rw [findK_cons, findK_cons] at hc
    by_cases he : key y = c
    · rw [findK_none fun e hm => by have := a1 e hm; omega, findK_none fun e hm => by have := b1 e hm; omega]
    · rwa [if_neg he, if_neg he] at hc
theorem map_putK {β : Type} {key' : β → Int} (f : α → β) (hf : ∀ a, key' (f a) = key a) : ∀ {L : List α}, (putK key x L).map f = putK key' (f x) (L.map f)
  | [] => rfl
  | y :: t => by
    simp only [List.map_cons]
    unfold putK
    rw [hf, hf]
    split
    · rw [List.map_cons, map_putK f hf]
    · split <;> simp
theorem map_findK {β : Type} {key' : β → Int} (f : α → β) (hf : ∀ a, key' (f a) = key a) (c : Int) : ∀ {L : List α}, findK key' c (L.map f) = (findK key c L).map f
  | [] => rfl
  | y :: t => by
    rw [List.map_cons, findK_cons, findK_cons, hf]
    split
    · rfl
    · exact map_findK f hf c
theorem ordK_map {β : Type} {key' : β → Int} (f : α → β) (hf : ∀ a, key' (f a) = key a) : OrdK key' (L.map f) ↔ OrdK key L := by
  unfold OrdK
  rw [List.pairwise_map]
  simp only [hf]

/-- the map's datum of a sorted list. -/
def mapOf (key : α → Int) (val : α → Value) (L : List α) : DataW Value := .map (L.map fun e => (Lit.int .i64 (key e), .held (val e)))
def heldR : Value → Option (DataW Value × List MemPlace) := fun v => some (.held v, [])
variable {val : α → Value}

theorem sameKey_int (a b : Int) : (Lit.int .i64 a).sameKey (Lit.int .i64 b) = decide (a = b) := by simp [Lit.sameKey]
theorem has_mapOf (c : Int) : has (mapOf key val L) (.int .i64 c) = (findK key c L).isSome := by
  unfold mapOf
  rw [has_eq, List.any_map]
  induction L with
  | nil => rfl
  | cons y t ih =>
    rw [List.any_cons, ih, findK_cons]
    simp only [Function.comp, sameKey_int]
    by_cases h : key y = c <;> simp [h]
theorem atKey_mapOf (c : Int) (z : Value) : (mapOf key val L).atKey (.int .i64 c) (.held z) = .held (((findK key c L).map val).getD z) := by
  unfold mapOf DataW.atKey
  simp only
  induction L with
  | nil => rfl
  | cons y t ih =>
    rw [List.map_cons, List.find?_cons, findK_cons]
    simp only [sameKey_int]
    by_cases h : key y = c
    · simp [h]
    · simp only [h, decide_false, if_false]
      exact ih
theorem size_mapOf : size (mapOf key val L) = L.length := by simp [mapOf, size]
theorem intKeys_mapOf : intKeys (mapOf key val L) = L.map key := by
  show (L.map fun e => (Lit.int .i64 (key e), DataW.held (val e))).map (fun p => intOf p.1) = _
  rw [List.map_map]
  rfl
theorem sort_keys {ss : List Int} (h : ss.Perm (L.map key)) (ho : OrdK key L) : ss.mergeSort (fun x y => decide (x ≤ y)) = L.map key := by
  have h1 := mergeSort_of_perm_i h
  rw [show ss.mergeSort (fun x y => decide (x ≤ y)) = ss.mergeSort leI from rfl, h1]
  exact List.mergeSort_of_pairwise ((List.pairwise_map.2 (List.Pairwise.imp (fun {a b} hab => by simp only [leI, decide_eq_true_eq]; omega) ho)))
theorem filter_above : ∀ {L : List α}, (∀ e ∈ L, key x < key e) → (L.map fun e => (Lit.int .i64 (key e), DataW.held (val e))).filter (fun p => !p.1.sameKey (.int .i64 (key x))) = L.map fun e => (Lit.int .i64 (key e), DataW.held (val e)) := by
  intro L h
  refine List.filter_eq_self.2 fun p hp => ?_
  obtain ⟨e, he, rfl⟩ := List.mem_map.1 hp
  have := h e he
  simp only [sameKey_int, Bool.not_eq_true', decide_eq_false_iff_not]
  omega
theorem insert_above : ∀ {L : List α}, (∀ e ∈ L, key x < key e) → DataW.insert (Lit.int .i64 (key x), DataW.held (val x)) (L.map fun e => (Lit.int .i64 (key e), DataW.held (val e))) = (x :: L).map fun e => (Lit.int .i64 (key e), DataW.held (val e))
  | [], _ => rfl
  | y :: t, h => by
    have := h y (by simp)
    simp only [List.map_cons]
    unfold DataW.insert
    rw [if_pos (by simp only [Lit.before, decide_eq_true_eq]; exact this)]
theorem put_mapOf (ho : OrdK key L) : (mapOf key val L).put (.int .i64 (key x)) (.held (val x)) = mapOf key val (putK key x L) := by
  unfold mapOf DataW.put
  simp only
  congr 1
  induction L with
  | nil => rfl
  | cons y t ih =>
    obtain ⟨h1, h2⟩ := List.pairwise_cons.1 ho
    rw [List.map_cons, List.filter_cons]
    simp only [sameKey_int]
    unfold putK
    by_cases hlt : key y < key x
    · rw [if_pos (by simp; omega), if_pos hlt]
      unfold DataW.insert
      rw [if_neg (by simp only [Lit.before, decide_eq_true_eq]; omega), List.map_cons]
      congr 1
      exact ih h2
    · rw [if_neg hlt]
      by_cases heq : key y = key x
      · rw [if_neg (by simp [heq]), if_pos heq, filter_above fun e he => by rw [← heq]; exact h1 e he]
        exact insert_above fun e he => by rw [← heq]; exact h1 e he
      · rw [if_pos (by simp [heq]), if_neg heq, filter_above fun e he => by have := h1 e he; omega]
        exact insert_above (L := y :: t) fun e he => by
          rcases List.mem_cons.1 he with rfl | he
          · omega
          · have := h1 e he; omega

/-- block b of w is a map that holds the list. -/
structure IMap (P : Program) (k : TypeId) (key : α → Int) (val : α → Value) (w : World) (b : Nat) (L : List α) : Prop where
  own : w.ownsMap P k heldR b L.length (mapOf key val L)
  ord : OrdK key L
variable {P : Program} {k : TypeId} {w w' : World} {b : Nat}
theorem IMap.lt (h : IMap P k key val w b L) : b < w.heap.size := h.own.lt
theorem IMap.made (w : World) : IMap P k key val (w.alloc (.map #[] 0)) w.heap.size [] := ⟨World.ownsMap_made w P k heldR, List.Pairwise.nil⟩
theorem IMap.block (h : IMap P k key val w b L) (hb : w'.heap[b]? = w.heap[b]?) : IMap P k key val w' b L := by
  obtain ⟨⟨es, clock, hh, r⟩, ho⟩ := h
  exact ⟨⟨es, clock, hb.trans hh, r⟩, ho⟩
theorem IMap.obj (h : IMap P k key val w b L) : ∃ es clock, w.heap[b]? = some (.map es clock) := by
  obtain ⟨⟨es, clock, hh, r⟩, ho⟩ := h
  exact ⟨es, clock, hh⟩
/-- a store. -/
theorem IMap.store {t e : TypeId} (h : IMap P k key val w b L) (hk : P.underlying k = some (.int .i64)) (ht : P.underlying t = some (.map k e)) (hn : L.length < maxLen) (x : α) (hx : (Lit.int .i64 (key x)).wf = true) :
    ∃ w', (Instr.mapUpdate t (.map (some b)) (.int .i64 (key x)) (val x)).run P w = .ok () w' ∧ IMap P k key val w' b (putK key x L) ∧ w.grownBy w' (some b) := by
  obtain ⟨w', hrun, hown, hg⟩ := h.own.update (int_keyed hk) ht hn (keyOf_int_mk hk hx) (R := heldR) (val := val x) (d := .held (val x)) (ps := []) rfl
  refine ⟨w', hrun, ⟨?_, ord_putK h.ord⟩, hg⟩
  rw [put_mapOf h.ord] at hown
  obtain ⟨es, clock, hb, F, _, hD⟩ := hown
  refine ⟨es, clock, hb, F, ?_, hD⟩
  have e1 := congrArg size hD
  rw [size_mapOf] at e1
  rw [e1]
  simp [size, length_sorted]
/-- a look. -/
theorem IMap.look_ok {t e : TypeId} (h : IMap P k key val w b L) (hk : P.underlying k = some (.int .i64)) (ht : P.underlying t = some (.map k e)) {z : Value} (hz : (zeroValue e).run P w = .ok z w) (c : Int) (hc : (Lit.int .i64 c).wf = true) :
    (Instr.lookup t (.map (some b)) (.int .i64 c) true).run P w = .ok (.tuple #[((findK key c L).map val).getD z, .bool (findK key c L).isSome]) w := by
  obtain ⟨v, ps, hrun, hv⟩ := h.own.look_ok (int_keyed hk) ht hz (zd := .held z) (zp := []) rfl (keyOf_int_mk hk hc)
  rw [has_mapOf] at hrun
  rw [atKey_mapOf] at hv
  simp only [heldR, Option.some.injEq, Prod.mk.injEq, DataW.held.injEq] at hv
  rw [hrun, hv.1]
theorem IMap.look {t e : TypeId} (h : IMap P k key val w b L) (hk : P.underlying k = some (.int .i64)) (ht : P.underlying t = some (.map k e)) {z : Value} (hz : (zeroValue e).run P w = .ok z w) (c : Int) (hc : (Lit.int .i64 c).wf = true) :
    (Instr.lookup t (.map (some b)) (.int .i64 c) false).run P w = .ok (((findK key c L).map val).getD z) w := by
  obtain ⟨v, ps, hrun, hv⟩ := h.own.lookup (int_keyed hk) ht hz (zd := .held z) (zp := []) rfl (keyOf_int_mk hk hc)
  rw [atKey_mapOf] at hv
  simp only [heldR, Option.some.injEq, Prod.mk.injEq, DataW.held.injEq] at hv
  rw [hrun, hv.1]
end
end Go.Proofs.Ytfadpiipigkocaa
