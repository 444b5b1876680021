/-
  Layer parcel: a reply is read.
-/
import Derived.Test.YtkidahlhnhglfaaPcRiRec
namespace Go.Proofs.Ytkidahlhnhglfaa
open Go.RowKit

/-- a reply as it is read. -/
def repT (a : Nat × Nat × Nat × Bool × List UInt8 × List (List UInt8 × List UInt8) × List UInt8 × Bool) : RepL := ⟨a.1, a.2.1, a.2.2.1, a.2.2.2.1, a.2.2.2.2.1, a.2.2.2.2.2.1, a.2.2.2.2.2.2.1, a.2.2.2.2.2.2.2⟩
theorem reply_seq (st : St) : rdR replyC st = (rdR truthC (rdR textC (rdR (Codec.list recC) (rdR textC (rdR truthC (rdR numC (rdR numC (rdR numC st)))))))) := by
  unfold replyC
  simp only [rdR_pair]
  rfl
theorem reply_vals (st : St) {r : List UInt8} (h : rdR replyC st = .ok r) : rdV replyC (0, 0, 0, false, [], [], [], false) st =
    (rdV numC 0 st, rdV numC 0 (rdR numC st), rdV numC 0 (rdR numC (rdR numC st)), rdV truthC false (rdR numC (rdR numC (rdR numC st))), rdV textC [] (rdR truthC (rdR numC (rdR numC (rdR numC st)))), rdV (Codec.list recC) [] (rdR textC (rdR truthC (rdR numC (rdR numC (rdR numC st))))), rdV textC [] (rdR (Codec.list recC) (rdR textC (rdR truthC (rdR numC (rdR numC (rdR numC st)))))), rdV truthC false (rdR textC (rdR (Codec.list recC) (rdR textC (rdR truthC (rdR numC (rdR numC (rdR numC st)))))))) ∧ (∃ r2, rdR (Codec.list recC) (rdR textC (rdR truthC (rdR numC (rdR numC (rdR numC st))))) = .ok r2) := by
  unfold replyC at h ⊢
  rw [rdV_pair _ _ _ _ h]
  rw [rdR_pair] at h
  rw [rdV_pair _ _ _ _ h]
  rw [rdR_pair] at h
  rw [rdV_pair _ _ _ _ h]
  rw [rdR_pair] at h
  rw [rdV_pair _ _ _ _ h]
  rw [rdR_pair] at h
  rw [rdV_pair _ _ _ _ h]
  rw [rdR_pair] at h
  rw [rdV_pair _ _ _ _ h]
  rw [rdR_pair] at h
  rw [rdV_pair _ _ _ _ h]
  rw [rdR_pair] at h
  refine ⟨rfl, ?_⟩
  cases hx : rdR (Codec.list recC) (rdR textC (rdR truthC (rdR numC (rdR numC (rdR numC st))))) with
  | ok r2 => exact ⟨r2, rfl⟩
  | error e =>
    have h2 : rdR truthC (rdR textC (rdR (Codec.list recC) (rdR textC (rdR truthC (rdR numC (rdR numC (rdR numC st))))))) = .ok r := h
    rw [hx] at h2
    cases h2

def repZ : RepL := ⟨0, 0, 0, false, [], [], [], false⟩
/-- what ReadReply says of the bytes. -/
def rdRepE (l : List UInt8) : Nat := if 32768 < l.length then 3 else errX (readL replyC l)
def RetRR (w : World) (l : List UInt8) (e : Ending) (w' : World) : Prop :=
  ∃ (r : RepL) (q : Option Addr) (d : Nat), e = .returned (.tuple #[repV r q d, .int .i64 (rdRepE l)]) ∧ (∀ x, l.length ≤ 32768 → readL replyC l = .ok x → r = repT x ∧ Recs w' q r.ls) ∧ Below w.heap.size w w'
/-- the records lie in a new block, of records. -/
def RecN (B : Nat) (w' : World) (q : Option Addr) : Prop := ∀ b off, q = some ⟨b, off, none⟩ → B ≤ b ∧ ∃ cs fz, w'.heap[b]? = some (.cells cs 57 fz)
theorem ownR_new {w : World} {B k d : Nat} {q : Option Addr} {ls : List RecL} (h : OwnR w B (.slice q k d) ls) {B' : Nat} (hB : B' ≤ B) : RecN B' w q := by
  intro b off hp
  obtain ⟨_, ⟨h1, _⟩ | ⟨g, cap, cur, h1, hg, hh, _⟩⟩ := h
  · injection h1 with h1; rw [h1] at hp; cases hp
  · injection h1 with h1
    rw [h1] at hp
    injection hp with hp
    injection hp with hp
    subst hp
    exact ⟨by omega, cur, _, hh⟩
def RetRN (w : World) (l : List UInt8) (e : Ending) (w' : World) : Prop :=
  ∃ (r : RepL) (q : Option Addr) (d : Nat), e = .returned (.tuple #[repV r q d, .int .i64 (rdRepE l)]) ∧ (∀ x, l.length ≤ 32768 → readL replyC l = .ok x → r = repT x ∧ Recs w' q r.ls) ∧ Below w.heap.size w w' ∧ RecN w.heap.size w' q
def zRep : Obj := .cells #[.int .i64 0, .int .i64 0, .int .i64 0, .bool false, .string ⟨#[]⟩, .slice none 0 0, .string ⟨#[]⟩, .bool false] 37

theorem recs_set {w : World} {B g o : Nat} {u : Value} {v : Value} {ls : List RecL} (h : OwnR w B v ls) (hg : g < B) : OwnR (w.setCell ⟨g, o, none⟩ u) B v ls := by
  obtain ⟨h1, h2⟩ := h
  refine ⟨h1, ?_⟩
  rcases h2 with h2 | ⟨b, cap, cur, rfl, hb, hh, r⟩
  · exact Or.inl h2
  · exact Or.inr ⟨b, cap, cur, rfl, hb, by rw [Below.heap_setCell _ _ _ _ (by show b ≠ g; omega)]; exact hh, r⟩
theorem own_recs {w : World} {B k d : Nat} {q : Option Addr} {ls : List RecL} (h : OwnR w B (.slice q k d) ls) : Recs w q ls := by
  obtain ⟨q', d', he, -, -, hrec⟩ := h.row
  injection he with he _ _
  rw [he]; exact hrec

set_option maxHeartbeats 4000000 in
theorem readReplyN_any (l : List UInt8) (p : Option Addr) (cap : Nat) (w : World) (hp : Row w .u8 p (nums l)) :
    Calls Try.prog 17 #[.slice p l.length cap] w (RetRN w l) := by
  have hal : Below w.heap.size w (w.alloc zRep) := (Below.refl _ _).alloc (Nat.le_refl _) _
  have hcn := rnew_any (w.alloc zRep) l p cap (hp.below hal)
  have hz0 : (w.alloc zRep).heap.size = w.heap.size + 1 := by simp
  rw [hz0] at hcn
  by_cases hbig : 32768 < l.length
  · have HE := Lib.hid (show rdRepE l = 3 from if_pos hbig)
    have hlz : decide ((l.length : Int) > 32768) = true := by simp; omega
    have HB := Lib.hid hbig
    have HA := Lib.hid hal
    clear hcn hp hal hbig hz0
    unfold zRep at HA
    go_enter Try.func17, Try.ntmps17
    go_wp2_with fail
    refine bodyPost_ret (v := .tuple #[repV repZ none 0, .int .i64 3]) (by simp [results, Try.results17, go_sem]; rfl) rfl ⟨repZ, none, 0, by rw [HE.out]; rfl, fun x hx => absurd hx (by have := HB.out; omega), HA.out, fun b off h => by cases h⟩
  · have HE := Lib.hid (show rdRepE l = errX (readL replyC l) from if_neg hbig)
    have hlz : decide ((l.length : Int) > 32768) = false := by simp; omega
    have CN := Lib.hid hcn
    have HA := Lib.hid hal
    have HLN := Lib.hid (show l.length ≤ 100000 by omega)
    clear hp hal hbig hcn
    unfold zRep at HA CN hz0
    obtain ⟨n, hn⟩ : ∃ n, l.length = n := ⟨_, rfl⟩
    rw [hn] at hlz CN HLN ⊢
    have HLL := Lib.hid hn
    clear hn
    go_enter Try.func17, Try.ntmps17
    go_wp2_with fail
    refine CN.out.mono ?_
    rintro e w0 ⟨rfl, hr0, hb0⟩
    have HB0 := Lib.hid hb0
    have hg0 : w.heap.size + 1 < w0.heap.size := hr0.lt
    have C1 := Lib.hid (pcNumber_any w0 (w.heap.size + 1) (.ok l) hr0)
    clear hr0 hb0
    obtain ⟨V1, hV1⟩ : ∃ V, rdV numC 0 (.ok l) = V := ⟨_, rfl⟩
    obtain ⟨S1, hS1⟩ : ∃ S, rdR numC (.ok l) = S := ⟨_, rfl⟩
    rw [hV1, hS1] at C1
    have HV1 := Lib.hid (And.intro hV1 hS1)
    clear hV1 hS1
    go_wp2_with fail
    refine C1.out.mono ?_
    rintro e w1 ⟨rfl, hr1, hc1⟩
    have HC1 := Lib.hid hc1
    have C2 := Lib.hid (pcNumber_any w1 (w.heap.size + 1) S1 hr1)
    clear hr1 hc1
    obtain ⟨V2, hV2⟩ : ∃ V, rdV numC 0 S1 = V := ⟨_, rfl⟩
    obtain ⟨S2, hS2⟩ : ∃ S, rdR numC S1 = S := ⟨_, rfl⟩
    rw [hV2, hS2] at C2
    have HV2 := Lib.hid (And.intro hV2 hS2)
    clear hV2 hS2
    go_wp2_with fail
    refine C2.out.mono ?_
    rintro e w2 ⟨rfl, hr2, hc2⟩
    have HC2 := Lib.hid (HC1.out.trans hc2)
    have C3 := Lib.hid (pcNumber_any w2 (w.heap.size + 1) S2 hr2)
    clear hr2 hc2
    obtain ⟨V3, hV3⟩ : ∃ V, rdV numC 0 S2 = V := ⟨_, rfl⟩
    obtain ⟨S3, hS3⟩ : ∃ S, rdR numC S2 = S := ⟨_, rfl⟩
    rw [hV3, hS3] at C3
    have HV3 := Lib.hid (And.intro hV3 hS3)
    clear hV3 hS3
    go_wp2_with fail
    refine C3.out.mono ?_
    rintro e w3 ⟨rfl, hr3, hc3⟩
    have HC3 := Lib.hid (HC2.out.trans hc3)
    have C4 := Lib.hid (rtruth_any w3 (w.heap.size + 1) S3 hr3)
    clear hr3 hc3
    obtain ⟨V4, hV4⟩ : ∃ V, rdV truthC false S3 = V := ⟨_, rfl⟩
    obtain ⟨S4, hS4⟩ : ∃ S, rdR truthC S3 = S := ⟨_, rfl⟩
    rw [hV4, hS4] at C4
    have HV4 := Lib.hid (And.intro hV4 hS4)
    clear hV4 hS4
    go_wp2_with fail
    refine C4.out.mono ?_
    rintro e w4 ⟨rfl, hr4, hc4⟩
    have HC4 := Lib.hid (HC3.out.trans hc4)
    have C5 := Lib.hid (text_any w4 (w.heap.size + 1) S4 hr4)
    clear hr4 hc4
    obtain ⟨V5, hV5⟩ : ∃ V, rdV textC [] S4 = V := ⟨_, rfl⟩
    obtain ⟨S5, hS5⟩ : ∃ S, rdR textC S4 = S := ⟨_, rfl⟩
    rw [hV5, hS5] at C5
    have HV5 := Lib.hid (And.intro hV5 hS5)
    clear hV5 hS5
    go_wp2_with fail
    refine C5.out.mono ?_
    rintro e w5 ⟨rfl, hr5, hc5⟩
    have HC5 := Lib.hid (HC4.out.trans hc5)
    have C6 := Lib.hid (readItemsRec (g := 48) (lb := #[]) (fun _ _ => rfl) w5 (w.heap.size + 1) S5 hr5 (by
      have h1 := rest_num (.ok l)
      have h2 := rest_num S1
      have h3 := rest_num S2
      have h4 := rest_truth S3
      have h5 := rest_text S4
      rw [HV1.out.2] at h1
      rw [HV2.out.2] at h2
      rw [HV3.out.2] at h3
      rw [HV4.out.2] at h4
      rw [HV5.out.2] at h5
      have h0 : (restS (.ok l)).length = n := HLL.out
      have := HLN.out
      omega) (fun _ _ hr => recs_short hr) (fun w1 b _ hr _ => rrecord_any w1 _ (.ok b) hr))
    clear hr5 hc5
    obtain ⟨V6, hV6⟩ : ∃ V, rdV (Codec.list recC) [] S5 = V := ⟨_, rfl⟩
    obtain ⟨S6, hS6⟩ : ∃ S, rdR (Codec.list recC) S5 = S := ⟨_, rfl⟩
    unfold RetItRec at C6
    rw [hV6, hS6] at C6
    have HV6 := Lib.hid (And.intro hV6 hS6)
    clear hV6 hS6
    go_wp2_with fail
    refine C6.out.mono ?_
    rintro e w6 ⟨v6, ls, rfl, ho6, hr6, hc6, hls0, -⟩
    have hls : ∀ r, S6 = .ok r → ls = V6 := fun r hr => by have := hls0 r hr; rwa [List.map_id', List.map_id'] at this
    clear hls0
    have HC6 := Lib.hid (HC5.out.trans hc6)
    obtain ⟨q6, d6, rfl, -⟩ := ho6.row
    obtain ⟨k6, hk6⟩ : ∃ k, ls.length = k := ⟨_, rfl⟩
    rw [hk6] at ho6 ⊢
    have HK6 := Lib.hid hk6
    have HO6 := Lib.hid ho6
    have HLS := Lib.hid hls
    clear ho6 hls hk6
    have C7 := Lib.hid (text_any w6 (w.heap.size + 1) S6 hr6)
    clear hr6 hc6
    obtain ⟨V7, hV7⟩ : ∃ V, rdV textC [] S6 = V := ⟨_, rfl⟩
    obtain ⟨S7, hS7⟩ : ∃ S, rdR textC S6 = S := ⟨_, rfl⟩
    rw [hV7, hS7] at C7
    have HV7 := Lib.hid (And.intro hV7 hS7)
    clear hV7 hS7
    go_wp2_with fail
    refine C7.out.mono ?_
    rintro e w7 ⟨rfl, hr7, hc7⟩
    have HC7 := Lib.hid (HC6.out.trans hc7)
    have HO7 := Lib.hid (OwnR.chg HO6.out hc7 (by have := HC5.out.size; omega))
    have C8 := Lib.hid (rtruth_any w7 (w.heap.size + 1) S7 hr7)
    clear hr7 hc7
    obtain ⟨V8, hV8⟩ : ∃ V, rdV truthC false S7 = V := ⟨_, rfl⟩
    obtain ⟨S8, hS8⟩ : ∃ S, rdR truthC S7 = S := ⟨_, rfl⟩
    rw [hV8, hS8] at C8
    have HV8 := Lib.hid (And.intro hV8 hS8)
    clear hV8 hS8
    go_wp2_with fail
    refine C8.out.mono ?_
    rintro e w8 ⟨rfl, hr8, hc8⟩
    have HC8 := Lib.hid (HC7.out.trans hc8)
    have HO8 := Lib.hid (OwnR.chg HO7.out hc8 (by have := HC5.out.size; omega))
    have hbw : Below (w.heap.size + 1) (w.alloc zRep) w8 := by
      have h1 := HB0.out
      exact h1.trans (HC8.out.below (Nat.le_refl _) (by omega))
    have hb8 : Below w8.heap.size w8 (w8.alloc (.cells #[.int .i64 (V1 : Nat), .int .i64 (V2 : Nat), .int .i64 (V3 : Nat), .bool V4, .string (strB V5), .slice q6 k6 d6, .string (strB V7), .bool V8] 37)) := (Below.refl _ _).alloc (Nat.le_refl _) _
    have hblk := chg_block (c := #[.int .i64 0, .int .i64 0, .int .i64 0, .bool false, .string ⟨#[]⟩, .slice none 0 0, .string ⟨#[]⟩, .bool false]) (t := 37) (hbw.trans (hb8.mono (by have := HC8.out.size; omega)))
    have CE := Lib.hid (end_any _ (w.heap.size + 1) S8 (hr8.below hb8))
    obtain ⟨E, hE⟩ : ∃ E, endE S8 = E := ⟨_, rfl⟩
    rw [hE] at CE
    have HEE := Lib.hid hE
    have HBW := Lib.hid hbw
    clear hr8 hc8 hbw hb8 hE
    have hfz := frozen_at hblk
    have hc0 := cell_at hblk
    clear hblk
    go_wp2_with fail
    refine CE.out.mono ?_
    rintro e w9 ⟨rfl, rfl⟩
    have HBZ := Lib.hid (show Below w.heap.size w (w8.alloc (.cells #[.int .i64 (V1 : Nat), .int .i64 (V2 : Nat), .int .i64 (V3 : Nat), .bool V4, .string (strB V5), .slice q6 k6 d6, .string (strB V7), .bool V8] 37)) from (HA.out.trans (HBW.out.mono (by omega))).alloc (by have := HBW.out.size; unfold zRep at this; omega) _)
    have HS8 := Lib.hid (show rdR replyC (.ok l) = S8 by rw [reply_seq, HV1.out.2, HV2.out.2, HV3.out.2, HV4.out.2, HV5.out.2, HV6.out.2, HV7.out.2, HV8.out.2])
    have HER := Lib.hid (show rdRepE l = E by rw [HE.out, ← end_read, HS8.out]; exact HEE.out)
    have HX := Lib.hid (show ∀ x, readL replyC l = .ok x → (⟨V1, V2, V3, V4, V5, ls, V7, V8⟩ : RepL) = repT x from fun x hx => by
      obtain ⟨h1, h2⟩ := val_read replyC (0, 0, 0, false, [], [], [], false) x l hx
      obtain ⟨h3, r2, h4⟩ := reply_vals _ h1
      rw [HV1.out.2, HV2.out.2, HV3.out.2, HV4.out.2, HV5.out.2, HV6.out.2] at h4
      rw [h3, HV1.out.2, HV2.out.2, HV3.out.2, HV4.out.2, HV5.out.2, HV6.out.2, HV7.out.2, HV1.out.1, HV2.out.1, HV3.out.1, HV4.out.1, HV5.out.1, HV6.out.1, HV7.out.1, HV8.out.1] at h2
      rw [← h2, HLS.out r2 h4]; rfl)
    by_cases hE0 : E = 0
    · subst hE0
      go_wp2_with fail
      refine bodyPost_ret (v := .tuple #[.agg #[.int .i64 (V1 : Nat), .int .i64 (V2 : Nat), .int .i64 (V3 : Nat), .bool V4, .string (strB V5), .slice q6 k6 d6, .string (strB V7), .bool V8], .int .i64 0]) (by simp [results, Try.results17, go_sem, hc0]) rfl ⟨⟨V1, V2, V3, V4, V5, ls, V7, V8⟩, q6, d6, by rw [HER.out, ← HK6.out]; rfl, fun x _ hx => ⟨HX.out x hx, ?_⟩, ((((((((HBZ.out.setCell (p := ⟨w.heap.size, 0, none⟩) (Nat.le_refl _) _).setCell (p := ⟨w.heap.size, 1, none⟩) (Nat.le_refl _) _).setCell (p := ⟨w.heap.size, 2, none⟩) (Nat.le_refl _) _).setCell (p := ⟨w.heap.size, 3, none⟩) (Nat.le_refl _) _).setCell (p := ⟨w.heap.size, 4, none⟩) (Nat.le_refl _) _).setCell (p := ⟨w.heap.size, 5, none⟩) (Nat.le_refl _) _).setCell (p := ⟨w.heap.size, 6, none⟩) (Nat.le_refl _) _).setCell (p := ⟨w.heap.size, 7, none⟩) (Nat.le_refl _) _), ?_⟩
      · exact own_recs (recs_set (recs_set (recs_set (recs_set (recs_set (recs_set (recs_set (recs_set (HO8.out.alloc _) (show w.heap.size < w5.heap.size by have := HC5.out.size; omega)) (show w.heap.size < w5.heap.size by have := HC5.out.size; omega)) (show w.heap.size < w5.heap.size by have := HC5.out.size; omega)) (show w.heap.size < w5.heap.size by have := HC5.out.size; omega)) (show w.heap.size < w5.heap.size by have := HC5.out.size; omega)) (show w.heap.size < w5.heap.size by have := HC5.out.size; omega)) (show w.heap.size < w5.heap.size by have := HC5.out.size; omega)) (show w.heap.size < w5.heap.size by have := HC5.out.size; omega))
      · exact ownR_new (recs_set (recs_set (recs_set (recs_set (recs_set (recs_set (recs_set (recs_set (HO8.out.alloc _) (show w.heap.size < w5.heap.size by have := HC5.out.size; omega)) (show w.heap.size < w5.heap.size by have := HC5.out.size; omega)) (show w.heap.size < w5.heap.size by have := HC5.out.size; omega)) (show w.heap.size < w5.heap.size by have := HC5.out.size; omega)) (show w.heap.size < w5.heap.size by have := HC5.out.size; omega)) (show w.heap.size < w5.heap.size by have := HC5.out.size; omega)) (show w.heap.size < w5.heap.size by have := HC5.out.size; omega)) (show w.heap.size < w5.heap.size by have := HC5.out.size; omega)) (by have := HC5.out.size; omega)
    · have hez : ((E : Int) != 0) = true := by simp; omega
      go_wp2_with fail
      refine bodyPost_ret (v := .tuple #[.agg #[.int .i64 0, .int .i64 0, .int .i64 0, .bool false, .string ⟨#[]⟩, .slice none 0 0, .string ⟨#[]⟩, .bool false], .int .i64 E]) (by simp [results, Try.results17, go_sem, hc0]) rfl ⟨repZ, none, 0, by rw [HER.out]; rfl, (fun x _ hx => absurd (HER.out.symm.trans ((HE.out).trans (by rw [hx]; rfl))) hE0), ((((((((HBZ.out.setCell (p := ⟨w.heap.size, 0, none⟩) (Nat.le_refl _) _).setCell (p := ⟨w.heap.size, 1, none⟩) (Nat.le_refl _) _).setCell (p := ⟨w.heap.size, 2, none⟩) (Nat.le_refl _) _).setCell (p := ⟨w.heap.size, 3, none⟩) (Nat.le_refl _) _).setCell (p := ⟨w.heap.size, 4, none⟩) (Nat.le_refl _) _).setCell (p := ⟨w.heap.size, 5, none⟩) (Nat.le_refl _) _).setCell (p := ⟨w.heap.size, 6, none⟩) (Nat.le_refl _) _).setCell (p := ⟨w.heap.size, 7, none⟩) (Nat.le_refl _) _), fun b off h => by cases h⟩
theorem readReply_any (l : List UInt8) (p : Option Addr) (cap : Nat) (w : World) (hp : Row w .u8 p (nums l)) :
    Calls Try.prog 17 #[.slice p l.length cap] w (RetRR w l) := (readReplyN_any l p cap w hp).mono fun _ _ ⟨r, q, d, h1, h2, h3, _⟩ => ⟨r, q, d, h1, h2, h3⟩
end Go.Proofs.Ytkidahlhnhglfaa
