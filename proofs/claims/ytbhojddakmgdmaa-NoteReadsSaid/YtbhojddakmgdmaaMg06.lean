/-
  Several texts in one: PcRd, PcSeq, PcRdAsk.
-/
import Derived.Test.YtbhojddakmgdmaaMg05
namespace Go.Proofs.Ytbhojddakmgdmaa
open Go.RowKit

theorem decN_lt {b r : List UInt8} {n : Nat} (h : decN b = .ok (n, r)) : n ≤ 268435455 := by
  unfold decN at h
  by_cases h1 : b.length < 4
  · rw [if_pos h1] at h; cases h
  · rw [if_neg h1] at h
    by_cases h2 : 268435456 ≤ numL (b.take 4)
    · rw [if_pos h2] at h; cases h
    · rw [if_neg h2] at h
      injection h with h
      injection h with h _
      omega
theorem rdV_num_le (st : St) : rdV numC 0 st ≤ 268435455 := by
  cases st with
  | error e => exact Nat.zero_le _
  | ok b =>
    cases hd : numC.dec b with
    | error e => rw [rdV_no hd]; exact Nat.zero_le _
    | ok x => rw [rdV_ok (x := x.1) (r := x.2) hd]; exact decN_lt (b := b) (r := x.2) hd
theorem rd_text (st : St) : takeV (rdR numC st) (rdV numC 0 st) = rdV textC [] st ∧ takeR (rdR numC st) (rdV numC 0 st) = rdR textC st := by
  cases st with
  | error e => exact ⟨rfl, rfl⟩
  | ok b =>
    cases hd : decN b with
    | error e =>
      have ht : textC.dec b = .error e := by
        show decT b = _
        unfold decT; rw [hd]
      rw [rdV_no (C := textC) ht, rdR_no (C := textC) ht, rdR_no (C := numC) hd]
      exact ⟨rfl, rfl⟩
    | ok x =>
      obtain ⟨n, r⟩ := x
      rw [rdV_ok (C := numC) hd, rdR_ok (C := numC) hd]
      by_cases hn : n ≤ r.length
      · have ht : textC.dec b = .ok (r.take n, r.drop n) := by
          show decT b = _
          unfold decT; rw [hd]
          exact if_neg (by omega)
        rw [rdV_ok ht, rdR_ok ht]
        exact ⟨if_pos hn, if_pos hn⟩
      · have ht : textC.dec b = .error 7 := by
          show decT b = _
          unfold decT; rw [hd]
          exact if_pos (by omega)
        rw [rdV_no ht, rdR_no ht]
        exact ⟨if_neg hn, if_neg hn⟩

set_option maxHeartbeats 400000 in
theorem text_any (w : World) (g : Nat) (st : St) (h : RdAt w g st) :
    Calls Try.prog 70 #[.pointer (some ⟨g, 0, none⟩)] w fun e w' => e = .returned (.string (strB (rdV textC [] st))) ∧ RdAt w' g (rdR textC st) ∧ Chg g w w' := by
  have CN := Lib.hid (pcNumber_any w g st h)
  have CT := Lib.hid (fun w1 h1 => take_any w1 g (rdR numC st) (rdV numC 0 st) (Nat.le_trans (rdV_num_le st) (by omega)) h1)
  have HQ := Lib.hid (rd_text st)
  obtain ⟨V, hV⟩ : ∃ V, rdV numC 0 st = V := ⟨_, rfl⟩
  rw [hV] at CN CT HQ
  rw [HQ.out.1, HQ.out.2] at CT
  clear h hV
  go_enter Try.func70, Try.ntmps70
  go_wp2_with fail
  refine CN.out.mono ?_
  rintro e w1 ⟨rfl, hr1, hc1⟩
  have HC1 := Lib.hid hc1
  have C2 := Lib.hid (CT.out w1 hr1)
  clear hr1 hc1
  go_wp2_with fail
  refine C2.out.mono ?_
  rintro e w2 ⟨rfl, hr2, hc2⟩
  have H2 := Lib.hid (And.intro hr2 (HC1.out.trans hc2))
  clear hr2 hc2
  go_wp2_with fail
  go_ret
  exact ⟨rfl, H2.out⟩

theorem strB_toList (l : List UInt8) : (strB l).toList = l := by rw [ByteArray.toList_eq]; rfl
theorem less_one {x : UInt8} (h0 : x ≠ 0) : Op.bytesLess [x] [1] = false := by
  have h1 : ¬ x < 1 := fun h => h0 (by
    have h2 : x.toNat < 1 := h
    exact UInt8.toNat_inj.1 (by show x.toNat = 0; omega))
  simp [Op.bytesLess, h1]
/-- a byte read as a truth. -/
theorem rd_truth (st : St) : (takeV st 1 = [] ∧ rdV truthC false st = false ∧ rdR truthC st = takeR st 1) ∨ (takeV st 1 = [0] ∧ rdV truthC false st = false ∧ rdR truthC st = takeR st 1) ∨ (takeV st 1 = [1] ∧ rdV truthC false st = true ∧ rdR truthC st = takeR st 1) ∨
    (∃ x : UInt8, x ≠ 0 ∧ x ≠ 1 ∧ takeV st 1 = [x] ∧ rdV truthC false st = false ∧ rdR truthC st = .error 5) := by
  cases st with
  | error e => exact Or.inl ⟨rfl, rfl, rfl⟩
  | ok b =>
    cases b with
    | nil => exact Or.inl ⟨rfl, rfl, rfl⟩
    | cons x r =>
      by_cases h0 : x = 0
      · subst h0; exact Or.inr (Or.inl ⟨rfl, rfl, rfl⟩)
      · by_cases h1 : x = 1
        · subst h1; exact Or.inr (Or.inr (Or.inl ⟨rfl, rfl, rfl⟩))
        · have hd : truthC.dec (x :: r) = .error 5 := by
            show decB (x :: r) = _
            unfold decB
            simp [h0, h1]
          exact Or.inr (Or.inr (Or.inr ⟨x, h0, h1, rfl, rdV_no hd, rdR_no hd⟩))

set_option maxHeartbeats 1000000 in
theorem rtruth_any (w : World) (g : Nat) (st : St) (h : RdAt w g st) :
    Calls Try.prog 71 #[.pointer (some ⟨g, 0, none⟩)] w fun e w' => e = .returned (.bool (rdV truthC false st)) ∧ RdAt w' g (rdR truthC st) ∧ Chg g w w' := by
  have CT := Lib.hid (show Calls Try.prog 68 #[.pointer (some ⟨g, 0, none⟩), .int .i64 1] w _ from take_any w g st 1 (by omega) h)
  have CF := Lib.hid (show ∀ w1 s, RdAt w1 g s → Calls Try.prog 69 #[.pointer (some ⟨g, 0, none⟩), .int .i64 5] w1 _ from fun w1 s h1 => fail_any w1 g s 5 (by omega) h1)
  have HQ := rd_truth st
  clear h
  rcases HQ with ⟨h1, h2, h3⟩ | ⟨h1, h2, h3⟩ | ⟨h1, h2, h3⟩ | ⟨x, hx0, hx1, h1, h2, h3⟩
  · rw [h2, h3]
    rw [h1] at CT
    have hl : Op.bytesLess (strB []).toList [1] = true := by rw [strB_toList]; rfl
    have he : ((strB []).toList == [1]) = false := by rw [strB_toList]; rfl
    generalize strB [] = V at CT hl he
    clear h1 h2 h3
    go_enter Try.func71, Try.ntmps71
    go_wp2_with fail
    refine CT.out.mono ?_
    rintro e w1 ⟨rfl, hr1, hc1⟩
    have H1 := Lib.hid (And.intro hr1 hc1)
    clear hr1 hc1
    go_wp2_with fail
    go_ret
    exact ⟨rfl, H1.out⟩
  · rw [h2, h3]
    rw [h1] at CT
    have hl : Op.bytesLess (strB [0]).toList [1] = true := by rw [strB_toList]; rfl
    have he : ((strB [0]).toList == [1]) = false := by rw [strB_toList]; rfl
    generalize strB [0] = V at CT hl he
    clear h1 h2 h3
    go_enter Try.func71, Try.ntmps71
    go_wp2_with fail
    refine CT.out.mono ?_
    rintro e w1 ⟨rfl, hr1, hc1⟩
    have H1 := Lib.hid (And.intro hr1 hc1)
    clear hr1 hc1
    go_wp2_with fail
    go_ret
    exact ⟨rfl, H1.out⟩
  · rw [h2, h3]
    rw [h1] at CT
    have hl : Op.bytesLess (strB [1]).toList [1] = false := by rw [strB_toList]; rfl
    have he : ((strB [1]).toList == [1]) = true := by rw [strB_toList]; rfl
    generalize strB [1] = V at CT hl he
    clear h1 h2 h3
    go_enter Try.func71, Try.ntmps71
    go_wp2_with fail
    refine CT.out.mono ?_
    rintro e w1 ⟨rfl, hr1, hc1⟩
    have H1 := Lib.hid (And.intro hr1 hc1)
    clear hr1 hc1
    go_wp2_with fail
    go_ret
    exact ⟨rfl, H1.out⟩
  · rw [h2, h3]
    rw [h1] at CT
    have hl : Op.bytesLess (strB [x]).toList [1] = false := by rw [strB_toList]; exact less_one hx0
    have he : ((strB [x]).toList == [1]) = false := by rw [strB_toList]; simp [hx1]
    generalize strB [x] = V at CT hl he
    clear h1 h2 h3
    go_enter Try.func71, Try.ntmps71
    go_wp2_with fail
    refine CT.out.mono ?_
    rintro e w1 ⟨rfl, hr1, hc1⟩
    have H1 := Lib.hid (And.intro hr1 hc1)
    clear hr1 hc1
    go_wp2_with fail
    refine (CF.out _ _ H1.out.1).mono ?_
    rintro e w2 ⟨rfl, hr2, hc2⟩
    have H2 := Lib.hid (And.intro hr2 (H1.out.2.trans hc2))
    clear hr2 hc2
    go_wp2_with fail
    go_ret
    exact ⟨rfl, H2.out⟩

set_option maxHeartbeats 400000 in
theorem rnew_any (w : World) (l : List UInt8) (p : Option Addr) (c : Nat) (hp : Row w .u8 p (nums l)) :
    Calls Try.prog 34 #[.slice p l.length c] w fun e w' => e = .returned (.pointer (some ⟨w.heap.size, 0, none⟩)) ∧ RdAt w' w.heap.size (.ok l) ∧ Below w.heap.size w w' := by
  have hcv := run_string w l p c hp
  have hcv2 : (convert 22 9 (.slice p l.length c)).run Try.prog w = .ok (.string (strB l)) w := hcv
  obtain ⟨n, hn⟩ : ∃ n, l.length = n := ⟨_, rfl⟩
  rw [hn] at hcv2 ⊢
  have HR := Lib.hid (show RdAt (w.alloc (.cells #[.string (strB l), .int .i64 0] 122)) w.heap.size (.ok l) from ⟨(fun e he => by cases he), new_block _ _ _⟩)
  clear hcv hp hn
  go_enter Try.func34, Try.ntmps34
  go_wp2_with fail
  go_ret
  exact ⟨rfl, HR.out, (Below.refl _ _).alloc (Nat.le_refl _) _⟩

def endE (st : St) : Nat :=
  match st with
  | .error e => e
  | .ok [] => 0
  | .ok (_ :: _) => 5
set_option maxHeartbeats 1000000 in
theorem end_any (w : World) (g : Nat) (st : St) (h : RdAt w g st) :
    Calls Try.prog 47 #[.pointer (some ⟨g, 0, none⟩)] w fun e w' => e = .returned (.int .i64 (endE st)) ∧ w = w' := by
  have h1 := h.at_
  have c0 := cell_at h1 0
  have c1 := cell_at h1 1
  cases st with
  | error e0 =>
    have h0 := h.bd e0 rfl
    have h0z : ((e0 : Int) == 0) = false := by simp; omega
    simp only [errS, restS] at c1 c0
    clear h h1 h0
    go_enter Try.func47, Try.ntmps47
    go_wp2_with fail
    go_ret
    exact ⟨rfl, rfl⟩
  | ok s =>
    simp only [errS, restS] at c1 c0
    clear h h1
    cases s with
    | nil =>
      have hs : (strB [] : ByteArray) = ⟨#[]⟩ := rfl
      rw [hs] at c0
      clear hs
      go_enter Try.func47, Try.ntmps47
      go_wp2_with fail
      go_ret
      exact ⟨rfl, rfl⟩
    | cons x r =>
      have hs : ((strB (x :: r)).toList == []) = false := by rw [strB_toList]; rfl
      obtain ⟨S, hS⟩ : ∃ S, strB (x :: r) = S := ⟨_, rfl⟩
      rw [hS] at hs c0
      clear hS
      go_enter Try.func47, Try.ntmps47
      go_wp2_with fail
      go_ret
      exact ⟨rfl, rfl⟩
end Go.Proofs.Ytbhojddakmgdmaa
namespace Go.Proofs.Ytbhojddakmgdmaa
open Go.RowKit

theorem rdR_pair {α β : Type} (a : Codec α) (b : Codec β) (st : St) : rdR (a.pair b) st = rdR b (rdR a st) := by
  cases st with
  | error e => rfl
  | ok l =>
    cases ha : a.dec l with
    | error e =>
      have h : (a.pair b).dec l = .error e := by show decP a b l = _; unfold decP; rw [ha]
      rw [rdR_no h, rdR_no ha]; rfl
    | ok x =>
      obtain ⟨x, r⟩ := x
      rw [rdR_ok ha]
      cases hb : b.dec r with
      | error e =>
        have h : (a.pair b).dec l = .error e := by show decP a b l = _; unfold decP; rw [ha]; simp only; rw [hb]
        rw [rdR_no h, rdR_no hb]
      | ok y =>
        obtain ⟨y, s⟩ := y
        have h : (a.pair b).dec l = .ok ((x, y), s) := by show decP a b l = _; unfold decP; rw [ha]; simp only; rw [hb]
        rw [rdR_ok h, rdR_ok hb]
theorem rdV_pair {α β : Type} (a : Codec α) (b : Codec β) (d : α × β) (st : St) {r : List UInt8} (h0 : rdR (a.pair b) st = .ok r) : rdV (a.pair b) d st = (rdV a d.1 st, rdV b d.2 (rdR a st)) := by
  cases st with
  | error e => cases h0
  | ok l =>
    cases ha : a.dec l with
    | error e =>
      have h : (a.pair b).dec l = .error e := by show decP a b l = _; unfold decP; rw [ha]
      rw [rdR_no h] at h0; cases h0
    | ok x =>
      obtain ⟨x, r⟩ := x
      cases hb : b.dec r with
      | error e =>
        have h : (a.pair b).dec l = .error e := by show decP a b l = _; unfold decP; rw [ha]; simp only; rw [hb]
        rw [rdR_no h] at h0; cases h0
      | ok y =>
        obtain ⟨y, s⟩ := y
        have h : (a.pair b).dec l = .ok ((x, y), s) := by show decP a b l = _; unfold decP; rw [ha]; simp only; rw [hb]
        rw [rdV_ok h, rdR_ok ha, rdV_ok ha, rdV_ok hb]
def errX {α : Type} : Except Nat α → Nat
  | .ok _ => 0
  | .error e => e
theorem end_read {α : Type} (C : Codec α) (l : List UInt8) : endE (rdR C (.ok l)) = errX (readL C l) := by
  unfold readL
  cases h : C.dec l with
  | error e => rw [rdR_no h]; rfl
  | ok x =>
    obtain ⟨x, r⟩ := x
    rw [rdR_ok h]
    cases r with
    | nil => rfl
    | cons y r => rfl
theorem val_read {α : Type} (C : Codec α) (d x : α) (l : List UInt8) (h : readL C l = .ok x) : rdR C (.ok l) = .ok [] ∧ rdV C d (.ok l) = x := by
  unfold readL at h
  cases hd : C.dec l with
  | error e => rw [hd] at h; cases h
  | ok y =>
    obtain ⟨y, r⟩ := y
    rw [hd] at h
    simp only at h
    by_cases hr : r = []
    · rw [if_pos hr] at h
      injection h with h
      subst h hr
      exact ⟨rdR_ok hd, rdV_ok hd⟩
    · rw [if_neg hr] at h; cases h

/-- an ask as it is read. -/
def askT (a : Nat × Nat × Nat × Nat × List UInt8 × List UInt8 × List UInt8 × List UInt8) : AskL := ⟨a.1, a.2.1, a.2.2.1, a.2.2.2.2.1, a.2.2.2.2.2.1, a.2.2.2.2.2.2.1, a.2.2.2.2.2.2.2, a.2.2.2.1⟩
theorem ask_seq (st : St) : rdR askC st = rdR textC (rdR textC (rdR textC (rdR textC (rdR numC (rdR numC (rdR numC (rdR numC st))))))) := by
  unfold askC
  simp only [rdR_pair]
theorem ask_vals (st : St) {r : List UInt8} (h : rdR askC st = .ok r) : rdV askC (0, 0, 0, 0, [], [], [], []) st =
    (rdV numC 0 st, rdV numC 0 (rdR numC st), rdV numC 0 (rdR numC (rdR numC st)), rdV numC 0 (rdR numC (rdR numC (rdR numC st))), rdV textC [] (rdR numC (rdR numC (rdR numC (rdR numC st)))), rdV textC [] (rdR textC (rdR numC (rdR numC (rdR numC (rdR numC st))))), rdV textC [] (rdR textC (rdR textC (rdR numC (rdR numC (rdR numC (rdR numC st)))))), rdV textC [] (rdR textC (rdR textC (rdR textC (rdR numC (rdR numC (rdR numC (rdR numC st)))))))) := by
  unfold askC at h ⊢
  rw [rdV_pair _ _ _ _ h]
  rw [rdR_pair] at h
  rw [rdV_pair _ _ _ _ h]
  rw [rdR_pair] at h
  rw [rdV_pair _ _ _ _ h]
  rw [rdR_pair] at h
  rw [rdV_pair _ _ _ _ h]
  rw [rdR_pair] at h
  rw [rdV_pair _ _ _ _ h]
  rw [rdR_pair] at h
  rw [rdV_pair _ _ _ _ h]
  rw [rdR_pair] at h
  rw [rdV_pair _ _ _ _ h]
end Go.Proofs.Ytbhojddakmgdmaa
namespace Go.Proofs.Ytbhojddakmgdmaa
open Go.RowKit

def askZ : AskL := ⟨0, 0, 0, [], [], [], [], 0⟩
/-- what ReadAsk says of the bytes. -/
def rdAskE (l : List UInt8) : Nat := if 32768 < l.length then 3 else errX (readL askC l)
def RetRA (w : World) (l : List UInt8) (e : Ending) (w' : World) : Prop :=
  ∃ a : AskL, e = .returned (.tuple #[askV a, .int .i64 (rdAskE l)]) ∧ (∀ x, l.length ≤ 32768 → readL askC l = .ok x → a = askT x) ∧ Below w.heap.size w w'

def zAsk : Obj := .cells #[.int .i64 0, .int .i64 0, .int .i64 0, .string ⟨#[]⟩, .string ⟨#[]⟩, .string ⟨#[]⟩, .string ⟨#[]⟩, .int .i64 0] 24
theorem chg_block {w w1 : World} {c : Array Value} {t : TypeId} (hb : Below (w.heap.size + 1) (w.alloc (.cells c t)) w1) : w1.heap[w.heap.size]? = some (.cells c t (0, 0)) := by
  rw [hb.block w.heap.size (by omega)]
  exact new_block _ _ _

set_option maxHeartbeats 4000000 in
theorem readAsk_any (l : List UInt8) (p : Option Addr) (cap : Nat) (w : World) (hp : Row w .u8 p (nums l)) :
    Calls Try.prog 37 #[.slice p l.length cap] w (RetRA w l) := by
  have hal : Below w.heap.size w (w.alloc zAsk) := (Below.refl _ _).alloc (Nat.le_refl _) _
  have hcn := rnew_any (w.alloc zAsk) l p cap (hp.below hal)
  have hz0 : (w.alloc zAsk).heap.size = w.heap.size + 1 := by simp
  rw [hz0] at hcn
  by_cases hbig : 32768 < l.length
  · have HE := Lib.hid (show rdAskE l = 3 from if_pos hbig)
    have hlz : decide ((l.length : Int) > 32768) = true := by simp; omega
    have HB := Lib.hid hbig
    have HA := Lib.hid hal
    clear hcn hp hal hbig hz0
    unfold zAsk at HA
    go_enter Try.func37, Try.ntmps37
    go_wp2_with fail
    refine bodyPost_ret (v := .tuple #[askV askZ, .int .i64 3]) (by simp [results, Try.results37, go_sem]; rfl) rfl ⟨askZ, by rw [HE.out]; rfl, fun x hx => absurd hx (by have := HB.out; omega), HA.out⟩
  · have HE := Lib.hid (show rdAskE l = errX (readL askC l) from if_neg hbig)
    have hlz : decide ((l.length : Int) > 32768) = false := by simp; omega
    have CN := Lib.hid hcn
    have HA := Lib.hid hal
    clear hp hal hbig hcn
    unfold zAsk at HA CN hz0
    obtain ⟨n, hn⟩ : ∃ n, l.length = n := ⟨_, rfl⟩
    rw [hn] at hlz CN ⊢
    clear hn
    go_enter Try.func37, Try.ntmps37
    go_wp2_with fail
    refine CN.out.mono ?_
    rintro e w0 ⟨rfl, hr0, hb0⟩
    have HB0 := Lib.hid hb0
    have hg0 : w.heap.size + 1 < w0.heap.size := hr0.lt
    have C1 := Lib.hid (pcNumber_any w0 (w.heap.size + 1) (.ok l) hr0)
    clear hr0 hb0
    obtain ⟨V1, hV1⟩ : ∃ V, rdV numC 0 (.ok l) = V := ⟨_, rfl⟩
    obtain ⟨S1, hS1⟩ : ∃ S, rdR numC (.ok l) = S := ⟨_, rfl⟩
    rw [hV1, hS1] at C1
    have HV1 := Lib.hid (And.intro hV1 hS1)
    clear hV1 hS1
    go_wp2_with fail
    refine C1.out.mono ?_
    rintro e w1 ⟨rfl, hr1, hc1⟩
    have HC1 := Lib.hid hc1
    have C2 := Lib.hid (pcNumber_any w1 (w.heap.size + 1) S1 hr1)
    clear hr1 hc1
    obtain ⟨V2, hV2⟩ : ∃ V, rdV numC 0 S1 = V := ⟨_, rfl⟩
    obtain ⟨S2, hS2⟩ : ∃ S, rdR numC S1 = S := ⟨_, rfl⟩
    rw [hV2, hS2] at C2
    have HV2 := Lib.hid (And.intro hV2 hS2)
    clear hV2 hS2
    go_wp2_with fail
    refine C2.out.mono ?_
    rintro e w2 ⟨rfl, hr2, hc2⟩
    have HC2 := Lib.hid (HC1.out.trans hc2)
    have C3 := Lib.hid (pcNumber_any w2 (w.heap.size + 1) S2 hr2)
    clear hr2 hc2
    obtain ⟨V3, hV3⟩ : ∃ V, rdV numC 0 S2 = V := ⟨_, rfl⟩
    obtain ⟨S3, hS3⟩ : ∃ S, rdR numC S2 = S := ⟨_, rfl⟩
    rw [hV3, hS3] at C3
    have HV3 := Lib.hid (And.intro hV3 hS3)
    clear hV3 hS3
    go_wp2_with fail
    refine C3.out.mono ?_
    rintro e w3 ⟨rfl, hr3, hc3⟩
    have HC3 := Lib.hid (HC2.out.trans hc3)
    have C4 := Lib.hid (pcNumber_any w3 (w.heap.size + 1) S3 hr3)
    clear hr3 hc3
    obtain ⟨V4, hV4⟩ : ∃ V, rdV numC 0 S3 = V := ⟨_, rfl⟩
    obtain ⟨S4, hS4⟩ : ∃ S, rdR numC S3 = S := ⟨_, rfl⟩
    rw [hV4, hS4] at C4
    have HV4 := Lib.hid (And.intro hV4 hS4)
    clear hV4 hS4
    go_wp2_with fail
    refine C4.out.mono ?_
    rintro e w4 ⟨rfl, hr4, hc4⟩
    have HC4 := Lib.hid (HC3.out.trans hc4)
    have C5 := Lib.hid (text_any w4 (w.heap.size + 1) S4 hr4)
    clear hr4 hc4
    obtain ⟨V5, hV5⟩ : ∃ V, rdV textC [] S4 = V := ⟨_, rfl⟩
    obtain ⟨S5, hS5⟩ : ∃ S, rdR textC S4 = S := ⟨_, rfl⟩
    rw [hV5, hS5] at C5
    have HV5 := Lib.hid (And.intro hV5 hS5)
    clear hV5 hS5
    go_wp2_with fail
    refine C5.out.mono ?_
    rintro e w5 ⟨rfl, hr5, hc5⟩
    have HC5 := Lib.hid (HC4.out.trans hc5)
    have C6 := Lib.hid (text_any w5 (w.heap.size + 1) S5 hr5)
    clear hr5 hc5
    obtain ⟨V6, hV6⟩ : ∃ V, rdV textC [] S5 = V := ⟨_, rfl⟩
    obtain ⟨S6, hS6⟩ : ∃ S, rdR textC S5 = S := ⟨_, rfl⟩
    rw [hV6, hS6] at C6
    have HV6 := Lib.hid (And.intro hV6 hS6)
    clear hV6 hS6
    go_wp2_with fail
    refine C6.out.mono ?_
    rintro e w6 ⟨rfl, hr6, hc6⟩
    have HC6 := Lib.hid (HC5.out.trans hc6)
    have C7 := Lib.hid (text_any w6 (w.heap.size + 1) S6 hr6)
    clear hr6 hc6
    obtain ⟨V7, hV7⟩ : ∃ V, rdV textC [] S6 = V := ⟨_, rfl⟩
    obtain ⟨S7, hS7⟩ : ∃ S, rdR textC S6 = S := ⟨_, rfl⟩
    rw [hV7, hS7] at C7
    have HV7 := Lib.hid (And.intro hV7 hS7)
    clear hV7 hS7
    go_wp2_with fail
    refine C7.out.mono ?_
    rintro e w7 ⟨rfl, hr7, hc7⟩
    have HC7 := Lib.hid (HC6.out.trans hc7)
    have C8 := Lib.hid (text_any w7 (w.heap.size + 1) S7 hr7)
    clear hr7 hc7
    obtain ⟨V8, hV8⟩ : ∃ V, rdV textC [] S7 = V := ⟨_, rfl⟩
    obtain ⟨S8, hS8⟩ : ∃ S, rdR textC S7 = S := ⟨_, rfl⟩
    rw [hV8, hS8] at C8
    have HV8 := Lib.hid (And.intro hV8 hS8)
    clear hV8 hS8
    go_wp2_with fail
    refine C8.out.mono ?_
    rintro e w8 ⟨rfl, hr8, hc8⟩
    have HC8 := Lib.hid (HC7.out.trans hc8)
    have hbw : Below (w.heap.size + 1) (w.alloc zAsk) w8 := by
      have h1 := HB0.out
      exact h1.trans (HC8.out.below (Nat.le_refl _) (by omega))
    have hb8 : Below w8.heap.size w8 (w8.alloc (.cells #[.int .i64 (V1 : Nat), .int .i64 (V2 : Nat), .int .i64 (V3 : Nat), .string (strB V5), .string (strB V6), .string (strB V7), .string (strB V8), .int .i64 (V4 : Nat)] 24)) := (Below.refl _ _).alloc (Nat.le_refl _) _
    have hblk := chg_block (c := #[.int .i64 0, .int .i64 0, .int .i64 0, .string ⟨#[]⟩, .string ⟨#[]⟩, .string ⟨#[]⟩, .string ⟨#[]⟩, .int .i64 0]) (t := 24) (hbw.trans (hb8.mono (by have := HC8.out.size; omega)))
    have CE := Lib.hid (end_any _ (w.heap.size + 1) S8 (hr8.below hb8))
    obtain ⟨E, hE⟩ : ∃ E, endE S8 = E := ⟨_, rfl⟩
    rw [hE] at CE
    have HEE := Lib.hid hE
    have HBW := Lib.hid hbw
    clear hr8 hc8 hbw hb8 hE
    have hfz := frozen_at hblk
    have hc0 := cell_at hblk
    clear hblk
    go_wp2_with fail
    refine CE.out.mono ?_
    rintro e w9 ⟨rfl, rfl⟩
    have HBZ := Lib.hid (show Below w.heap.size w (w8.alloc (.cells #[.int .i64 (V1 : Nat), .int .i64 (V2 : Nat), .int .i64 (V3 : Nat), .string (strB V5), .string (strB V6), .string (strB V7), .string (strB V8), .int .i64 (V4 : Nat)] 24)) from (HA.out.trans (HBW.out.mono (by omega))).alloc (by have := HBW.out.size; unfold zAsk at this; omega) _)
    have HS8 := Lib.hid (show rdR askC (.ok l) = S8 by rw [ask_seq, HV1.out.2, HV2.out.2, HV3.out.2, HV4.out.2, HV5.out.2, HV6.out.2, HV7.out.2, HV8.out.2])
    have HER := Lib.hid (show rdAskE l = E by rw [HE.out, ← end_read, HS8.out]; exact HEE.out)
    have HX := Lib.hid (show ∀ x, readL askC l = .ok x → (⟨V1, V2, V3, V5, V6, V7, V8, V4⟩ : AskL) = askT x from fun x hx => by
      obtain ⟨h1, h2⟩ := val_read askC (0, 0, 0, 0, [], [], [], []) x l hx
      rw [ask_vals _ h1, HV1.out.2, HV2.out.2, HV3.out.2, HV4.out.2, HV5.out.2, HV6.out.2, HV7.out.2, HV1.out.1, HV2.out.1, HV3.out.1, HV4.out.1, HV5.out.1, HV6.out.1, HV7.out.1, HV8.out.1] at h2
      rw [← h2]; rfl)
    by_cases hE0 : E = 0
    · subst hE0
      go_wp2_with fail
      refine bodyPost_ret (v := .tuple #[.agg #[.int .i64 (V1 : Nat), .int .i64 (V2 : Nat), .int .i64 (V3 : Nat), .string (strB V5), .string (strB V6), .string (strB V7), .string (strB V8), .int .i64 (V4 : Nat)], .int .i64 0]) (by simp [results, Try.results37, go_sem, hc0]) rfl ⟨⟨V1, V2, V3, V5, V6, V7, V8, V4⟩, by rw [HER.out]; rfl, fun x _ hx => HX.out x hx, ((((((((HBZ.out.setCell (p := ⟨w.heap.size, 0, none⟩) (Nat.le_refl _) _).setCell (p := ⟨w.heap.size, 1, none⟩) (Nat.le_refl _) _).setCell (p := ⟨w.heap.size, 2, none⟩) (Nat.le_refl _) _).setCell (p := ⟨w.heap.size, 3, none⟩) (Nat.le_refl _) _).setCell (p := ⟨w.heap.size, 4, none⟩) (Nat.le_refl _) _).setCell (p := ⟨w.heap.size, 5, none⟩) (Nat.le_refl _) _).setCell (p := ⟨w.heap.size, 6, none⟩) (Nat.le_refl _) _).setCell (p := ⟨w.heap.size, 7, none⟩) (Nat.le_refl _) _)⟩
    · have hez : ((E : Int) != 0) = true := by simp; omega
      go_wp2_with fail
      refine bodyPost_ret (v := .tuple #[.agg #[.int .i64 0, .int .i64 0, .int .i64 0, .string ⟨#[]⟩, .string ⟨#[]⟩, .string ⟨#[]⟩, .string ⟨#[]⟩, .int .i64 0], .int .i64 E]) (by simp [results, Try.results37, go_sem, hc0]) rfl ⟨askZ, by rw [HER.out]; rfl, (fun x _ hx => absurd (HER.out.symm.trans ((HE.out).trans (by rw [hx]; rfl))) hE0), ((((((((HBZ.out.setCell (p := ⟨w.heap.size, 0, none⟩) (Nat.le_refl _) _).setCell (p := ⟨w.heap.size, 1, none⟩) (Nat.le_refl _) _).setCell (p := ⟨w.heap.size, 2, none⟩) (Nat.le_refl _) _).setCell (p := ⟨w.heap.size, 3, none⟩) (Nat.le_refl _) _).setCell (p := ⟨w.heap.size, 4, none⟩) (Nat.le_refl _) _).setCell (p := ⟨w.heap.size, 5, none⟩) (Nat.le_refl _) _).setCell (p := ⟨w.heap.size, 6, none⟩) (Nat.le_refl _) _).setCell (p := ⟨w.heap.size, 7, none⟩) (Nat.le_refl _) _)⟩
end Go.Proofs.Ytbhojddakmgdmaa
