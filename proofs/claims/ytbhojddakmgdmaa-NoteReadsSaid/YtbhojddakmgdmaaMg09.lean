/-
  Several texts in one: PcPart2, RegInv, StRow.
-/
import Derived.Test.YtbhojddakmgdmaaMg07
import Derived.Test.YtbhojddakmgdmaaMg08
import Derived.Deep.WholeRow
import Derived.Deep.DeepCutAuto
import Derived.Deep.CutRange
import Derived.Laws.EntriesVeiled
import Derived.WalkSpells
import Derived.Test.YtbhojddakmgdmaaMg01
import Derived.Orders
import Derived.Maps.AppendAt
import Derived.Laws.OwnMore
import Derived.OwnWalk
namespace Go.Proofs.Ytbhojddakmgdmaa
open Go.RowKit

theorem part_seq {α : Type} (M : Nat) (C : Codec α) (st : St) : rdR (C.part M) st = match rdR textC st with
    | .error e => .error e
    | .ok r => match rdPart M C (rdV textC [] st) with
      | .error e => .error e
      | .ok _ => .ok r := by
  cases st with
  | error e => rfl
  | ok b =>
    cases h : textC.dec b with
    | error e =>
      have h' : (C.part M).dec b = .error e := by show decPart M C b = _; unfold decPart; rw [show decT b = .error e from h]
      rw [rdR_no h', rdR_no h]
    | ok x =>
      obtain ⟨t, r⟩ := x
      rw [rdR_ok h, rdV_ok h]
      simp only
      cases hp : rdPart M C t with
      | error e =>
        have h' : (C.part M).dec b = .error e := by show decPart M C b = _; unfold decPart; rw [show decT b = .ok (t, r) from h]; simp only; rw [hp]
        rw [rdR_no h']
      | ok y =>
        have h' : (C.part M).dec b = .ok (y, r) := by show decPart M C b = _; unfold decPart; rw [show decT b = .ok (t, r) from h]; simp only; rw [hp]
        rw [rdR_ok h']
theorem part_val {α : Type} (M : Nat) (C : Codec α) (d : α) (st : St) {s : List UInt8} (hs : rdR (C.part M) st = .ok s) : rdPart M C (rdV textC [] st) = .ok (rdV (C.part M) d st) := by
  cases st with
  | error e => cases hs
  | ok b =>
    cases h : textC.dec b with
    | error e =>
      have h' : (C.part M).dec b = .error e := by show decPart M C b = _; unfold decPart; rw [show decT b = .error e from h]
      rw [rdR_no h'] at hs; cases hs
    | ok x =>
      obtain ⟨t, r⟩ := x
      rw [rdV_ok h]
      cases hp : rdPart M C t with
      | error e =>
        have h' : (C.part M).dec b = .error e := by show decPart M C b = _; unfold decPart; rw [show decT b = .ok (t, r) from h]; simp only; rw [hp]
        rw [rdR_no h'] at hs; cases hs
      | ok y =>
        have h' : (C.part M).dec b = .ok (y, r) := by show decPart M C b = _; unfold decPart; rw [show decT b = .ok (t, r) from h]; simp only; rw [hp]
        rw [rdV_ok h']
theorem rest_part {α : Type} (M : Nat) (C : Codec α) (st : St) : (restS (rdR (C.part M) st)).length ≤ (restS st).length := by
  have h := rest_text st
  rw [part_seq]
  cases hr : rdR textC st with
  | error e => exact Nat.zero_le _
  | ok r =>
    rw [hr] at h
    simp only
    cases rdPart M C (rdV textC [] st) with
    | error e => exact Nat.zero_le _
    | ok x => exact h
theorem setRow_other {w : World} {g k : Nat} {cs : Array Value} (h : k ≠ g) : (w.setRow g cs).heap[k]? = w.heap[k]? := by
  simp only [World.setRow, Array.getElem?_modify, if_neg (Ne.symm h)]
theorem below_setRow {B g : Nat} {w0 w : World} {cs : Array Value} (h : Below B w0 w) (hg : B ≤ g) : Below B w0 (w.setRow g cs) :=
  ⟨h.os, h.tape, h.output, by rw [size_setRow]; exact h.size, fun k hk => by rw [setRow_other (by omega)]; exact h.block k hk⟩
theorem Recs.move {w w' : World} {p : Option Addr} {ls : List RecL} (h : Recs w p ls) (hs : w.heap.size ≤ w'.heap.size) (hk : ∀ b off, p = some ⟨b, off, none⟩ → b < w.heap.size → w'.heap[b]? = w.heap[b]?) : Recs w' p ls := by
  rcases h with h | ⟨b, off, hp, hlt, hc⟩
  · exact Or.inl h
  · have hb := hk b off hp hlt
    exact Or.inr ⟨b, off, hp, Nat.lt_of_lt_of_le hlt hs, fun j hj => ⟨by rw [World.cell?_of_block (w := w) (a := ⟨b, off + j * 2, none⟩) hb]; exact (hc j hj).1, by rw [World.cell?_of_block (w := w) (a := ⟨b, off + j * 2 + 1, none⟩) hb]; exact (hc j hj).2⟩⟩
theorem RecN.move {w w' : World} {B B' : Nat} {p : Option Addr} (h : RecN B w p) (hB : B' ≤ B) (hk : ∀ b off, p = some ⟨b, off, none⟩ → b < w.heap.size → w'.heap[b]? = w.heap[b]?) : RecN B' w' p := fun b off hp => by
  obtain ⟨h1, cs, fz, h2⟩ := h b off hp
  exact ⟨by omega, cs, fz, by rw [hk b off hp (Array.getElem?_eq_some_iff.1 h2).1]; exact h2⟩
theorem rdPart_ne {α : Type} {C : Codec α} {M e : Nat} {t : List UInt8} (hC : ∀ b, C.dec b ≠ .error 0) (h : rdPart M C t = .error e) : e ≠ 0 := by
  unfold rdPart at h
  by_cases hM : M < t.length
  · rw [if_pos hM] at h; injection h with h; omega
  · rw [if_neg hM] at h
    unfold readL at h
    cases hd : C.dec t with
    | error e' =>
      rw [hd] at h
      injection h with h
      subst h
      intro e0
      subst e0
      exact hC t hd
    | ok x =>
      obtain ⟨x, r⟩ := x
      rw [hd] at h
      simp only at h
      by_cases hr : r = []
      · rw [if_pos hr] at h; cases h
      · rw [if_neg hr] at h; injection h with h; omega
theorem errX_part {α : Type} (C : Codec α) (t : List UInt8) : (if 32768 < t.length then 3 else errX (readL C t)) = errX (rdPart 32768 C t) := by
  unfold rdPart
  by_cases h : 32768 < t.length
  · rw [if_pos h, if_pos h]; rfl
  · rw [if_neg h, if_neg h]
theorem infoAsk8 : (Try.prog.info? 24).map (·.size) = some 8 := by kernel_rfl
theorem infoReply8 : (Try.prog.info? 28).map (·.size) = some 8 := by kernel_rfl
/-- a codec that does not fail with 0. -/
def NoZ {α : Type} (C : Codec α) : Prop := ∀ b, C.dec b ≠ .error 0
theorem noz_num : NoZ numC := fun b h => by
  have h : decN b = .error 0 := h
  unfold decN at h
  by_cases h4 : b.length < 4
  · rw [if_pos h4] at h; cases h
  · rw [if_neg h4] at h
    by_cases h5 : 268435456 ≤ numL (b.take 4)
    · rw [if_pos h5] at h; cases h
    · rw [if_neg h5] at h; cases h
theorem noz_text : NoZ textC := fun b h => by
  have h : decT b = .error 0 := h
  unfold decT at h
  cases hn : decN b with
  | error e => rw [hn] at h; injection h with h; subst h; exact noz_num b hn
  | ok y =>
    obtain ⟨n, s⟩ := y
    rw [hn] at h
    simp only at h
    by_cases hs : s.length < n
    · rw [if_pos hs] at h; cases h
    · rw [if_neg hs] at h; cases h
theorem noz_truth : NoZ truthC := fun b h => by
  have h : decB b = .error 0 := h
  cases b with
  | nil => cases h
  | cons y s =>
    have h : (if y = 0 then .ok (false, s) else if y = 1 then .ok (true, s) else .error 5 : Except Nat (Bool × List UInt8)) = .error 0 := h
    by_cases h0 : y = 0
    · rw [if_pos h0] at h; cases h
    · rw [if_neg h0] at h
      by_cases h1 : y = 1
      · rw [if_pos h1] at h; cases h
      · rw [if_neg h1] at h; cases h
theorem noz_pair {α β : Type} {A : Codec α} {B : Codec β} (ha : NoZ A) (hb : NoZ B) : NoZ (A.pair B) := fun b h => by
  have h : decP A B b = .error 0 := h
  unfold decP at h
  cases h1 : A.dec b with
  | error e => rw [h1] at h; injection h with h; subst h; exact ha b h1
  | ok y =>
    obtain ⟨u, s⟩ := y
    rw [h1] at h
    simp only at h
    cases h2 : B.dec s with
    | error e => rw [h2] at h; injection h with h; subst h; exact hb s h2
    | ok z => rw [h2] at h; cases h
theorem noz_rows {α : Type} {A : Codec α} (ha : NoZ A) : ∀ (n : Nat) (b : List UInt8), decR A n b ≠ .error 0
  | 0, b, h => by cases h
  | n + 1, b, h => by
    unfold decR at h
    cases h1 : A.dec b with
    | error e => rw [h1] at h; injection h with h; subst h; exact ha b h1
    | ok y =>
      obtain ⟨u, s⟩ := y
      rw [h1] at h
      simp only at h
      cases h2 : decR A n s with
      | error e => rw [h2] at h; injection h with h; subst h; exact noz_rows ha n s h2
      | ok z => rw [h2] at h; cases h
theorem noz_list {α : Type} {A : Codec α} (ha : NoZ A) : NoZ (Codec.list A) := fun b h => by
  have h : decL A b = .error 0 := h
  unfold decL at h
  cases hn : decN b with
  | error e => rw [hn] at h; injection h with h; subst h; exact noz_num b hn
  | ok y =>
    obtain ⟨n, s⟩ := y
    rw [hn] at h
    exact noz_rows ha n s h
theorem noz_part {α : Type} {A : Codec α} (M : Nat) (ha : NoZ A) : NoZ (A.part M) := fun b h => by
  have h : decPart M A b = .error 0 := h
  unfold decPart at h
  cases h1 : decT b with
  | error e => rw [h1] at h; injection h with h; subst h; exact noz_text b h1
  | ok y =>
    obtain ⟨t, s⟩ := y
    rw [h1] at h
    simp only at h
    cases h2 : rdPart M A t with
    | error e => rw [h2] at h; injection h with h; subst h; exact rdPart_ne ha h2 rfl
    | ok z => rw [h2] at h; cases h
theorem noz_ask : NoZ askC := noz_pair noz_num (noz_pair noz_num (noz_pair noz_num (noz_pair noz_num (noz_pair noz_text (noz_pair noz_text (noz_pair noz_text noz_text))))))
theorem noz_reply : NoZ replyC := noz_pair noz_num (noz_pair noz_num (noz_pair noz_num (noz_pair noz_truth (noz_pair noz_text (noz_pair (noz_list (noz_pair noz_text noz_text)) (noz_pair noz_text noz_truth))))))
def askZ0 : AskL := ⟨0, 0, 0, [], [], [], [], 0⟩

/-- what ReadPart of an ask answers. -/
def RetPtAsk (gp : Nat) (st : St) (w : World) (e : Ending) (w' : World) : Prop :=
  ∃ (a : AskL), e = .returned (askV a) ∧ RdAt w' gp (rdR (askC.part 32768) st) ∧ Chg gp w w' ∧ (∀ s, rdR (askC.part 32768) st = .ok s → a = askT (rdV (askC.part 32768) (0, 0, 0, 0, [], [], [], []) st))
set_option maxHeartbeats 4000000 in
set_option maxRecDepth 100000 in
theorem readPartAsk (w : World) (gp : Nat) (st : St) (h : RdAt w gp st) : Calls Try.prog 36 #[.pointer (some ⟨gp, 0, none⟩), .func (.func 37) #[] #[]] w (RetPtAsk gp st w) := by
  have hfn : ∀ w : World, (binOp .eql 85 (.func (.func 37) #[] #[]) .nilFunc).run Try.prog w = .ok (.bool false) w := fun _ => by kernel_rfl
  have hgl := h.lt
  obtain ⟨Z, hZ⟩ : ∃ Z : Array Value, #[.int .i64 0, .int .i64 0, .int .i64 0, .string ⟨#[]⟩, .string ⟨#[]⟩, .string ⟨#[]⟩, .string ⟨#[]⟩, .int .i64 0] = Z := ⟨_, rfl⟩
  have hZs : Z.size = 8 := by rw [← hZ]; rfl
  have hZo : Z.all (·.oneCell') = true := by rw [← hZ]; simp [Value.oneCell']
  obtain ⟨W2, hW2⟩ : ∃ W2, (w.alloc (.cells Z 24)).alloc (.cells Z 24) = W2 := ⟨_, rfl⟩
  have hb2 : Below w.heap.size w W2 := hW2 ▸ ((Below.refl _ _).alloc (Nat.le_refl _) _).alloc (by simp) _
  have hz2 : W2.heap.size = w.heap.size + 2 := by rw [← hW2]; simp
  have hA : W2.heap[w.heap.size]? = some (.cells Z 24 (0, 0)) := by
    rw [← hW2, Below.heap_alloc _ _ _ (by simp)]; exact new_block _ _ _
  have hB : W2.heap[w.heap.size + 1]? = some (.cells Z 24 (0, 0)) := by
    rw [← hW2]; have := new_block (w.alloc (.cells Z 24)) Z 24; rwa [World.size_alloc] at this
  have CT := Lib.hid (text_any W2 gp st (h.below hb2))
  have HPS := Lib.hid (part_seq 32768 askC st)
  have HPV := Lib.hid (fun s hs => part_val 32768 askC (0, 0, 0, 0, [], [], [], []) st (s := s) hs)
  obtain ⟨t, ht⟩ : ∃ t, rdV textC [] st = t := ⟨_, rfl⟩
  obtain ⟨S1, hS1⟩ : ∃ S, rdR textC st = S := ⟨_, rfl⟩
  rw [ht, hS1] at CT HPS
  rw [ht] at HPV
  have HF := Lib.hid (show ∀ (a : AskL) w', RdAt w' gp (rdR (askC.part 32768) st) → Chg gp w w' → (∀ s, rdR (askC.part 32768) st = .ok s → a = askT (rdV (askC.part 32768) (0, 0, 0, 0, [], [], [], []) st)) → RetPtAsk gp st w (.returned (askV a)) w' from fun a w' h1 h2  h5 => ⟨a, rfl, h1, h2,  h5⟩)
  obtain ⟨F, hF⟩ : ∃ F, rdR (askC.part 32768) st = F := ⟨_, rfl⟩
  obtain ⟨X, hX⟩ : ∃ X, rdV (askC.part 32768) (0, 0, 0, 0, [], [], [], []) st = X := ⟨_, rfl⟩
  rw [hF] at HPS HPV HF
  rw [hX] at HPV HF
  have H2 := Lib.hid (And.intro hb2 (And.intro hz2 (And.intro hA hB)))
  have HW2 := Lib.hid hW2
  have HG := Lib.hid hgl
  have HZ := Lib.hid hZ
  have HZO := Lib.hid hZo
  have HZI := Lib.hid (show (Try.prog.info? 24).map (·.size) = some Z.size by rw [hZs]; exact infoAsk8)
  have HZS := Lib.hid hZs
  clear h hgl hb2 hz2 hA hB hW2 ht hS1 hF hX hZ hZs hZo
  have C1 := Lib.hid (fun l p c w1 hr => readAsk_any l p c w1 hr)
  go_enter Try.func36, Try.ntmps36
  go_upto_region 2 with fail
  rw [HZ.out, HW2.out]
  go_wp2_with fail
  refine CT.out.mono ?_
  rintro e w3 ⟨rfl, hr3, hc3⟩
  have hA3 : w3.heap[w.heap.size]? = some (.cells Z 24 (0, 0)) := by rw [hc3.block _ (by rw [H2.out.2.1]; omega) (by have := HG.out; omega)]; exact H2.out.2.2.1
  have hB3 : w3.heap[w.heap.size + 1]? = some (.cells Z 24 (0, 0)) := by rw [hc3.block _ (by rw [H2.out.2.1]; omega) (by have := HG.out; omega)]; exact H2.out.2.2.2
  have hat := hr3.at_
  have c1 := cell_at hat 1
  have HA3 := Lib.hid hA3
  have HB3 := Lib.hid hB3
  have HR3 := Lib.hid hr3
  have HC3 := Lib.hid (show Chg gp w w3 from (Chg.of_below H2.out.1).trans hc3)
  have HS3 := Lib.hid (show w.heap.size + 2 ≤ w3.heap.size by have := hc3.size; rw [H2.out.2.1] at this; exact this)
  clear hA3 hB3 hat hr3 hc3 CT
  cases S1 with
  | error e0 =>
    have h0 := HR3.out.bd e0 rfl
    have h0z : ((e0 : Int) != 0) = true := by simp; omega
    simp only [errS] at c1
    have HFE := Lib.hid (show F = .error e0 from HPS.out)
    have HP := Lib.hid (HF.out askZ0 w3 (by rw [HFE.out]; exact HR3.out) HC3.out  (fun s hs => by rw [HFE.out] at hs; cases hs))
    have hq : w3.setRow w.heap.size Z = w3 := setRow_self _ _ _ _ _ HA3.out
    clear h0
    go_wp2_with (first | (with_reducible refine wpList_load_row rfl 24 (.tmp 5) rfl (w.heap.size + 1) rfl 24 Z (0, 0) _ HB3.out Try.underlying24 rfl HZI.out ?_) | (with_reducible refine wpList_store_row rfl 24 (.tmp 4) (.tmp 20) rfl w.heap.size Z rfl rfl 24 Z HA3.out HZI.out rfl HZO.out ?_))
    rw [hq]
    refine bodyPost_ret (v := .agg Z) (results_cell_row rfl _ _ w.heap.size 24 Z (0, 0) _ rfl HA3.out Try.underlying24 rfl HZI.out) rfl ?_
    rw [← HZ.out]
    exact HP.out
  | ok r =>
    simp only [errS] at c1
    obtain ⟨cap, w4, hcv, hcap, hrow, hb4⟩ := conv_bytes w3 t
    rw [strB_size] at hcv
    have CR := Lib.hid (C1.out t _ cap w4 hrow)
    have HR4 := Lib.hid (HR3.out.below hb4)
    have HC4 := Lib.hid (HC3.out.trans (Chg.of_below hb4))
    have HS4 := Lib.hid (Nat.le_trans HS3.out hb4.size)
    have HA4 := Lib.hid (show w4.heap[w.heap.size]? = some (.cells Z 24 (0, 0)) by rw [hb4.block _ (by have := HS3.out; omega)]; exact HA3.out)
    have HB4 := Lib.hid (show w4.heap[w.heap.size + 1]? = some (.cells Z 24 (0, 0)) by rw [hb4.block _ (by have := HS3.out; omega)]; exact HB3.out)
    clear hrow hb4 hcap
    generalize strB t = ts at hcv ⊢
    obtain ⟨tn, htn⟩ : ∃ n, t.length = n := ⟨_, rfl⟩
    rw [htn] at hcv CR
    clear htn
    go_wp2_with fail
    refine CR.out.mono ?_
    rintro e w5 ⟨aa, rfl, hok, hb5⟩
    have HR5 := Lib.hid (HR4.out.below hb5)
    have HC5 := Lib.hid (HC4.out.trans (Chg.of_below hb5))
    have HS5 := Lib.hid (Nat.le_trans HS4.out hb5.size)
    have HA5 := Lib.hid (show w5.heap[w.heap.size]? = some (.cells Z 24 (0, 0)) by rw [hb5.block _ (by have := HS4.out; omega)]; exact HA4.out)
    have HB5 := Lib.hid (show w5.heap[w.heap.size + 1]? = some (.cells Z 24 (0, 0)) by rw [hb5.block _ (by have := HS4.out; omega)]; exact HB4.out)
    obtain ⟨V, hV⟩ : ∃ V : Array Value, #[.int .i64 aa.d, .int .i64 aa.c, .int .i64 aa.s, .string (strB aa.t), .string (strB aa.v), .string (strB aa.f), .string (strB aa.u), .int .i64 aa.m] = V := ⟨_, rfl⟩
    have HV := Lib.hid hV
    have hVs : V.size = 8 := by rw [← hV]; rfl
    have HVI := Lib.hid (show (Try.prog.info? 24).map (·.size) = some V.size by rw [hVs]; exact infoAsk8)
    have HVO := Lib.hid (show V.all (·.oneCell') = true by rw [← hV]; simp [Value.oneCell'])
    have HVS := Lib.hid hVs
    have hve : askV aa = .agg V := by rw [← hV]; rfl
    rw [hve]
    have HVE := Lib.hid hve
    obtain ⟨W6, hW6⟩ : ∃ W6, w5.alloc (.cells V 24) = W6 := ⟨_, rfl⟩
    have HST := Lib.hid (show (w5.alloc (.cells Z 24)).heap[w5.heap.size]? = some (.cells Z 24 (0, 0)) ∧ Z.size = V.size ∧ (w5.alloc (.cells Z 24)).setRow w5.heap.size V = W6 from ⟨new_block _ _ _, by rw [HZS.out, hVs], hW6 ▸ World.setRow_alloc_new _ _ _ _⟩)
    have hb6 : Below w5.heap.size w5 W6 := hW6 ▸ (Below.refl _ _).alloc (Nat.le_refl _) _
    have HR6 := Lib.hid (HR5.out.below hb6)
    have HC6 := Lib.hid (HC5.out.trans (Chg.of_below hb6))
    have HA6 := Lib.hid (show W6.heap[w.heap.size]? = some (.cells Z 24 (0, 0)) by rw [hb6.block _ (by have := HS5.out; omega)]; exact HA5.out)
    have HB6 := Lib.hid (show W6.heap[w.heap.size + 1]? = some (.cells Z 24 (0, 0)) by rw [hb6.block _ (by have := HS5.out; omega)]; exact HB5.out)
    have HV6 := Lib.hid (show W6.heap[w5.heap.size]? = some (.cells V 24 (0, 0)) from hW6 ▸ new_block _ _ _)
    have HS6 := Lib.hid (show w5.heap.size + 1 = W6.heap.size by rw [← hW6]; simp)
    have HB56 := Lib.hid hb6
    have HOK := Lib.hid hok
    clear hok
    clear hb5 hb6 hW6 hV hVs hve hcv
    obtain ⟨E, hE⟩ : ∃ E, rdAskE t = E := ⟨_, rfl⟩
    have HEE := Lib.hid (show errX (rdPart 32768 askC t) = E from by rw [← hE]; exact (errX_part askC t).symm)
    rw [hE]
    clear hE
    go_upto_region 9 with (with_reducible refine wpList_store_row rfl 24 (.tmp 7) (.tmp 31) rfl w5.heap.size V rfl rfl 24 Z (HZ.out ▸ HST.out.1) HVI.out HST.out.2.1 HVO.out ?_)
    rw [HZ.out, HST.out.2.2]
    by_cases hE0 : E = 0
    · subst hE0
      have HP := Lib.hid (show ∃ x, rdPart 32768 askC t = .ok x from by
        cases hp : rdPart 32768 askC t with
        | ok x => exact ⟨x, rfl⟩
        | error e => exact absurd (by have := HEE.out; rw [hp] at this; exact this) (rdPart_ne noz_ask hp))
      have HFE := Lib.hid (show F = .ok r from by obtain ⟨x, hx⟩ := HP.out; have h := HPS.out; rw [hx] at h; exact h)
      have hA7 : (W6.setRow w.heap.size V).heap[w.heap.size]? = some (.cells V 24 (0, 0)) := setRow_heap _ _ _ _ _ _ HA6.out
      have HA7 := Lib.hid hA7
      have HQ := Lib.hid (HF.out aa (W6.setRow w.heap.size V) (by
          rw [HFE.out]
          exact ⟨HR6.out.bd, by rw [setRow_other (by have := HG.out; omega)]; exact HR6.out.at_⟩)
        ⟨HC6.out.os, HC6.out.tape, HC6.out.output, by rw [size_setRow]; exact HC6.out.size, fun k hk hg => by rw [setRow_other (by omega)]; exact HC6.out.block k hk hg⟩ 
        (fun s hs => by
          have hx := HPV.out s hs
          have hl : ¬ 32768 < t.length := fun hh => by unfold rdPart at hx; rw [if_pos hh] at hx; cases hx
          unfold rdPart at hx; rw [if_neg hl] at hx
          exact HOK.out _ (by omega) hx))
      clear hA7
      go_wp2_with (first | (with_reducible refine wpList_load_row rfl 24 (.tmp 7) rfl w5.heap.size rfl 24 V (0, 0) _ HV6.out Try.underlying24 rfl HVI.out ?_) | (with_reducible refine wpList_store_row rfl 24 (.tmp 4) (.tmp 39) rfl w.heap.size V rfl rfl 24 Z HA6.out HVI.out HST.out.2.1 HVO.out ?_))
      refine bodyPost_ret (v := .agg V) (results_cell_row rfl _ _ w.heap.size 24 V (0, 0) _ rfl HA7.out Try.underlying24 rfl HVI.out) rfl ?_
      rw [← HVE.out]
      exact HQ.out
    · have hEz : ((E : Int) != 0) = true := by simp; omega
      have CF := Lib.hid (fail_any W6 gp _ E hE0 HR6.out)
      have HFE := Lib.hid (show F = .error E from by
        cases hp : rdPart 32768 askC t with
        | ok x => exact absurd (by have := HEE.out; rw [hp] at this; exact this.symm) hE0
        | error e =>
          have h1 := HEE.out
          rw [hp] at h1
          have h2 := HPS.out
          rw [hp, show e = E from h1] at h2
          exact h2)
      clear hE0
      go_wp2_with fail
      refine CF.out.mono ?_
      rintro e w7 ⟨rfl, hr7, hc7⟩
      have HA7 := Lib.hid (show w7.heap[w.heap.size]? = some (.cells Z 24 (0, 0)) by rw [hc7.block _ (by have := HS6.out; have := HS5.out; omega) (by have := HG.out; omega)]; exact HA6.out)
      have HB7 := Lib.hid (show w7.heap[w.heap.size + 1]? = some (.cells Z 24 (0, 0)) by rw [hc7.block _ (by have := HS6.out; have := HS5.out; omega) (by have := HG.out; omega)]; exact HB6.out)
      have hq : w7.setRow w.heap.size Z = w7 := setRow_self _ _ _ _ _ HA7.out
      have HP := Lib.hid (HF.out askZ0 w7 (by rw [HFE.out]; exact hr7) (HC6.out.trans hc7)  (fun s hs => by rw [HFE.out] at hs; cases hs))
      clear hr7 hc7
      go_wp2_with (first | (with_reducible refine wpList_load_row rfl 24 (.tmp 5) rfl (w.heap.size + 1) rfl 24 Z (0, 0) _ HB7.out Try.underlying24 rfl HZI.out ?_) | (with_reducible refine wpList_store_row rfl 24 (.tmp 4) (.tmp 38) rfl w.heap.size Z rfl rfl 24 Z HA7.out HZI.out rfl HZO.out ?_))
      rw [hq]
      refine bodyPost_ret (v := .agg Z) (results_cell_row rfl _ _ w.heap.size 24 Z (0, 0) _ rfl HA7.out Try.underlying24 rfl HZI.out) rfl ?_
      rw [← HZ.out]
      exact HP.out

/-- what ReadPart of a reply answers. -/
def RetPtReply (gp : Nat) (st : St) (w : World) (e : Ending) (w' : World) : Prop :=
  ∃ (r : RepL) (q : Option Addr) (d : Nat), e = .returned (repV r q d) ∧ RdAt w' gp (rdR (replyC.part 32768) st) ∧ Chg gp w w' ∧ Recs w' q r.ls ∧ RecN w.heap.size w' q ∧ (∀ s, rdR (replyC.part 32768) st = .ok s → r = repT (rdV (replyC.part 32768) (0, 0, 0, false, [], [], [], false) st))
set_option maxHeartbeats 4000000 in
set_option maxRecDepth 100000 in
theorem readPartReply (w : World) (gp : Nat) (st : St) (h : RdAt w gp st) : Calls Try.prog 38 #[.pointer (some ⟨gp, 0, none⟩), .func (.func 39) #[] #[]] w (RetPtReply gp st w) := by
  have hfn : ∀ w : World, (binOp .eql 87 (.func (.func 39) #[] #[]) .nilFunc).run Try.prog w = .ok (.bool false) w := fun _ => by kernel_rfl
  have hgl := h.lt
  obtain ⟨Z, hZ⟩ : ∃ Z : Array Value, #[.int .i64 0, .int .i64 0, .int .i64 0, .bool false, .string ⟨#[]⟩, .slice none 0 0, .string ⟨#[]⟩, .bool false] = Z := ⟨_, rfl⟩
  have hZs : Z.size = 8 := by rw [← hZ]; rfl
  have hZo : Z.all (·.oneCell') = true := by rw [← hZ]; simp [Value.oneCell']
  obtain ⟨W2, hW2⟩ : ∃ W2, (w.alloc (.cells Z 28)).alloc (.cells Z 28) = W2 := ⟨_, rfl⟩
  have hb2 : Below w.heap.size w W2 := hW2 ▸ ((Below.refl _ _).alloc (Nat.le_refl _) _).alloc (by simp) _
  have hz2 : W2.heap.size = w.heap.size + 2 := by rw [← hW2]; simp
  have hA : W2.heap[w.heap.size]? = some (.cells Z 28 (0, 0)) := by
    rw [← hW2, Below.heap_alloc _ _ _ (by simp)]; exact new_block _ _ _
  have hB : W2.heap[w.heap.size + 1]? = some (.cells Z 28 (0, 0)) := by
    rw [← hW2]; have := new_block (w.alloc (.cells Z 28)) Z 28; rwa [World.size_alloc] at this
  have CT := Lib.hid (text_any W2 gp st (h.below hb2))
  have HPS := Lib.hid (part_seq 32768 replyC st)
  have HPV := Lib.hid (fun s hs => part_val 32768 replyC (0, 0, 0, false, [], [], [], false) st (s := s) hs)
  obtain ⟨t, ht⟩ : ∃ t, rdV textC [] st = t := ⟨_, rfl⟩
  obtain ⟨S1, hS1⟩ : ∃ S, rdR textC st = S := ⟨_, rfl⟩
  rw [ht, hS1] at CT HPS
  rw [ht] at HPV
  have HF := Lib.hid (show ∀ (r : RepL) (q : Option Addr) (d : Nat) w', RdAt w' gp (rdR (replyC.part 32768) st) → Chg gp w w' → Recs w' q r.ls → RecN w.heap.size w' q → (∀ s, rdR (replyC.part 32768) st = .ok s → r = repT (rdV (replyC.part 32768) (0, 0, 0, false, [], [], [], false) st)) → RetPtReply gp st w (.returned (repV r q d)) w' from fun r q d w' h1 h2 h3 h4 h5 => ⟨r, q, d, rfl, h1, h2, h3, h4, h5⟩)
  obtain ⟨F, hF⟩ : ∃ F, rdR (replyC.part 32768) st = F := ⟨_, rfl⟩
  obtain ⟨X, hX⟩ : ∃ X, rdV (replyC.part 32768) (0, 0, 0, false, [], [], [], false) st = X := ⟨_, rfl⟩
  rw [hF] at HPS HPV HF
  rw [hX] at HPV HF
  have H2 := Lib.hid (And.intro hb2 (And.intro hz2 (And.intro hA hB)))
  have HW2 := Lib.hid hW2
  have HG := Lib.hid hgl
  have HZ := Lib.hid hZ
  have HZO := Lib.hid hZo
  have HZI := Lib.hid (show (Try.prog.info? 28).map (·.size) = some Z.size by rw [hZs]; exact infoReply8)
  have HZS := Lib.hid hZs
  clear h hgl hb2 hz2 hA hB hW2 ht hS1 hF hX hZ hZs hZo
  have C1 := Lib.hid (fun l p c w1 hr => readReplyN_any l p c w1 hr)
  go_enter Try.func38, Try.ntmps38
  go_upto_region 2 with fail
  rw [HZ.out, HW2.out]
  go_wp2_with fail
  refine CT.out.mono ?_
  rintro e w3 ⟨rfl, hr3, hc3⟩
  have hA3 : w3.heap[w.heap.size]? = some (.cells Z 28 (0, 0)) := by rw [hc3.block _ (by rw [H2.out.2.1]; omega) (by have := HG.out; omega)]; exact H2.out.2.2.1
  have hB3 : w3.heap[w.heap.size + 1]? = some (.cells Z 28 (0, 0)) := by rw [hc3.block _ (by rw [H2.out.2.1]; omega) (by have := HG.out; omega)]; exact H2.out.2.2.2
  have hat := hr3.at_
  have c1 := cell_at hat 1
  have HA3 := Lib.hid hA3
  have HB3 := Lib.hid hB3
  have HR3 := Lib.hid hr3
  have HC3 := Lib.hid (show Chg gp w w3 from (Chg.of_below H2.out.1).trans hc3)
  have HS3 := Lib.hid (show w.heap.size + 2 ≤ w3.heap.size by have := hc3.size; rw [H2.out.2.1] at this; exact this)
  clear hA3 hB3 hat hr3 hc3 CT
  cases S1 with
  | error e0 =>
    have h0 := HR3.out.bd e0 rfl
    have h0z : ((e0 : Int) != 0) = true := by simp; omega
    simp only [errS] at c1
    have HFE := Lib.hid (show F = .error e0 from HPS.out)
    have HP := Lib.hid (HF.out repZ none 0 w3 (by rw [HFE.out]; exact HR3.out) HC3.out (Or.inl rfl) (fun b off h => by cases h) (fun s hs => by rw [HFE.out] at hs; cases hs))
    have hq : w3.setRow w.heap.size Z = w3 := setRow_self _ _ _ _ _ HA3.out
    clear h0
    go_wp2_with (first | (with_reducible refine wpList_load_row rfl 28 (.tmp 5) rfl (w.heap.size + 1) rfl 28 Z (0, 0) _ HB3.out Try.underlying28 rfl HZI.out ?_) | (with_reducible refine wpList_store_row rfl 28 (.tmp 4) (.tmp 20) rfl w.heap.size Z rfl rfl 28 Z HA3.out HZI.out rfl HZO.out ?_))
    rw [hq]
    refine bodyPost_ret (v := .agg Z) (results_cell_row rfl _ _ w.heap.size 28 Z (0, 0) _ rfl HA3.out Try.underlying28 rfl HZI.out) rfl ?_
    rw [← HZ.out]
    exact HP.out
  | ok r =>
    simp only [errS] at c1
    obtain ⟨cap, w4, hcv, hcap, hrow, hb4⟩ := conv_bytes w3 t
    rw [strB_size] at hcv
    have CR := Lib.hid (C1.out t _ cap w4 hrow)
    have HR4 := Lib.hid (HR3.out.below hb4)
    have HC4 := Lib.hid (HC3.out.trans (Chg.of_below hb4))
    have HS4 := Lib.hid (Nat.le_trans HS3.out hb4.size)
    have HA4 := Lib.hid (show w4.heap[w.heap.size]? = some (.cells Z 28 (0, 0)) by rw [hb4.block _ (by have := HS3.out; omega)]; exact HA3.out)
    have HB4 := Lib.hid (show w4.heap[w.heap.size + 1]? = some (.cells Z 28 (0, 0)) by rw [hb4.block _ (by have := HS3.out; omega)]; exact HB3.out)
    clear hrow hb4 hcap
    generalize strB t = ts at hcv ⊢
    obtain ⟨tn, htn⟩ : ∃ n, t.length = n := ⟨_, rfl⟩
    rw [htn] at hcv CR
    clear htn
    go_wp2_with fail
    refine CR.out.mono ?_
    rintro e w5 ⟨rr, q, d, rfl, hok, hb5, hrn⟩
    have HR5 := Lib.hid (HR4.out.below hb5)
    have HC5 := Lib.hid (HC4.out.trans (Chg.of_below hb5))
    have HS5 := Lib.hid (Nat.le_trans HS4.out hb5.size)
    have HA5 := Lib.hid (show w5.heap[w.heap.size]? = some (.cells Z 28 (0, 0)) by rw [hb5.block _ (by have := HS4.out; omega)]; exact HA4.out)
    have HB5 := Lib.hid (show w5.heap[w.heap.size + 1]? = some (.cells Z 28 (0, 0)) by rw [hb5.block _ (by have := HS4.out; omega)]; exact HB4.out)
    obtain ⟨V, hV⟩ : ∃ V : Array Value, #[.int .i64 rr.c, .int .i64 rr.s, .int .i64 rr.e, .bool rr.fd, .string (strB rr.v), .slice q rr.ls.length d, .string (strB rr.nx), .bool rr.mr] = V := ⟨_, rfl⟩
    have HV := Lib.hid hV
    have hVs : V.size = 8 := by rw [← hV]; rfl
    have HVI := Lib.hid (show (Try.prog.info? 28).map (·.size) = some V.size by rw [hVs]; exact infoReply8)
    have HVO := Lib.hid (show V.all (·.oneCell') = true by rw [← hV]; simp [Value.oneCell'])
    have HVS := Lib.hid hVs
    have hve : repV rr q d = .agg V := by rw [← hV]; rfl
    rw [hve]
    have HVE := Lib.hid hve
    obtain ⟨W6, hW6⟩ : ∃ W6, w5.alloc (.cells V 28) = W6 := ⟨_, rfl⟩
    have HST := Lib.hid (show (w5.alloc (.cells Z 28)).heap[w5.heap.size]? = some (.cells Z 28 (0, 0)) ∧ Z.size = V.size ∧ (w5.alloc (.cells Z 28)).setRow w5.heap.size V = W6 from ⟨new_block _ _ _, by rw [HZS.out, hVs], hW6 ▸ World.setRow_alloc_new _ _ _ _⟩)
    have hb6 : Below w5.heap.size w5 W6 := hW6 ▸ (Below.refl _ _).alloc (Nat.le_refl _) _
    have HR6 := Lib.hid (HR5.out.below hb6)
    have HC6 := Lib.hid (HC5.out.trans (Chg.of_below hb6))
    have HA6 := Lib.hid (show W6.heap[w.heap.size]? = some (.cells Z 28 (0, 0)) by rw [hb6.block _ (by have := HS5.out; omega)]; exact HA5.out)
    have HB6 := Lib.hid (show W6.heap[w.heap.size + 1]? = some (.cells Z 28 (0, 0)) by rw [hb6.block _ (by have := HS5.out; omega)]; exact HB5.out)
    have HV6 := Lib.hid (show W6.heap[w5.heap.size]? = some (.cells V 28 (0, 0)) from hW6 ▸ new_block _ _ _)
    have HS6 := Lib.hid (show w5.heap.size + 1 = W6.heap.size by rw [← hW6]; simp)
    have HB56 := Lib.hid hb6
    have HOK := Lib.hid hok
    have HRN := Lib.hid hrn
    clear hok hrn
    clear hb5 hb6 hW6 hV hVs hve hcv
    obtain ⟨E, hE⟩ : ∃ E, rdRepE t = E := ⟨_, rfl⟩
    have HEE := Lib.hid (show errX (rdPart 32768 replyC t) = E from by rw [← hE]; exact (errX_part replyC t).symm)
    rw [hE]
    clear hE
    go_upto_region 9 with (with_reducible refine wpList_store_row rfl 28 (.tmp 7) (.tmp 31) rfl w5.heap.size V rfl rfl 28 Z (HZ.out ▸ HST.out.1) HVI.out HST.out.2.1 HVO.out ?_)
    rw [HZ.out, HST.out.2.2]
    by_cases hE0 : E = 0
    · subst hE0
      have HP := Lib.hid (show ∃ x, rdPart 32768 replyC t = .ok x from by
        cases hp : rdPart 32768 replyC t with
        | ok x => exact ⟨x, rfl⟩
        | error e => exact absurd (by have := HEE.out; rw [hp] at this; exact this) (rdPart_ne noz_reply hp))
      have HFE := Lib.hid (show F = .ok r from by obtain ⟨x, hx⟩ := HP.out; have h := HPS.out; rw [hx] at h; exact h)
      have hA7 : (W6.setRow w.heap.size V).heap[w.heap.size]? = some (.cells V 28 (0, 0)) := setRow_heap _ _ _ _ _ _ HA6.out
      have HA7 := Lib.hid hA7
      have HQ := Lib.hid (HF.out rr q d (W6.setRow w.heap.size V) (by
          rw [HFE.out]
          exact ⟨HR6.out.bd, by rw [setRow_other (by have := HG.out; omega)]; exact HR6.out.at_⟩)
        ⟨HC6.out.os, HC6.out.tape, HC6.out.output, by rw [size_setRow]; exact HC6.out.size, fun k hk hg => by rw [setRow_other (by omega)]; exact HC6.out.block k hk hg⟩ (by
          obtain ⟨x, hx⟩ := HP.out
          have hl : ¬ 32768 < t.length := fun hh => by unfold rdPart at hx; rw [if_pos hh] at hx; cases hx
          unfold rdPart at hx; rw [if_neg hl] at hx
          refine ((HOK.out x (by omega) hx).2.below HB56.out).move (by rw [size_setRow]; exact Nat.le_refl _) fun b off hb _ => setRow_other ?_
          have := (HRN.out b off hb).1
          have := HS4.out
          omega)
        (HRN.out.move (by have := HS4.out; omega) fun b off hb hlt => by
          rw [setRow_other (by have := (HRN.out b off hb).1; have := HS4.out; omega)]
          exact HB56.out.block b hlt)
        (fun s hs => by
          have hx := HPV.out s hs
          have hl : ¬ 32768 < t.length := fun hh => by unfold rdPart at hx; rw [if_pos hh] at hx; cases hx
          unfold rdPart at hx; rw [if_neg hl] at hx
          exact (HOK.out _ (by omega) hx).1))
      clear hA7
      go_wp2_with (first | (with_reducible refine wpList_load_row rfl 28 (.tmp 7) rfl w5.heap.size rfl 28 V (0, 0) _ HV6.out Try.underlying28 rfl HVI.out ?_) | (with_reducible refine wpList_store_row rfl 28 (.tmp 4) (.tmp 39) rfl w.heap.size V rfl rfl 28 Z HA6.out HVI.out HST.out.2.1 HVO.out ?_))
      refine bodyPost_ret (v := .agg V) (results_cell_row rfl _ _ w.heap.size 28 V (0, 0) _ rfl HA7.out Try.underlying28 rfl HVI.out) rfl ?_
      rw [← HVE.out]
      exact HQ.out
    · have hEz : ((E : Int) != 0) = true := by simp; omega
      have CF := Lib.hid (fail_any W6 gp _ E hE0 HR6.out)
      have HFE := Lib.hid (show F = .error E from by
        cases hp : rdPart 32768 replyC t with
        | ok x => exact absurd (by have := HEE.out; rw [hp] at this; exact this.symm) hE0
        | error e =>
          have h1 := HEE.out
          rw [hp] at h1
          have h2 := HPS.out
          rw [hp, show e = E from h1] at h2
          exact h2)
      clear hE0
      go_wp2_with fail
      refine CF.out.mono ?_
      rintro e w7 ⟨rfl, hr7, hc7⟩
      have HA7 := Lib.hid (show w7.heap[w.heap.size]? = some (.cells Z 28 (0, 0)) by rw [hc7.block _ (by have := HS6.out; have := HS5.out; omega) (by have := HG.out; omega)]; exact HA6.out)
      have HB7 := Lib.hid (show w7.heap[w.heap.size + 1]? = some (.cells Z 28 (0, 0)) by rw [hc7.block _ (by have := HS6.out; have := HS5.out; omega) (by have := HG.out; omega)]; exact HB6.out)
      have hq : w7.setRow w.heap.size Z = w7 := setRow_self _ _ _ _ _ HA7.out
      have HP := Lib.hid (HF.out repZ none 0 w7 (by rw [HFE.out]; exact hr7) (HC6.out.trans hc7) (Or.inl rfl) (fun b off h => by cases h) (fun s hs => by rw [HFE.out] at hs; cases hs))
      clear hr7 hc7
      go_wp2_with (first | (with_reducible refine wpList_load_row rfl 28 (.tmp 5) rfl (w.heap.size + 1) rfl 28 Z (0, 0) _ HB7.out Try.underlying28 rfl HZI.out ?_) | (with_reducible refine wpList_store_row rfl 28 (.tmp 4) (.tmp 38) rfl w.heap.size Z rfl rfl 28 Z HA7.out HZI.out rfl HZO.out ?_))
      rw [hq]
      refine bodyPost_ret (v := .agg Z) (results_cell_row rfl _ _ w.heap.size 28 Z (0, 0) _ rfl HA7.out Try.underlying28 rfl HZI.out) rfl ?_
      rw [← HZ.out]
      exact HP.out
end Go.Proofs.Ytbhojddakmgdmaa
namespace Go.Gz

def dstOf (ops : Array Oper) (i : Nat) : Option Tmp := (ops[i]?).bind (·.dst)
/-- no two operations yield into one slot; each waits for earlier ones alone; all slots are in the frame. -/
def invB (ops : Array Oper) (m : Nat) : Bool :=
  (List.range ops.size).all fun i => ((List.range ops.size).all fun j => i == j || match dstOf ops i, dstOf ops j with | some a, some b => a != b | _, _ => true) &&
    (match dstOf ops i with | some d => decide (d < m) | none => true) && ((ops[i]?).map fun o => o.after.all fun e => !(Region.binds .any e) || decide (e.on < i)).getD true
/-- the operation that has yielded into slot j. -/
def whoAt (ops : Array Oper) (L : Nat → Bool) (j : Nat) : Option Nat := (List.range ops.size).find? fun i => L i && (dstOf ops i == some j)
/-- the frame behind the operations of L, which yielded vals. -/
def frA (base : Act) (ops : Array Oper) (L : Nat → Bool) (vals : Nat → Value) : Act :=
  { base with tmps := base.tmps.mapIdx fun j x => match whoAt ops L j with | some i => vals i | none => x }
def updV (vals : Nat → Value) (i : Nat) (v : Value) : Nat → Value := fun j => if j = i then v else vals j
def updL (L : Nat → Bool) (i : Nat) : Nat → Bool := fun j => if j = i then true else L j

theorem whoAt_some {ops : Array Oper} {L : Nat → Bool} {j i : Nat} (h : whoAt ops L j = some i) : i < ops.size ∧ L i = true ∧ dstOf ops i = some j := by
  have h1 := List.find?_some h
  have h2 := List.mem_of_find?_eq_some h
  simp only [Bool.and_eq_true, beq_iff_eq] at h1
  exact ⟨List.mem_range.1 h2, h1.1, h1.2⟩
theorem dst_lt {ops : Array Oper} {i : Nat} {d : Tmp} (h : dstOf ops i = some d) : i < ops.size := by
  unfold dstOf at h
  cases h1 : ops[i]? with
  | none => rw [h1] at h; cases h
  | some o => exact (Array.getElem?_eq_some_iff.1 h1).1
theorem invB_apart {ops : Array Oper} {m : Nat} (h : invB ops m = true) {i j : Nat} {d : Tmp} (hi : dstOf ops i = some d) (hj : dstOf ops j = some d) : i = j := by
  unfold invB at h
  rw [List.all_eq_true] at h
  have h1 := h i (List.mem_range.2 (dst_lt hi))
  simp only [Bool.and_eq_true, List.all_eq_true] at h1
  have h2 := h1.1.1 j (List.mem_range.2 (dst_lt hj))
  rw [hi, hj] at h2
  simpa using h2
theorem invB_lt {ops : Array Oper} {m : Nat} (h : invB ops m = true) {i : Nat} {d : Tmp} (hi : dstOf ops i = some d) : d < m := by
  unfold invB at h
  rw [List.all_eq_true] at h
  have h1 := h i (List.mem_range.2 (dst_lt hi))
  simp only [Bool.and_eq_true] at h1
  have h2 := h1.1.2
  rw [hi] at h2
  simpa using h2
theorem invB_back {ops : Array Oper} {m : Nat} (h : invB ops m = true) {i : Nat} {o : Oper} (hi : ops[i]? = some o) : ∀ e ∈ o.after, Region.binds .any e = true → e.on < i := by
  unfold invB at h
  rw [List.all_eq_true] at h
  have h1 := h i (List.mem_range.2 (Array.getElem?_eq_some_iff.1 hi).1)
  simp only [Bool.and_eq_true] at h1
  have h2 := h1.2
  rw [hi] at h2
  simp only [Option.map_some, Option.getD_some] at h2
  intro e he hb
  have h3 := Array.all_eq_true_iff_forall_mem.1 h2 e he
  rw [hb] at h3
  exact of_decide_eq_true (by simpa using h3)
theorem whoAt_of {ops : Array Oper} {m : Nat} (h : invB ops m = true) {L : Nat → Bool} {j i : Nat} (hL : L i = true) (hd : dstOf ops i = some j) : whoAt ops L j = some i := by
  cases hw : whoAt ops L j with
  | some k =>
    obtain ⟨_, _, h3⟩ := whoAt_some hw
    rw [invB_apart h h3 hd]
  | none =>
    unfold whoAt at hw
    rw [List.find?_eq_none] at hw
    have := hw i (List.mem_range.2 (dst_lt hd))
    rw [hL, hd] at this
    simp at this
theorem whoAt_upd {ops : Array Oper} {L : Nat → Bool} {i j : Nat} (hd : dstOf ops i ≠ some j) : whoAt ops (updL L i) j = whoAt ops L j := by
  unfold whoAt
  congr 1
  funext k
  unfold updL
  by_cases hk : k = i
  · subst hk
    have : (dstOf ops k == some j) = false := by simpa using hd
    rw [this, Bool.and_false, Bool.and_false]
  · rw [if_neg hk]
theorem frA_put {base : Act} {ops : Array Oper} (h : invB ops base.tmps.size = true) {L : Nat → Bool} {vals : Nat → Value} {i : Nat} (hL : L i = false) (v : Value) :
    (frA base ops L vals).put (dstOf ops i) v = frA base ops (updL L i) (updV vals i v) := by
  have key : ∀ j, dstOf ops i ≠ some j → ∀ x : Value, (match whoAt ops L j with | some k => vals k | none => x) = (match whoAt ops (updL L i) j with | some k => updV vals i v k | none => x) := by
    intro j hj x
    rw [whoAt_upd hj]
    cases hw : whoAt ops L j with
    | none => rfl
    | some k =>
      obtain ⟨_, h2, _⟩ := whoAt_some hw
      have hk : k ≠ i := fun e => by rw [e, hL] at h2; cases h2
      show vals k = updV vals i v k
      unfold updV
      rw [if_neg hk]
  cases hd : dstOf ops i with
  | none =>
    unfold frA Act.put
    simp only
    congr 1
    apply Array.ext_getElem?
    intro j
    simp only [Array.getElem?_mapIdx]
    cases base.tmps[j]? with
    | none => rfl
    | some x => exact congrArg some (key j (by rw [hd]; simp) x)
  | some d =>
    have hlt := invB_lt h hd
    unfold frA Act.put
    simp only
    congr 1
    apply Array.ext_getElem?
    intro j
    by_cases hj : d = j
    · subst hj
      rw [Array.getElem?_setIfInBounds_self]
      simp only [Array.size_mapIdx, Array.getElem?_mapIdx]
      rw [if_pos hlt]
      have hw := whoAt_of h (L := updL L i) (by unfold updL; rw [if_pos rfl]) hd
      rw [Array.getElem?_eq_getElem hlt]
      show _ = some (match whoAt ops (updL L i) d with | some k => updV vals i v k | none => _)
      rw [hw]
      show some v = some (updV vals i v i)
      unfold updV
      rw [if_pos rfl]
    · rw [Array.getElem?_setIfInBounds_ne hj]
      simp only [Array.getElem?_mapIdx]
      cases base.tmps[j]? with
      | none => rfl
      | some x => exact congrArg some (key j (by rw [hd]; intro e; exact hj (Option.some.inj e)) x)
/-- what has been yielded is read. -/
theorem frA_done {base : Act} {ops : Array Oper} (h : invB ops base.tmps.size = true) {L : Nat → Bool} {vals : Nat → Value} {k : Nat} {t : Tmp} (hL : L k = true) (hd : dstOf ops k = some t) :
    (frA base ops L vals).tmps.getD t undef = vals k := by
  have hlt := invB_lt h hd
  unfold frA
  simp only [Array.getD_eq_getD_getElem?, Array.getElem?_mapIdx, Array.getElem?_eq_getElem hlt, Option.map_some, Option.getD_some]
  rw [whoAt_of h hL hd]
/-- what no operation yields into stays. -/
theorem frA_base {base : Act} {ops : Array Oper} {L : Nat → Bool} {vals : Nat → Value} {t : Tmp} (hn : (List.range ops.size).all (fun i => dstOf ops i != some t) = true) :
    (frA base ops L vals).tmps.getD t undef = base.tmps.getD t undef := by
  have hw : whoAt ops L t = none := by
    cases hw : whoAt ops L t with
    | none => rfl
    | some k =>
      obtain ⟨h1, _, h3⟩ := whoAt_some hw
      have := List.all_eq_true.1 hn k (List.mem_range.2 h1)
      rw [h3] at this
      simp at this
  unfold frA
  simp only [Array.getD_eq_getD_getElem?, Array.getElem?_mapIdx]
  rw [hw]
  cases base.tmps[t]? <;> rfl
/-- a slot into which only an operation yields that has not run. -/
theorem frA_wait {base : Act} {ops : Array Oper} (h : invB ops base.tmps.size = true) {L : Nat → Bool} {vals : Nat → Value} {t : Tmp} {k : Nat} (hd : dstOf ops k = some t) (hL : L k = false) :
    (frA base ops L vals).tmps.getD t undef = base.tmps.getD t undef := by
  have hw : whoAt ops L t = none := by
    cases hw : whoAt ops L t with
    | none => rfl
    | some j =>
      obtain ⟨_, h2, h3⟩ := whoAt_some hw
      rw [invB_apart h h3 hd, hL] at h2
      cases h2
  unfold frA
  simp only [Array.getD_eq_getD_getElem?, Array.getElem?_mapIdx]
  rw [hw]
  cases base.tmps[t]? <;> rfl
theorem frA_none (base : Act) (ops : Array Oper) (vals : Nat → Value) : frA base ops (fun _ => false) vals = base := by
  have hw : ∀ j, whoAt ops (fun _ => false) j = none := fun j => by
    unfold whoAt
    rw [List.find?_eq_none]
    intro x _
    simp
  unfold frA
  simp only [hw]
  cases base with
  | mk t d =>
    simp only [Act.mk.injEq, and_true]
    apply Array.ext_getElem?
    intro j
    simp only [Array.getElem?_mapIdx]
    cases t[j]? <;> rfl
def putsL (vals : Nat → Value) : List Oper → Nat → Act → Act
  | [], _, a => a
  | o :: r, i, a => putsL vals r (i + 1) (a.put o.dst (vals i))
theorem frA_all {base : Act} {l : List Oper} (h : invB l.toArray base.tmps.size = true) (vals : Nat → Value) : frA base l.toArray (fun i => decide (i < l.length)) vals = putsL vals l 0 base := by
  have go : ∀ (r : List Oper) (i : Nat), i + r.length = l.length → l.drop i = r → frA base l.toArray (fun j => decide (j < l.length)) vals = putsL vals r i (frA base l.toArray (fun j => decide (j < i)) vals) := by
    intro r
    induction r with
    | nil =>
      intro i hi _
      simp only [List.length_nil, Nat.add_zero] at hi
      rw [hi]; rfl
    | cons o r ih =>
      intro i hi hr
      simp only [List.length_cons] at hi
      have ho : dstOf l.toArray i = o.dst := by
        unfold dstOf
        rw [List.getElem?_toArray]
        have : l[i]? = some o := by
          have := congrArg (·[0]?) hr
          simpa [List.getElem?_drop] using this
        rw [this]; rfl
      have hp := frA_put h (L := fun j => decide (j < i)) (vals := vals) (i := i) (by simp) (vals i)
      have e1 : updV vals i (vals i) = vals := by funext j; unfold updV; split <;> simp_all
      have e2 : updL (fun j => decide (j < i)) i = fun j => decide (j < i + 1) := by
        funext j; unfold updL; by_cases hj : j = i
        · rw [if_pos hj, hj]; simp
        · rw [if_neg hj]; simp only [decide_eq_decide]; omega
      rw [e1, e2, ho] at hp
      rw [putsL, hp]
      exact ih (i + 1) (by omega) (by rw [← List.drop_drop, hr]; rfl)
  have := go l 0 (by omega) rfl
  rw [this]
  congr 1
  rw [show (fun j => decide (j < 0)) = fun _ => false by funext j; simp]
  exact frA_none base _ vals

/-- what is asked of one operation. -/
def StepI (P : Program) (ops : Array Oper) (Q : Exit → Act → World → Prop) (_i : Nat) (o : Oper) (a : Act) (w : World) (J : Value → World → Prop) : Prop :=
  ∀ K : Act → World → Prop, (∀ v w', J v w' → K (a.put o.dst v) w') → if Region.wanted o (yielded ops a.tmps) = true then o.wp P a w K Q else K (a.put o.dst undef) w

theorem wpAny_inv {P : Program} {base : Act} {l : List Oper} {Q : Exit → Act → World → Prop} (hB : invB l.toArray base.tmps.size = true) (I : (Nat → Bool) → (Nat → Value) → World → Prop)
    (hstep : ∀ i o L vals w, l[i]? = some o → L i = false → (∀ e ∈ o.after, Region.binds .any e = true → L e.on = true) → I L vals w →
      StepI P l.toArray Q i o (frA base l.toArray L vals) w fun v w' => I (updL L i) (updV vals i v) w')
    (hend : ∀ vals w, I (fun i => decide (i < l.length)) vals w → Q .normal (putsL vals l 0 base) w) :
    ∀ (fuel : Nat) (listed : Array Bool) (L : Nat → Bool) (vals : Nat → Value) (w : World), listed.size = l.length → (∀ j, listed.getD j false = L j) → ((List.range l.length).filter fun j => !L j).length ≤ fuel → I L vals w →
      wpAny P .any l.toArray Q fuel listed (frA base l.toArray L vals) w := by
  have hready : ∀ (listed : Array Bool) (L : Nat → Bool), listed.size = l.length → (∀ j, listed.getD j false = L j) → Region.ready .any l.toArray listed = [] → L = fun i => decide (i < l.length) := by
    intro listed L hs hL hr
    have hall : ∀ n, ∀ i, i < n → i < l.length → L i = true := by
      intro n
      induction n with
      | zero => intro i h; omega
      | succ n ih =>
        intro i hi hil
        cases hLi : L i with
        | true => rfl
        | false =>
          exfalso
          have hin : i ∈ Region.ready .any l.toArray listed := by
            unfold Region.ready
            rw [List.mem_filter]
            refine ⟨List.mem_range.2 (by simpa using hil), ?_⟩
            have h1 : listed.getD i true = false := by
              have := hL i
              rw [hLi] at this
              simp only [Array.getD_eq_getD_getElem?, Array.getElem?_eq_getElem (show i < listed.size by omega), Option.getD_some] at this ⊢
              exact this
            rw [h1]
            have ho : l.toArray[i]? = some l[i] := by simp [hil]
            rw [ho]
            simp only [Bool.not_false, Bool.true_and, Option.map_some, Option.getD_some]
            rw [Array.all_eq_true_iff_forall_mem]
            intro e he
            cases hbn : Region.binds .any e with
            | false => rfl
            | true =>
              have hb := invB_back hB ho e he hbn
              rw [hL e.on, ih e.on (by omega) (by omega), Bool.or_true]
          rw [hr] at hin
          cases hin
    funext i
    by_cases hi : i < l.length
    · rw [hall (i + 1) i (by omega) hi]; simp [hi]
    · have := hL i
      rw [← this]
      simp [Array.getElem?_eq_none (show listed.size ≤ i by omega), hi]
  intro fuel
  induction fuel with
  | zero =>
    intro listed L vals w hs hL hf hI
    have hnone : ∀ j, j < l.length → L j = true := by
      intro j hj
      cases hLj : L j with
      | true => rfl
      | false =>
        exfalso
        have : j ∈ (List.range l.length).filter fun j => !L j := List.mem_filter.2 ⟨List.mem_range.2 hj, by rw [hLj]; rfl⟩
        have := List.length_pos_of_mem this
        omega
    have hLa : L = fun i => decide (i < l.length) := by
      funext i
      by_cases hi : i < l.length
      · rw [hnone i hi]; simp [hi]
      · have := hL i
        rw [← this]
        simp [Array.getElem?_eq_none (show listed.size ≤ i by omega), hi]
    refine ⟨?_, ?_⟩
    · unfold Region.ready
      rw [List.filter_eq_nil_iff]
      intro i hi
      have hi' : i < l.length := by simpa using List.mem_range.1 hi
      have h1 : listed.getD i true = true := by
        have := hL i
        rw [hnone i hi'] at this
        simp only [Array.getD_eq_getD_getElem?, Array.getElem?_eq_getElem (show i < listed.size by omega), Option.getD_some] at this ⊢
        exact this
      rw [h1]
      simp
    · rw [hLa, frA_all hB]
      exact hend vals w (hLa ▸ hI)
  | succ fuel ih =>
    intro listed L vals w hs hL hf hI
    refine ⟨fun hr => ?_, fun i hi => ?_⟩
    · have hLa := hready listed L hs hL hr
      rw [hLa, frA_all hB]
      exact hend vals w (hLa ▸ hI)
    · unfold Region.ready at hi
      rw [List.mem_filter] at hi
      obtain ⟨hi1, hi2⟩ := hi
      have hil : i < l.length := by simpa using List.mem_range.1 hi1
      have ho : l.toArray[i]? = some l[i] := by simp [hil]
      rw [ho] at hi2
      simp only [Bool.and_eq_true, Option.map_some, Option.getD_some, Bool.not_eq_true', Array.all_eq_true_iff_forall_mem] at hi2
      have hLi : L i = false := by
        rw [← hL i]
        have := hi2.1
        simp only [Array.getD_eq_getD_getElem?, Array.getElem?_eq_getElem (show i < listed.size by omega), Option.getD_some] at this ⊢
        exact this
      have hdep : ∀ e ∈ l[i].after, Region.binds .any e = true → L e.on = true := fun e he hb => by
        have := hi2.2 e he
        rw [hb, hL e.on] at this
        simpa using this
      have hst := hstep i l[i] L vals w (by simp [hil]) hLi hdep hI
      have hd : dstOf l.toArray i = l[i].dst := by unfold dstOf; rw [ho]; rfl
      have hK : ∀ v w', I (updL L i) (updV vals i v) w' → wpAny P .any l.toArray Q fuel (listed.setIfInBounds i true) ((frA base l.toArray L vals).put l[i].dst v) w' := by
        intro v w' hI'
        rw [← hd, frA_put hB hLi v]
        refine ih _ _ _ _ (by simpa using hs) (fun j => ?_) ?_ hI'
        · unfold updL
          by_cases hj : j = i
          · rw [if_pos hj, hj]
            simp [show i < listed.size by omega]
          · rw [if_neg hj, getD_set_ne _ (fun e => hj e.symm)]
            exact hL j
        · have hsub : ((List.range l.length).filter fun j => !updL L i j).length < ((List.range l.length).filter fun j => !L j).length := by
            have e : ((List.range l.length).filter fun j => !updL L i j) = ((List.range l.length).filter fun j => !L j).filter fun j => j != i := by
              rw [List.filter_filter]
              congr 1
              funext j
              unfold updL
              by_cases hj : j = i
              · simp [hj]
              · simp [hj]
            rw [e]
            refine List.length_filter_lt_length_iff_exists.2 ⟨i, List.mem_filter.2 ⟨List.mem_range.2 hil, by rw [hLi]; rfl⟩, by simp⟩
          omega
      have hgo := hst _ hK
      unfold wpOp
      rw [ho]
      simp only
      by_cases hw : Region.wanted l[i] (yielded l.toArray (frA base l.toArray L vals).tmps) = true
      · rw [if_pos hw] at hgo ⊢
        exact Or.inl hgo
      · rw [if_neg hw] at hgo ⊢
        exact hgo

theorem wp_region_inv {P : Program} {id : Nat} {a : Act} {w : World} {l : List Oper} {Q : Exit → Act → World → Prop} (hm : P.follows .mixedOrders = true) (hB : invB l.toArray a.tmps.size = true) (I : (Nat → Bool) → (Nat → Value) → World → Prop)
    (h0 : ∀ vals, I (fun _ => false) vals w.drew)
    (hstep : ∀ i o L vals w, l[i]? = some o → L i = false → (∀ e ∈ o.after, Region.binds .any e = true → L e.on = true) → I L vals w →
      StepI P l.toArray Q i o (frA a l.toArray L vals) w fun v w' => I (updL L i) (updV vals i v) w')
    (hend : ∀ vals w, I (fun i => decide (i < l.length)) vals w → Q .normal (putsL vals l 0 a) w) : (Code.region id l.toArray true).wp P Q a w := by
  refine wp_region_any hm ?_
  have := wpAny_inv hB I hstep hend l.toArray.size (Array.replicate l.toArray.size false) (fun _ => false) (fun _ => undef) w.drew (by simp) (fun j => by
    simp only [Array.getD_eq_getD_getElem?, Array.getElem?_replicate]; split <;> rfl) (by simpa using List.length_filter_le (fun j => !(fun _ => false) j) (List.range l.length)) (h0 _)
  rw [frA_none] at this
  exact this

/-- .. where what has run has all behind it that it waited for. -/
def Closed (l : List Oper) (L : Nat → Bool) : Prop := ∀ j o, l[j]? = some o → L j = true → ∀ e ∈ o.after, Region.binds .any e = true → L e.on = true
theorem wp_region_invC {P : Program} {id : Nat} {a : Act} {w : World} {l : List Oper} {Q : Exit → Act → World → Prop} (hm : P.follows .mixedOrders = true) (hB : invB l.toArray a.tmps.size = true) (I : (Nat → Bool) → (Nat → Value) → World → Prop)
    (h0 : ∀ vals, I (fun _ => false) vals w.drew)
    (hstep : ∀ i o L vals w, l[i]? = some o → L i = false → (∀ e ∈ o.after, Region.binds .any e = true → L e.on = true) → Closed l L → I L vals w →
      StepI P l.toArray Q i o (frA a l.toArray L vals) w fun v w' => I (updL L i) (updV vals i v) w')
    (hend : ∀ vals w, I (fun i => decide (i < l.length)) vals w → Q .normal (putsL vals l 0 a) w) : (Code.region id l.toArray true).wp P Q a w := by
  refine wp_region_inv hm hB (fun L vals w => Closed l L ∧ I L vals w) (fun vals => ⟨fun j o _ h => (by cases h), h0 vals⟩) (fun i o L vals w hi hL hdep hI K hK => ?_) (fun vals w hI => hend vals w hI.2)
  refine hstep i o L vals w hi hL hdep hI.1 hI.2 K fun v w' hJ => hK v w' ⟨fun j o' hj hLj e he hb => ?_, hJ⟩
  unfold updL at hLj ⊢
  by_cases h1 : e.on = i
  · rw [if_pos h1]
  · rw [if_neg h1]
    by_cases h2 : j = i
    · subst h2
      rw [hi] at hj
      injection hj with hj
      subst hj
      exact hdep e he hb
    · rw [if_neg h2] at hLj
      exact hI.1 j o' hj hLj e he hb

/-- an operation that yields by itself. -/
theorem step_run {P : Program} {ops : Array Oper} {Q : Exit → Act → World → Prop} {i : Nat} {o : Oper} {a : Act} {w w' : World} {J : Value → World → Prop} {v : Value} (hg : o.guard = none)
    (hr : (execOp a.eval o).run P w = .ok (.value v) w') (hJ : J v w') : StepI P ops Q i o a w J := by
  intro K hK
  have hw : Region.wanted o (yielded ops a.tmps) = true := by simp [Region.wanted, hg]
  rw [if_pos hw]
  unfold Oper.wp
  rw [hr]
  exact hK v w' hJ
/-- an operation that yields nothing (a store). -/
theorem stepI_skip {P : Program} {ops : Array Oper} {Q : Exit → Act → World → Prop} {i : Nat} {o : Oper} {a : Act} {w w' : World} {J : Value → World → Prop} (hg : o.guard = none)
    (hr : (execOp a.eval o).run P w = .ok .skip w') (hJ : J undef w') : StepI P ops Q i o a w J := by
  intro K hK
  have hw : Region.wanted o (yielded ops a.tmps) = true := by simp [Region.wanted, hg]
  rw [if_pos hw]
  unfold Oper.wp
  rw [hr]
  exact hK undef w' hJ
/-- an operation that calls a Go function. -/
theorem step_enter {P : Program} {ops : Array Oper} {Q : Exit → Act → World → Prop} {i : Nat} {o : Oper} {a : Act} {w w' : World} {J : Value → World → Prop} {f : FuncId} {args : Array Value} (hg : o.guard = none)
    (hr : (execOp a.eval o).run P w = .ok (.enter f args) w') (hC : Calls P f args w' fun e w'' => ∃ v, e = .returned v ∧ J v w'') : StepI P ops Q i o a w J := by
  intro K hK
  have hw : Region.wanted o (yielded ops a.tmps) = true := by simp [Region.wanted, hg]
  rw [if_pos hw]
  unfold Oper.wp
  rw [hr]
  refine hC.mono ?_
  rintro e w'' ⟨v, rfl, hJ⟩
  exact hK v w'' hJ
#print axioms wp_region_inv
end Go.Gz
namespace Go.Gz
open Go.RowKit

/-- all is as it was but for the blocks of F, and new ones. -/
structure KeptF (F : Nat → Prop) (w w' : World) : Prop where
  os : w'.os = w.os
  tape : w'.tape = w.tape
  output : w'.output = w.output
  size : w.heap.size ≤ w'.heap.size
  block : ∀ k, k < w.heap.size → ¬ F k → w'.heap[k]? = w.heap[k]?
theorem KeptF.refl (F : Nat → Prop) (w : World) : KeptF F w w := ⟨rfl, rfl, rfl, Nat.le_refl _, fun _ _ _ => rfl⟩
theorem KeptF.trans {F G : Nat → Prop} {a b c : World} (h : KeptF F a b) (k : KeptF G b c) (hG : ∀ i, i < a.heap.size → G i → F i) : KeptF F a c :=
  ⟨k.os.trans h.os, k.tape.trans h.tape, k.output.trans h.output, Nat.le_trans h.size k.size, fun i hi hF => (k.block i (by have := h.size; omega) fun e => hF (hG i hi e)).trans (h.block i hi hF)⟩
theorem KeptF.drew {F : Nat → Prop} {a w : World} (h : KeptF F a w) : KeptF F a w.drew := ⟨h.os, h.tape, h.output, h.size, h.block⟩
theorem KeptF.drewN {F : Nat → Prop} {a w : World} (h : KeptF F a w) (n : Nat) : KeptF F a (w.drewN n) := ⟨h.os, h.tape, h.output, h.size, h.block⟩
theorem KeptF.alloc {F : Nat → Prop} {a w : World} (h : KeptF F a w) (o : Obj) : KeptF F a (w.alloc o) :=
  ⟨h.os, h.tape, h.output, by have := h.size; simp; omega, fun k hk hn => (Below.heap_alloc _ _ _ (by have := h.size; omega)).trans (h.block k hk hn)⟩
theorem KeptF.set {F : Nat → Prop} {a w : World} (h : KeptF F a w) {p : Addr} (hp : F p.block) (u : Value) : KeptF F a (w.setCell p u) :=
  ⟨h.os, h.tape, h.output, by have := h.size; simp [World.setCell]; exact this, fun k hk hn => (Below.heap_setCell _ _ _ _ (fun e => hn (by rw [e]; exact hp))).trans (h.block k hk hn)⟩
theorem KeptF.cell {F : Nat → Prop} {w w' : World} (h : KeptF F w w') {p : Addr} (hb : p.block < w.heap.size) (hF : ¬ F p.block) : w'.cell? p = w.cell? p := World.cell?_of_block (w := w) (h.block p.block hb hF)
theorem KeptF.of_below {F : Nat → Prop} {w w' : World} (h : Below w.heap.size w w') : KeptF F w w' := ⟨h.os, h.tape, h.output, h.size, fun k hk _ => h.block k hk⟩
theorem KeptF.grown {F : Nat → Prop} {w w' : World} {row : Option Nat} (h : w.grownBy w' row) (hF : ∀ g, row = some g → F g) : KeptF F w w' :=
  ⟨h.os, h.tape, h.output, h.size, fun k hk hn => h.block k hk fun e => hn (hF k e.symm)⟩
theorem KeptF.below {F : Nat → Prop} {B : Nat} {w w' : World} (h : KeptF F w w') (hF : ∀ k, F k → B ≤ k) (hB : B ≤ w.heap.size) : Below B w w' :=
  ⟨h.os, h.tape, h.output, h.size, fun k hk => h.block k (by omega) fun e => by have := hF k e; omega⟩

theorem alloc_at (w : World) (x : Obj) : (w.alloc x).heap[w.heap.size]? = some x := by show (w.heap.push x)[w.heap.size]? = _; simp

/-- a kind of struct: its cells. -/
structure SK (α : Type) where
  cf : α → List Value
  n : Nat
  len : ∀ x, (cf x).length = n
  one : ∀ x, ∀ u ∈ cf x, u.oneCell' = true
  pos : 0 < n
section
variable {α : Type} {K : SK α}
def SK.flat (K : SK α) (L : List α) : List Value := L.flatMap K.cf
theorem SK.flat_len (K : SK α) (L : List α) : (K.flat L).length = L.length * K.n := by
  induction L with
  | nil => simp [SK.flat]
  | cons e t ih =>
    show (K.cf e ++ K.flat t).length = _
    rw [List.length_append, ih, List.length_cons, K.len, Nat.add_mul]
    omega
theorem SK.flat_app (K : SK α) (L M : List α) : K.flat (L ++ M) = K.flat L ++ K.flat M := by simp [SK.flat]
theorem SK.flat_at [Inhabited α] (K : SK α) (L : List α) : ∀ j, j < L.length → ∀ i, i < K.n → (K.flat L)[j * K.n + i]? = (K.cf (L.getD j default))[i]? := by
  induction L with
  | nil => intro j hj; simp at hj
  | cons e t ih =>
    intro j hj i hi
    show (K.cf e ++ K.flat t)[j * K.n + i]? = _
    have hl := K.len e
    cases j with
    | zero => rw [List.getElem?_append_left (by omega)]; simp
    | succ j =>
      rw [Nat.add_mul, List.getElem?_append_right (by omega), show j * K.n + 1 * K.n + i - (K.cf e).length = j * K.n + i by omega, ih j (by simpa using hj) i hi]
      simp
theorem SK.flat_one (K : SK α) (L : List α) : ∀ u ∈ K.flat L, u.oneCell' = true := by
  intro u hu
  obtain ⟨e, _, hu⟩ := List.mem_flatMap.1 hu
  exact K.one e u hu

/-- slice pointer p reads in w as the structs L. -/
def RowK [Inhabited α] (K : SK α) (w : World) (p : Option Addr) (L : List α) : Prop :=
  L = [] ∨ ∃ b off, p = some ⟨b, off, none⟩ ∧ b < w.heap.size ∧ ∀ j, j < L.length → ∀ i, i < K.n → w.cell? ⟨b, off + j * K.n + i, none⟩ = (K.cf (L.getD j default))[i]?
variable {w w' W wr : World} {p : Option Addr} {L M : List α} {b off B : Nat}
theorem RowK.empty [Inhabited α] (K : SK α) (w : World) (p : Option Addr) : RowK K w p [] := Or.inl rfl
theorem RowK.below [Inhabited α] (h : RowK K w p L) (hb : Below w.heap.size w w') : RowK K w' p L := by
  rcases h with h | ⟨b, off, hp, hlt, hc⟩
  · exact Or.inl h
  · exact Or.inr ⟨b, off, hp, Nat.lt_of_lt_of_le hlt hb.size, fun j hj i hi => by rw [hb.cell (p := ⟨b, off + j * K.n + i, none⟩) hlt]; exact hc j hj i hi⟩
theorem RowK.kept [Inhabited α] {F : Nat → Prop} (h : RowK K w p L) (hk : KeptF F w w') (hF : ∀ a, p = some a → ¬ F a.block) : RowK K w' p L := by
  rcases h with h | ⟨b, off, hp, hlt, hc⟩
  · exact Or.inl h
  · exact Or.inr ⟨b, off, hp, Nat.lt_of_lt_of_le hlt hk.size, fun j hj i hi => by rw [World.cell?_of_block (w := w) (a := ⟨b, off + j * K.n + i, none⟩) (hk.block b hlt (hF _ hp))]; exact hc j hj i hi⟩
theorem RowK.cells [Inhabited α] (h : RowK K W p L) (hb : Below W.heap.size W wr) {j : Nat} (hj : j < L.length) : ∃ b o, p = some ⟨b, o, none⟩ ∧ b < W.heap.size ∧ ∀ i, i < K.n → wr.cell? ⟨b, o + j * K.n + i, none⟩ = (K.cf (L.getD j default))[i]? := by
  rcases h with h | ⟨b, o, hp, h1, h2⟩
  · rw [h] at hj; simp at hj
  · exact ⟨b, o, hp, h1, fun i hi => by rw [hb.cell (p := ⟨b, o + j * K.n + i, none⟩) h1]; exact h2 j hj i hi⟩
theorem RowK.nil_of [Inhabited α] (h : RowK K w none L) : L = [] := by
  rcases h with h | ⟨b, off, hp, _⟩
  · exact h
  · cases hp
theorem RowK.flat [Inhabited α] (h : RowK K w (some ⟨b, off, none⟩) L) : ∀ j u, (K.flat L)[j]? = some u → w.cell? ((⟨b, off, none⟩ : Addr).add j) = some u := by
  intro j u hj
  have hl := (List.getElem?_eq_some_iff.1 hj).1
  rw [K.flat_len] at hl
  have hn := K.pos
  have hjn : j / K.n < L.length := (Nat.div_lt_iff_lt_mul hn).2 hl
  have hjm : j % K.n < K.n := Nat.mod_lt _ hn
  have hdm : j / K.n * K.n + j % K.n = j := by rw [Nat.mul_comm]; exact Nat.div_add_mod j K.n
  rcases h with h | ⟨b', off', hp, _, hc⟩
  · rw [h] at hl; simp at hl
  · injection hp with hp
    injection hp with h1 h2 _
    subst h1 h2
    have e := hc (j / K.n) hjn (j % K.n) hjm
    rw [← K.flat_at L (j / K.n) hjn (j % K.n) hjm, hdm, hj] at e
    rw [Addr.add_lit]
    rw [← e, Nat.add_assoc, hdm]
theorem RowK.take [Inhabited α] (h : RowK K w p L) (k : Nat) : RowK K w p (L.take k) := by
  rcases h with h | ⟨b, off, hp, hlt, hc⟩
  · exact Or.inl (by rw [h, List.take_nil])
  · refine Or.inr ⟨b, off, hp, hlt, fun j hj i hi => ?_⟩
    rw [List.length_take] at hj
    rw [hc j (by omega) i hi]
    simp [List.getD, show j < k by omega]
theorem RowK.drop [Inhabited α] (h : RowK K w (some ⟨b, off, none⟩) L) (k : Nat) : RowK K w (some ⟨b, off + k * K.n, none⟩) (L.drop k) := by
  rcases h with h | ⟨b', off', hp, hlt, hc⟩
  · exact Or.inl (by rw [h, List.drop_nil])
  · injection hp with hp
    injection hp with h1 h2 _
    subst h1 h2
    refine Or.inr ⟨b, off + k * K.n, rfl, hlt, fun j hj i hi => ?_⟩
    rw [List.length_drop] at hj
    rw [show off + k * K.n + j * K.n + i = off + (k + j) * K.n + i by rw [Nat.add_mul]; omega, hc (k + j) (by omega) i hi]
    simp [List.getD]
/-- the structs that a block holds. -/
theorem RowK.block [Inhabited α] {t : TypeId} {fz : Nat × Nat} (K : SK α) (h : w.heap[b]? = some (.cells (K.flat L).toArray t fz)) : RowK K w (some ⟨b, 0, none⟩) L := by
  refine Or.inr ⟨b, 0, rfl, (Array.getElem?_eq_some_iff.1 h).1, fun j hj i hi => ?_⟩
  simp only [World.cell?, h, Nat.zero_add, List.getElem?_toArray]
  exact K.flat_at L j hj i hi

/-- v is a row of structs that the call owns. -/
def OwnK (K : SK α) (w : World) (B : Nat) (t : TypeId) (v : Value) (L : List α) : Prop := w.ownsRow B t K.n v L.length (K.flat L)
variable {t T : TypeId} {v : Value}
theorem OwnK.nil (K : SK α) (w : World) (B : Nat) (t : TypeId) : OwnK K w B t (.slice none 0 0) [] := World.ownsRow_nil w B t K.n
theorem OwnK.row [Inhabited α] (h : OwnK K w B t v L) : ∃ p c, v = .slice p L.length c ∧ L.length ≤ c ∧ (p = none → c = 0) ∧ RowK K w p L ∧ (∀ a, p = some a → ∃ g, a = ⟨g, 0, none⟩ ∧ B ≤ g ∧ g < w.heap.size) := by
  obtain ⟨h1, ⟨rfl, h0⟩ | ⟨g, cap, cur, rfl, hg, hh, hc, hm, hs, ht⟩⟩ := h
  · have : L = [] := List.eq_nil_of_length_eq_zero h0
    subst this
    exact ⟨none, 0, rfl, Nat.le_refl _, fun _ => rfl, Or.inl rfl, fun a h => by cases h⟩
  · have hlt := (Array.getElem?_eq_some_iff.1 hh).1
    refine ⟨_, cap, rfl, hc, (fun h => by cases h), Or.inr ⟨g, 0, rfl, hlt, fun j hj i hi => ?_⟩, fun a ha => ⟨g, by injection ha with ha; exact ha.symm, hg, hlt⟩⟩
    have hb : j * K.n + i < L.length * K.n := by
      have : (j + 1) * K.n ≤ L.length * K.n := Nat.mul_le_mul_right _ hj
      rw [Nat.add_mul] at this
      omega
    rw [← K.flat_at L j hj i hi, ← ht, List.getElem?_take, if_pos hb, Array.getElem?_toList]
    simp [World.cell?, hh]
theorem OwnK.ltB (h : OwnK K w B t v L) : ∀ g, v.ownBlock = some g → B ≤ g ∧ g < w.heap.size := fun g hg => World.ownsRow.lt h g hg
theorem OwnK.type (h : OwnK K w B t v L) : ∀ g, v.ownBlock = some g → ∃ cs fz, w.heap[g]? = some (.cells cs t fz) := by
  intro g hg
  obtain ⟨_, ⟨rfl, _⟩ | ⟨g', cap, cur, rfl, _, hh, _⟩⟩ := h
  · cases hg
  · simp only [Value.ownBlock, Option.some.injEq] at hg
    subst hg
    exact ⟨cur, _, hh⟩
theorem OwnK.alloc (h : OwnK K w B t v L) (o : Obj) : OwnK K (w.alloc o) B t v L := World.ownsRow.alloc h o
theorem OwnK.drewN (h : OwnK K w B t v L) (n : Nat) : OwnK K (w.drewN n) B t v L := h
theorem OwnK.mono {B' : Nat} (h : OwnK K w B t v L) (hB : B' ≤ B) : OwnK K w B' t v L := by
  obtain ⟨h1, h2⟩ := h
  refine ⟨h1, ?_⟩
  rcases h2 with h2 | ⟨g, cap, cur, e, hg, r⟩
  · exact Or.inl h2
  · exact Or.inr ⟨g, cap, cur, e, by omega, r⟩
theorem OwnK.raise {B' : Nat} (h : OwnK K w B t v L) (hB : ∀ g, v.ownBlock = some g → B' ≤ g) : OwnK K w B' t v L := by
  obtain ⟨h1, h2⟩ := h
  refine ⟨h1, ?_⟩
  rcases h2 with h2 | ⟨g, cap, cur, e, hg, r⟩
  · exact Or.inl h2
  · exact Or.inr ⟨g, cap, cur, e, hB g (by rw [e]; rfl), r⟩
theorem OwnK.kept {F : Nat → Prop} (h : OwnK K w B t v L) (hk : KeptF F w w') (hF : ∀ g, v.ownBlock = some g → ¬ F g) : OwnK K w' B t v L := by
  obtain ⟨h1, h2⟩ := h
  refine ⟨h1, ?_⟩
  rcases h2 with h2 | ⟨g, cap, cur, e, hg, hh, r⟩
  · exact Or.inl h2
  · exact Or.inr ⟨g, cap, cur, e, hg, by rw [hk.block g (Array.getElem?_eq_some_iff.1 hh).1 (hF g (by rw [e]; rfl))]; exact hh, r⟩
theorem OwnK.below (h : OwnK K w B t v L) (hb : Below w.heap.size w w') : OwnK K w' B t v L := h.kept (KeptF.of_below hb (F := fun _ => False)) fun _ _ e => e
theorem OwnK.grown {row : Option Nat} (h : OwnK K w B t v L) (hg : w.grownBy w' row) (hr : ∀ g, v.ownBlock = some g → row ≠ some g) : OwnK K w' B t v L :=
  h.kept (KeptF.grown (F := fun k => row = some k) hg fun _ e => e) fun g e f => hr g e f
theorem OwnK.setCell (h : OwnK K w B t v L) {a : Addr} (ha : v.ownBlock ≠ some a.block) (u : Value) : OwnK K (w.setCell a u) B t v L :=
  h.kept (F := fun k => k = a.block) ⟨rfl, rfl, rfl, by simp [World.setCell], fun k _ hn => Below.heap_setCell _ _ _ _ hn⟩ fun g e f => ha (by rw [e, f])

/-- what the program says of the kind: its type, the type of slices of it. -/
structure SKT (P : Program) (K : SK α) (t T : TypeId) (z : Value) (bytes : Nat) : Prop where
  sl : P.underlying T = some (.slice t)
  info : (P.info? t).map (fun i => (i.zero, i.size, i.bytes)) = some (some z, K.n, bytes)
  zn : z.cells.size = K.n
  by_ : bytes ≤ 1000
variable {P : Program} {z : Value} {bytes : Nat}
/-- append of a row of structs, run. -/
theorem run_app_k [Inhabited α] (ET : SKT P K t T z bytes) (ty : TypeId) (h : OwnK K w B t v L) (p : Option Addr) (c : Nat) (M : List α) (hrow : RowK K w p M) (hpc : p = none → c = 0) (hlen : L.length + M.length ≤ 100000000) (hB : B ≤ w.heap.size) :
    ∃ v' w', (Builtin.append_ #[T, T] ty #[v, .slice p M.length c]).run P w = .ok v' w' ∧ OwnK K w' B t v' (L ++ M) ∧ w.grownBy w' v.ownBlock ∧ (v'.ownBlock = v.ownBlock ∨ v'.ownBlock = some w.heap.size) := by
  obtain ⟨i0, hi, hz0, hz1, hz2⟩ := info_parts ET.info
  cases p with
  | none =>
    obtain rfl := hrow.nil_of
    obtain rfl := hpc rfl
    have hrun := run_append_owned_none (P := P) (w := w) B T ty t i0 K.n ET.sl hi v L.length (K.flat L) h
    exact ⟨v, w, hrun, by rw [List.append_nil]; exact h, World.grownBy.refl _ _, Or.inl rfl⟩
  | some ad =>
    have hpt : M ≠ [] → ∃ b off, ad = ⟨b, off, none⟩ := fun hne => by
      rcases hrow with h | ⟨b, off, hp, _⟩
      · exact absurd h hne
      · injection hp with hp; exact ⟨b, off, hp⟩
    have hby := ET.by_
    obtain ⟨v', w', hr, h2, h3, _, h5⟩ := run_append_own_at (P := P) (w := w) B T ty t i0 z K.n bytes ET.sl hi hz0 hz1 hz2 ET.zn K.pos v L.length (K.flat L) h ad M.length c (K.flat M) (K.flat_len M) (by
      intro j u hj
      have hne : M ≠ [] := fun e => by rw [e] at hj; simp [SK.flat] at hj
      obtain ⟨b, off, rfl⟩ := hpt hne
      exact hrow.flat j u hj) (K.flat_one M) (by unfold maxLen; omega) (Nat.le_trans (Nat.mul_le_mul hlen hby) (by decide)) hB
    refine ⟨v', w', hr, ?_, h3, h5⟩
    unfold OwnK
    rw [List.length_append, K.flat_app]
    exact h2
theorem wpList_app_k [Inhabited α] (ET : SKT P K t T z bytes) {ops : Array Oper} {rest : List Oper} {o : Oper} {a : Act} {Q : Exit → Act → World → Prop}
    (hg : o.guard = none) (s x : Operand) (hop : o.op = Op.call { callee := Callee.builtin Builtin.append, args := #[s, x], argTypes := #[T, T] })
    (hs : a.eval s = v) (h : OwnK K w B t v L) (p : Option Addr) (c : Nat) (M : List α) (hx : a.eval x = .slice p M.length c) (hrow : RowK K w p M) (hpc : p = none → c = 0) (hlen : L.length + M.length ≤ 100000000) (hB : B ≤ w.heap.size)
    (hK : ∀ v' w', OwnK K w' B t v' (L ++ M) → w.grownBy w' v.ownBlock → (v'.ownBlock = v.ownBlock ∨ v'.ownBlock = some w.heap.size) → wpList P ops Q rest (a.put o.dst v') w') :
    wpList P ops Q (o :: rest) a w := by
  obtain ⟨v', w', hr, h2, h3, h4⟩ := run_app_k ET o.type h p c M hrow hpc hlen hB
  refine wpList_plain hg fun K' hK' => ?_
  unfold Oper.wp
  simp only [execOp, hop, resolve, invoke, builtin, Sem.run_bind, Sem.run_pure, Result.andThen_ok, List.map_toArray, List.map_cons, List.map_nil, hs, hx, hr]
  exact hK' _ _ (hK v' w' h2 h3 h4)
theorem step_app_k [Inhabited α] (ET : SKT P K t T z bytes) {ops : Array Oper} {o : Oper} {a : Act} {K' : Act → World → Prop} {Q : Exit → Act → World → Prop} {E : Prop} (hg : o.guard = none) (s x : Operand)
    (hop : o.op = Op.call { callee := Callee.builtin Builtin.append, args := #[s, x], argTypes := #[T, T] })
    (hs : a.eval s = v) (h : OwnK K w B t v L) (p : Option Addr) (c : Nat) (M : List α) (hx : a.eval x = .slice p M.length c) (hrow : RowK K w p M) (hpc : p = none → c = 0) (hlen : L.length + M.length ≤ 100000000) (hB : B ≤ w.heap.size)
    (hK : ∀ v' w', OwnK K w' B t v' (L ++ M) → w.grownBy w' v.ownBlock → (v'.ownBlock = v.ownBlock ∨ v'.ownBlock = some w.heap.size) → K' (a.put o.dst v') w') :
    if Region.wanted o (yielded ops a.tmps) = true then Oper.wp P o a w K' Q else E := by
  have hw : Region.wanted o (yielded ops a.tmps) = true := by simp [Region.wanted, hg]
  rw [if_pos hw]
  obtain ⟨v', w', hr, h2, h3, h4⟩ := run_app_k ET o.type h p c M hrow hpc hlen hB
  unfold Oper.wp execOp
  simp only [hop, resolve, invoke, builtin, Sem.run_bind, Sem.run_pure, Result.andThen_ok, List.map_toArray, List.map_cons, List.map_nil, hs, hx, hr]
  exact hK _ _ h2 h3 h4
theorem stepI_app_k [Inhabited α] (ET : SKT P K t T z bytes) {ops : Array Oper} {Q : Exit → Act → World → Prop} {i : Nat} {o : Oper} {a : Act} {J : Value → World → Prop} (hgd : o.guard = none) (s x : Operand)
    (hop : o.op = Op.call { callee := Callee.builtin Builtin.append, args := #[s, x], argTypes := #[T, T] })
    (hs : a.eval s = v) (h : OwnK K w B t v L) (p : Option Addr) (c : Nat) (M : List α) (hx : a.eval x = .slice p M.length c) (hrow : RowK K w p M) (hpc : p = none → c = 0) (hlen : L.length + M.length ≤ 100000000) (hB : B ≤ w.heap.size)
    (hJ : ∀ v' w', OwnK K w' B t v' (L ++ M) → w.grownBy w' v.ownBlock → (v'.ownBlock = v.ownBlock ∨ v'.ownBlock = some w.heap.size) → J v' w') : StepI P ops Q i o a w J := by
  obtain ⟨v', w', hr, h2, h3, h4⟩ := run_app_k ET o.type h p c M hrow hpc hlen hB
  refine step_run hgd (v := v') (w' := w') ?_ (hJ v' w' h2 h3 h4)
  simp only [execOp, hop, resolve, invoke, builtin, Sem.run_bind, Sem.run_pure, Result.andThen_ok, List.map_toArray, List.map_cons, List.map_nil, hs, hx, hr]
end
end Go.Gz
