/-
  Layer parcel: ReadPart, of an ask and of a reply.
-/
import Derived.Test.YtfadpiipigkocaaMg06
import Derived.Test.YtfadpiipigkocaaMg19
import Derived.Deep.WholeRow
import Derived.Deep.DeepCutAuto
import Derived.Deep.CutRange
import Derived.Laws.EntriesVeiled
import Derived.WalkSpells
namespace Go.Proofs.Ytfadpiipigkocaa
open Go.RowKit

theorem part_seq {α : Type} (M : Nat) (C : Codec α) (st : St) : rdR (C.part M) st = match rdR textC st with
    | .error e => .error e
    | .ok r => match rdPart M C (rdV textC [] st) with
      | .error e => .error e
      | .ok _ => .ok r := by
  cases st with
  | error e => rfl
  | ok b =>
    cases h : textC.dec b with
    | error e =>
      have h' : (C.part M).dec b = .error e := by show decPart M C b = _; unfold decPart; rw [show decT b = .error e from h]
      rw [rdR_no h', rdR_no h]
    | ok x =>
      obtain ⟨t, r⟩ := x
      rw [rdR_ok h, rdV_ok h]
      simp only
      cases hp : rdPart M C t with
      | error e =>
        have h' : (C.part M).dec b = .error e := by show decPart M C b = _; unfold decPart; rw [show decT b = .ok (t, r) from h]; simp only; rw [hp]
        rw [rdR_no h']
      | ok y =>
        have h' : (C.part M).dec b = .ok (y, r) := by show decPart M C b = _; unfold decPart; rw [show decT b = .ok (t, r) from h]; simp only; rw [hp]
        rw [rdR_ok h']
theorem part_val {α : Type} (M : Nat) (C : Codec α) (d : α) (st : St) {s : List UInt8} (hs : rdR (C.part M) st = .ok s) : rdPart M C (rdV textC [] st) = .ok (rdV (C.part M) d st) := by
  cases st with
  | error e => cases hs
  | ok b =>
    cases h : textC.dec b with
    | error e =>
      have h' : (C.part M).dec b = .error e := by show decPart M C b = _; unfold decPart; rw [show decT b = .error e from h]
      rw [rdR_no h'] at hs; cases hs
    | ok x =>
      obtain ⟨t, r⟩ := x
      rw [rdV_ok h]
      cases hp : rdPart M C t with
      | error e =>
        have h' : (C.part M).dec b = .error e := by show decPart M C b = _; unfold decPart; rw [show decT b = .ok (t, r) from h]; simp only; rw [hp]
        rw [rdR_no h'] at hs; cases hs
      | ok y =>
        have h' : (C.part M).dec b = .ok (y, r) := by show decPart M C b = _; unfold decPart; rw [show decT b = .ok (t, r) from h]; simp only; rw [hp]
        rw [rdV_ok h']
theorem rest_part {α : Type} (M : Nat) (C : Codec α) (st : St) : (restS (rdR (C.part M) st)).length ≤ (restS st).length := by
  have h := rest_text st
  rw [part_seq]
  cases hr : rdR textC st with
  | error e => exact Nat.zero_le _
  | ok r =>
    rw [hr] at h
    simp only
    cases rdPart M C (rdV textC [] st) with
    | error e => exact Nat.zero_le _
    | ok x => exact h
theorem setRow_other {w : World} {g k : Nat} {cs : Array Value} (h : k ≠ g) : (w.setRow g cs).heap[k]? = w.heap[k]? := by
  simp only [World.setRow, Array.getElem?_modify, if_neg (Ne.symm h)]
theorem below_setRow {B g : Nat} {w0 w : World} {cs : Array Value} (h : Below B w0 w) (hg : B ≤ g) : Below B w0 (w.setRow g cs) :=
  ⟨h.os, h.tape, h.output, by rw [size_setRow]; exact h.size, fun k hk => by rw [setRow_other (by omega)]; exact h.block k hk⟩
theorem Recs.move {w w' : World} {p : Option Addr} {ls : List RecL} (h : Recs w p ls) (hs : w.heap.size ≤ w'.heap.size) (hk : ∀ b off, p = some ⟨b, off, none⟩ → b < w.heap.size → w'.heap[b]? = w.heap[b]?) : Recs w' p ls := by
  rcases h with h | ⟨b, off, hp, hlt, hc⟩
  · exact Or.inl h
  · have hb := hk b off hp hlt
    exact Or.inr ⟨b, off, hp, Nat.lt_of_lt_of_le hlt hs, fun j hj => ⟨by rw [World.cell?_of_block (w := w) (a := ⟨b, off + j * 2, none⟩) hb]; exact (hc j hj).1, by rw [World.cell?_of_block (w := w) (a := ⟨b, off + j * 2 + 1, none⟩) hb]; exact (hc j hj).2⟩⟩
theorem RecN.move {w w' : World} {B B' : Nat} {p : Option Addr} (h : RecN B w p) (hB : B' ≤ B) (hk : ∀ b off, p = some ⟨b, off, none⟩ → b < w.heap.size → w'.heap[b]? = w.heap[b]?) : RecN B' w' p := fun b off hp => by
  obtain ⟨h1, cs, fz, h2⟩ := h b off hp
  exact ⟨by omega, cs, fz, by rw [hk b off hp (Array.getElem?_eq_some_iff.1 h2).1]; exact h2⟩
theorem rdPart_ne {α : Type} {C : Codec α} {M e : Nat} {t : List UInt8} (hC : ∀ b, C.dec b ≠ .error 0) (h : rdPart M C t = .error e) : e ≠ 0 := by
  unfold rdPart at h
  by_cases hM : M < t.length
  · rw [if_pos hM] at h; injection h with h; omega
  · rw [if_neg hM] at h
    unfold readL at h
    cases hd : C.dec t with
    | error e' =>
      rw [hd] at h
      injection h with h
      subst h
      intro e0
      subst e0
      exact hC t hd
    | ok x =>
      obtain ⟨x, r⟩ := x
      rw [hd] at h
      simp only at h
      by_cases hr : r = []
      · rw [if_pos hr] at h; cases h
      · rw [if_neg hr] at h; injection h with h; omega
theorem errX_part {α : Type} (C : Codec α) (t : List UInt8) : (if 32768 < t.length then 3 else errX (readL C t)) = errX (rdPart 32768 C t) := by
  unfold rdPart
  by_cases h : 32768 < t.length
  · rw [if_pos h, if_pos h]; rfl
  · rw [if_neg h, if_neg h]
theorem infoAsk8 : (Try.prog.info? 23).map (·.size) = some 8 := by kernel_rfl
theorem infoReply8 : (Try.prog.info? 27).map (·.size) = some 8 := by kernel_rfl
/-- a codec that does not fail with 0. -/
def NoZ {α : Type} (C : Codec α) : Prop := ∀ b, C.dec b ≠ .error 0
theorem noz_num : NoZ numC := fun b h => by
  have h : decN b = .error 0 := h
  unfold decN at h
  by_cases h4 : b.length < 4
  · rw [if_pos h4] at h; cases h
  · rw [if_neg h4] at h
    by_cases h5 : 268435456 ≤ numL (b.take 4)
    · rw [if_pos h5] at h; cases h
    · rw [if_neg h5] at h; cases h
theorem noz_text : NoZ textC := fun b h => by
  have h : decT b = .error 0 := h
  unfold decT at h
  cases hn : decN b with
  | error e => rw [hn] at h; injection h with h; subst h; exact noz_num b hn
  | ok y =>
    obtain ⟨n, s⟩ := y
    rw [hn] at h
    simp only at h
    by_cases hs : s.length < n
    · rw [if_pos hs] at h; cases h
    · rw [if_neg hs] at h; cases h
theorem noz_truth : NoZ truthC := fun b h => by
  have h : decB b = .error 0 := h
  cases b with
  | nil => cases h
  | cons y s =>
    have h : (if y = 0 then .ok (false, s) else if y = 1 then .ok (true, s) else .error 5 : Except Nat (Bool × List UInt8)) = .error 0 := h
    by_cases h0 : y = 0
    · rw [if_pos h0] at h; cases h
    · rw [if_neg h0] at h
      by_cases h1 : y = 1
      · rw [if_pos h1] at h; cases h
      · rw [if_neg h1] at h; cases h
theorem noz_pair {α β : Type} {A : Codec α} {B : Codec β} (ha : NoZ A) (hb : NoZ B) : NoZ (A.pair B) := fun b h => by
  have h : decP A B b = .error 0 := h
  unfold decP at h
  cases h1 : A.dec b with
  | error e => rw [h1] at h; injection h with h; subst h; exact ha b h1
  | ok y =>
    obtain ⟨u, s⟩ := y
    rw [h1] at h
    simp only at h
    cases h2 : B.dec s with
    | error e => rw [h2] at h; injection h with h; subst h; exact hb s h2
    | ok z => rw [h2] at h; cases h
theorem noz_rows {α : Type} {A : Codec α} (ha : NoZ A) : ∀ (n : Nat) (b : List UInt8), decR A n b ≠ .error 0
  | 0, b, h => by cases h
  | n + 1, b, h => by
    unfold decR at h
    cases h1 : A.dec b with
    | error e => rw [h1] at h; injection h with h; subst h; exact ha b h1
    | ok y =>
      obtain ⟨u, s⟩ := y
      rw [h1] at h
      simp only at h
      cases h2 : decR A n s with
      | error e => rw [h2] at h; injection h with h; subst h; exact noz_rows ha n s h2
      | ok z => rw [h2] at h; cases h
theorem noz_list {α : Type} {A : Codec α} (ha : NoZ A) : NoZ (Codec.list A) := fun b h => by
  have h : decL A b = .error 0 := h
  unfold decL at h
  cases hn : decN b with
  | error e => rw [hn] at h; injection h with h; subst h; exact noz_num b hn
  | ok y =>
    obtain ⟨n, s⟩ := y
    rw [hn] at h
    exact noz_rows ha n s h
theorem noz_part {α : Type} {A : Codec α} (M : Nat) (ha : NoZ A) : NoZ (A.part M) := fun b h => by
  have h : decPart M A b = .error 0 := h
  unfold decPart at h
  cases h1 : decT b with
  | error e => rw [h1] at h; injection h with h; subst h; exact noz_text b h1
  | ok y =>
    obtain ⟨t, s⟩ := y
    rw [h1] at h
    simp only at h
    cases h2 : rdPart M A t with
    | error e => rw [h2] at h; injection h with h; subst h; exact rdPart_ne ha h2 rfl
    | ok z => rw [h2] at h; cases h
theorem noz_ask : NoZ askC := noz_pair noz_num (noz_pair noz_num (noz_pair noz_num (noz_pair noz_num (noz_pair noz_text (noz_pair noz_text (noz_pair noz_text noz_text))))))
theorem noz_reply : NoZ replyC := noz_pair noz_num (noz_pair noz_num (noz_pair noz_num (noz_pair noz_truth (noz_pair noz_text (noz_pair (noz_list (noz_pair noz_text noz_text)) (noz_pair noz_text noz_truth))))))
def askZ0 : AskL := ⟨0, 0, 0, [], [], [], [], 0⟩

/-- what ReadPart of an ask answers. -/
def RetPtAsk (gp : Nat) (st : St) (w : World) (e : Ending) (w' : World) : Prop :=
  ∃ (a : AskL), e = .returned (askV a) ∧ RdAt w' gp (rdR (askC.part 32768) st) ∧ Chg gp w w' ∧ (∀ s, rdR (askC.part 32768) st = .ok s → a = askT (rdV (askC.part 32768) (0, 0, 0, 0, [], [], [], []) st))
set_option maxHeartbeats 4000000 in
set_option maxRecDepth 100000 in
theorem readPartAsk (w : World) (gp : Nat) (st : St) (h : RdAt w gp st) : Calls Try.prog 53 #[.pointer (some ⟨gp, 0, none⟩), .func (.func 54) #[] #[]] w (RetPtAsk gp st w) := by
  have hfn : ∀ w : World, (binOp .eql 106 (.func (.func 54) #[] #[]) .nilFunc).run Try.prog w = .ok (.bool false) w := fun _ => by kernel_rfl
  have hgl := h.lt
  obtain ⟨Z, hZ⟩ : ∃ Z : Array Value, #[.int .i64 0, .int .i64 0, .int .i64 0, .string ⟨#[]⟩, .string ⟨#[]⟩, .string ⟨#[]⟩, .string ⟨#[]⟩, .int .i64 0] = Z := ⟨_, rfl⟩
  have hZs : Z.size = 8 := by rw [← hZ]; rfl
  have hZo : Z.all (·.oneCell') = true := by rw [← hZ]; simp [Value.oneCell']
  obtain ⟨W2, hW2⟩ : ∃ W2, (w.alloc (.cells Z 23)).alloc (.cells Z 23) = W2 := ⟨_, rfl⟩
  have hb2 : Below w.heap.size w W2 := hW2 ▸ ((Below.refl _ _).alloc (Nat.le_refl _) _).alloc (by simp) _
  have hz2 : W2.heap.size = w.heap.size + 2 := by rw [← hW2]; simp
  have hA : W2.heap[w.heap.size]? = some (.cells Z 23 (0, 0)) := by
    rw [← hW2, Below.heap_alloc _ _ _ (by simp)]; exact new_block _ _ _
  have hB : W2.heap[w.heap.size + 1]? = some (.cells Z 23 (0, 0)) := by
    rw [← hW2]; have := new_block (w.alloc (.cells Z 23)) Z 23; rwa [World.size_alloc] at this
  have CT := Lib.hid (text_any W2 gp st (h.below hb2))
  have HPS := Lib.hid (part_seq 32768 askC st)
  have HPV := Lib.hid (fun s hs => part_val 32768 askC (0, 0, 0, 0, [], [], [], []) st (s := s) hs)
  obtain ⟨t, ht⟩ : ∃ t, rdV textC [] st = t := ⟨_, rfl⟩
  obtain ⟨S1, hS1⟩ : ∃ S, rdR textC st = S := ⟨_, rfl⟩
  rw [ht, hS1] at CT HPS
  rw [ht] at HPV
  have HF := Lib.hid (show ∀ (a : AskL) w', RdAt w' gp (rdR (askC.part 32768) st) → Chg gp w w' → (∀ s, rdR (askC.part 32768) st = .ok s → a = askT (rdV (askC.part 32768) (0, 0, 0, 0, [], [], [], []) st)) → RetPtAsk gp st w (.returned (askV a)) w' from fun a w' h1 h2  h5 => ⟨a, rfl, h1, h2,  h5⟩)
  obtain ⟨F, hF⟩ : ∃ F, rdR (askC.part 32768) st = F := ⟨_, rfl⟩
  obtain ⟨X, hX⟩ : ∃ X, rdV (askC.part 32768) (0, 0, 0, 0, [], [], [], []) st = X := ⟨_, rfl⟩
  rw [hF] at HPS HPV HF
  rw [hX] at HPV HF
  have H2 := Lib.hid (And.intro hb2 (And.intro hz2 (And.intro hA hB)))
  have HW2 := Lib.hid hW2
  have HG := Lib.hid hgl
  have HZ := Lib.hid hZ
  have HZO := Lib.hid hZo
  have HZI := Lib.hid (show (Try.prog.info? 23).map (·.size) = some Z.size by rw [hZs]; exact infoAsk8)
  have HZS := Lib.hid hZs
  clear h hgl hb2 hz2 hA hB hW2 ht hS1 hF hX hZ hZs hZo
  have C1 := Lib.hid (fun l p c w1 hr => readAsk_any l p c w1 hr)
  go_enter Try.func53, Try.ntmps53
  go_upto_region 2 with fail
  rw [HZ.out, HW2.out]
  go_wp2_with fail
  refine CT.out.mono ?_
  rintro e w3 ⟨rfl, hr3, hc3⟩
  have hA3 : w3.heap[w.heap.size]? = some (.cells Z 23 (0, 0)) := by rw [hc3.block _ (by rw [H2.out.2.1]; omega) (by have := HG.out; omega)]; exact H2.out.2.2.1
  have hB3 : w3.heap[w.heap.size + 1]? = some (.cells Z 23 (0, 0)) := by rw [hc3.block _ (by rw [H2.out.2.1]; omega) (by have := HG.out; omega)]; exact H2.out.2.2.2
  have hat := hr3.at_
  have c1 := cell_at hat 1
  have HA3 := Lib.hid hA3
  have HB3 := Lib.hid hB3
  have HR3 := Lib.hid hr3
  have HC3 := Lib.hid (show Chg gp w w3 from (Chg.of_below H2.out.1).trans hc3)
  have HS3 := Lib.hid (show w.heap.size + 2 ≤ w3.heap.size by have := hc3.size; rw [H2.out.2.1] at this; exact this)
  clear hA3 hB3 hat hr3 hc3 CT
  cases S1 with
  | error e0 =>
    have h0 := HR3.out.bd e0 rfl
    have h0z : ((e0 : Int) != 0) = true := by simp; omega
    simp only [errS] at c1
    have HFE := Lib.hid (show F = .error e0 from HPS.out)
    have HP := Lib.hid (HF.out askZ0 w3 (by rw [HFE.out]; exact HR3.out) HC3.out  (fun s hs => by rw [HFE.out] at hs; cases hs))
    have hq : w3.setRow w.heap.size Z = w3 := setRow_self _ _ _ _ _ HA3.out
    clear h0
    go_wp2_with (first | (with_reducible refine wpList_load_row rfl 23 (.tmp 5) rfl (w.heap.size + 1) rfl 23 Z (0, 0) _ HB3.out Try.underlying23 rfl HZI.out ?_) | (with_reducible refine wpList_store_row rfl 23 (.tmp 4) (.tmp 20) rfl w.heap.size Z rfl rfl 23 Z HA3.out HZI.out rfl HZO.out ?_))
    rw [hq]
    refine bodyPost_ret (v := .agg Z) (results_cell_row rfl _ _ w.heap.size 23 Z (0, 0) _ rfl HA3.out Try.underlying23 rfl HZI.out) rfl ?_
    rw [← HZ.out]
    exact HP.out
  | ok r =>
    simp only [errS] at c1
    obtain ⟨cap, w4, hcv, hcap, hrow, hb4⟩ := conv_bytes w3 t
    rw [strB_size] at hcv
    have CR := Lib.hid (C1.out t _ cap w4 hrow)
    have HR4 := Lib.hid (HR3.out.below hb4)
    have HC4 := Lib.hid (HC3.out.trans (Chg.of_below hb4))
    have HS4 := Lib.hid (Nat.le_trans HS3.out hb4.size)
    have HA4 := Lib.hid (show w4.heap[w.heap.size]? = some (.cells Z 23 (0, 0)) by rw [hb4.block _ (by have := HS3.out; omega)]; exact HA3.out)
    have HB4 := Lib.hid (show w4.heap[w.heap.size + 1]? = some (.cells Z 23 (0, 0)) by rw [hb4.block _ (by have := HS3.out; omega)]; exact HB3.out)
    clear hrow hb4 hcap
    generalize strB t = ts at hcv ⊢
    obtain ⟨tn, htn⟩ : ∃ n, t.length = n := ⟨_, rfl⟩
    rw [htn] at hcv CR
    clear htn
    go_wp2_with fail
    refine CR.out.mono ?_
    rintro e w5 ⟨aa, rfl, hok, hb5⟩
    have HR5 := Lib.hid (HR4.out.below hb5)
    have HC5 := Lib.hid (HC4.out.trans (Chg.of_below hb5))
    have HS5 := Lib.hid (Nat.le_trans HS4.out hb5.size)
    have HA5 := Lib.hid (show w5.heap[w.heap.size]? = some (.cells Z 23 (0, 0)) by rw [hb5.block _ (by have := HS4.out; omega)]; exact HA4.out)
    have HB5 := Lib.hid (show w5.heap[w.heap.size + 1]? = some (.cells Z 23 (0, 0)) by rw [hb5.block _ (by have := HS4.out; omega)]; exact HB4.out)
    obtain ⟨V, hV⟩ : ∃ V : Array Value, #[.int .i64 aa.d, .int .i64 aa.c, .int .i64 aa.s, .string (strB aa.t), .string (strB aa.v), .string (strB aa.f), .string (strB aa.u), .int .i64 aa.m] = V := ⟨_, rfl⟩
    have HV := Lib.hid hV
    have hVs : V.size = 8 := by rw [← hV]; rfl
    have HVI := Lib.hid (show (Try.prog.info? 23).map (·.size) = some V.size by rw [hVs]; exact infoAsk8)
    have HVO := Lib.hid (show V.all (·.oneCell') = true by rw [← hV]; simp [Value.oneCell'])
    have HVS := Lib.hid hVs
    have hve : askV aa = .agg V := by rw [← hV]; rfl
    rw [hve]
    have HVE := Lib.hid hve
    obtain ⟨W6, hW6⟩ : ∃ W6, w5.alloc (.cells V 23) = W6 := ⟨_, rfl⟩
    have HST := Lib.hid (show (w5.alloc (.cells Z 23)).heap[w5.heap.size]? = some (.cells Z 23 (0, 0)) ∧ Z.size = V.size ∧ (w5.alloc (.cells Z 23)).setRow w5.heap.size V = W6 from ⟨new_block _ _ _, by rw [HZS.out, hVs], hW6 ▸ World.setRow_alloc_new _ _ _ _⟩)
    have hb6 : Below w5.heap.size w5 W6 := hW6 ▸ (Below.refl _ _).alloc (Nat.le_refl _) _
    have HR6 := Lib.hid (HR5.out.below hb6)
    have HC6 := Lib.hid (HC5.out.trans (Chg.of_below hb6))
    have HA6 := Lib.hid (show W6.heap[w.heap.size]? = some (.cells Z 23 (0, 0)) by rw [hb6.block _ (by have := HS5.out; omega)]; exact HA5.out)
    have HB6 := Lib.hid (show W6.heap[w.heap.size + 1]? = some (.cells Z 23 (0, 0)) by rw [hb6.block _ (by have := HS5.out; omega)]; exact HB5.out)
    have HV6 := Lib.hid (show W6.heap[w5.heap.size]? = some (.cells V 23 (0, 0)) from hW6 ▸ new_block _ _ _)
    have HS6 := Lib.hid (show w5.heap.size + 1 = W6.heap.size by rw [← hW6]; simp)
    have HB56 := Lib.hid hb6
    have HOK := Lib.hid hok
    clear hok
    clear hb5 hb6 hW6 hV hVs hve hcv
    obtain ⟨E, hE⟩ : ∃ E, rdAskE t = E := ⟨_, rfl⟩
    have HEE := Lib.hid (show errX (rdPart 32768 askC t) = E from by rw [← hE]; exact (errX_part askC t).symm)
    rw [hE]
    clear hE
    go_upto_region 9 with (with_reducible refine wpList_store_row rfl 23 (.tmp 7) (.tmp 31) rfl w5.heap.size V rfl rfl 23 Z (HZ.out ▸ HST.out.1) HVI.out HST.out.2.1 HVO.out ?_)
    rw [HZ.out, HST.out.2.2]
    by_cases hE0 : E = 0
    · subst hE0
      have HP := Lib.hid (show ∃ x, rdPart 32768 askC t = .ok x from by
        cases hp : rdPart 32768 askC t with
        | ok x => exact ⟨x, rfl⟩
        | error e => exact absurd (by have := HEE.out; rw [hp] at this; exact this) (rdPart_ne noz_ask hp))
      have HFE := Lib.hid (show F = .ok r from by obtain ⟨x, hx⟩ := HP.out; have h := HPS.out; rw [hx] at h; exact h)
      have hA7 : (W6.setRow w.heap.size V).heap[w.heap.size]? = some (.cells V 23 (0, 0)) := setRow_heap _ _ _ _ _ _ HA6.out
      have HA7 := Lib.hid hA7
      have HQ := Lib.hid (HF.out aa (W6.setRow w.heap.size V) (by
          rw [HFE.out]
          exact ⟨HR6.out.bd, by rw [setRow_other (by have := HG.out; omega)]; exact HR6.out.at_⟩)
        ⟨HC6.out.os, HC6.out.tape, HC6.out.output, by rw [size_setRow]; exact HC6.out.size, fun k hk hg => by rw [setRow_other (by omega)]; exact HC6.out.block k hk hg⟩ 
        (fun s hs => by
          have hx := HPV.out s hs
          have hl : ¬ 32768 < t.length := fun hh => by unfold rdPart at hx; rw [if_pos hh] at hx; cases hx
          unfold rdPart at hx; rw [if_neg hl] at hx
          exact HOK.out _ (by omega) hx))
      clear hA7
      go_wp2_with (first | (with_reducible refine wpList_load_row rfl 23 (.tmp 7) rfl w5.heap.size rfl 23 V (0, 0) _ HV6.out Try.underlying23 rfl HVI.out ?_) | (with_reducible refine wpList_store_row rfl 23 (.tmp 4) (.tmp 39) rfl w.heap.size V rfl rfl 23 Z HA6.out HVI.out HST.out.2.1 HVO.out ?_))
      refine bodyPost_ret (v := .agg V) (results_cell_row rfl _ _ w.heap.size 23 V (0, 0) _ rfl HA7.out Try.underlying23 rfl HVI.out) rfl ?_
      rw [← HVE.out]
      exact HQ.out
    · have hEz : ((E : Int) != 0) = true := by simp; omega
      have CF := Lib.hid (fail_any W6 gp _ E hE0 HR6.out)
      have HFE := Lib.hid (show F = .error E from by
        cases hp : rdPart 32768 askC t with
        | ok x => exact absurd (by have := HEE.out; rw [hp] at this; exact this.symm) hE0
        | error e =>
          have h1 := HEE.out
          rw [hp] at h1
          have h2 := HPS.out
          rw [hp, show e = E from h1] at h2
          exact h2)
      clear hE0
      go_wp2_with fail
      refine CF.out.mono ?_
      rintro e w7 ⟨rfl, hr7, hc7⟩
      have HA7 := Lib.hid (show w7.heap[w.heap.size]? = some (.cells Z 23 (0, 0)) by rw [hc7.block _ (by have := HS6.out; have := HS5.out; omega) (by have := HG.out; omega)]; exact HA6.out)
      have HB7 := Lib.hid (show w7.heap[w.heap.size + 1]? = some (.cells Z 23 (0, 0)) by rw [hc7.block _ (by have := HS6.out; have := HS5.out; omega) (by have := HG.out; omega)]; exact HB6.out)
      have hq : w7.setRow w.heap.size Z = w7 := setRow_self _ _ _ _ _ HA7.out
      have HP := Lib.hid (HF.out askZ0 w7 (by rw [HFE.out]; exact hr7) (HC6.out.trans hc7)  (fun s hs => by rw [HFE.out] at hs; cases hs))
      clear hr7 hc7
      go_wp2_with (first | (with_reducible refine wpList_load_row rfl 23 (.tmp 5) rfl (w.heap.size + 1) rfl 23 Z (0, 0) _ HB7.out Try.underlying23 rfl HZI.out ?_) | (with_reducible refine wpList_store_row rfl 23 (.tmp 4) (.tmp 38) rfl w.heap.size Z rfl rfl 23 Z HA7.out HZI.out rfl HZO.out ?_))
      rw [hq]
      refine bodyPost_ret (v := .agg Z) (results_cell_row rfl _ _ w.heap.size 23 Z (0, 0) _ rfl HA7.out Try.underlying23 rfl HZI.out) rfl ?_
      rw [← HZ.out]
      exact HP.out

/-- what ReadPart of a reply answers. -/
def RetPtReply (gp : Nat) (st : St) (w : World) (e : Ending) (w' : World) : Prop :=
  ∃ (r : RepL) (q : Option Addr) (d : Nat), e = .returned (repV r q d) ∧ RdAt w' gp (rdR (replyC.part 32768) st) ∧ Chg gp w w' ∧ Recs w' q r.ls ∧ RecN w.heap.size w' q ∧ (∀ s, rdR (replyC.part 32768) st = .ok s → r = repT (rdV (replyC.part 32768) (0, 0, 0, false, [], [], [], false) st))
set_option maxHeartbeats 4000000 in
set_option maxRecDepth 100000 in
theorem readPartReply (w : World) (gp : Nat) (st : St) (h : RdAt w gp st) : Calls Try.prog 55 #[.pointer (some ⟨gp, 0, none⟩), .func (.func 56) #[] #[]] w (RetPtReply gp st w) := by
  have hfn : ∀ w : World, (binOp .eql 108 (.func (.func 56) #[] #[]) .nilFunc).run Try.prog w = .ok (.bool false) w := fun _ => by kernel_rfl
  have hgl := h.lt
  obtain ⟨Z, hZ⟩ : ∃ Z : Array Value, #[.int .i64 0, .int .i64 0, .int .i64 0, .bool false, .string ⟨#[]⟩, .slice none 0 0, .string ⟨#[]⟩, .bool false] = Z := ⟨_, rfl⟩
  have hZs : Z.size = 8 := by rw [← hZ]; rfl
  have hZo : Z.all (·.oneCell') = true := by rw [← hZ]; simp [Value.oneCell']
  obtain ⟨W2, hW2⟩ : ∃ W2, (w.alloc (.cells Z 27)).alloc (.cells Z 27) = W2 := ⟨_, rfl⟩
  have hb2 : Below w.heap.size w W2 := hW2 ▸ ((Below.refl _ _).alloc (Nat.le_refl _) _).alloc (by simp) _
  have hz2 : W2.heap.size = w.heap.size + 2 := by rw [← hW2]; simp
  have hA : W2.heap[w.heap.size]? = some (.cells Z 27 (0, 0)) := by
    rw [← hW2, Below.heap_alloc _ _ _ (by simp)]; exact new_block _ _ _
  have hB : W2.heap[w.heap.size + 1]? = some (.cells Z 27 (0, 0)) := by
    rw [← hW2]; have := new_block (w.alloc (.cells Z 27)) Z 27; rwa [World.size_alloc] at this
  have CT := Lib.hid (text_any W2 gp st (h.below hb2))
  have HPS := Lib.hid (part_seq 32768 replyC st)
  have HPV := Lib.hid (fun s hs => part_val 32768 replyC (0, 0, 0, false, [], [], [], false) st (s := s) hs)
  obtain ⟨t, ht⟩ : ∃ t, rdV textC [] st = t := ⟨_, rfl⟩
  obtain ⟨S1, hS1⟩ : ∃ S, rdR textC st = S := ⟨_, rfl⟩
  rw [ht, hS1] at CT HPS
  rw [ht] at HPV
  have HF := Lib.hid (show ∀ (r : RepL) (q : Option Addr) (d : Nat) w', RdAt w' gp (rdR (replyC.part 32768) st) → Chg gp w w' → Recs w' q r.ls → RecN w.heap.size w' q → (∀ s, rdR (replyC.part 32768) st = .ok s → r = repT (rdV (replyC.part 32768) (0, 0, 0, false, [], [], [], false) st)) → RetPtReply gp st w (.returned (repV r q d)) w' from fun r q d w' h1 h2 h3 h4 h5 => ⟨r, q, d, rfl, h1, h2, h3, h4, h5⟩)
  obtain ⟨F, hF⟩ : ∃ F, rdR (replyC.part 32768) st = F := ⟨_, rfl⟩
  obtain ⟨X, hX⟩ : ∃ X, rdV (replyC.part 32768) (0, 0, 0, false, [], [], [], false) st = X := ⟨_, rfl⟩
  rw [hF] at HPS HPV HF
  rw [hX] at HPV HF
  have H2 := Lib.hid (And.intro hb2 (And.intro hz2 (And.intro hA hB)))
  have HW2 := Lib.hid hW2
  have HG := Lib.hid hgl
  have HZ := Lib.hid hZ
  have HZO := Lib.hid hZo
  have HZI := Lib.hid (show (Try.prog.info? 27).map (·.size) = some Z.size by rw [hZs]; exact infoReply8)
  have HZS := Lib.hid hZs
  clear h hgl hb2 hz2 hA hB hW2 ht hS1 hF hX hZ hZs hZo
  have C1 := Lib.hid (fun l p c w1 hr => readReplyN_any l p c w1 hr)
  go_enter Try.func55, Try.ntmps55
  go_upto_region 2 with fail
  rw [HZ.out, HW2.out]
  go_wp2_with fail
  refine CT.out.mono ?_
  rintro e w3 ⟨rfl, hr3, hc3⟩
  have hA3 : w3.heap[w.heap.size]? = some (.cells Z 27 (0, 0)) := by rw [hc3.block _ (by rw [H2.out.2.1]; omega) (by have := HG.out; omega)]; exact H2.out.2.2.1
  have hB3 : w3.heap[w.heap.size + 1]? = some (.cells Z 27 (0, 0)) := by rw [hc3.block _ (by rw [H2.out.2.1]; omega) (by have := HG.out; omega)]; exact H2.out.2.2.2
  have hat := hr3.at_
  have c1 := cell_at hat 1
  have HA3 := Lib.hid hA3
  have HB3 := Lib.hid hB3
  have HR3 := Lib.hid hr3
  have HC3 := Lib.hid (show Chg gp w w3 from (Chg.of_below H2.out.1).trans hc3)
  have HS3 := Lib.hid (show w.heap.size + 2 ≤ w3.heap.size by have := hc3.size; rw [H2.out.2.1] at this; exact this)
  clear hA3 hB3 hat hr3 hc3 CT
  cases S1 with
  | error e0 =>
    have h0 := HR3.out.bd e0 rfl
    have h0z : ((e0 : Int) != 0) = true := by simp; omega
    simp only [errS] at c1
    have HFE := Lib.hid (show F = .error e0 from HPS.out)
    have HP := Lib.hid (HF.out repZ none 0 w3 (by rw [HFE.out]; exact HR3.out) HC3.out (Or.inl rfl) (fun b off h => by cases h) (fun s hs => by rw [HFE.out] at hs; cases hs))
    have hq : w3.setRow w.heap.size Z = w3 := setRow_self _ _ _ _ _ HA3.out
    clear h0
    go_wp2_with (first | (with_reducible refine wpList_load_row rfl 27 (.tmp 5) rfl (w.heap.size + 1) rfl 27 Z (0, 0) _ HB3.out Try.underlying27 rfl HZI.out ?_) | (with_reducible refine wpList_store_row rfl 27 (.tmp 4) (.tmp 20) rfl w.heap.size Z rfl rfl 27 Z HA3.out HZI.out rfl HZO.out ?_))
    rw [hq]
    refine bodyPost_ret (v := .agg Z) (results_cell_row rfl _ _ w.heap.size 27 Z (0, 0) _ rfl HA3.out Try.underlying27 rfl HZI.out) rfl ?_
    rw [← HZ.out]
    exact HP.out
  | ok r =>
    simp only [errS] at c1
    obtain ⟨cap, w4, hcv, hcap, hrow, hb4⟩ := conv_bytes w3 t
    rw [strB_size] at hcv
    have CR := Lib.hid (C1.out t _ cap w4 hrow)
    have HR4 := Lib.hid (HR3.out.below hb4)
    have HC4 := Lib.hid (HC3.out.trans (Chg.of_below hb4))
    have HS4 := Lib.hid (Nat.le_trans HS3.out hb4.size)
    have HA4 := Lib.hid (show w4.heap[w.heap.size]? = some (.cells Z 27 (0, 0)) by rw [hb4.block _ (by have := HS3.out; omega)]; exact HA3.out)
    have HB4 := Lib.hid (show w4.heap[w.heap.size + 1]? = some (.cells Z 27 (0, 0)) by rw [hb4.block _ (by have := HS3.out; omega)]; exact HB3.out)
    clear hrow hb4 hcap
    generalize strB t = ts at hcv ⊢
    obtain ⟨tn, htn⟩ : ∃ n, t.length = n := ⟨_, rfl⟩
    rw [htn] at hcv CR
    clear htn
    go_wp2_with fail
    refine CR.out.mono ?_
    rintro e w5 ⟨rr, q, d, rfl, hok, hb5, hrn⟩
    have HR5 := Lib.hid (HR4.out.below hb5)
    have HC5 := Lib.hid (HC4.out.trans (Chg.of_below hb5))
    have HS5 := Lib.hid (Nat.le_trans HS4.out hb5.size)
    have HA5 := Lib.hid (show w5.heap[w.heap.size]? = some (.cells Z 27 (0, 0)) by rw [hb5.block _ (by have := HS4.out; omega)]; exact HA4.out)
    have HB5 := Lib.hid (show w5.heap[w.heap.size + 1]? = some (.cells Z 27 (0, 0)) by rw [hb5.block _ (by have := HS4.out; omega)]; exact HB4.out)
    obtain ⟨V, hV⟩ : ∃ V : Array Value, #[.int .i64 rr.c, .int .i64 rr.s, .int .i64 rr.e, .bool rr.fd, .string (strB rr.v), .slice q rr.ls.length d, .string (strB rr.nx), .bool rr.mr] = V := ⟨_, rfl⟩
    have HV := Lib.hid hV
    have hVs : V.size = 8 := by rw [← hV]; rfl
    have HVI := Lib.hid (show (Try.prog.info? 27).map (·.size) = some V.size by rw [hVs]; exact infoReply8)
    have HVO := Lib.hid (show V.all (·.oneCell') = true by rw [← hV]; simp [Value.oneCell'])
    have HVS := Lib.hid hVs
    have hve : repV rr q d = .agg V := by rw [← hV]; rfl
    rw [hve]
    have HVE := Lib.hid hve
    obtain ⟨W6, hW6⟩ : ∃ W6, w5.alloc (.cells V 27) = W6 := ⟨_, rfl⟩
    have HST := Lib.hid (show (w5.alloc (.cells Z 27)).heap[w5.heap.size]? = some (.cells Z 27 (0, 0)) ∧ Z.size = V.size ∧ (w5.alloc (.cells Z 27)).setRow w5.heap.size V = W6 from ⟨new_block _ _ _, by rw [HZS.out, hVs], hW6 ▸ World.setRow_alloc_new _ _ _ _⟩)
    have hb6 : Below w5.heap.size w5 W6 := hW6 ▸ (Below.refl _ _).alloc (Nat.le_refl _) _
    have HR6 := Lib.hid (HR5.out.below hb6)
    have HC6 := Lib.hid (HC5.out.trans (Chg.of_below hb6))
    have HA6 := Lib.hid (show W6.heap[w.heap.size]? = some (.cells Z 27 (0, 0)) by rw [hb6.block _ (by have := HS5.out; omega)]; exact HA5.out)
    have HB6 := Lib.hid (show W6.heap[w.heap.size + 1]? = some (.cells Z 27 (0, 0)) by rw [hb6.block _ (by have := HS5.out; omega)]; exact HB5.out)
    have HV6 := Lib.hid (show W6.heap[w5.heap.size]? = some (.cells V 27 (0, 0)) from hW6 ▸ new_block _ _ _)
    have HS6 := Lib.hid (show w5.heap.size + 1 = W6.heap.size by rw [← hW6]; simp)
    have HB56 := Lib.hid hb6
    have HOK := Lib.hid hok
    have HRN := Lib.hid hrn
    clear hok hrn
    clear hb5 hb6 hW6 hV hVs hve hcv
    obtain ⟨E, hE⟩ : ∃ E, rdRepE t = E := ⟨_, rfl⟩
    have HEE := Lib.hid (show errX (rdPart 32768 replyC t) = E from by rw [← hE]; exact (errX_part replyC t).symm)
    rw [hE]
    clear hE
    go_upto_region 9 with (with_reducible refine wpList_store_row rfl 27 (.tmp 7) (.tmp 31) rfl w5.heap.size V rfl rfl 27 Z (HZ.out ▸ HST.out.1) HVI.out HST.out.2.1 HVO.out ?_)
    rw [HZ.out, HST.out.2.2]
    by_cases hE0 : E = 0
    · subst hE0
      have HP := Lib.hid (show ∃ x, rdPart 32768 replyC t = .ok x from by
        cases hp : rdPart 32768 replyC t with
        | ok x => exact ⟨x, rfl⟩
        | error e => exact absurd (by have := HEE.out; rw [hp] at this; exact this) (rdPart_ne noz_reply hp))
      have HFE := Lib.hid (show F = .ok r from by obtain ⟨x, hx⟩ := HP.out; have h := HPS.out; rw [hx] at h; exact h)
      have hA7 : (W6.setRow w.heap.size V).heap[w.heap.size]? = some (.cells V 27 (0, 0)) := setRow_heap _ _ _ _ _ _ HA6.out
      have HA7 := Lib.hid hA7
      have HQ := Lib.hid (HF.out rr q d (W6.setRow w.heap.size V) (by
          rw [HFE.out]
          exact ⟨HR6.out.bd, by rw [setRow_other (by have := HG.out; omega)]; exact HR6.out.at_⟩)
        ⟨HC6.out.os, HC6.out.tape, HC6.out.output, by rw [size_setRow]; exact HC6.out.size, fun k hk hg => by rw [setRow_other (by omega)]; exact HC6.out.block k hk hg⟩ (by
          obtain ⟨x, hx⟩ := HP.out
          have hl : ¬ 32768 < t.length := fun hh => by unfold rdPart at hx; rw [if_pos hh] at hx; cases hx
          unfold rdPart at hx; rw [if_neg hl] at hx
          refine ((HOK.out x (by omega) hx).2.below HB56.out).move (by rw [size_setRow]; exact Nat.le_refl _) fun b off hb _ => setRow_other ?_
          have := (HRN.out b off hb).1
          have := HS4.out
          omega)
        (HRN.out.move (by have := HS4.out; omega) fun b off hb hlt => by
          rw [setRow_other (by have := (HRN.out b off hb).1; have := HS4.out; omega)]
          exact HB56.out.block b hlt)
        (fun s hs => by
          have hx := HPV.out s hs
          have hl : ¬ 32768 < t.length := fun hh => by unfold rdPart at hx; rw [if_pos hh] at hx; cases hx
          unfold rdPart at hx; rw [if_neg hl] at hx
          exact (HOK.out _ (by omega) hx).1))
      clear hA7
      go_wp2_with (first | (with_reducible refine wpList_load_row rfl 27 (.tmp 7) rfl w5.heap.size rfl 27 V (0, 0) _ HV6.out Try.underlying27 rfl HVI.out ?_) | (with_reducible refine wpList_store_row rfl 27 (.tmp 4) (.tmp 39) rfl w.heap.size V rfl rfl 27 Z HA6.out HVI.out HST.out.2.1 HVO.out ?_))
      refine bodyPost_ret (v := .agg V) (results_cell_row rfl _ _ w.heap.size 27 V (0, 0) _ rfl HA7.out Try.underlying27 rfl HVI.out) rfl ?_
      rw [← HVE.out]
      exact HQ.out
    · have hEz : ((E : Int) != 0) = true := by simp; omega
      have CF := Lib.hid (fail_any W6 gp _ E hE0 HR6.out)
      have HFE := Lib.hid (show F = .error E from by
        cases hp : rdPart 32768 replyC t with
        | ok x => exact absurd (by have := HEE.out; rw [hp] at this; exact this.symm) hE0
        | error e =>
          have h1 := HEE.out
          rw [hp] at h1
          have h2 := HPS.out
          rw [hp, show e = E from h1] at h2
          exact h2)
      clear hE0
      go_wp2_with fail
      refine CF.out.mono ?_
      rintro e w7 ⟨rfl, hr7, hc7⟩
      have HA7 := Lib.hid (show w7.heap[w.heap.size]? = some (.cells Z 27 (0, 0)) by rw [hc7.block _ (by have := HS6.out; have := HS5.out; omega) (by have := HG.out; omega)]; exact HA6.out)
      have HB7 := Lib.hid (show w7.heap[w.heap.size + 1]? = some (.cells Z 27 (0, 0)) by rw [hc7.block _ (by have := HS6.out; have := HS5.out; omega) (by have := HG.out; omega)]; exact HB6.out)
      have hq : w7.setRow w.heap.size Z = w7 := setRow_self _ _ _ _ _ HA7.out
      have HP := Lib.hid (HF.out repZ none 0 w7 (by rw [HFE.out]; exact hr7) (HC6.out.trans hc7) (Or.inl rfl) (fun b off h => by cases h) (fun s hs => by rw [HFE.out] at hs; cases hs))
      clear hr7 hc7
      go_wp2_with (first | (with_reducible refine wpList_load_row rfl 27 (.tmp 5) rfl (w.heap.size + 1) rfl 27 Z (0, 0) _ HB7.out Try.underlying27 rfl HZI.out ?_) | (with_reducible refine wpList_store_row rfl 27 (.tmp 4) (.tmp 38) rfl w.heap.size Z rfl rfl 27 Z HA7.out HZI.out rfl HZO.out ?_))
      rw [hq]
      refine bodyPost_ret (v := .agg Z) (results_cell_row rfl _ _ w.heap.size 27 Z (0, 0) _ rfl HA7.out Try.underlying27 rfl HZI.out) rfl ?_
      rw [← HZ.out]
      exact HP.out
end Go.Proofs.Ytfadpiipigkocaa
