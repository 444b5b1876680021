/-
  Layer parcel: ReadPart at texts, with the law's 'back'; ReadItems at texts.
-/
import Derived.Test.YtkidahlhnhglfaaPcStrs
import Derived.Test.YtkidahlhnhglfaaPcRecs
import Derived.Test.YtkidahlhnhglfaaPcLstM
import Derived.Laws.EntriesVeiled
import Derived.WalkSpells
namespace Go.Proofs.Ytkidahlhnhglfaa
open Go.RowKit Go.Gz

theorem back_yes (l : List UInt8) (b c : Nat) (w : World) (hl : l.length ≤ 3) (hr : Row w .u8 (some ⟨b, 0, none⟩) (nums l)) : Calls Try.prog 11 #[.slice (some ⟨b, 0, none⟩) l.length c] w fun e w' => e = .returned (.tuple #[.string (strB l), .int .i64 0]) ∧ w = w' := by
  have hcv : (convert 25 9 (.slice (some ⟨b, 0, none⟩) l.length c)).run Try.prog w = .ok (.string (strB l)) w := run_string w l (some ⟨b, 0, none⟩) c hr
  have h3 : decide ((l.length : Int) > 3) = false := by simp; omega
  obtain ⟨s, hs⟩ : ∃ s, strB l = s := ⟨_, rfl⟩
  rw [hs] at hcv ⊢
  obtain ⟨n, hn⟩ : ∃ n, l.length = n := ⟨_, rfl⟩
  rw [hn] at hcv h3 ⊢
  clear hs hn hl hr
  go_enter Try.func11, Try.ntmps11
  go_wp2_with fail
  go_ret2
  exact ⟨rfl, rfl⟩
theorem back_no (l : List UInt8) (b c : Nat) (w : World) (hl : 3 < l.length) : Calls Try.prog 11 #[.slice (some ⟨b, 0, none⟩) l.length c] w fun e w' => e = .returned (.tuple #[.string ⟨#[]⟩, .int .i64 2]) ∧ w = w' := by
  have h3 : decide ((l.length : Int) > 3) = true := by simp; omega
  obtain ⟨n, hn⟩ : ∃ n, l.length = n := ⟨_, rfl⟩
  rw [hn] at h3 ⊢
  clear hn hl
  go_enter Try.func11, Try.ntmps11
  go_wp2_with fail
  go_ret2
  exact ⟨rfl, rfl⟩

/-- a text of three bytes at most. -/
def decT3 (b : List UInt8) : Except Nat (List UInt8 × List UInt8) := match textC.dec b with
  | .error e => .error e
  | .ok (t, r) => if 3 < t.length then .error 2 else .ok (t, r)
def t3C : Codec (List UInt8) where
  enc := textC.enc
  ok := fun x => textC.ok x ∧ x.length ≤ 3
  dec := decT3
  rt := fun a r h => by unfold decT3; rw [textC.rt a r h.1]; simp only; rw [if_neg (by have := h.2; omega)]
  cut := fun a k h hk => by unfold decT3; rw [textC.cut a k h.1 hk]
theorem t3_seq (st : St) : rdR t3C st = match rdR textC st with
    | .error e => .error e
    | .ok r => if 3 < (rdV textC [] st).length then .error 2 else .ok r := by
  cases st with
  | error e => rfl
  | ok b =>
    cases h : textC.dec b with
    | error e =>
      have h' : t3C.dec b = .error e := by show decT3 b = _; unfold decT3; rw [h]
      rw [rdR_no h', rdR_no h]
    | ok x =>
      obtain ⟨t, r⟩ := x
      rw [rdR_ok h, rdV_ok h]
      simp only
      by_cases h3 : 3 < t.length
      · have h' : t3C.dec b = .error 2 := by show decT3 b = _; unfold decT3; rw [h]; simp only; rw [if_pos h3]
        rw [rdR_no h', if_pos h3]
      · have h' : t3C.dec b = .ok (t, r) := by show decT3 b = _; unfold decT3; rw [h]; simp only; rw [if_neg h3]
        rw [rdR_ok h', if_neg h3]
theorem t3_val (st : St) {s : List UInt8} (hs : rdR t3C st = .ok s) : rdV t3C [] st = rdV textC [] st := by
  cases st with
  | error e => cases hs
  | ok b =>
    cases h : textC.dec b with
    | error e =>
      have h' : t3C.dec b = .error e := by show decT3 b = _; unfold decT3; rw [h]
      rw [rdR_no h'] at hs; cases hs
    | ok x =>
      obtain ⟨t, r⟩ := x
      rw [rdV_ok h]
      by_cases h3 : 3 < t.length
      · have h' : t3C.dec b = .error 2 := by show decT3 b = _; unfold decT3; rw [h]; simp only; rw [if_pos h3]
        rw [rdR_no h'] at hs; cases hs
      · have h' : t3C.dec b = .ok (t, r) := by show decT3 b = _; unfold decT3; rw [h]; simp only; rw [if_neg h3]
        rw [rdV_ok h']
theorem t3_short {b r : List UInt8} (h : rdR t3C (.ok b) = .ok r) : r.length + 1 ≤ b.length := by
  cases hd : textC.dec b with
  | error e =>
    have h' : t3C.dec b = .error e := by show decT3 b = _; unfold decT3; rw [hd]
    rw [rdR_no h'] at h; cases h
  | ok x =>
    obtain ⟨t, s⟩ := x
    have := decT_len hd
    by_cases h3 : 3 < t.length
    · have h' : t3C.dec b = .error 2 := by show decT3 b = _; unfold decT3; rw [hd]; simp only; rw [if_pos h3]
      rw [rdR_no h'] at h; cases h
    · have h' : t3C.dec b = .ok (t, s) := by show decT3 b = _; unfold decT3; rw [hd]; simp only; rw [if_neg h3]
      rw [rdR_ok h'] at h
      injection h with h
      subst h; omega
/-- what the list of such texts comes to is what it was told to be. -/
theorem t3_scan : ∀ (n : Nat) (st : St), endE (iterR t3C n st) = scanL n st ∧ (∀ r, iterR t3C n st = .ok r → valsR t3C [] n st = valsR textC [] n st)
  | 0, st => ⟨rfl, fun _ _ => rfl⟩
  | n + 1, st => by
    have h := t3_seq st
    cases hr : rdR textC st with
    | error e =>
      rw [hr] at h
      have hi : iterR t3C (n + 1) st = .error e := by show iterR t3C n (rdR t3C st) = _; rw [h]; exact iterR_err _ _ _
      rw [hi]
      exact ⟨by simp only [scanL, hr]; rfl, fun r h => by cases h⟩
    | ok r =>
      rw [hr] at h
      simp only at h
      by_cases h3 : 3 < (rdV textC [] st).length
      · rw [if_pos h3] at h
        have hi : iterR t3C (n + 1) st = .error 2 := by show iterR t3C n (rdR t3C st) = _; rw [h]; exact iterR_err _ _ _
        rw [hi]
        exact ⟨by simp only [scanL, hr]; rw [if_pos h3]; rfl, fun r h => by cases h⟩
      · rw [if_neg h3] at h
        have hi : iterR t3C (n + 1) st = iterR t3C n (.ok r) := by show iterR t3C n (rdR t3C st) = _; rw [h]
        rw [hi]
        obtain ⟨h1, h2⟩ := t3_scan n (.ok r)
        refine ⟨by simp only [scanL, hr]; rw [if_neg h3]; exact h1, fun q hq => ?_⟩
        simp only [valsR]
        rw [t3_val st h, h, h2 q hq, hr]
theorem t3_list (b : List UInt8) : endE (rdR (Codec.list t3C) (.ok b)) = rdListE b ∧ (∀ r, rdR (Codec.list t3C) (.ok b) = .ok r → rdV (Codec.list t3C) [] (.ok b) = rdListV b) := by
  obtain ⟨h1, h2⟩ := list_seq t3C [] (.ok b)
  obtain ⟨h3, h4⟩ := t3_scan (rdV numC 0 (.ok b)) (rdR numC (.ok b))
  refine ⟨by rw [h1]; exact h3, fun r hr => ?_⟩
  rw [h2 r hr]
  exact h4 r (h1 ▸ hr)

/-- what ReadPart answers. -/
def RetPt1 (gp : Nat) (st : St) (w : World) (e : Ending) (w' : World) : Prop :=
  ∃ y : List UInt8, e = .returned (.string (strB y)) ∧ RdAt w' gp (rdR t3C st) ∧ Chg gp w w' ∧ (∀ r, rdR t3C st = .ok r → strB y = strB (rdV t3C [] st))
set_option maxHeartbeats 2000000 in
theorem readPartStr (w : World) (gp : Nat) (st : St) (h : RdAt w gp st) : Calls Try.prog 38 #[.pointer (some ⟨gp, 0, none⟩), .func (.func 11) #[] #[]] w (RetPt1 gp st w) := by
  have hfn : ∀ w : World, (binOp .eql 31 (.func (.func 11) #[] #[]) .nilFunc).run Try.prog w = .ok (.bool false) w := fun _ => by kernel_rfl
  have CT := Lib.hid (text_any w gp st h)
  have HPS := Lib.hid (t3_seq st)
  have HPV := Lib.hid (fun s hs => t3_val st (s := s) hs)
  obtain ⟨t, ht⟩ : ∃ t, rdV textC [] st = t := ⟨_, rfl⟩
  obtain ⟨S1, hS1⟩ : ∃ S, rdR textC st = S := ⟨_, rfl⟩
  rw [ht, hS1] at CT HPS
  rw [ht] at HPV
  have HF := Lib.hid (show ∀ (y : List UInt8) w', RdAt w' gp (rdR t3C st) → Chg gp w w' → (∀ s, rdR t3C st = .ok s → strB y = strB (rdV t3C [] st)) → RetPt1 gp st w (.returned (.string (strB y))) w' from fun y w' h1 h2 h3 => ⟨y, rfl, h1, h2, h3⟩)
  obtain ⟨F, hF⟩ : ∃ F, rdR t3C st = F := ⟨_, rfl⟩
  obtain ⟨X, hX⟩ : ∃ X, rdV t3C [] st = X := ⟨_, rfl⟩
  rw [hF] at HPS HPV HF
  rw [hX] at HPV HF
  have HE0 : strB [] = ⟨#[]⟩ := rfl
  clear h ht hS1 hF hX
  go_enter Try.func38, Try.ntmps38
  go_wp2_with fail
  refine CT.out.mono ?_
  rintro e w3 ⟨rfl, hr3, hc3⟩
  have hat := hr3.at_
  have c1 := cell_at hat 1
  have HR3 := Lib.hid hr3
  have HC3 := Lib.hid hc3
  clear hat hr3 hc3 CT
  cases S1 with
  | error e0 =>
    have h0 := HR3.out.bd e0 rfl
    have h0z : ((e0 : Int) != 0) = true := by simp; omega
    simp only [errS] at c1
    have HFE := Lib.hid (show F = .error e0 from HPS.out)
    have HP := Lib.hid (HF.out [] w3 (by rw [HFE.out]; exact HR3.out) HC3.out (fun s hs => by rw [HFE.out] at hs; cases hs))
    rw [HE0] at HP
    clear h0
    go_wp2_with fail
    go_ret
    exact HP.out
  | ok r =>
    simp only [errS] at c1
    obtain ⟨cap, w4, hcv, hcap, hrow, hb4⟩ := conv_bytes w3 t
    rw [strB_size] at hcv
    have HR4 := Lib.hid (HR3.out.below hb4)
    have HC4 := Lib.hid (HC3.out.trans (Chg.of_below hb4))
    by_cases h3 : 3 < t.length
    · have CB := Lib.hid (back_no t w3.heap.size cap w4 h3)
      have HFE := Lib.hid (show F = .error 2 from by have := HPS.out; simp only at this; rwa [if_pos h3] at this)
      have CF := Lib.hid (fail_any w4 gp _ 2 (by decide) HR4.out)
      obtain ⟨s, hs⟩ : ∃ s, strB t = s := ⟨_, rfl⟩
      rw [hs] at hcv ⊢
      obtain ⟨m, hm⟩ : ∃ m, t.length = m := ⟨_, rfl⟩
      rw [hm] at hcv CB
      clear hrow hb4 hs hm h3 hcap
      go_wp2_with fail
      refine CB.out.mono ?_
      rintro e w5 ⟨rfl, rfl⟩
      go_wp2_with fail
      refine CF.out.mono ?_
      rintro e w7 ⟨rfl, hr7, hc7⟩
      have HP := Lib.hid (HF.out [] w7 (by rw [HFE.out]; exact hr7) (HC4.out.trans hc7) (fun s hs => by rw [HFE.out] at hs; cases hs))
      rw [HE0] at HP
      clear hr7 hc7
      go_wp2_with fail
      go_ret
      exact HP.out
    · have CB := Lib.hid (back_yes t w3.heap.size cap w4 (by omega) hrow)
      have HFE := Lib.hid (show F = .ok r from by have := HPS.out; simp only at this; rwa [if_neg h3] at this)
      have HP := Lib.hid (HF.out t w4 (by rw [HFE.out]; exact HR4.out) HC4.out (fun s hs => by rw [HPV.out s hs]))
      obtain ⟨s, hs⟩ : ∃ s, strB t = s := ⟨_, rfl⟩
      rw [hs] at hcv CB HP ⊢
      obtain ⟨m, hm⟩ : ∃ m, t.length = m := ⟨_, rfl⟩
      rw [hm] at hcv CB
      clear hrow hb4 hs hm h3 hcap
      go_wp2_with fail
      refine CB.out.mono ?_
      rintro e w5 ⟨rfl, rfl⟩
      go_wp2_with fail
      go_ret
      exact HP.out

set_option maxHeartbeats 1000000 in
/-- ReadList's closure. -/
theorem partBack (w : World) (gp bx : Nat) (st : St) (h : RdAt w gp st) (hbx : w.cell? ⟨bx, 0, none⟩ = some (.func (.func 11) #[] #[])) : Calls Try.prog 37 #[.pointer (some ⟨gp, 0, none⟩), .pointer (some ⟨bx, 0, none⟩)] w (RetPt1 gp st w) := by
  have C1 := Lib.hid (readPartStr w gp st h)
  clear h
  go_enter Try.func37, Try.ntmps37
  go_wp2_with fail
  refine C1.out.mono ?_
  rintro e w2 ⟨y, rfl, h1, h2, h3⟩
  have H1 := Lib.hid (show RetPt1 gp st w (.returned (.string (strB y))) w2 from ⟨y, rfl, h1, h2, h3⟩)
  clear h1 h2 h3
  go_wp2_with fail
  go_ret
  exact H1.out

/-- what ReadItems answers at Str. -/
def RetItStr (w : World) (gp : Nat) (st : St) (e : Ending) (w' : World) : Prop :=
  ∃ v ys, e = .returned v ∧ OwnS w' w.heap.size v ys ∧ RdAt w' gp (rdR (Codec.list t3C) st) ∧ Chg gp w w' ∧ (∀ r, rdR (Codec.list t3C) st = .ok r → ys.map (fun y : ByteArray => y) = (rdV (Codec.list t3C) [] st).map strB) ∧ True
structure RiStr (w : World) (gp : Nat) (F : St) (L : List ByteArray) (N : Nat) (v : Value) (m : Nat) (wr : World) (s : St) (ys : List ByteArray) : Prop where
  own : OwnS wr w.heap.size v ys
  rd : RdAt wr gp s
  ch : Chg gp w wr
  pu : ItI t3C [] (fun y : ByteArray => y) strB F L N m s ys
  ins : True

set_option maxHeartbeats 4000000 in
theorem readItemsStr {g : FuncId} {lb : Array Value} (eg : ∀ args w, (callFunc g args).run Try.prog w = .ok (.enter g args) w) (w : World) (gp : Nat) (st : St) (h : RdAt w gp st) (hl : (restS st).length ≤ 99999999)
    (hC : ∀ b r, rdR t3C (.ok b) = .ok r → r.length + 1 ≤ b.length)
    (hone : ∀ w1 b, Chg gp w w1 → RdAt w1 gp (.ok b) → b.length ≤ (restS st).length → Calls Try.prog g (#[.pointer (some ⟨gp, 0, none⟩)] ++ lb) w1 (RetPt1 gp (.ok b) w1)) :
    Calls Try.prog 36 #[.pointer (some ⟨gp, 0, none⟩), .func (.func g) #[] lb] w (RetItStr w gp st) := by
  have hfn : ∀ w : World, (binOp .eql 80 (.func (.func g) #[] lb) .nilFunc).run Try.prog w = .ok (.bool false) w := fun _ => by kernel_rfl
  have hgl := h.lt
  have HF := Lib.hid (show ∀ v ys w', OwnS w' w.heap.size v ys → RdAt w' gp (rdR (Codec.list t3C) st) → Chg gp w w' → (∀ r, rdR (Codec.list t3C) st = .ok r → ys.map (fun y : ByteArray => y) = (rdV (Codec.list t3C) [] st).map strB) → True → RetItStr w gp st (.returned v) w' from fun v ys w' h1 h2 h3 h4 h5 => ⟨v, ys, rfl, h1, h2, h3, h4, h5⟩)
  have CN := Lib.hid (pcNumber_any w gp st h)
  obtain ⟨n, hn⟩ : ∃ n, rdV numC 0 st = n := ⟨_, rfl⟩
  obtain ⟨S, hS1⟩ : ∃ S, rdR numC st = S := ⟨_, rfl⟩
  obtain ⟨N, hN⟩ : ∃ N, (restS st).length = N := ⟨_, rfl⟩
  have hst := ItI.start (C := t3C) (d := []) (g := (fun y : ByteArray => y)) (h := strB) (N := N) hn hS1 (by rw [← hS1, ← hN]; exact rest_num st)
  have hnb : n ≤ 268435455 := hn ▸ rdV_num_le st
  have HERR := Lib.hid (show ∀ e0, S = .error e0 → rdR (Codec.list t3C) st = .error e0 from fun e0 he => by
    obtain ⟨h1, _⟩ := list_seq t3C [] st
    rw [h1, hS1, he]; exact iterR_err _ _ _)
  obtain ⟨F, hF⟩ : ∃ F, rdR (Codec.list t3C) st = F := ⟨_, rfl⟩
  obtain ⟨L, hL⟩ : ∃ L, (rdV (Codec.list t3C) [] st).map strB = L := ⟨_, rfl⟩
  rw [hF, hL] at HF hst
  rw [hF] at HERR
  rw [hn, hS1] at CN
  rw [hN] at hl
  have HST := Lib.hid hst
  have HONE := Lib.hid (hN ▸ hone)
  have HC := Lib.hid hC
  have HNL := Lib.hid hl
  have HG := Lib.hid hgl
  clear h hst hF hL hN hn hS1 hone hC hl hgl
  go_enter Try.func36, Try.ntmps36
  go_wp2_with fail
  refine CN.out.mono ?_
  rintro e w1 ⟨rfl, hr1, hc1⟩
  have hat1 := hr1.at_
  have c1 := cell_at hat1 1
  clear hat1
  have HR1 := Lib.hid hr1
  have HC1 := Lib.hid hc1
  clear hr1 hc1 CN
  cases S with
  | error e0 =>
    have h0 := HR1.out.bd e0 rfl
    have h0z : ((e0 : Int) != 0) = true := by simp; omega
    simp only [errS] at c1
    have HP := Lib.hid (HF.out (.slice none 0 0) [] w1 (OwnS.nil _ _) (by rw [HERR.out e0 rfl]; exact HR1.out) HC1.out (fun r hr => by rw [HERR.out e0 rfl] at hr; cases hr) trivial)
    clear h0
    go_wp2_with fail
    go_ret
    exact HP.out
  | ok b0 =>
    simp only [errS] at c1
    have HI := Lib.hid (show RiStr w gp F L N (.slice none 0 0) n w1 (.ok b0) [] from ⟨OwnS.nil _ _, HR1.out, HC1.out, HST.out, trivial⟩)
    clear HERR HST HR1 HC1
    go_wp2_with fail
    clear c1
    go_loopw [5, 6] (fun i v wr => ∃ (m : Nat) (s : St) (ys : List ByteArray), i = .int .i64 m ∧ m ≤ 268435455 ∧ Hid (RiStr w gp F L N v m wr s ys)) (fun i _ _ => (RowKit.intOf i).toNat)
    case atStart => exact ⟨n, .ok b0, [], rfl, hnb, HI⟩
    case round =>
      obtain ⟨m, s, ys, rfl, hmb, HR⟩ := hrel
      have hat := HR.out.rd.at_
      have c1 := cell_at hat 1
      clear hat
      cases s with
      | error e0 =>
        have h0 := HR.out.rd.bd e0 rfl
        have h0z : ((e0 : Int) == 0) = false := by simp; omega
        have h0y : ((e0 : Int) != 0) = true := by simp; omega
        simp only [errS] at c1
        have HP := Lib.hid (HF.out (.slice none 0 0) [] wr (OwnS.nil _ _) (by rw [HR.out.pu.err]; exact HR.out.rd) HR.out.ch (fun r hr => by rw [HR.out.pu.err] at hr; cases hr) trivial)
        clear h0
        by_cases hm : m = 0
        · subst hm
          go_wp2_with fail
          go_ret
          exact HP.out
        · have hmz : decide ((m : Int) > 0) = true := by simp; omega
          go_wp2_with fail
          go_ret
          exact HP.out
      | ok b =>
        simp only [errS] at c1
        by_cases hm : m = 0
        · subst hm
          have HP := Lib.hid (HF.out _ ys wr HR.out.own (HR.out.pu.done.1 ▸ HR.out.rd) HR.out.ch HR.out.pu.done.2 trivial)
          obtain ⟨q, d, rfl, -⟩ := HR.out.own.row
          go_wp2_with fail
          go_ret
          exact HP.out
        · have hmz : decide ((m : Int) > 0) = true := by simp; omega
          obtain ⟨m', rfl⟩ : ∃ m', m = m' + 1 := ⟨m - 1, by omega⟩
          have C1 := Lib.hid (HONE.out wr b HR.out.ch HR.out.rd (by have := HR.out.pu.lt ⟨b, rfl⟩; have e : (restS (.ok b)).length = b.length := rfl; omega))
          obtain ⟨q, d, rfl, -⟩ := HR.out.own.row
          have hls : ys.length ≤ 99999999 := by have := HR.out.pu.lt ⟨b, rfl⟩; have := HNL.out; omega
          have hls1 : ys.length + 1 ≤ 100000001 := by omega
          have HLS := Lib.hid hls
          clear hls1 hm
          obtain ⟨k, hk⟩ : ∃ k, ys.length = k := ⟨_, rfl⟩
          have HOW := Lib.hid (hk ▸ HR.out.own)
          rw [hk]
          have HK := Lib.hid hk
          clear hk hls
          go_wp2_with fail
          refine C1.out.mono ?_
          rintro e w3 ⟨t0, rfl, hr3, hc3, hv3⟩
          obtain ⟨t1, ht1⟩ : ∃ s, strB t0 = s := ⟨_, rfl⟩
          rw [ht1] at hv3 ⊢
          clear ht1
          have HC3 := Lib.hid (HR.out.ch.trans hc3)
          have HR3 := Lib.hid hr3
          have HO3 := Lib.hid (OwnS.chg HOW.out hc3 HG.out)
          have HV3 := Lib.hid hv3
          have HZ := Lib.hid (show w.heap.size ≤ w3.heap.size from HC3.out.size)
          have HAL := Lib.hid (show Below w3.heap.size w3 (w3.alloc (.cells #[.string t1] 9)) from (Below.refl _ _).alloc (Nat.le_refl _) _)
          have hsz4 : w.heap.size ≤ (w3.alloc (.cells #[.string t1] 9)).heap.size := by simp; have := HZ.out; omega
          have hls4 : ys.length + [t1].length ≤ 1000000000000 := by have := HLS.out; simp only [List.length_singleton]; omega
          have ho4 := HO3.out.alloc (.cells #[.string t1] 9)
          have x0 := cell_at (new_block w3 #[.string t1] 9) 0
          clear hr3 hc3 hv3
          go_wp2_with (at_builtin; refine wpList_app_str rfl _ _ rfl w.heap.size (.slice q k d) ys rfl ho4 ⟨w3.heap.size, 0, none⟩ 1 [t1] rfl (strs_one x0) hls4 hsz4 ?_)
          intro v4 w4 hown4 hgrow
          clear ho4 x0
          have HI4 := Lib.hid (show RiStr w gp F L N v4 m' w4 (rdR t3C (.ok b)) (ys ++ [t1]) from by
            have hne : some gp ≠ (Value.slice q k d).ownBlock := fun e => by
              have := HO3.out.lt gp e.symm
              have := HG.out
              omega
            exact ⟨hown4, (HR3.out.below HAL.out).grown hgrow hne, Chg.grown hgrow (HC3.out.trans (Chg.of_below HAL.out)) (fun b hb => HO3.out.lt b hb), HR.out.pu.step (HC.out b) HV3.out, trivial⟩)
          clear hown4 hgrow
          go_wp2_with fail
          go_roundw
          case rel => exact ⟨m', _, _, by go_num, by omega, HI4⟩
          case measure => simp [RowKit.intOf]
end Go.Proofs.Ytkidahlhnhglfaa
